import PyProof.Rows.All
import Wide.All
import OpenK.AllK
import Wide.FinOn
import HandS.Words
import HandS.Head0
import HandS.Head1
import HandS.Head2
import HandS.HeadHook1
import HandS.HeadHook2
import HandS.HeadHook3
import KE.KExcLine
import PySem.Challenge.RW_pictureframes_k09_whole_equal_frames
import HandS.ForMost
import HandS.Exc
import HandS.TryOnly
import HandS.ExcOwn
import HandS.WordsExc
import HandS.Property
import HandS.TupMul
import HandS.TupAny
import HandS.Style
import HandS.Wide
import HandS.IsInst
import HandS.FStr
import HandS.ExcInit
import HandS.ExcIs
import HandS.OwnEq
import PyProof.NeKinds
import KE.KExcInit
import PyProof.ExcBaseAll.RuntimeError
import PyProof.ExcBaseAll.IndexError
import PyProof.ExcBaseAll.LookupError
import PyProof.ExcBaseAll.OverflowError
import PyProof.ExcBaseAll.ValueError
import HandS.Defaults
import HandS.More
import HandS.Strs
import KE.GoesEnum
import KE.KRevSl
import PyProof.EnumMake
import HandS.Zip0
import PyProof.CollectWalk
import PyProof.TupleCall
import PyProof.TupleOfSeq
import KE.KStar
import HandS.Star
import HandS.ExcValue
import HandS.DictComp
import HandS.ClsMeth
import HandS.CallLocal
import PyProof.EnumIter
import HandS.SortRule
import PyProof.EqKinds
import PyProof.FactsAll.dict
import PyProof.FactsAll.subtypes
import PyProof.WalksMore
import PyProof.Rows.SumAny
import PyProof.FString2
import HandS.TupLe
import PyProof.InstNe
import HandS.RevRange
import HandS.WideBits
import PyProof.Rows.CallKw2

set_option Elab.async false
set_option linter.all false
set_option maxRecDepth 100000
set_option maxHeartbeats 4000000
namespace FL
open PySem PySem.Spec PyProof.Rows L2
/-! The head of a law by one run of the kernel: what the later texts need of the classes, functions and constants is looked at off the tree, nothing is written out. This part goes first: the run wants much memory. -/
abbrev HK : Type := PySem.W.Frag
def seenAt (m a : Nat) : Bool := Nat.beq ((m >>> a) % 2) 1
def refsW (o : Obj) : List Addr := match o.data with
  | .seq xs _ => xs.toList.flatMap He.refV
  | .dict es _ => es.toList.flatMap fun x => He.refV x.val
  | .func q => He.refV q.code ++ He.refV q.defaults
  | .cls q => q.ns :: q.mro.flatMap He.refV
  | .fields xs => xs.toList.flatMap He.refV
  | _ => []
def gather (g : Addr → Option Obj) : Nat → List Addr → Nat → HK → HK
  | 0, _, _, K => K
  | _ + 1, [], _, K => K
  | n + 1, a :: r, m, K => match seenAt m a with
    | true => gather g n r m K
    | false => HandSHeadRun.frNat (m ||| (1 <<< a)) fun m1 => match g a with
      | none => gather g n r m1 K
      | some o => gather g n (refsW o ++ r) m1 ((a, o) :: K)
theorem gather_in {g : Addr → Option Obj} : ∀ (n : Nat) (as : List Addr) (m : Nat) (K : HK), (∀ x ∈ K, g x.1 = some x.2) → ∀ x ∈ gather g n as m K, g x.1 = some x.2
  | 0, _, _, K, h => h
  | _ + 1, [], _, K, h => h
  | n + 1, b :: r, m, K, h => by
    intro x e
    unfold gather at e
    cases q : seenAt m b with
    | true =>
      rw [q] at e
      exact gather_in n r m K h x e
    | false =>
      rw [q] at e
      simp only [HandSHeadRun.frNat_eq] at e
      cases u : g b with
      | none =>
        rw [u] at e
        exact gather_in n r _ K h x e
      | some ob =>
        rw [u] at e
        refine gather_in n _ _ _ (fun y hy => ?_) x e
        rcases List.mem_cons.mp hy with rfl | hy
        · exact u
        · exact h y hy
theorem look_mem {a : Addr} {o : Obj} : ∀ {K : HK}, K.lookup a = some o → (a, o) ∈ K
  | [], h => nomatch h
  | (b, p) :: K, h => by
    rw [List.lookup_cons] at h
    split at h
    · rename_i z
      cases h
      rw [eq_of_beq z]
      exact List.mem_cons_self
    · exact List.mem_cons_of_mem _ (look_mem h)
def reach (g : Addr → Option Obj) : HK := (gather g 60000 [mainGlobals, cStatics] 0 []).reverse
theorem reach_in {h : Heap} : (reach h.get?).In h := fun a o e => gather_in 60000 _ 0 [] (fun _ z => nomatch z) (a, o) (List.mem_reverse.mp (look_mem e))

structure Df where
  at_ : HK → Addr
  name : Str
  qual : Str
  st : Stmt
  dv : List V
abbrev Sight : Type := Option (Str × Str × Arguments × FuncBody × Scope × (Addr × Addr) × List (Str × Addr))
def sight (K : HK) (a : Addr) : Sight := match K.lookup a with
  | some ⟨_, _, .func q, _⟩ => some (q.name, q.qualname, q.params, q.body, q.scope, (q.globals, q.builtins), q.closure)
  | _ => none
def Df.val (d : Df) : Sight := some (d.name, d.qual, defArgs d.st, .stmts (defBody d.st), defScope d.st, (mainGlobals, builtinsNs), [])
def codeB (K : HK) (d : Df) : Bool := match K.lookup (d.at_ K) with
  | some ⟨_, _, .func q, _⟩ => PySem.W.codeIn K q.code d.qual && He.dflB K q.defaults d.dv
  | _ => false
def Df.good (K : HK) (d : Df) : Bool := codeB K d && (PySem.W.keepIn K (.ref (d.at_ K)) && decide (PySem.W.typeIn K (.ref (d.at_ K)) = some (.type "function")))
def noneOf (K : HK) (c : Addr) : Bool := ["NoneType", "bool", "int", "str", "list", "tuple", "dict"].all fun n => decide (PySem.W.subIn K (.type n) (.ref c) = some false)
def ownB (K : HK) (x : Str) : Bool :=
  (decide (PySem.W.nsIn K mainGlobals x = some (some (.ref (He.ga K x)))) && PySem.W.plainGet K (He.ga K x) Str.empty && PySem.W.hasDictIn K (He.ga K x) && PySem.W.plainOver K (He.ga K x)) &&
  (decide (PySem.W.findIn K (.ref (He.ga K x)) "__setattr__" = some (some (.builtin "object.__setattr__"))) && PySem.W.makesIn K (He.ga K x) && PySem.W.keepIn K (.ref (He.ga K x))) &&
  (decide (PySem.W.findIn K (.ref (He.ga K x)) "__class__" = some (some (.builtin "object.__class__"))) && decide (PySem.W.specialIn K (.builtin "object.__class__") "__get__" = some (some (.builtin "getset_descriptor.__get__"))) && decide (PySem.W.takesIn K (.builtin "object.__class__") = some true)) &&
  (decide (PySem.W.mroIn K (He.ga K x) (.type "object") = some true) && PySem.W.isClsIn K (He.ga K x) && decide (PySem.W.typeIn K (.ref (He.ga K x)) = some (.type "type")) && noneOf K (He.ga K x))
def excB (K : HK) (x f : Str) (tl : List Value) (nw : String) : Bool :=
  (decide (PySem.W.nsIn K mainGlobals x = some (some (.ref (He.ga K x)))) && PySem.W.excInitIn K (He.ga K x) tl nw && PySem.W.excOver K (He.ga K x) tl) &&
  (decide (PySem.W.findIn K (.ref (He.ga K x)) "__setattr__" = some (some (.builtin "object.__setattr__"))) && decide (PySem.W.findIn K (.ref (He.ga K x)) "__getattribute__" = some (some (.builtin "BaseException.__getattribute__"))) && decide (PySem.W.findIn K (.ref (He.ga K x)) "__getattr__" = some none)) &&
  (decide (PySem.W.findIn K (.ref (He.ga K x)) f = some none) && PySem.W.keepIn K (.ref (He.ga K x)) && decide (PySem.W.subIn K (.ref (He.ga K x)) (.type "BaseException") = some true)) &&
  (decide (PySem.W.typeIn K (.ref (He.ga K x)) = some (.type "type")) && PySem.W.hasDictIn K (He.ga K x) && PySem.W.isClsIn K (He.ga K x))
def subB (K : HK) (x y : Str) (b : Bool) : Bool := decide (PySem.W.subIn K (.ref (He.ga K x)) (.ref (He.ga K y)) = some b)
def lackB (K : HK) (x f : Str) : Bool := decide (PySem.W.findIn K (.ref (He.ga K x)) f = some none)
/-- a method, or special method: by its name in the class -/
def mthB (K : HK) (x m : Str) : Bool := decide (PySem.W.findIn K (.ref (He.ga K x)) m = some (some (.ref (He.ma K (He.ga K x) m))))
def gloB (K : HK) (x : Str) : Bool := decide (PySem.W.nsIn K mainGlobals x = some (some (.ref (He.ga K x))))
def freB (K : HK) (x : Str) : Bool := decide (PySem.W.nsIn K mainGlobals x = some none)
def intB (K : HK) (x : Str) (i : Int) : Bool := match PySem.W.nsIn K mainGlobals x with
  | some (some v) => He.relB (.int i) v
  | _ => false
def tupB (K : HK) (x : Str) (vs : List V) : Bool := gloB K x && match K.lookup (He.ga K x) with
  | some ⟨.type c, none, .seq its _, _⟩ => decide (c = "tuple") && (decide (its.size ≤ sizeLine) && He.relAll vs its.toList)
  | _ => false
abbrev Eye : Type := Bool × List Sight × List (Option (List (Option (Str × Int))))
def look (fs : List (HK → Bool)) (ds : List Df) (ts : List (Str × List Str)) (K : HK) : Eye := (fs.all (fun f => f K) && ds.all fun d => d.good K, ds.map fun d => sight K (d.at_ K), ts.map fun t => He.dicW K (He.ga K t.1))
def want (ds : List Df) (ts : List (Str × List Str)) (w : World) : Eye := (true, ds.map Df.val, ts.map fun t => some (He.keysIn w.params t.2))
def eyeG (fs : List (HK → Bool)) (ds : List Df) (ts : List (Str × List Str)) (g : Addr → Option Obj) : Eye := look fs ds ts (reach g)
def Told (fs : List (HK → Bool)) (ds : List Df) (ts : List (Str × List Str)) (w : World) (K : HK) : Prop := look fs ds ts K = want ds ts w
def hookW (fs : List (HK → Bool)) (ds : List Df) (ts : List (Str × List Str)) : PySem.W.Hook where
  α := Eye
  obs := fun s => eyeG fs ds ts s.heap.get?
  val := want ds ts
  says := fun w h => ∃ K : HK, K.In h ∧ Told fs ds ts w K
  of := fun _ _ e => ⟨_, reach_in, e⟩
  keeps := fun _ _ _ ⟨K, i, c⟩ k => ⟨K, PySem.W.Frag.In.keeps i k, c⟩
theorem eyeG_eq {fs : List (HK → Bool)} {ds : List Df} {ts : List (Str × List Str)} (s : PySem.W.SharedT) : eyeG fs ds ts (HandSHeadRun.getT s) = (hookW fs ds ts).obs s.abs := by
  have e : HandSHeadRun.getT s = s.abs.heap.get? := funext (HandSHeadRun.getT_eq s)
  rw [e] <;> rfl
end FL

set_option Elab.async false
set_option linter.all false
set_option maxRecDepth 100000
set_option maxHeartbeats 0
namespace K09
open PySem PySem.Spec PyProof.Rows L2 FL
def top (i : Nat) : Stmt := PySem.Challenge.pw_pictureframes_k09_whole_equal_frames.main.body.getD i (.Pass ⟨0, 0, 0, 0⟩)
abbrev s_InvalidFrame_init_ : Stmt := inClass (top 6) 0
abbrev s_is_whole : Stmt := top 11
abbrev s_is_count : Stmt := top 12
abbrev s_is_colour : Stmt := top 13
abbrev s_is_side : Stmt := top 14
abbrev s_is_line : Stmt := top 29
abbrev s_check_lines : Stmt := top 30
abbrev s_number_of_last_unlike : Stmt := top 32
abbrev s_waiting_lines : Stmt := top 33
abbrev s_next_lines : Stmt := top 34
abbrev s_least_order : Stmt := top 35
abbrev s_Frame_init_ : Stmt := inClass (top 39) 0
abbrev s_Frame_order : Stmt := inClass (top 39) 5
abbrev s_Frame_eq_ : Stmt := inClass (top 39) 13
abbrev s_Frame_len_ : Stmt := inClass (top 39) 14
abbrev s_Frame_repr_ : Stmt := inClass (top 39) 15
abbrev s_l_pool : Stmt := top 41
abbrev s_l_draw : Stmt := top 42
abbrev s_l_numbered : Stmt := top 43
abbrev s_l_random_lines : Stmt := top 44
abbrev s_l_after : Stmt := top 45
abbrev s_l_run : Stmt := top 46
abbrev s_l_shown : Stmt := top 47
abbrev s_l_changed : Stmt := top 48
abbrev s_law : Stmt := top 49
def fs0 : List (HK → Bool) := [fun K => gloB K "law", fun K => ownB K "Picture", fun K => excB K "InvalidFrame" "index" [.type "ValueError", .type "Exception", .type "BaseException", .type "object"] "ValueError.__new__", fun K => ownB K "Frame", fun K => tupB K "SIDES" [.str "top", .str "right", .str "bottom", .str "left"], fun K => freB K "Symmetry", fun K => freB K "Effect", fun K => subB K "Picture" "Frame" false, fun K => subB K "Frame" "Frame" true, fun K => gloB K "is_whole", fun K => gloB K "is_count", fun K => gloB K "is_colour", fun K => gloB K "is_side", fun K => gloB K "_is_line", fun K => gloB K "_check_lines", fun K => gloB K "_number_of_last_unlike", fun K => gloB K "_waiting_lines", fun K => gloB K "_next_lines", fun K => gloB K "_least_order", fun K => gloB K "_law_pool", fun K => gloB K "_law_draw", fun K => gloB K "_law_numbered", fun K => gloB K "_law_random_lines", fun K => gloB K "_law_after", fun K => gloB K "_law_run", fun K => gloB K "_law_shown", fun K => gloB K "_law_changed", fun K => gloB K "SIDES", fun K => intB K "MOST_LINES" (200), fun K => mthB K "InvalidFrame" "__init__"]
def fs1 : List (HK → Bool) := [fun K => mthB K "Frame" "__init__", fun K => lackB K "Frame" "_lines", fun K => mthB K "Frame" "order", fun K => mthB K "Frame" "__eq__", fun K => mthB K "Frame" "__len__", fun K => mthB K "Frame" "__repr__", fun K => freB K "abs", fun K => freB K "all", fun K => freB K "bool", fun K => freB K "enumerate", fun K => freB K "int", fun K => freB K "isinstance", fun K => freB K "len", fun K => freB K "list", fun K => freB K "max", fun K => freB K "min", fun K => freB K "range", fun K => freB K "repr", fun K => freB K "str", fun K => freB K "sum", fun K => freB K "tuple", fun K => freB K "zip"]
def fs : List (HK → Bool) := fs0 ++ fs1
def dfs0 : List Df := [⟨fun K => He.ma K (He.ga K "InvalidFrame") "__init__", "__init__", "InvalidFrame.__init__", s_InvalidFrame_init_, []⟩, ⟨fun K => He.ga K "is_whole", "is_whole", "is_whole", s_is_whole, []⟩, ⟨fun K => He.ga K "is_count", "is_count", "is_count", s_is_count, []⟩, ⟨fun K => He.ga K "is_colour", "is_colour", "is_colour", s_is_colour, []⟩, ⟨fun K => He.ga K "is_side", "is_side", "is_side", s_is_side, []⟩, ⟨fun K => He.ga K "_is_line", "_is_line", "_is_line", s_is_line, []⟩, ⟨fun K => He.ga K "_check_lines", "_check_lines", "_check_lines", s_check_lines, []⟩, ⟨fun K => He.ga K "_number_of_last_unlike", "_number_of_last_unlike", "_number_of_last_unlike", s_number_of_last_unlike, []⟩, ⟨fun K => He.ga K "_waiting_lines", "_waiting_lines", "_waiting_lines", s_waiting_lines, []⟩, ⟨fun K => He.ga K "_next_lines", "_next_lines", "_next_lines", s_next_lines, []⟩, ⟨fun K => He.ga K "_least_order", "_least_order", "_least_order", s_least_order, []⟩, ⟨fun K => He.ma K (He.ga K "Frame") "__init__", "__init__", "Frame.__init__", s_Frame_init_, []⟩, ⟨fun K => He.ma K (He.ga K "Frame") "order", "order", "Frame.order", s_Frame_order, []⟩, ⟨fun K => He.ma K (He.ga K "Frame") "__eq__", "__eq__", "Frame.__eq__", s_Frame_eq_, []⟩, ⟨fun K => He.ma K (He.ga K "Frame") "__len__", "__len__", "Frame.__len__", s_Frame_len_, []⟩, ⟨fun K => He.ma K (He.ga K "Frame") "__repr__", "__repr__", "Frame.__repr__", s_Frame_repr_, []⟩, ⟨fun K => He.ga K "_law_pool", "_law_pool", "_law_pool", s_l_pool, []⟩, ⟨fun K => He.ga K "_law_draw", "_law_draw", "_law_draw", s_l_draw, []⟩, ⟨fun K => He.ga K "_law_numbered", "_law_numbered", "_law_numbered", s_l_numbered, []⟩, ⟨fun K => He.ga K "_law_random_lines", "_law_random_lines", "_law_random_lines", s_l_random_lines, []⟩, ⟨fun K => He.ga K "_law_after", "_law_after", "_law_after", s_l_after, []⟩, ⟨fun K => He.ga K "_law_run", "_law_run", "_law_run", s_l_run, []⟩, ⟨fun K => He.ga K "_law_shown", "_law_shown", "_law_shown", s_l_shown, []⟩, ⟨fun K => He.ga K "_law_changed", "_law_changed", "_law_changed", s_l_changed, []⟩, ⟨fun K => He.ga K "law", "law", "law", s_law, []⟩]
def dfs : List Df := dfs0
def tabs : List (Str × List Str) := []
def names0 : List Str := ["_wall", "PictureError", "InvalidColour", "InvalidSide", "InvalidPicture", "InvalidFrame", "LastLine", "OutOfRange", "SIDES", "is_whole", "is_count", "is_colour", "is_side", "check_colour", "check_side", "is_last_line", "cut_rows", "added_rows", "check_picture", "_is_row", "_is_grid", "Picture", "MOST_LINES", "INWARD", "frame_of", "_is_line", "_check_lines", "_places", "_number_of_last_unlike", "_waiting_lines"]
def names1 : List Str := ["_next_lines", "_least_order", "_is_rectangle", "_outermost_line", "_lines_around", "Frame", "_law_pool", "_law_draw", "_law_numbered", "_law_random_lines", "_law_after", "_law_run", "_law_shown", "_law_changed"]
def names : List Str := names0 ++ names1
abbrev Rw : PySem.W.OpenRow := PySem.W.OpenLaw.row PySem.Challenge.rw_pictureframes_k09_whole_equal_frames
abbrev qv : Program := PySem.W.view Rw.prog [49]
open PySem PySem.W PySem.Calls PyProof.Rows in
theorem lawTop (h : PySem.Challenge.rw_pictureframes_k09_whole_equal_frames.row.wellSaid = true → PySem.Challenge.rw_pictureframes_k09_whole_equal_frames.row.Holds) : PySem.Challenge.rw_pictureframes_k09_whole_equal_frames.Holds := by
  w_on; o_law
  exact h (by assumption)
theorem run_false (w : World) : HandSHeadRun.RunEq Rw qv (hookW fs dfs tabs) (fun s => eyeG fs dfs tabs (HandSHeadRun.getT s)) 20000 names (w.withFollow "special-get-raises" false) := by
  intro os
  kernel_rfl
theorem run_true (w : World) : HandSHeadRun.RunEq Rw qv (hookW fs dfs tabs) (fun s => eyeG fs dfs tabs (HandSHeadRun.getT s)) 20000 names (w.withFollow "special-get-raises" true) := by
  intro os
  kernel_rfl
theorem run (w : World) : HandSHeadRun.RunEq Rw qv (hookW fs dfs tabs) (fun s => eyeG fs dfs tabs (HandSHeadRun.getT s)) 20000 names w := PySem.W.byRow2 "special-get-raises" (P := fun w => HandSHeadRun.RunEq Rw qv (hookW fs dfs tabs) (fun s => eyeG fs dfs tabs (HandSHeadRun.getT s)) 20000 names w) run_false run_true w
end K09

set_option Elab.async false
set_option linter.all false
set_option maxRecDepth 100000
set_option maxHeartbeats 1000000
/-! data trees over the abstract heap, and what code yields of them -/
namespace DL
open PySem PySem.Spec PyProof.Rows L2

abbrev Sig := L2.St
inductive D where
  | non | bl (b : Bool) | int (i : Int) | str (x : Str)
  | lst (xs : List D) | tup (xs : List D)
  | dic (ks : List Key) (xs : List D)
  | ins (C : Str) (ns : List Str) (xs : List D)
  /-- a list that is only read; an object of one's own (see OH) -/
  | frz (xs : List D) | loc (a : Addr)
  /-- a class or a def of the module, a built-in type -/
  | cls (C : Str) | ty (n : String)

/-- a list that nobody changes: a locked one, or one of the written part -/
def SqF (K : PySem.W.Frag) (G : Hp) (a : Addr) (xs : List V) : Prop :=
  (∃ o, G a = some (.frz o (.lst xs))) ∨
    ∃ (o : Obj) (its : Array Value) (n : Nat), K.lookup a = some o ∧ o.cls = .type "list" ∧ o.dict = none ∧ o.data = .seq its n ∧ its.size ≤ sizeLine ∧ Vals xs its.toList
theorem SqF.sql {K : PySem.W.Frag} {G : Hp} {a : Addr} {xs : List V} (h : SqF K G a xs) : SqL K G a xs := h.elim (fun q => .inl (.inr q)) .inr
section
variable (K : PySem.W.Frag) (mg : Str → Option Value)
mutual
/-- v stands for the tree d in G -/
inductive Rp (G : Hp) : V → D → Prop
  | non : Rp G .non .non
  | bl (b : Bool) : Rp G (.bl b) (.bl b)
  | int (i : Int) : Rp G (.int i) (.int i)
  | str (x : Str) : Rp G (.str x) (.str x)
  | lst {a : Addr} {vs : List V} {ds : List D} : G a = some (.lst vs) → RpL G vs ds → Rp G (.ref a) (.lst ds)
  | tup {a : Addr} {vs : List V} {ds : List D} : SqT K G a vs → RpL G vs ds → Rp G (.ref a) (.tup ds)
  | dic {a : Addr} {ks : List Key} {vs : List V} {ds : List D} : G a = some (.dK (ks.zip vs)) → ks.length = vs.length → RpL G vs ds → Rp G (.ref a) (.dic ks ds)
  | ins {a c dx : Addr} {C : Str} {ns : List Str} {vs : List V} {ds : List D} : mg C = some (.ref c) → G a = some (.ins c dx (ns.zip vs)) → ns.length = vs.length → RpL G vs ds → Rp G (.ref a) (.ins C ns ds)
  | frz {a : Addr} {vs : List V} {ds : List D} : SqF K G a vs → RpL G vs ds → Rp G (.ref a) (.frz ds)
  | loc (a : Addr) : Rp G (.ref a) (.loc a)
  | cls {C : Str} {c : Addr} : mg C = some (.ref c) → Rp G (.ref c) (.cls C)
  | ty (n : String) : Rp G (.ty n) (.ty n)
inductive RpL (G : Hp) : List V → List D → Prop
  | nil : RpL G [] []
  | cons {v : V} {vs : List V} {d : D} {ds : List D} : Rp G v d → RpL G vs ds → RpL G (v :: vs) (d :: ds)
end
end

section
variable {K : PySem.W.Frag} {mg : Str → Option Value} {G G' : Hp}
theorem sql_mono {a : Addr} {xs : List V} (e : Same G G') (h : SqL K G a xs) : SqL K G' a xs := Same.seq e h
theorem sqf_mono {a : Addr} {xs : List V} (e : Same G G') (h : SqF K G a xs) : SqF K G' a xs := h.elim (fun ⟨o, q⟩ => .inl ⟨o, e _ _ q⟩) .inr
theorem sqt_mono {a : Addr} {xs : List V} (e : Same G G') (h : SqT K G a xs) : SqT K G' a xs := by
  rcases h with (h | ⟨o, h⟩) | h
  · exact Or.inl (Or.inl (e _ _ h))
  · exact Or.inl (Or.inr ⟨o, e _ _ h⟩)
  · exact Or.inr h
mutual
theorem Rp.mono (e : Same G G') : ∀ {v : V} {d : D}, Rp K mg G v d → Rp K mg G' v d
  | _, _, .non => .non
  | _, _, .bl b => .bl b
  | _, _, .int i => .int i
  | _, _, .str x => .str x
  | _, _, .lst h r => .lst (e _ _ h) (RpL.mono e r)
  | _, _, .tup h r => .tup (sqt_mono e h) (RpL.mono e r)
  | _, _, .dic h l r => .dic (e _ _ h) l (RpL.mono e r)
  | _, _, .ins m h l r => .ins m (e _ _ h) l (RpL.mono e r)
  | _, _, .frz h r => .frz (sqf_mono e h) (RpL.mono e r)
  | _, _, .loc a => .loc a
  | _, _, .cls h => .cls h
  | _, _, .ty n => .ty n
theorem RpL.mono (e : Same G G') : ∀ {vs : List V} {ds : List D}, RpL K mg G vs ds → RpL K mg G' vs ds
  | _, _, .nil => .nil
  | _, _, .cons a b => .cons (Rp.mono e a) (RpL.mono e b)
end
theorem RpL.len : ∀ {vs : List V} {ds : List D}, RpL K mg G vs ds → vs.length = ds.length
  | _, _, .nil => rfl
  | _, _, .cons _ r => by rw [List.length_cons, List.length_cons, RpL.len r]
theorem RpL.at : ∀ {vs : List V} {ds : List D} {i : Nat} {d : D}, RpL K mg G vs ds → ds[i]? = some d → ∃ v, vs[i]? = some v ∧ Rp K mg G v d
  | _, _, _, _, .nil, h => by simp at h
  | _, _, 0, _, .cons a _, h => by
    simp at h
    subst h
    exact ⟨_, rfl, a⟩
  | _, _, i + 1, _, .cons _ r, h => by
    obtain ⟨v, e, q⟩ := RpL.at (i := i) r (by simpa using h)
    exact ⟨v, by simpa using e, q⟩
theorem RpL.atV : ∀ {vs : List V} {ds : List D} {i : Nat} {v : V}, RpL K mg G vs ds → vs[i]? = some v → ∃ d, ds[i]? = some d ∧ Rp K mg G v d
  | _, _, _, _, .nil, h => by simp at h
  | _, _, 0, _, .cons a _, h => by
    simp at h
    subst h
    exact ⟨_, rfl, a⟩
  | _, _, i + 1, _, .cons _ r, h => by
    obtain ⟨v, e, q⟩ := RpL.atV (i := i) r (by simpa using h)
    exact ⟨v, by simpa using e, q⟩
theorem RpL.app : ∀ {vs ws : List V} {ds es : List D}, RpL K mg G vs ds → RpL K mg G ws es → RpL K mg G (vs ++ ws) (ds ++ es)
  | _, _, _, _, .nil, s => s
  | _, _, _, _, .cons a r, s => .cons a (RpL.app r s)
theorem RpL.tk : ∀ {vs : List V} {ds : List D} (n : Nat), RpL K mg G vs ds → RpL K mg G (vs.take n) (ds.take n)
  | _, _, 0, _ => .nil
  | _, _, _ + 1, .nil => .nil
  | _, _, n + 1, .cons a r => .cons a (RpL.tk n r)
theorem RpL.dr : ∀ {vs : List V} {ds : List D} (n : Nat), RpL K mg G vs ds → RpL K mg G (vs.drop n) (ds.drop n)
  | _, _, 0, r => r
  | _, _, _ + 1, .nil => .nil
  | _, _, n + 1, .cons _ r => RpL.dr n r
theorem RpL.rev : ∀ {vs : List V} {ds : List D}, RpL K mg G vs ds → RpL K mg G vs.reverse ds.reverse
  | _, _, .nil => .nil
  | _, _, .cons a r => by
    rw [List.reverse_cons, List.reverse_cons]
    exact (RpL.rev r).app (.cons a .nil)
theorem RpL.flat (n : Nat) {vs : List V} {ds : List D} (r : RpL K mg G vs ds) : RpL K mg G (List.replicate n vs).flatten (List.replicate n ds).flatten := by
  induction n with
  | zero => exact .nil
  | succ n ih =>
    rw [List.replicate_succ, List.replicate_succ, List.flatten_cons, List.flatten_cons]
    exact r.app ih
end

/-- fresh objects are laid in both -/
inductive Ext : Hp → Hp → Hp → Hp → Prop
  | refl {G H : Hp} : Ext G H G H
  | step {G H G' H' : Hp} {a : Addr} {o : HO} : Ext G H G' H' → H' a = none → Ext G H (upd G' a o) (upd H' a o)
theorem Ext.trans {G H G1 H1 G2 H2 : Hp} (a : Ext G H G1 H1) (b : Ext G1 H1 G2 H2) : Ext G H G2 H2 := by
  induction b with
  | refl => exact a
  | step _ n ih => exact .step ih n
theorem Ext.one {G H : Hp} {a : Addr} {o : HO} (n : H a = none) : Ext G H (upd G a o) (upd H a o) := .step .refl n
theorem same_new {H : Hp} {a : Addr} {o : HO} (n : H a = none) : Same H (upd H a o) := fun b u e => by
  rw [upd_ne (ne_of_none e n)]
  exact e
theorem same_both {G H : Hp} {a : Addr} {o : HO} (s : Same G H) (n : H a = none) : Same (upd G a o) (upd H a o) := fun b u e => by
  by_cases hb : b = a
  · subst hb
    rw [upd_same] at e ⊢
    exact e
  · rw [upd_ne hb] at e ⊢
    exact s _ _ e
theorem Ext.out {G H G' H' : Hp} (x : Ext G H G' H') (s : Same G H) : Same G G' ∧ Same H H' ∧ Same G' H' := by
  induction x with
  | refl => exact ⟨Same.refl _, Same.refl _, s⟩
  | step x n ih =>
    obtain ⟨a, b, c⟩ := ih
    exact ⟨a.trans (same_new (c.free n)), b.trans (same_new n), same_both c n⟩

/-- what stands around the trees: it is kept where fresh objects are laid -/
class Frm {S : Type} (Φ : S → Hp → Hp → Prop) : Prop where
  same : ∀ {s G H}, Φ s G H → Same G H
  ext : ∀ {s G H a o}, Φ s G H → H a = none → Φ s (upd G a o) (upd H a o)
theorem Frm.exts {S : Type} {Φ : S → Hp → Hp → Prop} [Frm Φ] {s : S} {G H G' H' : Hp} (x : Ext G H G' H') (h : Φ s G H) : Φ s G' H' := by
  induction x with
  | refl => exact h
  | step _ n ih => exact Frm.ext ih n

abbrev Rho := List (Option D)
def RelE (K : PySem.W.Frag) (mg : Str → Option Value) (G : Hp) (σ : Sig) (ρ : Rho) : Prop :=
  σ.length = ρ.length ∧ ∀ (i : Nat) (d : D), ρ[i]? = some (some d) → ∃ v, σ[i]? = some (some v) ∧ Rp K mg G v d
section
variable {K : PySem.W.Frag} {mg : Str → Option Value} {G G' : Hp} {σ : Sig} {ρ : Rho}
theorem RelE.mono (h : RelE K mg G σ ρ) (e : Same G G') : RelE K mg G' σ ρ := ⟨h.1, fun i d q => by
  obtain ⟨v, a, b⟩ := h.2 i d q
  exact ⟨v, a, b.mono e⟩⟩
theorem RelE.set (h : RelE K mg G σ ρ) (i : Nat) {v : V} {d : D} (r : Rp K mg G v d) : RelE K mg G (σ.set i (some v)) (ρ.set i (some d)) := by
  refine ⟨by rw [List.length_set, List.length_set]; exact h.1, fun j e q => ?_⟩
  by_cases hj : i = j
  · subst hj
    have hl : i < ρ.length := by
      have q' := (List.getElem?_eq_some_iff.mp q).1
      rwa [List.length_set] at q'
    rw [List.getElem?_set_self hl] at q
    cases q
    exact ⟨v, List.getElem?_set_self (by rw [h.1]; exact hl), r⟩
  · rw [List.getElem?_set_ne hj] at q ⊢
    exact h.2 j e q
theorem RelE.drop (h : RelE K mg G σ ρ) (i : Nat) (u : Option V) : RelE K mg G (σ.set i u) (ρ.set i none) := by
  refine ⟨by rw [List.length_set, List.length_set]; exact h.1, fun j e q => ?_⟩
  by_cases hj : i = j
  · subst hj
    have hl : i < ρ.length := by
      have q' := (List.getElem?_eq_some_iff.mp q).1
      rwa [List.length_set] at q'
    rw [List.getElem?_set_self hl] at q
    cases q
  · rw [List.getElem?_set_ne hj] at q ⊢
    exact h.2 j e q
end

structure Exn where
  cls : Str
  fs : Option (List Str × List D)
def ExR (K : PySem.W.Frag) (mg : Str → Option Value) (G : Hp) (cls : Value) (d : Option Addr) (x : Exn) : Prop :=
  mg x.cls = some cls ∧ match x.fs with
    | none => d = none
    | some (ns, ds) => ∃ (a : Addr) (vs : List V), d = some a ∧ G a = some (.xd (ns.zip vs)) ∧ ns.length = vs.length ∧ RpL K mg G vs ds
theorem ExR.mono {K : PySem.W.Frag} {mg : Str → Option Value} {G G' : Hp} {cls : Value} {d : Option Addr} {x : Exn} (h : ExR K mg G cls d x) (e : Same G G') : ExR K mg G' cls d x := by
  obtain ⟨c, h⟩ := h
  refine ⟨c, ?_⟩
  cases q : x.fs with
  | none => rw [q] at h; exact h
  | some p =>
    rw [q] at h
    obtain ⟨a, vs, h1, h2, h3, h4⟩ := h
    exact ⟨a, vs, h1, e _ _ h2, h3, h4.mono e⟩

/-! ### readings over trees -/
abbrev ME (S : Type) := Rho → S → (D → S → Prop) → (Exn → S → Prop) → Prop
abbrev MT (S : Type) := Rho → S → (Bool → S → Prop) → (Exn → S → Prop) → Prop
abbrev MA (S : Type) := Rho → S → (List D → S → Prop) → (Exn → S → Prop) → Prop
structure MEnds (S : Type) where
  nx : Rho → S → Prop
  rt : D → S → Prop
  bk : Rho → S → Prop
  ct : Rho → S → Prop
  ex : Exn → Rho → S → Prop
abbrev MS (S : Type) := MEnds S → Rho → S → Prop
/-- what is wished of errors at the slots σ -/
def Wsh {S : Type} (K : PySem.W.Frag) (mg : Str → Option Value) (Φ : S → Hp → Hp → Prop) (W : WX) (G : Hp) (σ : Sig) (R : Exn → S → Prop) : Prop :=
  ∀ (x : Exn) (s : S) (G' H' : Hp) (cls : Value) (d : Option Addr), Same G G' → Φ s G' H' → ExR K mg G' cls d x → R x s → W cls d σ H'
theorem Wsh.mono {S : Type} {K : PySem.W.Frag} {mg : Str → Option Value} {Φ : S → Hp → Hp → Prop} {W : WX} {G G1 : Hp} {σ : Sig} {R : Exn → S → Prop} (h : Wsh K mg Φ W G σ R) (e : Same G G1) : Wsh K mg Φ W G1 σ R :=
  fun x s G' H' cls d q => h x s G' H' cls d (e.trans q)

section
variable {S : Type} (X : Cx) (Φ : S → Hp → Hp → Prop) (W : WX)
structure DE (e : Expr) (te : TE) (m : ME S) : Prop where
  pe : PE X e te
  sem : ∀ (σ : Sig) (ρ : Rho) (s : S) (G H : Hp) (Q : VK) (P : D → S → Prop) (R : Exn → S → Prop), RelE X.K X.mg G σ ρ → Φ s G H → Wsh X.K X.mg Φ W G σ R → m ρ s P R →
    (∀ (d : D) (s' : S) (v : V) (G' H' : Hp), P d s' → Same G G' → Φ s' G' H' → Rp X.K X.mg G' v d → Q v H') → te σ H Q
structure DT (e : Expr) (tt : TT) (m : MT S) : Prop where
  pt : PT X e tt
  sem : ∀ (σ : Sig) (ρ : Rho) (s : S) (G H : Hp) (Q : Bool → Hp → Prop) (P : Bool → S → Prop) (R : Exn → S → Prop), RelE X.K X.mg G σ ρ → Φ s G H → Wsh X.K X.mg Φ W G σ R → m ρ s P R →
    (∀ (b : Bool) (s' : S) (G' H' : Hp), P b s' → Same G G' → Φ s' G' H' → Q b H') → tt σ H Q
structure DW (e : Expr) (tt : TT) (m : MT S) : Prop where
  pw : PW X e tt
  sem : ∀ (σ : Sig) (ρ : Rho) (s : S) (G H : Hp) (Q : Bool → Hp → Prop) (P : Bool → S → Prop) (R : Exn → S → Prop), RelE X.K X.mg G σ ρ → Φ s G H → Wsh X.K X.mg Φ W G σ R → m ρ s P R →
    (∀ (b : Bool) (s' : S) (G' H' : Hp), P b s' → Same G G' → Φ s' G' H' → Q b H') → tt σ H Q
structure DA (es : List Expr) (ta : TA) (m : MA S) : Prop where
  pa : PA X es ta
  sem : ∀ (σ : Sig) (ρ : Rho) (s : S) (G H : Hp) (Q : List V → Hp → Prop) (P : List D → S → Prop) (R : Exn → S → Prop), RelE X.K X.mg G σ ρ → Φ s G H → Wsh X.K X.mg Φ W G σ R → m ρ s P R →
    (∀ (ds : List D) (s' : S) (vs : List V) (G' H' : Hp), P ds s' → Same G G' → Φ s' G' H' → RpL X.K X.mg G' vs ds → Q vs H') → ta σ H Q
/-- the ends of a statement, met -/
structure EndsOk (K : PySem.W.Frag) (mg : Str → Option Value) (G : Hp) (M : MEnds S) (D : Ends) : Prop where
  nx : ∀ (σ : Sig) (ρ : Rho) (s : S) (G' H' : Hp), M.nx ρ s → Same G G' → RelE K mg G' σ ρ → Φ s G' H' → D.nx σ H'
  rt : ∀ (d : DL.D) (s : S) (v : V) (G' H' : Hp), M.rt d s → Same G G' → Φ s G' H' → Rp K mg G' v d → D.rt v H'
  bk : ∀ (σ : Sig) (ρ : Rho) (s : S) (G' H' : Hp), M.bk ρ s → Same G G' → RelE K mg G' σ ρ → Φ s G' H' → D.bk σ H'
  ct : ∀ (σ : Sig) (ρ : Rho) (s : S) (G' H' : Hp), M.ct ρ s → Same G G' → RelE K mg G' σ ρ → Φ s G' H' → D.ct σ H'
  ex : ∀ (x : Exn) (σ : Sig) (ρ : Rho) (s : S) (G' H' : Hp) (cls : Value) (d : Option Addr), M.ex x ρ s → Same G G' → RelE K mg G' σ ρ → Φ s G' H' → ExR K mg G' cls d x → W cls d σ H'
structure DS (st : Stmt) (ts : TS) (m : MS S) : Prop where
  ps : PS X st ts
  sem : ∀ (σ : Sig) (ρ : Rho) (s : S) (G H : Hp) (D : Ends) (M : MEnds S), RelE X.K X.mg G σ ρ → Φ s G H → m M ρ s → EndsOk Φ W X.K X.mg G M D → ts D σ H
structure DSs (st : List Stmt) (ts : TS) (m : MS S) : Prop where
  pss : PSs X st ts
  sem : ∀ (σ : Sig) (ρ : Rho) (s : S) (G H : Hp) (D : Ends) (M : MEnds S), RelE X.K X.mg G σ ρ → Φ s G H → m M ρ s → EndsOk Φ W X.K X.mg G M D → ts D σ H
end
section
variable {S : Type} {Φ : S → Hp → Hp → Prop} {W : WX} {K : PySem.W.Frag} {mg : Str → Option Value} {G G1 : Hp} {M : MEnds S} {D : Ends}
theorem EndsOk.mono (h : EndsOk Φ W K mg G M D) (e : Same G G1) : EndsOk Φ W K mg G1 M D :=
  ⟨fun σ ρ s G' H' a b => h.nx σ ρ s G' H' a (e.trans b), fun d s v G' H' a b => h.rt d s v G' H' a (e.trans b), fun σ ρ s G' H' a b => h.bk σ ρ s G' H' a (e.trans b),
    fun σ ρ s G' H' a b => h.ct σ ρ s G' H' a (e.trans b), fun x σ ρ s G' H' c d a b => h.ex x σ ρ s G' H' c d a (e.trans b)⟩
/-- an expression's wish within a statement -/
theorem EndsOk.wsh {σ : Sig} {ρ : Rho} (h : EndsOk Φ W K mg G M D) (r : RelE K mg G σ ρ) : Wsh K mg Φ W G σ (fun x s => M.ex x ρ s) :=
  fun x s G' H' cls d e f q z => h.ex x σ ρ s G' H' cls d z e (r.mono e) f q
end
end DL

set_option Elab.async false
set_option linter.all false
set_option maxRecDepth 100000
set_option maxHeartbeats 1000000
namespace DL
open PySem PySem.Spec PyProof.Rows L2

section
variable {S : Type} {X : Cx} {Φ : S → Hp → Hp → Prop} {W : WX} [Frm Φ]

/-! names and constants -/
def mVar (i : Nat) : ME S := fun ρ s P _ => ∃ d, ρ[i]? = some (some d) ∧ P d s
def mC (d : D) : ME S := fun _ s P _ => P d s
theorem de_var (i : Nat) {x : Str} {pos : Pos} (hN : X.N[i]? = some x := by rfl) (hv : Vis X.env.scope x := by first | exact Or.inl rfl | exact Or.inr (Or.inl rfl) | exact Or.inr (Or.inr rfl)) (hd : (x == ("__debug__" : Str)) = false := by decide)
    (hcd : (x == ("__classdict__" : Str)) = false := by decide) : DE X Φ W (.Name x pos) (tVar i) (mVar i) :=
  ⟨pe_var hN hv hd hcd, fun σ ρ s G H Q P R hρ hΦ hW ⟨d, e, p⟩ k => by
    obtain ⟨v, hv, r⟩ := hρ.2 i d e
    exact ⟨v, hv, k d s v G H p (Same.refl _) hΦ r⟩⟩
theorem de_int {i j pos} : DE X Φ W (.Constant (.int i) j pos) (tC (.int i)) (mC (.int i)) := ⟨pe_int, fun _ _ s G H _ _ _ _ f _ p k => k _ s _ G H p (Same.refl _) f (.int i)⟩
theorem de_bl {b j pos} : DE X Φ W (.Constant (.bool b) j pos) (tC (.bl b)) (mC (.bl b)) := ⟨pe_bl, fun _ _ s G H _ _ _ _ f _ p k => k _ s _ G H p (Same.refl _) f (.bl b)⟩
theorem de_non {j pos} : DE X Φ W (.Constant .none j pos) (tC .non) (mC .non) := ⟨pe_non, fun _ _ s G H _ _ _ _ f _ p k => k _ s _ G H p (Same.refl _) f .non⟩
theorem de_str {x j pos} : DE X Φ W (.Constant (.str x) j pos) (tC (.str x)) (mC (.str x)) := ⟨pe_str, fun _ _ s G H _ _ _ _ f _ p k => k _ s _ G H p (Same.refl _) f (.str x)⟩
/-- a module's constant: a tree that stands in the written part -/
theorem de_glob {x : Str} {v : V} {u : Value} {d : D} {pos : Pos} (hg : Gl X x) (hm : X.mg x = some u) (r : RelV v u) (hc : ∀ G, Rp X.K X.mg G v d) (hd : (x == ("__debug__" : Str)) = false := by decide) : DE X Φ W (.Name x pos) (tC v) (mC d) :=
  ⟨pe_glob hg hm r hd, fun _ _ s G H _ _ _ _ f _ p k => k _ s _ G H p (Same.refl _) f (hc G)⟩

/-! operators by values -/
abbrev W2 := D → D → (D → Prop) → Prop
/-- r of the layer serves w over trees -/
structure Op2 (X : Cx) (f : Value → Value → Sem Value) (r : R2) (w : W2) : Prop where
  op : OpR X f r
  sem : ∀ (x y : V) (a b : D) (G H : Hp) (Q : VK) (P : D → Prop), Rp X.K X.mg G x a → Rp X.K X.mg G y b → Same G H → w a b P → (∀ (d : D) (v : V) (G' H' : Hp), P d → Ext G H G' H' → Rp X.K X.mg G' v d → Q v H') → r x y H Q
def mBin (w : W2) (ma mb : ME S) : ME S := fun ρ s P R => ma ρ s (fun a s1 => mb ρ s1 (fun b s2 => w a b fun d => P d s2) R) R
theorem bin_sem {te tb : TE} {r : R2} {f : Value → Value → Sem Value} {w : W2} {a b : Expr} {ma mb : ME S} (o : Op2 X f r w) (ha : DE X Φ W a te ma) (hb : DE X Φ W b tb mb) {σ : Sig} {ρ : Rho} {s : S} {G H : Hp} {Q : VK} {P : D → S → Prop} {R : Exn → S → Prop}
    (hρ : RelE X.K X.mg G σ ρ) (f0 : Φ s G H) (hW : Wsh X.K X.mg Φ W G σ R) (h : mBin w ma mb ρ s P R) (k : ∀ (d : D) (s' : S) (v : V) (G' H' : Hp), P d s' → Same G G' → Φ s' G' H' → Rp X.K X.mg G' v d → Q v H') : tOp r te tb σ H Q := by
  refine ha.sem σ ρ s G H _ _ R hρ f0 hW h fun x s1 u G1 H1 h1 e1 f1 r1 => ?_
  refine hb.sem σ ρ s1 G1 H1 _ _ R (hρ.mono e1) f1 (hW.mono e1) h1 fun y s2 v G2 H2 h2 e2 f2 r2 => ?_
  refine o.sem u v x y G2 H2 _ _ (r1.mono e2) r2 (Frm.same f2) h2 fun d z G3 H3 p x3 r3 => ?_
  exact k d s2 z G3 H3 p ((e1.trans e2).trans (x3.out (Frm.same f2)).1) (Frm.exts x3 f2) r3
theorem de_bin {op : Operator} {te tb : TE} {r : R2} {w : W2} {a b : Expr} {ma mb : ME S} {pos : Pos} (o : Op2 X (binaryOp op) r w) (ha : DE X Φ W a te ma) (hb : DE X Φ W b tb mb) : DE X Φ W (.BinOp a op b pos) (tOp r te tb) (mBin w ma mb) :=
  ⟨pe_op o.op ha.pe hb.pe, fun _ _ _ _ _ _ _ _ hρ f hW h k => bin_sem o ha hb hρ f hW h k⟩
theorem de_cmp {op : CmpOp} {te tb : TE} {r : R2} {w : W2} {a b : Expr} {ma mb : ME S} {pos : Pos} (o : Op2 X (compareOp op) r w) (ha : DE X Φ W a te ma) (hb : DE X Φ W b tb mb) (hm : behindInMarks op b = false := by first | exact nomark _ | rfl) : DE X Φ W (.Compare a [op] [b] pos) (tOp r te tb) (mBin w ma mb) :=
  ⟨pe_cmpR o.op ha.pe hb.pe hm, fun _ _ _ _ _ _ _ _ hρ f hW h k => bin_sem o ha hb hρ f hW h k⟩
/-- a value that is a bool, as a test -/
def mTest (m : ME S) : MT S := fun ρ s P R => m ρ s (fun d s' => ∃ b, d = .bl b ∧ P b s') R
theorem rp_bl {K : PySem.W.Frag} {mg : Str → Option Value} {G : Hp} {v : V} {b : Bool} (r : Rp K mg G v (.bl b)) : v = .bl b := by cases r; rfl
theorem rp_int {K : PySem.W.Frag} {mg : Str → Option Value} {G : Hp} {v : V} {b : Int} (r : Rp K mg G v (.int b)) : v = .int b := by cases r; rfl
theorem dt_cmp {op : CmpOp} {te tb : TE} {r : R2} {w : W2} {a b : Expr} {ma mb : ME S} {pos : Pos} (o : Op2 X (compareOp op) r w) (ha : DE X Φ W a te ma) (hb : DE X Φ W b tb mb) (hm : behindInMarks op b = false := by first | exact nomark _ | rfl) : DT X Φ W (.Compare a [op] [b] pos) (tTest (tOp r te tb)) (mTest (mBin w ma mb)) :=
  ⟨pt_cmpR o.op ha.pe hb.pe hm, fun _ _ _ _ _ _ _ _ hρ f hW h k => bin_sem o ha hb hρ f hW h fun d s' v G' H' ⟨c, e, p⟩ q1 q2 q3 => by
    subst e
    exact ⟨c, rp_bl q3, k c s' G' H' p q1 q2⟩⟩
theorem dt_val {e : Expr} {te : TE} {m : ME S} (h : DE X Φ W e te m) (he : ∀ whole, isTrue e X.env whole = (do let v ← whole; standAt e.pos; holding [v] (truthy v)) := by intro _; rfl) : DT X Φ W e (tB te) (mTest m) :=
  ⟨pt_val h.pe he, fun σ ρ s G H _ _ R hρ f hW hm k => h.sem σ ρ s G H _ _ R hρ f hW hm fun d s' v G' H' ⟨c, e, p⟩ q1 q2 q3 => by
    subst e
    exact ⟨c, rp_bl q3, k c s' G' H' p q1 q2⟩⟩
/-! and, or, not as tests -/
def mAnd (t u : MT S) : MT S := fun ρ s P R => t ρ s (fun c s1 => if c = true then u ρ s1 P R else P false s1) R
def mOr (t u : MT S) : MT S := fun ρ s P R => t ρ s (fun c s1 => if c = true then P true s1 else u ρ s1 P R) R
def mNot (t : MT S) : MT S := fun ρ s P R => t ρ s (fun c s1 => P (!c) s1) R
section
variable {a b : Expr} {rest : List Expr} {ta tb : TT} {ma mb : MT S} {pos : Pos}
theorem dw_and1 (h : DT X Φ W a ta ma) : DW X Φ W (.BoolOp .And [a] pos) ta ma := ⟨pw_and1 h.pt, h.sem⟩
theorem dw_or1 (h : DT X Φ W a ta ma) : DW X Φ W (.BoolOp .Or [a] pos) ta ma := ⟨pw_or1 h.pt, h.sem⟩
theorem dw_and (h : DT X Φ W a ta ma) (h' : DW X Φ W (.BoolOp .And (b :: rest) pos) tb mb) : DW X Φ W (.BoolOp .And (a :: b :: rest) pos) (tAnd ta tb) (mAnd ma mb) :=
  ⟨pw_and h.pt h'.pw, fun σ ρ s G H Q P R hρ f hW hm k => h.sem σ ρ s G H _ _ R hρ f hW hm fun c s1 G1 H1 h1 e1 f1 => by
    cases c with
    | true =>
      simp only [if_true] at h1 ⊢
      exact h'.sem σ ρ s1 G1 H1 Q P R (hρ.mono e1) f1 (hW.mono e1) h1 fun b s' G' H' p q => k b s' G' H' p (e1.trans q)
    | false =>
      simp only [Bool.false_eq_true, if_false] at h1 ⊢
      exact k _ s1 G1 H1 h1 e1 f1⟩
theorem dw_or (h : DT X Φ W a ta ma) (h' : DW X Φ W (.BoolOp .Or (b :: rest) pos) tb mb) : DW X Φ W (.BoolOp .Or (a :: b :: rest) pos) (tOr ta tb) (mOr ma mb) :=
  ⟨pw_or h.pt h'.pw, fun σ ρ s G H Q P R hρ f hW hm k => h.sem σ ρ s G H _ _ R hρ f hW hm fun c s1 G1 H1 h1 e1 f1 => by
    cases c with
    | true =>
      simp only [if_true] at h1 ⊢
      exact k _ s1 G1 H1 h1 e1 f1
    | false =>
      simp only [Bool.false_eq_true, if_false] at h1 ⊢
      exact h'.sem σ ρ s1 G1 H1 Q P R (hρ.mono e1) f1 (hW.mono e1) h1 fun b s' G' H' p q => k b s' G' H' p (e1.trans q)⟩
theorem DW.dt {e : Expr} (h : DW X Φ W e ta ma) : DT X Φ W e ta ma := ⟨h.pw.pt, h.sem⟩
theorem dt_not (h : DT X Φ W a ta ma) : DT X Φ W (.UnaryOp .Not a pos) (tNot ta) (mNot ma) :=
  ⟨pt_not h.pt, fun σ ρ s G H _ _ R hρ f hW hm k => h.sem σ ρ s G H _ _ R hρ f hW hm fun c s1 G1 H1 h1 e1 f1 => k _ s1 G1 H1 h1 e1 f1⟩
end
/-! .. as values -/
def mAndV (m n : ME S) : ME S := fun ρ s P R => m ρ s (fun d s1 => ∃ c, d = .bl c ∧ if c = true then n ρ s1 P R else P (.bl false) s1) R
def mNotV (m : ME S) : ME S := fun ρ s P R => m ρ s (fun d s1 => ∃ c, d = .bl c ∧ P (.bl (!c)) s1) R
section
variable {a b : Expr} {rest : List Expr} {ta tb : TE} {ma mb : ME S} {pos : Pos}
theorem de_one {op} (h : DE X Φ W a ta ma) : DE X Φ W (.BoolOp op [a] pos) ta ma := ⟨pe_one h.pe, h.sem⟩
theorem de_and (h : DE X Φ W a ta ma) (h' : DE X Φ W (.BoolOp .And (b :: rest) pos) tb mb) : DE X Φ W (.BoolOp .And (a :: b :: rest) pos) (tAndV ta tb) (mAndV ma mb) :=
  ⟨pe_and h.pe h'.pe, fun σ ρ s G H Q P R hρ f hW hm k => h.sem σ ρ s G H _ _ R hρ f hW hm fun d s1 v G1 H1 ⟨c, ed, h1⟩ e1 f1 r1 => by
    subst ed
    refine ⟨c, rp_bl r1, ?_⟩
    cases c with
    | true =>
      simp only [if_true] at h1 ⊢
      exact h'.sem σ ρ s1 G1 H1 Q P R (hρ.mono e1) f1 (hW.mono e1) h1 fun b s' v G' H' p q => k b s' v G' H' p (e1.trans q)
    | false =>
      simp only [Bool.false_eq_true, if_false] at h1 ⊢
      exact k _ s1 _ G1 H1 h1 e1 f1 (.bl false)⟩
theorem de_not (h : DE X Φ W a ta ma) : DE X Φ W (.UnaryOp .Not a pos) (tNotV ta) (mNotV ma) :=
  ⟨pe_not h.pe, fun σ ρ s G H Q P R hρ f hW hm k => h.sem σ ρ s G H _ _ R hρ f hW hm fun d s1 v G1 H1 ⟨c, ed, h1⟩ e1 f1 r1 => by
    subst ed
    exact ⟨c, rp_bl r1, k _ s1 _ G1 H1 h1 e1 f1 (.bl _)⟩⟩
def mIf (t : MT S) (m n : ME S) : ME S := fun ρ s P R => t ρ s (fun c s1 => if c = true then m ρ s1 P R else n ρ s1 P R) R
theorem de_if {c : Expr} {tc : TT} {mc : MT S} (hc : DT X Φ W c tc mc) (h : DE X Φ W a ta ma) (h' : DE X Φ W b tb mb) : DE X Φ W (.IfExp c a b pos) (tIf tc ta tb) (mIf mc ma mb) :=
  ⟨pe_ifExp hc.pt h.pe h'.pe, fun σ ρ s G H Q P R hρ f hW hm k => hc.sem σ ρ s G H _ _ R hρ f hW hm fun c s1 G1 H1 h1 e1 f1 => by
    cases c with
    | true =>
      simp only [if_true] at h1 ⊢
      exact h.sem σ ρ s1 G1 H1 Q P R (hρ.mono e1) f1 (hW.mono e1) h1 fun b s' v G' H' p q => k b s' v G' H' p (e1.trans q)
    | false =>
      simp only [Bool.false_eq_true, if_false] at h1 ⊢
      exact h'.sem σ ρ s1 G1 H1 Q P R (hρ.mono e1) f1 (hW.mono e1) h1 fun b s' v G' H' p q => k b s' v G' H' p (e1.trans q)⟩
end
/-! lists of arguments, displays -/
def mNil : MA S := fun _ s P _ => P [] s
def mCons (m : ME S) (n : MA S) : MA S := fun ρ s P R => m ρ s (fun d s1 => n ρ s1 (fun ds s2 => P (d :: ds) s2) R) R
section
variable {e : Expr} {es : List Expr} {te : TE} {ta : TA} {m : ME S} {n : MA S} {pos : Pos}
theorem da_nil : DA X Φ W [] tNil (mNil : MA S) := ⟨pa_nil, fun _ _ s G H _ _ _ _ f _ p k => k _ s _ G H p (Same.refl _) f .nil⟩
theorem da_cons (h : DE X Φ W e te m) (h' : DA X Φ W es ta n) (hs : starEach (e :: es) X.env = (false, eval e X.env) :: starEach es X.env := by rfl) : DA X Φ W (e :: es) (tCons te ta) (mCons m n) :=
  ⟨pa_cons h.pe h'.pa hs, fun σ ρ s G H Q P R hρ f hW hm k => h.sem σ ρ s G H _ _ R hρ f hW hm fun d s1 v G1 H1 h1 e1 f1 r1 =>
    h'.sem σ ρ s1 G1 H1 _ _ R (hρ.mono e1) f1 (hW.mono e1) h1 fun ds s2 vs G2 H2 h2 e2 f2 r2 => k _ s2 _ G2 H2 h2 (e1.trans e2) f2 (.cons (r1.mono e2) r2)⟩
def mLst (n : MA S) : ME S := fun ρ s P R => n ρ s (fun ds s1 => ds.length ≤ sizeLine ∧ P (.lst ds) s1) R
def mTup (n : MA S) : ME S := fun ρ s P R => n ρ s (fun ds s1 => ds.length ≤ sizeLine ∧ P (.tup ds) s1) R
theorem de_lst (h : DA X Φ W es ta n) : DE X Φ W (.List es pos) (tLst ta) (mLst n) :=
  ⟨pe_lst h.pa, fun σ ρ s G H Q P R hρ f hW hm k => h.sem σ ρ s G H _ _ R hρ f hW hm fun ds s1 vs G1 H1 ⟨hl, h1⟩ e1 f1 r1 =>
    ⟨by rw [r1.len]; exact hl, fun p np => k _ s1 _ _ _ h1 (e1.trans (same_new ((Frm.same f1).free np))) (Frm.ext f1 np) (.lst upd_same (r1.mono (same_new ((Frm.same f1).free np))))⟩⟩
theorem de_tup {x1} (h : DA X Φ W es ta n) : DE X Φ W (.Tuple es x1 pos) (tTup ta) (mTup n) :=
  ⟨pe_tup h.pa, fun σ ρ s G H Q P R hρ f hW hm k => h.sem σ ρ s G H _ _ R hρ f hW hm fun ds s1 vs G1 H1 ⟨hl, h1⟩ e1 f1 r1 =>
    ⟨by rw [r1.len]; exact hl, fun p np => k _ s1 _ _ _ h1 (e1.trans (same_new ((Frm.same f1).free np))) (Frm.ext f1 np) (.tup (SqT.of upd_same) (r1.mono (same_new ((Frm.same f1).free np))))⟩⟩
end
/-! built-ins called -/
abbrev WL := List D → (D → Prop) → Prop
structure Fn1 (X : Cx) (f : Value) (r : List V → Hp → VK → Prop) (w : WL) : Prop where
  cr : CallR X f r
  sem : ∀ (vs : List V) (ds : List D) (G H : Hp) (Q : VK) (P : D → Prop), RpL X.K X.mg G vs ds → Same G H → w ds P → (∀ (d : D) (v : V) (G' H' : Hp), P d → Ext G H G' H' → Rp X.K X.mg G' v d → Q v H') → r vs H Q
def mFn (w : WL) (n : MA S) : ME S := fun ρ s P R => n ρ s (fun ds s1 => w ds fun d => P d s1) R
section
variable {x : Str} {p pos : Pos} {e : Expr} {es : List Expr} {ta : TA} {n : MA S} {id T : String} {r : List V → Hp → VK → Prop} {w : WL}
theorem de_callB (c : Fn1 X (.builtin id) r w) (hg : Gl X x) (hm : X.mg x = none) (hv : bootBuiltins x = some (.builtin id)) (ha : DA X Φ W (e :: es) ta n) (hn : x ≠ "__name__" := by decide) (hdb : (x == ("__debug__" : Str)) = false := by decide)
    (he : starEach (e :: es) X.env = (false, eval e X.env) :: starEach es X.env := by rfl) (hpl : (backTo pos (starEach es X.env)).any (·.1) = false := by rfl) : DE X Φ W (.Call (.Name x p) (e :: es) [] pos) (tCB r ta) (mFn w n) :=
  ⟨pe_callB c.cr hg hm hv ha.pa hn hdb he hpl, fun σ ρ s G H Q P R hρ f hW h k => ha.sem σ ρ s G H _ _ R hρ f hW h fun ds s1 vs G1 H1 h1 e1 f1 r1 =>
    c.sem vs ds G1 H1 _ _ r1 (Frm.same f1) h1 fun d v G2 H2 p x2 r2 => k d s1 v G2 H2 p (e1.trans (x2.out (Frm.same f1)).1) (Frm.exts x2 f1) r2⟩
theorem de_callTy (c : Fn1 X (.type T) r w) (hg : Gl X x) (hm : X.mg x = none) (hv : bootBuiltins x = some (.type T)) (ha : DA X Φ W (e :: es) ta n) (hn : x ≠ "__name__" := by decide) (hdb : (x == ("__debug__" : Str)) = false := by decide)
    (he : starEach (e :: es) X.env = (false, eval e X.env) :: starEach es X.env := by rfl) (hpl : (backTo pos (starEach es X.env)).any (·.1) = false := by rfl) : DE X Φ W (.Call (.Name x p) (e :: es) [] pos) (tCB r ta) (mFn w n) :=
  ⟨pe_callTy c.cr hg hm hv ha.pa hn hdb he hpl, fun σ ρ s G H Q P R hρ f hW h k => ha.sem σ ρ s G H _ _ R hρ f hW h fun ds s1 vs G1 H1 h1 e1 f1 r1 =>
    c.sem vs ds G1 H1 _ _ r1 (Frm.same f1) h1 fun d v G2 H2 p x2 r2 => k d s1 v G2 H2 p (e1.trans (x2.out (Frm.same f1)).1) (Frm.exts x2 f1) r2⟩
end
end
end DL

set_option Elab.async false
set_option linter.all false
set_option maxRecDepth 100000
set_option maxHeartbeats 1000000
namespace DL
open PySem PySem.Spec PyProof.Rows L2

section
variable {S : Type} {X : Cx} {Φ : S → Hp → Hp → Prop} {W : WX} [Frm Φ]
/-! ### statements -/
def sNil : MS S := fun M ρ s => M.nx ρ s
def sSeq (t u : MS S) : MS S := fun M ρ s => t { M with nx := u M } ρ s
section
variable {st : Stmt} {rest : List Stmt} {ts us : TS} {m n : MS S} {pos : Pos}
theorem dss_nil : DSs X Φ W [] tNext (sNil : MS S) := ⟨pss_nil, fun σ ρ s G H D M hρ f h E => E.nx σ ρ s G H h (Same.refl _) hρ f⟩
theorem dss_one (h : DS X Φ W st ts m) : DSs X Φ W [st] ts m := ⟨pss_one h.ps, h.sem⟩
theorem dss_cons (h : DS X Φ W st ts m) (h' : DSs X Φ W rest us n) : DSs X Φ W (st :: rest) (tSeq ts us) (sSeq m n) :=
  ⟨pss_cons h.ps h'.pss, fun σ ρ s G H D M hρ f hm E => h.sem σ ρ s G H { D with nx := us D } { M with nx := n M } hρ f hm
    ⟨fun σ' ρ' s' G' H' p e r f' => h'.sem σ' ρ' s' G' H' D M r f' p (E.mono e), E.rt, E.bk, E.ct, E.ex⟩⟩
def sCt : MS S := fun M ρ s => M.ct ρ s
theorem ds_continue : DS X Φ W (.Continue pos) tCont (sCt : MS S) := ⟨ps_continue, fun σ ρ s G H D M hρ f h E => E.ct σ ρ s G H h (Same.refl _) hρ f⟩
end
section
variable {e : Expr} {te : TE} {m : ME S} {pos : Pos}
def sDrop (m : ME S) : MS S := fun M ρ s => m ρ s (fun _ s1 => M.nx ρ s1) (fun x s1 => M.ex x ρ s1)
theorem ds_expr (h : DE X Φ W e te m) (hs : swapsWith e none pos.line X.env = pure false := by rfl) : DS X Φ W (.Expr e pos) (tDrop te) (sDrop m) :=
  ⟨ps_expr h.pe hs, fun σ ρ s G H D M hρ f hm E => h.sem σ ρ s G H _ _ _ hρ f (E.wsh hρ) hm fun d s1 v G1 H1 p e1 f1 _ => E.nx σ ρ s1 G1 H1 p e1 (hρ.mono e1) f1⟩
def sRet (m : ME S) : MS S := fun M ρ s => m ρ s M.rt (fun x s1 => M.ex x ρ s1)
theorem ds_ret (h : DE X Φ W e te m) : DS X Φ W (.Return (some e) pos) (tRet te) (sRet m) :=
  ⟨ps_ret h.pe, fun σ ρ s G H D M hρ f hm E => h.sem σ ρ s G H _ _ _ hρ f (E.wsh hρ) hm fun d s1 v G1 H1 p e1 f1 r1 => E.rt d s1 v G1 H1 p e1 f1 r1⟩
def sSet (i : Nat) (m : ME S) : MS S := fun M ρ s => m ρ s (fun d s1 => M.nx (ρ.set i (some d)) s1) (fun x s1 => M.ex x ρ s1)
theorem ds_set {i : Nat} {x : Str} {pos' : Pos} (hN : X.N.Nodup) (hi : X.N[i]? = some x) (hx : Loc X.env.scope x) (h : DE X Φ W e te m) (hs : swapsWith e (some (.Name x pos')) pos.line X.env = pure false := by rfl) (hf : X.fn x = true ∨ X.env.scope.names.lookup x = some .local := by first | exact .inl rfl | exact .inr rfl | assumption) :
    DS X Φ W (.Assign [.Name x pos'] e pos) (tAsg te (gName i)) (sSet i m) :=
  ⟨ps_set hN hi hx h.pe hs hf, fun σ ρ s G H D M hρ f hm E => h.sem σ ρ s G H _ _ _ hρ f (E.wsh hρ) hm fun d s1 v G1 H1 p e1 f1 r1 => E.nx _ _ s1 G1 H1 p e1 ((hρ.mono e1).set i r1) f1⟩
end
def sIf (t : MT S) (m n : MS S) : MS S := fun M ρ s => t ρ s (fun c s1 => if c = true then m M ρ s1 else n M ρ s1) (fun x s1 => M.ex x ρ s1)
theorem ds_if {c : Expr} {a b : List Stmt} {tc : TT} {ts us : TS} {mc : MT S} {m n : MS S} {pos : Pos} (hc : DT X Φ W c tc mc) (ha : DSs X Φ W a ts m) (hb : DSs X Φ W b us n) : DS X Φ W (.If c a b pos) (tIfS tc ts us) (sIf mc m n) :=
  ⟨ps_if hc.pt ha.pss hb.pss, fun σ ρ s G H D M hρ f hm E => hc.sem σ ρ s G H _ _ _ hρ f (E.wsh hρ) hm fun c s1 G1 H1 h1 e1 f1 => by
    cases c with
    | true =>
      simp only [if_true] at h1 ⊢
      exact ha.sem σ ρ s1 G1 H1 D M (hρ.mono e1) f1 h1 (E.mono e1)
    | false =>
      simp only [Bool.false_eq_true, if_false] at h1 ⊢
      exact hb.sem σ ρ s1 G1 H1 D M (hρ.mono e1) f1 h1 (E.mono e1)⟩
/-! two names at once, x, y = a, b -/
def sPar (i j : Nat) (n : MA S) : MS S := fun M ρ s => n ρ s (fun ds s1 => ∃ a b, ds = [a, b] ∧ M.nx ((ρ.set i (some a)).set j (some b)) s1) (fun x s1 => M.ex x ρ s1)
theorem ds_par {i j : Nat} {x y : Str} {a b : Expr} {ta : TA} {n : MA S} {px py pt pos : Pos} {kt k2 pt2} (hc : X.calm = true) (hN : X.N.Nodup) (hi : X.N[i]? = some x) (hj : X.N[j]? = some y) (hij : i ≠ j)
    (hx : X.env.scope.names.lookup x = some .local) (hy : X.env.scope.names.lookup y = some .local) (ha : DA X Φ W [a, b] ta n)
    (hw : swappedStores [.Tuple [.Name x px, .Name y py] kt pt] (.Tuple [a, b] k2 pt2) X.env = pure (some [x, y]) := by rfl)
    (hs : swapsWithSole [.Tuple [.Name x px, .Name y py] kt pt] (.Tuple [a, b] k2 pt2) pos.line X.env = pure false := by rfl) :
    DS X Φ W (.Assign [.Tuple [.Name x px, .Name y py] kt pt] (.Tuple [a, b] k2 pt2) pos) (tPar i j ta) (sPar i j n) :=
  ⟨ps_par hc hN hi hj hij hx hy ha.pa hw hs, fun σ ρ s G H D M hρ f hm E => ha.sem σ ρ s G H _ _ _ hρ f (E.wsh hρ) hm fun ds s1 vs G1 H1 ⟨a, b, ed, p⟩ e1 f1 r1 => by
    subst ed
    cases r1 with
    | cons ra r1 =>
      cases r1 with
      | cons rb r1 =>
        cases r1
        exact ⟨_, _, rfl, E.nx _ _ s1 G1 H1 p e1 (((hρ.mono e1).set i ra).set j rb) f1⟩⟩

/-! ### targets -/
abbrev MG (S : Type) := D → Rho → S → (Rho → S → Prop) → Prop
abbrev MGs (S : Type) := List D → Rho → S → (Rho → S → Prop) → Prop
structure DG (X : Cx) (Φ : S → Hp → Hp → Prop) (tg : Expr) (g : TG) (m : MG S) (il : List Nat) : Prop where
  pg : PG X tg g
  sem : ∀ (σ : Sig) (ρ : Rho) (s : S) (G H : Hp) (v : V) (d : D) (Q : Sig → Hp → Prop) (P : Rho → S → Prop), RelE X.K X.mg G σ ρ → Φ s G H → Rp X.K X.mg G v d → m d ρ s P →
    (∀ (σ' : Sig) (ρ' : Rho) (s' : S) (G' H' : Hp), P ρ' s' → Same G G' → RelE X.K X.mg G' σ' ρ' → Φ s' G' H' → (∀ vs : List Nat, (∀ i ∈ il, i ∈ vs) → wipe σ' vs = wipe σ vs) → Q σ' H') → g v σ H Q
structure DGs (X : Cx) (Φ : S → Hp → Hp → Prop) (tg : List Expr) (g : TGs) (m : MGs S) (il : List Nat) : Prop where
  pg : PGs X tg g
  sem : ∀ (σ : Sig) (ρ : Rho) (s : S) (G H : Hp) (vs : List V) (ds : List D) (Q : Sig → Hp → Prop) (P : Rho → S → Prop), RelE X.K X.mg G σ ρ → Φ s G H → RpL X.K X.mg G vs ds → m ds ρ s P →
    (∀ (σ' : Sig) (ρ' : Rho) (s' : S) (G' H' : Hp), P ρ' s' → Same G G' → RelE X.K X.mg G' σ' ρ' → Φ s' G' H' → (∀ vs : List Nat, (∀ i ∈ il, i ∈ vs) → wipe σ' vs = wipe σ vs) → Q σ' H') → g vs σ H Q
def gNm (i : Nat) : MG S := fun d ρ s P => P (ρ.set i (some d)) s
theorem wipe_out' {σ : Sig} {u : Option V} {i : Nat} : ∀ {vs : List Nat}, i ∉ vs → wipe (σ.set i u) vs = (wipe σ vs).set i u
  | [], _ => rfl
  | v :: vs, h => by
    unfold wipe
    rw [wipe_out' fun q => h (List.mem_cons_of_mem _ q), List.set_comm _ _ fun q => h (by rw [q]; exact List.mem_cons_self)]
theorem wipe_set {σ : Sig} {u : Option V} {i : Nat} : ∀ {vs : List Nat}, i ∈ vs → wipe (σ.set i u) vs = wipe σ vs
  | v :: vs, h => by
    unfold wipe
    by_cases q : i ∈ vs
    · rw [wipe_set q]
    · have e : i = v := by
        rcases List.mem_cons.mp h with e | e
        · exact e
        · exact absurd e q
      subst e
      rw [wipe_out' q, List.set_set]
theorem dg_name {i : Nat} {x : Str} {pos : Pos} (hN : X.N.Nodup) (hi : X.N[i]? = some x) (hx : Loc X.env.scope x) (hf : X.fn x = true ∨ X.env.scope.names.lookup x = some .local := by first | exact .inl rfl | exact .inr rfl | assumption) : DG X Φ (.Name x pos) (gName i) (gNm i : MG S) [i] :=
  ⟨pg_name hN hi hx hf, fun σ ρ s G H v d Q P hρ f r h k => k _ _ s G H h (Same.refl _) (hρ.set i r) f fun vs hv => wipe_set (hv i (List.mem_singleton.mpr rfl))⟩
def gNl : MGs S := fun ds ρ s P => ds = [] ∧ P ρ s
def gCn (m : MG S) (n : MGs S) : MGs S := fun ds ρ s P => ∃ d es, ds = d :: es ∧ m d ρ s fun ρ' s' => n es ρ' s' P
theorem dgs_nil : DGs X Φ [] gNil (gNl : MGs S) [] := ⟨pgs_nil, fun σ ρ s G H vs ds Q P hρ f r ⟨e, h⟩ k => by
  subst e
  cases r
  exact ⟨rfl, k _ _ s G H h (Same.refl _) hρ f fun _ _ => rfl⟩⟩
theorem dgs_cons {e : Expr} {es : List Expr} {g : TG} {gs : TGs} {m : MG S} {n : MGs S} {il jl : List Nat} (h : DG X Φ e g m il) (h' : DGs X Φ es gs n jl)
    (hs : (assignEach (e :: es) X.env).map (·.2) = assign e X.env :: (assignEach es X.env).map (·.2) := by rfl) : DGs X Φ (e :: es) (gCons g gs) (gCn m n) (il ++ jl) :=
  ⟨pgs_cons h.pg h'.pg hs, fun σ ρ s G H vs ds Q P hρ f r ⟨d, es, e, hm⟩ k => by
    subst e
    cases r with
    | cons r1 r2 => exact ⟨_, _, rfl, h.sem σ ρ s G H _ _ _ _ hρ f r1 hm fun σ1 ρ1 s1 G1 H1 p e1 h1 f1 z1 => h'.sem σ1 ρ1 s1 G1 H1 _ _ _ _ h1 f1 (r2.mono e1) p fun σ2 ρ2 s2 G2 H2 p2 e2 h2 f2 z2 => k σ2 ρ2 s2 G2 H2 p2 (e1.trans e2) h2 f2 fun vs hv => (z2 vs fun i hi => hv i (List.mem_append_right _ hi)).trans (z1 vs fun i hi => hv i (List.mem_append_left _ hi))⟩⟩
def gTp (n : Nat) (m : MGs S) : MG S := fun d ρ s P => ∃ ds, d = .tup ds ∧ ds.length = n ∧ m ds ρ s P
theorem dg_tup {es : List Expr} {k n : Nat} {pos : Pos} {g : TGs} {m : MGs S} {il : List Nat} (hc : X.calm = true) (h : DGs X Φ es g m il)
    (hn : (assignEach es X.env).length = n := by rfl) (hst : (assignEach es X.env).findIdx? (·.1) = none := by rfl) : DG X Φ (.Tuple es k pos) (gTup X.K n g) (gTp n m) il :=
  ⟨pg_tup hc h.pg hn hst, fun σ ρ s G H v d Q P hρ f r ⟨ds, e, hl, hm⟩ k => by
    subst e
    cases r with
    | tup q rl => exact ⟨_, _, rfl, sqt_mono (Frm.same f) q, by rw [rl.len]; exact hl, h.sem σ ρ s G H _ _ _ _ hρ f rl hm k⟩⟩
def sAsg (m : ME S) (g : MG S) : MS S := fun M ρ s => m ρ s (fun d s1 => g d ρ s1 M.nx) (fun x s1 => M.ex x ρ s1)
theorem ds_asg {tg e : Expr} {te : TE} {g : TG} {m : ME S} {mg : MG S} {pos : Pos} {il : List Nat} (h : DE X Φ W e te m) (hg : DG X Φ tg g mg il) (hs : swapsWithSole [tg] e pos.line X.env = pure false := by rfl) (hw : swappedStores [tg] e X.env = pure none := by rfl)
    (h1 : (assignEach [tg] X.env).map (·.2) = [assign tg X.env] := by rfl) : DS X Φ W (.Assign [tg] e pos) (tAsg te g) (sAsg m mg) :=
  ⟨ps_asg h.pe hg.pg hs hw h1, fun σ ρ s G H D M hρ f hm E => h.sem σ ρ s G H _ _ _ hρ f (E.wsh hρ) hm fun d s1 v G1 H1 p e1 f1 r1 =>
    hg.sem σ ρ s1 G1 H1 v d _ _ (hρ.mono e1) f1 r1 p fun σ2 ρ2 s2 G2 H2 p2 e2 r2 f2 _ => E.nx σ2 ρ2 s2 G2 H2 p2 (e1.trans e2) r2 f2⟩

/-! ### what is walked: a list of trees -/
abbrev MI (S : Type) := Rho → S → (List D → S → Prop) → (Exn → S → Prop) → Prop
/-- the turns of J yield the trees ds -/
def Yields (K : PySem.W.Frag) (mg : Str → Option Value) (J : It) (G : Hp) (ds : List D) : Prop :=
  ∀ G' H, Same G G' → Same G' H → (∀ i, i < ds.length → J.go i H) ∧ J.stop ds.length H ∧ ∀ i x H', i < ds.length → J.yld i H x H' → ∃ G2, Ext G' H G2 H' ∧ ∃ d, ds[i]? = some d ∧ Rp K mg G2 x d
structure DI (X : Cx) (Φ : S → Hp → Hp → Prop) (W : WX) (tg iter : Expr) (wi : TI) (m : MI S) : Prop where
  pi : PI X tg iter wi
  sem : ∀ (σ : Sig) (ρ : Rho) (s : S) (G H : Hp) (Q : It → Hp → Prop) (P : List D → S → Prop) (R : Exn → S → Prop), RelE X.K X.mg G σ ρ → Φ s G H → Wsh X.K X.mg Φ W G σ R → m ρ s P R →
    (∀ (ds : List D) (s' : S) (J : It) (G' H' : Hp), P ds s' → Same G G' → Φ s' G' H' → Yields X.K X.mg J G' ds → Q J H') → wi σ H Q
section
variable {K : PySem.W.Frag} {mg : Str → Option Value} {G : Hp}
theorem y_list {a : Addr} {vs : List V} {ds : List D} (h : G a = some (.lst vs)) (r : RpL K mg G vs ds) : Yields K mg (Itl K a) G ds := fun G' H e e' => by
  have hq : SqL K H a vs := SqL.of (e' _ _ (e _ _ h))
  have hl := r.len
  refine ⟨fun i hi => ⟨vs, vs[i]'(by omega), hq, by simp [hl, hi]⟩, ⟨vs, hq, by omega⟩, fun i x H' hi ⟨e1, y⟩ => ?_⟩
  subst e1
  obtain ⟨d, h1, h2⟩ := r.atV (y vs hq)
  exact ⟨G', .refl, d, h1, h2.mono e⟩
theorem y_tup {a : Addr} {vs : List V} {ds : List D} (h : SqT K G a vs) (r : RpL K mg G vs ds) : Yields K mg (Itt K a) G ds := fun G' H e e' => by
  have hq : SqT K H a vs := sqt_mono (e.trans e') h
  have hl := r.len
  refine ⟨fun i hi => ⟨vs, vs[i]'(by omega), hq, by simp [hl, hi]⟩, ⟨vs, hq, by omega⟩, fun i x H' hi ⟨e1, y⟩ => ?_⟩
  subst e1
  obtain ⟨d, h1, h2⟩ := r.atV (y vs hq)
  exact ⟨G', .refl, d, h1, h2.mono e⟩
def rngD (lo : Int) (n : Nat) : List D := (List.range n).map fun (i : Nat) => D.int (lo + i)
theorem y_rng (lo : Int) (n : Nat) : Yields K mg (Itr lo n) G (rngD lo n) := fun G' H e e' => by
  have hl : (rngD lo n).length = n := by simp [rngD]
  rw [hl]
  refine ⟨fun i hi => hi, Nat.le_refl _, fun i x H' hi ⟨e1, y⟩ => ?_⟩
  subst e1 y
  refine ⟨G', .refl, .int (lo + i), ?_, .int _⟩
  unfold rngD
  rw [List.getElem?_map, List.getElem?_range hi]
  rfl
end
end
end DL

set_option Elab.async false
set_option linter.all false
set_option maxRecDepth 100000
set_option maxHeartbeats 1000000
namespace DL
open PySem PySem.Spec PyProof.Rows L2

section
variable {S : Type} {X : Cx} {Φ : S → Hp → Hp → Prop} {W : WX} [Frm Φ]
/-! ### for -/
def wFor (g : MG S) (b : MS S) : List D → MS S
  | [] => fun M ρ s => M.nx ρ s
  | d :: ds => fun M ρ s => g d ρ s fun ρ1 s1 => b { M with nx := wFor g b ds M, ct := wFor g b ds M, bk := M.nx } ρ1 s1
def sFor (mi : MI S) (g : MG S) (b : MS S) : MS S := fun M ρ s => mi ρ s (fun ds s1 => wFor g b ds M ρ s1) (fun x s1 => M.ex x ρ s1)
theorem ds_for {tg iter : Expr} {body : List Stmt} {wi : TI} {gt : TG} {tb : TS} {pos : Pos} {mi : MI S} {g : MG S} {b : MS S} {il : List Nat} (hp : PassesOwn (model X.prog X.w) X.A X.env X.xe) (hc : X.calm = true) (hi : DI X Φ W tg iter wi mi) (hg : DG X Φ tg gt g il) (hb : DSs X Φ W body tb b)
    (hs : ∀ x, foldedSetIterable iter X.env x = pure x := by intro _; rfl) : DS X Φ W (.For tg iter body [] pos) (tFor wi gt tb) (sFor mi g b) := by
  refine ⟨ps_for hp hc hi.pi hg.pg hb.pss hs, fun σ ρ s G H D M hρ f hm E => ?_⟩
  refine hi.sem σ ρ s G H _ _ _ hρ f (E.wsh hρ) hm fun ds s1 J G1 H1 p e1 f1 y => ?_
  refine ⟨fun i m σ H => m = ds.length - i ∧ i ≤ ds.length ∧ ∃ ρ s G', Same G1 G' ∧ RelE X.K X.mg G' σ ρ ∧ Φ s G' H ∧ wFor g b (ds.drop i) M ρ s, ⟨_, rfl, Nat.zero_le _, ρ, s1, G1, Same.refl _, hρ.mono e1, f1, p⟩, ?_⟩
  rintro i m σ2 H2 ⟨rfl, hi', ρ2, s2, G2, e2, r2, f2, q⟩
  obtain ⟨go, st, yl⟩ := y G2 H2 e2 (Frm.same f2)
  by_cases hlt : i < ds.length
  · refine .inr ⟨go i hlt, fun σ' H' => ∃ ρ s G', Same G1 G' ∧ RelE X.K X.mg G' σ' ρ ∧ Φ s G' H' ∧ wFor g b (ds.drop (i + 1)) M ρ s, fun σ' H' h => ⟨ds.length - (i + 1), by omega, rfl, hlt, h⟩, fun x H' hx => ?_⟩
    obtain ⟨G3, x3, d, hd, rd⟩ := yl i x H' hlt hx
    have ed : ds.drop i = d :: ds.drop (i + 1) := by
      rw [List.drop_eq_getElem_cons hlt]
      congr 1
      have := List.getElem?_eq_getElem hlt
      rw [hd] at this
      exact (Option.some.inj this).symm
    rw [ed] at q
    have s23 := (x3.out (Frm.same f2)).1
    have f3 := Frm.exts x3 f2
    refine hg.sem σ2 ρ2 s2 G3 H' x d _ _ (r2.mono s23) f3 rd q fun σ4 ρ4 s4 G4 H4 h4 e4 r4 f4 _ => ?_
    have e14 : Same G1 G4 := (e2.trans s23).trans e4
    refine hb.sem σ4 ρ4 s4 G4 H4 _ _ r4 f4 h4 ⟨fun σ5 ρ5 s5 G5 H5 h5 e5 r5 f5 => ⟨ρ5, s5, G5, e14.trans e5, r5, f5, h5⟩, fun d s5 v G5 H5 h5 e5 f5 r5 => E.rt d s5 v G5 H5 h5 ((e1.trans e14).trans e5) f5 r5,
      fun σ5 ρ5 s5 G5 H5 h5 e5 r5 f5 => E.nx σ5 ρ5 s5 G5 H5 h5 ((e1.trans e14).trans e5) r5 f5, fun σ5 ρ5 s5 G5 H5 h5 e5 r5 f5 => ⟨ρ5, s5, G5, e14.trans e5, r5, f5, h5⟩,
      fun x σ5 ρ5 s5 G5 H5 cls d h5 e5 r5 f5 z => E.ex x σ5 ρ5 s5 G5 H5 cls d h5 ((e1.trans e14).trans e5) r5 f5 z⟩
  · have ei : i = ds.length := by omega
    subst ei
    rw [List.drop_length] at q
    exact .inl ⟨st, E.nx σ2 ρ2 s2 G2 H2 q (e1.trans e2) r2 f2⟩
/-! sources -/
def iRg1 (n : MA S) : MI S := fun ρ s P R => n ρ s (fun ds s1 => ∃ j : Int, ds = [.int j] ∧ (-(2 ^ 62) ≤ j ∧ j < 2 ^ 62) ∧ P (rngD 0 j.toNat) s1) R
theorem rpl1 {K : PySem.W.Frag} {mg : Str → Option Value} {G : Hp} {vs : List V} {a : D} (r : RpL K mg G vs [a]) : ∃ v, vs = [v] ∧ Rp K mg G v a := by
  cases r with
  | cons ra r =>
    cases r
    exact ⟨_, rfl, ra⟩
theorem rpl2 {K : PySem.W.Frag} {mg : Str → Option Value} {G : Hp} {vs : List V} {a b : D} (r : RpL K mg G vs [a, b]) : ∃ v u, vs = [v, u] ∧ Rp K mg G v a ∧ Rp K mg G u b := by
  cases r with
  | cons ra r =>
    obtain ⟨u, rfl, rb⟩ := rpl1 r
    exact ⟨_, _, rfl, ra, rb⟩
theorem di_range1 {tg a : Expr} {ta : TA} {n : MA S} {p pos : Pos} (hg : Gl X "range") (hm : X.mg "range" = none) (ha : DA X Φ W [a] ta n) (hs : starEach [a] X.env = [(false, eval a X.env)] := by rfl) : DI X Φ W tg (.Call (.Name "range" p) [a] [] pos) (iRng1 ta) (iRg1 n) :=
  ⟨pi_range1 hg hm ha.pa hs, fun σ ρ s G H Q P R hρ f hW h k => ha.sem σ ρ s G H _ _ R hρ f hW h fun ds s1 vs G1 H1 ⟨j, ed, hb, p⟩ e1 f1 r1 => by
    subst ed
    obtain ⟨v, rfl, r⟩ := rpl1 r1
    cases rp_int r
    exact ⟨j, rfl, hb.1, hb.2, k _ s1 _ G1 H1 p e1 f1 (y_rng 0 _)⟩⟩
end

/-! ### objects of one's own: what one name holds, and what is changed -/
inductive DO where
  | lst (ds : List D)
  | dic (ks : List Key) (ds : List D)
  | ins (C : Str) (ns : List Str) (ds : List D)
def DO.tree : DO → D
  | .lst ds => .lst ds
  | .dic ks ds => .dic ks ds
  | .ins C ns ds => .ins C ns ds
inductive RpO (K : PySem.W.Frag) (mg : Str → Option Value) (G : Hp) : HO → DO → Prop
  | lst {vs : List V} {ds : List D} : RpL K mg G vs ds → RpO K mg G (.lst vs) (.lst ds)
  | dic {ks : List Key} {vs : List V} {ds : List D} : ks.length = vs.length → RpL K mg G vs ds → RpO K mg G (.dK (ks.zip vs)) (.dic ks ds)
  | ins {C : Str} {c dx : Addr} {ns : List Str} {vs : List V} {ds : List D} : mg C = some (.ref c) → ns.length = vs.length → RpL K mg G vs ds → RpO K mg G (.ins c dx (ns.zip vs)) (.ins C ns ds)
theorem RpO.mono {K : PySem.W.Frag} {mg : Str → Option Value} {G G' : Hp} {o : HO} {d : DO} (h : RpO K mg G o d) (e : Same G G') : RpO K mg G' o d := by
  cases h with
  | lst r => exact .lst (r.mono e)
  | dic l r => exact .dic l (r.mono e)
  | ins c l r => exact .ins c l (r.mono e)
theorem RpO.rp {K : PySem.W.Frag} {mg : Str → Option Value} {G : Hp} {o : HO} {d : DO} {a : Addr} (h : RpO K mg G o d) (g : G a = some o) : Rp K mg G (.ref a) d.tree := by
  cases h with
  | lst r => exact .lst g r
  | dic l r => exact .dic g l r
  | ins c l r => exact .ins c g l r
abbrev OH := Addr → Option DO
def OH.put (O : OH) (a : Addr) (x : DO) : OH := fun b => if b = a then some x else O b
def OH.del (O : OH) (a : Addr) : OH := fun b => if b = a then none else O b
theorem OH.put_same {O : OH} {a : Addr} {x : DO} : O.put a x a = some x := by unfold OH.put; rw [if_pos rfl]
theorem OH.put_ne {O : OH} {a b : Addr} {x : DO} (h : b ≠ a) : O.put a x b = O b := by unfold OH.put; rw [if_neg h]
theorem OH.del_same {O : OH} {a : Addr} : O.del a a = none := by unfold OH.del; rw [if_pos rfl]
theorem OH.del_ne {O : OH} {a b : Addr} (h : b ≠ a) : O.del a b = O b := by unfold OH.del; rw [if_neg h]
structure Phi (K : PySem.W.Frag) (mg : Str → Option Value) (O : OH) (G H : Hp) : Prop where
  same : Same G H
  own : ∀ a x, O a = some x → G a = none ∧ ∃ o, H a = some o ∧ RpO K mg G o x
instance {K : PySem.W.Frag} {mg : Str → Option Value} : Frm (Phi K mg) where
  same := fun h => h.same
  ext := fun {O G H a o} h n => ⟨same_both h.same n, fun b x e => by
    obtain ⟨h1, u, h2, h3⟩ := h.own b x e
    have nb := ne_of_none h2 n
    exact ⟨by rw [upd_ne nb]; exact h1, u, by rw [upd_ne nb]; exact h2, h3.mono (same_new (h.same.free n))⟩⟩
section
variable {K : PySem.W.Frag} {mg : Str → Option Value} {O : OH} {G H : Hp} {a : Addr} {o : HO} {x y : DO}
/-- a new one -/
theorem Phi.new (h : Phi K mg O G H) (n : H a = none) (r : RpO K mg G o x) : Phi K mg (O.put a x) G (upd H a o) := by
  refine ⟨h.same.trans (same_new n), fun b y e => ?_⟩
  by_cases q : b = a
  · subst q
    rw [OH.put_same] at e
    cases e
    exact ⟨h.same.free n, o, upd_same, r⟩
  · rw [OH.put_ne q] at e
    obtain ⟨h1, u, h2, h3⟩ := h.own b y e
    exact ⟨h1, u, by rw [upd_ne q]; exact h2, h3⟩
/-- .. changed -/
theorem Phi.put (h : Phi K mg O G H) (e : O a = some y) (r : RpO K mg G o x) : Phi K mg (O.put a x) G (upd H a o) := by
  obtain ⟨g0, u, h2, _⟩ := h.own a y e
  refine ⟨fun b u e => ?_, fun b y e => ?_⟩
  · have nb : b ≠ a := fun q => by
      rw [q, g0] at e
      cases e
    rw [upd_ne nb]
    exact h.same _ _ e
  · by_cases q : b = a
    · subst q
      rw [OH.put_same] at e
      cases e
      exact ⟨g0, o, upd_same, r⟩
    · rw [OH.put_ne q] at e
      obtain ⟨h1, u, h2, h3⟩ := h.own b y e
      exact ⟨h1, u, by rw [upd_ne q]; exact h2, h3⟩
/-- .. handed on as a tree: it changes no more -/
theorem Phi.frz (h : Phi K mg O G H) (e : O a = some x) : ∃ G', Same G G' ∧ Phi K mg (O.del a) G' H ∧ Rp K mg G' (.ref a) x.tree := by
  obtain ⟨g0, u, h2, h3⟩ := h.own a x e
  have sg := same_new (o := u) g0
  refine ⟨upd G a u, sg, ⟨fun b v e => ?_, fun b y e => ?_⟩, (h3.mono sg).rp upd_same⟩
  · by_cases q : b = a
    · subst q
      rw [upd_same] at e
      cases e
      exact h2
    · rw [upd_ne q] at e
      exact h.same _ _ e
  · by_cases q : b = a
    · subst q
      rw [OH.del_same] at e
      cases e
    · rw [OH.del_ne q] at e
      obtain ⟨h1, v, h4, h5⟩ := h.own b y e
      exact ⟨by rw [upd_ne q]; exact h1, v, h4, h5.mono sg⟩
/-- .. forgotten -/
theorem Phi.less {O' : OH} (h : Phi K mg O G H) (l : ∀ b x, O' b = some x → O b = some x) : Phi K mg O' G H := ⟨h.same, fun b x e => h.own b x (l b x e)⟩
end
/-- what stands around, one's own objects among it -/
class OFrm (K : PySem.W.Frag) (mg : Str → Option Value) (Φ : OH → Hp → Hp → Prop) : Prop extends Frm Φ where
  own : ∀ {O G H a x}, Φ O G H → O a = some x → G a = none ∧ ∃ o, H a = some o ∧ RpO K mg G o x
  new : ∀ {O G H a o x}, Φ O G H → H a = none → RpO K mg G o x → Φ (O.put a x) G (upd H a o)
  put : ∀ {O G H a o x y}, Φ O G H → O a = some y → RpO K mg G o x → Φ (O.put a x) G (upd H a o)
  frz : ∀ {O G H a x}, Φ O G H → O a = some x → ∃ G', Same G G' ∧ Φ (O.del a) G' H ∧ Rp K mg G' (.ref a) x.tree
  less : ∀ {O O' G H}, Φ O G H → (∀ b x, O' b = some x → O b = some x) → Φ O' G H
instance {K : PySem.W.Frag} {mg : Str → Option Value} : OFrm K mg (Phi K mg) where
  own := fun h o => h.own _ _ o
  new := fun h n r => h.new n r
  put := fun h o r => h.put o r
  frz := fun h o => h.frz o
  less := fun h l => h.less l
def delH (H : Hp) (a : Addr) : Hp := fun b => if b = a then none else H b
theorem delH_same {H : Hp} {a : Addr} : delH H a a = none := by unfold delH; rw [if_pos rfl]
theorem delH_ne {H : Hp} {a b : Addr} (h : b ≠ a) : delH H a b = H b := by unfold delH; rw [if_neg h]
theorem delH_upd {H : Hp} {a b : Addr} {o : HO} (h : b ≠ a) : delH (upd H b o) a = upd (delH H a) b o := by
  funext c
  by_cases e : c = a
  · subst e
    rw [delH_same, upd_ne h.symm, delH_same]
  · rw [delH_ne e]
    by_cases e2 : c = b
    · subst e2
      rw [upd_same, upd_same]
    · rw [upd_ne e2, upd_ne e2, delH_ne e]
theorem delH_self {H : Hp} {a : Addr} {o : HO} : delH (upd H a o) a = delH H a := by
  funext c
  by_cases e : c = a
  · subst e
    rw [delH_same, delH_same]
  · rw [delH_ne e, delH_ne e, upd_ne e]
theorem delH_new {H : Hp} {a : Addr} {o : HO} (n : H a = none) : delH (upd H a o) a = H := by
  rw [delH_self]
  funext c
  by_cases e : c = a
  · subst e
    rw [delH_same, n]
  · rw [delH_ne e]
theorem delH_some {H : Hp} {a b : Addr} {o : HO} (h : delH H a b = some o) : b ≠ a ∧ H b = some o := by
  by_cases e : b = a
  · subst e
    rw [delH_same] at h
    cases h
  · rw [delH_ne e] at h
    exact ⟨e, h⟩
theorem delH_none {H : Hp} {a b : Addr} (h : H b = none) : delH H a b = none := by
  by_cases e : b = a
  · subst e
    exact delH_same
  · rw [delH_ne e]
    exact h
/-- besides, at a stands the list vs: nobody's -/
def Own (Φ : OH → Hp → Hp → Prop) (a : Addr) (vs : List V) : OH → Hp → Hp → Prop := fun O G H => H a = some (.lst vs) ∧ Φ O G (delH H a)
instance {K : PySem.W.Frag} {mg : Str → Option Value} {Φ : OH → Hp → Hp → Prop} [F : OFrm K mg Φ] {a : Addr} {vs : List V} : OFrm K mg (Own Φ a vs) where
  same := fun h b o e => (delH_some (F.same h.2 b o e)).2
  ext := fun {O G H b o} h n => by
    have nb : a ≠ b := ne_of_none h.1 n
    refine ⟨by rw [upd_ne nb]; exact h.1, ?_⟩
    rw [delH_upd nb.symm]
    exact F.ext h.2 (delH_none n)
  own := fun h o => by
    obtain ⟨h1, ws, h2, h3⟩ := F.own h.2 o
    exact ⟨h1, ws, (delH_some h2).2, h3⟩
  new := fun {O G H b o x} h n r => by
    have nb : a ≠ b := ne_of_none h.1 n
    refine ⟨by rw [upd_ne nb]; exact h.1, ?_⟩
    rw [delH_upd nb.symm]
    exact F.new h.2 (delH_none n) r
  put := fun {O G H b u x y} h o r => by
    obtain ⟨h1, us, h2, h3⟩ := F.own h.2 o
    have nb := (delH_some h2).1
    refine ⟨by rw [upd_ne nb.symm]; exact h.1, ?_⟩
    rw [delH_upd nb]
    exact F.put h.2 o r
  frz := fun h o => by
    obtain ⟨G', s, p, r⟩ := F.frz h.2 o
    exact ⟨G', s, ⟨h.1, p⟩, r⟩
  less := fun h l => ⟨h.1, F.less h.2 l⟩
end DL

set_option Elab.async false
set_option linter.all false
set_option maxRecDepth 100000
set_option maxHeartbeats 1000000
namespace DL
open PySem PySem.Spec PyProof.Rows L2

/-! ### comprehensions -/
def wipeD (ρ : Rho) : List Nat → Rho
  | [] => ρ
  | v :: vs => (wipeD ρ vs).set v none
theorem RelE.wipe {K : PySem.W.Frag} {mg : Str → Option Value} {G : Hp} {σ : Sig} {ρ : Rho} (h : RelE K mg G σ ρ) : ∀ vs : List Nat, RelE K mg G (L2.wipe σ vs) (wipeD ρ vs)
  | [] => h
  | v :: vs => (h.wipe vs).drop v none
section
variable {X : Cx} {Φ : OH → Hp → Hp → Prop} {W : WX} [F : OFrm X.K X.mg Φ]
def W0 : WX := fun _ _ _ _ => False
def R0 {S : Type} : Exn → S → Prop := fun _ _ => False
/-- a reading taken as a rule's need: it speaks of no block -/
def cE (K : PySem.W.Frag) (mg : Str → Option Value) (F : Addr → List V → OH → Hp → Hp → Prop) (m : ME OH) : TE := fun σ H Q =>
  ∃ (D : Addr) (vs : List V) (ρ : Rho) (O : OH) (G : Hp) (P : DL.D → OH → Prop) (R : Exn → OH → Prop), RelE K mg G σ ρ ∧ F D vs O G H ∧ Wsh K mg (F D vs) W0 G σ R ∧ m ρ O P R ∧
    ∀ (d : DL.D) (O' : OH) (v : V) (G' H' : Hp), P d O' → Same G G' → F D vs O' G' H' → Rp K mg G' v d → Q v H'
def cT (K : PySem.W.Frag) (mg : Str → Option Value) (F : Addr → List V → OH → Hp → Hp → Prop) (m : MT OH) : TT := fun σ H Q =>
  ∃ (D : Addr) (vs : List V) (ρ : Rho) (O : OH) (G : Hp) (P : Bool → OH → Prop) (R : Exn → OH → Prop), RelE K mg G σ ρ ∧ F D vs O G H ∧ Wsh K mg (F D vs) W0 G σ R ∧ m ρ O P R ∧
    ∀ (b : Bool) (O' : OH) (G' H' : Hp), P b O' → Same G G' → F D vs O' G' H' → Q b H'
structure DTs {S : Type} (X : Cx) (Φ : S → Hp → Hp → Prop) (W : WX) (ifs : List Expr) (tt : TT) (m : MT S) : Prop where
  pts : PTs X ifs tt
  sem : ∀ (σ : Sig) (ρ : Rho) (s : S) (G H : Hp) (Q : Bool → Hp → Prop) (P : Bool → S → Prop) (R : Exn → S → Prop), RelE X.K X.mg G σ ρ → Φ s G H → Wsh X.K X.mg Φ W G σ R → m ρ s P R →
    (∀ (b : Bool) (s' : S) (G' H' : Hp), P b s' → Same G G' → Φ s' G' H' → Q b H') → tt σ H Q
/-- the list that the turns make -/
def wLc (g : MG OH) (t : MT OH) (m : ME OH) (vs : List Nat) (ρ : Rho) (P : List D → OH → Prop) : List D → List D → OH → Prop
  | [], acc, O => P acc O
  | d :: ds, acc, O => g d (wipeD ρ vs) O fun ρ1 O1 => t ρ1 O1 (fun b O2 => if b = true then m ρ1 O2 (fun y O3 => acc.length < sizeLine ∧ wLc g t m vs ρ P ds (acc ++ [y]) O3) R0 else wLc g t m vs ρ P ds acc O2) R0
def mLc (mi : MI OH) (g : MG OH) (t : MT OH) (m : ME OH) (vs : List Nat) : ME OH := fun ρ O P R => mi ρ O (fun ds O1 => wLc g t m vs ρ (fun acc O2 => P (.lst acc) O2) ds [] O1) R
section
variable {elt tg iter : Expr} {ifs : List Expr} {scope : Scope} {own : List (Str × Nat)} {pos : Pos} {wi : TI} {g : TG} {tt : TT} {te : TE} {mi : MI OH} {mg : MG OH} {mt : MT OH} {me : ME OH} {il : List Nat}
theorem lc_sem (hi : DI X Φ W tg iter wi mi)
    (hg : ∀ (D : Addr) (vs : List V) (s : Shared) (H : Hp) (C : Addr) (cl : List (Str × Addr)) (fp : List Addr), DG (X.blk s H scope (compEnvC scope cl C X.env) fp) (Own Φ D vs) tg g mg il) (hil : ∀ i ∈ il, i ∈ own.map (·.2))
    (ht : ∀ (D : Addr) (vs : List V) (s : Shared) (H : Hp) (C : Addr) (cl : List (Str × Addr)) (fp : List Addr), DTs (X.blk s H scope (compEnvC scope cl C X.env) fp) (Own Φ D vs) W0 ifs tt mt)
    (he : ∀ (D : Addr) (vs : List V) (s : Shared) (H : Hp) (C : Addr) (cl : List (Str × Addr)) (fp : List Addr), DE (X.blk s H scope (compEnvC scope cl C X.env) fp) (Own Φ D vs) W0 elt te me)
    {σ : Sig} {ρ : Rho} {O : OH} {G H : Hp} {Q : VK} {R : Exn → OH → Prop} (hρ : RelE X.K X.mg G σ ρ) (f : Φ O G H) (hW : Wsh X.K X.mg Φ W G σ R) {PP : List D → OH → Prop} (h : mi ρ O (fun ds O1 => wLc mg mt me (own.map (·.2)) ρ PP ds [] O1) R)
    (k : ∀ (acc : List D) (vs : List V) (D : Addr) (s' : OH) (G' H' : Hp), PP acc s' → Same G G' → Own Φ D vs s' G' H' → RpL X.K X.mg G' vs acc → Q (.ref D) H') : tLc wi g tt te (own.map (·.2)) σ H Q := by
  refine hi.sem σ ρ O G H _ _ R hρ f hW h fun ds O1 J G1 H1 p e1 f1 y => ?_
  intro D nD
  refine ⟨fun i m H => m = ds.length - i ∧ i ≤ ds.length ∧ ∃ acc vs O G', Same G1 G' ∧ Own Φ D vs O G' H ∧ RpL X.K X.mg G' vs acc ∧ wLc mg mt me (own.map (·.2)) ρ PP (ds.drop i) acc O,
    ⟨_, rfl, Nat.zero_le _, [], [], O1, G1, Same.refl _, ⟨upd_same, by rw [delH_new nD]; exact f1⟩, .nil, p⟩, ?_⟩
  rintro i m H2 ⟨rfl, hi', acc, vs, O2, G2, e2, f2, racc, q⟩
  obtain ⟨go, st, yl⟩ := y G2 H2 e2 (Frm.same f2)
  by_cases hlt : i < ds.length
  · refine .inr ⟨go i hlt, fun H => ∃ acc vs O G', Same G1 G' ∧ Own Φ D vs O G' H ∧ RpL X.K X.mg G' vs acc ∧ wLc mg mt me (own.map (·.2)) ρ PP (ds.drop (i + 1)) acc O,
      fun H' h => ⟨ds.length - (i + 1), by omega, rfl, hlt, h⟩, fun x H' hx => ?_⟩
    obtain ⟨G3, x3, d, hd, rd⟩ := yl i x H' hlt hx
    have ed : ds.drop i = d :: ds.drop (i + 1) := by
      rw [List.drop_eq_getElem_cons hlt]
      congr 1
      have := List.getElem?_eq_getElem hlt
      rw [hd] at this
      exact (Option.some.inj this).symm
    rw [ed] at q
    have s23 := (x3.out (Frm.same f2)).1
    have f3 : Own Φ D vs O2 G3 H' := Frm.exts x3 f2
    refine (hg D vs X.s_0 H 0 [] []).sem _ _ O2 G3 H' x d _ _ (((hρ.mono e1).mono (e2.trans s23)).wipe (own.map fun p => p.2)) f3 rd q fun σ4 ρ4 O4 G4 H4 h4 e4 r4 f4 z4 => ?_
    refine ⟨?_, ?_⟩
    · have z := z4 (own.map (·.2)) hil
      rw [z]
      exact wipe_wipe
    refine (ht D vs X.s_0 H 0 [] []).sem σ4 ρ4 O4 G4 H4 _ _ R0 r4 f4 (fun _ _ _ _ _ _ _ _ _ z => z.elim) h4 fun b O5 G5 H5 h5 e5 f5 => ?_
    have e15 : Same G1 G5 := ((e2.trans s23).trans e4).trans e5
    cases b with
    | false =>
      simp only [Bool.false_eq_true, if_false] at h5 ⊢
      exact ⟨acc, vs, O5, G5, e15, f5, racc.mono ((s23.trans e4).trans e5), h5⟩
    | true =>
      simp only [if_true] at h5 ⊢
      refine (he D vs X.s_0 H 0 [] []).sem σ4 ρ4 O5 G5 H5 _ _ R0 (r4.mono e5) f5 (fun _ _ _ _ _ _ _ _ _ z => z.elim) h5 fun y O6 v6 G6 H6 ⟨hl, h6⟩ e6 f6 r6 => ?_
      have ra := racc.mono (((s23.trans e4).trans e5).trans e6)
      refine ⟨vs, f6.1, by rw [ra.len]; exact hl, acc ++ [y], vs ++ [v6], O6, G6, e15.trans e6, ⟨upd_same, ?_⟩, ra.app (.cons r6 .nil), h6⟩
      rw [delH_self]
      exact f6.2
  · have ei : i = ds.length := by omega
    subst ei
    rw [List.drop_length] at q
    exact .inl ⟨st, k acc vs D O2 G2 H2 q (e1.trans e2) f2 racc⟩
where
  wipe_wipe {σ : Sig} {vs : List Nat} : L2.wipe (L2.wipe σ vs) vs = L2.wipe σ vs := by
    have key : ∀ (us ws : List Nat) (τ : Sig), (∀ i ∈ us, i ∈ ws) → L2.wipe (L2.wipe τ us) ws = L2.wipe τ ws := by
      intro us
      induction us with
      | nil => intro ws τ _; rfl
      | cons u us ih =>
        intro ws τ h
        show L2.wipe ((L2.wipe τ us).set u none) ws = _
        rw [wipe_set (h u List.mem_cons_self)]
        exact ih ws τ fun i hi => h i (List.mem_cons_of_mem _ hi)
    exact key vs vs σ fun _ h => h
def relS (sc sc0 : Scope) : Scope := relabel sc ⟨sc0, 0, 0, [], .empty, none, .none, none, 0⟩
theorem blkOk_in {N : List Str} {sc0 sc scope : Scope} {own : List (Str × Nat)} {cl : List (Str × Addr)} {C : Addr} {env : Env} (h : blkC N (relS sc sc0) scope own = true) (he : env.scope = sc0 := by rfl) : BlkOk N (compEnvC sc cl C env).scope scope own := by
  subst he
  exact blkOk_by h
theorem cE_de {X : Cx} {F : Addr → List V → OH → Hp → Hp → Prop} {e : Expr} {m : ME OH} (h : ∀ D vs, ∃ te, DE X (F D vs) W0 e te m) (D : Addr) (vs : List V) : DE X (F D vs) W0 e (cE X.K X.mg F m) m := by
  refine ⟨⟨fun pins s σ H Q I ⟨D, vs, ρ, O, G, P, R, hρ, f, hW, hm, k⟩ => ?_⟩, fun σ ρ O G H Q P R hρ f hW hm k => ⟨D, vs, ρ, O, G, P, R, hρ, f, hW, hm, k⟩⟩
  obtain ⟨te, d⟩ := h D vs
  exact d.pe.run pins s σ H Q I (d.sem σ ρ O G H Q P R hρ f hW hm k)
theorem cT_dt {X : Cx} {F : Addr → List V → OH → Hp → Hp → Prop} {ifs : List Expr} {m : MT OH} (h : ∀ D vs, ∃ tt, DTs X (F D vs) W0 ifs tt m) (D : Addr) (vs : List V) : DTs X (F D vs) W0 ifs (cT X.K X.mg F m) m := by
  refine ⟨⟨fun pins s σ H Q I ⟨D, vs, ρ, O, G, P, R, hρ, f, hW, hm, k⟩ => ?_⟩, fun σ ρ O G H Q P R hρ f hW hm k => ⟨D, vs, ρ, O, G, P, R, hρ, f, hW, hm, k⟩⟩
  obtain ⟨tt, d⟩ := h D vs
  exact d.pts.run pins s σ H Q I (d.sem σ ρ O G H Q P R hρ f hW hm k)
theorem own_up {D : Addr} {vs : List V} {acc : List DL.D} {O : OH} {G H : Hp} (f2 : Own Φ D vs O G H) (racc : RpL X.K X.mg G vs acc) : ∃ G', Same G G' ∧ Φ O G' H ∧ Rp X.K X.mg G' (.ref D) (.lst acc) := by
  have g0 : G D = none := by
    cases z : G D with
    | none => rfl
    | some o => exact absurd rfl (delH_some (F.same f2.2 D o z)).1
  have sg := same_new (o := .lst vs) g0
  have eqH : upd (delH H D) D (.lst vs) = H := by
    funext c
    by_cases e : c = D
    · subst e
      rw [upd_same, f2.1]
    · rw [upd_ne e, delH_ne e]
  have z := F.ext (o := .lst vs) f2.2 (delH_same (H := H) (a := D))
  rw [eqH] at z
  exact ⟨_, sg, z, .lst upd_same (racc.mono sg)⟩
theorem de_lc (hc : X.calm = true) (hN : X.N.Nodup) (hi : DI X Φ W tg iter wi mi) (ok : BlkOk X.N X.env.scope scope own)
    (hg : ∀ (D : Addr) (vs : List V) (s : Shared) (H : Hp) (C : Addr) (cl : List (Str × Addr)) (fp : List Addr), DG (X.blk s H scope (compEnvC scope cl C X.env) fp) (Own Φ D vs) tg g mg il)
    (ht : ∀ (D : Addr) (vs : List V) (s : Shared) (H : Hp) (C : Addr) (cl : List (Str × Addr)) (fp : List Addr), DTs (X.blk s H scope (compEnvC scope cl C X.env) fp) (Own Φ D vs) W0 ifs tt mt)
    (he : ∀ (D : Addr) (vs : List V) (s : Shared) (H : Hp) (C : Addr) (cl : List (Str × Addr)) (fp : List Addr), DE (X.blk s H scope (compEnvC scope cl C X.env) fp) (Own Φ D vs) W0 elt te me)
    (hil : ∀ i ∈ il, i ∈ own.map (·.2) := by decide) (hs : ∀ x, foldedSetIterable iter X.env x = pure x := by intro _; rfl) :
    DE X Φ W (.ListComp elt [⟨tg, iter, ifs, 0⟩] scope pos) (tLc wi g tt te (own.map (·.2))) (mLc mi mg mt me (own.map (·.2))) :=
  ⟨pe_lc hc hN hi.pi ok (fun s H C cl fp => (hg 0 [] s H C cl fp).pg) (fun s H C cl fp => (ht 0 [] s H C cl fp).pts) (fun s H C cl fp => (he 0 [] s H C cl fp).pe) hs,
    fun σ ρ O G H Q P R hρ f hW h k => lc_sem hi hg hil ht he hρ f hW h fun acc vs D O2 G2 H2 p e f2 r => by
      obtain ⟨G3, s3, f3, r3⟩ := own_up f2 r
      exact k _ O2 _ G3 H2 p (e.trans s3) f3 r3⟩
/-! the same, where the rules of the element and the test may speak of the block -/
theorem de_lcE (hc : X.calm = true) (hN : X.N.Nodup) (hi : DI X Φ W tg iter wi mi) (ok : BlkOk X.N X.env.scope scope own)
    (hg : ∀ (D : Addr) (vs : List V) (s : Shared) (H : Hp) (C : Addr) (cl : List (Str × Addr)) (fp : List Addr), DG (X.blk s H scope (compEnvC scope cl C X.env) fp) (Own Φ D vs) tg g mg il)
    (ht : ∀ (D : Addr) (vs : List V) (s : Shared) (H : Hp) (C : Addr) (cl : List (Str × Addr)) (fp : List Addr), ∃ tt, DTs (X.blk s H scope (compEnvC scope cl C X.env) fp) (Own Φ D vs) W0 ifs tt mt)
    (he : ∀ (D : Addr) (vs : List V) (s : Shared) (H : Hp) (C : Addr) (cl : List (Str × Addr)) (fp : List Addr), ∃ te, DE (X.blk s H scope (compEnvC scope cl C X.env) fp) (Own Φ D vs) W0 elt te me)
    (hil : ∀ i ∈ il, i ∈ own.map (·.2) := by decide) (hs : ∀ x, foldedSetIterable iter X.env x = pure x := by intro _; rfl) :
    DE X Φ W (.ListComp elt [⟨tg, iter, ifs, 0⟩] scope pos) (tLc wi g (cT X.K X.mg (Own Φ) mt) (cE X.K X.mg (Own Φ) me) (own.map (·.2))) (mLc mi mg mt me (own.map (·.2))) :=
  de_lc hc hN hi ok hg (fun D vs s H C cl fp => cT_dt (fun D vs => ht D vs s H C cl fp) D vs) (fun D vs s H C cl fp => cE_de (fun D vs => he D vs s H C cl fp) D vs) hil hs
end
end
end DL

set_option Elab.async false
set_option linter.all false
set_option maxRecDepth 100000
set_option maxHeartbeats 1000000
namespace DL
open PySem PySem.Spec PyProof.Rows L2

/-! ### defs and their contracts -/
abbrev WF := List D → OH → (D → OH → Prop) → (Exn → OH → Prop) → Prop
/-- the contract of a def over trees -/
def spO (K : PySem.W.Frag) (mg : Str → Option Value) (n : Nat) (g : WF) : Sp := fun vs H Q E =>
  ∃ (Φ : OH → Hp → Hp → Prop) (_ : OFrm K mg Φ) (G : Hp) (O : OH) (ds : List D) (P : D → OH → Prop) (R : Exn → OH → Prop), Φ O G H ∧ RpL K mg G vs ds ∧ ds.length = n ∧ g ds O P R ∧
    (∀ (d : D) (O' : OH) (v : V) (G' H' : Hp), P d O' → Same G G' → Φ O' G' H' → Rp K mg G' v d → Q v H') ∧
    (∀ (x : Exn) (O' : OH) (G' H' : Hp) (cls : Value) (d : Option Addr), R x O' → Same G G' → Φ O' G' H' → ExR K mg G' cls d x → E cls d H')
section
variable (P : Program) (w : World) (K : PySem.W.Frag) (mg : Str → Option Value) (base : Heap)
/-- as the layer's FnOk, where no repr is under way -/
structure FnS (k : Nat) (f : Addr) (fd : FuncData) (ps : List Str) (sp : Sp) : Prop where
  len : ∀ vs H Q E, sp vs H Q E → vs.length = ps.length
  run : ∀ (A : Around) (outer : List Env) (s : Shared) (H : Hp) (args : Args) (us : List Value) (vs : List V) (Q : VK) (E : XK), Room k A → A.guards = some [] → Env0 P w K mg base A outer s H →
    BindsTo s fd args (ps.zip us) → Vals vs us → sp vs H Q E → codeAny (model P w) A (.call (.ref f) args) (CR (L2.CX P w) outer P w H s Q E) s
abbrev FnG (k : Nat) (f : Addr) (fd : FuncData) (ps : List Str) (g : WF) : Prop := FnS P w K mg base k f fd ps (spO K mg ps.length g)
end
section
variable {P : Program} {w : World} {K : PySem.W.Frag} {mg : Str → Option Value} {base : Heap}
theorem fnS_of {k : Nat} {f : Addr} {name qual : Str} {params : Arguments} {body : List Stmt} {scope : Scope} {dV kV doc pm cdv ct oc : Value} {an od : Option Addr} {osl : Array (Option Value)} {N ps : List Str} {sp : Sp}
    (lk : K.lookup f = some ⟨oc, od, .func (PySem.W.fnOf name qual params body scope dV kV doc pm an cdv ct), osl⟩) (hcd : PySem.W.codeIn K cdv qual = true) (Sc : FnScope N ps scope) (len : ∀ vs H Q E, sp vs H Q E → vs.length = ps.length)
    (hbody : ∀ (A : Around) (outer : List Env) (s : Shared) (H : Hp) (vs : List V) (Q : VK) (E : XK), Room k (A.deeper (envOfC qual scope s.heap.objs.size f cdv)) → A.guards = some [] → sp vs H Q E →
      ∃ t, PSs (cxOf (L2.CX P w) P w K mg base N qual scope f cdv A outer s H E) body t ∧ t { nx := fun _ H' => Q .non H', rt := Q } (L2.start N vs) H) :
    FnS P w K mg base (k + 1) f (PySem.W.fnOf name qual params body scope dV kV doc pm an cdv ct) ps sp := by
  refine ⟨len, fun A outer s H args us vs Q E hr hg e0 hb r hsp => ?_⟩
  have hl : vs.length = ps.length := len vs H Q E hsp
  have kin : K.In s.heap := e0.mod.kin.keeps (fun b o e => (e0.bs b o e).1)
  have nolim : s.heap.NoLimit := e0.mod.nolimit.keeps (fun b o e => (e0.bs b o e).1)
  have kinds : ∀ y ∈ ps.zip us, scope.names.lookup y.1 = some .local ∨ (scope.names.lookup y.1 = some .cell ∧ ((cellsFrom (s.heap.objs.size + 1) scope.names []).lookup y.1).isSome = true) := by
    intro ⟨n, v⟩ hy
    exact (Sc.par n (List.of_mem_zip hy).1).elim Or.inl fun q => .inr ⟨q, PySem.W.cellsFrom_some _ _ _ (.inl q)⟩
  refine codeAny_call_function hr.depth (kin _ _ lk) rfl Sc.co Sc.gen rfl (PySem.W.codeRec_of kin hcd) (hb _ _ _ _ ?_)
  refine wpAny_newFunctionEnv_cells Sc.kind kinds fun env he s1 x => ?_
  subst he
  obtain ⟨t, ht, hq⟩ := hbody A outer s H vs Q E (hr.deeper _) hg hsp
  refine ⟨nolim.keeps x.toInCall.keep, codeAny_func ?_⟩
  have I := inv_start (CX := L2.CX P w) (E := E) Sc hr.hd e0 hl r x
  refine wpAny_mono (ht.run [] s1 (L2.start N vs) H _ I hq) (fun fl s' hs => ?_) fun e s' hs => hs
  have fin : ∀ {σ' : Sig} {H' : Hp} {v : V} {u : Value}, Inv (cxOf (L2.CX P w) P w K mg base N qual scope f cdv A outer s H E) [] σ' H' s' → RelV v u → Q v H' → CE outer P w H s Q u s' := by
    intro σ' H' v u J rv q
    exact ⟨v, H', J.os, J.bare, J.base, J.hok, rv, q⟩
  match fl, hs with
  | .ret u, ⟨v, σ', H', J, rv, q⟩ => exact fin J rv q
  | .next, ⟨σ', H', J, q⟩ => exact fin (v := V.non) (u := Value.none) J rfl q
  | .brk, ⟨_, _, _, q⟩ => exact q.elim
  | .cont, ⟨_, _, _, q⟩ => exact q.elim
theorem spO_len {n : Nat} {g : WF} {vs : List V} {H : Hp} {Q : VK} {E : XK} (h : spO K mg n g vs H Q E) : vs.length = n := by
  obtain ⟨_, _, _, _, ds, _, _, _, r, l, _⟩ := h
  rw [r.len, l]
/-- the tree reading of a body, from the arguments on -/
def bodyF (m : MS OH) (k : Nat) : WF := fun ds O P R => m { nx := fun _ O' => P .non O', rt := P, bk := fun _ _ => False, ct := fun _ _ => False, ex := fun x _ O' => R x O' } (ds.map some ++ List.replicate k none) O
theorem start_rel {N : List Str} {G : Hp} {vs : List V} {ds : List D} (r : RpL K mg G vs ds) : RelE K mg G (L2.start N vs) (ds.map some ++ List.replicate (N.length - ds.length) none) := by
  have hl := r.len
  refine ⟨by unfold L2.start; simp [hl], fun i d h => ?_⟩
  have hi : i < ds.length := by
    by_cases q : i < ds.length
    · exact q
    · rw [List.getElem?_append_right (by simpa using q), List.getElem?_replicate] at h
      split at h <;> cases h
  rw [List.getElem?_append_left (by simpa using hi), List.getElem?_map] at h
  cases e : ds[i]? with
  | none => rw [e] at h; cases h
  | some d' =>
    rw [e] at h
    cases h
    obtain ⟨v, hv, rv⟩ := r.at e
    refine ⟨v, ?_, rv⟩
    unfold L2.start
    rw [List.getElem?_append_left (by simp [hl, hi]), List.getElem?_map, hv]
    rfl
/-- where a def may be called -/
structure Rm (k : Nat) (X : Cx) : Prop where
  room : Room k X.A
  gd : X.A.guards = some []
theorem Rm.mono {j k : Nat} {X : Cx} (h : Rm k X) (l : j ≤ k) : Rm j X := ⟨h.room.mono l, h.gd⟩
theorem Rm.units {k : Nat} {X : Cx} (h : Rm k X) : X.A.units + 64 < cLine := h.room.units
end

/-! ### calls -/
section
variable {X : Cx} {Φ : OH → Hp → Hp → Prop} {W : WX} [FΦ : OFrm X.K X.mg Φ]
theorem runS {k : Nat} {f : Addr} {fd : FuncData} {ps : List Str} {sp : Sp} {dvs : List V} {dflt : List Value} {E : XK} {pins : List (Addr × Obj)} {σ : Sig} {H : Hp} {s : Shared} {Q : VK} {us : List Value} {vs : List V}
    (F : FnS X.prog X.w X.K X.mg X.base k f fd ps sp) (hr : Rm k X) (hb : Binds X.K fd ps dflt) (hd : Vals dvs dflt) (hx : PassesAt (L2.CX X.prog X.w) X σ E) (I : Inv X pins σ H s) (r : Vals vs us) (h : sp (vs ++ dvs) H Q E) :
    wpAny (model X.prog X.w) X.A (call (.ref f) us) (EP X pins σ Q) X.xe s := by
  have r2 : Vals (vs ++ dvs) (us ++ dflt) := Vals.append r hd
  have hl : (us ++ dflt).length = ps.length := r2.length.symm.trans (F.len _ _ _ _ h)
  have go := F.run X.A X.stack s H ⟨us, []⟩ (us ++ dflt) (vs ++ dvs) Q E hr.room hr.gd I.env0 (hb s us I.kIn hl) r2 h
  refine wpAny_call (codeAny_mono go fun r s' hq => ?_)
  match r, hq with
  | .error e, hq => exact hx pins H s e s' I hq
  | .ok (.ret u), hq => exact I.after hq
  | .ok .next, hq => exact hq.elim
  | .ok .brk, hq => exact hq.elim
  | .ok .cont, hq => exact hq.elim
/-- f(e, ..) -/
theorem pe_callG {k : Nat} {f : Addr} {fd : FuncData} {ps : List Str} {sp : Sp} {dvs : List V} {dflt : List Value} {x : Str} {p pos : Pos} {e : Expr} {es : List Expr} {t : TA} (F : FnS X.prog X.w X.K X.mg X.base k f fd ps sp) (hr : Rm k X) (hg : Gl X x)
    (hm : X.mg x = some (.ref f)) (hk : PySem.W.keepIn X.K (.ref f) = true) (hb : Binds X.K fd ps dflt) (hd : Vals dvs dflt) (tk : Takes X W) (ha : PA X (e :: es) t) (hdb : (x == ("__debug__" : Str)) = false)
    (he : starEach (e :: es) X.env = (false, eval e X.env) :: starEach es X.env) (hpl : (backTo pos (starEach es X.env)).any (·.1) = false) :
    PE X (.Call (.Name x p) (e :: es) [] pos) (fun σ H Q => t σ H fun vs H1 => sp (vs ++ dvs) H1 Q (WE W σ)) := by
  refine ⟨fun pins s σ H Q I h => wpAny_Call_Name_kw (ld_glob I hg hm ?_ hdb)⟩
  have arg := ha.run pos pins s σ H _ I h
  refine PySem.W.callWith_K (h₀ := X.base) I.ok.mod.kin hk (thn arg fun us s1 ⟨vs, H1, I1, r, q⟩ => ⟨I1.kIn, ?_⟩) he hpl
  exact runS F hr hb hd (passAt tk σ) I1 r q
theorem pe_methG0 {k : Nat} {f C : Addr} {fd : FuncData} {ps : List Str} {sp : Sp} {dvs : List V} {dflt : List Value} {m : Str} {apos pos : Pos} {o : Expr} {ta : TE} {pl : Sem Bool} (he : PE X o ta) (c : Cls X.K C) (hm : Meth X.K C m f)
    (F : FnS X.prog X.w X.K X.mg X.base k f fd ps sp) (hr : Rm k X) (hb : Binds X.K fd ps dflt) (hd : Vals dvs dflt) (tk : Takes X W)
    (ht : eval (.Call (.Attribute o m apos) [] [] pos) X.env = (do
      let ov ← eval o X.env
      standAt apos.atName
      let (f, first) ← holding [ov] (getMethod ov m pl)
      callWith pos f first (backTo pos (starEach [] X.env)) (backToKw pos (keywordEach [] X.env)))) :
    PE X (.Call (.Attribute o m apos) [] [] pos) (fun σ H Q => ta σ H fun x H1 => ∃ a dx fs, x = .ref a ∧ H1 a = some (.ins C dx fs) ∧ fs.lookup m = none ∧ sp (x :: dvs) H1 Q (WE W σ)) := by
  refine ⟨fun pins s σ H Q I h => PySem.W.methodCall_KW (pl := pl) (thn (he.run pins s σ H _ I h) fun u s1 ⟨x, H1, I1, rx, a, dx, fs, ex, ea, l, q⟩ => ?_) ht⟩
  subst ex
  cases (show u = Value.ref a from rx)
  refine getmeth_ok I1 ea c hm l ?_
  exact PySem.W.callWith_K0 (first := [.ref a]) I1.kIn hm.kp (runS (us := [.ref a]) (vs := [.ref a]) F hr hb hd (passAt tk σ) I1 (.cons rfl .nil) q)
/-- C(e, ..): a new instance, then its __init__ -/
theorem runMk {k : Nat} {f C : Addr} {fd : FuncData} {ps : List Str} {sp : Sp} {dvs : List V} {dflt : List Value} {E : XK} {pins : List (Addr × Obj)} {σ : Sig} {H : Hp} {s : Shared} {Q : VK} {us : List Value} {vs : List V} (M : Mk X.K C f)
    (F : FnS X.prog X.w X.K X.mg X.base k f fd ps sp) (hr : Rm (k + 1) X) (hb : Binds X.K fd ps dflt) (hd : Vals dvs dflt) (hx : PassesAt (L2.CX X.prog X.w) X σ E) (I : Inv X pins σ H s) (r : Vals vs us)
    (gm : (X.A.under (.builtin "type.__call__" ⟨.ref C :: us, []⟩)).guards = some [])
    (h : ∀ x dx, H x = none → H dx = none → dx ≠ x → sp (.ref x :: (vs ++ dvs)) (upd (upd H dx (.own x)) x (.ins C dx [])) (fun v H2 => v = .non ∧ Q (.ref x) H2) E) :
    wpAny (model X.prog X.w) X.A (call (.ref C) us) (EP X pins σ Q) X.xe s := by
  have q0 := h (s.heap.objs.size + 1) s.heap.objs.size (I.hok.fresh (Nat.le_succ _)) (I.hok.fresh (Nat.le_refl _)) (Nat.ne_of_lt (Nat.lt_succ_self _))
  have I2 := Inv.made (C := C) I
  have r2 : Vals (V.ref (s.heap.objs.size + 1) :: (vs ++ dvs)) (Value.ref (s.heap.objs.size + 1) :: (us ++ dflt)) := Paired.cons rfl (Vals.append r hd)
  have hl : (Value.ref (s.heap.objs.size + 1) :: us ++ dflt).length = ps.length := r2.length.symm.trans (F.len _ _ _ _ q0)
  have go := F.run _ X.stack _ _ ⟨Value.ref (s.heap.objs.size + 1) :: us, []⟩ (Value.ref (s.heap.objs.size + 1) :: (us ++ dflt)) _ _ E (hr.room.make C us []) gm (I2.env0.make C us []) (hb _ (Value.ref (s.heap.objs.size + 1) :: us) I2.kIn hl) r2 q0
  refine wpAny_call (make_map (f := f) I.kIn M.makes M.init (beq_iff_eq.mp M.fn) (codeAny_mono go fun r s' hq => ?_))
  match r, hq with
  | .error e, hq => exact hx pins _ _ e s' I2 hq
  | .ok (.ret u), hq =>
    obtain ⟨v, H', I3, rv, ev, q3⟩ := I2.after hq
    subst ev
    exact ⟨rv, V.ref (s.heap.objs.size + 1), H', I3, rfl, q3⟩
  | .ok .next, hq => exact hq.elim
  | .ok .brk, hq => exact hq.elim
  | .ok .cont, hq => exact hq.elim
theorem make_guards {A : Around} {C : Addr} {us : List Value} (h : A.guards = some []) : (A.under (.builtin "type.__call__" ⟨.ref C :: us, []⟩)).guards = some [] := by
  first
    | exact h
    | (simp [Around.under, Code.isGuard, guardIds, h])
theorem pe_makeG {k : Nat} {f C : Addr} {fd : FuncData} {ps : List Str} {sp : Sp} {dvs : List V} {dflt : List Value} {x : Str} {p pos : Pos} {e : Expr} {es : List Expr} {t : TA} (M : Mk X.K C f) (F : FnS X.prog X.w X.K X.mg X.base k f fd ps sp) (hr : Rm (k + 1) X)
    (hg : Gl X x) (hm : X.mg x = some (.ref C)) (hb : Binds X.K fd ps dflt) (hd : Vals dvs dflt) (tk : Takes X W) (ha : PA X (e :: es) t) (hdb : (x == ("__debug__" : Str)) = false)
    (he : starEach (e :: es) X.env = (false, eval e X.env) :: starEach es X.env) (hpl : (backTo pos (starEach es X.env)).any (·.1) = false) :
    PE X (.Call (.Name x p) (e :: es) [] pos) (fun σ H Q => t σ H fun vs H1 => ∀ x dx, H1 x = none → H1 dx = none → dx ≠ x → sp (.ref x :: (vs ++ dvs)) (upd (upd H1 dx (.own x)) x (.ins C dx [])) (fun v H2 => v = .non ∧ Q (.ref x) H2) (WE W σ)) := by
  refine ⟨fun pins s σ H Q I h => wpAny_Call_Name_kw (ld_glob I hg hm ?_ hdb)⟩
  have arg := ha.run pos pins s σ H _ I h
  refine PySem.W.callWith_K (h₀ := X.base) I.ok.mod.kin M.kp (thn arg fun us s1 ⟨vs, H1, I1, r, q⟩ => ⟨I1.kIn, ?_⟩) he hpl
  exact runMk M F hr hb hd (passAt tk σ) I1 r (make_guards hr.gd) q
end
end DL

set_option Elab.async false
set_option linter.all false
set_option maxRecDepth 100000
set_option maxHeartbeats 1000000
namespace DL
open PySem PySem.Spec PyProof.Rows L2

section
variable {X : Cx} {Φ : OH → Hp → Hp → Prop} {W : WX} [FΦ : OFrm X.K X.mg Φ]
/-! ### calls, over trees -/
/-- what a contract asks, from the arguments' trees -/
theorem spO_of {n : Nat} {g : WF} {O : OH} {G H : Hp} {vs : List V} {ds : List D} {Q : VK} {P : D → OH → Prop} {R : Exn → OH → Prop} {E : XK} (f : Φ O G H) (r : RpL X.K X.mg G vs ds) (l : ds.length = n) (h : g ds O P R)
    (k : ∀ (d : D) (s' : OH) (v : V) (G' H' : Hp), P d s' → Same G G' → Φ s' G' H' → Rp X.K X.mg G' v d → Q v H') (hE : ∀ (x : Exn) (s : OH) (G' H' : Hp) (cls : Value) (d : Option Addr), Same G G' → Φ s G' H' → ExR X.K X.mg G' cls d x → R x s → E cls d H') :
    spO X.K X.mg n g vs H Q E := ⟨Φ, FΦ, G, O, ds, P, R, f, r, l, h, k, fun x O' G' H' cls d a b c e => hE x O' G' H' cls d b c e a⟩
def mCall (g : WF) (k : Nat) (dd : List D) (n : MA OH) : ME OH := fun ρ O P R => n ρ O (fun ds O1 => (ds ++ dd).length = k ∧ g (ds ++ dd) O1 P R) R
section
variable {k : Nat} {f C : Addr} {fd : FuncData} {ps : List Str} {g : WF} {dvs : List V} {dd : List D} {dflt : List Value} {x m : Str} {p pos apos : Pos} {e o : Expr} {es : List Expr} {ta : TA} {n : MA OH} {te : TE} {me : ME OH}
theorem de_call (F : FnG X.prog X.w X.K X.mg X.base k f fd ps g) (hr : Rm k X) (hg : Gl X x) (hm : X.mg x = some (.ref f)) (hk : PySem.W.keepIn X.K (.ref f) = true) (hb : Binds X.K fd ps dflt) (hd : Vals dvs dflt) (hdd : ∀ G, RpL X.K X.mg G dvs dd) (tk : Takes X W)
    (ha : DA X Φ W (e :: es) ta n) (hdb : (x == ("__debug__" : Str)) = false := by decide) (he : starEach (e :: es) X.env = (false, eval e X.env) :: starEach es X.env := by rfl) (hpl : (backTo pos (starEach es X.env)).any (·.1) = false := by rfl) :
    DE X Φ W (.Call (.Name x p) (e :: es) [] pos) (fun σ H Q => ta σ H fun vs H1 => spO X.K X.mg ps.length g (vs ++ dvs) H1 Q (WE W σ)) (mCall g ps.length dd n) :=
  ⟨pe_callG F hr hg hm hk hb hd tk ha.pa hdb he hpl, fun σ ρ s G H Q P R hρ f hW h k => ha.sem σ ρ s G H _ _ R hρ f hW h fun ds s1 vs G1 H1 ⟨hl, h1⟩ e1 f1 r1 =>
    spO_of f1 (r1.app (hdd G1)) hl h1 (fun d s' v G' H' p q => k d s' v G' H' p (e1.trans q)) (hW.mono e1)⟩
theorem zip_none {ns : List Str} {vs : List V} {m : Str} (h : m ∉ ns) : (ns.zip vs).lookup m = none := by
  induction ns generalizing vs with
  | nil => rfl
  | cons a ns ih =>
    cases vs with
    | nil => rfl
    | cons v vs =>
      rw [List.zip_cons_cons, List.lookup_cons]
      have q : (m == a) = false := beq_eq_false_iff_ne.mpr fun z => h (by rw [z]; exact List.mem_cons_self)
      rw [q]
      exact ih fun z => h (List.mem_cons_of_mem _ z)
def mMeth0 (C : Str) (m : Str) (g : WF) (k : Nat) (dd : List D) (me : ME OH) : ME OH := fun ρ O P R => me ρ O (fun x O1 => ∃ ns fs, x = .ins C ns fs ∧ m ∉ ns ∧ (x :: dd).length = k ∧ g (x :: dd) O1 P R) R
theorem de_meth0 {Cn : Str} {pl : Sem Bool} (ho : DE X Φ W o te me) (c : Cls X.K C) (hC : X.mg Cn = some (.ref C)) (hm : Meth X.K C m f) (F : FnG X.prog X.w X.K X.mg X.base k f fd ps g) (hr : Rm k X) (hb : Binds X.K fd ps dflt) (hd : Vals dvs dflt) (hdd : ∀ G, RpL X.K X.mg G dvs dd) (tk : Takes X W)
    (ht : eval (.Call (.Attribute o m apos) [] [] pos) X.env = (do
      let ov ← eval o X.env
      standAt apos.atName
      let (f, first) ← holding [ov] (getMethod ov m pl)
      callWith pos f first (backTo pos (starEach [] X.env)) (backToKw pos (keywordEach [] X.env))) := by rfl) :
    DE X Φ W (.Call (.Attribute o m apos) [] [] pos) (fun σ H Q => te σ H fun x H1 => ∃ a dx fs, x = .ref a ∧ H1 a = some (.ins C dx fs) ∧ fs.lookup m = none ∧ spO X.K X.mg ps.length g (x :: dvs) H1 Q (WE W σ)) (mMeth0 Cn m g ps.length dd me) :=
  ⟨pe_methG0 ho.pe c hm F hr hb hd tk ht, fun σ ρ s G H Q P R hρ f hW h k => ho.sem σ ρ s G H _ _ R hρ f hW h fun d s1 v G1 H1 ⟨ns, fs, ed, hn, hl2, h1⟩ e1 f1 r1 => by
    subst ed
    have r1' := r1
    cases r1 with
    | ins mC hG hl rl =>
      rw [hC] at mC
      cases mC
      exact ⟨_, _, _, rfl, Frm.same f1 _ _ hG, zip_none hn, spO_of f1 (.cons r1' (hdd G1)) hl2 h1 (fun d s' v G' H' p q => k d s' v G' H' p (e1.trans q)) (hW.mono e1)⟩⟩
/-- C(e, ..): the instance as a tree, behind its __init__ -/
def kMake (P : D → OH → Prop) (x : Addr) : D → OH → Prop := fun d O2 => d = .non ∧ ∃ y, O2 x = some y ∧ P y.tree (O2.del x)
def mMake (C : Str) (g : WF) (k : Nat) (dd : List D) (n : MA OH) : ME OH := fun ρ O P R => n ρ O (fun ds O1 => (ds ++ dd).length + 1 = k ∧ ∀ x, O1 x = none → g (.loc x :: (ds ++ dd)) (O1.put x (.ins C [] [])) (kMake P x) R) R
theorem make_sem {Cn : Str} (hC : X.mg Cn = some (.ref C)) {O : OH} {G H : Hp} {vs : List V} {ds : List D} {Q : VK} {P : D → OH → Prop} {R : Exn → OH → Prop} {E : XK} (f : Φ O G H) (r : RpL X.K X.mg G vs ds) (l : ds.length + 1 = ps.length)
    (h : ∀ x, O x = none → g (.loc x :: ds) (O.put x (.ins Cn [] [])) (kMake P x) R)
    (k : ∀ (d : D) (s' : OH) (v : V) (G' H' : Hp), P d s' → Same G G' → Φ s' G' H' → Rp X.K X.mg G' v d → Q v H') (hE : ∀ (x : Exn) (s : OH) (G' H' : Hp) (cls : Value) (d : Option Addr), Same G G' → Φ s G' H' → ExR X.K X.mg G' cls d x → R x s → E cls d H') :
    ∀ x dx, H x = none → H dx = none → dx ≠ x → spO X.K X.mg ps.length g (.ref x :: vs) (upd (upd H dx (.own x)) x (.ins C dx [])) (fun v H2 => v = .non ∧ Q (.ref x) H2) E := fun x dx nx nd ne => by
  have gx : O x = none := by
    cases z : O x with
    | none => rfl
    | some y =>
      obtain ⟨_, o, q, _⟩ := FΦ.own f z
      rw [nx] at q
      cases q
  have s1 := same_new (o := HO.own x) ((Frm.same f).free nd)
  have f1 : Φ O (upd G dx (.own x)) (upd H dx (.own x)) := Frm.ext f nd
  have nx1 : upd H dx (.own x) x = none := by rw [upd_ne ne.symm]; exact nx
  have f2 := FΦ.new (o := .ins C dx []) f1 nx1 (.ins (vs := []) (ns := []) hC rfl .nil)
  refine spO_of f2 (.cons (.loc x) (r.mono s1)) (by rw [List.length_cons]; exact l) (h x gx) (fun d s' v G' H' ⟨ed, y, oy, p⟩ e2 f3 r3 => ?_) fun z s' G' H' cls d e2 f3 => hE z s' G' H' cls d (s1.trans e2) f3
  subst ed
  cases r3
  obtain ⟨G4, e4, f4, r4⟩ := FΦ.frz f3 oy
  exact ⟨rfl, k _ _ _ G4 H' p ((s1.trans e2).trans e4) f4 r4⟩
theorem de_make (M : Mk X.K C f) (hC : X.mg x = some (.ref C)) (F : FnG X.prog X.w X.K X.mg X.base k f fd ps g) (hr : Rm (k + 1) X) (hg : Gl X x) (hb : Binds X.K fd ps dflt) (hd : Vals dvs dflt) (hdd : ∀ G, RpL X.K X.mg G dvs dd) (tk : Takes X W)
    (ha : DA X Φ W (e :: es) ta n) (hdb : (x == ("__debug__" : Str)) = false := by decide) (he : starEach (e :: es) X.env = (false, eval e X.env) :: starEach es X.env := by rfl) (hpl : (backTo pos (starEach es X.env)).any (·.1) = false := by rfl) :
    DE X Φ W (.Call (.Name x p) (e :: es) [] pos) (fun σ H Q => ta σ H fun vs H1 => ∀ x dx, H1 x = none → H1 dx = none → dx ≠ x → spO X.K X.mg ps.length g (.ref x :: (vs ++ dvs)) (upd (upd H1 dx (.own x)) x (.ins C dx [])) (fun v H2 => v = .non ∧ Q (.ref x) H2) (WE W σ)) (mMake x g ps.length dd n) :=
  ⟨pe_makeG M F hr hg hC hb hd tk ha.pa hdb he hpl, fun σ ρ s G H Q P R hρ f hW h k => ha.sem σ ρ s G H _ _ R hρ f hW h fun ds s1 vs G1 H1 ⟨hl, h1⟩ e1 f1 r1 =>
    make_sem hC f1 (r1.app (hdd G1)) hl h1 (fun d s' v G' H' p q => k d s' v G' H' p (e1.trans q)) (hW.mono e1)⟩
end

/-! ### fields -/
def lookD (f : Str) : List Str → List D → Option D
  | n :: ns, d :: ds => if f = n then some d else lookD f ns ds
  | _, _ => none
theorem lookD_rp {K : PySem.W.Frag} {mg : Str → Option Value} {G : Hp} {f : Str} {d : D} : ∀ {ns : List Str} {vs : List V} {ds : List D}, RpL K mg G vs ds → lookD f ns ds = some d → ∃ v, (ns.zip vs).lookup f = some v ∧ Rp K mg G v d
  | [], _, _, _, h => by simp [lookD] at h
  | n :: ns, _, _, .nil, h => by simp [lookD] at h
  | n :: ns, _, _, .cons (v := v) r rl, h => by
    rw [List.zip_cons_cons, List.lookup_cons]
    unfold lookD at h
    by_cases q : f = n
    · rw [if_pos q] at h
      cases h
      have e : (f == n) = true := beq_iff_eq.mpr q
      rw [e]
      exact ⟨v, rfl, r⟩
    · rw [if_neg q] at h
      have e : (f == n) = false := beq_eq_false_iff_ne.mpr q
      rw [e]
      exact lookD_rp rl h
def mFld (C f : Str) (m : ME OH) : ME OH := fun ρ O P R => m ρ O (fun x O1 => ∃ ns ds d, x = .ins C ns ds ∧ lookD f ns ds = some d ∧ P d O1) R
section
variable {C : Addr} {Cn f : Str} {e : Expr} {te : TE} {m : ME OH} {pos : Pos}
theorem de_fld (c : Cls X.K C) (hC : X.mg Cn = some (.ref C)) (n : NoAttr X.K C f) (h : DE X Φ W e te m) (hb : attributeBase e f X.env (eval e X.env) = eval e X.env := by rfl) : DE X Φ W (.Attribute e f pos) (tFld X.K te f) (mFld Cn f m) :=
  ⟨pe_fld h.pe hb, fun σ ρ s G H Q P R hρ f0 hW hm k => h.sem σ ρ s G H _ _ R hρ f0 hW hm fun x s1 v G1 H1 ⟨ns, ds, d, ex, l, p⟩ e1 f1 r1 => by
    subst ex
    cases r1 with
    | ins mC hG hl rl =>
      rw [hC] at mC
      cases mC
      obtain ⟨u, hu, ru⟩ := lookD_rp rl l
      exact ⟨_, C, _, _, u, rfl, Frm.same f1 _ _ hG, c, n, hu, k d s1 u G1 H1 p e1 f1 ru⟩⟩
/-- e.f = value, of an object of one's own -/
def putN (f : Str) : List Str → List Str
  | [] => [f]
  | n :: ns => if n = f then n :: ns else n :: putN f ns
def putD (f : Str) (y : D) : List Str → List D → List D
  | [], _ => [y]
  | n :: ns, d :: ds => if n = f then y :: ds else d :: putD f y ns ds
  | _ :: _, [] => []
theorem put_zip {K : PySem.W.Frag} {mg : Str → Option Value} {G : Hp} {f : Str} {v : V} {y : D} (r : Rp K mg G v y) : ∀ {ns : List Str} {vs : List V} {ds : List D}, ns.length = vs.length → RpL K mg G vs ds →
    ∃ us, putF f v (ns.zip vs) = (putN f ns).zip us ∧ (putN f ns).length = us.length ∧ RpL K mg G us (putD f y ns ds)
  | [], [], _, _, .nil => ⟨[v], rfl, rfl, .cons r .nil⟩
  | n :: ns, u :: vs, _, hl, .cons (d := d) a b => by
    unfold putN putD
    rw [List.zip_cons_cons]
    unfold putF
    by_cases q : n = f
    · rw [if_pos q, if_pos q, if_pos q]
      exact ⟨v :: vs, rfl, by simpa using hl, .cons r b⟩
    · rw [if_neg q, if_neg q, if_neg q]
      obtain ⟨us, h1, h2, h3⟩ := put_zip r (ns := ns) (by simpa using hl) b
      exact ⟨u :: us, by rw [h1]; rfl, by simpa using h2, .cons a h3⟩
def sFldD (C f : Str) (mo mv : ME OH) : MS OH := fun M ρ O => mv ρ O (fun y O1 => mo ρ O1 (fun x O2 => ∃ a ns ds, x = .loc a ∧ O2 a = some (.ins C ns ds) ∧ ns.length < 1000 ∧ M.nx ρ (O2.put a (.ins C (putN f ns) (putD f y ns ds)))) (fun x O2 => M.ex x ρ O2)) (fun x O1 => M.ex x ρ O1)
theorem ds_fld {o value : Expr} {pos' : Pos} {to tv : TE} {mo mv : ME OH} (c : Cls X.K C) (hC : X.mg Cn = some (.ref C)) (n : NoAttr X.K C f) (ho : DE X Φ W o to mo) (hv : DE X Φ W value tv mv) (hs : swapsWith value (some (.Attribute o f pos')) pos.line X.env = pure false := by rfl) :
    DS X Φ W (.Assign [.Attribute o f pos'] value pos) (sFld X.K to tv f) (sFldD Cn f mo mv) :=
  ⟨ps_fld ho.pe hv.pe hs, fun σ ρ s G H D M hρ f0 hm E => hv.sem σ ρ s G H _ _ _ hρ f0 (E.wsh hρ) hm fun y s1 v G1 H1 h1 e1 f1 r1 =>
    ho.sem σ ρ s1 G1 H1 _ _ _ (hρ.mono e1) f1 ((E.mono e1).wsh (hρ.mono e1)) h1 fun x s2 u G2 H2 ⟨a, ns, ds, ex, oa, hl, p⟩ e2 f2 r2 => by
      subst ex
      cases r2
      obtain ⟨_, ob, hob, ro⟩ := FΦ.own f2 oa
      cases ro with
      | ins mC hl2 rl =>
        rw [hC] at mC
        cases mC
        rename_i dx vs
        obtain ⟨us, q1, q2, q3⟩ := put_zip (f := f) (r1.mono e2) hl2 rl
        refine ⟨a, C, dx, _, rfl, hob, c, n, by rw [List.length_zip]; omega, ?_⟩
        rw [q1]
        exact E.nx σ ρ _ G2 _ p (e1.trans e2) ((hρ.mono e1).mono e2) (FΦ.put f2 oa (.ins hC q2 q3))⟩
end
end
end DL

set_option Elab.async false
set_option linter.all false
set_option maxRecDepth 100000
set_option maxHeartbeats 1000000
namespace DL
open PySem PySem.Spec PyProof.Rows L2

section
variable {K : PySem.W.Frag} {mg : Str → Option Value} {G H : Hp}
theorem rp_cut {lo hi : Option Int} {vs : List V} {ds : List D} (r : RpL K mg G vs ds) : RpL K mg G (cutV vs lo hi) ((ds.drop (HT.sIx ds.length 0 lo)).take (HT.sIx ds.length ds.length hi - HT.sIx ds.length 0 lo)) := by
  unfold cutV
  rw [r.len]
  exact (r.dr _).tk _
theorem rp_at {i : Int} {vs : List V} {ds : List D} {d : D} (r : RpL K mg G vs ds) (h : atI ds i = some d) : ∃ v, atI vs i = some v ∧ Rp K mg G v d := by
  unfold atI at h ⊢
  rw [r.len]
  cases e : ixN ds.length i with
  | none =>
    rw [e] at h
    cases h
  | some j =>
    rw [e] at h
    obtain ⟨v, a, b⟩ := r.at (i := j) h
    exact ⟨v, a, b⟩
end

section
variable {X : Cx}
/-! ### a + b -/
def wAdd : W2 := fun a b P => match a, b with
  | .int i, .int j => P (.int (i + j))
  | .str x, .str y => x.length + y.length ≤ sizeLine ∧ P (.str (x ++ y))
  | .lst x, .lst y => x.length + y.length ≤ sizeLine ∧ P (.lst (x ++ y))
  | .tup x, .tup y => x.length + y.length ≤ sizeLine ∧ P (.tup (x ++ y))
  | _, _ => False
theorem o_add : Op2 X (binaryOp .Add) (fun x y H Q => (∃ i j, x = .int i ∧ y = .int j ∧ Q (.int (i + j)) H) ∨ (∃ i j, x = .str i ∧ y = .str j ∧ i.length + j.length ≤ sizeLine ∧ Q (.str (i ++ j)) H) ∨ rCat x y H Q ∨ rCatA X.K x y H Q) wAdd := by
  refine ⟨op_add.or (op_add_str.or (op_cat.or op_catA)), fun x y a b G H Q P ra rb sm h k => ?_⟩
  cases a with
  | int i =>
    cases b with
    | int j =>
      cases ra
      cases rb
      exact .inl ⟨i, j, rfl, rfl, k _ _ G H h .refl (.int _)⟩
    | _ => exact h.elim
  | str i =>
    cases b with
    | str j =>
      cases ra
      cases rb
      exact .inr (.inl ⟨i, j, rfl, rfl, h.1, k _ _ G H h.2 .refl (.str _)⟩)
    | _ => exact h.elim
  | lst i =>
    cases b with
    | lst j =>
      cases ra with
      | lst ha la =>
        cases rb with
        | lst hb lb =>
          refine .inr (.inr (.inl ⟨_, _, _, _, rfl, rfl, sm _ _ ha, sm _ _ hb, by rw [la.len, lb.len]; exact h.1, fun p np => ?_⟩))
          exact k _ _ _ _ h.2 (.one np) (.lst upd_same ((la.app lb).mono (same_new (sm.free np))))
    | _ => exact h.elim
  | tup i =>
    cases b with
    | tup j =>
      have ra' := ra
      have rb' := rb
      cases ra with
      | tup ha la =>
        cases rb with
        | tup hb lb =>
          have l1 := la.len
          have l2 := lb.len
          refine .inr (.inr (.inr ⟨_, _, _, _, rfl, rfl, sqt_mono sm ha, sqt_mono sm hb, by rw [l1, l2]; exact h.1, fun e => ?_, fun _ e => ?_, fun _ _ p np => ?_⟩))
          · subst e
            cases la
            exact k _ _ G H h.2 .refl rb'
          · subst e
            cases lb
            refine k _ _ G H h.2 .refl ?_
            rw [List.append_nil]
            exact ra'
          · exact k _ _ _ _ h.2 (.one np) (.tup (SqT.of upd_same) ((la.app lb).mono (same_new (sm.free np))))
    | _ => exact h.elim
  | _ => exact h.elim
/-! ### ints -/
def wI (C : Int → Int → Prop) (g : Int → Int → D) : W2 := fun a b P => match a, b with
  | .int i, .int j => C i j ∧ P (g i j)
  | _, _ => False
theorem wI_sem {C : Int → Int → Prop} {gv : Int → Int → V} {g : Int → Int → D} (hg : ∀ G i j, Rp X.K X.mg G (gv i j) (g i j)) {f : Value → Value → Sem Value} (o : OpR X f (rI C gv)) : Op2 X f (rI C gv) (wI C g) := by
  refine ⟨o, fun x y a b G H Q P ra rb sm h k => ?_⟩
  cases a with
  | int i =>
    cases b with
    | int j =>
      cases ra
      cases rb
      exact ⟨i, j, rfl, rfl, h.1, k _ _ G H h.2 .refl (hg G i j)⟩
    | _ => exact h.elim
  | _ => exact h.elim
def wI0 (g : Int → Int → D) : W2 := fun a b P => match a, b with
  | .int i, .int j => P (g i j)
  | _, _ => False
theorem wI0_sem {gv : Int → Int → V} {g : Int → Int → D} (hg : ∀ G i j, Rp X.K X.mg G (gv i j) (g i j)) {f : Value → Value → Sem Value} (o : OpR X f (rI0 gv)) : Op2 X f (rI0 gv) (wI0 g) := by
  refine ⟨o, fun x y a b G H Q P ra rb sm h k => ?_⟩
  cases a with
  | int i =>
    cases b with
    | int j =>
      cases ra
      cases rb
      exact ⟨i, j, rfl, rfl, k _ _ G H h .refl (hg G i j)⟩
    | _ => exact h.elim
  | _ => exact h.elim
def wSub : W2 := wI0 fun i j => .int (i - j)
theorem o_sub : Op2 X (binaryOp .Sub) (rI0 fun i j => .int (i - j)) wSub := wI0_sem (fun G i j => .int _) op_sub
def wMod : W2 := wI (fun _ j => 0 < j) fun i j => .int (i % j)
theorem o_mod : Op2 X (binaryOp .Mod) (rI (fun _ j => 0 < j) fun i j => .int (i % j)) wMod := wI_sem (fun G i j => .int _) op_mod
def wDiv : W2 := wI CDivW fun i j => .int (i / j)
theorem o_div : Op2 X (binaryOp .FloorDiv) (rI CDivW fun i j => .int (i / j)) wDiv := wI_sem (fun G i j => .int _) op_fdivW
def wLt : W2 := wI0 fun i j => .bl (decide (i < j))
def wLe : W2 := wI0 fun i j => .bl (decide (i ≤ j))
def wGt : W2 := wI0 fun i j => .bl (decide (j < i))
def wGe : W2 := wI0 fun i j => .bl (decide (j ≤ i))
theorem o_lt : Op2 X (compareOp .Lt) (rI0 fun i j => .bl (decide (i < j))) wLt := wI0_sem (fun G i j => .bl _) op_lt
theorem o_le : Op2 X (compareOp .LtE) (rI0 fun i j => .bl (decide (i ≤ j))) wLe := wI0_sem (fun G i j => .bl _) op_le
theorem o_gt : Op2 X (compareOp .Gt) (rI0 fun i j => .bl (decide (j < i))) wGt := wI0_sem (fun G i j => .bl _) op_gt
theorem o_ge : Op2 X (compareOp .GtE) (rI0 fun i j => .bl (decide (j ≤ i))) wGe := wI0_sem (fun G i j => .bl _) op_ge
/-! ### a * b -/
def wMul : W2 := fun a b P => match a, b with
  | .int i, .int j => (CMul i j ∨ CMulW i j) ∧ P (.int (i * j))
  | .lst x, .int k => (-(2 ^ 63) ≤ k ∧ k < 2 ^ 63 ∧ x.length * k.toNat ≤ sizeLine) ∧ P (.lst (List.replicate k.toNat x).flatten)
  | .tup x, .int k => (x ≠ [] ∧ 2 ≤ k ∧ k ≤ 1000 ∧ x.length ≤ 1000) ∧ P (.tup (List.replicate k.toNat x).flatten)
  | _, _ => False
theorem o_mul : Op2 X (binaryOp .Mult) (fun x y H Q => rI CMul (fun i j => .int (i * j)) x y H Q ∨ rI CMulW (fun i j => .int (i * j)) x y H Q ∨ rRep x y H Q ∨ rRepT X.K x y H Q) wMul := by
  refine ⟨op_mul.or (op_mulW.or (op_rep.or op_repT)), fun x y a b G H Q P ra rb sm h k => ?_⟩
  cases a with
  | int i =>
    cases b with
    | int j =>
      cases ra
      cases rb
      rcases h.1 with c | c
      · exact .inl ⟨i, j, rfl, rfl, c, k _ _ G H h.2 .refl (.int _)⟩
      · exact .inr (.inl ⟨i, j, rfl, rfl, c, k _ _ G H h.2 .refl (.int _)⟩)
    | _ => exact h.elim
  | lst i =>
    cases b with
    | int j =>
      cases rb
      cases ra with
      | lst ha la =>
        refine .inr (.inr (.inl ⟨_, _, _, rfl, rfl, sm _ _ ha, h.1.1, h.1.2.1, by rw [la.len]; exact h.1.2.2, fun p np => ?_⟩))
        exact k _ _ _ _ h.2 (.one np) (.lst upd_same ((la.flat _).mono (same_new (sm.free np))))
    | _ => exact h.elim
  | tup i =>
    cases b with
    | int j =>
      cases rb
      cases ra with
      | tup ha la =>
        have l1 := la.len
        refine .inr (.inr (.inr ⟨_, _, _, rfl, rfl, sqt_mono sm ha, fun e => h.1.1 (by subst e; cases la; rfl), h.1.2.1, h.1.2.2.1, by rw [l1]; exact h.1.2.2.2, fun p np => ?_⟩))
        exact k _ _ _ _ h.2 (.one np) (.tup (SqT.of upd_same) ((la.flat _).mono (same_new (sm.free np))))
    | _ => exact h.elim
  | _ => exact h.elim
/-! ### == over trees without instances -/
mutual
def toPy : D → Option PyData
  | .non => some .none
  | .bl b => some (.bool b)
  | .int i => some (.int i)
  | .str x => some (.str x)
  | .lst ds => (toPyL ds).map .list
  | .tup ds => (toPyL ds).map .tuple
  | _ => none
def toPyL : List D → Option (List PyData)
  | [] => some []
  | d :: ds => match toPy d, toPyL ds with
    | some p, some ps => some (p :: ps)
    | _, _ => none
end
mutual
theorem rp_dp {K : PySem.W.Frag} {mg : Str → Option Value} {G H : Hp} (sm : Same G H) : ∀ {v : V} {d : D} {p : PyData}, Rp K mg G v d → toPy d = some p → Dp K H v p
  | _, _, _, .non, h => by
    simp only [toPy] at h
    cases h
    exact .non
  | _, _, _, .bl b, h => by
    simp only [toPy] at h
    cases h
    exact .bl b
  | _, _, _, .int b, h => by
    simp only [toPy] at h
    cases h
    exact .int b
  | _, _, _, .str b, h => by
    simp only [toPy] at h
    cases h
    exact .str b
  | _, _, _, .lst q r, h => by
    simp only [toPy, Option.map_eq_some_iff] at h
    obtain ⟨ps, h, rfl⟩ := h
    exact .lst (SqL.of (sm _ _ q)) (rpl_dp sm r h)
  | _, _, _, .tup q r, h => by
    simp only [toPy, Option.map_eq_some_iff] at h
    obtain ⟨ps, h, rfl⟩ := h
    exact .tup (sqt_mono sm q) (rpl_dp sm r h)
  | _, _, _, .dic _ _ _, h => by simp [toPy] at h
  | _, _, _, .ins _ _ _ _, h => by simp [toPy] at h
  | _, _, _, .frz _ _, h => by simp [toPy] at h
  | _, _, _, .loc _, h => by simp [toPy] at h
  | _, _, _, .cls _, h => by simp [toPy] at h
  | _, _, _, .ty _, h => by simp [toPy] at h
theorem rpl_dp {K : PySem.W.Frag} {mg : Str → Option Value} {G H : Hp} (sm : Same G H) : ∀ {vs : List V} {ds : List D} {ps : List PyData}, RpL K mg G vs ds → toPyL ds = some ps → DpAll K H vs ps
  | _, _, _, .nil, h => by
    simp only [toPyL] at h
    cases h
    exact .nil
  | _, _, _, .cons (d := d) (ds := ds) a b, h => by
    simp only [toPyL] at h
    cases e1 : toPy d with
    | none => simp [e1] at h
    | some p =>
      cases e2 : toPyL ds with
      | none => simp [e1, e2] at h
      | some ps =>
        simp [e1, e2] at h
        subst h
        exact .cons (rp_dp sm a e1) (rpl_dp sm b e2)
end
def wEq : W2 := fun a b P => ∃ p q, toPy a = some p ∧ toPy b = some q ∧ SeqAt.shaped p = true ∧ SeqAt.shaped q = true ∧ P (.bl (PyData.eqv p q))
def wNe : W2 := fun a b P => ∃ p q, toPy a = some p ∧ toPy b = some q ∧ SeqAt.shaped p = true ∧ SeqAt.shaped q = true ∧ P (.bl (!PyData.eqv p q))
theorem o_eq (hu : X.A.units + 64 < cLine) : Op2 X (compareOp .Eq) (rEqD X.K) wEq := by
  refine ⟨op_eqD hu, fun x y a b G H Q P ra rb sm ⟨p, q, h1, h2, h3, h4, h⟩ k => ?_⟩
  exact ⟨p, q, rp_dp sm ra h1, rp_dp sm rb h2, h3, h4, k _ _ G H h .refl (.bl _)⟩
theorem o_ne (hu : X.A.units + 64 < cLine) : Op2 X (compareOp .NotEq) (rNeD X.K) wNe := by
  refine ⟨op_neD hu, fun x y a b G H Q P ra rb sm ⟨p, q, h1, h2, h3, h4, h⟩ k => ?_⟩
  exact ⟨p, q, rp_dp sm ra h1, rp_dp sm rb h2, h3, h4, k _ _ G H h .refl (.bl _)⟩
/-! ### is None -/
def isNon : D → Bool
  | .non => true
  | _ => false
theorem rp_isNon {K : PySem.W.Frag} {mg : Str → Option Value} {G : Hp} {v : V} {d : D} (r : Rp K mg G v d) : decide (v = .non) = isNon d := by
  cases r <;> first | rfl | exact decide_eq_false (fun z => nomatch z)
def wIsN : W2 := fun a b P => b = .non ∧ P (.bl (isNon a))
theorem o_isN : Op2 X (compareOp .Is) (fun x y H Q => y = .non ∧ Q (.bl (decide (x = .non))) H) wIsN := by
  refine ⟨op_isN, fun x y a b G H Q P ra rb sm ⟨e, h⟩ k => ?_⟩
  subst e
  cases rb
  exact ⟨rfl, by rw [rp_isNon ra]; exact k _ _ G H h .refl (.bl _)⟩
end
end DL

set_option Elab.async false
set_option linter.all false
set_option maxRecDepth 100000
set_option maxHeartbeats 1000000
namespace DL
open PySem PySem.Spec PyProof.Rows L2

section
variable {X : Cx}
/-! ### built-ins -/
def wLen : WL := fun ds P => ∃ d, ds = [d] ∧ match d with
  | .lst x => P (.int x.length)
  | .tup x => P (.int x.length)
  | .frz x => P (.int x.length)
  | .str x => x.length ≤ sizeLine ∧ P (.int x.length)
  | _ => False
theorem f_len : Fn1 X (.builtin "len") (fun xs H Q => ∃ x n, xs = [x] ∧ LenV X.K x H n ∧ Q (.int n) H) wLen := by
  refine ⟨call_len, fun vs ds G H Q P r sm ⟨d, ed, h⟩ k => ?_⟩
  subst ed
  obtain ⟨v, rfl, r1⟩ := rpl1 r
  cases r1 with
  | lst a b => exact ⟨_, _, rfl, .inl ⟨_, SqL.of (sm _ _ a), b.len.symm⟩, k _ _ G H h .refl (.int _)⟩
  | tup a b => exact ⟨_, _, rfl, .inr ⟨_, sqt_mono sm a, b.len.symm⟩, k _ _ G H h .refl (.int _)⟩
  | frz a b => exact ⟨_, _, rfl, .inl ⟨_, sql_mono sm a.sql, b.len.symm⟩, k _ _ G H h .refl (.int _)⟩
  | str x => exact ⟨_, _, rfl, ⟨h.1, rfl⟩, k _ _ G H h.2 .refl (.int _)⟩
  | _ => exact h.elim
def wTuple : WL := fun ds P => (∃ x, ds = [.lst x] ∧ P (.tup x)) ∨ (∃ x, ds = [.tup x] ∧ P (.tup x))
theorem f_tuple : Fn1 X (.type "tuple") (fun xs H Q => ∃ p ys, xs = [.ref p] ∧ ((SqL X.K H p ys ∧ ∀ l, H l = none → Q (.ref l) (upd H l (.tup ys))) ∨ (SqT X.K H p ys ∧ Q (.ref p) H))) wTuple := by
  refine ⟨call_tuple_of, fun vs ds G H Q P r sm h k => ?_⟩
  rcases h with ⟨x, ed, h⟩ | ⟨x, ed, h⟩
  · subst ed
    obtain ⟨v, rfl, r1⟩ := rpl1 r
    cases r1 with
    | lst a b => exact ⟨_, _, rfl, .inl ⟨SqL.of (sm _ _ a), fun l nl => k _ _ _ _ h (.one nl) (.tup (SqT.of upd_same) (b.mono (same_new (sm.free nl))))⟩⟩
  · subst ed
    obtain ⟨v, rfl, r1⟩ := rpl1 r
    have r' := r1
    cases r1 with
    | tup a b => exact ⟨_, _, rfl, .inr ⟨sqt_mono sm a, k _ _ G H h .refl r'⟩⟩
def wList : WL := fun ds P => (∃ x, ds = [.lst x] ∧ P (.lst x)) ∨ (∃ x, ds = [.tup x] ∧ P (.lst x))
theorem f_list : Fn1 X (.type "list") (fun xs H Q => ∃ p ys, xs = [.ref p] ∧ (SqL X.K H p ys ∨ SqT X.K H p ys) ∧ ∀ l, H l = none → Q (.ref l) (upd H l (.lst ys))) wList := by
  refine ⟨call_list_of, fun vs ds G H Q P r sm h k => ?_⟩
  rcases h with ⟨x, ed, h⟩ | ⟨x, ed, h⟩
  · subst ed
    obtain ⟨v, rfl, r1⟩ := rpl1 r
    cases r1 with
    | lst a b => exact ⟨_, _, rfl, .inl (SqL.of (sm _ _ a)), fun l nl => k _ _ _ _ h (.one nl) (.lst upd_same (b.mono (same_new (sm.free nl))))⟩
  · subst ed
    obtain ⟨v, rfl, r1⟩ := rpl1 r
    cases r1 with
    | tup a b => exact ⟨_, _, rfl, .inr (sqt_mono sm a), fun l nl => k _ _ _ _ h (.one nl) (.lst upd_same (b.mono (same_new (sm.free nl))))⟩
def wAbs : WL := fun ds P => ∃ i, ds = [.int i] ∧ P (.int (if i < 0 then -i else i))
theorem f_abs : Fn1 X (.builtin "abs") (fun xs H Q => ∃ i, xs = [.int i] ∧ Q (.int (if i < 0 then -i else i)) H) wAbs := by
  refine ⟨call_abs, fun vs ds G H Q P r sm ⟨i, ed, h⟩ k => ?_⟩
  subst ed
  obtain ⟨v, rfl, r1⟩ := rpl1 r
  cases r1
  exact ⟨i, rfl, k _ _ G H h .refl (.int _)⟩
def wInt : WL := fun ds P => (∃ i, ds = [.int i] ∧ P (.int i)) ∨ ∃ b, ds = [.bl b] ∧ P (.int (if b then 1 else 0))
theorem f_int : Fn1 X (.type "int") (fun xs H Q => (∃ i, xs = [.int i] ∧ Q (.int i) H) ∨ ∃ k, xs = [.bl k] ∧ Q (.int (if k then 1 else 0)) H) wInt := by
  refine ⟨call_int1, fun vs ds G H Q P r sm h k => ?_⟩
  rcases h with ⟨i, ed, h⟩ | ⟨i, ed, h⟩
  · subst ed
    obtain ⟨v, rfl, r1⟩ := rpl1 r
    cases r1
    exact .inl ⟨i, rfl, k _ _ G H h .refl (.int _)⟩
  · subst ed
    obtain ⟨v, rfl, r1⟩ := rpl1 r
    cases r1
    exact .inr ⟨i, rfl, k _ _ G H h .refl (.int _)⟩
def wMax : WL := fun ds P => ∃ i j : Int, ds = [.int i, .int j] ∧ P (.int (if j > i then j else i))
def wMin : WL := fun ds P => ∃ i j : Int, ds = [.int i, .int j] ∧ P (.int (if j < i then j else i))
theorem f_max (hc : X.calm = true) : Fn1 X (.builtin "max") (fun xs H Q => ∃ i j, xs = [.int i, .int j] ∧ Q (.int (if j > i then j else i)) H) wMax := by
  refine ⟨call_max2 hc, fun vs ds G H Q P r sm ⟨i, j, ed, h⟩ k => ?_⟩
  subst ed
  obtain ⟨v, u, rfl, r1, q⟩ := rpl2 r
  cases r1
  cases q
  exact ⟨i, j, rfl, k _ _ G H h .refl (.int _)⟩
theorem f_min (hc : X.calm = true) : Fn1 X (.builtin "min") (fun xs H Q => ∃ i j, xs = [.int i, .int j] ∧ Q (.int (if j < i then j else i)) H) wMin := by
  refine ⟨call_min2 hc, fun vs ds G H Q P r sm ⟨i, j, ed, h⟩ k => ?_⟩
  subst ed
  obtain ⟨v, u, rfl, r1, q⟩ := rpl2 r
  cases r1
  cases q
  exact ⟨i, j, rfl, k _ _ G H h .refl (.int _)⟩
theorem rpl_bls {K : PySem.W.Frag} {mg : Str → Option Value} {G : Hp} : ∀ {bs : List Bool} {vs : List V}, RpL K mg G vs (bs.map D.bl) → vs = bs.map V.bl
  | [], _, .nil => rfl
  | b :: bs, _, .cons a r => by
    cases a
    rw [rpl_bls r]
    rfl
theorem rpl_ints {K : PySem.W.Frag} {mg : Str → Option Value} {G : Hp} : ∀ {bs : List Int} {vs : List V}, RpL K mg G vs (bs.map D.int) → vs = bs.map V.int
  | [], _, .nil => rfl
  | b :: bs, _, .cons a r => by
    cases a
    rw [rpl_ints r]
    rfl
def wAll : WL := fun ds P => ∃ bs : List Bool, ds = [.lst (bs.map D.bl)] ∧ P (.bl (bs.all id))
def wSum : WL := fun ds P => ∃ ns : List Int, (ds = [.lst (ns.map D.int)] ∨ ds = [.frz (ns.map D.int)]) ∧ P (.int ns.sum)
theorem f_all (hc : X.calm = true) : Fn1 X (.builtin "all") (rAll X.K) wAll := by
  refine ⟨cr_all hc, fun vs ds G H Q P r sm ⟨bs, ed, h⟩ k => ?_⟩
  subst ed
  obtain ⟨v, rfl, r1⟩ := rpl1 r
  cases r1 with
  | lst a b =>
    cases rpl_bls b
    exact ⟨_, bs, rfl, SqL.of (sm _ _ a), k _ _ G H h .refl (.bl _)⟩
theorem f_sum (hc : X.calm = true) : Fn1 X (.builtin "sum") (rSum X.K) wSum := by
  refine ⟨cr_sum hc, fun vs ds G H Q P r sm ⟨bs, ed, h⟩ k => ?_⟩
  rcases ed with ed | ed
  · subst ed
    obtain ⟨v, rfl, r1⟩ := rpl1 r
    cases r1 with
    | lst a b =>
      cases rpl_ints b
      exact ⟨_, bs, rfl, SqL.of (sm _ _ a), k _ _ G H h .refl (.int _)⟩
  · subst ed
    obtain ⟨v, rfl, r1⟩ := rpl1 r
    cases r1 with
    | frz a b =>
      cases rpl_ints b
      exact ⟨_, bs, rfl, sql_mono sm a.sql, k _ _ G H h .refl (.int _)⟩
/-! ### isinstance -/
def tyD : D → Option String
  | .non => some "NoneType"
  | .bl _ => some "bool"
  | .int _ => some "int"
  | .str _ => some "str"
  | .lst _ => some "list"
  | .tup _ => some "tuple"
  | .dic _ _ => some "dict"
  | .frz _ => some "list"
  | _ => none
theorem rp_tyX {K : PySem.W.Frag} {mg : Str → Option Value} {G H : Hp} (sm : Same G H) {v : V} {d : D} {n : String} (r : Rp K mg G v d) (h : tyD d = some n) : TyX K H v (.type n) := by
  cases r with
  | non => cases h; exact .base .non
  | bl b => cases h; exact .base (.bl b)
  | int b => cases h; exact .base (.int b)
  | str b => cases h; exact .base (.str b)
  | lst a b => cases h; exact .base (.lst (sm _ _ a))
  | tup a b =>
    cases h
    rcases sqt_mono sm a with (q | ⟨o, q⟩) | ⟨o, its, n, hk, hc, _⟩
    · exact .base (.tup q)
    · exact .fTuple q
    · exact .kTuple hk hc
  | dic a _ b => cases h; exact .base (.dK (sm _ _ a))
  | frz a b =>
    cases h
    rcases sql_mono sm a.sql with (q | ⟨o, q⟩) | ⟨o, its, n, hk, hc, _⟩
    · exact .base (.lst q)
    · exact .base (.frz q)
    · exact .kList hk hc
  | _ => cases h
/-- is a built-in type's value an instance of another: a table -/
def kitL (a : String) : List String → Option Bool
  | [] => some false
  | b :: bs => match kitB a b with
    | some true => some true
    | some false => kitL a bs
    | none => none
theorem kit_all {K : PySem.W.Frag} {a : String} : ∀ {l : List String} {r : Bool}, kitL a l = some r → PySem.W.kitAny K (.type a) (l.map Value.type) = some r
  | [], r, h => by
    simp only [kitL] at h
    cases h
    exact kitAny_nil
  | b :: bs, r, h => by
    simp only [kitL] at h
    cases e : kitB a b with
    | none => rw [e] at h; cases h
    | some q =>
      rw [e] at h
      refine kitAny_cons (b := q) (kit_ty e) (fun z => ?_) fun z => ?_
      · subst z
        exact kit_all h
      · subst z
        cases h
        rfl
/-- isinstance(x, T), isinstance(x, (T, U, ..)), the types built-in -/
def wIsi (l : List String) (d : D) (P : D → Prop) : Prop := ∃ n b, tyD d = some n ∧ kitL n l = some b ∧ P (.bl b)
theorem clsV_tys : ∀ l : List String, Paired ClsV (l.map V.ty) (l.map Value.type)
  | [] => .nil
  | t :: l => .cons (.ty t) (clsV_tys l)
def mIsi {S : Type} (l : List String) (m : ME S) : ME S := fun ρ s P R => m ρ s (fun d s1 => wIsi l d fun b => P b s1) R
section
variable {S : Type} {Φ : S → Hp → Hp → Prop} {W : WX} [Frm Φ]
theorem de_isiT {l : List String} {ts : List Expr} {tt : TA} {e : Expr} {te : TE} {m : ME S} {p p2 pos : Pos} {k : Nat} (hg : Gl X "isinstance") (hm : X.mg "isinstance" = none) (h : DE X Φ W e te m) (ht : PA X ts tt) (hl : ∀ (σ : Sig) (H : Hp) (Q : List V → Hp → Prop), Q (l.map V.ty) H → tt σ H Q)
    (hz : l.length ≤ sizeLine) (h1 : starEach [e, .Tuple ts k p2] X.env = (false, eval e X.env) :: starEach [.Tuple ts k p2] X.env := by rfl) (h2 : starEach [.Tuple ts k p2] X.env = (false, eval (.Tuple ts k p2) X.env) :: starEach [] X.env := by rfl) (hpl : (backTo pos (starEach [.Tuple ts k p2] X.env)).any (·.1) = false := by rfl) :
    DE X Φ W (.Call (.Name "isinstance" p) [e, .Tuple ts k p2] [] pos) (tCB (rIsiT X.K) (tCons te (tCons (tTup tt) tNil))) (mIsi l m) :=
  ⟨pe_callB call_isiT hg hm (by decide +kernel) (pa_cons h.pe (pa_cons (pe_tup ht) pa_nil h2) h1) (by decide) (by decide) h1 hpl, fun σ ρ s G H Q P R hρ f hW hmm k => by
    refine h.sem σ ρ s G H _ _ R hρ f hW hmm fun d s1 v G1 H1 ⟨n, b, h1, h2, h3⟩ e1 f1 r1 => ?_
    refine hl _ _ _ ⟨by rw [List.length_map]; exact hz, fun tp np => ?_⟩
    have r2 := r1.mono (same_new (o := .tup (l.map V.ty)) ((Frm.same f1).free np))
    refine ⟨v, tp, _, _, _, b, rfl, upd_same, clsV_tys l, rp_tyX (same_both (Frm.same f1) np) r2 h1, kit_all h2, ?_⟩
    exact k _ s1 _ _ _ h3 (e1.trans (same_new ((Frm.same f1).free np))) (Frm.ext f1 np) (.bl b)⟩
theorem de_isi {T : String} {e : Expr} {te : TE} {m : ME S} {p p2 pos : Pos} {x : Str} (hg : Gl X "isinstance") (hm : X.mg "isinstance" = none) (h : DE X Φ W e te m) (hT : PE X (.Name x p2) (tC (.ty T)))
    (h1 : starEach [e, .Name x p2] X.env = (false, eval e X.env) :: starEach [.Name x p2] X.env := by rfl) (h2 : starEach [.Name x p2] X.env = (false, eval (.Name x p2) X.env) :: starEach [] X.env := by rfl) (hpl : (backTo pos (starEach [.Name x p2] X.env)).any (·.1) = false := by rfl) :
    DE X Φ W (.Call (.Name "isinstance" p) [e, .Name x p2] [] pos) (tCB (rIsi X.K) (tCons te (tCons (tC (.ty T)) tNil))) (mIsi [T] m) :=
  ⟨pe_callB call_isi hg hm (by decide +kernel) (pa_cons h.pe (pa_cons hT pa_nil h2) h1) (by decide) (by decide) h1 hpl, fun σ ρ s G H Q P R hρ f hW hmm k => by
    refine h.sem σ ρ s G H _ _ R hρ f hW hmm fun d s1 v G1 H1 ⟨n, b, q1, q2, q3⟩ e1 f1 r1 => ?_
    refine ⟨v, _, _, _, b, rfl, .ty T, rp_tyX (Frm.same f1) r1 q1, ?_, k _ s1 _ G1 H1 q3 e1 f1 (.bl b)⟩
    simp only [kitL] at q2
    cases e : kitB n T with
    | none => rw [e] at q2; cases q2
    | some q =>
      rw [e] at q2
      cases q <;> (cases q2; exact kit_ty e)⟩
/-- a built-in type's name -/
theorem pe_tyn {x : Str} {T : String} {pos : Pos} (hg : Gl X x) (hm : X.mg x = none) (hv : bootBuiltins x = some (.type T)) (hn : x ≠ "__name__" := by decide) (hd : (x == ("__debug__" : Str)) = false := by decide) : PE X (.Name x pos) (tC (.ty T)) := pe_bltn hg hm hv rfl hn hd
end
/-- isinstance(x, C), C an own class: what it answers is told by the table -/
structure IsiC (K : PySem.W.Frag) (mg : Str → Option Value) (c : Addr) (tb : D → Option Bool) : Prop where
  yes : ∀ (G H : Hp) (v : V) (d : D) (b : Bool), Same G H → Rp K mg G v d → tb d = some b → ∃ t, TyX K H v t ∧ PySem.W.kitOne K t (.ref c) = some b
def mIsiC {S : Type} (tb : D → Option Bool) (m : ME S) : ME S := fun ρ s P R => m ρ s (fun d s1 => ∃ b, tb d = some b ∧ P (.bl b) s1) R
theorem de_isiC {S : Type} {Φ : S → Hp → Hp → Prop} {W : WX} [Frm Φ] {c : Addr} {tb : D → Option Bool} {e : Expr} {te : TE} {m : ME S} {p p2 pos : Pos} {x : Str} (T : IsiC X.K X.mg c tb) (hg : Gl X "isinstance") (hm : X.mg "isinstance" = none) (hgx : Gl X x) (hx : X.mg x = some (.ref c)) (h : DE X Φ W e te m) (hd : (x == ("__debug__" : Str)) = false := by decide)
    (h1 : starEach [e, .Name x p2] X.env = (false, eval e X.env) :: starEach [.Name x p2] X.env := by rfl) (h2 : starEach [.Name x p2] X.env = (false, eval (.Name x p2) X.env) :: starEach [] X.env := by rfl) (hpl : (backTo pos (starEach [.Name x p2] X.env)).any (·.1) = false := by rfl) :
    DE X Φ W (.Call (.Name "isinstance" p) [e, .Name x p2] [] pos) (tCB (rIsi X.K) (tCons te (tCons (tC (.ref c)) tNil))) (mIsiC tb m) :=
  ⟨pe_callB call_isi hg hm (by decide +kernel) (pa_cons h.pe (pa_cons (pe_glob hgx hx rfl hd) pa_nil h2) h1) (by decide) (by decide) h1 hpl, fun σ ρ s G H Q P R hρ f hW hmm k => by
    refine h.sem σ ρ s G H _ _ R hρ f hW hmm fun d s1 v G1 H1 ⟨b, q1, q3⟩ e1 f1 r1 => ?_
    obtain ⟨t, ty, kt⟩ := T.yes G1 H1 v d b (Frm.same f1) r1 q1
    exact ⟨v, _, t, _, b, rfl, .own c, ty, kt, k _ s1 _ G1 H1 q3 e1 f1 (.bl b)⟩⟩
/-! ### places and cuts -/
def wIx : W2 := fun a b P => ∃ i : Int, b = .int i ∧ match a with
  | .lst x => ∃ d, atI x i = some d ∧ P d
  | .tup x => ∃ d, atI x i = some d ∧ P d
  | .frz x => ∃ d, atI x i = some d ∧ P d
  | _ => False
structure Ix2 (X : Cx) (r : R2) (w : W2) : Prop where
  ix : IxR X r
  sem : ∀ (x y : V) (a b : D) (G H : Hp) (Q : VK) (P : D → Prop), Rp X.K X.mg G x a → Rp X.K X.mg G y b → Same G H → w a b P → (∀ (d : D) (v : V) (G' H' : Hp), P d → Ext G H G' H' → Rp X.K X.mg G' v d → Q v H') → r x y H Q
theorem x_seq : Ix2 X (rIx X.K) wIx := by
  refine ⟨ix_seq, fun x y a b G H Q P ra rb sm ⟨i, eb, h⟩ k => ?_⟩
  subst eb
  cases rb
  cases ra with
  | lst p q =>
    obtain ⟨d, e, h⟩ := h
    obtain ⟨v, hv, rv⟩ := rp_at q e
    exact .inl ⟨_, _, i, v, rfl, rfl, SqL.of (sm _ _ p), hv, k _ _ G H h .refl rv⟩
  | tup p q =>
    obtain ⟨d, e, h⟩ := h
    obtain ⟨v, hv, rv⟩ := rp_at q e
    exact .inr (.inl ⟨_, _, i, v, rfl, rfl, sqt_mono sm p, hv, k _ _ G H h .refl rv⟩)
  | frz p q =>
    obtain ⟨d, e, h⟩ := h
    obtain ⟨v, hv, rv⟩ := rp_at q e
    exact .inl ⟨_, _, i, v, rfl, rfl, sql_mono sm p.sql, hv, k _ _ G H h .refl rv⟩
  | _ => exact h.elim
theorem de_ix {S : Type} {Φ : S → Hp → Hp → Prop} {W : WX} [Frm Φ] {te tb : TE} {r : R2} {w : W2} {a b : Expr} {ma mb : ME S} {pos : Pos} (o : Ix2 X r w) (ha : DE X Φ W a te ma) (hb : DE X Φ W b tb mb) (hs : PlainIx b := by exact fun _ _ => rfl) : DE X Φ W (.Subscript a b pos) (tOp r te tb) (mBin w ma mb) :=
  ⟨pe_ix o.ix ha.pe hb.pe hs, fun σ ρ s G H Q P R hρ f hW h k => by
    refine ha.sem σ ρ s G H _ _ R hρ f hW h fun x s1 u G1 H1 h1 e1 f1 r1 => ?_
    refine hb.sem σ ρ s1 G1 H1 _ _ R (hρ.mono e1) f1 (hW.mono e1) h1 fun y s2 v G2 H2 h2 e2 f2 r2 => ?_
    refine o.sem u v x y G2 H2 _ _ (r1.mono e2) r2 (Frm.same f2) h2 fun d z G3 H3 p x3 r3 => ?_
    exact k d s2 z G3 H3 p ((e1.trans e2).trans (x3.out (Frm.same f2)).1) (Frm.exts x3 f2) r3⟩
abbrev MO (S : Type) := Rho → S → (Option Int → S → Prop) → (Exn → S → Prop) → Prop
structure DO1 {S : Type} (X : Cx) (Φ : S → Hp → Hp → Prop) (W : WX) (e : Option Expr) (t : TO) (m : MO S) : Prop where
  po : PO X e t
  sem : ∀ (σ : Sig) (ρ : Rho) (s : S) (G H : Hp) (Q : Option Int → Hp → Prop) (P : Option Int → S → Prop) (R : Exn → S → Prop), RelE X.K X.mg G σ ρ → Φ s G H → Wsh X.K X.mg Φ W G σ R → m ρ s P R →
    (∀ (i : Option Int) (s' : S) (G' H' : Hp), P i s' → Same G G' → Φ s' G' H' → Q i H') → t σ H Q
section
variable {S : Type} {Φ : S → Hp → Hp → Prop} {W : WX} [Frm Φ]
def mPs (m : ME S) : MO S := fun ρ s P R => m ρ s (fun d s1 => ∃ i, d = .int i ∧ P (some i) s1) R
theorem do_some {e : Expr} {te : TE} {m : ME S} (h : DE X Φ W e te m) : DO1 X Φ W (some e) (tPart te) (mPs m) :=
  ⟨po_some h.pe, fun σ ρ s G H Q P R hρ f hW hm k => h.sem σ ρ s G H _ _ R hρ f hW hm fun d s1 v G1 H1 ⟨i, ed, p⟩ e1 f1 r1 => by
    subst ed
    cases r1
    exact ⟨i, rfl, k _ s1 G1 H1 p e1 f1⟩⟩
def cutD (ds : List D) (lo hi : Option Int) : List D := (ds.drop (HT.sIx ds.length 0 lo)).take (HT.sIx ds.length ds.length hi - HT.sIx ds.length 0 lo)
def wCut (a : D) (lo hi : Option Int) (P : D → Prop) : Prop := match a with
  | .lst x => P (.lst (cutD x lo hi))
  | .tup x => P (.tup (cutD x lo hi))
  | .frz x => P (.lst (cutD x lo hi))
  | _ => False
def mSl (m : ME S) (l h : MO S) : ME S := fun ρ s P R => m ρ s (fun a s1 => l ρ s1 (fun i s2 => h ρ s2 (fun j s3 => wCut a i j fun d => P d s3) R) R) R
theorem cut_whole {ds : List D} {lo hi : Option Int} (h : HT.sIx ds.length 0 lo = 0 ∧ HT.sIx ds.length ds.length hi = ds.length) : cutD ds lo hi = ds := by
  unfold cutD
  rw [h.1, h.2]
  simp
theorem de_sl {e : Expr} {lo hi : Option Expr} {te : TE} {tl th : TO} {m : ME S} {l h : MO S} {pos p2 : Pos} (he : DE X Φ W e te m) (hl : DO1 X Φ W lo tl l) (hh : DO1 X Φ W hi th h) :
    DE X Φ W (.Subscript e (.Slice lo hi none p2) pos) (tSl (fun x lo hi H Q => rSlL X.K x lo hi H Q ∨ rSlA X.K x lo hi H Q) te tl th) (mSl m l h) :=
  ⟨pe_slice (SlR.or sl_list sl_tupA) he.pe hl.po hh.po, fun σ ρ s G H Q P R hρ f hW hm k => by
    refine he.sem σ ρ s G H _ _ R hρ f hW hm fun a s1 v G1 H1 h1 e1 f1 r1 => ?_
    refine hl.sem σ ρ s1 G1 H1 _ _ R (hρ.mono e1) f1 (hW.mono e1) h1 fun i s2 G2 H2 h2 e2 f2 => ?_
    refine hh.sem σ ρ s2 G2 H2 _ _ R ((hρ.mono e1).mono e2) f2 (hW.mono (e1.trans e2)) h2 fun j s3 G3 H3 h3 e3 f3 => ?_
    have sm := Frm.same f3
    have r3 := r1.mono (e2.trans e3)
    have e13 := (e1.trans e2).trans e3
    cases r1 with
    | lst p q =>
      cases r3 with
      | lst p q => exact .inl ⟨_, _, rfl, SqL.of (sm _ _ p), fun z nz => k _ s3 _ _ _ h3 (e13.trans (same_new (sm.free nz))) (Frm.ext f3 nz) (.lst upd_same ((rp_cut q).mono (same_new (sm.free nz))))⟩
    | frz p q =>
      cases r3 with
      | frz p q => exact .inl ⟨_, _, rfl, sql_mono sm p.sql, fun z nz => k _ s3 _ _ _ h3 (e13.trans (same_new (sm.free nz))) (Frm.ext f3 nz) (.lst upd_same ((rp_cut q).mono (same_new (sm.free nz))))⟩
    | tup p q =>
      have r4 := r3
      cases r3 with
      | tup p q =>
        have hlen := q.len
        refine .inr ⟨_, _, rfl, sqt_mono sm p, fun hw => ?_, fun hw z nz => k _ s3 _ _ _ h3 (e13.trans (same_new (sm.free nz))) (Frm.ext f3 nz) (.tup (SqT.of upd_same) ((rp_cut q).mono (same_new (sm.free nz))))⟩
        rw [hlen] at hw
        have ew := cut_whole hw
        refine k _ s3 _ G3 H3 h3 e13 f3 ?_
        rw [ew]
        exact r4
    | _ => exact h3.elim⟩
end
end
end DL

set_option Elab.async false
set_option linter.all false
set_option maxRecDepth 100000
set_option maxHeartbeats 1000000
namespace DL
open PySem PySem.Spec PyProof.Rows L2

/-! ### repr -/
mutual
/-- a tree's datum, an empty dict too -/
def toPd : D → Option PyData
  | .non => some .none
  | .bl b => some (.bool b)
  | .int i => some (.int i)
  | .str x => some (.str x)
  | .lst ds => (toPdL ds).map .list
  | .tup ds => (toPdL ds).map .tuple
  | .dic [] [] => some (.dict [])
  | _ => none
def toPdL : List D → Option (List PyData)
  | [] => some []
  | d :: ds => match toPd d, toPdL ds with
    | some p, some ps => some (p :: ps)
    | _, _ => none
end
section
variable {X : Cx} {pins : List (Addr × Obj)} {σ : Sig} {G H : Hp} {s : Shared} {mg : Str → Option Value}
theorem not_mods (hk : ∃ mm, X.base.Ns sysModules mm) (I : Inv X pins σ H s) {a : Addr} {o : HO} (h : H a = some o) : a ≠ sysModules := fun e => by
  obtain ⟨mm, ob, es, ep, hk, _⟩ := hk
  have q := (I.bs _ _ hk).2
  rw [e] at h
  rw [h] at q
  cases q
mutual
theorem rp_reads (hk : ∃ mm, X.base.Ns sysModules mm) (I : Inv X pins σ H s) (sm : Same G H) : ∀ {v : V} {d : D} {p : PyData} {u : Value}, Rp X.K mg G v d → toPd d = some p → RelV v u → ∃ as, Reads s.heap u p as ∧ sysModules ∉ as
  | _, _, _, _, .non, h, r => by
    simp only [toPd] at h
    cases h
    cases r
    exact ⟨_, .none, by simp⟩
  | _, _, _, _, .bl b, h, r => by
    simp only [toPd] at h
    cases h
    cases r
    exact ⟨_, .bool b, by simp⟩
  | _, _, _, _, .int b, h, r => by
    simp only [toPd] at h
    cases h
    obtain ⟨t, rfl⟩ := r
    exact ⟨_, .int b t, by simp⟩
  | _, _, _, _, .str b, h, r => by
    simp only [toPd] at h
    cases h
    obtain ⟨t, rfl⟩ := r
    exact ⟨_, .str b t, by simp⟩
  | _, _, _, _, .lst q rl, h, r => by
    simp only [toPd, Option.map_eq_some_iff] at h
    obtain ⟨ps, h, rfl⟩ := h
    cases r
    obtain ⟨its, rv, ⟨o, n, ho, hc, _, hd⟩, _⟩ := I.list (SqL.of (sm _ _ q))
    obtain ⟨as, hr, hn⟩ := rpl_reads hk I sm rl h rv
    exact ⟨_, .list ho hc hd hr, by simp only [List.mem_cons, not_or]; exact ⟨fun e => not_mods hk I (sm _ _ q) e.symm, hn⟩⟩
  | _, _, _, _, .tup q rl, h, r => by
    simp only [toPd, Option.map_eq_some_iff] at h
    obtain ⟨ps, h, rfl⟩ := h
    cases r
    obtain ⟨its, rv, ⟨o, ho, hc, n, hd⟩, _⟩ := I.tuple (sqt_mono sm q)
    obtain ⟨as, hr, hn⟩ := rpl_reads hk I sm rl h rv
    exact ⟨_, .tuple ho hc hd hr, hn⟩
  | _, _, _, _, .dic (ks := ks) (vs := vs) (ds := ds) q l rl, h, r => by
    cases ks with
    | cons _ _ => simp [toPd] at h
    | nil =>
      cases ds with
      | cons _ _ => simp [toPd] at h
      | nil =>
        simp only [toPd] at h
        cases h
        cases r
        obtain ⟨_, hm, vs', hkv, o, es, ep, ho, hex, hd, _, hpr, _⟩ := I.hok _ _ (sm _ _ q)
        cases vs with
        | cons _ _ => exact absurd l (by simp)
        | nil =>
          cases hkv
          have e0 : es.toList = [] := by
            generalize es.toList = l at hpr
            cases hpr
            rfl
          have ra : ReadsAll s.heap (es.toList.map fun x => x.key) (([] : List (PyData × PyData)).map fun x => x.1) [] := by
            rw [e0]
            exact .nil
          have rb : ReadsAll s.heap (es.toList.map fun x => x.val) (([] : List (PyData × PyData)).map fun x => x.2) [] := by
            rw [e0]
            exact .nil
          refine ⟨_, Reads.dict (kvs := []) ho hex.1 hd ra rb, fun hx => ?_⟩
          have hx := List.mem_singleton.mp hx
          rw [← hx] at hm
          simp at hm
  | _, _, _, _, .ins _ _ _ _, h, _ => by simp [toPd] at h
  | _, _, _, _, .frz _ _, h, _ => by simp [toPd] at h
  | _, _, _, _, .loc _, h, _ => by simp [toPd] at h
  | _, _, _, _, .cls _, h, _ => by simp [toPd] at h
  | _, _, _, _, .ty _, h, _ => by simp [toPd] at h
theorem rpl_reads (hk : ∃ mm, X.base.Ns sysModules mm) (I : Inv X pins σ H s) (sm : Same G H) : ∀ {vs : List V} {ds : List D} {ps : List PyData} {us : List Value}, RpL X.K mg G vs ds → toPdL ds = some ps → Vals vs us → ∃ as, ReadsAll s.heap us ps as ∧ sysModules ∉ as
  | _, _, _, _, .nil, h, r => by
    simp only [toPdL] at h
    cases h
    cases r
    exact ⟨_, .nil, by simp⟩
  | _, _, _, _, .cons (d := d) (ds := ds) a b, h, r => by
    simp only [toPdL] at h
    cases e1 : toPd d with
    | none => simp [e1] at h
    | some p =>
      cases e2 : toPdL ds with
      | none => simp [e1, e2] at h
      | some ps =>
        simp [e1, e2] at h
        subst h
        cases r with
        | cons r1 r2 =>
          obtain ⟨as, h1, n1⟩ := rp_reads hk I sm a e1 r1
          obtain ⟨bs, h2, n2⟩ := rpl_reads hk I sm b e2 r2
          exact ⟨_, .cons h1 h2, by simp only [List.mem_append, not_or]; exact ⟨n1, n2⟩⟩
end
end
def wRepr : WL := fun ds P => ∃ d p, ds = [d] ∧ toPd d = some p ∧ p.showable = true ∧ p.depth ≤ 60 ∧ p.shown.length ≤ sizeLine ∧ P (.str p.shown)
/-- repr by values: any datum -/
def rRepr (K : PySem.W.Frag) (mg : Str → Option Value) : List V → Hp → VK → Prop := fun vs H Q => ∃ (v : V) (d : D) (p : PyData) (G : Hp), vs = [v] ∧ Same G H ∧ Rp K mg G v d ∧ toPd d = some p ∧ p.showable = true ∧ p.depth ≤ 60 ∧ p.shown.length ≤ sizeLine ∧ Q (.str p.shown) H
section
variable {X : Cx}
theorem reprObj_any {pins : List (Addr × Obj)} {σ : Sig} {H : Hp} {s : Shared} {v : V} {u : Value} {d : D} {p : PyData} {G : Hp} {Q : Value → Shared → Prop} (hk : ∃ mm, X.base.Ns sysModules mm) (hg : X.A.guards = some []) (hu : X.A.units + 64 < cLine) (I : Inv X pins σ H s) (ru : RelV v u) (sm : Same G H) (r : Rp X.K X.mg G v d) (hp : toPd d = some p)
    (hs : p.showable = true) (hd : p.depth ≤ 60) (hz : p.shown.length ≤ sizeLine) (q : ∀ t s', Inv X pins σ H s' → Q (.str p.shown t) s') : wpAny (model X.prog X.w) X.A (pyReprObj u) Q X.xe s := by
  obtain ⟨as, rd, hn⟩ := rp_reads hk I sm r hp ru
  cases rd with
  | none => exact pyReprObj_none (q _ _ (I.tok _))
  | bool b => exact pyReprObj_bool (q _ _ (I.tok _))
  | int i t => exact pyReprObj_int (by simpa [PyData.showable] using hs) (q _ _ (I.tok _))
  | str x t => exact pyReprObj_str (q _ _ (I.tok _)) (by simpa [PyData.shown] using hz)
  | list a b c e =>
    exact pyReprObj_of_reads (.list a b c e) hs (fun _ => hn) hg (by omega) (fun _ _ h => h) (fun h' t tk k => q t _ (I.kept k)) hz
  | tuple a b c e =>
    exact pyReprObj_of_reads (.tuple a b c e) hs (fun _ => hn) hg (by omega) (fun _ _ h => h) (fun h' t tk k => q t _ (I.kept k)) hz
  | dict a b c e f =>
    exact pyReprObj_of_reads (.dict a b c e f) hs (fun _ => hn) hg (by omega) (fun _ _ h => h) (fun h' t tk k => q t _ (I.kept k)) hz
theorem cr_repr (hk : ∃ mm, X.base.Ns sysModules mm) (hg : X.A.guards = some []) (hu : X.A.units + 64 < cLine) : CallR X (.builtin "repr") (rRepr X.K X.mg) := by
  intro pins s σ H vs us Q I r h
  obtain ⟨v, d, p, G, rfl, sm, rd, hp, hs, hd, hz, q⟩ := h
  obtain ⟨u, rfl, ru⟩ := vals1 r
  obtain ⟨as, rr, hn⟩ := rp_reads hk I sm rd hp ru
  have fin : ∀ (t : Tok) (h' : Heap) (tk : Nat), (∀ b o, s.heap.get? b = some o → h'.get? b = some o) → EP X pins σ Q (.str p.shown t) { s with heap := h', toks := tk } := fun t h' tk k => ⟨.str p.shown, H, I.kept k, ⟨t, rfl⟩, q⟩
  cases rr with
  | none => exact P.repr_of_none (fin _ _ _ fun _ _ h => h)
  | bool b => exact P.repr_of_bool (fin _ _ _ fun _ _ h => h)
  | int i t => exact P.repr_of_int (by simpa [PyData.showable] using hs) (fin _ _ _ fun _ _ h => h)
  | str x t => exact P.repr_of_str (fin _ _ _ fun _ _ h => h) (by simpa [PyData.shown] using hz)
  | list a b c e => exact repr_of_reads' (.list a b c e) hs (fun _ => hn) hg (by omega) (fun _ _ h => h) (fun h' t tk k => fin t h' tk k) hz
  | tuple a b c e => exact repr_of_reads' (.tuple a b c e) hs (fun _ => hn) hg (by omega) (fun _ _ h => h) (fun h' t tk k => fin t h' tk k) hz
  | dict a b c e f => exact repr_of_reads' (.dict a b c e f) hs (fun _ => hn) hg (by omega) (fun _ _ h => h) (fun h' t tk k => fin t h' tk k) hz
theorem f_repr (hk : ∃ mm, X.base.Ns sysModules mm) (hg : X.A.guards = some []) (hu : X.A.units + 64 < cLine) : Fn1 X (.builtin "repr") (rRepr X.K X.mg) wRepr := by
  refine ⟨cr_repr hk hg hu, fun vs ds G H Q P r sm ⟨d, p, ed, h1, h2, h3, h4, h⟩ k => ?_⟩
  subst ed
  obtain ⟨v, rfl, r1⟩ := rpl1 r
  exact ⟨v, d, p, G, rfl, sm, r1, h1, h2, h3, h4, k _ _ G H h .refl (.str _)⟩
end
end DL

set_option Elab.async false
set_option linter.all false
set_option maxRecDepth 100000
set_option maxHeartbeats 1000000
namespace DL
open PySem PySem.Spec PyProof.Rows L2

/-! ### f-strings -/
section
variable {S : Type} {X : Cx} {Φ : S → Hp → Hp → Prop} {W : WX} [Frm Φ]
/-- {x!r} -/
def tShow (K : PySem.W.Frag) (mg : Str → Option Value) (te : TE) : TE := fun σ H Q => te σ H fun v H1 => ∃ (d : D) (p : PyData) (G : Hp), Same G H1 ∧ Rp K mg G v d ∧ toPd d = some p ∧ p.showable = true ∧ p.depth ≤ 60 ∧ p.shown.length ≤ sizeLine ∧ Q (.str p.shown) H1
def mShow (m : ME S) : ME S := fun ρ s P R => m ρ s (fun d s1 => ∃ p, toPd d = some p ∧ p.showable = true ∧ p.depth ≤ 60 ∧ p.shown.length ≤ sizeLine ∧ P (.str p.shown) s1) R
theorem de_show {e : Expr} {te : TE} {m : ME S} {pos : Pos} (hk : ∃ mm, X.base.Ns sysModules mm) (hg : X.A.guards = some []) (hu : X.A.units + 64 < cLine) (h : DE X Φ W e te m) : DE X Φ W (.FormattedValue e 114 none pos) (tShow X.K X.mg te) (mShow m) := by
  refine ⟨⟨fun pins s σ H Q I hh => ?_⟩, fun σ ρ s G H Q P R hρ f hW hm k => h.sem σ ρ s G H _ _ R hρ f hW hm fun d s1 v G1 H1 ⟨p, h1, h2, h3, h4, h5⟩ e1 f1 r1 => ⟨d, p, G1, Frm.same f1, r1, h1, h2, h3, h4, k _ s1 _ G1 H1 h5 e1 f1 (.str _)⟩⟩
  refine wpAny_FormattedValue_repr (thn (h.pe.run pins s σ H _ I hh) fun u s1 ⟨v, H1, I1, rv, d, p, G, sm, rd, hp, hs, hd, hz, q⟩ => ?_)
  refine reprObj_any hk hg hu I1 rv sm rd hp hs hd hz fun t s' I' => ?_
  exact wpAny_formatField_str ⟨.str p.shown, H1, I', ⟨_, rfl⟩, q⟩ ⟨.str p.shown, H1, I'.tok _, ⟨_, rfl⟩, q⟩ hz
inductive DJ (X : Cx) (Φ : S → Hp → Hp → Prop) (W : WX) : List Expr → List TE → List (ME S) → Prop
  | nil : DJ X Φ W [] [] []
  | cons {e : Expr} {te : TE} {m : ME S} {es : List Expr} {ts : List TE} {ms : List (ME S)} : DE X Φ W e te m → DJ X Φ W es ts ms → DJ X Φ W (e :: es) (te :: ts) (m :: ms)
theorem DJ.pj {es : List Expr} {ts : List TE} {ms : List (ME S)} (h : DJ X Φ W es ts ms) : PJ X es ts := by
  induction h with
  | nil => exact .nil
  | cons a _ ih => exact .cons a.pe ih
def mJs : List (ME S) → Str → Rho → S → (Str → S → Prop) → (Exn → S → Prop) → Prop
  | [], acc, _, s, P, _ => P acc s
  | m :: ms, acc, ρ, s, P, R => m ρ s (fun d s1 => ∃ y, d = .str y ∧ (acc ++ y).length ≤ sizeLine ∧ mJs ms (acc ++ y) ρ s1 P R) R
theorem js_sem {es : List Expr} {ts : List TE} {ms : List (ME S)} (h : DJ X Φ W es ts ms) : ∀ (acc : Str) (σ : Sig) (ρ : Rho) (s : S) (G H : Hp) (Q : Str → Hp → Prop) (P : Str → S → Prop) (R : Exn → S → Prop), RelE X.K X.mg G σ ρ → Φ s G H → Wsh X.K X.mg Φ W G σ R → mJs ms acc ρ s P R →
    (∀ (y : Str) (s' : S) (G' H' : Hp), P y s' → Same G G' → Φ s' G' H' → Q y H') → tJs ts acc σ H Q := by
  induction h with
  | nil => exact fun acc σ ρ s G H Q P R hρ f hW h k => k acc s G H h (Same.refl _) f
  | cons a _ ih =>
    intro acc σ ρ s G H Q P R hρ f hW h k
    refine a.sem σ ρ s G H _ _ R hρ f hW h fun d s1 v G1 H1 ⟨y, ed, hl, h1⟩ e1 f1 r1 => ?_
    subst ed
    cases r1
    exact ⟨y, rfl, hl, ih _ σ ρ s1 G1 H1 Q P R (hρ.mono e1) f1 (hW.mono e1) h1 fun z s' G' H' p q => k z s' G' H' p (e1.trans q)⟩
def mJoin (ms : List (ME S)) : ME S := fun ρ s P R => mJs ms Str.empty ρ s (fun y s1 => P (.str y) s1) R
theorem de_join {v1 v2 : Expr} {rest : List Expr} {ts : List TE} {ms : List (ME S)} {pos : Pos} (h : DJ X Φ W (v1 :: v2 :: rest) ts ms) : DE X Φ W (.JoinedStr (v1 :: v2 :: rest) pos) (fun σ H Q => tJs ts Str.empty σ H fun out H1 => Q (.str out) H1) (mJoin ms) :=
  ⟨pe_joined h.pj, fun σ ρ s G H Q P R hρ f hW hm k => js_sem h Str.empty σ ρ s G H _ _ R hρ f hW hm fun y s' G' H' p q f' => k _ s' _ G' H' p q f' (.str y)⟩
end

section
variable {X : Cx} {Φ : OH → Hp → Hp → Prop} {W : WX} [FΦ : OFrm X.K X.mg Φ]
/-! ### one's own lists -/
def mLstO (n : MA OH) : ME OH := fun ρ O P R => n ρ O (fun ds O1 => ds.length ≤ sizeLine ∧ ∀ p, O1 p = none → P (.loc p) (O1.put p (.lst ds))) R
include FΦ in
theorem own_free {O : OH} {G H : Hp} {p : Addr} (f : Φ O G H) (n : H p = none) : O p = none := by
  cases z : O p with
  | none => rfl
  | some y =>
    obtain ⟨_, o, q, _⟩ := FΦ.own f z
    rw [n] at q
    cases q
theorem de_lstO {es : List Expr} {ta : TA} {n : MA OH} {pos : Pos} (h : DA X Φ W es ta n) : DE X Φ W (.List es pos) (tLst ta) (mLstO n) :=
  ⟨pe_lst h.pa, fun σ ρ s G H Q P R hρ f hW hm k => h.sem σ ρ s G H _ _ R hρ f hW hm fun ds s1 vs G1 H1 ⟨hl, h1⟩ e1 f1 r1 =>
    ⟨by rw [r1.len]; exact hl, fun p np => k _ _ _ G1 _ (h1 p (own_free (X := X) f1 np)) e1 (FΦ.new f1 np (.lst r1)) (.loc p)⟩⟩
/-- one's own object, handed on as a tree -/
def mFrz (m : ME OH) : ME OH := fun ρ O P R => m ρ O (fun x O1 => ∃ a y, x = .loc a ∧ O1 a = some y ∧ P y.tree (O1.del a)) R
theorem de_frz {e : Expr} {te : TE} {m : ME OH} (h : DE X Φ W e te m) : DE X Φ W e te (mFrz m) :=
  ⟨h.pe, fun σ ρ s G H Q P R hρ f hW hm k => h.sem σ ρ s G H _ _ R hρ f hW hm fun d s1 v G1 H1 ⟨a, y, ed, oa, p⟩ e1 f1 r1 => by
    subst ed
    cases r1
    obtain ⟨G2, e2, f2, r2⟩ := FΦ.frz f1 oa
    exact k _ _ _ G2 H1 p (e1.trans e2) f2 r2⟩
/-- xs.append(e) -/
def mApp (m : ME OH) (n : ME OH) : ME OH := fun ρ O P R => m ρ O (fun x O1 => ∃ a, x = .loc a ∧ (∃ ds, O1 a = some (.lst ds)) ∧ n ρ O1 (fun y O2 => ∃ ds, O2 a = some (.lst ds) ∧ ds.length < sizeLine ∧ P .non (O2.put a (.lst (ds ++ [y])))) R) R
theorem de_app {o e : Expr} {te tv : TE} {m n : ME OH} {apos pos : Pos} (h : DE X Φ W o te m) (h' : DE X Φ W e tv n) (hp : PE X (.Call (.Attribute o "append" apos) [e] [] pos) (tBM X.K "list" rAppend te (tCons tv tNil))) :
    DE X Φ W (.Call (.Attribute o "append" apos) [e] [] pos) (tBM X.K "list" rAppend te (tCons tv tNil)) (mApp m n) :=
  ⟨hp, fun σ ρ s G H Q P R hρ f hW hm k => h.sem σ ρ s G H _ _ R hρ f hW hm fun x s1 v G1 H1 ⟨a, ex, ⟨ds0, oa⟩, h1⟩ e1 f1 r1 => by
    subst ex
    cases r1
    obtain ⟨_, o, ho, ro⟩ := FΦ.own f1 oa
    cases ro
    refine ⟨.inl ⟨rfl, _, SqL.of ho⟩, ?_⟩
    refine h'.sem σ ρ s1 G1 H1 _ _ R (hρ.mono e1) f1 (hW.mono e1) h1 fun y s2 u G2 H2 ⟨ds, ob, hl, p⟩ e2 f2 r2 => ?_
    obtain ⟨_, o2, ho2, ro2⟩ := FΦ.own f2 ob
    cases ro2 with
    | lst rl => exact ⟨a, _, u, rfl, rfl, ho2, by rw [rl.len]; exact hl, k _ _ _ G2 _ p (e1.trans e2) (FΦ.put f2 ob (.lst (rl.app (.cons r2 .nil)))) .non⟩⟩
theorem de_appD {o e : Expr} {te tv : TE} {m n : ME OH} {apos pos : Pos} (h : DE X Φ W o te m) (h' : DE X Φ W e tv n)
    (h1 : attributeBase o "append" X.env (eval o X.env) = eval o X.env := by rfl)
    (h2 : ((backTo pos (starEach [e] X.env)).all (fun x => !x.1) && (backToKw pos (keywordEach [] X.env)).all (fun x => x.1.isSome) && decide ([e].length + ([] : List Keyword).length + (if ([] : List Keyword).isEmpty then 0 else 1) < 30)) = true := by rfl)
    (h3 : (apos.endLine == pos.line) = true := by rfl) (h4 : starEach [e] X.env = (false, eval e X.env) :: starEach [] X.env := by rfl) (h5 : (backTo pos (starEach [] X.env)).any (·.1) = false := by rfl) :
    DE X Φ W (.Call (.Attribute o "append" apos) [e] [] pos) (tBM X.K "list" rAppend te (tCons tv tNil)) (mApp m n) :=
  de_app h h' (pe_bm PySem.F.plainAttrs_list PySem.F.slot_list_append PySem.F.type_list_append mt_append h.pe (pa_cons h'.pe pa_nil h4) h1 h2 h3 h4 h5)
/-- xs[i] of one's own list -/
def mIxO (m n : ME OH) : ME OH := fun ρ O P R => m ρ O (fun x O1 => n ρ O1 (fun y O2 => ∃ a i ds d, x = .loc a ∧ y = .int i ∧ O2 a = some (.lst ds) ∧ atI ds i = some d ∧ P d O2) R) R
theorem de_ixO {a b : Expr} {te tb : TE} {ma mb : ME OH} {pos : Pos} (ha : DE X Φ W a te ma) (hb : DE X Φ W b tb mb) (hs : PlainIx b := by exact fun _ _ => rfl) : DE X Φ W (.Subscript a b pos) (tOp (rIxL X.K) te tb) (mIxO ma mb) :=
  ⟨pe_ix ix_list ha.pe hb.pe hs, fun σ ρ s G H Q P R hρ f hW h k => by
    refine ha.sem σ ρ s G H _ _ R hρ f hW h fun x s1 u G1 H1 h1 e1 f1 r1 => ?_
    refine hb.sem σ ρ s1 G1 H1 _ _ R (hρ.mono e1) f1 (hW.mono e1) h1 fun y s2 v G2 H2 ⟨c, i, ds, d, ex, ey, oc, hi, p⟩ e2 f2 r2 => ?_
    subst ex ey
    cases r1
    cases r2
    obtain ⟨_, o, ho, ro⟩ := FΦ.own f2 oc
    cases ro with
    | lst rl =>
      obtain ⟨z, hz, rz⟩ := rp_at rl hi
      exact ⟨c, _, i, z, rfl, rfl, SqL.of ho, hz, k d s2 z G2 H2 p (e1.trans e2) f2 rz⟩⟩
/-- xs[i] = e -/
def gSubO (m n : ME OH) : MG OH := fun d ρ O P => m ρ O (fun x O1 => n ρ O1 (fun y O2 => ∃ a i ds j, x = .loc a ∧ y = .int i ∧ O2 a = some (.lst ds) ∧ ixN ds.length i = some j ∧ P ρ (O2.put a (.lst (ds.set j d)))) R0) R0
theorem rpl_set {K : PySem.W.Frag} {mg : Str → Option Value} {G : Hp} {v : V} {d : D} (r : Rp K mg G v d) : ∀ {vs : List V} {ds : List D} (j : Nat), RpL K mg G vs ds → RpL K mg G (vs.set j v) (ds.set j d)
  | _, _, _, .nil => .nil
  | _, _, 0, .cons _ b => .cons r b
  | _, _, j + 1, .cons a b => .cons a (rpl_set r j b)
theorem dg_subO {o i : Expr} {to ti : TE} {m n : ME OH} {pos : Pos} (ho : DE X Φ W0 o to m) (hi : DE X Φ W0 i ti n)
    (ha : ∀ v, assign (.Subscript o i pos) X.env v = (do
      let ov ← holding [v] (eval o X.env)
      let iv ← holding [v, ov] (eval i X.env)
      standAt pos
      holding [v, ov, iv] (setItem ov iv v)
      release [v, ov, iv] []) := by intro _; rfl) : DG X Φ (.Subscript o i pos) (gSub to ti rSetL) (gSubO m n) [] :=
  ⟨pg_sub ho.pe hi.pe set_list ha, fun σ ρ s G H v d Q P hρ f r h k => by
    refine ho.sem σ ρ s G H _ _ R0 hρ f (fun _ _ _ _ _ _ _ _ _ z => z.elim) h fun x s1 u G1 H1 h1 e1 f1 r1 => ?_
    refine hi.sem σ ρ s1 G1 H1 _ _ R0 (hρ.mono e1) f1 (fun _ _ _ _ _ _ _ _ _ z => z.elim) h1 fun y s2 z G2 H2 ⟨a, i, ds, j, ex, ey, oa, hj, p⟩ e2 f2 r2 => ?_
    subst ex ey
    cases r1
    cases r2
    obtain ⟨_, o, hob, ro⟩ := FΦ.own f2 oa
    cases ro with
    | lst rl => exact ⟨a, _, i, j, rfl, rfl, hob, by rw [rl.len]; exact hj, k σ ρ _ G2 _ p (e1.trans e2) ((hρ.mono e1).mono e2) (FΦ.put f2 oa (.lst (rpl_set ((r.mono e1).mono e2) j rl))) fun _ _ => rfl⟩⟩
/-! ### properties -/
end
end DL

set_option Elab.async false
set_option linter.all false
set_option maxRecDepth 100000
set_option maxHeartbeats 2000000
namespace DL
open PySem PySem.Spec PyProof.Rows L2

/-! ### raise C(e): C an own class over ValueError whose __init__ stores its one argument -/
def spXI (C : Addr) (fld : Str) : Sp := fun vs H Q _ => ∃ (a : Addr) (y : V), vs = [.ref a, y] ∧ H a = some (exo a C none) ∧ ∀ dx, H dx = none → dx ≠ a → Q .non (upd (upd H dx (exd dx [(fld, y)])) a (exo a C (some dx)))
section
variable {P : Program} {w : World} {K : PySem.W.Frag} {mg : Str → Option Value} {base : Heap}
end
section
variable {X : Cx} {Φ : OH → Hp → Hp → Prop} {W : WX} [FΦ : OFrm X.K X.mg Φ]
def sRaise (C fld : Str) (n : MA OH) : MS OH := fun M ρ O => n ρ O (fun ds O1 => ∃ d, ds = [d] ∧ M.ex ⟨C, some ([fld], [d])⟩ ρ O1) (fun x O1 => M.ex x ρ O1)
theorem exo_end {H : Hp} {a dx : Addr} {u v : HO} {o : HO} (na : H a = none) (nd : dx ≠ a) : upd (L2.del (upd (upd (upd H a u) dx v) a o) a) dx (.xd [(fld, y)]) = upd H dx (.xd [(fld, y)]) := by
  funext b
  by_cases e : b = dx
  · subst e
    rw [upd_same, upd_same]
  · rw [upd_ne e, upd_ne e]
    by_cases e2 : b = a
    · subst e2
      rw [del_same, na]
    · rw [del_ne e2, upd_ne e2, upd_ne e, upd_ne e2]
/-! ### try: .. except C as n: .. -/
/-- within the suite: the error that it holds -/
def ExF (K : PySem.W.Frag) (mg : Str → Option Value) (Φ : OH → Hp → Hp → Prop) (cls : Value) (d : Option Addr) (x : Exn) : OH → Hp → Hp → Prop := fun O G H => Φ O G H ∧ ExR K mg G cls d x
instance {K : PySem.W.Frag} {mg : Str → Option Value} {Φ : OH → Hp → Hp → Prop} [F : OFrm K mg Φ] {cls : Value} {d : Option Addr} {x : Exn} : OFrm K mg (ExF K mg Φ cls d x) where
  same := fun h => F.same h.1
  ext := fun h n => ⟨F.ext h.1 n, h.2.mono (same_new ((F.same h.1).free n))⟩
  own := fun h o => F.own h.1 o
  new := fun h n r => ⟨F.new h.1 n r, h.2⟩
  put := fun h o r => ⟨F.put h.1 o r, h.2⟩
  frz := fun h o => by
    obtain ⟨G', s, p, r⟩ := F.frz h.1 o
    exact ⟨G', s, ⟨p, h.2.mono s⟩, r⟩
  less := fun h l => ⟨F.less h.1 l, h.2⟩
/-- a body's reading as its need -/
def cS (K : PySem.W.Frag) (mg : Str → Option Value) (Φ : OH → Hp → Hp → Prop) (W : WX) (m : MS OH) : TS := fun D σ H => ∃ (ρ : Rho) (O : OH) (G : Hp) (M : MEnds OH), RelE K mg G σ ρ ∧ Φ O G H ∧ m M ρ O ∧ EndsOk Φ W K mg G M D
def cSx (K : PySem.W.Frag) (mg : Str → Option Value) (Φ : OH → Hp → Hp → Prop) (ms : Addr → Exn → MS OH) (a : Addr) (cls : Value) (d : Option Addr) : TS := fun D σ H => ∃ x, cS K mg (ExF K mg Φ cls d x) W0 (ms a x) D σ H
end
end DL

set_option Elab.async false
set_option linter.all false
set_option maxRecDepth 100000
set_option maxHeartbeats 2000000
namespace DL
open PySem PySem.Spec PyProof.Rows L2

end DL
namespace PySem.W
open PySem PySem.Spec PySem.Calls PyProof.Rows
section
variable {prog : Program} {w : World} {A : Around} {E : Value → Shared → Prop} {s : Shared} {K : Frag} {x D : Addr} {ox od : Obj}
end
end PySem.W
namespace DL
open PySem PySem.Spec PyProof.Rows L2
/-- what is told of an error's class, for its fields -/
structure XcT (K : PySem.W.Frag) (C : Addr) (f : Str) : Prop where
  ga : PySem.W.findIn K (.ref C) "__getattribute__" = some (some (.builtin "BaseException.__getattribute__"))
  gg : PySem.W.findIn K (.ref C) "__getattr__" = some none
  noN : PySem.W.findIn K (.ref C) f = some none
  exC : PySem.W.subIn K (.ref C) (.type "BaseException") = some true
  hdC : PySem.W.hasDictIn K C = true
section
variable {X : Cx} {Φ : OH → Hp → Hp → Prop} [FΦ : OFrm X.K X.mg Φ]
end
/-! ### a == b by an own __eq__ -/
section
variable {X : Cx} {Φ : OH → Hp → Hp → Prop} {W : WX} [FΦ : OFrm X.K X.mg Φ]
/-- the other's type, as == looks at it -/
structure EqT (K : PySem.W.Frag) (mg : Str → Option Value) (C : Addr) (ok : D → Prop) : Prop where
  tb : ∀ (G H : Hp) (v : V) (d : D), Same G H → Rp K mg G v d → ok d → ∃ t, TyX K H v t ∧ PySem.W.notFirst K C t = true
def mEqI (C : Str) (g : WF) (ok : D → Prop) (ma mb : ME OH) : ME OH := fun ρ O P R => ma ρ O (fun a O1 => mb ρ O1 (fun b O2 => ∃ ns ds, a = .ins C ns ds ∧ ok b ∧ g [a, b] O2 (fun d O3 => ∃ k, d = .bl k ∧ P d O3) R) R) R
theorem de_eqI {k : Nat} {C f : Addr} {Cn : Str} {fd : FuncData} {n1 n2 : Str} {g : WF} {ok : D → Prop} {a b : Expr} {ta tb : TE} {ma mb : ME OH} {pos : Pos} (hC : X.mg Cn = some (.ref C)) (hs : PySem.W.findIn X.K (.ref C) "__eq__" = some (some (.ref f))) (hf : PySem.W.isFn X.K (.ref f) = true)
    (T : EqT X.K X.mg C ok) (F : FnG X.prog X.w X.K X.mg X.base k f fd [n1, n2] g) (hr : Rm k X) (hb : Binds X.K fd [n1, n2] []) (tk : Takes X W) (ha : DE X Φ W a ta ma) (hb' : DE X Φ W b tb mb) :
    DE X Φ W (.Compare a [.Eq] [b] pos) (fun σ H Q => ta σ H fun x H1 => tb σ H1 fun y H2 => ∃ p dx fs t, x = .ref p ∧ H2 p = some (.ins C dx fs) ∧ TyX X.K H2 y t ∧ PySem.W.notFirst X.K C t = true ∧ spO X.K X.mg 2 g [x, y] H2 (fun v H3 => ∃ k, v = .bl k ∧ Q v H3) (WE W σ)) (mEqI Cn g ok ma mb) := by
  refine ⟨⟨fun pins s σ H Q I h => ?_⟩, fun σ ρ O G H Q P R hρ f0 hW hm k => ?_⟩
  · refine wpAny_Compare1 (binT ha.pe hb'.pe I h fun u v s2 x y H2 I2 ru rv ⟨p, dx, fs, t, ex, hp, ty, nf, q⟩ => ?_) (nomark _)
    subst ex
    cases (show u = Value.ref p from ru)
    obtain ⟨mA, J, _⟩ := ins_get I2.hok hp
    obtain ⟨od, J, _⟩ := J.look
    obtain ⟨Pk, Z, pz, hx⟩ := kit_of I2 rv ty
    obtain ⟨m, hF⟩ := I2.fr
    show wpAny (model X.prog X.w) X.A (richCompare .Eq (.ref p) v) (EP X pins σ Q) X.xe s2
    refine PySem.W.cmp_K (op := .Eq) (tb := t) hr.room.units0 hF I2.ok.mod.kin J (Z.ty _ _ I2.kIn pz) nf hs hf ?_
    have go := runS (us := [.ref p, v]) (vs := [.ref p, y]) (dvs := []) (dflt := []) F hr hb .nil (passAt tk σ) I2 (.cons rfl (.cons rv .nil)) q
    refine thn go fun r s3 ⟨z, H3, I3, rz, kk, ez, q3⟩ => ?_
    subst ez
    cases rz
    exact ⟨.bl kk, H3, I3, rfl, q3⟩
  · refine ha.sem σ ρ O G H _ _ R hρ f0 hW hm fun x s1 u G1 H1 h1 e1 f1 r1 => ?_
    refine hb'.sem σ ρ s1 G1 H1 _ _ R (hρ.mono e1) f1 (hW.mono e1) h1 fun y s2 v G2 H2 ⟨ns, ds, ex, oky, hg⟩ e2 f2 r2 => ?_
    subst ex
    have r3 := r1.mono e2
    have r4 := r3
    obtain ⟨t, ty, nf⟩ := T.tb G2 H2 v y (Frm.same f2) r2 oky
    cases r3 with
    | ins mC hG hl rl =>
      rw [hC] at mC
      cases mC
      refine ⟨_, _, _, t, rfl, Frm.same f2 _ _ hG, ty, nf, spO_of f2 (.cons r4 (.cons r2 .nil)) rfl hg (fun d s' z G' H' ⟨kk, ed, p⟩ q f' rz => ?_) (hW.mono (e1.trans e2))⟩
      subst ed
      cases rz
      exact ⟨kk, rfl, k _ s' _ G' H' p ((e1.trans e2).trans q) f' (.bl kk)⟩
end
end DL

set_option Elab.async false
set_option linter.all false
set_option maxRecDepth 100000
set_option maxHeartbeats 2000000
namespace DL
open PySem PySem.Spec PyProof.Rows L2

section
variable {X : Cx}
/-! ### == where a list is empty, or of another length: whatever the items are -/
def rEqL (neg : Bool) : R2 := fun x y H Q => ∃ a b xs ys, x = .ref a ∧ y = .ref b ∧ H a = some (.lst xs) ∧ H b = some (.lst ys) ∧ (xs.length ≠ ys.length ∨ xs = []) ∧ Q (.bl (neg != decide (xs.length = ys.length))) H
theorem op_eqL (hu : X.A.units + 64 < cLine) : OpR X (compareOp .Eq) (rEqL false) := by
  intro pins s σ H x y v u Q I rx ry ⟨a, b, xs, ys, ex, ey, ha, hb, hl, q⟩
  subst ex ey
  cases rx
  cases ry
  obtain ⟨i1, r1, p1, _⟩ := I.list (SqL.of ha)
  obtain ⟨i2, r2, p2, _⟩ := I.list (SqL.of hb)
  have l1 := Vals.length r1
  have l2 := Vals.length r2
  by_cases e : xs.length = ys.length
  · have hx : xs = [] := hl.elim (fun z => absurd e z) id
    subst hx
    have e1 : i1 = [] := List.eq_nil_of_length_eq_zero l1.symm
    have e2 : i2 = [] := List.eq_nil_of_length_eq_zero (by rw [← l2, ← e]; rfl)
    subst e1 e2
    refine SeqAt.eq_listAt (e := fun _ => true) p1.isList p2.isList rfl (by omega) (fun j h1 _ => absurd h1 (by simp)) ⟨.bl true, H, I, rfl, ?_⟩
    rw [decide_eq_true e] at q
    exact q
  · refine SeqAt.eq_list_lengthsAt p1.isList p2.isList (by simpa [← l1, ← l2] using e) (by omega) ⟨.bl false, H, I, rfl, ?_⟩
    rw [decide_eq_false e] at q
    exact q
theorem op_neL (hu : X.A.units + 64 < cLine) : OpR X (compareOp .NotEq) (rEqL true) := by
  intro pins s σ H x y v u Q I rx ry ⟨a, b, xs, ys, ex, ey, ha, hb, hl, q⟩
  subst ex ey
  cases rx
  cases ry
  obtain ⟨i1, r1, p1, _⟩ := I.list (SqL.of ha)
  obtain ⟨i2, r2, p2, _⟩ := I.list (SqL.of hb)
  have l1 := Vals.length r1
  have l2 := Vals.length r2
  by_cases e : xs.length = ys.length
  · have hx : xs = [] := hl.elim (fun z => absurd e z) id
    subst hx
    have e1 : i1 = [] := List.eq_nil_of_length_eq_zero l1.symm
    have e2 : i2 = [] := List.eq_nil_of_length_eq_zero (by rw [← l2, ← e]; rfl)
    subst e1 e2
    rw [decide_eq_true e] at q
    exact SeqAt.RcNeAt.lists (A := X.A) (s := s) (e := fun _ => true) p1.isList p2.isList rfl (by omega) (fun j h1 _ => absurd h1 (by simp)) X.prog X.w X.xe _ ⟨.bl false, H, I, rfl, q⟩
  · rw [decide_eq_false e] at q
    exact SeqAt.RcNeAt.lists_lengths (A := X.A) (s := s) p1.isList p2.isList (by simpa [← l1, ← l2] using e) (by omega) X.prog X.w X.xe _ ⟨.bl true, H, I, rfl, q⟩
theorem eqL_sem {neg : Bool} {x y : V} {a b : D} {G H : Hp} {Q : VK} {P : D → Prop} (ra : Rp X.K X.mg G x a) (rb : Rp X.K X.mg G y b) (sm : Same G H) {u w : List D} (e1 : a = .lst u) (e2 : b = .lst w) (hl : u.length ≠ w.length ∨ u = []) (h : P (.bl (neg != decide (u.length = w.length))))
    (k : ∀ (d : D) (v : V) (G' H' : Hp), P d → L2.Ext G G → True → Rp X.K X.mg G' v d → G' = G → H' = H → Q v H') : rEqL neg x y H Q := by
  subst e1 e2
  cases ra with
  | lst p q =>
    cases rb with
    | lst p' q' =>
      have l1 := q.len
      have l2 := q'.len
      refine ⟨_, _, _, _, rfl, rfl, sm _ _ p, sm _ _ p', hl.elim (fun z => .inl (by rw [l1, l2]; exact z)) (fun z => .inr ?_), ?_⟩
      · subst z
        cases q
        rfl
      · rw [l1, l2]
        exact k _ _ G H h (fun _ _ z => z) trivial (.bl _) rfl rfl
/-- == of data, or of two lists of which one is empty or that are of unlike length -/
def wEq' : W2 := fun a b P => wEq a b P ∨ ∃ x y, a = .lst x ∧ b = .lst y ∧ (x.length ≠ y.length ∨ x = []) ∧ P (.bl (decide (x.length = y.length)))
def wNe' : W2 := fun a b P => wNe a b P ∨ ∃ x y, a = .lst x ∧ b = .lst y ∧ (x.length ≠ y.length ∨ x = []) ∧ P (.bl (!decide (x.length = y.length)))
theorem o_eq' (hu : X.A.units + 64 < cLine) : Op2 X (compareOp .Eq) (fun x y H Q => rEqD X.K x y H Q ∨ rEqL false x y H Q) wEq' := by
  refine ⟨(op_eqD hu).or (op_eqL hu), fun x y a b G H Q P ra rb sm h k => ?_⟩
  rcases h with h | ⟨u, w, e1, e2, hl, h⟩
  · exact .inl ((o_eq hu).sem x y a b G H Q P ra rb sm h k)
  · exact .inr (eqL_sem (P := P) ra rb sm e1 e2 hl (by simpa using h) fun d v G' H' p _ _ r eG eH => by subst eG eH; exact k d v _ _ p .refl r)
theorem o_ne' (hu : X.A.units + 64 < cLine) : Op2 X (compareOp .NotEq) (fun x y H Q => rNeD X.K x y H Q ∨ rEqL true x y H Q) wNe' := by
  refine ⟨(op_neD hu).or (op_neL hu), fun x y a b G H Q P ra rb sm h k => ?_⟩
  rcases h with h | ⟨u, w, e1, e2, hl, h⟩
  · exact .inl ((o_ne hu).sem x y a b G H Q P ra rb sm h k)
  · exact .inr (eqL_sem (P := P) ra rb sm e1 e2 hl (by simpa using h) fun d v G' H' p _ _ r eG eH => by subst eG eH; exact k d v _ _ p .refl r)
/-! ### -a, a ** b -/
def mNeg {S : Type} (m : ME S) : ME S := fun ρ s P R => m ρ s (fun d s1 => ∃ i, d = .int i ∧ P (.int (-i)) s1) R
theorem de_neg {S : Type} {Φ : S → Hp → Hp → Prop} {W : WX} [Frm Φ] {e : Expr} {te : TE} {m : ME S} {pos : Pos} (h : DE X Φ W e te m) : DE X Φ W (.UnaryOp .USub e pos) (tUn (rU fun i => .int (-i)) te) (mNeg m) :=
  ⟨pe_un un_neg h.pe, fun σ ρ s G H Q P R hρ f hW hm k => h.sem σ ρ s G H _ _ R hρ f hW hm fun d s1 v G1 H1 ⟨i, ed, p⟩ e1 f1 r1 => by
    subst ed
    cases r1
    exact ⟨i, rfl, k _ s1 _ G1 H1 p e1 f1 (.int _)⟩⟩
def wPow : W2 := wI CPow fun i j => .int (i ^ j.toNat)
theorem o_pow : Op2 X (binaryOp .Pow) (rI CPow fun i j => .int (i ^ j.toNat)) wPow := wI_sem (fun G i j => .int _) op_pow
/-! ### {} -/
/-! ### a list or a tuple walked -/
def iSeq (K : PySem.W.Frag) (tl : TE) : TI := fun σ H R => tl σ H fun x H1 => ∃ a, x = .ref a ∧ (((∃ xs, SqL K H1 a xs) ∧ R (Itl K a) H1) ∨ ((∃ xs, SqT K H1 a xs) ∧ R (Itt K a) H1))
theorem pi_seq {tg l : Expr} {tl : TE} (hl : PE X l tl) : PI X tg l (iSeq X.K tl) := by
  refine ⟨fun pins s σ H R I h => thn (hl.run pins s σ H _ I h) fun v s1 ⟨x, H1, I1, r1, a, e, q⟩ => ?_⟩
  subst e
  have one : ∀ (t : TI) (b : V), PI X tg l t → True := fun _ _ _ => trivial
  cases r1
  have nw : ∀ (b : Addr), b ∈ [s1.heap.objs.size] → FpOk X pins H1 b := fun b hb => by
    cases List.mem_singleton.mp hb
    exact I1.fpOk (Nat.le_refl _) (I1.hok.fresh (Nat.le_refl _))
  rcases q with ⟨⟨xs, hq⟩, q⟩ | ⟨⟨xs, hq⟩, q⟩
  · obtain ⟨its, rv, p, hz⟩ := I1.list hq
    exact wpAny_pyIter_list p.isList ⟨s1.heap.objs.size, _, _, _, H1, rfl, I1.kept (t' := s1.toks) (fun b o e => Heap.get?_push_of_some _ e), turn_list a _, ⟨_, Heap.get?_push_size _ rfl, rfl, rfl⟩, nw, q⟩
  · obtain ⟨its, rv, p, hz⟩ := I1.tuple hq
    exact wpAny_pyIter_tuple (show s1.heap.IsTuple a its.toArray from p) ⟨s1.heap.objs.size, _, _, _, H1, rfl, I1.kept (t' := s1.toks) (fun b o e => Heap.get?_push_of_some _ e), turn_tuple a _, ⟨_, Heap.get?_push_size _ rfl, rfl, rfl⟩, nw, q⟩
def mSeq {S : Type} (m : ME S) : MI S := fun ρ s P R => m ρ s (fun d s1 => (∃ ds, d = .lst ds ∧ P ds s1) ∨ (∃ ds, d = .tup ds ∧ P ds s1) ∨ ∃ ds, d = .frz ds ∧ P ds s1) R
theorem y_frz {K : PySem.W.Frag} {mg : Str → Option Value} {G : Hp} {a : Addr} {vs : List V} {ds : List D} (h : SqF K G a vs) (r : RpL K mg G vs ds) : Yields K mg (Itl K a) G ds := fun G' H e e' => by
  have hq : SqL K H a vs := (sqf_mono (e.trans e') h).sql
  have hl := r.len
  refine ⟨fun i hi => ⟨vs, vs[i]'(by omega), hq, by simp [hl, hi]⟩, ⟨vs, hq, by omega⟩, fun i x H' hi ⟨e1, y⟩ => ?_⟩
  subst e1
  obtain ⟨d, h1, h2⟩ := r.atV (y vs hq)
  exact ⟨G', .refl, d, h1, h2.mono e⟩
theorem di_seq {S : Type} {Φ : S → Hp → Hp → Prop} {W : WX} [Frm Φ] {tg l : Expr} {tl : TE} {m : ME S} (h : DE X Φ W l tl m) : DI X Φ W tg l (iSeq X.K tl) (mSeq m) :=
  ⟨pi_seq h.pe, fun σ ρ s G H Q P R hρ f hW hm k => h.sem σ ρ s G H _ _ R hρ f hW hm fun d s1 v G1 H1 hd e1 f1 r1 => by
    rcases hd with ⟨ds, ed, p⟩ | ⟨ds, ed, p⟩ | ⟨ds, ed, p⟩
    · subst ed
      cases r1 with
      | lst q rl => exact ⟨_, rfl, .inl ⟨⟨_, SqL.of (Frm.same f1 _ _ q)⟩, k ds s1 _ G1 H1 p e1 f1 (y_list q rl)⟩⟩
    · subst ed
      cases r1 with
      | tup q rl => exact ⟨_, rfl, .inr ⟨⟨_, sqt_mono (Frm.same f1) q⟩, k ds s1 _ G1 H1 p e1 f1 (y_tup q rl)⟩⟩
    · subst ed
      cases r1 with
      | frz q rl => exact ⟨_, rfl, .inl ⟨⟨_, (sqf_mono (Frm.same f1) q).sql⟩, k ds s1 _ G1 H1 p e1 f1 (y_frz q rl)⟩⟩⟩
section
variable {Φ : OH → Hp → Hp → Prop} {W : WX} [FΦ : OFrm X.K X.mg Φ]
/-- a == b by an own __eq__, as a test -/
theorem dt_eqI {k : Nat} {C f : Addr} {Cn : Str} {fd : FuncData} {n1 n2 : Str} {g : WF} {ok : D → Prop} {a b : Expr} {ta tb : TE} {ma mb : ME OH} {pos : Pos} (hC : X.mg Cn = some (.ref C)) (hs : PySem.W.findIn X.K (.ref C) "__eq__" = some (some (.ref f))) (hf : PySem.W.isFn X.K (.ref f) = true)
    (T : EqT X.K X.mg C ok) (F : FnG X.prog X.w X.K X.mg X.base k f fd [n1, n2] g) (hr : Rm k X) (hb : Binds X.K fd [n1, n2] []) (tk : Takes X W) (ha : DE X Φ W a ta ma) (hb' : DE X Φ W b tb mb) :
    DT X Φ W (.Compare a [.Eq] [b] pos) (tTest (fun σ H Q => ta σ H fun x H1 => tb σ H1 fun y H2 => ∃ p dx fs t, x = .ref p ∧ H2 p = some (.ins C dx fs) ∧ TyX X.K H2 y t ∧ PySem.W.notFirst X.K C t = true ∧ spO X.K X.mg 2 g [x, y] H2 (fun v H3 => ∃ k, v = .bl k ∧ Q v H3) (WE W σ))) (mTest (mEqI Cn g ok ma mb)) := by
  have d := de_eqI (pos := pos) hC hs hf T F hr hb tk ha hb'
  refine ⟨⟨fun pins s σ H Q I h => ?_⟩, fun σ ρ s G H _ _ R hρ f hW hm k => d.sem σ ρ s G H _ _ R hρ f hW hm fun y s' v G' H' ⟨c, e, p⟩ q1 q2 q3 => by
    subst e
    exact ⟨c, rp_bl q3, k c s' G' H' p q1 q2⟩⟩
  refine wpAny_isTrue_Compare1 (binT ha.pe hb'.pe I h fun u v s2 x y H2 I2 ru rv ⟨p, dx, fs, t, ex, hp, ty, nf, q⟩ => ?_) (nomark _)
  subst ex
  cases (show u = Value.ref p from ru)
  obtain ⟨mA, J, _⟩ := ins_get I2.hok hp
  obtain ⟨od, J, _⟩ := J.look
  obtain ⟨Pk, Z, pz, hx⟩ := kit_of I2 rv ty
  obtain ⟨m, hF⟩ := I2.fr
  show wpAny (model X.prog X.w) X.A (richCompare .Eq (.ref p) v) _ X.xe s2
  refine PySem.W.cmp_K (op := .Eq) (tb := t) hr.room.units0 hF I2.ok.mod.kin J (Z.ty _ _ I2.kIn pz) nf hs hf ?_
  have go := runS (us := [.ref p, v]) (vs := [.ref p, y]) (dvs := []) (dflt := []) F hr hb .nil (passAt tk σ) I2 (.cons rfl (.cons rv .nil)) q
  refine thn go fun r s3 ⟨z, H3, I3, rz, kk, ez, c, ec, q3⟩ => ?_
  subst ez
  cases ec
  cases rz
  exact wpAny_truthy_bool ⟨H3, I3, q3⟩
end
/-! ### a list of lists, made one's own: whatever held it as a tree is forgotten -/
/-! ### repr of an instance, by its own __repr__ -/
section
variable {Φ : OH → Hp → Hp → Prop} {W : WX} [FΦ : OFrm X.K X.mg Φ]
def mReprI (C : Str) (g : WF) (m : ME OH) : ME OH := fun ρ O P R => m ρ O (fun x O1 => ∃ ns ds, x = .ins C ns ds ∧ g [x] O1 (fun d O2 => ∃ y, d = .str y ∧ P d O2) R0) R
theorem cr_reprI {k : Nat} {C f : Addr} {fd : FuncData} {n : Str} {g : WF} (c : Cls X.K C) (hs : PySem.W.findIn X.K (.ref C) "__repr__" = some (some (.ref f))) (hf : PySem.W.isFn X.K (.ref f) = true) (F : FnG X.prog X.w X.K X.mg X.base k f fd [n] g) (hr : Rm (k + 1) X) (hb : Binds X.K fd [n] []) :
    CallR X (.builtin "repr") (fun vs H Q => ∃ a dx fs, vs = [.ref a] ∧ H a = some (.ins C dx fs) ∧ spO X.K X.mg 1 g [.ref a] H (fun v H' => ∃ y, v = .str y ∧ Q v H') E0) := by
  intro pins s σ H vs us Q I r ⟨a, dx, fs, ev, ha, q⟩
  subst ev
  obtain ⟨u, rfl, ru⟩ := vals1 r
  cases (show u = Value.ref a from ru)
  obtain ⟨mA, J, _⟩ := ins_get I.hok ha
  obtain ⟨od, J, _⟩ := J.look
  obtain ⟨m, hF⟩ := I.fr
  have hl : ([Value.ref a] ++ []).length = [n].length := rfl
  have go := F.run X.A.in1 X.stack s H ⟨[.ref a], []⟩ [.ref a] [.ref a] _ E0 hr.room.in1 hr.gd I.env0.in1 (hb s [.ref a] I.kIn hl) (.cons rfl .nil) q
  refine PySem.W.repr_K (by have := hr.room.units; show X.A.units + 1 < _; omega) hF I.ok.mod.kin J hs hf (wpAny_call (codeAny_mono go fun r s' hq => ?_))
  match r, hq with
  | .error er, hq => exact (passL (X := X.nox) pins σ H s er s' (I.wish _) hq).elim
  | .ok (.ret u), hq =>
    obtain ⟨v, H', I3, rv, y, ev, q3⟩ := I.after hq
    subst ev
    obtain ⟨t, rfl⟩ := rv
    exact ⟨.str y, H', I3, ⟨t, rfl⟩, q3⟩
  | .ok .next, hq => exact hq.elim
  | .ok .brk, hq => exact hq.elim
  | .ok .cont, hq => exact hq.elim
theorem de_reprI {k : Nat} {C f : Addr} {Cn : Str} {fd : FuncData} {n : Str} {g : WF} {e : Expr} {te : TE} {m : ME OH} {p pos : Pos} (c : Cls X.K C) (hC : X.mg Cn = some (.ref C)) (hs : PySem.W.findIn X.K (.ref C) "__repr__" = some (some (.ref f))) (hf : PySem.W.isFn X.K (.ref f) = true)
    (F : FnG X.prog X.w X.K X.mg X.base k f fd [n] g) (hr : Rm (k + 1) X) (hb : Binds X.K fd [n] []) (hg : Gl X "repr") (hm : X.mg "repr" = none) (h : DE X Φ W e te m)
    (he : starEach [e] X.env = (false, eval e X.env) :: starEach [] X.env := by rfl) (hpl : (backTo pos (starEach [] X.env)).any (·.1) = false := by rfl) :
    DE X Φ W (.Call (.Name "repr" p) [e] [] pos) (tCB (fun vs H Q => ∃ a dx fs, vs = [.ref a] ∧ H a = some (.ins C dx fs) ∧ spO X.K X.mg 1 g [.ref a] H (fun v H' => ∃ y, v = .str y ∧ Q v H') E0) (tCons te tNil)) (mReprI Cn g m) :=
  ⟨pe_callB (cr_reprI c hs hf F hr hb) hg hm (by decide +kernel) (pa_cons h.pe pa_nil he) (by decide) (by decide) he hpl, fun σ ρ O G H Q P R hρ f0 hW hmm k => h.sem σ ρ O G H _ _ R hρ f0 hW hmm fun x O1 v G1 H1 ⟨ns, ds, ex, hgx⟩ e1 f1 r1 => by
    subst ex
    have r2 := r1
    cases r1 with
    | ins mC hG hl rl =>
      rw [hC] at mC
      cases mC
      refine ⟨_, _, _, rfl, Frm.same f1 _ _ hG, spO_of (R := R0) f1 (.cons r2 .nil) rfl hgx (fun d s' z G' H' ⟨y, ed, p⟩ q f' rz => ?_) fun _ _ _ _ _ _ _ _ _ z => z.elim⟩
      subst ed
      cases rz
      exact ⟨y, rfl, k _ s' _ G' H' p (e1.trans q) f' (.str y)⟩⟩
end
end
end DL

set_option Elab.async false
set_option linter.all false
set_option maxRecDepth 100000
set_option maxHeartbeats 2000000
namespace DL
open PySem PySem.Spec PyProof.Rows L2

/-! ### a list of lists, made one's own: whatever held lists as trees is forgotten -/
mutual
def noLst : D → Bool
  | .lst _ => false
  | .dic _ _ => false
  | .tup ds => noLstL ds
  | .ins _ _ ds => noLstL ds
  | .frz ds => noLstL ds
  | _ => true
def noLstL : List D → Bool
  | [] => true
  | d :: ds => noLst d && noLstL ds
end
section
variable {K : PySem.W.Frag} {mg : Str → Option Value} {G : Hp}
/-- G without the lists at A -/
def offG (G : Hp) (A : Addr → Bool) : Hp := fun b => if A b = true then none else G b
theorem offG_keep {A : Addr → Bool} (hA : ∀ b, A b = true → ∃ vs, G b = some (.lst vs)) {b : Addr} {o : HO} (h : G b = some o) (n : ∀ vs, o ≠ .lst vs) : offG G A b = some o := by
  unfold offG
  by_cases e : A b = true
  · obtain ⟨vs, q⟩ := hA b e
    rw [h] at q
    cases q
    exact absurd rfl (n vs)
  · rw [if_neg e]
    exact h
mutual
theorem rp_off {A : Addr → Bool} (hA : ∀ b, A b = true → ∃ vs, G b = some (.lst vs)) : ∀ {v : V} {d : D}, Rp K mg G v d → noLst d = true → Rp K mg (offG G A) v d
  | _, _, .non, _ => .non
  | _, _, .bl b, _ => .bl b
  | _, _, .int i, _ => .int i
  | _, _, .str x, _ => .str x
  | _, _, .lst _ _, h => by simp [noLst] at h
  | _, _, .tup q r, h => by
    simp only [noLst] at h
    refine .tup ?_ (rpl_off hA r h)
    rcases q with (q | ⟨o, q⟩) | q
    · exact .inl (.inl (offG_keep hA q fun _ z => nomatch z))
    · exact .inl (.inr ⟨o, offG_keep hA q fun _ z => nomatch z⟩)
    · exact .inr q
  | _, _, .dic _ _ _, h => by simp [noLst] at h
  | _, _, .ins m q l r, h => by
    simp only [noLst] at h
    exact .ins m (offG_keep hA q fun _ z => nomatch z) l (rpl_off hA r h)
  | _, _, .frz q r, h => by
    simp only [noLst] at h
    refine .frz ?_ (rpl_off hA r h)
    rcases q with ⟨o, q⟩ | q
    · exact .inl ⟨o, offG_keep hA q fun _ z => nomatch z⟩
    · exact .inr q
  | _, _, .loc a, _ => .loc a
  | _, _, .cls h, _ => .cls h
  | _, _, .ty n, _ => .ty n
theorem rpl_off {A : Addr → Bool} (hA : ∀ b, A b = true → ∃ vs, G b = some (.lst vs)) : ∀ {vs : List V} {ds : List D}, RpL K mg G vs ds → noLstL ds = true → RpL K mg (offG G A) vs ds
  | _, _, .nil, _ => .nil
  | _, _, .cons a r, h => by
    simp only [noLstL, Bool.and_eq_true] at h
    exact .cons (rp_off hA a h.1) (rpl_off hA r h.2)
end
/-- without any object -/
def flatL : List D → Bool
  | [] => true
  | d :: ds => (match d with
    | .non | .bl _ | .int _ | .str _ | .loc _ => true
    | _ => false) && flatL ds
theorem rpl_flat {G' : Hp} : ∀ {vs : List V} {ds : List D}, RpL K mg G vs ds → flatL ds = true → RpL K mg G' vs ds
  | _, _, .nil, _ => .nil
  | _, _, .cons a r, h => by
    simp only [flatL, Bool.and_eq_true] at h
    refine .cons ?_ (rpl_flat r h.2)
    cases a <;> first | exact .non | exact .bl _ | exact .int _ | exact .str _ | exact .loc _ | simp at h
def flatO : DO → Bool
  | .lst ds => flatL ds
  | .ins _ _ ds => flatL ds
  | _ => false
theorem rpo_flat {G' : Hp} {o : HO} {x : DO} (r : RpO K mg G o x) (h : flatO x = true) : RpO K mg G' o x := by
  cases r with
  | lst r => exact .lst (rpl_flat r h)
  | dic _ _ => simp [flatO] at h
  | ins a b r => exact .ins a b (rpl_flat r h)
end
/-! a list of lists of ints that is one's own, lent as a tree while an expression is evaluated -/
structure Rws (O : OH) (a : Addr) (as : List Addr) (xss : List (List Int)) : Prop where
  top : O a = some (.lst (as.map D.loc))
  len : as.length = xss.length
  row : ∀ (j : Nat) (b : Addr) (xs : List Int), as[j]? = some b → xss[j]? = some xs → O b = some (.lst (xs.map D.int))
def onO (O O2 : OH) (A : Addr → Bool) : OH := fun b => if A b = true then O b else O2 b
def inA (a : Addr) (as : List Addr) : Addr → Bool := fun b => decide (b = a ∨ b ∈ as)
section
variable {K : PySem.W.Frag} {mg : Str → Option Value} {O : OH} {G H : Hp} {a : Addr} {as : List Addr} {xss : List (List Int)}
theorem rpl_locs : ∀ {bs : List Addr} {vs : List V}, RpL K mg G vs (bs.map D.loc) → vs = bs.map V.ref
  | [], _, .nil => rfl
  | b :: bs, _, .cons r rl => by
    cases r
    rw [rpl_locs rl]
    rfl
theorem rI (G2 : Hp) (ns : List Int) : RpL K mg G2 (ns.map V.int) (ns.map D.int) := by
  induction ns with
  | nil => exact .nil
  | cons n ns ih => exact .cons (.int n) ih
theorem Rws.at (w : Rws O a as xss) (f : Phi K mg O G H) : H a = some (.lst (as.map V.ref)) ∧ ∀ (j : Nat) (b : Addr) (xs : List Int), as[j]? = some b → xss[j]? = some xs → H b = some (.lst (xs.map V.int)) := by
  obtain ⟨_, o, h1, h2⟩ := f.own _ _ w.top
  refine ⟨?_, fun j b xs q1 q2 => ?_⟩
  · cases h2 with
    | lst r => rw [h1, rpl_locs r]
  · obtain ⟨_, o, h3, h4⟩ := f.own _ _ (w.row j b xs q1 q2)
    cases h4 with
    | lst r => rw [h3, rpl_ints r]
/-- .. and taken back -/
theorem back {O2 : OH} {G1 G2 H2 : Hp} (s1 : Same G G1) (hA : ∀ b, inA a as b = true → G1 b = H b ∧ G b = none ∧ ∃ vs, H b = some (.lst vs) ∧ ∃ y, O b = some y ∧ flatO y = true ∧ ∀ G2, RpO K mg G2 (.lst vs) y) (e2 : Same G1 G2) (f2 : Phi K mg O2 G2 H2)
    (hO : ∀ b y, O2 b = some y → flatO y = true) : Same G (offG G2 (inA a as)) ∧ Phi K mg (onO O O2 (inA a as)) (offG G2 (inA a as)) H2 ∧ ∀ b, inA a as b = true → ∃ vs, G2 b = some (.lst vs) := by
  have hl : ∀ b, inA a as b = true → ∃ vs, G2 b = some (.lst vs) ∧ H2 b = some (.lst vs) ∧ ∃ y, O b = some y ∧ ∀ G2, RpO K mg G2 (.lst vs) y := fun b hb => by
    obtain ⟨h1, _, vs, h2, y, h3, _, h4⟩ := hA b hb
    have q : G2 b = some (.lst vs) := e2 _ _ (h1.trans h2)
    exact ⟨vs, q, f2.same _ _ q, y, h3, h4⟩
  refine ⟨fun b o e => ?_, ⟨fun b o e => ?_, fun b y e => ?_⟩, fun b hb => let ⟨vs, q, _⟩ := hl b hb; ⟨vs, q⟩⟩
  · unfold offG
    by_cases hb : inA a as b = true
    · rw [(hA b hb).2.1] at e
      cases e
    · rw [if_neg hb]
      exact e2 _ _ (s1 _ _ e)
  · unfold offG at e
    split at e
    · cases e
    · exact f2.same _ _ e
  · unfold onO at e
    by_cases hb : inA a as b = true
    · rw [if_pos hb] at e
      obtain ⟨vs, _, h2, y', h3, h4⟩ := hl b hb
      rw [h3] at e
      cases e
      exact ⟨if_pos hb, _, h2, h4 _⟩
    · rw [if_neg hb] at e
      obtain ⟨g0, o, h1, h2⟩ := f2.own b y e
      exact ⟨(if_neg hb).trans g0, o, h1, rpo_flat h2 (hO b y e)⟩
end
section
variable {X : Cx} {W : WX}
end
end DL

set_option Elab.async false
set_option linter.all false
set_option maxRecDepth 100000
set_option maxHeartbeats 2000000
namespace DL
open PySem PySem.Spec PyProof.Rows L2

/-! ### the end: the law's own call -/
/-- what a law's def promises of the script -/
def spLawD (K : PySem.W.Frag) : Sp := fun vs H Q _ => ∃ (a : Addr) (ns : List Int), vs = [.ref a] ∧ SqF K H a (ns.map V.int) ∧ ns.length ≤ 63 ∧ ∀ H', Q (.bl true) H'
theorem law_callD {P : Program} {w : World} {K : PySem.W.Frag} {mg mb : Str → Option Value} {k : Nat} {fa a : Addr} {fd : FuncData} {x : Str} {s₁ : Shared} {vs : List Value} {ns : List Int}
    (KX : K.In s₁.heap) (hns : s₁.heap.Ns mainGlobals mg) (hb : s₁.heap.Ns builtinsNs mb) (hbb : ∀ x : Str, x ≠ "__name__" → mb x = bootBuiltins x) (hlim : s₁.heap.NoLimit) (hg : s₁.gens = #[])
    (ha : s₁.heap.get? a = some { cls := .type "list", data := .seq vs.toArray }) (hi : IntsAre vs ns) (hl : ns.length ≤ 63) (hr : Room k callerA)
    (hsm : ∃ mm, s₁.heap.Ns sysModules mm) (F : ∀ base : Heap, K.In base → base.Ns mainGlobals mg → (∃ mm, base.Ns sysModules mm) → FnS P w K mg base k fa fd [x] (spLawD K)) (hbind : ∀ (s : Shared) (u : Value), BindsTo s fd ⟨[u], []⟩ [(x, u)]) :
    codeAny (model P w) callerA (.call (.ref fa) ⟨[.ref a], []⟩) (fun r s' => r = .ok (.ret (.bool true)) ∧ OldK s₁.heap s'.heap ∧ s'.os = s₁.os ∧ AllBare s'.gens) s₁ := by
  have rv := vals_ints hi
  have lenV := hi.length
  have hline : ns.length ≤ sizeLine := Nat.le_trans hl (by decide)
  have core : ∀ H : Hp, Only H → SqF K H a (ns.map V.int) → HOk P w H s₁.heap → (∀ b, H b ≠ none → b = a) → (H a ≠ none → K.lookup a = none) →
      codeAny (model P w) callerA (.call (.ref fa) ⟨[.ref a], []⟩) (fun r s' => r = .ok (.ret (.bool true)) ∧ OldK s₁.heap s'.heap ∧ s'.os = s₁.os ∧ AllBare s'.gens) s₁ := by
    intro H hO hS hok hA hK
    have at_a : ∀ {b : Addr}, H b ≠ none → b = a := fun {b} z => hA b z
    have noA : ∀ {b : Addr} {o : Obj} {es : Array DictEntry} {ep : Nat}, s₁.heap.get? b = some o → o.data = .dict es ep → H b = none := by
      intro b o es ep e d
      match q : H b with
      | none => rfl
      | some u =>
        have e' : b = a := at_a (by rw [q]; simp)
        subst e'
        rw [ha] at e
        cases e
        exact (nomatch (show Data.seq vs.toArray _ = Data.dict es ep from d))
    have nsK : ∀ {b : Addr} {m : Str → Option Value}, s₁.heap.Ns b m → (hidT s₁.heap H).Ns b m := by
      intro b m ⟨o, es, ep, e, d, r⟩
      exact ⟨o, es, ep, hidT_get e (noA e d), d, r⟩
    have hKb : K.In (hidT s₁.heap H) := by
      intro b o e
      refine hidT_get (KX b o e) ?_
      match q : H b with
      | none => rfl
      | some u =>
        have e' : b = a := at_a (by rw [q]; simp)
        subst e'
        rw [hK (by rw [q]; simp)] at e
        cases e
    have hM : Mod K mg (hidT s₁.heap H) := by
      obtain ⟨mc, h1, h2⟩ := hlim
      exact ⟨hKb, nsK hns, ⟨mb, nsK hb, hbb⟩, ⟨mc, nsK h1, h2⟩⟩
    have e0 : Env0 P w K mg (hidT s₁.heap H) callerA [] s₁ H :=
      ⟨rfl, hM, fun b o e => of_hidT e, Nat.le_of_eq (hidT_size _ _), trivial, fun b hb => absurd hb (by simp [frs]), hok, .of_eq hg⟩
    have go := (F _ hKb (nsK hns) (hsm.imp fun _ => nsK)).run callerA [] s₁ H ⟨[.ref a], []⟩ [.ref a] [.ref a] (fun v _ => v = .bl true) (fun _ _ _ => False) hr rfl e0 (hbind s₁ (.ref a)) (.cons rfl .nil) ⟨a, ns, rfl, hS, hl, fun _ => rfl⟩
    refine codeAny_mono go fun r s' h => ?_
    match r, h with
    | .error e, h =>
      obtain ⟨_, _, _, _, _, _, _, _, _, _, _, _, z⟩ := h
      exact z.elim
    | .ok .next, h => exact h.elim
    | .ok .brk, h => exact h.elim
    | .ok .cont, h => exact h.elim
    | .ok (.ret u), ⟨v, H', os, bare, un, hok', r', q⟩ =>
      have q' : v = .bl true := q
      subst q'
      cases (show u = Value.bool true from r')
      refine ⟨rfl, OldK.of_keep fun b o e => ?_, os, bare⟩
      match q : H b with
      | none => exact un.keep b o e q (by simp [frs]) (by simp)
      | some u =>
        rcases hO b with z | ⟨ob, xs, z⟩
        · rw [q] at z
          cases z
        · obtain ⟨e1, _⟩ := hok b _ z
          obtain ⟨e2, _⟩ := hok' b _ (un.frzs b ob _ z)
          rw [e] at e1
          cases e1
          exact e2
  cases hk : K.lookup a with
  | some o =>
    have e := KX a o hk
    rw [ha] at e
    cases e
    refine core (fun _ => none) (fun _ => .inl rfl) (.inr ⟨_, vs.toArray, _, hk, rfl, rfl, rfl, by rw [List.size_toArray, lenV]; exact hline, by simpa using rv⟩) (fun b u z => nomatch (show (none : Option HO) = some u from z)) (fun b z => absurd rfl z) fun z => absurd rfl z
  | none =>
    let o0 : Obj := { cls := .type "list", data := .seq vs.toArray }
    let H0 : Hp := fun b => if b = a then some (HO.frz o0 (.lst (ns.map V.int))) else none
    have eq1 : ∀ b, b = a → H0 b = some (.frz o0 (.lst (ns.map V.int))) := fun b h => if_pos h
    have eq2 : ∀ b, b ≠ a → H0 b = none := fun b h => if_neg h
    refine core H0 (fun b => ?_) (.inl ⟨_, eq1 a rfl⟩) (fun b u z => ?_) (fun b z => ?_) fun _ => hk
    · by_cases hb : b = a
      · exact .inr ⟨_, _, eq1 b hb⟩
      · exact .inl (eq2 b hb)
    · by_cases hb : b = a
      · have z' := (eq1 b hb).symm.trans z
        cases z'
        subst hb
        exact ⟨ha, by rw [List.length_map]; exact hline, vs, _, rv, ha⟩
      · have z' := (eq2 b hb).symm.trans z
        cases z'
    · by_cases hb : b = a
      · exact hb
      · exact absurd (eq2 b hb) z
/-- the law's def, from its body's reading: Φ is the plain one -/
theorem law_mk {P : Program} {w : World} {K : PySem.W.Frag} {mg : Str → Option Value} {base : Heap} {x qual : Str} {st : Stmt} {f : Addr} {fd : FuncData} {N : List Str} {p : Str} {k : Nat} (F : Fun K x qual st f fd) (Sc : FnScope N [p] (defScope st)) {m : MS OH}
    (hb : ∀ (cdv : Value) (A : Around) (outer : List Env) (s : Shared) (H : Hp) (E : XK), OFrm (cxOf (L2.CX P w) P w K mg base N qual (defScope st) f cdv A outer s H E).K (cxOf (L2.CX P w) P w K mg base N qual (defScope st) f cdv A outer s H E).mg (Phi K mg) → Rm k (cxOf (L2.CX P w) P w K mg base N qual (defScope st) f cdv A outer s H E) →
      ∃ ts, DSs (cxOf (L2.CX P w) P w K mg base N qual (defScope st) f cdv A outer s H E) (Phi K mg) (fun cls d _ H' => E cls d H') (defBody st) ts m)
    (hm : ∀ ns : List Int, ns.length ≤ 63 → bodyF m (N.length - 1) [.frz (ns.map D.int)] (fun _ => none) (fun d _ => d = .bl true) R0) : FnS P w K mg base (k + 1) f fd [p] (spLawD K) := by
  obtain ⟨oc, od, kV, doc, pm, an, cdv, ct, osl, rfl, lk, hcd⟩ := F.ex
  refine fnS_of lk hcd Sc (fun vs H Q E ⟨a, ns, e, _⟩ => by rw [e]; rfl) fun A outer s H vs Q E hr hgd ⟨a, ns, ev, hS, hl, hQ⟩ => ?_
  subst ev
  obtain ⟨ts, d⟩ := hb cdv A outer s H E (inferInstance : OFrm K mg (Phi K mg)) ⟨hr, hgd⟩
  refine ⟨ts, d.pss, ?_⟩
  have f0 : Phi K mg (fun _ => none) H H := ⟨Same.refl H, fun a x e => nomatch e⟩
  have r : RpL K mg H [V.ref a] [.frz (ns.map D.int)] := .cons (.frz hS (rI H ns)) .nil
  have r0 := start_rel (N := N) r
  refine d.sem _ _ _ H H _ _ r0 f0 (hm ns hl) ⟨fun σ ρ s G' H' p _ _ _ => ?_, fun d s v G' H' p e q r => ?_, fun _ _ _ _ _ p => p.elim, fun _ _ _ _ _ p => p.elim, fun _ _ _ _ _ _ _ _ p => p.elim⟩
  · cases p
  · subst p
    cases r
    exact hQ H'
end DL

set_option Elab.async false
set_option linter.all false
set_option maxRecDepth 100000
set_option maxHeartbeats 2000000
/-! own error classes over any built-in base whose facts the library has -/
namespace DL
open PySem PySem.Spec PyProof.Rows L2
/-- what a built-in base gives -/
structure BaseF (nw ini : String) (tl : List Value) : Prop where
  ex : ∃ B, ExcBaseFacts B nw ini tl ∧ StoreFacts B tl "object.__setattr__" "object"
theorem base_ValueError : BaseF "ValueError.__new__" "ValueError.__init__" [.type "ValueError", .type "Exception", .type "BaseException", .type "object"] := ⟨_, F.excBase_ValueError, F.store_ValueError⟩
/-- .. and the written part of the class -/
structure OexG (K : PySem.W.Frag) (C : Addr) : Prop where
  base : ∃ nw ini tl, BaseF nw ini tl ∧ PySem.W.excInitIn K C tl nw = true ∧ PySem.W.excOver K C tl = true
  hd : PySem.W.hasDictIn K C = true
  sa : PySem.W.findIn K (.ref C) "__setattr__" = some (some (.builtin "object.__setattr__"))
  exC : PySem.W.subIn K (.ref C) (.type "BaseException") = some true
  tyC : PySem.W.typeIn K (.ref C) = some (.type "type")
  kC : PySem.W.keepIn K (.ref C) = true
section
variable {X : Cx} {pins : List (Addr × Obj)} {σ : Sig} {H : Hp} {a C dx : Addr} {f : Str} {y : V}
/-- an error that gets its dict: the state after it -/
theorem inv_exo {hp h' : Heap} {g : Array GenState} {dr : Drawn} {t t' : Nat} {os : OsState} {t1 : Addr} {mA : Str → Option Value} (I : Inv X pins σ H ⟨hp, g, dr, t, os⟩) (e : H a = some (exo a C none))
    (k : ∀ b o, b ≠ a → hp.get? b = some o → h'.get? b = some o) (dn : hp.objs.size ≤ dx) (hx : h'.get? a = some ({ cls := .ref C, dict := some dx, data := .fields #[.ref t1, .none, .none, .none, .bool false, .none] } : Obj))
    (hn : h'.Ns1 dx mA) (rel : ∀ g, RelO (([(f, y)] : List (Str × V)).lookup g) (mA g)) : Inv X pins σ (upd (upd H dx (exd dx [(f, y)])) a (exo a C (some dx))) ⟨h', g, dr, t', os⟩ := by
  have d0 : H dx = none := I.hok.fresh dn
  have far : ∀ {b : Addr} {o : Obj}, hp.get? b = some o → b ≠ dx := fun {_ _} z => Nat.ne_of_lt (Nat.lt_of_lt_of_le (Heap.lt_size z) dn)
  have oth : ∀ {b : Addr}, H b = none → b ≠ a := fun {b} n z => by rw [z, e] at n; cases n
  have same : ∀ {b : Addr} {u : HO}, H b = some u → b ≠ a → upd (upd H dx (exd dx [(f, y)])) a (exo a C (some dx)) b = some u := fun {b u} z n => by
    rw [upd_ne n, upd_ne (ne_of_none z d0)]; exact z
  refine I.un (t' := t') (h' := h') ⟨fun b o q n _ _ => k b o (oth n) q, fun b o q n _ _ => ⟨o.slots, k b o (oth n) q⟩, fun b o q n _ => ?_, fun b o q _ => ?_, fun b xs q => same q (at_ne e q exo_tup), fun b o v q => same q (at_ne e q exo_frz), fun b ps q => ⟨#[], by rw [same q (at_ne e q exo_tbl)]; simp⟩⟩ fun b o q => ?_
  · rw [upd_ne (oth n), upd_ne (far q)]; exact n
  · by_cases z : b = a
    · exact ⟨_, z ▸ hx⟩
    · exact ⟨o, k b o z q⟩
  · by_cases z : b = a
    · subst z
      rw [upd_same] at q
      cases q
      exact exo_ok hx
    rw [upd_ne z] at q
    by_cases z2 : b = dx
    · subst z2
      rw [upd_same] at q
      cases q
      exact exd_ok hn rel
    rw [upd_ne z2] at q
    exact (I.hok b o q).stay (fun c v hc p => k c v (hc.elim (fun w => by rw [w]; exact z) fun w => at_ne e w exo_own) p) (fun c hc => same hc (at_ne e hc exo_own)) fun c xs hc => same hc (at_ne e hc exo_tup)
end
end DL
namespace DLS
open PySem Builtin Builtin.ObjectAttr PySem.W PySem.Calls PyProof.Rows PySem.HandSPX
/-- the first field of such an error: its dict is laid -/
theorem first_field {prog : Program} {w : World} {A : Around} {g : Array GenState} {d : Drawn} {t : Nat} {os : OsState} {hp : Heap} {Q : Fin → Shared → Prop} {E : Value → Shared → Prop} {K : W.Frag} {name : Str} {tk : Tok} {v : Value} {x C : Addr} {fv : Array Value} {b : Bool}
    (X : K.In hp) (hx : hp.get? x = some { cls := .ref C, data := .fields fv }) (hd : W.hasDictIn K C = true)
    (hq : ∀ h' tk' dx, (∀ b o, b ≠ x → hp.get? b = some o → h'.get? b = some o) → hp.objs.size ≤ dx → h'.get? x = some { cls := .ref C, dict := some dx, data := .fields fv } →
      h'.Ns1 dx (fun y => if y = name then some v else none) → Q (.done (.ret .none)) ⟨h', g, d, tk', os⟩) :
    wpAny (model prog w) A (storeInOwnDict (.ref x) (.ref C) (.str name tk) name v b) Q E ⟨hp, g, d, t, os⟩ := by
  obtain ⟨cd, hcd, hh⟩ := any_some hd
  have hcls : W.Looks (model prog w) hp (classData C) cd := W.looks_clsIn X hcd
  have ne : x ≠ hp.objs.size := Nat.ne_of_lt (Heap.lt_size hx)
  obtain ⟨nm, bs, mro, nsp, qn, hdt, sn, sb, ab, col, del⟩ := cd
  dsimp only at hh
  subst hh
  unfold storeInOwnDict ownDictForStores
  repeat (first | (with_reducible refine store_in_new ?_ ?_) | (with_reducible refine wpAny_loadPart_at hx ?_) | (with_reducible refine hcls.at ?_) | wp_step)
  · exact ⟨_, #[], _, (Heap.get?_update_ne _ _ _ _ ne.symm).trans (Heap.get?_push_at rfl rfl), rfl, fun e he => absurd he (by simp), fun _ => rfl⟩
  intro h' tk' n1 same
  have there : (hp.push { cls := .type "dict", data := .dict #[] }).get? x = some { cls := .ref C, data := .fields fv } := Heap.get?_push_of_some _ hx
  refine hq h' tk' _ (fun b o hb ho => ?_) (Nat.le_refl _) ((same.2 x ne).trans (Heap.get?_update_self _ there rfl)) n1
  rw [same.2 b (Nat.ne_of_lt (Heap.lt_size ho)), Heap.get?_update_ne _ _ _ _ hb]
  exact Heap.get?_push_of_some _ ho
end DLS
namespace DL
open PySem PySem.Spec PyProof.Rows L2
section
variable {X : Cx} {pins : List (Addr × Obj)} {σ : Sig} {H : Hp} {s : Shared} {a C : Addr} {f : Str} {y : V} {u : Value} {Q : Unit → Shared → Prop} {E : Value → Shared → Prop} {A : Around}
/-- self.f = y, the first one -/
theorem ostG (T : OexG X.K C) (I : Inv X pins σ H s) (e : H a = some (exo a C none)) (hno : PySem.W.findIn X.K (.ref C) f = some none) (ry : RelV y u)
    (h : ∀ dx s', H dx = none → dx ≠ a → Inv X pins σ (upd (upd H dx (exd dx [(f, y)])) a (exo a C (some dx))) s' → Q () s') : wpAny (model X.prog X.w) A (setAttr (.ref a) f u) Q E s := by
  obtain ⟨nw, ini, tl, ⟨B, FB, SF⟩, _, ov⟩ := T.base
  obtain ⟨t1, ho⟩ := exo_at I.hok e
  obtain ⟨hp, g, d, t, os⟩ := s
  have J : PySem.W.InstAt hp a { cls := .ref C, dict := none, data := .fields #[.ref t1, .none, .none, .none, .bool false, .none] } C none := ⟨ho, rfl, rfl, trivial⟩
  refine PySem.W.set_plain I.kIn J T.sa (PySem.W.osa_openX SF I.kIn J ov (NoAttr.taker hno) fun b => ?_)
  refine DLS.first_field I.kIn ho T.hd fun h' tk' dx k dn hx hn => ?_
  have d0 : H dx = none := I.hok.fresh dn
  exact h dx _ d0 (fun z => by rw [z, e] at d0; cases d0) (inv_exo (t' := tk') I e k dn hx hn (relO_put (fs := []) ry fun _ => True.intro))
end
/-- self.f = e within such an error's __init__ -/
def tOstG (K : PySem.W.Frag) (f : Str) (to te : TE) : TS := fun D σ H => te σ H fun y H1 => to σ H1 fun x H2 => ∃ a C : Addr, x = .ref a ∧ OexG K C ∧ PySem.W.findIn K (.ref C) f = some none ∧ H2 a = some (exo a C none) ∧
  ∀ dx, H2 dx = none → dx ≠ a → D.nx σ (upd (upd H2 dx (exd dx [(f, y)])) a (exo a C (some dx)))
section
variable {X : Cx} {o e : Expr} {es : List Expr} {to te : TE} {ta : TA} {f : Str} {p p' pos : Pos}
theorem ps_ostG (ho : PE X o to) (he : PE X e te) (hs : swapsWith e (some (.Attribute o f p')) pos.line X.env = pure false := by rfl) : PS X (.Assign [.Attribute o f p'] e pos) (tOstG X.K f to te) := by
  refine ⟨fun pins s σ H D I h => plainObj_wpAny_Assign_Attribute (thn (he.run pins s σ H _ I h) fun v s1 ⟨y, H1, I1, r1, q1⟩ => thn (ho.run pins s1 σ H1 _ I1 q1) fun u s2 ⟨x, H2, I2, r2, a, C, ex, T, hno, ea, q⟩ => ?_) hs⟩
  subst ex
  cases (show u = Value.ref a from r2)
  exact ostG T I2 ea hno r1 fun dx s' n ne J => ⟨σ, _, J, q dx n ne⟩
theorem pmk_oexG {CX : CXT} {x : Str} {C fI : Addr} {k : Nat} {fd : FuncData} {ps : List Str} {sp : Sp} {ds : List Value} {dvs : List V} (T : OexG X.K C) (iC : PySem.W.findIn X.K (.ref C) "__init__" = some (some (.ref fI))) (tI : PySem.W.typeIn X.K (.ref fI) = some (.type "function"))
    (F1 : FnOk X.prog X.w X.K X.mg X.base CX k fI fd ps sp) (hr : Room (k + 1) X.A) (hb : Binds X.K fd ps ds) (hd : Vals dvs ds) (hx : Passes CX X (fun _ _ _ => False)) (hg : Gl X x) (hm : X.mg x = some (.ref C)) (ha : PA X (e :: es) ta)
    (hdb : (x == ("__debug__" : Str)) = false := by decide) (he : starEach (e :: es) X.env = (false, eval e X.env) :: starEach es X.env := by rfl) (hpl : (backTo pos (starEach es X.env)).any (·.1) = false := by rfl) :
    PMk X (.Call (.Name x p) (e :: es) [] pos) (tMkO C sp dvs ta) := by
  intro pins s σ H Q I h
  obtain ⟨nw, ini, tl, ⟨B, FB, SF⟩, xi, _⟩ := T.base
  refine wpAny_Call_Name_kw (ld_glob I hg hm ?_ hdb)
  refine PySem.W.callWith_K (h₀ := X.base) I.ok.mod.kin T.kC (thn (ha.run pos pins s σ H _ I h) fun us s1 ⟨vs, H1, I1, r1, hz, q1⟩ => ⟨I1.kIn, ?_⟩) he hpl
  obtain ⟨nm, N, qn, bs, bm, hdct, sn, sub, ab, col, dd, k0, k1, k2, k3, k5, hC, hT⟩ := PySem.W.excInit_of I1.kIn xi
  show wpAny _ _ (call (.ref C) us) _ _ _
  obtain ⟨hp, g, dr, tk, os⟩ := s1
  have up := Nat.le_succ hp.objs.size
  have free : H1 (hp.objs.size + 1) = none := I1.hok.fresh up
  have hq := q1 _ free
  let hp2 : Heap := (hp.push (PySem.W.kdv_tup us)).push (PySem.HandSPX.excO C hp.objs.size)
  have kk : ∀ b o, hp.get? b = some o → hp2.get? b = some o := fun b o z => Heap.get?_push_of_some _ (Heap.get?_push_of_some _ z)
  have got : hp2.get? (hp.objs.size + 1) = some (PySem.HandSPX.excO C hp.objs.size) := by
    show ((hp.push (PySem.W.kdv_tup us)).push (PySem.HandSPX.excO C hp.objs.size)).get? _ = _
    heap_get
  have I2 : Inv X pins σ (upd H1 (hp.objs.size + 1) (exo (hp.objs.size + 1) C none)) ⟨hp2, g, dr, tk, os⟩ := I1.laid (t' := tk) (a := hp.objs.size + 1) (o := exo (hp.objs.size + 1) C none) (h' := hp2) kk up (exo_ok got)
  have r2 : Vals (V.ref (hp.objs.size + 1) :: (vs ++ dvs)) (Value.ref (hp.objs.size + 1) :: (us ++ ds)) := .cons rfl (r1.append hd)
  have hl : (Value.ref (hp.objs.size + 1) :: us ++ ds).length = ps.length := r2.length.symm.trans (F1.len _ _ _ _ hq)
  have hus : us.length ≤ sizeLine := by
    rw [← Paired.length r1, sizeLine_eq]
    omega
  have go := F1.run _ X.stack _ _ ⟨Value.ref (hp.objs.size + 1) :: us, []⟩ (Value.ref (hp.objs.size + 1) :: (us ++ ds)) _ _ (fun _ _ _ => False) (hr.make C us []) (I2.env0.make C us []) (hb _ (Value.ref (hp.objs.size + 1) :: us) I2.kIn hl) r2 hq
  refine wpAny_call (PySem.HandSPX.call_own FB hT hC (PySem.W.looks_findIn I1.kIn iC) (fun self => PySem.W.bind_fn I1.kIn self tI) hus (codeAny_mono go fun r s' hq' => ?_))
  match r, hq' with
  | .error er, hq' => exact hx pins σ _ _ er s' I2 hq'
  | .ok (.ret u), ⟨v, H2, os2, bare2, un2, hok2, rv, ev, d, fs, ea, ed, hd1, q2⟩ =>
    subst ev
    exact ⟨rv, mk_end (raises_own T.exC T.tyC) I1 up kk un2 hok2 os2 bare2 ea ed hd1 q2⟩
  | .ok .next, hq' => exact hq'.elim
  | .ok .brk, hq' => exact hq'.elim
  | .ok .cont, hq' => exact hq'.elim
end
section
variable {P : Program} {w : World} {K : PySem.W.Frag} {mg : Str → Option Value} {base : Heap}
theorem ok_xinitG {x qual fld ar : Str} {st : Stmt} {f C : Addr} {fd : FuncData} (F : Fun K x qual st f fd) (Sc : FnScope [("self" : Str), ar] [("self" : Str), ar] (defScope st)) (T : OexG K C) (no : PySem.W.findIn K (.ref C) fld = some none)
    (hb : ∀ X : Cx, X.K = K → X.N = [("self" : Str), ar] → X.env.scope = defScope st → ∃ to te : TE, PSs X (defBody st) (tOstG K fld to te) ∧ (∀ (u y : V) (H : Hp) (Q : VK), Q y H → te [some u, some y] H Q) ∧ ∀ (u y : V) (H : Hp) (Q : VK), Q u H → to [some u, some y] H Q) :
    FnOk P w K mg base CX0 1 f fd [("self" : Str), ar] (spXI C fld) := by
  refine F.ok Sc (fun vs H Q E ⟨a, y, ev, _⟩ => by rw [ev]; rfl) fun cdv A outer s H vs Q E hr ⟨a, y, ev, ea, k⟩ => ?_
  subst ev
  obtain ⟨to, te, hp, h1, h2⟩ := hb (cxOf CX0 P w K mg base [("self" : Str), ar] qual (defScope st) f cdv A outer s H E).nox rfl rfl rfl
  exact ⟨_, hp, h1 _ _ _ _ (h2 _ _ _ _ ⟨a, C, rfl, T, no, ea, k⟩)⟩
end
section
variable {X : Cx} {Φ : OH → Hp → Hp → Prop} {W : WX} [FΦ : OFrm X.K X.mg Φ]
theorem ds_raiseG {C fI : Addr} {x fld ar : Str} {fd : FuncData} {e : Expr} {ta : TA} {n : MA OH} {p pos pos2 : Pos} (T : OexG X.K C) (iC : PySem.W.findIn X.K (.ref C) "__init__" = some (some (.ref fI))) (tI : PySem.W.typeIn X.K (.ref fI) = some (.type "function"))
    (F : FnOk X.prog X.w X.K X.mg X.base CX0 1 fI fd [("self" : Str), ar] (spXI C fld)) (hr : Rm 2 X) (hb : Binds X.K fd [("self" : Str), ar] []) (hg : Gl X x) (hm : X.mg x = some (.ref C)) (hc : X.calm = true) (tk : Takes X W) (ha : DA X Φ W [e] ta n)
    (hdb : (x == ("__debug__" : Str)) = false := by decide) (he : starEach [e] X.env = (false, eval e X.env) :: starEach [] X.env := by rfl) (hpl : (backTo pos (starEach [] X.env)).any (·.1) = false := by rfl) :
    DS X Φ W (.Raise (some (.Call (.Name x p) [e] [] pos)) none pos2) (fun _ σ H => tMkO C (spXI C fld) [] ta σ H fun cls d H' => W cls d σ H') (sRaise x fld n) := by
  refine ⟨ps_raise hc tk (pmk_oexG T iC tI F hr.room hb .nil pass0 hg hm ha.pa hdb he hpl), fun σ ρ s G H D M hρ f hmm E => ha.sem σ ρ s G H _ _ _ hρ f (E.wsh hρ) hmm fun ds s1 vs G1 H1 ⟨d, ed, h1⟩ e1 f1 r1 => ?_⟩
  subst ed
  obtain ⟨v, rfl, rv⟩ := rpl1 r1
  refine ⟨by show 1 ≤ 1000; decide, fun a na => ⟨a, v, rfl, upd_same, fun dx ndx ne => ?_⟩⟩
  have nd1 : H1 dx = none := by
    rw [upd_ne ne] at ndx
    exact ndx
  refine ⟨rfl, dx, [(fld, v)], upd_same, ?_, nd1, ?_⟩
  · rw [upd_ne ne, upd_same]
  · rw [exo_end na ne]
    have sg := same_new (o := HO.xd [(fld, v)]) ((Frm.same f1).free nd1)
    exact E.ex ⟨x, some ([fld], [d])⟩ σ ρ s1 _ _ (.ref C) (some dx) h1 (e1.trans sg) ((hρ.mono e1).mono sg) (Frm.ext f1 nd1) ⟨hm, dx, [v], rfl, upd_same, rfl, .cons (rv.mono sg) .nil⟩
end
end DL

set_option Elab.async false
set_option linter.all false
set_option maxRecDepth 100000
set_option maxHeartbeats 2000000
/-! try: .. except C as e: .. except D as e: .. -/
namespace DL
open PySem PySem.Spec PyProof.Rows L2
abbrev SuT := Addr → Value → Option Addr → TS
/-- clauses, each with its own name -/
inductive Clauses (X : Cx) : List ExceptHandler → List (Value × Nat × SuT) → Prop
  | nil : Clauses X [] []
  | cons {x n : Str} {c : Value} {i : Nat} {ts : SuT} {b₀ : Stmt} {suite : List Stmt} {np pos' : Pos} {hds : List ExceptHandler} {l : List (Value × Nat × SuT)} (hc : Names X x c) (hi : X.N[i]? = some n) (hln : X.env.kindOf n = some .local)
      (hsu : ∀ (a : Addr) (oe : Obj) (cls : Value) (d : Option Addr) (pn : List (Addr × Obj)), Zc cls d oe → (∃ vs, oe.data = .fields vs) → PSs (X.suite a ((a, oe) :: pn)) (b₀ :: suite) (ts a cls d)) (r : Clauses X hds l) :
      Clauses X (.ExceptHandler (some (.Name x np)) (some n) (b₀ :: suite) pos' :: hds) ((c, i, ts) :: l)
section
variable {X : Cx} {body : List Stmt} {h₀ : ExceptHandler} {hds : List ExceptHandler} {l : List (Value × Nat × SuT)} {pos : Pos} {tb : WX → TS} {Wo : WX}
end
end DL
namespace DL
open PySem PySem.Spec PyProof.Rows L2
abbrev ClD := (Exn → Option Bool) × Nat × (Addr → Exn → MS OH)
def dropM (i : Nat) (M : MEnds OH) : MEnds OH := { nx := fun ρ O => M.nx (ρ.set i none) O, rt := M.rt, bk := fun ρ O => M.bk (ρ.set i none) O, ct := fun ρ O => M.ct (ρ.set i none) O, ex := fun _ _ _ => False }
/-- the clause that takes the error -/
def pick (M : MEnds OH) (x : Exn) (ρ : Rho) (O : OH) : List ClD → Prop
  | [] => M.ex x ρ O
  | q :: r => ∃ b, q.1 x = some b ∧ (b = true → ∀ a, q.2.2 a x (dropM q.2.1 M) (ρ.set q.2.1 (some (.loc a))) O) ∧ (b = false → pick M x ρ O r)
section
variable {X : Cx} {Φ : OH → Hp → Hp → Prop} {W : WX} [FΦ : OFrm X.K X.mg Φ]
inductive DCl (X : Cx) (Φ : OH → Hp → Hp → Prop) : List ExceptHandler → List (Value × Nat × SuT) → List ClD → Prop
  | nil : DCl X Φ [] [] []
  | cons {x n : Str} {c : Value} {i : Nat} {cl : Exn → Option Bool} {ms : Addr → Exn → MS OH} {b₀ : Stmt} {suite : List Stmt} {np pos' : Pos} {hds : List ExceptHandler} {l : List (Value × Nat × SuT)} {cs : List ClD}
      (hi : X.N[i]? = some n) (hln : X.env.kindOf n = some .local) (hc : Names X x c)
      (hcl : ∀ (x : Exn) (b : Bool) (cls : Value), X.mg x.cls = some cls → cl x = some b → PySem.W.exmOne X.K cls c = some b)
      (hsu : ∀ (a : Addr) (oe : Obj) (cls : Value) (d : Option Addr) (pn : List (Addr × Obj)) (x : Exn), Zc cls d oe → (∃ vs, oe.data = .fields vs) → ∃ ts, DSs (X.suite a ((a, oe) :: pn)) (ExF X.K X.mg Φ cls d x) W0 (b₀ :: suite) ts (ms a x))
      (r : DCl X Φ hds l cs) : DCl X Φ (.ExceptHandler (some (.Name x np)) (some n) (b₀ :: suite) pos' :: hds) ((c, i, cSx X.K X.mg Φ ms) :: l) ((cl, i, ms) :: cs)
theorem DCl.ps {hds : List ExceptHandler} {l : List (Value × Nat × SuT)} {cs : List ClD} (h : DCl X Φ hds l cs) : Clauses X hds l := by
  induction h with
  | nil => exact .nil
  | cons hi hln hc hcl hsu r ih =>
    refine .cons hc hi hln (fun a oe cls d pn hz hd => ⟨fun pins s σ H D I ⟨x, ρ, O, G, M, r, f, hm, E⟩ => ?_⟩) ih
    obtain ⟨ts, h⟩ := hsu a oe cls d pn x hz hd
    exact h.pss.run pins s σ H D I (h.sem σ ρ O G H D M r f hm E)
end
end DL

set_option Elab.async false
set_option linter.all false
set_option maxRecDepth 100000
set_option maxHeartbeats 1000000
/-! x in xs, x not in xs: flat values -/
namespace DL
open PySem PySem.Spec PyProof.Rows L2
def toV : D → Option V
  | .non => some .non
  | .bl b => some (.bl b)
  | .int i => some (.int i)
  | .str x => some (.str x)
  | _ => none
def toVL : List D → Option (List V)
  | [] => some []
  | d :: ds => match toV d, toVL ds with
    | some v, some vs => some (v :: vs)
    | _, _ => none
theorem toV_rp {K : PySem.W.Frag} {mg : Str → Option Value} {G : Hp} {v u : V} {d : D} (r : Rp K mg G v d) (h : toV d = some u) : v = u ∧ flatV v = true := by
  cases r <;> simp only [toV] at h <;> first | (cases h; exact ⟨rfl, rfl⟩) | cases h
theorem toVL_rp {K : PySem.W.Frag} {mg : Str → Option Value} {G : Hp} : ∀ {vs us : List V} {ds : List D}, RpL K mg G vs ds → toVL ds = some us → vs = us ∧ vs.all flatV = true
  | _, _, _, .nil, h => by cases h; exact ⟨rfl, rfl⟩
  | _, _, _, .cons (d := d) (ds := ds) a b, h => by
    simp only [toVL] at h
    cases e1 : toV d with
    | none => rw [e1] at h; cases h
    | some v =>
      cases e2 : toVL ds with
      | none => rw [e1, e2] at h; cases h
      | some vs =>
        rw [e1, e2] at h
        cases h
        obtain ⟨q1, q2⟩ := toV_rp a e1
        obtain ⟨q3, q4⟩ := toVL_rp b e2
        exact ⟨by rw [q1, q3], by rw [List.all_cons, q2, q4]; rfl⟩
def wInN (neg : Bool) : W2 := fun a b P => ∃ v vs xs, toV a = some v ∧ (b = .lst xs ∨ b = .tup xs ∨ b = .frz xs) ∧ toVL xs = some vs ∧ P (.bl (if neg then !inV v vs else inV v vs))
theorem in_sem {X : Cx} {neg : Bool} {f : Value → Value → Sem Value} (o : OpR X f (rIn X.K neg)) : Op2 X f (rIn X.K neg) (wInN neg) := by
  refine ⟨o, fun x y a b G H Q P ra rb sm ⟨v, vs, xs, ha, hb, hx, p⟩ k => ?_⟩
  obtain ⟨e1, f1⟩ := toV_rp ra ha
  subst e1
  have fin : ∀ {p0 : Addr} {ws : List V}, y = .ref p0 → (SqL X.K H p0 ws ∨ SqT X.K H p0 ws) → RpL X.K X.mg G ws xs → rIn X.K neg x y H Q := fun {p0 ws} ey hq rl => by
    obtain ⟨e2, f2⟩ := toVL_rp rl hx
    subst e2
    exact ⟨p0, ws, ey, hq, f1, f2, k _ _ G H p .refl (.bl _)⟩
  rcases hb with rfl | rfl | rfl
  · cases rb with | lst h l => exact fin rfl (.inl (SqL.of (sm _ _ h))) l
  · cases rb with | tup h l => exact fin rfl (.inr (sqt_mono sm h)) l
  · cases rb with | frz h l => exact fin rfl (.inl (sql_mono sm h.sql)) l
def wIn : W2 := wInN false
theorem o_in {X : Cx} : Op2 X (compareOp .In) (rIn X.K false) wIn := in_sem op_in_seq
section
variable {S : Type} {X : Cx} {Φ : S → Hp → Hp → Prop} {W : WX} [Frm Φ]
end
end DL

set_option Elab.async false
set_option linter.all false
set_option maxRecDepth 100000
set_option maxHeartbeats 1000000
/-! what code yields, as plain functions over data trees; one's own objects are numbered -/
namespace FL
open PySem PySem.Spec PyProof.Rows L2 DL

abbrev St := List (Option DO)
abbrev Th := List Addr
mutual
/-- the tree with numbers, the tree with addresses -/
inductive Rn (θ : Th) : D → D → Prop
  | non : Rn θ .non .non
  | bl (b : Bool) : Rn θ (.bl b) (.bl b)
  | int (i : Int) : Rn θ (.int i) (.int i)
  | str (x : Str) : Rn θ (.str x) (.str x)
  | lst {a b : List D} : RnL θ a b → Rn θ (.lst a) (.lst b)
  | tup {a b : List D} : RnL θ a b → Rn θ (.tup a) (.tup b)
  | dic {ks : List Key} {a b : List D} : RnL θ a b → Rn θ (.dic ks a) (.dic ks b)
  | ins {C : Str} {ns : List Str} {a b : List D} : RnL θ a b → Rn θ (.ins C ns a) (.ins C ns b)
  | frz {a b : List D} : RnL θ a b → Rn θ (.frz a) (.frz b)
  | loc {i : Nat} {a : Addr} : θ[i]? = some a → Rn θ (.loc i) (.loc a)
  | cls (C : Str) : Rn θ (.cls C) (.cls C)
  | ty (n : String) : Rn θ (.ty n) (.ty n)
inductive RnL (θ : Th) : List D → List D → Prop
  | nil : RnL θ [] []
  | cons {d e : D} {ds es : List D} : Rn θ d e → RnL θ ds es → RnL θ (d :: ds) (e :: es)
end
theorem sub_at {θ θ1 : Th} (s : θ <+: θ1) {i : Nat} {a : Addr} (h : θ[i]? = some a) : θ1[i]? = some a := by
  obtain ⟨t, rfl⟩ := s
  have hi : i < θ.length := (List.getElem?_eq_some_iff.mp h).1
  rw [List.getElem?_append_left hi]
  exact h
mutual
theorem Rn.mono {θ θ1 : Th} (s : θ <+: θ1) : ∀ {a b : D}, Rn θ a b → Rn θ1 a b
  | _, _, .non => .non
  | _, _, .bl b => .bl b
  | _, _, .int i => .int i
  | _, _, .str x => .str x
  | _, _, .lst r => .lst (RnL.mono s r)
  | _, _, .tup r => .tup (RnL.mono s r)
  | _, _, .dic r => .dic (RnL.mono s r)
  | _, _, .ins r => .ins (RnL.mono s r)
  | _, _, .frz r => .frz (RnL.mono s r)
  | _, _, .loc h => .loc (sub_at s h)
  | _, _, .cls C => .cls C
  | _, _, .ty n => .ty n
theorem RnL.mono {θ θ1 : Th} (s : θ <+: θ1) : ∀ {a b : List D}, RnL θ a b → RnL θ1 a b
  | _, _, .nil => .nil
  | _, _, .cons a b => .cons (Rn.mono s a) (RnL.mono s b)
end
section
variable {θ : Th}
theorem RnL.len : ∀ {a b : List D}, RnL θ a b → a.length = b.length
  | _, _, .nil => rfl
  | _, _, .cons _ r => by rw [List.length_cons, List.length_cons, RnL.len r]
theorem RnL.at : ∀ {a b : List D} {i : Nat} {d : D}, RnL θ a b → a[i]? = some d → ∃ e, b[i]? = some e ∧ Rn θ d e
  | _, _, _, _, .nil, h => by simp at h
  | _, _, 0, _, .cons a _, h => by
    simp at h
    subst h
    exact ⟨_, rfl, a⟩
  | _, _, i + 1, _, .cons _ r, h => by
    obtain ⟨v, e, q⟩ := RnL.at (i := i) r (by simpa using h)
    exact ⟨v, by simpa using e, q⟩
theorem RnL.app : ∀ {a b c d : List D}, RnL θ a b → RnL θ c d → RnL θ (a ++ c) (b ++ d)
  | _, _, _, _, .nil, s => s
  | _, _, _, _, .cons a r, s => .cons a (RnL.app r s)
theorem RnL.tk : ∀ {a b : List D} (n : Nat), RnL θ a b → RnL θ (a.take n) (b.take n)
  | _, _, 0, _ => .nil
  | _, _, _ + 1, .nil => .nil
  | _, _, n + 1, .cons a r => .cons a (RnL.tk n r)
theorem RnL.dr : ∀ {a b : List D} (n : Nat), RnL θ a b → RnL θ (a.drop n) (b.drop n)
  | _, _, 0, r => r
  | _, _, _ + 1, .nil => .nil
  | _, _, n + 1, .cons _ r => RnL.dr n r
theorem RnL.rev : ∀ {a b : List D}, RnL θ a b → RnL θ a.reverse b.reverse
  | _, _, .nil => .nil
  | _, _, .cons a r => by
    rw [List.reverse_cons, List.reverse_cons]
    exact (RnL.rev r).app (.cons a .nil)
theorem RnL.flat (n : Nat) {a b : List D} (r : RnL θ a b) : RnL θ (List.replicate n a).flatten (List.replicate n b).flatten := by
  induction n with
  | zero => exact .nil
  | succ n ih =>
    rw [List.replicate_succ, List.replicate_succ, List.flatten_cons, List.flatten_cons]
    exact r.app ih
theorem RnL.set {d e : D} (r : Rn θ d e) : ∀ {a b : List D} (j : Nat), RnL θ a b → RnL θ (a.set j d) (b.set j e)
  | _, _, _, .nil => .nil
  | _, _, 0, .cons _ b => .cons r b
  | _, _, j + 1, .cons a b => .cons a (RnL.set r j b)
end
/-! trees without numbers stand for themselves -/
mutual
def noLoc : D → Bool
  | .lst a => noLocL a
  | .tup a => noLocL a
  | .dic _ a => noLocL a
  | .ins _ _ a => noLocL a
  | .frz a => noLocL a
  | .loc _ => false
  | _ => true
def noLocL : List D → Bool
  | [] => true
  | d :: ds => noLoc d && noLocL ds
end
mutual
theorem rn_eq {θ : Th} : ∀ {a b : D}, Rn θ a b → noLoc a = true → b = a
  | _, _, .non, _ => rfl
  | _, _, .bl b, _ => rfl
  | _, _, .int i, _ => rfl
  | _, _, .str x, _ => rfl
  | _, _, .lst r, h => by rw [rnl_eq r (by simpa [noLoc] using h)]
  | _, _, .tup r, h => by rw [rnl_eq r (by simpa [noLoc] using h)]
  | _, _, .dic r, h => by rw [rnl_eq r (by simpa [noLoc] using h)]
  | _, _, .ins r, h => by rw [rnl_eq r (by simpa [noLoc] using h)]
  | _, _, .frz r, h => by rw [rnl_eq r (by simpa [noLoc] using h)]
  | _, _, .loc _, h => by simp [noLoc] at h
  | _, _, .cls C, _ => rfl
  | _, _, .ty n, _ => rfl
theorem rnl_eq {θ : Th} : ∀ {a b : List D}, RnL θ a b → noLocL a = true → b = a
  | _, _, .nil, _ => rfl
  | _, _, .cons a r, h => by
    simp only [noLocL, Bool.and_eq_true] at h
    rw [rn_eq a h.1, rnl_eq r h.2]
end
mutual
theorem rn_self {θ : Th} : ∀ {a : D}, noLoc a = true → Rn θ a a
  | .non, _ => .non
  | .bl b, _ => .bl b
  | .int i, _ => .int i
  | .str x, _ => .str x
  | .lst a, h => .lst (rnl_self (by simpa [noLoc] using h))
  | .tup a, h => .tup (rnl_self (by simpa [noLoc] using h))
  | .dic _ a, h => .dic (rnl_self (by simpa [noLoc] using h))
  | .ins _ _ a, h => .ins (rnl_self (by simpa [noLoc] using h))
  | .frz a, h => .frz (rnl_self (by simpa [noLoc] using h))
  | .loc _, h => by simp [noLoc] at h
  | .cls C, _ => .cls C
  | .ty n, _ => .ty n
theorem rnl_self {θ : Th} : ∀ {a : List D}, noLocL a = true → RnL θ a a
  | [], _ => .nil
  | d :: ds, h => by
    simp only [noLocL, Bool.and_eq_true] at h
    exact .cons (rn_self h.1) (rnl_self h.2)
end
/-! objects, errors, slots -/
inductive RnO (θ : Th) : DO → DO → Prop
  | lst {a b : List D} : RnL θ a b → RnO θ (.lst a) (.lst b)
  | dic {ks : List Key} {a b : List D} : RnL θ a b → RnO θ (.dic ks a) (.dic ks b)
  | ins {C : Str} {ns : List Str} {a b : List D} : RnL θ a b → RnO θ (.ins C ns a) (.ins C ns b)
theorem RnO.mono {θ θ1 : Th} (s : θ <+: θ1) {x y : DO} (h : RnO θ x y) : RnO θ1 x y := by
  cases h with
  | lst r => exact .lst (r.mono s)
  | dic r => exact .dic (r.mono s)
  | ins r => exact .ins (r.mono s)
theorem RnO.tree {θ : Th} {x y : DO} (h : RnO θ x y) : Rn θ x.tree y.tree := by
  cases h with
  | lst r => exact .lst r
  | dic r => exact .dic r
  | ins r => exact .ins r
def RnX (θ : Th) (x y : Exn) : Prop := x.cls = y.cls ∧ match x.fs, y.fs with
  | none, none => True
  | some (ns, a), some (ms, b) => ns = ms ∧ RnL θ a b
  | _, _ => False
theorem RnX.mono {θ θ1 : Th} (s : θ <+: θ1) {x y : Exn} (h : RnX θ x y) : RnX θ1 x y := by
  obtain ⟨c, h⟩ := h
  refine ⟨c, ?_⟩
  revert h
  cases x.fs <;> cases y.fs <;> first | exact id | exact fun h => ⟨h.1, h.2.mono s⟩
def RnE (θ : Th) (ρ ρ' : Rho) : Prop := ρ.length = ρ'.length ∧ ∀ (i : Nat) (d : D), ρ[i]? = some (some d) → ∃ e, ρ'[i]? = some (some e) ∧ Rn θ d e
theorem RnE.mono {θ θ1 : Th} (s : θ <+: θ1) {ρ ρ' : Rho} (h : RnE θ ρ ρ') : RnE θ1 ρ ρ' := ⟨h.1, fun i d q => by
  obtain ⟨e, a, b⟩ := h.2 i d q
  exact ⟨e, a, b.mono s⟩⟩
theorem RnE.set {θ : Th} {ρ ρ' : Rho} (h : RnE θ ρ ρ') (i : Nat) {d e : D} (r : Rn θ d e) : RnE θ (ρ.set i (some d)) (ρ'.set i (some e)) := by
  refine ⟨by rw [List.length_set, List.length_set]; exact h.1, fun j u q => ?_⟩
  by_cases hj : i = j
  · subst hj
    have hl : i < ρ.length := by
      have q' := (List.getElem?_eq_some_iff.mp q).1
      rwa [List.length_set] at q'
    rw [List.getElem?_set_self hl] at q
    cases q
    exact ⟨e, List.getElem?_set_self (by rw [← h.1]; exact hl), r⟩
  · rw [List.getElem?_set_ne hj] at q ⊢
    exact h.2 j u q
theorem RnE.drop {θ : Th} {ρ ρ' : Rho} (h : RnE θ ρ ρ') (i : Nat) (u : Option D) : RnE θ (ρ.set i none) (ρ'.set i u) := by
  refine ⟨by rw [List.length_set, List.length_set]; exact h.1, fun j e q => ?_⟩
  by_cases hj : i = j
  · subst hj
    have hl : i < ρ.length := by
      have q' := (List.getElem?_eq_some_iff.mp q).1
      rwa [List.length_set] at q'
    rw [List.getElem?_set_self hl] at q
    cases q
  · rw [List.getElem?_set_ne hj] at q ⊢
    exact h.2 j e q
theorem RnE.wipe {θ : Th} {ρ ρ' : Rho} (h : RnE θ ρ ρ') : ∀ vs : List Nat, RnE θ (wipeD ρ vs) (wipeD ρ' vs)
  | [] => h
  | v :: vs => (h.wipe vs).drop v none
theorem RnE.start {θ : Th} {a b : List D} (r : RnL θ a b) (k : Nat) : RnE θ (a.map some ++ List.replicate k none) (b.map some ++ List.replicate k none) := by
  have hl := r.len
  refine ⟨by simp [hl], fun i d h => ?_⟩
  by_cases hi : i < a.length
  · rw [List.getElem?_append_left (by simpa using hi), List.getElem?_map] at h
    cases e : a[i]? with
    | none => rw [e] at h; cases h
    | some d' =>
      rw [e] at h
      cases h
      obtain ⟨v, hv, rv⟩ := r.at e
      refine ⟨v, ?_, rv⟩
      rw [List.getElem?_append_left (by simpa [← hl] using hi), List.getElem?_map, hv]
      rfl
  · rw [List.getElem?_append_right (by simpa using hi), List.getElem?_replicate] at h
    split at h <;> cases h
/-- the numbered objects stand at their addresses -/
structure Mt (θ : Th) (st : St) (O : OH) : Prop where
  len : θ.length = st.length
  live : ∀ (i : Nat) (x : DO), st[i]? = some (some x) → ∃ a y, θ[i]? = some a ∧ O a = some y ∧ RnO θ x y
  inj : ∀ (i j : Nat) (x y : DO) (a : Addr), st[i]? = some (some x) → st[j]? = some (some y) → θ[i]? = some a → θ[j]? = some a → i = j
theorem Mt.new {θ : Th} {st : St} {O : OH} (h : Mt θ st O) {p : Addr} {x y : DO} (n : O p = none) (r : RnO θ x y) : Mt (θ ++ [p]) (st ++ [some x]) (O.put p y) := by
  have hl := h.len
  have sb : θ <+: θ ++ [p] := ⟨[p], rfl⟩
  have old : ∀ (i : Nat) (z : DO), i ≠ st.length → (st ++ [some x])[i]? = some (some z) → st[i]? = some (some z) := fun i z hi e => by
    by_cases q : i < st.length
    · rwa [List.getElem?_append_left q] at e
    · rw [List.getElem?_append_right (by omega)] at e
      have : i - st.length ≠ 0 := by omega
      cases e1 : i - st.length with
      | zero => exact absurd e1 this
      | succ k => rw [e1] at e; simp at e
  have atp : ∀ (i : Nat) (z : DO) (a : Addr), st[i]? = some (some z) → (θ ++ [p])[i]? = some a → θ[i]? = some a ∧ a ≠ p := fun i z a e q => by
    obtain ⟨b, y', h1, h2, _⟩ := h.live i z e
    have := sub_at sb h1
    rw [this] at q
    cases q
    exact ⟨h1, fun e' => by rw [e', n] at h2; cases h2⟩
  have lastp : ∀ (a : Addr), (θ ++ [p])[st.length]? = some a → a = p := fun a e => by
    rw [List.getElem?_append_right (by omega), hl, Nat.sub_self] at e
    simpa using e.symm
  refine ⟨by simp [hl], fun i z e => ?_, fun i j z w a e1 e2 q1 q2 => ?_⟩
  · by_cases hi : i = st.length
    · subst hi
      rw [List.getElem?_append_right (Nat.le_refl _), Nat.sub_self] at e
      simp at e
      subst e
      exact ⟨p, y, by rw [List.getElem?_append_right (by omega), hl, Nat.sub_self]; rfl, OH.put_same, r.mono sb⟩
    · have e' := old i z hi e
      obtain ⟨a, u, h1, h2, h3⟩ := h.live i z e'
      exact ⟨a, u, sub_at sb h1, by rw [OH.put_ne fun q => by rw [q, n] at h2; cases h2]; exact h2, h3.mono sb⟩
  · by_cases hi : i = st.length
    · by_cases hj : j = st.length
      · rw [hi, hj]
      · subst hi
        have := lastp a q1
        exact absurd this (atp j w a (old j w hj e2) q2).2
    · by_cases hj : j = st.length
      · subst hj
        have := lastp a q2
        exact absurd this (atp i z a (old i z hi e1) q1).2
      · exact h.inj i j z w a (old i z hi e1) (old j w hj e2) (atp i z a (old i z hi e1) q1).1 (atp j w a (old j w hj e2) q2).1
theorem Mt.put {θ : Th} {st : St} {O : OH} (h : Mt θ st O) {i : Nat} {a : Addr} {x0 x y : DO} (e : st[i]? = some (some x0)) (q : θ[i]? = some a) (r : RnO θ x y) : Mt θ (st.set i (some x)) (O.put a y) := by
  have hi : i < st.length := (List.getElem?_eq_some_iff.mp e).1
  have back : ∀ (j : Nat) (z : DO), (st.set i (some x))[j]? = some (some z) → j = i ∨ (j ≠ i ∧ st[j]? = some (some z)) := fun j z e => by
    by_cases hj : j = i
    · exact .inl hj
    · rw [List.getElem?_set_ne (Ne.symm hj)] at e
      exact .inr ⟨hj, e⟩
  have lives : ∀ (j : Nat) (z : DO), (st.set i (some x))[j]? = some (some z) → ∃ z0, st[j]? = some (some z0) := fun j z e1 => by
    rcases back j z e1 with rfl | ⟨_, e2⟩
    · exact ⟨x0, e⟩
    · exact ⟨z, e2⟩
  refine ⟨by rw [List.length_set]; exact h.len, fun j z e1 => ?_, fun j k z w b e1 e2 q1 q2 => ?_⟩
  · by_cases hj : j = i
    · subst hj
      rw [List.getElem?_set_self hi] at e1
      cases e1
      exact ⟨a, y, q, OH.put_same, r⟩
    · rw [List.getElem?_set_ne (Ne.symm hj)] at e1
      obtain ⟨b, u, h1, h2, h3⟩ := h.live j z e1
      exact ⟨b, u, h1, by rw [OH.put_ne fun e2 => hj (by subst e2; exact h.inj j i z x0 b e1 e h1 q)]; exact h2, h3⟩
  · obtain ⟨z0, l1⟩ := lives j z e1
    obtain ⟨w0, l2⟩ := lives k w e2
    exact h.inj j k z0 w0 b l1 l2 q1 q2
theorem Mt.del {θ : Th} {st : St} {O : OH} (h : Mt θ st O) {i : Nat} {a : Addr} {x0 : DO} (e : st[i]? = some (some x0)) (q : θ[i]? = some a) : Mt θ (st.set i none) (O.del a) := by
  have hi : i < st.length := (List.getElem?_eq_some_iff.mp e).1
  have back : ∀ (j : Nat) (z : DO), (st.set i none)[j]? = some (some z) → j ≠ i ∧ st[j]? = some (some z) := fun j z e => by
    by_cases hj : j = i
    · subst hj
      rw [List.getElem?_set_self hi] at e
      cases e
    · rw [List.getElem?_set_ne (Ne.symm hj)] at e
      exact ⟨hj, e⟩
  refine ⟨by rw [List.length_set]; exact h.len, fun j z e1 => ?_, fun j k z w b e1 e2 q1 q2 => h.inj j k z w b (back j z e1).2 (back k w e2).2 q1 q2⟩
  obtain ⟨hj, e1⟩ := back j z e1
  obtain ⟨b, u, h1, h2, h3⟩ := h.live j z e1
  exact ⟨b, u, h1, by rw [OH.del_ne fun e2 => hj (by subst e2; exact h.inj j i z x0 b e1 e h1 q)]; exact h2, h3⟩
theorem Mt.at {θ : Th} {st : St} {O : OH} (h : Mt θ st O) {i : Nat} {a : Addr} {x : DO} (e : st[i]? = some (some x)) (q : θ[i]? = some a) : ∃ y, O a = some y ∧ RnO θ x y := by
  obtain ⟨b, y, h1, h2, h3⟩ := h.live i x e
  rw [q] at h1
  cases h1
  exact ⟨y, h2, h3⟩
end FL

set_option Elab.async false
set_option linter.all false
set_option maxRecDepth 100000
set_option maxHeartbeats 1000000
namespace FL
open PySem PySem.Spec PyProof.Rows L2 DL

inductive Res (α : Type) where
  | ok (a : α) (st : St)
  | ex (x : Exn) (st : St)
  | bad
def Res.bind {α β : Type} (r : Res α) (k : α → St → Res β) : Res β := match r with
  | .ok a st => k a st
  | .ex x st => .ex x st
  | .bad => .bad
/-- .. no error may come -/
def Res.calm {α : Type} (r : Res α) : Res α := match r with
  | .ok a st => .ok a st
  | _ => .bad
abbrev fE := Rho → St → Res D
abbrev fT := Rho → St → Res Bool
abbrev fA := Rho → St → Res (List D)
/-- within a suite: the slot of the error, where it stands, what it is -/
abbrev Jv := Option (Nat × Addr × Exn × Exn)
def jok : Jv → Th → Rho → Prop
  | none, _, _ => True
  | some (i, a, x', x), θ, ρ' => ρ'[i]? = some (some (.loc a)) ∧ RnX θ x x'
theorem jok.mono {J : Jv} {θ θ1 : Th} {ρ : Rho} (h : jok J θ ρ) (s : θ <+: θ1) : jok J θ1 ρ := by
  cases J with
  | none => trivial
  | some q => exact ⟨h.1, h.2.mono s⟩
def jfree : Jv → Nat → Prop
  | none, _ => True
  | some (i, _), j => j ≠ i
theorem jok.set {J : Jv} {θ : Th} {ρ : Rho} (h : jok J θ ρ) {j : Nat} (f : jfree J j) (u : Option D) : jok J θ (ρ.set j u) := by
  cases J with
  | none => trivial
  | some q => exact ⟨by rw [List.getElem?_set_ne f]; exact h.1, h.2⟩
theorem jok.wipe {J : Jv} {θ : Th} {ρ : Rho} (h : jok J θ ρ) : ∀ {vs : List Nat}, (∀ v ∈ vs, jfree J v) → jok J θ (wipeD ρ vs)
  | [], _ => h
  | v :: vs, f => (h.wipe fun x hx => f x (List.mem_cons_of_mem _ hx)).set (f v List.mem_cons_self) none
structure Ct (J : Jv) (θ : Th) (ρ ρ' : Rho) (st : St) (O : OH) : Prop where
  env : RnE θ ρ ρ'
  mt : Mt θ st O
  j : jok J θ ρ'
theorem Ct.step {J : Jv} {θ θ1 : Th} {ρ ρ' : Rho} {st st1 : St} {O O1 : OH} (h : Ct J θ ρ ρ' st O) (s : θ <+: θ1) (m : Mt θ1 st1 O1) : Ct J θ1 ρ ρ' st1 O1 := ⟨h.env.mono s, m, h.j.mono s⟩
theorem Ct.sub {J : Jv} {θ θ1 : Th} {ρ ρ' : Rho} {st : St} {O : OH} (h : Ct J θ ρ ρ' st O) : θ <+: θ := List.prefix_refl _
theorem Ct.set {J : Jv} {θ : Th} {ρ ρ' : Rho} {st : St} {O : OH} (h : Ct J θ ρ ρ' st O) {i : Nat} (f : jfree J i) {d e : D} (r : Rn θ d e) : Ct J θ (ρ.set i (some d)) (ρ'.set i (some e)) st O := ⟨h.env.set i r, h.mt, h.j.set f _⟩

section
variable {α α' β β' : Type}
def Aft (rel : Th → α → α' → Prop) (θ : Th) (r : Res α) (P : α' → OH → Prop) (R : Exn → OH → Prop) : Prop := match r with
  | .ok a st => ∀ (θ1 : Th) (a' : α') (O1 : OH), θ <+: θ1 → rel θ1 a a' → Mt θ1 st O1 → P a' O1
  | .ex x st => ∀ (θ1 : Th) (x' : Exn) (O1 : OH), θ <+: θ1 → RnX θ1 x x' → Mt θ1 st O1 → R x' O1
  | .bad => False
variable {rel : Th → α → α' → Prop} {rel2 : Th → β → β' → Prop} {θ θ1 : Th} {r : Res α} {P P' : α' → OH → Prop} {R : Exn → OH → Prop}
theorem Aft.sub (h : Aft rel θ r P R) (s : θ <+: θ1) : Aft rel θ1 r P R := by
  cases r with
  | ok a st => exact fun θ2 a' O1 t => h θ2 a' O1 (s.trans t)
  | ex x st => exact fun θ2 a' O1 t => h θ2 a' O1 (s.trans t)
  | bad => exact h
theorem Aft.imp (h : Aft rel θ r P R) (k : ∀ a O, P a O → P' a O) : Aft rel θ r P' R := by
  cases r with
  | ok a st => exact fun θ2 a' O1 t u v => k _ _ (h θ2 a' O1 t u v)
  | ex x st => exact h
  | bad => exact h
theorem Aft.bind {k : α → St → Res β} {Q : β' → OH → Prop} (h : Aft rel2 θ (r.bind k) Q R)
    (kk : ∀ (θ1 : Th) (a : α) (a' : α') (st1 : St) (O1 : OH), θ <+: θ1 → rel θ1 a a' → Mt θ1 st1 O1 → Aft rel2 θ1 (k a st1) Q R → P' a' O1) : Aft rel θ r P' R := by
  cases r with
  | ok a st => exact fun θ1 a' O1 s q m => kk θ1 a a' st O1 s q m (Aft.sub (r := k a st) h s)
  | ex x st => exact h
  | bad => exact h
theorem Aft.calm (h : Aft rel θ r.calm P R) : Aft rel θ r P R0 := by
  cases r with
  | ok a st => exact h
  | ex x st => exact h.elim
  | bad => exact h
theorem Aft.ok {a : α} {a' : α'} {st : St} {O : OH} (h : Aft rel θ (.ok a st) P R) (q : rel θ a a') (m : Mt θ st O) : P a' O := h θ a' O (List.prefix_refl _) q m
end
def relB : Th → Bool → Bool → Prop := fun _ a b => a = b
def dE (J : Jv) (f : fE) : ME OH := fun ρ' O P R => ∃ θ ρ st, Ct J θ ρ ρ' st O ∧ Aft Rn θ (f ρ st) P R
def dT (J : Jv) (f : fT) : MT OH := fun ρ' O P R => ∃ θ ρ st, Ct J θ ρ ρ' st O ∧ Aft relB θ (f ρ st) P R
def dA (J : Jv) (f : fA) : MA OH := fun ρ' O P R => ∃ θ ρ st, Ct J θ ρ ρ' st O ∧ Aft RnL θ (f ρ st) P R
section
variable (X : Cx) (Φ : OH → Hp → Hp → Prop) (W : WX) (J : Jv)
def FE (e : Expr) (f : fE) : Prop := ∃ te, DE X Φ W e te (dE J f)
def FT (e : Expr) (f : fT) : Prop := ∃ tt, DT X Φ W e tt (dT J f)
def FW (e : Expr) (f : fT) : Prop := ∃ tt, DW X Φ W e tt (dT J f)
def FA (es : List Expr) (f : fA) : Prop := ∃ ta, DA X Φ W es ta (dA J f)
def FI (tg it : Expr) (f : fA) : Prop := ∃ wi, DI X Φ W tg it wi (dA J f)
end
section
variable {X : Cx} {Φ : OH → Hp → Hp → Prop} {W : WX} {J : Jv} {e : Expr} {es : List Expr} {te : TE} {tt : TT} {ta : TA}
theorem fe_of {m : ME OH} {f : fE} (h : DE X Φ W e te m) (i : ∀ ρ' O P R, dE J f ρ' O P R → m ρ' O P R) : FE X Φ W J e f :=
  ⟨te, h.pe, fun σ ρ s G H Q P R hρ f0 hW hm k => h.sem σ ρ s G H Q P R hρ f0 hW (i _ _ _ _ hm) k⟩
theorem ft_of {m : MT OH} {f : fT} (h : DT X Φ W e tt m) (i : ∀ ρ' O P R, dT J f ρ' O P R → m ρ' O P R) : FT X Φ W J e f :=
  ⟨tt, h.pt, fun σ ρ s G H Q P R hρ f0 hW hm k => h.sem σ ρ s G H Q P R hρ f0 hW (i _ _ _ _ hm) k⟩
theorem fw_of {m : MT OH} {f : fT} (h : DW X Φ W e tt m) (i : ∀ ρ' O P R, dT J f ρ' O P R → m ρ' O P R) : FW X Φ W J e f :=
  ⟨tt, h.pw, fun σ ρ s G H Q P R hρ f0 hW hm k => h.sem σ ρ s G H Q P R hρ f0 hW (i _ _ _ _ hm) k⟩
theorem fa_of {m : MA OH} {f : fA} (h : DA X Φ W es ta m) (i : ∀ ρ' O P R, dA J f ρ' O P R → m ρ' O P R) : FA X Φ W J es f :=
  ⟨ta, h.pa, fun σ ρ s G H Q P R hρ f0 hW hm k => h.sem σ ρ s G H Q P R hρ f0 hW (i _ _ _ _ hm) k⟩
theorem fi_of {tg it : Expr} {wi : TI} {m : MI OH} {f : fA} (h : DI X Φ W tg it wi m) (i : ∀ ρ' O P R, dA J f ρ' O P R → m ρ' O P R) : FI X Φ W J tg it f :=
  ⟨wi, h.pi, fun σ ρ s G H Q P R hρ f0 hW hm k => h.sem σ ρ s G H Q P R hρ f0 hW (i _ _ _ _ hm) k⟩
end

section
variable {X : Cx} {Φ : OH → Hp → Hp → Prop} {W : WX} [FΦ : OFrm X.K X.mg Φ] {J : Jv}
/-! names, constants -/
def fVar (i : Nat) : fE := fun ρ st => match ρ[i]? with
  | some (some d) => .ok d st
  | _ => .bad
theorem fe_var (i : Nat) {x : Str} {pos : Pos} (hN : X.N[i]? = some x := by rfl) (hv : Vis X.env.scope x := by first | exact Or.inl rfl | exact Or.inr (Or.inl rfl) | exact Or.inr (Or.inr rfl)) (hd : (x == ("__debug__" : Str)) = false := by decide)
    (hcd : (x == ("__classdict__" : Str)) = false := by decide) : FE X Φ W J (.Name x pos) (fVar i) :=
  fe_of (de_var i hN hv hd hcd) fun ρ' O P R ⟨θ, ρ, st, c, h⟩ => by
    unfold fVar at h
    cases q : ρ[i]? with
    | none => rw [q] at h; exact h.elim
    | some u =>
      rw [q] at h
      cases u with
      | none => exact h.elim
      | some d =>
        obtain ⟨d', e, r⟩ := c.env.2 i d q
        exact ⟨d', e, Aft.ok h r c.mt⟩
def fC (d : D) : fE := fun _ st => .ok d st
theorem fc_run {d : D} (hd : noLoc d = true) {ρ' : Rho} {O : OH} {P : D → OH → Prop} {R : Exn → OH → Prop} (h : dE J (fC d) ρ' O P R) : mC d ρ' O P R := by
  obtain ⟨θ, ρ, st, c, h⟩ := h
  exact Aft.ok h (rn_self hd) c.mt
theorem fe_int {i j pos} : FE X Φ W J (.Constant (.int i) j pos) (fC (.int i)) := fe_of de_int fun _ _ _ _ h => fc_run rfl h
theorem fe_bl {b j pos} : FE X Φ W J (.Constant (.bool b) j pos) (fC (.bl b)) := fe_of de_bl fun _ _ _ _ h => fc_run rfl h
theorem fe_non {j pos} : FE X Φ W J (.Constant .none j pos) (fC .non) := fe_of de_non fun _ _ _ _ h => fc_run rfl h
theorem fe_str {x j pos} : FE X Φ W J (.Constant (.str x) j pos) (fC (.str x)) := fe_of de_str fun _ _ _ _ h => fc_run rfl h
theorem fe_glob {x : Str} {v : V} {u : Value} {d : D} {pos : Pos} (hg : Gl X x) (hm : X.mg x = some u) (r : RelV v u) (hc : ∀ G, Rp X.K X.mg G v d) (hn : noLoc d = true := by rfl) (hd : (x == ("__debug__" : Str)) = false := by decide) : FE X Φ W J (.Name x pos) (fC d) :=
  fe_of (de_glob hg hm r hc hd) fun _ _ _ _ h => fc_run hn h
/-! operators -/
structure OW (o : D → D → Option D) (w : W2) : Prop where
  run : ∀ (θ : Th) (a b a' b' d : D) (P : D → Prop), Rn θ a a' → Rn θ b b' → o a b = some d → (∀ d', Rn θ d d' → P d') → w a' b' P
def optR (o : Option D) (st : St) : Res D := match o with
  | some d => .ok d st
  | none => .bad
def fBin (o : D → D → Option D) (fa fb : fE) : fE := fun ρ st => (fa ρ st).bind fun a st1 => (fb ρ st1).bind fun b st2 => optR (o a b) st2
theorem fbin_run {o : D → D → Option D} {w : W2} (ow : OW o w) {fa fb : fE} {ρ' : Rho} {O : OH} {P : D → OH → Prop} {R : Exn → OH → Prop} (h : dE J (fBin o fa fb) ρ' O P R) : mBin w (dE J fa) (dE J fb) ρ' O P R := by
  obtain ⟨θ, ρ, st, c, h⟩ := h
  refine ⟨θ, ρ, st, c, h.bind fun θ1 a a' st1 O1 s1 ra m1 h1 => ?_⟩
  refine ⟨θ1, ρ, st1, c.step s1 m1, h1.bind fun θ2 b b' st2 O2 s2 rb m2 h2 => ?_⟩
  cases q : o a b with
  | none => rw [q] at h2; exact h2.elim
  | some d =>
    rw [q] at h2
    exact ow.run θ2 a b a' b' d _ (ra.mono s2) rb q fun d' rd => Aft.ok h2 rd m2
section
variable {a b : Expr} {fa fb : fE} {pos : Pos} {r : R2} {w : W2} {o : D → D → Option D}
theorem fe_bin {op : Operator} (o2 : Op2 X (binaryOp op) r w) (ow : OW o w) (ha : FE X Φ W J a fa) (hb : FE X Φ W J b fb) : FE X Φ W J (.BinOp a op b pos) (fBin o fa fb) := by
  obtain ⟨_, ha⟩ := ha
  obtain ⟨_, hb⟩ := hb
  exact fe_of (de_bin o2 ha hb) fun _ _ _ _ h => fbin_run ow h
theorem fe_cmp {op : CmpOp} (o2 : Op2 X (compareOp op) r w) (ow : OW o w) (ha : FE X Φ W J a fa) (hb : FE X Φ W J b fb) (hm : behindInMarks op b = false := by first | exact nomark _ | rfl) : FE X Φ W J (.Compare a [op] [b] pos) (fBin o fa fb) := by
  obtain ⟨_, ha⟩ := ha
  obtain ⟨_, hb⟩ := hb
  exact fe_of (de_cmp o2 ha hb hm) fun _ _ _ _ h => fbin_run ow h
theorem fe_ix (o2 : Ix2 X r w) (ow : OW o w) (ha : FE X Φ W J a fa) (hb : FE X Φ W J b fb) (hs : PlainIx b := by exact fun _ _ => rfl) : FE X Φ W J (.Subscript a b pos) (fBin o fa fb) := by
  obtain ⟨_, ha⟩ := ha
  obtain ⟨_, hb⟩ := hb
  exact fe_of (de_ix o2 ha hb hs) fun _ _ _ _ h => fbin_run ow h
def blR (d : D) (st : St) : Res Bool := match d with
  | .bl b => .ok b st
  | _ => .bad
def fTest (f : fE) : fT := fun ρ st => (f ρ st).bind blR
theorem ftest_run {f : fE} {ρ' : Rho} {O : OH} {P : Bool → OH → Prop} {R : Exn → OH → Prop} (h : dT J (fTest f) ρ' O P R) : mTest (dE J f) ρ' O P R := by
  obtain ⟨θ, ρ, st, c, h⟩ := h
  refine ⟨θ, ρ, st, c, h.bind fun θ1 a a' st1 O1 s1 ra m1 h1 => ?_⟩
  cases ra with
  | bl b => exact ⟨b, rfl, Aft.ok h1 rfl m1⟩
  | _ => exact h1.elim
theorem mtest_mono {m m' : ME OH} (i : ∀ ρ' O P R, m ρ' O P R → m' ρ' O P R) {ρ' : Rho} {O : OH} {P : Bool → OH → Prop} {R : Exn → OH → Prop} (h : mTest m ρ' O P R) : mTest m' ρ' O P R := i _ _ _ _ h
theorem ft_cmp {op : CmpOp} (o2 : Op2 X (compareOp op) r w) (ow : OW o w) (ha : FE X Φ W J a fa) (hb : FE X Φ W J b fb) (hm : behindInMarks op b = false := by first | exact nomark _ | rfl) : FT X Φ W J (.Compare a [op] [b] pos) (fTest (fBin o fa fb)) := by
  obtain ⟨_, ha⟩ := ha
  obtain ⟨_, hb⟩ := hb
  exact ft_of (dt_cmp o2 ha hb hm) fun _ _ _ _ h => mtest_mono (fun _ _ _ _ => fbin_run ow) (ftest_run h)
end
theorem ft_val {e : Expr} {f : fE} (h : FE X Φ W J e f) (he : ∀ whole, isTrue e X.env whole = (do let v ← whole; standAt e.pos; holding [v] (truthy v)) := by intro _; rfl) : FT X Φ W J e (fTest f) := by
  obtain ⟨_, h⟩ := h
  exact ft_of (dt_val h he) fun _ _ _ _ h => ftest_run h
def fAnd (t u : fT) : fT := fun ρ st => (t ρ st).bind fun c st1 => if c = true then u ρ st1 else .ok false st1
def fOr (t u : fT) : fT := fun ρ st => (t ρ st).bind fun c st1 => if c = true then .ok true st1 else u ρ st1
def fNot (t : fT) : fT := fun ρ st => (t ρ st).bind fun c st1 => .ok (!c) st1
section
variable {a b : Expr} {rest : List Expr} {fa fb : fT} {pos : Pos}
theorem fw_and1 (h : FT X Φ W J a fa) : FW X Φ W J (.BoolOp .And [a] pos) fa := by
  obtain ⟨_, h⟩ := h
  exact ⟨_, dw_and1 h⟩
theorem fw_or1 (h : FT X Φ W J a fa) : FW X Φ W J (.BoolOp .Or [a] pos) fa := by
  obtain ⟨_, h⟩ := h
  exact ⟨_, dw_or1 h⟩
theorem fw_and (h : FT X Φ W J a fa) (h' : FW X Φ W J (.BoolOp .And (b :: rest) pos) fb) : FW X Φ W J (.BoolOp .And (a :: b :: rest) pos) (fAnd fa fb) := by
  obtain ⟨_, h⟩ := h
  obtain ⟨_, h'⟩ := h'
  refine fw_of (dw_and h h') fun ρ' O P R ⟨θ, ρ, st, c, h⟩ => ⟨θ, ρ, st, c, h.bind fun θ1 a a' st1 O1 s1 ra m1 h1 => ?_⟩
  cases ra
  cases a with
  | true => exact ⟨θ1, ρ, st1, c.step s1 m1, h1⟩
  | false => exact Aft.ok h1 rfl m1
theorem fw_or (h : FT X Φ W J a fa) (h' : FW X Φ W J (.BoolOp .Or (b :: rest) pos) fb) : FW X Φ W J (.BoolOp .Or (a :: b :: rest) pos) (fOr fa fb) := by
  obtain ⟨_, h⟩ := h
  obtain ⟨_, h'⟩ := h'
  refine fw_of (dw_or h h') fun ρ' O P R ⟨θ, ρ, st, c, h⟩ => ⟨θ, ρ, st, c, h.bind fun θ1 a a' st1 O1 s1 ra m1 h1 => ?_⟩
  cases ra
  cases a with
  | true => exact Aft.ok h1 rfl m1
  | false => exact ⟨θ1, ρ, st1, c.step s1 m1, h1⟩
theorem FW.ft {e : Expr} (h : FW X Φ W J e fa) : FT X Φ W J e fa := by
  obtain ⟨_, h⟩ := h
  exact ⟨_, h.dt⟩
theorem ft_not (h : FT X Φ W J a fa) : FT X Φ W J (.UnaryOp .Not a pos) (fNot fa) := by
  obtain ⟨_, h⟩ := h
  refine ft_of (dt_not h) fun ρ' O P R ⟨θ, ρ, st, c, h⟩ => ⟨θ, ρ, st, c, h.bind fun θ1 a a' st1 O1 s1 ra m1 h1 => ?_⟩
  cases ra
  exact Aft.ok h1 rfl m1
end
/-! .. as values -/
def fAndV (m n : fE) : fE := fun ρ st => (m ρ st).bind fun d st1 => match d with
  | .bl true => n ρ st1
  | .bl false => .ok (.bl false) st1
  | _ => .bad
def fOrV (m n : fE) : fE := fun ρ st => (m ρ st).bind fun d st1 => match d with
  | .bl true => .ok (.bl true) st1
  | .bl false => n ρ st1
  | _ => .bad
def fNotV (m : fE) : fE := fun ρ st => (m ρ st).bind fun d st1 => match d with
  | .bl b => .ok (.bl (!b)) st1
  | _ => .bad
def fIf (t : fT) (m n : fE) : fE := fun ρ st => (t ρ st).bind fun c st1 => if c = true then m ρ st1 else n ρ st1
section
variable {a b : Expr} {rest : List Expr} {fa fb : fE} {pos : Pos}
theorem fe_one {op} (h : FE X Φ W J a fa) : FE X Φ W J (.BoolOp op [a] pos) fa := by
  obtain ⟨_, h⟩ := h
  exact ⟨_, de_one h⟩
theorem fe_and (h : FE X Φ W J a fa) (h' : FE X Φ W J (.BoolOp .And (b :: rest) pos) fb) : FE X Φ W J (.BoolOp .And (a :: b :: rest) pos) (fAndV fa fb) := by
  obtain ⟨_, h⟩ := h
  obtain ⟨_, h'⟩ := h'
  refine fe_of (de_and h h') fun ρ' O P R ⟨θ, ρ, st, c, h⟩ => ⟨θ, ρ, st, c, h.bind fun θ1 a a' st1 O1 s1 ra m1 h1 => ?_⟩
  cases ra with
  | bl q =>
    cases q with
    | true => exact ⟨true, rfl, by rw [if_pos rfl]; exact ⟨θ1, ρ, st1, c.step s1 m1, h1⟩⟩
    | false => exact ⟨false, rfl, by rw [if_neg Bool.false_ne_true]; exact Aft.ok h1 (.bl false) m1⟩
  | _ => exact h1.elim
theorem fe_not (h : FE X Φ W J a fa) : FE X Φ W J (.UnaryOp .Not a pos) (fNotV fa) := by
  obtain ⟨_, h⟩ := h
  refine fe_of (de_not h) fun ρ' O P R ⟨θ, ρ, st, c, h⟩ => ⟨θ, ρ, st, c, h.bind fun θ1 a a' st1 O1 s1 ra m1 h1 => ?_⟩
  cases ra with
  | bl q => exact ⟨q, rfl, Aft.ok h1 (.bl _) m1⟩
  | _ => exact h1.elim
theorem fe_if {t : Expr} {ft : fT} (ht : FT X Φ W J t ft) (h : FE X Φ W J a fa) (h' : FE X Φ W J b fb) : FE X Φ W J (.IfExp t a b pos) (fIf ft fa fb) := by
  obtain ⟨_, ht⟩ := ht
  obtain ⟨_, h⟩ := h
  obtain ⟨_, h'⟩ := h'
  refine fe_of (de_if ht h h') fun ρ' O P R ⟨θ, ρ, st, c, h⟩ => ⟨θ, ρ, st, c, h.bind fun θ1 a a' st1 O1 s1 ra m1 h1 => ?_⟩
  cases ra
  cases a with
  | true =>
    simp only [if_true] at h1 ⊢
    exact ⟨θ1, ρ, st1, c.step s1 m1, h1⟩
  | false =>
    simp only [Bool.false_eq_true, if_false] at h1 ⊢
    exact ⟨θ1, ρ, st1, c.step s1 m1, h1⟩
end
/-! arguments, displays -/
def fNil : fA := fun _ st => .ok [] st
def fCons (m : fE) (n : fA) : fA := fun ρ st => (m ρ st).bind fun d st1 => (n ρ st1).bind fun ds st2 => .ok (d :: ds) st2
def fLst (n : fA) : fE := fun ρ st => (n ρ st).bind fun ds st1 => if ds.length ≤ sizeLine then .ok (.lst ds) st1 else .bad
def fTup (n : fA) : fE := fun ρ st => (n ρ st).bind fun ds st1 => if ds.length ≤ sizeLine then .ok (.tup ds) st1 else .bad
/-- .. a list of one's own -/
def fLstO (n : fA) : fE := fun ρ st => (n ρ st).bind fun ds st1 => if ds.length ≤ sizeLine then .ok (.loc st1.length) (st1 ++ [some (.lst ds)]) else .bad
theorem mt_last {θ : Th} {st : St} {O : OH} (m : Mt θ st O) {p : Addr} : (θ ++ [p])[st.length]? = some p := by
  rw [← m.len, List.getElem?_append_right (Nat.le_refl _), Nat.sub_self]
  rfl
section
variable {e : Expr} {es : List Expr} {f : fE} {fs : fA} {pos : Pos}
theorem fa_nil : FA X Φ W J [] fNil := fa_of da_nil fun ρ' O P R ⟨θ, ρ, st, c, h⟩ => Aft.ok h .nil c.mt
theorem fa_cons (h : FE X Φ W J e f) (h' : FA X Φ W J es fs) (hs : starEach (e :: es) X.env = (false, eval e X.env) :: starEach es X.env := by rfl) : FA X Φ W J (e :: es) (fCons f fs) := by
  obtain ⟨_, h⟩ := h
  obtain ⟨_, h'⟩ := h'
  refine fa_of (da_cons h h' hs) fun ρ' O P R ⟨θ, ρ, st, c, h⟩ => ⟨θ, ρ, st, c, h.bind fun θ1 a a' st1 O1 s1 ra m1 h1 => ?_⟩
  refine ⟨θ1, ρ, st1, c.step s1 m1, h1.bind fun θ2 b b' st2 O2 s2 rb m2 h2 => ?_⟩
  exact Aft.ok h2 (.cons (ra.mono s2) rb) m2
theorem fe_lst (h : FA X Φ W J es fs) : FE X Φ W J (.List es pos) (fLst fs) := by
  obtain ⟨_, h⟩ := h
  refine fe_of (de_lst h) fun ρ' O P R ⟨θ, ρ, st, c, h⟩ => ⟨θ, ρ, st, c, h.bind fun θ1 a a' st1 O1 s1 ra m1 h1 => ?_⟩
  by_cases q : a.length ≤ sizeLine
  · rw [if_pos q] at h1
    exact ⟨by rw [← RnL.len ra]; exact q, Aft.ok h1 (.lst ra) m1⟩
  · rw [if_neg q] at h1
    exact h1.elim
theorem fe_tup {x1} (h : FA X Φ W J es fs) : FE X Φ W J (.Tuple es x1 pos) (fTup fs) := by
  obtain ⟨_, h⟩ := h
  refine fe_of (de_tup h) fun ρ' O P R ⟨θ, ρ, st, c, h⟩ => ⟨θ, ρ, st, c, h.bind fun θ1 a a' st1 O1 s1 ra m1 h1 => ?_⟩
  by_cases q : a.length ≤ sizeLine
  · rw [if_pos q] at h1
    exact ⟨by rw [← RnL.len ra]; exact q, Aft.ok h1 (.tup ra) m1⟩
  · rw [if_neg q] at h1
    exact h1.elim
theorem fe_lstO (h : FA X Φ W J es fs) : FE X Φ W J (.List es pos) (fLstO fs) := by
  obtain ⟨_, h⟩ := h
  refine fe_of (de_lstO h) fun ρ' O P R ⟨θ, ρ, st, c, h⟩ => ⟨θ, ρ, st, c, h.bind fun θ1 a a' st1 O1 s1 ra m1 h1 => ?_⟩
  by_cases q : a.length ≤ sizeLine
  · rw [if_pos q] at h1
    refine ⟨by rw [← RnL.len ra]; exact q, fun p np => ?_⟩
    exact h1 (θ1 ++ [p]) _ _ ⟨[p], rfl⟩ (.loc (mt_last m1)) (m1.new np (.lst ra))
  · rw [if_neg q] at h1
    exact h1.elim
end
/-! built-ins -/
structure LW (o : List D → Option D) (w : WL) : Prop where
  run : ∀ (θ : Th) (ds ds' : List D) (d : D) (P : D → Prop), RnL θ ds ds' → o ds = some d → (∀ d', Rn θ d d' → P d') → w ds' P
def fFn (o : List D → Option D) (n : fA) : fE := fun ρ st => (n ρ st).bind fun ds st1 => optR (o ds) st1
theorem ffn_run {o : List D → Option D} {w : WL} (ow : LW o w) {fs : fA} {ρ' : Rho} {O : OH} {P : D → OH → Prop} {R : Exn → OH → Prop} (h : dE J (fFn o fs) ρ' O P R) : mFn w (dA J fs) ρ' O P R := by
  obtain ⟨θ, ρ, st, c, h⟩ := h
  refine ⟨θ, ρ, st, c, h.bind fun θ1 a a' st1 O1 s1 ra m1 h1 => ?_⟩
  cases q : o a with
  | none => rw [q] at h1; exact h1.elim
  | some d =>
    rw [q] at h1
    exact ow.run θ1 a a' d _ ra q fun d' rd => Aft.ok h1 rd m1
section
variable {x : Str} {p pos : Pos} {e : Expr} {es : List Expr} {fs : fA} {id T : String} {r : List V → Hp → VK → Prop} {w : WL} {o : List D → Option D}
theorem fe_callB (c : Fn1 X (.builtin id) r w) (ow : LW o w) (hg : Gl X x) (hm : X.mg x = none) (hv : bootBuiltins x = some (.builtin id)) (ha : FA X Φ W J (e :: es) fs) (hn : x ≠ "__name__" := by decide) (hdb : (x == ("__debug__" : Str)) = false := by decide)
    (he : starEach (e :: es) X.env = (false, eval e X.env) :: starEach es X.env := by rfl) (hpl : (backTo pos (starEach es X.env)).any (·.1) = false := by rfl) : FE X Φ W J (.Call (.Name x p) (e :: es) [] pos) (fFn o fs) := by
  obtain ⟨_, ha⟩ := ha
  exact fe_of (de_callB c hg hm hv ha hn hdb he hpl) fun _ _ _ _ h => ffn_run ow h
theorem fe_callTy (c : Fn1 X (.type T) r w) (ow : LW o w) (hg : Gl X x) (hm : X.mg x = none) (hv : bootBuiltins x = some (.type T)) (ha : FA X Φ W J (e :: es) fs) (hn : x ≠ "__name__" := by decide) (hdb : (x == ("__debug__" : Str)) = false := by decide)
    (he : starEach (e :: es) X.env = (false, eval e X.env) :: starEach es X.env := by rfl) (hpl : (backTo pos (starEach es X.env)).any (·.1) = false := by rfl) : FE X Φ W J (.Call (.Name x p) (e :: es) [] pos) (fFn o fs) := by
  obtain ⟨_, ha⟩ := ha
  exact fe_of (de_callTy c hg hm hv ha hn hdb he hpl) fun _ _ _ _ h => ffn_run ow h
end
end
end FL

set_option Elab.async false
set_option linter.all false
set_option maxRecDepth 100000
set_option maxHeartbeats 1000000
namespace FL
open PySem PySem.Spec PyProof.Rows L2 DL

inductive RS where
  | nx (ρ : Rho) (st : St)
  | rt (d : D) (st : St)
  | bk (ρ : Rho) (st : St)
  | ct (ρ : Rho) (st : St)
  | ex (x : Exn) (ρ : Rho) (st : St)
  | bad
abbrev fS := Rho → St → RS
def AftS (J : Jv) (θ : Th) (r : RS) (M : MEnds OH) : Prop := match r with
  | .nx ρ st => ∀ (θ1 : Th) (ρ' : Rho) (O1 : OH), θ <+: θ1 → Ct J θ1 ρ ρ' st O1 → M.nx ρ' O1
  | .rt d st => ∀ (θ1 : Th) (d' : D) (O1 : OH), θ <+: θ1 → Rn θ1 d d' → Mt θ1 st O1 → M.rt d' O1
  | .bk ρ st => ∀ (θ1 : Th) (ρ' : Rho) (O1 : OH), θ <+: θ1 → Ct J θ1 ρ ρ' st O1 → M.bk ρ' O1
  | .ct ρ st => ∀ (θ1 : Th) (ρ' : Rho) (O1 : OH), θ <+: θ1 → Ct J θ1 ρ ρ' st O1 → M.ct ρ' O1
  | .ex x ρ st => ∀ (θ1 : Th) (x' : Exn) (ρ' : Rho) (O1 : OH), θ <+: θ1 → RnX θ1 x x' → Ct J θ1 ρ ρ' st O1 → M.ex x' ρ' O1
  | .bad => False
theorem AftS.sub {J : Jv} {θ θ1 : Th} {r : RS} {M : MEnds OH} (h : AftS J θ r M) (s : θ <+: θ1) : AftS J θ1 r M := by
  cases r with
  | nx ρ st => exact fun θ2 a b t => h θ2 a b (s.trans t)
  | rt ρ st => exact fun θ2 a b t => h θ2 a b (s.trans t)
  | bk ρ st => exact fun θ2 a b t => h θ2 a b (s.trans t)
  | ct ρ st => exact fun θ2 a b t => h θ2 a b (s.trans t)
  | ex x ρ st => exact fun θ2 a b c t => h θ2 a b c (s.trans t)
  | bad => exact h
def dS (J : Jv) (f : fS) : MS OH := fun M ρ' O => ∃ θ ρ st, Ct J θ ρ ρ' st O ∧ AftS J θ (f ρ st) M
def stB {α : Type} (r : Res α) (ρ : Rho) (k : α → St → RS) : RS := match r with
  | .ok a st => k a st
  | .ex x st => .ex x ρ st
  | .bad => .bad
theorem AftS.stB {α α' : Type} {rel : Th → α → α' → Prop} {J : Jv} {θ : Th} {r : Res α} {ρ ρ' : Rho} {k : α → St → RS} {M : MEnds OH} {P : α' → OH → Prop} {st : St} {O : OH} (h : AftS J θ (FL.stB r ρ k) M) (c : Ct J θ ρ ρ' st O)
    (kk : ∀ (θ1 : Th) (a : α) (a' : α') (st1 : St) (O1 : OH), θ <+: θ1 → rel θ1 a a' → Mt θ1 st1 O1 → AftS J θ1 (k a st1) M → P a' O1) : Aft rel θ r P (fun x' O1 => M.ex x' ρ' O1) := by
  cases r with
  | ok a st => exact fun θ1 a' O1 s q m => kk θ1 a a' st O1 s q m (AftS.sub (r := k a st) h s)
  | ex x st => exact fun θ1 x' O1 s q m => h θ1 x' ρ' O1 s q (c.step s m)
  | bad => exact h
section
variable (X : Cx) (Φ : OH → Hp → Hp → Prop) (W : WX) (J : Jv)
def FS (s : Stmt) (f : fS) : Prop := ∃ ts, DS X Φ W s ts (dS J f)
def FSs (s : List Stmt) (f : fS) : Prop := ∃ ts, DSs X Φ W s ts (dS J f)
end
section
variable {X : Cx} {Φ : OH → Hp → Hp → Prop} {W : WX} {J : Jv}
theorem fs_of {s : Stmt} {ts : TS} {m : MS OH} {f : fS} (h : DS X Φ W s ts m) (i : ∀ M ρ' O, dS J f M ρ' O → m M ρ' O) : FS X Φ W J s f :=
  ⟨ts, h.ps, fun σ ρ s G H D M hρ f0 hm E => h.sem σ ρ s G H D M hρ f0 (i _ _ _ hm) E⟩
theorem fss_of {s : List Stmt} {ts : TS} {m : MS OH} {f : fS} (h : DSs X Φ W s ts m) (i : ∀ M ρ' O, dS J f M ρ' O → m M ρ' O) : FSs X Φ W J s f :=
  ⟨ts, h.pss, fun σ ρ s G H D M hρ f0 hm E => h.sem σ ρ s G H D M hρ f0 (i _ _ _ hm) E⟩
end
/-! targets -/
abbrev fG := D → Rho → St → Option (Rho × St)
abbrev fGs := List D → Rho → St → Option (Rho × St)
def AftG (J : Jv) (θ : Th) (r : Option (Rho × St)) (P : Rho → OH → Prop) : Prop := match r with
  | some (ρ, st) => ∀ (θ1 : Th) (ρ' : Rho) (O1 : OH), θ <+: θ1 → Ct J θ1 ρ ρ' st O1 → P ρ' O1
  | none => False
def dG (J : Jv) (g : fG) : MG OH := fun d' ρ' O P => ∃ θ d ρ st, Rn θ d d' ∧ Ct J θ ρ ρ' st O ∧ AftG J θ (g d ρ st) P
def dGs (J : Jv) (g : fGs) : MGs OH := fun ds' ρ' O P => ∃ θ ds ρ st, RnL θ ds ds' ∧ Ct J θ ρ ρ' st O ∧ AftG J θ (g ds ρ st) P
theorem dg_imp {X : Cx} {Φ : OH → Hp → Hp → Prop} {tg : Expr} {g : TG} {m m' : MG OH} {il : List Nat} (h : DG X Φ tg g m il) (i : ∀ d ρ O P, m' d ρ O P → m d ρ O P) : DG X Φ tg g m' il :=
  ⟨h.pg, fun σ ρ s G H v d Q P hρ f r q k => h.sem σ ρ s G H v d Q P hρ f r (i _ _ _ _ q) k⟩
theorem dgs_imp {X : Cx} {Φ : OH → Hp → Hp → Prop} {tg : List Expr} {g : TGs} {m m' : MGs OH} {il : List Nat} (h : DGs X Φ tg g m il) (i : ∀ d ρ O P, m' d ρ O P → m d ρ O P) : DGs X Φ tg g m' il :=
  ⟨h.pg, fun σ ρ s G H v d Q P hρ f r q k => h.sem σ ρ s G H v d Q P hρ f r (i _ _ _ _ q) k⟩
def fGn (i : Nat) : fG := fun d ρ st => some (ρ.set i (some d), st)
def fGl : fGs := fun ds ρ st => match ds with
  | [] => some (ρ, st)
  | _ => none
def fGc (g : fG) (gs : fGs) : fGs := fun ds ρ st => match ds with
  | [] => none
  | d :: es => match g d ρ st with
    | some (ρ1, st1) => gs es ρ1 st1
    | none => none
def fGt (n : Nat) (gs : fGs) : fG := fun d ρ st => match d with
  | .tup ds => if ds.length = n then gs ds ρ st else none
  | _ => none
section
variable {X : Cx} {Φ : OH → Hp → Hp → Prop} {J : Jv}
theorem fg_name [Frm Φ] {i : Nat} {x : Str} {pos : Pos} (hN : X.N.Nodup) (hi : X.N[i]? = some x) (hx : Loc X.env.scope x) (hj : jfree J i := by first | trivial | (show _ ≠ _; decide)) (hf : X.fn x = true ∨ X.env.scope.names.lookup x = some .local := by first | exact .inl rfl | exact .inr rfl | assumption) : DG X Φ (.Name x pos) (gName i) (dG J (fGn i)) [i] :=
  dg_imp (dg_name hN hi hx hf) fun d' ρ' O P ⟨θ, d, ρ, st, r, c, h⟩ => h θ _ O (List.prefix_refl _) (c.set hj r)
theorem fgs_nil [Frm Φ] : DGs X Φ [] gNil (dGs J fGl) [] :=
  dgs_imp dgs_nil fun ds' ρ' O P ⟨θ, ds, ρ, st, r, c, h⟩ => by
    cases r with
    | nil => exact ⟨rfl, h θ _ O (List.prefix_refl _) c⟩
    | cons _ _ => exact h.elim
theorem fgs_cons [Frm Φ] {e : Expr} {es : List Expr} {g : TG} {gs : TGs} {m : fG} {n : fGs} {il jl : List Nat} (h : DG X Φ e g (dG J m) il) (h' : DGs X Φ es gs (dGs J n) jl)
    (hs : (assignEach (e :: es) X.env).map (·.2) = assign e X.env :: (assignEach es X.env).map (·.2) := by rfl) : DGs X Φ (e :: es) (gCons g gs) (dGs J (fGc m n)) (il ++ jl) :=
  dgs_imp (dgs_cons h h' hs) fun ds' ρ' O P ⟨θ, ds, ρ, st, r, c, h⟩ => by
    cases r with
    | nil => exact h.elim
    | @cons d e ds es rd rl =>
      refine ⟨_, _, rfl, θ, d, ρ, st, rd, c, ?_⟩
      have h2 : AftG J θ (match m d ρ st with | some (ρ1, st1) => n ds ρ1 st1 | none => none) P := h
      cases q : m d ρ st with
      | none => rw [q] at h2; exact h2.elim
      | some u =>
        rw [q] at h2
        intro θ1 ρ1' O1 s1 c1
        refine ⟨θ1, ds, u.1, u.2, rl.mono s1, c1, ?_⟩
        have h3 : AftG J θ (n ds u.1 u.2) P := h2
        cases z : n ds u.1 u.2 with
        | none => rw [z] at h3; exact h3.elim
        | some w =>
          rw [z] at h3
          exact fun θ2 ρ2 O2 s2 => h3 θ2 ρ2 O2 (s1.trans s2)
theorem fg_tup [Frm Φ] {es : List Expr} {k n : Nat} {pos : Pos} {g : TGs} {m : fGs} {il : List Nat} (hc : X.calm = true) (h : DGs X Φ es g (dGs J m) il)
    (hn : (assignEach es X.env).length = n := by rfl) (hst : (assignEach es X.env).findIdx? (·.1) = none := by rfl) : DG X Φ (.Tuple es k pos) (gTup X.K n g) (dG J (fGt n m)) il :=
  dg_imp (dg_tup hc h hn hst) fun d' ρ' O P ⟨θ, d, ρ, st, r, c, h⟩ => by
    cases r with
    | @tup a b rl =>
      have h2 : AftG J θ (if a.length = n then m a ρ st else none) P := h
      by_cases q : a.length = n
      · rw [if_pos q] at h2
        exact ⟨_, rfl, by rw [← rl.len]; exact q, θ, a, ρ, st, rl, c, h2⟩
      · rw [if_neg q] at h2
        exact h2.elim
    | _ => exact h.elim
end
section
variable {X : Cx} {Φ : OH → Hp → Hp → Prop} {W : WX} [FΦ : OFrm X.K X.mg Φ] {J : Jv}
/-! statements -/
def fNext : fS := fun ρ st => .nx ρ st
def fSeq (t u : fS) : fS := fun ρ st => match t ρ st with
  | .nx ρ1 st1 => u ρ1 st1
  | r => r
section
variable {st : Stmt} {rest : List Stmt} {f g : fS} {pos : Pos}
theorem fnext_run {M : MEnds OH} {ρ' : Rho} {O : OH} (h : dS J fNext M ρ' O) : M.nx ρ' O := by
  obtain ⟨θ, ρ, st, c, h⟩ := h
  exact h θ ρ' O (List.prefix_refl _) c
theorem fss_nil : FSs X Φ W J [] fNext := fss_of dss_nil fun M ρ' O h => fnext_run h
theorem fss_one (h : FS X Φ W J st f) : FSs X Φ W J [st] f := by
  obtain ⟨_, h⟩ := h
  exact ⟨_, dss_one h⟩
theorem fss_cons (h : FS X Φ W J st f) (h' : FSs X Φ W J rest g) : FSs X Φ W J (st :: rest) (fSeq f g) := by
  obtain ⟨_, h⟩ := h
  obtain ⟨_, h'⟩ := h'
  refine fss_of (dss_cons h h') fun M ρ' O ⟨θ, ρ, st, c, h⟩ => ⟨θ, ρ, st, c, ?_⟩
  have h2 : AftS J θ (match f ρ st with | .nx ρ1 st1 => g ρ1 st1 | r => r) M := h
  cases q : f ρ st with
  | nx ρ1 st1 =>
    rw [q] at h2
    exact fun θ1 ρ1' O1 s1 c1 => ⟨θ1, ρ1, st1, c1, AftS.sub (r := g ρ1 st1) h2 s1⟩
  | rt d st1 => rw [q] at h2; exact h2
  | bk d st1 => rw [q] at h2; exact h2
  | ct d st1 => rw [q] at h2; exact h2
  | ex d st1 => rw [q] at h2; exact h2
  | bad => rw [q] at h2; exact h2
def fBrk : fS := fun ρ st => .bk ρ st
def fCt : fS := fun ρ st => .ct ρ st
theorem fs_continue : FS X Φ W J (.Continue pos) fCt := fs_of ds_continue fun M ρ' O ⟨θ, ρ, st, c, h⟩ => h θ ρ' O (List.prefix_refl _) c
end
def fDrop (f : fE) : fS := fun ρ st => stB (f ρ st) ρ fun _ st1 => .nx ρ st1
def fRet (f : fE) : fS := fun ρ st => stB (f ρ st) ρ fun d st1 => .rt d st1
def fRetN : fS := fun _ st => .rt .non st
def fSet (i : Nat) (f : fE) : fS := fun ρ st => stB (f ρ st) ρ fun d st1 => .nx (ρ.set i (some d)) st1
def fPar (i j : Nat) (n : fA) : fS := fun ρ st => stB (n ρ st) ρ fun ds st1 => match ds with
  | [a, b] => .nx ((ρ.set i (some a)).set j (some b)) st1
  | _ => .bad
def optS (o : Option (Rho × St)) : RS := match o with
  | some (ρ, st) => .nx ρ st
  | none => .bad
def fAsg (f : fE) (g : fG) : fS := fun ρ st => stB (f ρ st) ρ fun d st1 => optS (g d ρ st1)
def fIfS (t : fT) (a b : fS) : fS := fun ρ st => stB (t ρ st) ρ fun c st1 => if c = true then a ρ st1 else b ρ st1
section
variable {e : Expr} {f : fE} {pos : Pos}
theorem fs_expr (h : FE X Φ W J e f) (hs : swapsWith e none pos.line X.env = pure false := by rfl) : FS X Φ W J (.Expr e pos) (fDrop f) := by
  obtain ⟨_, h⟩ := h
  exact fs_of (ds_expr h hs) fun M ρ' O ⟨θ, ρ, st, c, h⟩ => ⟨θ, ρ, st, c, h.stB c fun θ1 a a' st1 O1 s1 ra m1 h1 => h1 θ1 ρ' O1 (List.prefix_refl _) (c.step s1 m1)⟩
theorem fs_ret (h : FE X Φ W J e f) : FS X Φ W J (.Return (some e) pos) (fRet f) := by
  obtain ⟨_, h⟩ := h
  exact fs_of (ds_ret h) fun M ρ' O ⟨θ, ρ, st, c, h⟩ => ⟨θ, ρ, st, c, h.stB c fun θ1 a a' st1 O1 s1 ra m1 h1 => h1 θ1 a' O1 (List.prefix_refl _) ra m1⟩
theorem fs_set {i : Nat} {x : Str} {pos' : Pos} (hN : X.N.Nodup) (hi : X.N[i]? = some x) (hx : Loc X.env.scope x) (h : FE X Φ W J e f) (hj : jfree J i := by first | trivial | (show _ ≠ _; decide)) (hs : swapsWith e (some (.Name x pos')) pos.line X.env = pure false := by rfl) (hf : X.fn x = true ∨ X.env.scope.names.lookup x = some .local := by first | exact .inl rfl | exact .inr rfl | assumption) :
    FS X Φ W J (.Assign [.Name x pos'] e pos) (fSet i f) := by
  obtain ⟨_, h⟩ := h
  exact fs_of (ds_set hN hi hx h hs hf) fun M ρ' O ⟨θ, ρ, st, c, h⟩ => ⟨θ, ρ, st, c, h.stB c fun θ1 a a' st1 O1 s1 ra m1 h1 => h1 θ1 _ O1 (List.prefix_refl _) ((c.step s1 m1).set hj ra)⟩
theorem fs_asg {tg : Expr} {g : TG} {fg : fG} {il : List Nat} (h : FE X Φ W J e f) (hg : DG X Φ tg g (dG J fg) il) (hs : swapsWithSole [tg] e pos.line X.env = pure false := by rfl) (hw : swappedStores [tg] e X.env = pure none := by rfl)
    (h1 : (assignEach [tg] X.env).map (·.2) = [assign tg X.env] := by rfl) : FS X Φ W J (.Assign [tg] e pos) (fAsg f fg) := by
  obtain ⟨_, h⟩ := h
  refine fs_of (ds_asg h hg hs hw h1) fun M ρ' O ⟨θ, ρ, st, c, h⟩ => ⟨θ, ρ, st, c, h.stB c fun θ1 a a' st1 O1 s1 ra m1 h1 => ⟨θ1, a, ρ, st1, ra, c.step s1 m1, ?_⟩⟩
  cases q : fg a ρ st1 with
  | none => rw [q] at h1; exact h1.elim
  | some u => rw [q] at h1; exact h1
end
theorem fs_par {i j : Nat} {x y : Str} {a b : Expr} {fs : fA} {px py pt pos : Pos} {kt k2 pt2} (hc : X.calm = true) (hN : X.N.Nodup) (hi : X.N[i]? = some x) (hj : X.N[j]? = some y) (hij : i ≠ j)
    (hx : X.env.scope.names.lookup x = some .local) (hy : X.env.scope.names.lookup y = some .local) (ha : FA X Φ W J [a, b] fs)
    (ji : jfree J i := by first | trivial | (show _ ≠ _; decide)) (jj : jfree J j := by first | trivial | (show _ ≠ _; decide))
    (hw : swappedStores [.Tuple [.Name x px, .Name y py] kt pt] (.Tuple [a, b] k2 pt2) X.env = pure (some [x, y]) := by rfl)
    (hs : swapsWithSole [.Tuple [.Name x px, .Name y py] kt pt] (.Tuple [a, b] k2 pt2) pos.line X.env = pure false := by rfl) :
    FS X Φ W J (.Assign [.Tuple [.Name x px, .Name y py] kt pt] (.Tuple [a, b] k2 pt2) pos) (fPar i j fs) := by
  obtain ⟨_, ha⟩ := ha
  refine fs_of (ds_par hc hN hi hj hij hx hy ha hw hs) fun M ρ' O ⟨θ, ρ, st, c, h⟩ => ⟨θ, ρ, st, c, h.stB c fun θ1 a a' st1 O1 s1 ra m1 h1 => ?_⟩
  cases ra with
  | nil => exact h1.elim
  | cons r1 ra =>
    cases ra with
    | nil => exact h1.elim
    | cons r2 ra =>
      cases ra with
      | nil => exact ⟨_, _, rfl, h1 θ1 _ O1 (List.prefix_refl _) (((c.step s1 m1).set ji r1).set jj r2)⟩
      | cons _ _ => exact h1.elim
theorem fs_if {t : Expr} {a b : List Stmt} {ft : fT} {fa fb : fS} {pos : Pos} (ht : FT X Φ W J t ft) (ha : FSs X Φ W J a fa) (hb : FSs X Φ W J b fb) : FS X Φ W J (.If t a b pos) (fIfS ft fa fb) := by
  obtain ⟨_, ht⟩ := ht
  obtain ⟨_, ha⟩ := ha
  obtain ⟨_, hb⟩ := hb
  refine fs_of (ds_if ht ha hb) fun M ρ' O ⟨θ, ρ, st, c, h⟩ => ⟨θ, ρ, st, c, h.stB c fun θ1 a a' st1 O1 s1 ra m1 h1 => ?_⟩
  cases ra
  cases a with
  | true =>
    simp only [if_true] at h1 ⊢
    exact ⟨θ1, ρ, st1, c.step s1 m1, h1⟩
  | false =>
    simp only [Bool.false_eq_true, if_false] at h1 ⊢
    exact ⟨θ1, ρ, st1, c.step s1 m1, h1⟩
/-! for -/
def fForGo (g : fG) (b : fS) : List D → fS
  | [], ρ, st => .nx ρ st
  | d :: ds, ρ, st => match g d ρ st with
    | none => .bad
    | some (ρ1, st1) => match b ρ1 st1 with
      | .nx ρ2 st2 => fForGo g b ds ρ2 st2
      | .ct ρ2 st2 => fForGo g b ds ρ2 st2
      | .bk ρ2 st2 => .nx ρ2 st2
      | .rt d st2 => .rt d st2
      | .ex x ρ2 st2 => .ex x ρ2 st2
      | .bad => .bad
def fFor (it : fA) (g : fG) (b : fS) : fS := fun ρ st => stB (it ρ st) ρ fun ds st1 => fForGo g b ds ρ st1
theorem for_run {g : fG} {b : fS} {M : MEnds OH} : ∀ {ds ds' : List D} {θ : Th} {ρ ρ' : Rho} {st : St} {O : OH}, RnL θ ds ds' → Ct J θ ρ ρ' st O → AftS J θ (fForGo g b ds ρ st) M → wFor (dG J g) (dS J b) ds' M ρ' O
  | _, _, θ, ρ, ρ', st, O, .nil, c, h => h θ ρ' O (List.prefix_refl _) c
  | _, _, θ, ρ, ρ', st, O, .cons (d := d) (ds := ds) rd rl, c, h => by
    refine ⟨θ, d, ρ, st, rd, c, ?_⟩
    unfold fForGo at h
    cases q : g d ρ st with
    | none => rw [q] at h; exact h.elim
    | some u =>
      rw [q] at h
      intro θ1 ρ1' O1 s1 c1
      refine ⟨θ1, u.1, u.2, c1, ?_⟩
      simp only at h
      cases z : b u.1 u.2 with
      | nx ρ2 st2 => rw [z] at h; exact fun θ2 ρ2' O2 s2 c2 => for_run (rl.mono (s1.trans s2)) c2 (AftS.sub h (s1.trans s2))
      | ct ρ2 st2 => rw [z] at h; exact fun θ2 ρ2' O2 s2 c2 => for_run (rl.mono (s1.trans s2)) c2 (AftS.sub h (s1.trans s2))
      | bk ρ2 st2 => rw [z] at h; exact fun θ2 ρ2' O2 s2 c2 => h θ2 ρ2' O2 (s1.trans s2) c2
      | rt d st2 => rw [z] at h; exact fun θ2 d' O2 s2 => h θ2 d' O2 (s1.trans s2)
      | ex x ρ2 st2 => rw [z] at h; exact fun θ2 x' ρ2' O2 s2 => h θ2 x' ρ2' O2 (s1.trans s2)
      | bad => rw [z] at h; exact h.elim
theorem fs_for {tg iter : Expr} {body : List Stmt} {gt : TG} {pos : Pos} {fi : fA} {g : fG} {b : fS} {il : List Nat} (hp : PassesOwn (model X.prog X.w) X.A X.env X.xe) (hc : X.calm = true) (hi : FI X Φ W J tg iter fi) (hg : DG X Φ tg gt (dG J g) il) (hb : FSs X Φ W J body b)
    (hs : ∀ x, foldedSetIterable iter X.env x = pure x := by intro _; rfl) : FS X Φ W J (.For tg iter body [] pos) (fFor fi g b) := by
  obtain ⟨_, hi⟩ := hi
  obtain ⟨_, hb⟩ := hb
  exact fs_of (ds_for hp hc hi hg hb hs) fun M ρ' O ⟨θ, ρ, st, c, h⟩ => ⟨θ, ρ, st, c, h.stB c fun θ1 a a' st1 O1 s1 ra m1 h1 => for_run ra (c.step s1 m1) h1⟩
/-! what is walked -/
def iSq (f : fE) : fA := fun ρ st => (f ρ st).bind fun d st1 => match d with
  | .lst ds => .ok ds st1
  | .tup ds => .ok ds st1
  | .frz ds => .ok ds st1
  | _ => .bad
theorem fi_seq {tg l : Expr} {f : fE} (h : FE X Φ W J l f) : FI X Φ W J tg l (iSq f) := by
  obtain ⟨_, h⟩ := h
  refine fi_of (di_seq h) fun ρ' O P R ⟨θ, ρ, st, c, h⟩ => ⟨θ, ρ, st, c, h.bind fun θ1 a a' st1 O1 s1 ra m1 h1 => ?_⟩
  cases ra with
  | lst r => exact .inl ⟨_, rfl, Aft.ok h1 r m1⟩
  | tup r => exact .inr (.inl ⟨_, rfl, Aft.ok h1 r m1⟩)
  | frz r => exact .inr (.inr ⟨_, rfl, Aft.ok h1 r m1⟩)
  | _ => exact h1.elim
theorem rnl_ints {θ : Th} (lo : Int) (n : Nat) : RnL θ (rngD lo n) (rngD lo n) := rnl_self (by
  unfold rngD
  generalize List.range n = l
  induction l with
  | nil => rfl
  | cons x xs ih => simp [noLocL, noLoc, ih])
def iR1 (n : fA) : fA := fun ρ st => (n ρ st).bind fun ds st1 => match ds with
  | [.int j] => if -(2 ^ 62) ≤ j ∧ j < 2 ^ 62 then .ok (rngD 0 j.toNat) st1 else .bad
  | _ => .bad
theorem fi_range1 {tg a : Expr} {fs : fA} {p pos : Pos} (hg : Gl X "range") (hm : X.mg "range" = none) (ha : FA X Φ W J [a] fs) (hs : starEach [a] X.env = [(false, eval a X.env)] := by rfl) : FI X Φ W J tg (.Call (.Name "range" p) [a] [] pos) (iR1 fs) := by
  obtain ⟨_, ha⟩ := ha
  refine fi_of (di_range1 hg hm ha hs) fun ρ' O P R ⟨θ, ρ, st, c, h⟩ => ⟨θ, ρ, st, c, h.bind fun θ1 a a' st1 O1 s1 ra m1 h1 => ?_⟩
  cases ra with
  | nil => exact h1.elim
  | cons r1 ra =>
    cases ra with
    | cons _ _ =>
      cases r1 <;> exact h1.elim
    | nil =>
      cases r1 with
      | int j =>
        simp only at h1
        split at h1
        · rename_i q
          exact ⟨j, rfl, q, Aft.ok h1 (rnl_ints _ _) m1⟩
        · exact h1.elim
      | _ => exact h1.elim
/-! comprehensions -/
def FTs (X : Cx) (Φ : OH → Hp → Hp → Prop) (W : WX) (J : Jv) (ifs : List Expr) (f : fT) : Prop := ∃ tt, DTs X Φ W ifs tt (dT J f)
def fYes : fT := fun _ st => .ok true st
theorem fts_nil : FTs X Φ W J [] fYes := ⟨tYes, pts_nil, fun σ ρ s G H Q P R hρ f0 hW ⟨θ, ρ0, st, c, h⟩ k => k true s G H (Aft.ok (a' := true) h rfl c.mt) (Same.refl _) f0⟩
def fLcGo (g : fG) (t : fT) (m : fE) (vs : List Nat) (ρ : Rho) : List D → List D → St → Res (List D)
  | [], acc, st => .ok acc st
  | d :: ds, acc, st => match g d (wipeD ρ vs) st with
    | none => .bad
    | some (ρ1, st1) => match t ρ1 st1 with
      | .ok true st2 => match m ρ1 st2 with
        | .ok y st3 => if acc.length < sizeLine then fLcGo g t m vs ρ ds (acc ++ [y]) st3 else .bad
        | _ => .bad
      | .ok false st2 => fLcGo g t m vs ρ ds acc st2
      | _ => .bad
def fLc (it : fA) (g : fG) (t : fT) (m : fE) (vs : List Nat) : fE := fun ρ st => (it ρ st).bind fun ds st1 => (fLcGo g t m vs ρ ds [] st1).bind fun acc st2 => .ok (.lst acc) st2
theorem lc_run {g : fG} {t : fT} {m : fE} {vs : List Nat} {β β' : Type} {rel : Th → β → β' → Prop} {kk : List D → St → Res β} {Q : β' → OH → Prop} {R : Exn → OH → Prop} {PP : List D → OH → Prop} {ρ ρ' : Rho} (hv : ∀ v ∈ vs, jfree J v)
    (fin : ∀ (θ1 : Th) (a a' : List D) (st1 : St) (O1 : OH), RnL θ1 a a' → Mt θ1 st1 O1 → Aft rel θ1 (kk a st1) Q R → PP a' O1) :
    ∀ {ds ds' : List D} {θ : Th} {acc acc' : List D} {st : St} {O : OH}, RnL θ ds ds' → RnL θ acc acc' → Ct J θ ρ ρ' st O → Aft rel θ ((fLcGo g t m vs ρ ds acc st).bind kk) Q R → wLc (dG J g) (dT J t) (dE J m) vs ρ' PP ds' acc' O
  | _, _, θ, acc, acc', st, O, .nil, ra, c, h => fin θ acc acc' st O ra c.mt h
  | _, _, θ, acc, acc', st, O, .cons (d := d) (ds := ds) (es := ds') rd rl, ra, c, h => by
    have cw : Ct J θ (wipeD ρ vs) (wipeD ρ' vs) st O := ⟨c.env.wipe vs, c.mt, c.j.wipe hv⟩
    refine ⟨θ, d, _, st, rd, cw, ?_⟩
    unfold fLcGo at h
    cases q : g d (wipeD ρ vs) st with
    | none => rw [q] at h; exact h.elim
    | some u =>
      rw [q] at h
      intro θ1 ρ1' O1 s1 c1
      refine ⟨θ1, u.1, u.2, c1, ?_⟩
      simp only at h
      cases z : t u.1 u.2 with
      | bad => rw [z] at h; exact h.elim
      | ex x st2 => rw [z] at h; exact h.elim
      | ok b st2 =>
        rw [z] at h
        cases b with
        | false =>
          intro θ2 b' O2 s2 rb m2
          cases rb
          simp only [Bool.false_eq_true, if_false] at h ⊢
          exact lc_run hv fin (rl.mono (s1.trans s2)) (ra.mono (s1.trans s2)) (c.step (s1.trans s2) m2) (Aft.sub h (s1.trans s2))
        | true =>
          intro θ2 b' O2 s2 rb m2
          cases rb
          simp only [if_true] at h ⊢
          refine ⟨θ2, u.1, st2, c1.step s2 m2, ?_⟩
          cases w : m u.1 st2 with
          | bad => rw [w] at h; exact h.elim
          | ex x st3 => rw [w] at h; exact h.elim
          | ok y st3 =>
            rw [w] at h
            simp only at h
            intro θ3 y' O3 s3 ry m3
            by_cases hl : acc.length < sizeLine
            · rw [if_pos hl] at h
              have s13 := (s1.trans s2).trans s3
              exact ⟨by rw [← ra.len]; exact hl, lc_run hv fin (rl.mono s13) ((ra.mono s13).app (.cons ry .nil)) (c.step s13 m3) (Aft.sub h s13)⟩
            · rw [if_neg hl] at h
              exact h.elim
section
variable {elt tg iter : Expr} {ifs : List Expr} {scope : Scope} {own : List (Str × Nat)} {pos : Pos} {g : TG} {fi : fA} {fg : fG} {ft : fT} {fe : fE} {il : List Nat}
theorem flc_run (hv : ∀ v ∈ own.map (·.2), jfree J v) {ρ' : Rho} {O : OH} {P : D → OH → Prop} {R : Exn → OH → Prop} (h : dE J (fLc fi fg ft fe (own.map (·.2))) ρ' O P R) : mLc (dA J fi) (dG J fg) (dT J ft) (dE J fe) (own.map (·.2)) ρ' O P R := by
  obtain ⟨θ, ρ, st, c, h⟩ := h
  refine ⟨θ, ρ, st, c, h.bind fun θ1 a a' st1 O1 s1 ra m1 h1 => ?_⟩
  exact lc_run hv (fun θ2 a a' st2 O2 r2 m2 h2 => Aft.ok h2 (.lst r2) m2) ra .nil (c.step s1 m1) h1
theorem fe_lc (hc : X.calm = true) (hN : X.N.Nodup) (hi : FI X Φ W J tg iter fi) (ok : BlkOk X.N X.env.scope scope own)
    (hg : ∀ (D : Addr) (vs : List V) (s : Shared) (H : Hp) (C : Addr) (cl : List (Str × Addr)) (fp : List Addr), DG (X.blk s H scope (compEnvC scope cl C X.env) fp) (Own Φ D vs) tg g (dG J fg) il)
    (ht : ∀ (D : Addr) (vs : List V) (s : Shared) (H : Hp) (C : Addr) (cl : List (Str × Addr)) (fp : List Addr), FTs (X.blk s H scope (compEnvC scope cl C X.env) fp) (Own Φ D vs) W0 J ifs ft)
    (he : ∀ (D : Addr) (vs : List V) (s : Shared) (H : Hp) (C : Addr) (cl : List (Str × Addr)) (fp : List Addr), FE (X.blk s H scope (compEnvC scope cl C X.env) fp) (Own Φ D vs) W0 J elt fe)
    (hv : ∀ v ∈ own.map (·.2), jfree J v := by first | (intro _ _; trivial) | decide) (hil : ∀ i ∈ il, i ∈ own.map (·.2) := by decide) (hs : ∀ x, foldedSetIterable iter X.env x = pure x := by intro _; rfl) :
    FE X Φ W J (.ListComp elt [⟨tg, iter, ifs, 0⟩] scope pos) (fLc fi fg ft fe (own.map (·.2))) := by
  obtain ⟨_, hi⟩ := hi
  exact fe_of (de_lcE hc hN hi ok hg ht he hil hs) fun _ _ _ _ h => flc_run hv h
end
end
end FL

set_option Elab.async false
set_option linter.all false
set_option maxRecDepth 100000
set_option maxHeartbeats 1000000
namespace FL
open PySem PySem.Spec PyProof.Rows L2 DL

theorem Aft.at {α α' : Type} {rel : Th → α → α' → Prop} {θ : Th} {r : Res α} {P : α' → OH → Prop} {R : Exn → OH → Prop} {a : α} {st : St} (h : Aft rel θ r P R) (e : r = .ok a st) {a' : α'} {O : OH} {θ1 : Th} (s : θ <+: θ1) (q : rel θ1 a a') (m : Mt θ1 st O) : P a' O := by
  subst e
  exact h θ1 a' O s q m
section
variable {X : Cx} {Φ : OH → Hp → Hp → Prop} {W : WX} [FΦ : OFrm X.K X.mg Φ] {J : Jv}
/-! what a def leaves of its own is thrown away, where nothing tells of it -/
mutual
def locB (n : Nat) : D → Bool
  | .lst a => locBL n a
  | .tup a => locBL n a
  | .dic _ a => locBL n a
  | .ins _ _ a => locBL n a
  | .frz a => locBL n a
  | .loc i => decide (i < n)
  | _ => true
def locBL (n : Nat) : List D → Bool
  | [] => true
  | d :: ds => locB n d && locBL n ds
end
mutual
theorem rn_low {θ t : Th} : ∀ {a b : D}, Rn (θ ++ t) a b → locB θ.length a = true → Rn θ a b
  | _, _, .non, _ => .non
  | _, _, .bl b, _ => .bl b
  | _, _, .int i, _ => .int i
  | _, _, .str x, _ => .str x
  | _, _, .lst r, h => .lst (rnl_low r (by simpa [locB] using h))
  | _, _, .tup r, h => .tup (rnl_low r (by simpa [locB] using h))
  | _, _, .dic r, h => .dic (rnl_low r (by simpa [locB] using h))
  | _, _, .ins r, h => .ins (rnl_low r (by simpa [locB] using h))
  | _, _, .frz r, h => .frz (rnl_low r (by simpa [locB] using h))
  | _, _, .loc (i := i) e, h => .loc (by
    have h' : i < θ.length := by simpa [locB] using h
    rwa [List.getElem?_append_left h'] at e)
  | _, _, .cls C, _ => .cls C
  | _, _, .ty n, _ => .ty n
theorem rnl_low {θ t : Th} : ∀ {a b : List D}, RnL (θ ++ t) a b → locBL θ.length a = true → RnL θ a b
  | _, _, .nil, _ => .nil
  | _, _, .cons r rl, h => by
    simp only [locBL, Bool.and_eq_true] at h
    exact .cons (rn_low r h.1) (rnl_low rl h.2)
end
def lowO (n : Nat) : Option DO → Bool
  | none => true
  | some x => locB n x.tree
def gc (n : Nat) (d : D) (st : St) : St := if noLoc d = true ∧ (st.drop n).all Option.isNone = true ∧ (st.take n).all (lowO n) = true then st.take n else st
theorem gc_app {d : D} {st t : St} (h : noLoc d = true) (ht : t.all Option.isNone = true) (hl : st.all (lowO st.length) = true) : gc st.length d (st ++ t) = st := by
  unfold gc
  rw [if_pos ⟨h, by simpa using ht, by simpa using hl⟩]
  simp
theorem rno_low {θ t : Th} {x y : DO} (r : RnO (θ ++ t) x y) (h : locB θ.length x.tree = true) : RnO θ x y := by
  cases r with
  | lst r => exact .lst (rnl_low r (by simpa [DO.tree, locB] using h))
  | dic r => exact .dic (rnl_low r (by simpa [DO.tree, locB] using h))
  | ins r => exact .ins (rnl_low r (by simpa [DO.tree, locB] using h))
theorem gc_run {θ θ1 : Th} {st : St} {O : OH} {d d' : D} {n : Nat} {X : Prop} (l : θ.length = n) (s : θ <+: θ1) (r : Rn θ1 d d') (m : Mt θ1 st O) (h : ∀ θ2, θ <+: θ2 → Rn θ2 d d' → Mt θ2 (gc n d st) O → X) : X := by
  unfold gc at h
  by_cases q : noLoc d = true ∧ (st.drop n).all Option.isNone = true ∧ (st.take n).all (lowO n) = true
  · rw [if_pos q] at h
    have e := rn_eq r q.1
    subst e
    have hl := m.len
    obtain ⟨t, rfl⟩ := s
    have at_ : ∀ (i : Nat) (x : DO), (st.take n)[i]? = some (some x) → i < n ∧ st[i]? = some (some x) := fun i x e => by
      rw [List.getElem?_take] at e
      split at e
      · rename_i q
        exact ⟨q, e⟩
      · cases e
    have low : ∀ i, i < n → (θ ++ t)[i]? = θ[i]? := fun i hi => List.getElem?_append_left (by rw [l]; exact hi)
    refine h θ (List.prefix_refl _) (rn_self q.1) ⟨?_, fun i x e => ?_, fun i j x y a e1 e2 q1 q2 => ?_⟩
    · rw [List.length_take, ← hl, List.length_append, l]
      omega
    · obtain ⟨hi, e⟩ := at_ i x e
      obtain ⟨a, y, h1, h2, h3⟩ := m.live i x e
      rw [low i hi] at h1
      have hx : locB θ.length x.tree = true := by
        have z := List.all_eq_true.mp q.2.2 (some x) (List.mem_iff_getElem?.mpr ⟨i, by rw [List.getElem?_take, if_pos hi]; exact e⟩)
        rw [l]
        exact z
      exact ⟨a, y, h1, h2, rno_low h3 hx⟩
    · obtain ⟨hi, e1⟩ := at_ i x e1
      obtain ⟨hj, e2⟩ := at_ j y e2
      exact m.inj i j x y a e1 e2 (by rw [low i hi]; exact q1) (by rw [low j hj]; exact q2)
  · rw [if_neg q] at h
    exact h θ1 s r m
/-! .. and at a def's end also what lives, but is told of by nobody -/
def gcF (n : Nat) (ok : Bool) (st : St) : St := if ok = true ∧ (st.take n).all (lowO n) = true then st.take n else st
theorem gcF_same {ok : Bool} {st : St} : gcF st.length ok st = st := by
  unfold gcF
  simp
theorem gcF_app {st t : St} (hl : st.all (lowO st.length) = true) : gcF st.length true (st ++ t) = st := by
  unfold gcF
  rw [if_pos ⟨rfl, by simpa using hl⟩]
  simp
def LeO (O' O : OH) : Prop := ∀ b x, O' b = some x → O b = some x
theorem gcF_run {θ θ1 : Th} {st : St} {O : OH} {n : Nat} {ok : Bool} {X : Prop} (l : θ.length = n) (s : θ <+: θ1) (m : Mt θ1 st O) (h1 : ok = true → ∀ O2, LeO O2 O → Mt θ (gcF n ok st) O2 → X) (h2 : Mt θ1 (gcF n ok st) O → X) : X := by
  by_cases q : ok = true ∧ (st.take n).all (lowO n) = true
  · have e : gcF n ok st = st.take n := if_pos q
    rw [e] at h1
    have hl := m.len
    obtain ⟨t, rfl⟩ := s
    have at_ : ∀ (i : Nat) (x : DO), (st.take n)[i]? = some (some x) → i < n ∧ st[i]? = some (some x) := fun i x e => by
      rw [List.getElem?_take] at e
      split at e
      · rename_i q
        exact ⟨q, e⟩
      · cases e
    have low : ∀ i, i < n → (θ ++ t)[i]? = θ[i]? := fun i hi => List.getElem?_append_left (by rw [l]; exact hi)
    refine h1 q.1 (fun b => if b ∈ θ then O b else none) (fun b x e => ?_) ⟨?_, fun i x e => ?_, fun i j x y a e1 e2 q1 q2 => ?_⟩
    · by_cases z : b ∈ θ
      · simpa [z] using e
      · simp [z] at e
    · rw [List.length_take, ← hl, List.length_append, l]
      omega
    · obtain ⟨hi, e⟩ := at_ i x e
      obtain ⟨a, y, g1, g2, g3⟩ := m.live i x e
      rw [low i hi] at g1
      have hx : locB θ.length x.tree = true := by
        have z := List.all_eq_true.mp q.2 (some x) (List.mem_iff_getElem?.mpr ⟨i, by rw [List.getElem?_take, if_pos hi]; exact e⟩)
        rw [l]
        exact z
      have ha : a ∈ θ := List.mem_iff_getElem?.mpr ⟨i, g1⟩
      exact ⟨a, y, g1, by simp [ha, g2], rno_low g3 hx⟩
    · obtain ⟨hi, e1⟩ := at_ i x e1
      obtain ⟨hj, e2⟩ := at_ j y e2
      exact m.inj i j x y a e1 e2 (by rw [low i hi]; exact q1) (by rw [low j hj]; exact q2)
  · have e : gcF n ok st = st := if_neg q
    rw [e] at h2
    exact h2 m
/-! calls -/
abbrev fF := List D → St → Res D
def gF (f : fF) : WF := fun ds' O P R => ∃ θ ds st, RnL θ ds ds' ∧ Mt θ st O ∧ Aft Rn θ (f ds st) P R
def noLocX (x : Exn) : Bool := match x.fs with
  | none => true
  | some (_, ds) => noLocL ds
theorem rnx_low {θ θ1 : Th} {x y : Exn} (r : RnX θ1 x y) (h : noLocX x = true) : RnX θ x y := by
  obtain ⟨c, r⟩ := r
  refine ⟨c, ?_⟩
  unfold noLocX at h
  revert h r
  cases x.fs with
  | none =>
    cases y.fs with
    | none => exact fun _ r => r
    | some _ => exact fun _ r => r
  | some a =>
    cases y.fs with
    | none => exact fun _ r => r
    | some b => exact fun h r => ⟨r.1, by rw [rnl_eq r.2 h]; exact rnl_self h⟩
def fBody (f : fS) (k : Nat) : fF := fun ds st => match f (ds.map some ++ List.replicate k none) st with
  | .nx _ st1 => .ok .non (gcF st.length true st1)
  | .rt d st1 => .ok d (gcF st.length (noLoc d) st1)
  | .ex x _ st1 => .ex x (gcF st.length (noLocX x) st1)
  | _ => .bad
theorem body_run {f : fS} {k : Nat} {ds' : List D} {O : OH} {P : D → OH → Prop} {R : Exn → OH → Prop} (h : gF (fBody f k) ds' O P R) : bodyF (dS none f) k ds' O (fun d O1 => ∃ O2, LeO O2 O1 ∧ P d O2) (fun x O1 => ∃ O2, LeO O2 O1 ∧ R x O2) := by
  obtain ⟨θ, ds, st, r, m, h⟩ := h
  refine ⟨θ, _, st, ⟨RnE.start r k, m, trivial⟩, ?_⟩
  unfold fBody at h
  cases q : f (ds.map some ++ List.replicate k none) st with
  | nx ρ1 st1 =>
    rw [q] at h
    exact fun θ1 ρ' O1 s c => gcF_run m.len s c.mt (fun _ O2 le m2 => ⟨O2, le, h θ .non O2 (List.prefix_refl _) .non m2⟩) fun m2 => ⟨O1, fun _ _ e => e, h θ1 .non O1 s .non m2⟩
  | rt d st1 =>
    rw [q] at h
    refine fun θ1 d' O1 s r1 m1 => gcF_run m.len s m1 (fun nl O2 le m2 => ⟨O2, le, h θ d' O2 (List.prefix_refl _) ?_ m2⟩) fun m2 => ⟨O1, fun _ _ e => e, h θ1 d' O1 s r1 m2⟩
    rw [rn_eq r1 nl]
    exact rn_self nl
  | ex x ρ1 st1 =>
    rw [q] at h
    exact fun θ1 x' ρ' O1 s rx c => gcF_run m.len s c.mt (fun nl O2 le m2 => ⟨O2, le, h θ x' O2 (List.prefix_refl _) (rnx_low rx nl) m2⟩) fun m2 => ⟨O1, fun _ _ e => e, h θ1 x' O1 s rx m2⟩
  | bk _ _ => rw [q] at h; exact h.elim
  | ct _ _ => rw [q] at h; exact h.elim
  | bad => rw [q] at h; exact h.elim
def fCall (F : fF) (k : Nat) (dd : List D) (n : fA) : fE := fun ρ st => (n ρ st).bind fun ds st1 => if (ds ++ dd).length = k then F (ds ++ dd) st1 else .bad
def fCall0 (F : fF) (k : Nat) (dd : List D) : fE := fun _ st => if dd.length = k then F dd st else .bad
def fMeth (C m : Str) (F : fF) (k : Nat) (dd : List D) (o : fE) (n : fA) : fE := fun ρ st => (o ρ st).bind fun x st1 => match x with
  | .ins C' ns fs => if C' = C ∧ m ∉ ns then (n ρ st1).bind fun ds st2 => if (ds ++ dd).length + 1 = k then F (.ins C' ns fs :: (ds ++ dd)) st2 else .bad else .bad
  | _ => .bad
def fMeth0 (C m : Str) (F : fF) (k : Nat) (dd : List D) (o : fE) : fE := fun ρ st => (o ρ st).bind fun x st1 => match x with
  | .ins C' ns fs => if C' = C ∧ m ∉ ns ∧ dd.length + 1 = k then F (.ins C' ns fs :: dd) st1 else .bad
  | _ => .bad
def mkEnd (i : Nat) (r : Res D) : Res D := match r with
  | .ok .non st2 => match st2[i]? with
    | some (some y) => .ok y.tree (gc i y.tree (st2.set i none))
    | _ => .bad
  | .ok _ _ => .bad
  | .ex x st2 => .ex x st2
  | .bad => .bad
def fMake (C : Str) (F : fF) (k : Nat) (dd : List D) (n : fA) : fE := fun ρ st => (n ρ st).bind fun ds st1 =>
  if (ds ++ dd).length + 1 = k then mkEnd st1.length (F (.loc st1.length :: (ds ++ dd)) (st1 ++ [some (.ins C [] [])])) else .bad
section
variable {k : Nat} {f C : Addr} {fd : FuncData} {ps : List Str} {F : fF} {dvs : List V} {dd : List D} {dflt : List Value} {x m : Str} {p pos apos : Pos} {e o : Expr} {es : List Expr} {fs : fA} {fo : fE}
theorem fe_call (Fg : FnG X.prog X.w X.K X.mg X.base k f fd ps (gF F)) (hr : Rm k X) (hg : Gl X x) (hm : X.mg x = some (.ref f)) (hk : PySem.W.keepIn X.K (.ref f) = true) (hb : Binds X.K fd ps dflt) (hd : Vals dvs dflt) (hdd : ∀ G, RpL X.K X.mg G dvs dd) (tk : Takes X W)
    (ha : FA X Φ W J (e :: es) fs) (hn : noLocL dd = true := by rfl) (hdb : (x == ("__debug__" : Str)) = false := by decide) (he : starEach (e :: es) X.env = (false, eval e X.env) :: starEach es X.env := by rfl) (hpl : (backTo pos (starEach es X.env)).any (·.1) = false := by rfl) :
    FE X Φ W J (.Call (.Name x p) (e :: es) [] pos) (fCall F ps.length dd fs) := by
  obtain ⟨_, ha⟩ := ha
  refine fe_of (de_call Fg hr hg hm hk hb hd hdd tk ha hdb he hpl) fun ρ' O P R ⟨θ, ρ, st, c, h⟩ => ⟨θ, ρ, st, c, h.bind fun θ1 a a' st1 O1 s1 ra m1 h1 => ?_⟩
  by_cases q : (a ++ dd).length = ps.length
  · rw [if_pos q] at h1
    have r := ra.app (rnl_self (θ := θ1) hn)
    exact ⟨by rw [← r.len]; exact q, θ1, _, st1, r, m1, h1⟩
  · rw [if_neg q] at h1
    exact h1.elim
theorem fe_meth0 {Cn : Str} {pl : Sem Bool} (ho : FE X Φ W J o fo) (c : Cls X.K C) (hC : X.mg Cn = some (.ref C)) (hm : Meth X.K C m f) (Fg : FnG X.prog X.w X.K X.mg X.base k f fd ps (gF F)) (hr : Rm k X) (hb : Binds X.K fd ps dflt) (hd : Vals dvs dflt) (hdd : ∀ G, RpL X.K X.mg G dvs dd) (tk : Takes X W)
    (hn : noLocL dd = true := by rfl)
    (ht : eval (.Call (.Attribute o m apos) [] [] pos) X.env = (do
      let ov ← eval o X.env
      standAt apos.atName
      let (f, first) ← holding [ov] (getMethod ov m pl)
      callWith pos f first (backTo pos (starEach [] X.env)) (backToKw pos (keywordEach [] X.env))) := by rfl) :
    FE X Φ W J (.Call (.Attribute o m apos) [] [] pos) (fMeth0 Cn m F ps.length dd fo) := by
  obtain ⟨_, ho⟩ := ho
  refine fe_of (de_meth0 ho c hC hm Fg hr hb hd hdd tk ht) fun ρ' O P R ⟨θ, ρ, st, c, h⟩ => ⟨θ, ρ, st, c, h.bind fun θ1 a a' st1 O1 s1 ra m1 h1 => ?_⟩
  cases ra with
  | @ins C' ns b b' rb =>
    simp only at h1
    by_cases q : C' = Cn ∧ m ∉ ns ∧ dd.length + 1 = ps.length
    · rw [if_pos q] at h1
      obtain ⟨q1, q2, q3⟩ := q
      subst q1
      exact ⟨_, _, rfl, q2, q3, θ1, _, st1, .cons (.ins rb) (rnl_self hn), m1, h1⟩
    · rw [if_neg q] at h1
      exact h1.elim
  | _ => exact h1.elim
theorem fe_make (M : Mk X.K C f) (hC : X.mg x = some (.ref C)) (Fg : FnG X.prog X.w X.K X.mg X.base k f fd ps (gF F)) (hr : Rm (k + 1) X) (hg : Gl X x) (hb : Binds X.K fd ps dflt) (hd : Vals dvs dflt) (hdd : ∀ G, RpL X.K X.mg G dvs dd) (tk : Takes X W)
    (ha : FA X Φ W J (e :: es) fs) (hn : noLocL dd = true := by rfl) (hdb : (x == ("__debug__" : Str)) = false := by decide) (he : starEach (e :: es) X.env = (false, eval e X.env) :: starEach es X.env := by rfl) (hpl : (backTo pos (starEach es X.env)).any (·.1) = false := by rfl) :
    FE X Φ W J (.Call (.Name x p) (e :: es) [] pos) (fMake x F ps.length dd fs) := by
  obtain ⟨_, ha⟩ := ha
  refine fe_of (de_make M hC Fg hr hg hb hd hdd tk ha hdb he hpl) fun ρ' O P R ⟨θ, ρ, st, c, h⟩ => ⟨θ, ρ, st, c, h.bind fun θ1 a a' st1 O1 s1 ra m1 h1 => ?_⟩
  by_cases q : (a ++ dd).length + 1 = ps.length
  · rw [if_pos q] at h1
    have r := ra.app (rnl_self (θ := θ1) hn)
    refine ⟨by rw [← r.len]; exact q, fun p np => ?_⟩
    have m2 := m1.new (x := .ins x [] []) (y := .ins x [] []) np (.ins .nil)
    refine ⟨θ1 ++ [p], _, _, .cons (.loc (mt_last m1)) (r.mono ⟨[p], rfl⟩), m2, ?_⟩
    cases z : F (.loc st1.length :: (a ++ dd)) (st1 ++ [some (.ins x [] [])]) with
    | bad => rw [z] at h1; exact h1.elim
    | ex w st3 => rw [z] at h1; exact fun θ3 x' O3 s3 => h1 θ3 x' O3 (List.IsPrefix.trans ⟨[p], rfl⟩ s3)
    | ok d st3 =>
      rw [z] at h1
      intro θ3 d' O3 s3 rd m3
      unfold mkEnd at h1
      cases rd with
      | non =>
        simp only at h1
        cases w : st3[st1.length]? with
        | none => rw [w] at h1; exact h1.elim
        | some u =>
          cases u with
          | none => rw [w] at h1; exact h1.elim
          | some y =>
            rw [w] at h1
            have at3 : θ3[st1.length]? = some p := sub_at s3 (mt_last m1)
            obtain ⟨y', h4, h5⟩ := m3.at w at3
            exact ⟨rfl, y', h4, gc_run m1.len (List.IsPrefix.trans ⟨[p], rfl⟩ s3) h5.tree (m3.del w at3) fun θ4 s4 r4 m4 => h1 θ4 _ _ s4 r4 m4⟩
      | _ => exact h1.elim
  · rw [if_neg q] at h1
    exact h1.elim
end
/-! fields, properties -/
def fFld (C f : Str) (m : fE) : fE := fun ρ st => (m ρ st).bind fun x st1 => match x with
  | .ins C' ns ds => if C' = C then optR (lookD f ns ds) st1 else .bad
  | _ => .bad
theorem lookD_rn {θ : Th} {f : Str} {d : D} : ∀ {ns : List Str} {a b : List D}, RnL θ a b → lookD f ns a = some d → ∃ e, lookD f ns b = some e ∧ Rn θ d e
  | [], _, _, _, h => by simp [lookD] at h
  | n :: ns, _, _, .nil, h => by simp [lookD] at h
  | n :: ns, _, _, .cons r rl, h => by
    unfold lookD at h ⊢
    by_cases q : f = n
    · rw [if_pos q] at h ⊢
      cases h
      exact ⟨_, rfl, r⟩
    · rw [if_neg q] at h ⊢
      exact lookD_rn rl h
theorem putD_rn {θ : Th} {f : Str} {y y' : D} (r : Rn θ y y') : ∀ {ns : List Str} {a b : List D}, RnL θ a b → RnL θ (putD f y ns a) (putD f y' ns b)
  | [], _, _, _ => .cons r .nil
  | n :: ns, _, _, .nil => .nil
  | n :: ns, _, _, .cons h t => by
    unfold putD
    by_cases q : n = f
    · rw [if_pos q, if_pos q]
      exact .cons r t
    · rw [if_neg q, if_neg q]
      exact .cons h (putD_rn r t)
section
variable {C : Addr} {Cn f : Str} {e : Expr} {m : fE} {pos : Pos}
theorem fe_fld (c : Cls X.K C) (hC : X.mg Cn = some (.ref C)) (n : NoAttr X.K C f) (h : FE X Φ W J e m) (hb : attributeBase e f X.env (eval e X.env) = eval e X.env := by rfl) : FE X Φ W J (.Attribute e f pos) (fFld Cn f m) := by
  obtain ⟨_, h⟩ := h
  refine fe_of (de_fld c hC n h hb) fun ρ' O P R ⟨θ, ρ, st, c, h⟩ => ⟨θ, ρ, st, c, h.bind fun θ1 a a' st1 O1 s1 ra m1 h1 => ?_⟩
  cases ra with
  | @ins C' ns b b' rb =>
    simp only at h1
    by_cases q : C' = Cn
    · subst q
      rw [if_pos rfl] at h1
      cases z : lookD f ns b with
      | none => rw [z] at h1; exact h1.elim
      | some d =>
        rw [z] at h1
        obtain ⟨e, h2, h3⟩ := lookD_rn rb z
        exact ⟨_, _, e, rfl, h2, Aft.ok h1 h3 m1⟩
    · rw [if_neg q] at h1
      exact h1.elim
  | _ => exact h1.elim
def fFldS (C f : Str) (mo mv : fE) : fS := fun ρ st => stB (mv ρ st) ρ fun y st1 => stB (mo ρ st1) ρ fun x st2 => match x with
  | .loc a => match st2[a]? with
    | some (some (.ins C' ns ds)) => if C' = C ∧ ns.length < 1000 then .nx ρ (st2.set a (some (.ins C (putN f ns) (putD f y ns ds)))) else .bad
    | _ => .bad
  | _ => .bad
theorem fs_fld {o value : Expr} {pos' : Pos} {mo mv : fE} (c : Cls X.K C) (hC : X.mg Cn = some (.ref C)) (n : NoAttr X.K C f) (ho : FE X Φ W J o mo) (hv : FE X Φ W J value mv) (hs : swapsWith value (some (.Attribute o f pos')) pos.line X.env = pure false := by rfl) :
    FS X Φ W J (.Assign [.Attribute o f pos'] value pos) (fFldS Cn f mo mv) := by
  obtain ⟨_, ho⟩ := ho
  obtain ⟨_, hv⟩ := hv
  refine fs_of (ds_fld c hC n ho hv hs) fun M ρ' O ⟨θ, ρ, st, c, h⟩ => ⟨θ, ρ, st, c, h.stB c fun θ1 a a' st1 O1 s1 ra m1 h1 => ?_⟩
  refine ⟨θ1, ρ, st1, c.step s1 m1, h1.stB (c.step s1 m1) fun θ2 x x' st2 O2 s2 rx m2 h2 => ?_⟩
  cases rx with
  | @loc i p hp =>
    simp only at h2
    cases w : st2[i]? with
    | none => rw [w] at h2; exact h2.elim
    | some u =>
      cases u with
      | none => rw [w] at h2; exact h2.elim
      | some y =>
        rw [w] at h2
        obtain ⟨y', h4, h5⟩ := m2.at w hp
        cases h5 with
        | @ins C' ns b b' rb =>
          simp only at h2
          by_cases q : C' = Cn ∧ ns.length < 1000
          · rw [if_pos q] at h2
            obtain ⟨q1, q2⟩ := q
            subst q1
            refine ⟨p, _, _, rfl, h4, q2, ?_⟩
            exact h2 θ2 ρ' _ (List.prefix_refl _) ((c.step s1 m1).step s2 (m2.put w hp (.ins (putD_rn (ra.mono s2) rb))))
          · rw [if_neg q] at h2
            exact h2.elim
        | _ => exact h2.elim
  | _ => exact h2.elim
def fProp (C : Str) (F : fF) (m : fE) : fE := fun ρ st => (m ρ st).bind fun x st1 => match x with
  | .ins C' ns ds => if C' = C then (F [.ins C' ns ds] st1).calm else .bad
  | _ => .bad
/-! own __eq__, own __repr__ -/
def fEqI (C : Str) (F : fF) (ok : D → Bool) (ma mb : fE) : fE := fun ρ st => (ma ρ st).bind fun a st1 => (mb ρ st1).bind fun b st2 => match a with
  | .ins C' ns ds => if C' = C ∧ ok b = true then (F [.ins C' ns ds, b] st2).bind fun d st3 => match d with
      | .bl k => .ok (.bl k) st3
      | _ => .bad
    else .bad
  | _ => .bad
theorem feqI_run {C : Str} {F : fF} {ok : D → Bool} (hok : ∀ θ a b, Rn θ a b → ok b = ok a) {fa fb : fE} {ρ' : Rho} {O : OH} {P : D → OH → Prop} {R : Exn → OH → Prop} (h : dE J (fEqI C F ok fa fb) ρ' O P R) : mEqI C (gF F) (fun d => ok d = true) (dE J fa) (dE J fb) ρ' O P R := by
  obtain ⟨θ, ρ, st, c, h⟩ := h
  refine ⟨θ, ρ, st, c, h.bind fun θ1 a a' st1 O1 s1 ra m1 h1 => ?_⟩
  refine ⟨θ1, ρ, st1, c.step s1 m1, h1.bind fun θ2 b b' st2 O2 s2 rb m2 h2 => ?_⟩
  cases ra with
  | @ins C' ns u u' ru =>
    simp only at h2
    by_cases q : C' = C ∧ ok b = true
    · rw [if_pos q] at h2
      obtain ⟨q1, q2⟩ := q
      subst q1
      refine ⟨_, _, rfl, (hok θ2 b b' rb).trans q2, θ2, _, st2, .cons (.ins (ru.mono s2)) (.cons rb .nil), m2, h2.bind fun θ3 d d' st3 O3 s3 rd m3 h3 => ?_⟩
      cases rd with
      | bl k => exact ⟨k, rfl, Aft.ok h3 (.bl k) m3⟩
      | _ => exact h3.elim
    · rw [if_neg q] at h2
      exact h2.elim
  | _ => exact h2.elim
section
variable {k : Nat} {g : Addr} {fd : FuncData} {n1 n2 n : Str} {F : fF} {ok : D → Bool} {a b : Expr} {fa fb : fE}
theorem fe_eqI (hC : X.mg Cn = some (.ref C)) (hs : PySem.W.findIn X.K (.ref C) "__eq__" = some (some (.ref g))) (hf : PySem.W.isFn X.K (.ref g) = true)
    (T : EqT X.K X.mg C fun d => ok d = true) (hok : ∀ θ a b, Rn θ a b → ok b = ok a) (Fg : FnG X.prog X.w X.K X.mg X.base k g fd [n1, n2] (gF F)) (hr : Rm k X) (hb : Binds X.K fd [n1, n2] []) (tk : Takes X W) (ha : FE X Φ W J a fa) (hb' : FE X Φ W J b fb) :
    FE X Φ W J (.Compare a [.Eq] [b] pos) (fEqI Cn F ok fa fb) := by
  obtain ⟨_, ha⟩ := ha
  obtain ⟨_, hb'⟩ := hb'
  exact fe_of (de_eqI hC hs hf T Fg hr hb tk ha hb') fun _ _ _ _ h => feqI_run hok h
theorem ft_eqI (hC : X.mg Cn = some (.ref C)) (hs : PySem.W.findIn X.K (.ref C) "__eq__" = some (some (.ref g))) (hf : PySem.W.isFn X.K (.ref g) = true)
    (T : EqT X.K X.mg C fun d => ok d = true) (hok : ∀ θ a b, Rn θ a b → ok b = ok a) (Fg : FnG X.prog X.w X.K X.mg X.base k g fd [n1, n2] (gF F)) (hr : Rm k X) (hb : Binds X.K fd [n1, n2] []) (tk : Takes X W) (ha : FE X Φ W J a fa) (hb' : FE X Φ W J b fb) :
    FT X Φ W J (.Compare a [.Eq] [b] pos) (fTest (fEqI Cn F ok fa fb)) := by
  obtain ⟨_, ha⟩ := ha
  obtain ⟨_, hb'⟩ := hb'
  exact ft_of (dt_eqI hC hs hf T Fg hr hb tk ha hb') fun _ _ _ _ h => mtest_mono (fun _ _ _ _ => feqI_run hok) (ftest_run h)
def fReprI (C : Str) (F : fF) (m : fE) : fE := fun ρ st => (m ρ st).bind fun x st1 => match x with
  | .ins C' ns ds => if C' = C then (F [.ins C' ns ds] st1).calm.bind fun d st2 => match d with
      | .str y => .ok (.str y) st2
      | _ => .bad
    else .bad
  | _ => .bad
theorem fe_reprI {p : Pos} (c : Cls X.K C) (hC : X.mg Cn = some (.ref C)) (hs : PySem.W.findIn X.K (.ref C) "__repr__" = some (some (.ref g))) (hf : PySem.W.isFn X.K (.ref g) = true)
    (Fg : FnG X.prog X.w X.K X.mg X.base k g fd [n] (gF F)) (hr : Rm (k + 1) X) (hb : Binds X.K fd [n] []) (hg : Gl X "repr") (hm : X.mg "repr" = none) (h : FE X Φ W J e m)
    (he : starEach [e] X.env = (false, eval e X.env) :: starEach [] X.env := by rfl) (hpl : (backTo pos (starEach [] X.env)).any (·.1) = false := by rfl) :
    FE X Φ W J (.Call (.Name "repr" p) [e] [] pos) (fReprI Cn F m) := by
  obtain ⟨_, h⟩ := h
  refine fe_of (de_reprI c hC hs hf Fg hr hb hg hm h he hpl) fun ρ' O P R ⟨θ, ρ, st, c, h⟩ => ⟨θ, ρ, st, c, h.bind fun θ1 a a' st1 O1 s1 ra m1 h1 => ?_⟩
  cases ra with
  | @ins C' ns u u' ru =>
    simp only at h1
    by_cases q : C' = Cn
    · subst q
      rw [if_pos rfl] at h1
      refine ⟨_, _, rfl, θ1, _, st1, .cons (.ins ru) .nil, m1, ?_⟩
      cases z : F [.ins C' ns u] st1 with
      | bad => rw [z] at h1; exact h1.elim
      | ex w st2 => rw [z] at h1; exact h1.elim
      | ok d st2 =>
        rw [z] at h1
        intro θ2 d' O2 s2 rd m2
        cases rd with
        | str y => exact ⟨y, rfl, h1 θ2 _ O2 s2 (.str y) m2⟩
        | _ => exact h1.elim
    · rw [if_neg q] at h1
      exact h1.elim
  | _ => exact h1.elim
end
end
/-! raise, try -/
def fRaise (C fld : Str) (n : fA) : fS := fun ρ st => stB (n ρ st) ρ fun ds st1 => match ds with
  | [d] => .ex ⟨C, some ([fld], [d])⟩ ρ st1
  | _ => .bad
theorem fs_raise {C fI : Addr} {x fld ar : Str} {fd : FuncData} {e : Expr} {fs : fA} {p pos pos2 : Pos} (T : OexG X.K C) (iC : PySem.W.findIn X.K (.ref C) "__init__" = some (some (.ref fI))) (tI : PySem.W.typeIn X.K (.ref fI) = some (.type "function"))
    (F : FnOk X.prog X.w X.K X.mg X.base CX0 1 fI fd [("self" : Str), ar] (spXI C fld)) (hr : Rm 2 X) (hb : Binds X.K fd [("self" : Str), ar] []) (hg : Gl X x) (hm : X.mg x = some (.ref C)) (hc : X.calm = true) (tk : Takes X W) (ha : FA X Φ W J [e] fs)
    (hdb : (x == ("__debug__" : Str)) = false := by decide) (he : starEach [e] X.env = (false, eval e X.env) :: starEach [] X.env := by rfl) (hpl : (backTo pos (starEach [] X.env)).any (·.1) = false := by rfl) :
    FS X Φ W J (.Raise (some (.Call (.Name x p) [e] [] pos)) none pos2) (fRaise x fld fs) := by
  obtain ⟨_, ha⟩ := ha
  refine fs_of (ds_raiseG T iC tI F hr hb hg hm hc tk ha hdb he hpl) fun M ρ' O ⟨θ, ρ, st, c, h⟩ => ⟨θ, ρ, st, c, h.stB c fun θ1 a a' st1 O1 s1 ra m1 h1 => ?_⟩
  cases ra with
  | nil => exact h1.elim
  | cons r1 ra =>
    cases ra with
    | cons _ _ => exact h1.elim
    | nil => exact ⟨_, rfl, h1 θ1 ⟨x, some ([fld], [_])⟩ ρ' O1 (List.prefix_refl _) ⟨rfl, rfl, .cons r1 .nil⟩ (c.step s1 m1)⟩
abbrev ClF := (Str → Option Bool) × Nat × (Exn → fS)
def dropS (i : Nat) (r : RS) : RS := match r with
  | .nx ρ st => .nx (ρ.set i none) st
  | .rt d st => .rt d st
  | .bk ρ st => .bk (ρ.set i none) st
  | .ct ρ st => .ct (ρ.set i none) st
  | .ex _ _ _ => .bad
  | .bad => .bad
def fPick : List ClF → Exn → Rho → St → RS
  | [], x, ρ, st => .ex x ρ st
  | (cl, i, f) :: r, x, ρ, st => match cl x.cls with
    | none => .bad
    | some false => fPick r x ρ st
    | some true => if i < ρ.length then dropS i (f x (ρ.set i none) st) else .bad
def fTry (cs : List ClF) (b : fS) : fS := fun ρ st => match b ρ st with
  | .ex x ρ1 st1 => fPick cs x ρ1 st1
  | r => r
inductive FCl (X : Cx) (Φ : OH → Hp → Hp → Prop) : List ExceptHandler → List ClF → Prop
  | nil : FCl X Φ [] []
  | cons {x n : Str} {c : Value} {i : Nat} {cl : Str → Option Bool} {f : Exn → fS} {b₀ : Stmt} {suite : List Stmt} {np pos' : Pos} {hds : List ExceptHandler} {cs : List ClF}
      (hi : X.N[i]? = some n) (hln : X.env.kindOf n = some .local) (hc : Names X x c)
      (hcl : ∀ (y : Str) (b : Bool) (cls : Value), X.mg y = some cls → cl y = some b → PySem.W.exmOne X.K cls c = some b)
      (hsu : ∀ (a : Addr) (oe : Obj) (cls : Value) (d : Option Addr) (pn : List (Addr × Obj)) (x' x : Exn), Zc cls d oe → (∃ vs, oe.data = .fields vs) → FSs (X.suite a ((a, oe) :: pn)) (ExF X.K X.mg Φ cls d x') W0 (some (i, a, x', x)) (b₀ :: suite) (f x))
      (r : FCl X Φ hds cs) : FCl X Φ (.ExceptHandler (some (.Name x np)) (some n) (b₀ :: suite) pos' :: hds) ((cl, i, f) :: cs)
def fXf (C f : Str) (x : Exn) : fE := fun _ st => if x.cls = C then match x.fs with
    | some (ns, ds) => optR (lookD f ns ds) st
    | none => .bad
  else .bad
end
end FL

set_option Elab.async false
set_option linter.all false
set_option maxRecDepth 100000
set_option maxHeartbeats 1000000
namespace FL
open PySem PySem.Spec PyProof.Rows L2 DL

/-! ### operators -/
def oAdd : D → D → Option D
  | .int i, .int j => some (.int (i + j))
  | .str x, .str y => if x.length + y.length ≤ sizeLine then some (.str (x ++ y)) else none
  | .lst x, .lst y => if x.length + y.length ≤ sizeLine then some (.lst (x ++ y)) else none
  | .tup x, .tup y => if x.length + y.length ≤ sizeLine then some (.tup (x ++ y)) else none
  | _, _ => none
theorem some_if {c : Prop} [Decidable c] {x d : D} (h : (if c then some x else none) = some d) : c ∧ x = d := by
  by_cases q : c
  · rw [if_pos q] at h
    exact ⟨q, Option.some.inj h⟩
  · rw [if_neg q] at h
    cases h
theorem ow_add : OW oAdd wAdd := ⟨fun θ a b a' b' d P ra rb h k => by
  cases ra <;> cases rb <;> try (cases h; done)
  · cases h
    exact k _ (.int _)
  · obtain ⟨q, e⟩ := some_if h
    subst e
    exact ⟨q, k _ (.str _)⟩
  · rename_i x x' rx y y' ry
    obtain ⟨q, e⟩ := some_if h
    subst e
    exact ⟨by rw [← rx.len, ← ry.len]; exact q, k _ (.lst (rx.app ry))⟩
  · rename_i x x' rx y y' ry
    obtain ⟨q, e⟩ := some_if h
    subst e
    exact ⟨by rw [← rx.len, ← ry.len]; exact q, k _ (.tup (rx.app ry))⟩⟩
def oI (c : Int → Int → Bool) (g : Int → Int → D) : D → D → Option D
  | .int i, .int j => if c i j = true then some (g i j) else none
  | _, _ => none
theorem ow_i {c : Int → Int → Bool} {C : Int → Int → Prop} {g : Int → Int → D} (hc : ∀ i j, c i j = true → C i j) (hg : ∀ i j, noLoc (g i j) = true) : OW (oI c g) (wI C g) := ⟨fun θ a b a' b' d P ra rb h k => by
  cases ra <;> cases rb <;> try (cases h; done)
  obtain ⟨q, e⟩ := some_if h
  subst e
  exact ⟨hc _ _ q, k _ (rn_self (hg _ _))⟩⟩
def oI0 (g : Int → Int → D) : D → D → Option D
  | .int i, .int j => some (g i j)
  | _, _ => none
theorem ow_i0 {g : Int → Int → D} (hg : ∀ i j, noLoc (g i j) = true) : OW (oI0 g) (wI0 g) := ⟨fun θ a b a' b' d P ra rb h k => by
  cases ra <;> cases rb <;> try (cases h; done)
  cases h
  exact k _ (rn_self (hg _ _))⟩
def oSub := oI0 fun i j => .int (i - j)
theorem ow_sub : OW oSub wSub := ow_i0 fun _ _ => rfl
def oMod := oI (fun _ j => decide (0 < j)) fun i j => .int (i % j)
theorem ow_mod : OW oMod wMod := ow_i (fun _ _ h => of_decide_eq_true h) fun _ _ => rfl
def oDiv := oI (fun _ j => decide (0 < j) && decide (j.natAbs.log2 < 9000)) fun i j => .int (i / j)
theorem ow_div : OW oDiv wDiv := ow_i (fun _ _ h => by
  simp only [Bool.and_eq_true, decide_eq_true_eq] at h
  exact h) fun _ _ => rfl
def oPow := oI (fun i j => decide (0 ≤ j) && decide (j ≤ 1000000) && decide (i.natAbs < 2 ^ 64)) fun i j => .int (i ^ j.toNat)
theorem ow_pow : OW oPow wPow := ow_i (fun _ _ h => by
  simp only [Bool.and_eq_true, decide_eq_true_eq] at h
  exact ⟨h.1.1, h.1.2, h.2⟩) fun _ _ => rfl
def oLt := oI0 fun i j => .bl (decide (i < j))
def oLe := oI0 fun i j => .bl (decide (i ≤ j))
def oGt := oI0 fun i j => .bl (decide (j < i))
def oGe := oI0 fun i j => .bl (decide (j ≤ i))
theorem ow_lt : OW oLt wLt := ow_i0 fun _ _ => rfl
theorem ow_le : OW oLe wLe := ow_i0 fun _ _ => rfl
theorem ow_gt : OW oGt wGt := ow_i0 fun _ _ => rfl
theorem ow_ge : OW oGe wGe := ow_i0 fun _ _ => rfl
def mulOk (i j : Int) : Bool := (decide (-(2 ^ 64) < i) && decide (i < 2 ^ 64)) || (decide (-(2 ^ 64) < j) && decide (j < 2 ^ 64)) || decide (i.natAbs.log2 + j.natAbs.log2 < 1000000)
def oMul : D → D → Option D
  | .int i, .int j => if mulOk i j = true then some (.int (i * j)) else none
  | .lst x, .int k => if -(2 ^ 63) ≤ k ∧ k < 2 ^ 63 ∧ x.length * k.toNat ≤ sizeLine then some (.lst (List.replicate k.toNat x).flatten) else none
  | .tup x, .int k => if x.length ≠ 0 ∧ 2 ≤ k ∧ k ≤ 1000 ∧ x.length ≤ 1000 then some (.tup (List.replicate k.toNat x).flatten) else none
  | _, _ => none
theorem ow_mul : OW oMul wMul := ⟨fun θ a b a' b' d P ra rb h k => by
  cases ra <;> cases rb <;> try (cases h; done)
  · rename_i i j
    obtain ⟨q, e⟩ := some_if h
    subst e
    refine ⟨?_, k _ (.int _)⟩
    simp only [mulOk, Bool.or_eq_true, Bool.and_eq_true, decide_eq_true_eq] at q
    rcases q with (q | q) | q
    · exact .inl (.inl q)
    · exact .inl (.inr q)
    · exact .inr q
  · rename_i x x' rx j
    obtain ⟨q, e⟩ := some_if h
    subst e
    exact ⟨⟨q.1, q.2.1, by rw [← rx.len]; exact q.2.2⟩, k _ (.lst (rx.flat _))⟩
  · rename_i x x' rx j
    obtain ⟨q, e⟩ := some_if h
    subst e
    refine ⟨⟨fun e => q.1 ?_, q.2.1, q.2.2.1, by rw [← rx.len]; exact q.2.2.2⟩, k _ (.tup (rx.flat _))⟩
    rw [rx.len, e]
    rfl⟩
/-! == -/
mutual
theorem toPy_noLoc : ∀ {d : D} {p : PyData}, toPy d = some p → noLoc d = true
  | .non, _, _ => rfl
  | .bl _, _, _ => rfl
  | .int _, _, _ => rfl
  | .str _, _, _ => rfl
  | .lst ds, p, h => by
    simp only [toPy, Option.map_eq_some_iff] at h
    obtain ⟨ps, h, _⟩ := h
    simpa [noLoc] using toPyL_noLoc h
  | .tup ds, p, h => by
    simp only [toPy, Option.map_eq_some_iff] at h
    obtain ⟨ps, h, _⟩ := h
    simpa [noLoc] using toPyL_noLoc h
  | .dic _ _, _, h => by simp [toPy] at h
  | .ins _ _ _, _, h => by simp [toPy] at h
  | .frz _, _, h => by simp [toPy] at h
  | .loc _, _, h => by simp [toPy] at h
  | .cls _, _, h => by simp [toPy] at h
  | .ty _, _, h => by simp [toPy] at h
theorem toPyL_noLoc : ∀ {ds : List D} {ps : List PyData}, toPyL ds = some ps → noLocL ds = true
  | [], _, _ => rfl
  | d :: ds, ps, h => by
    simp only [toPyL] at h
    cases e1 : toPy d with
    | none => simp [e1] at h
    | some p =>
      cases e2 : toPyL ds with
      | none => simp [e1, e2] at h
      | some qs => simp [noLocL, toPy_noLoc e1, toPyL_noLoc e2]
end
mutual
theorem toPd_noLoc : ∀ {d : D} {p : PyData}, toPd d = some p → noLoc d = true
  | .non, _, _ => rfl
  | .bl _, _, _ => rfl
  | .int _, _, _ => rfl
  | .str _, _, _ => rfl
  | .lst ds, p, h => by
    simp only [toPd, Option.map_eq_some_iff] at h
    obtain ⟨ps, h, _⟩ := h
    simpa [noLoc] using toPdL_noLoc h
  | .tup ds, p, h => by
    simp only [toPd, Option.map_eq_some_iff] at h
    obtain ⟨ps, h, _⟩ := h
    simpa [noLoc] using toPdL_noLoc h
  | .dic [] [], _, _ => rfl
  | .dic (_ :: _) _, _, h => by simp [toPd] at h
  | .dic [] (_ :: _), _, h => by simp [toPd] at h
  | .ins _ _ _, _, h => by simp [toPd] at h
  | .frz _, _, h => by simp [toPd] at h
  | .loc _, _, h => by simp [toPd] at h
  | .cls _, _, h => by simp [toPd] at h
  | .ty _, _, h => by simp [toPd] at h
theorem toPdL_noLoc : ∀ {ds : List D} {ps : List PyData}, toPdL ds = some ps → noLocL ds = true
  | [], _, _ => rfl
  | d :: ds, ps, h => by
    simp only [toPdL] at h
    cases e1 : toPd d with
    | none => simp [e1] at h
    | some p =>
      cases e2 : toPdL ds with
      | none => simp [e1, e2] at h
      | some qs => simp [noLocL, toPd_noLoc e1, toPdL_noLoc e2]
end
/-- == of lists of unlike lengths, or empty ones, whatever they hold -/
def eqLen (neg : Bool) : D → D → Option D
  | .lst x, .lst y => if x.length ≠ y.length ∨ x.length = 0 then some (.bl (neg != decide (x.length = y.length))) else none
  | _, _ => none
def oEqB (neg : Bool) (a b : D) : Option D := match toPy a, toPy b with
  | some p, some q => if SeqAt.shaped p = true ∧ SeqAt.shaped q = true then some (.bl (neg != PyData.eqv p q)) else none
  | _, _ => eqLen neg a b
def oEq := oEqB false
def oNe := oEqB true
theorem eqLen_run {neg : Bool} {θ : Th} {a b a' b' d : D} (ra : Rn θ a a') (rb : Rn θ b b') (h : eqLen neg a b = some d) : ∃ x y, a' = .lst x ∧ b' = .lst y ∧ (x.length ≠ y.length ∨ x = []) ∧ d = .bl (neg != decide (x.length = y.length)) := by
  cases ra <;> cases rb <;> try (cases h; done)
  rename_i x x' rx y y' ry
  obtain ⟨q, e⟩ := some_if h
  subst e
  rw [rx.len, ry.len] at q
  refine ⟨x', y', rfl, rfl, ?_, by rw [rx.len, ry.len]⟩
  rcases q with q | q
  · exact .inl q
  · exact .inr (List.length_eq_zero_iff.mp q)
theorem oeqb_run {neg : Bool} {θ : Th} {a b a' b' d : D} (ra : Rn θ a a') (rb : Rn θ b b') (h : oEqB neg a b = some d) :
    (∃ p q, toPy a' = some p ∧ toPy b' = some q ∧ SeqAt.shaped p = true ∧ SeqAt.shaped q = true ∧ d = .bl (neg != PyData.eqv p q)) ∨ ∃ x y, a' = .lst x ∧ b' = .lst y ∧ (x.length ≠ y.length ∨ x = []) ∧ d = .bl (neg != decide (x.length = y.length)) := by
  unfold oEqB at h
  cases e1 : toPy a with
  | none => rw [e1] at h; exact .inr (eqLen_run ra rb h)
  | some p =>
    cases e2 : toPy b with
    | none => rw [e1, e2] at h; exact .inr (eqLen_run ra rb h)
    | some q =>
      rw [e1, e2] at h
      obtain ⟨q1, q2⟩ := some_if h
      rw [rn_eq ra (toPy_noLoc e1), rn_eq rb (toPy_noLoc e2)]
      exact .inl ⟨p, q, e1, e2, q1.1, q1.2, q2.symm⟩
theorem ow_eq : OW oEq wEq' := ⟨fun θ a b a' b' d P ra rb h k => by
  rcases oeqb_run ra rb h with ⟨p, q, h1, h2, h3, h4, e⟩ | ⟨x, y, h1, h2, h3, e⟩
  · subst e
    refine .inl ⟨p, q, h1, h2, h3, h4, ?_⟩
    have := k _ (.bl _)
    rwa [Bool.false_bne] at this
  · subst e
    refine .inr ⟨x, y, h1, h2, h3, ?_⟩
    have := k _ (.bl _)
    rwa [Bool.false_bne] at this⟩
theorem ow_ne : OW oNe wNe' := ⟨fun θ a b a' b' d P ra rb h k => by
  rcases oeqb_run ra rb h with ⟨p, q, h1, h2, h3, h4, e⟩ | ⟨x, y, h1, h2, h3, e⟩
  · subst e
    refine .inl ⟨p, q, h1, h2, h3, h4, ?_⟩
    have := k _ (.bl _)
    rwa [Bool.true_bne] at this
  · subst e
    refine .inr ⟨x, y, h1, h2, h3, ?_⟩
    have := k _ (.bl _)
    rwa [Bool.true_bne] at this⟩
theorem isNon_rn {θ : Th} {a b : D} (r : Rn θ a b) : isNon b = isNon a := by cases r <;> rfl
def oIsN : D → D → Option D
  | a, .non => some (.bl (isNon a))
  | _, _ => none
def oNotN : D → D → Option D
  | a, .non => some (.bl (!isNon a))
  | _, _ => none
theorem ow_isN : OW oIsN wIsN := ⟨fun θ a b a' b' d P ra rb h k => by
  cases rb <;> try (cases h; done)
  cases h
  exact ⟨rfl, by rw [isNon_rn ra]; exact k _ (.bl _)⟩⟩
theorem toV_rn {θ : Th} {a b : D} {v : V} (r : Rn θ a b) (h : toV a = some v) : toV b = some v := by
  cases r <;> first | exact h | cases h
theorem toVL_rn {θ : Th} : ∀ {a b : List D} {v : List V}, RnL θ a b → toVL a = some v → toVL b = some v
  | _, _, _, .nil, h => h
  | _, _, _, .cons (d := d) (ds := ds) r rl, h => by
    simp only [toVL] at h ⊢
    cases e1 : toV d with
    | none => rw [e1] at h; cases h
    | some v =>
      cases e2 : toVL ds with
      | none => rw [e1, e2] at h; cases h
      | some vs =>
        rw [e1, e2] at h
        rw [toV_rn r e1, toVL_rn rl e2]
        exact h
def seqOf : D → Option (List D)
  | .lst x => some x
  | .tup x => some x
  | .frz x => some x
  | _ => none
def oInN (neg : Bool) (a b : D) : Option D := match toV a, seqOf b with
  | some v, some xs => match toVL xs with
    | some vs => some (.bl (if neg then !inV v vs else inV v vs))
    | none => none
  | _, _ => none
def oIn := oInN false
def oNotIn := oInN true
theorem ow_inN {neg : Bool} : OW (oInN neg) (wInN neg) := ⟨fun θ a b a' b' d P ra rb h k => by
  unfold oInN at h
  cases e1 : toV a with
  | none => rw [e1] at h; cases h
  | some v =>
    cases e2 : seqOf b with
    | none => rw [e1, e2] at h; cases h
    | some xs =>
      rw [e1, e2] at h
      simp only at h
      cases e3 : toVL xs with
      | none => rw [e3] at h; cases h
      | some vs =>
        rw [e3] at h
        cases h
        have kk := k _ (.bl _)
        cases rb <;> try (cases e2; done)
        · rename_i r
          cases e2
          exact ⟨v, vs, _, toV_rn ra e1, .inl rfl, toVL_rn r e3, kk⟩
        · rename_i r
          cases e2
          exact ⟨v, vs, _, toV_rn ra e1, .inr (.inl rfl), toVL_rn r e3, kk⟩
        · rename_i r
          cases e2
          exact ⟨v, vs, _, toV_rn ra e1, .inr (.inr rfl), toVL_rn r e3, kk⟩⟩
theorem ow_in : OW oIn wIn := ow_inN
/-! places -/
def oIx : D → D → Option D
  | .lst x, .int i => atI x i
  | .tup x, .int i => atI x i
  | .frz x, .int i => atI x i
  | _, _ => none
theorem at_rn {θ : Th} {a b : List D} {i : Int} {d : D} (r : RnL θ a b) (h : atI a i = some d) : ∃ e, atI b i = some e ∧ Rn θ d e := by
  unfold atI at h ⊢
  rw [← r.len]
  cases e : ixN a.length i with
  | none => rw [e] at h; cases h
  | some j =>
    rw [e] at h
    obtain ⟨v, p, q⟩ := r.at (i := j) h
    exact ⟨v, p, q⟩
theorem ow_ix : OW oIx wIx := ⟨fun θ a b a' b' d P ra rb h k => by
  cases ra <;> cases rb <;> try (cases h; done)
  all_goals
    rename_i r i
    obtain ⟨e, h1, h2⟩ := at_rn r h
    exact ⟨i, rfl, e, h1, k e h2⟩⟩
/-! ### built-ins -/
def lLen : List D → Option D
  | [.lst x] => some (.int x.length)
  | [.tup x] => some (.int x.length)
  | [.frz x] => some (.int x.length)
  | [.str x] => if x.length ≤ sizeLine then some (.int x.length) else none
  | _ => none
theorem rnl1 {θ : Th} {a : D} {b : List D} (r : RnL θ [a] b) : ∃ a', b = [a'] ∧ Rn θ a a' := by
  cases r with
  | cons h t =>
    cases t
    exact ⟨_, rfl, h⟩
theorem rnl2 {θ : Th} {a c : D} {b : List D} (r : RnL θ [a, c] b) : ∃ a' c', b = [a', c'] ∧ Rn θ a a' ∧ Rn θ c c' := by
  cases r with
  | cons h t =>
    obtain ⟨c', rfl, h2⟩ := rnl1 t
    exact ⟨_, _, rfl, h, h2⟩
theorem lw_len : LW lLen wLen := ⟨fun θ ds ds' d P r h k => by
  unfold lLen at h
  split at h
  · obtain ⟨a', rfl, q⟩ := rnl1 r
    cases q with | lst q => cases h; exact ⟨_, rfl, by simp only [← q.len]; exact k _ (.int _)⟩
  · obtain ⟨a', rfl, q⟩ := rnl1 r
    cases q with | tup q => cases h; exact ⟨_, rfl, by simp only [← q.len]; exact k _ (.int _)⟩
  · obtain ⟨a', rfl, q⟩ := rnl1 r
    cases q with | frz q => cases h; exact ⟨_, rfl, by simp only [← q.len]; exact k _ (.int _)⟩
  · obtain ⟨a', rfl, q⟩ := rnl1 r
    cases q
    obtain ⟨z, e⟩ := some_if h
    subst e
    exact ⟨_, rfl, z, k _ (.int _)⟩
  · cases h⟩
def lTuple : List D → Option D
  | [.lst x] => some (.tup x)
  | [.tup x] => some (.tup x)
  | _ => none
theorem lw_tuple : LW lTuple wTuple := ⟨fun θ ds ds' d P r h k => by
  unfold lTuple at h
  split at h
  · obtain ⟨a', rfl, q⟩ := rnl1 r
    cases q with | lst q => cases h; exact .inl ⟨_, rfl, k _ (.tup q)⟩
  · obtain ⟨a', rfl, q⟩ := rnl1 r
    cases q with | tup q => cases h; exact .inr ⟨_, rfl, k _ (.tup q)⟩
  · cases h⟩
def lAbs : List D → Option D
  | [.int i] => some (.int (if i < 0 then -i else i))
  | _ => none
theorem lw_abs : LW lAbs wAbs := ⟨fun θ ds ds' d P r h k => by
  unfold lAbs at h
  split at h
  · obtain ⟨a', rfl, q⟩ := rnl1 r
    cases q
    cases h
    exact ⟨_, rfl, k _ (.int _)⟩
  · cases h⟩
def lInt : List D → Option D
  | [.int i] => some (.int i)
  | [.bl b] => some (.int (if b then 1 else 0))
  | _ => none
theorem lw_int : LW lInt wInt := ⟨fun θ ds ds' d P r h k => by
  unfold lInt at h
  split at h
  · obtain ⟨a', rfl, q⟩ := rnl1 r
    cases q
    cases h
    exact .inl ⟨_, rfl, k _ (.int _)⟩
  · obtain ⟨a', rfl, q⟩ := rnl1 r
    cases q
    cases h
    exact .inr ⟨_, rfl, k _ (.int _)⟩
  · cases h⟩
def lMax : List D → Option D
  | [.int i, .int j] => some (.int (if j > i then j else i))
  | _ => none
def lMin : List D → Option D
  | [.int i, .int j] => some (.int (if j < i then j else i))
  | _ => none
theorem lw_max : LW lMax wMax := ⟨fun θ ds ds' d P r h k => by
  unfold lMax at h
  split at h
  · obtain ⟨a', c', rfl, q1, q2⟩ := rnl2 r
    cases q1
    cases q2
    cases h
    exact ⟨_, _, rfl, k _ (.int _)⟩
  · cases h⟩
theorem lw_min : LW lMin wMin := ⟨fun θ ds ds' d P r h k => by
  unfold lMin at h
  split at h
  · obtain ⟨a', c', rfl, q1, q2⟩ := rnl2 r
    cases q1
    cases q2
    cases h
    exact ⟨_, _, rfl, k _ (.int _)⟩
  · cases h⟩
def blsOf : List D → Option (List Bool)
  | [] => some []
  | .bl b :: ds => (blsOf ds).map (b :: ·)
  | _ => none
theorem bls_eq : ∀ {ds : List D} {bs : List Bool}, blsOf ds = some bs → ds = bs.map D.bl
  | [], _, h => by cases h; rfl
  | d :: ds, bs, h => by
    cases d <;> simp only [blsOf] at h <;> try (cases h; done)
    simp only [Option.map_eq_some_iff] at h
    obtain ⟨cs, h1, h2⟩ := h
    subst h2
    rw [bls_eq h1]
    rfl
def intsOf : List D → Option (List Int)
  | [] => some []
  | .int b :: ds => (intsOf ds).map (b :: ·)
  | _ => none
theorem ints_eq : ∀ {ds : List D} {bs : List Int}, intsOf ds = some bs → ds = bs.map D.int
  | [], _, h => by cases h; rfl
  | d :: ds, bs, h => by
    cases d <;> simp only [intsOf] at h <;> try (cases h; done)
    simp only [Option.map_eq_some_iff] at h
    obtain ⟨cs, h1, h2⟩ := h
    subst h2
    rw [ints_eq h1]
    rfl
theorem noLoc_bls (bs : List Bool) : noLocL (bs.map D.bl) = true := by induction bs with | nil => rfl | cons b bs ih => simpa [noLocL, noLoc] using ih
theorem noLoc_ints (bs : List Int) : noLocL (bs.map D.int) = true := by induction bs with | nil => rfl | cons b bs ih => simpa [noLocL, noLoc] using ih
def lAll : List D → Option D
  | [.lst x] => (blsOf x).map fun bs => .bl (bs.all id)
  | _ => none
def lSum : List D → Option D
  | [.lst x] => (intsOf x).map fun bs => .int bs.sum
  | [.frz x] => (intsOf x).map fun bs => .int bs.sum
  | _ => none
theorem lw_all : LW lAll wAll := ⟨fun θ ds ds' d P r h k => by
  unfold lAll at h
  split at h
  · obtain ⟨a', rfl, q⟩ := rnl1 r
    cases q with
    | lst q =>
      simp only [Option.map_eq_some_iff] at h
      obtain ⟨bs, h1, h2⟩ := h
      subst h2
      have e := bls_eq h1
      subst e
      rw [rnl_eq q (noLoc_bls bs)]
      exact ⟨bs, rfl, k _ (.bl _)⟩
  · cases h⟩
theorem lw_sum : LW lSum wSum := ⟨fun θ ds ds' d P r h k => by
  unfold lSum at h
  split at h
  · obtain ⟨a', rfl, q⟩ := rnl1 r
    cases q with
    | lst q =>
      simp only [Option.map_eq_some_iff] at h
      obtain ⟨bs, h1, h2⟩ := h
      subst h2
      have e := ints_eq h1
      subst e
      rw [rnl_eq q (noLoc_ints bs)]
      exact ⟨bs, .inl rfl, k _ (.int _)⟩
  · obtain ⟨a', rfl, q⟩ := rnl1 r
    cases q with
    | frz q =>
      simp only [Option.map_eq_some_iff] at h
      obtain ⟨bs, h1, h2⟩ := h
      subst h2
      have e := ints_eq h1
      subst e
      rw [rnl_eq q (noLoc_ints bs)]
      exact ⟨bs, .inr rfl, k _ (.int _)⟩
  · cases h⟩
/-- a datum's repr, where it has one -/
def shown? (d : D) : Option Str := match toPd d with
  | some p => if p.showable = true ∧ p.depth ≤ 60 ∧ p.shown.length ≤ sizeLine then some p.shown else none
  | none => none
theorem shown_run {d : D} {y : Str} (h : shown? d = some y) : ∃ p, toPd d = some p ∧ p.showable = true ∧ p.depth ≤ 60 ∧ p.shown.length ≤ sizeLine ∧ y = p.shown := by
  unfold shown? at h
  cases e : toPd d with
  | none => rw [e] at h; cases h
  | some p =>
    rw [e] at h
    simp only at h
    split at h
    · rename_i q
      cases h
      exact ⟨p, rfl, q.1, q.2.1, q.2.2, rfl⟩
    · cases h
def lRepr : List D → Option D
  | [d] => (shown? d).map .str
  | _ => none
theorem lw_repr : LW lRepr wRepr := ⟨fun θ ds ds' d P r h k => by
  unfold lRepr at h
  split at h
  · obtain ⟨a', rfl, q⟩ := rnl1 r
    simp only [Option.map_eq_some_iff] at h
    obtain ⟨y, h1, h2⟩ := h
    subst h2
    obtain ⟨p, e, h3, h4, h5, h6⟩ := shown_run h1
    rw [rn_eq q (toPd_noLoc e)]
    subst h6
    exact ⟨_, p, rfl, e, h3, h4, h5, k _ (.str _)⟩
  · cases h⟩
inductive BT where
  | int | bool | list | tuple | str | dict
def BT.nm : BT → String
  | .int => "int"
  | .bool => "bool"
  | .list => "list"
  | .tuple => "tuple"
  | .str => "str"
  | .dict => "dict"
def isT : D → BT → Option Bool
  | .non, _ => some false
  | .bl _, .int => some true
  | .bl _, .bool => some true
  | .bl _, _ => some false
  | .int _, .int => some true
  | .int _, _ => some false
  | .str _, .str => some true
  | .str _, _ => some false
  | .lst _, .list => some true
  | .lst _, _ => some false
  | .frz _, .list => some true
  | .frz _, _ => some false
  | .tup _, .tuple => some true
  | .tup _, _ => some false
  | .dic _ _, .dict => some true
  | .dic _ _, _ => some false
  | _, _ => none
theorem isT_kit {d : D} {t : BT} {b : Bool} (h : isT d t = some b) : ∃ n, tyD d = some n ∧ kitB n t.nm = some b := by
  cases d <;> cases t <;> simp only [isT] at h <;> first | (cases h; exact ⟨_, rfl, by decide +kernel⟩) | cases h
def isTs (d : D) : List BT → Option Bool
  | [] => some false
  | t :: ts => match isT d t with
    | some true => some true
    | some false => isTs d ts
    | none => none
theorem isTs_kit {d : D} {n : String} (hn : tyD d = some n) : ∀ {ts : List BT} {b : Bool}, isTs d ts = some b → kitL n (ts.map BT.nm) = some b
  | [], b, h => by cases h; rfl
  | t :: ts, b, h => by
    unfold isTs at h
    cases e : isT d t with
    | none => rw [e] at h; cases h
    | some c =>
      rw [e] at h
      obtain ⟨m, h1, h2⟩ := isT_kit e
      rw [hn] at h1
      cases h1
      show kitL n (t.nm :: ts.map BT.nm) = some b
      unfold kitL
      rw [h2]
      cases c with
      | true => exact h
      | false => exact isTs_kit hn h
theorem tyD_rn {θ : Th} {a b : D} (r : Rn θ a b) : tyD b = tyD a := by cases r <;> rfl
def fIsi (ts : List BT) (m : fE) : fE := fun ρ st => (m ρ st).bind fun d st1 => if (tyD d).isSome = true then optR ((isTs d ts).map .bl) st1 else .bad
theorem fisi_run {ts : List BT} {l : List String} (hl : l = ts.map BT.nm) {J : Jv} {f : fE} {ρ' : Rho} {O : OH} {P : D → OH → Prop} {R : Exn → OH → Prop} (h : dE J (fIsi ts f) ρ' O P R) : mIsi l (dE J f) ρ' O P R := by
  subst hl
  obtain ⟨θ, ρ, st, c, h⟩ := h
  refine ⟨θ, ρ, st, c, h.bind fun θ1 a a' st1 O1 s1 ra m1 h1 => ?_⟩
  by_cases q : (tyD a).isSome = true
  · rw [if_pos q] at h1
    cases e : tyD a with
    | none => rw [e] at q; cases q
    | some n =>
      cases e2 : isTs a ts with
      | none => rw [e2] at h1; exact h1.elim
      | some b =>
        rw [e2] at h1
        exact ⟨n, b, (tyD_rn ra).trans e, isTs_kit e e2, Aft.ok h1 (.bl b) m1⟩
  · rw [if_neg q] at h1
    exact h1.elim
section
variable {X : Cx} {Φ : OH → Hp → Hp → Prop} {W : WX} [FΦ : OFrm X.K X.mg Φ] {J : Jv}
theorem fe_isiT {ts : List BT} {es : List Expr} {tt : TA} {e : Expr} {f : fE} {p p2 pos : Pos} {k : Nat} (hg : Gl X "isinstance") (hm : X.mg "isinstance" = none) (h : FE X Φ W J e f) (ht : PA X es tt) (hl : ∀ (σ : Sig) (H : Hp) (Q : List V → Hp → Prop), Q ((ts.map BT.nm).map V.ty) H → tt σ H Q)
    (hz : (ts.map BT.nm).length ≤ sizeLine) (h1 : starEach [e, .Tuple es k p2] X.env = (false, eval e X.env) :: starEach [.Tuple es k p2] X.env := by rfl) (h2 : starEach [.Tuple es k p2] X.env = (false, eval (.Tuple es k p2) X.env) :: starEach [] X.env := by rfl) (hpl : (backTo pos (starEach [.Tuple es k p2] X.env)).any (·.1) = false := by rfl) :
    FE X Φ W J (.Call (.Name "isinstance" p) [e, .Tuple es k p2] [] pos) (fIsi ts f) := by
  obtain ⟨_, h⟩ := h
  exact fe_of (de_isiT hg hm h ht hl hz h1 h2 hpl) fun _ _ _ _ h => fisi_run rfl h
theorem fe_isi {t : BT} {T : String} {e : Expr} {f : fE} {p p2 pos : Pos} {x : Str} (hT' : T = t.nm) (hg : Gl X "isinstance") (hm : X.mg "isinstance" = none) (h : FE X Φ W J e f) (hT : PE X (.Name x p2) (tC (.ty T)))
    (h1 : starEach [e, .Name x p2] X.env = (false, eval e X.env) :: starEach [.Name x p2] X.env := by rfl) (h2 : starEach [.Name x p2] X.env = (false, eval (.Name x p2) X.env) :: starEach [] X.env := by rfl) (hpl : (backTo pos (starEach [.Name x p2] X.env)).any (·.1) = false := by rfl) :
    FE X Φ W J (.Call (.Name "isinstance" p) [e, .Name x p2] [] pos) (fIsi [t] f) := by
  obtain ⟨_, h⟩ := h
  exact fe_of (de_isi hg hm h hT h1 h2 hpl) fun _ _ _ _ h => fisi_run (by rw [hT']; rfl) h
/-- isinstance(x, C): C's own instances, the classes under it; a built-in type's value is none -/
def isC (C : List (Str × Bool)) : D → Option Bool
  | .ins n _ _ => C.lookup n
  | d => if (tyD d).isSome = true then some false else none
theorem isC_rn {C : List (Str × Bool)} {θ : Th} {a b : D} (r : Rn θ a b) : isC C b = isC C a := by cases r <;> rfl
def fIsC (C : List (Str × Bool)) (m : fE) : fE := fun ρ st => (m ρ st).bind fun d st1 => optR ((isC C d).map .bl) st1
theorem fe_isiC {c : Addr} {C : List (Str × Bool)} {e : Expr} {f : fE} {p p2 pos : Pos} {x : Str} (T : IsiC X.K X.mg c (isC C)) (hg : Gl X "isinstance") (hm : X.mg "isinstance" = none) (hgx : Gl X x) (hx : X.mg x = some (.ref c)) (h : FE X Φ W J e f) (hd : (x == ("__debug__" : Str)) = false := by decide)
    (h1 : starEach [e, .Name x p2] X.env = (false, eval e X.env) :: starEach [.Name x p2] X.env := by rfl) (h2 : starEach [.Name x p2] X.env = (false, eval (.Name x p2) X.env) :: starEach [] X.env := by rfl) (hpl : (backTo pos (starEach [.Name x p2] X.env)).any (·.1) = false := by rfl) :
    FE X Φ W J (.Call (.Name "isinstance" p) [e, .Name x p2] [] pos) (fIsC C f) := by
  obtain ⟨_, h⟩ := h
  refine fe_of (de_isiC T hg hm hgx hx h hd h1 h2 hpl) fun ρ' O P R ⟨θ, ρ, st, c, h⟩ => ⟨θ, ρ, st, c, h.bind fun θ1 a a' st1 O1 s1 ra m1 h1 => ?_⟩
  cases e : isC C a with
  | none => rw [e] at h1; exact h1.elim
  | some b =>
    rw [e] at h1
    exact ⟨b, (isC_rn ra).trans e, Aft.ok h1 (.bl b) m1⟩
/-! cuts -/
abbrev fO := Rho → St → Res (Option Int)
def relO : Th → Option Int → Option Int → Prop := fun _ a b => a = b
def dO (J : Jv) (f : fO) : MO OH := fun ρ' O P R => ∃ θ ρ st, Ct J θ ρ ρ' st O ∧ Aft relO θ (f ρ st) P R
def FO (X : Cx) (Φ : OH → Hp → Hp → Prop) (W : WX) (J : Jv) (e : Option Expr) (f : fO) : Prop := ∃ t, DO1 X Φ W e t (dO J f)
def fPn : fO := fun _ st => .ok none st
def fPs (m : fE) : fO := fun ρ st => (m ρ st).bind fun d st1 => match d with
  | .int i => .ok (some i) st1
  | _ => .bad
theorem fo_none : FO X Φ W J none fPn := ⟨tNoPart, po_none, fun σ ρ s G H Q P R hρ f0 hW ⟨θ, ρ0, st, c, h⟩ k => k none s G H (Aft.ok (a' := none) h rfl c.mt) (Same.refl _) f0⟩
theorem fo_some {e : Expr} {f : fE} (h : FE X Φ W J e f) : FO X Φ W J (some e) (fPs f) := by
  obtain ⟨_, h⟩ := h
  have d := do_some h
  refine ⟨_, d.po, fun σ ρ s G H Q P R hρ f0 hW ⟨θ, ρ0, st, c, h⟩ k => d.sem σ ρ s G H Q P R hρ f0 hW ⟨θ, ρ0, st, c, h.bind fun θ1 a a' st1 O1 s1 ra m1 h1 => ?_⟩ k⟩
  cases ra with
  | int i => exact ⟨i, rfl, Aft.ok h1 rfl m1⟩
  | _ => exact h1.elim
def oCut (a : D) (lo hi : Option Int) : Option D := match a with
  | .lst x => some (.lst (DL.cutD x lo hi))
  | .tup x => some (.tup (DL.cutD x lo hi))
  | .frz x => some (.lst (DL.cutD x lo hi))
  | _ => none
theorem cut_rn {θ : Th} {a b : List D} {lo hi : Option Int} (r : RnL θ a b) : RnL θ (DL.cutD a lo hi) (DL.cutD b lo hi) := by
  unfold DL.cutD
  rw [r.len]
  exact (r.dr _).tk _
def fSl (m : fE) (l h : fO) : fE := fun ρ st => (m ρ st).bind fun a st1 => (l ρ st1).bind fun i st2 => (h ρ st2).bind fun j st3 => optR (oCut a i j) st3
theorem fe_sl {e : Expr} {lo hi : Option Expr} {f : fE} {l h : fO} {pos p2 : Pos} (he : FE X Φ W J e f) (hl : FO X Φ W J lo l) (hh : FO X Φ W J hi h) : FE X Φ W J (.Subscript e (.Slice lo hi none p2) pos) (fSl f l h) := by
  obtain ⟨_, he⟩ := he
  obtain ⟨_, hl⟩ := hl
  obtain ⟨_, hh⟩ := hh
  refine fe_of (de_sl he hl hh) fun ρ' O P R ⟨θ, ρ, st, c, h⟩ => ⟨θ, ρ, st, c, h.bind fun θ1 a a' st1 O1 s1 ra m1 h1 => ?_⟩
  refine ⟨θ1, ρ, st1, c.step s1 m1, h1.bind fun θ2 i i' st2 O2 s2 ri m2 h2 => ?_⟩
  cases ri
  refine ⟨θ2, ρ, st2, c.step (s1.trans s2) m2, h2.bind fun θ3 j j' st3 O3 s3 rj m3 h3 => ?_⟩
  cases rj
  cases ra <;> try (exact h3.elim)
  · rename_i r
    exact Aft.ok h3 (.lst (cut_rn ((r.mono s2).mono s3))) m3
  · rename_i r
    exact Aft.ok h3 (.tup (cut_rn ((r.mono s2).mono s3))) m3
  · rename_i r
    exact Aft.ok h3 (.lst (cut_rn ((r.mono s2).mono s3))) m3
def fNeg (m : fE) : fE := fun ρ st => (m ρ st).bind fun x st1 => match x with
  | .int i => .ok (.int (-i)) st1
  | _ => .bad
theorem fe_neg {e : Expr} {f : fE} {pos : Pos} (h : FE X Φ W J e f) : FE X Φ W J (.UnaryOp .USub e pos) (fNeg f) := by
  obtain ⟨_, h⟩ := h
  refine fe_of (de_neg h) fun ρ' O P R ⟨θ, ρ, st, c, h⟩ => ⟨θ, ρ, st, c, h.bind fun θ1 a a' st1 O1 s1 ra m1 h1 => ?_⟩
  cases ra with
  | int i => exact ⟨i, rfl, Aft.ok h1 (.int _) m1⟩
  | _ => exact h1.elim
/-! texts -/
def fShow (m : fE) : fE := fun ρ st => (m ρ st).bind fun d st1 => optR ((shown? d).map .str) st1
theorem fe_show {e : Expr} {f : fE} {pos : Pos} (hk : ∃ mm, X.base.Ns sysModules mm) (hg : X.A.guards = some []) (hu : X.A.units + 64 < cLine) (h : FE X Φ W J e f) : FE X Φ W J (.FormattedValue e 114 none pos) (fShow f) := by
  obtain ⟨_, h⟩ := h
  refine fe_of (de_show hk hg hu h) fun ρ' O P R ⟨θ, ρ, st, c, h⟩ => ⟨θ, ρ, st, c, h.bind fun θ1 a a' st1 O1 s1 ra m1 h1 => ?_⟩
  cases e : shown? a with
  | none => rw [e] at h1; exact h1.elim
  | some y =>
    rw [e] at h1
    obtain ⟨p, e', h3, h4, h5, h6⟩ := shown_run e
    rw [rn_eq ra (toPd_noLoc e')]
    subst h6
    exact ⟨p, e', h3, h4, h5, Aft.ok h1 (.str _) m1⟩
def FJ (X : Cx) (Φ : OH → Hp → Hp → Prop) (W : WX) (J : Jv) (es : List Expr) (fs : List fE) : Prop := ∃ ts, DJ X Φ W es ts (fs.map (dE J))
theorem fj_nil : FJ X Φ W J [] [] := ⟨[], .nil⟩
theorem fj_cons {e : Expr} {es : List Expr} {f : fE} {fs : List fE} (h : FE X Φ W J e f) (h' : FJ X Φ W J es fs) : FJ X Φ W J (e :: es) (f :: fs) := by
  obtain ⟨_, h⟩ := h
  obtain ⟨_, h'⟩ := h'
  exact ⟨_, .cons h h'⟩
def fJs : List fE → Str → Rho → St → Res Str
  | [], acc, _, st => .ok acc st
  | m :: ms, acc, ρ, st => (m ρ st).bind fun d st1 => match d with
    | .str y => if (acc ++ y).length ≤ sizeLine then fJs ms (acc ++ y) ρ st1 else .bad
    | _ => .bad
theorem js_run {P : D → OH → Prop} {R : Exn → OH → Prop} {ρ ρ' : Rho} : ∀ {ms : List fE} {acc : Str} {θ : Th} {st : St} {O : OH}, Ct J θ ρ ρ' st O → Aft Rn θ ((fJs ms acc ρ st).bind fun y st1 => .ok (.str y) st1) P R → mJs (ms.map (dE J)) acc ρ' O (fun y s1 => P (.str y) s1) R
  | [], acc, θ, st, O, c, h => Aft.ok h (.str _) c.mt
  | m :: ms, acc, θ, st, O, c, h => by
    refine ⟨θ, ρ, st, c, ?_⟩
    unfold fJs at h
    cases q : m ρ st with
    | bad => rw [q] at h; exact h.elim
    | ex x st1 => rw [q] at h; exact h
    | ok d st1 =>
      rw [q] at h
      intro θ1 d' O1 s1 rd m1
      cases rd with
      | str y =>
        have h2 : Aft Rn θ ((if (acc ++ y).length ≤ sizeLine then fJs ms (acc ++ y) ρ st1 else .bad).bind fun y st1 => .ok (.str y) st1) P R := h
        by_cases z : (acc ++ y).length ≤ sizeLine
        · rw [if_pos z] at h2
          exact ⟨y, rfl, z, js_run (c.step s1 m1) (h2.sub s1)⟩
        · rw [if_neg z] at h2
          exact h2.elim
      | _ => exact h.elim
def fJoin (ms : List fE) : fE := fun ρ st => (fJs ms Str.empty ρ st).bind fun y st1 => .ok (.str y) st1
theorem fe_join {v1 v2 : Expr} {rest : List Expr} {fs : List fE} {pos : Pos} (h : FJ X Φ W J (v1 :: v2 :: rest) fs) : FE X Φ W J (.JoinedStr (v1 :: v2 :: rest) pos) (fJoin fs) := by
  obtain ⟨_, h⟩ := h
  exact fe_of (de_join h) fun ρ' O P R ⟨θ, ρ, st, c, h⟩ => js_run c h
/-! one's own lists -/
def fFrz (m : fE) : fE := fun ρ st => (m ρ st).bind fun x st1 => match x with
  | .loc i => match st1[i]? with
    | some (some y) => .ok y.tree (st1.set i none)
    | _ => .bad
  | _ => .bad
theorem fe_frz {e : Expr} {f : fE} (h : FE X Φ W J e f) : FE X Φ W J e (fFrz f) := by
  obtain ⟨_, h⟩ := h
  refine fe_of (de_frz h) fun ρ' O P R ⟨θ, ρ, st, c, h⟩ => ⟨θ, ρ, st, c, h.bind fun θ1 a a' st1 O1 s1 ra m1 h1 => ?_⟩
  cases ra with
  | @loc i p hp =>
    simp only at h1
    cases w : st1[i]? with
    | none => rw [w] at h1; exact h1.elim
    | some u =>
      cases u with
      | none => rw [w] at h1; exact h1.elim
      | some y =>
        rw [w] at h1
        obtain ⟨y', h4, h5⟩ := m1.at w hp
        exact ⟨p, y', rfl, h4, Aft.ok h1 h5.tree (m1.del w hp)⟩
  | _ => exact h1.elim
def fApp (m n : fE) : fE := fun ρ st => (m ρ st).bind fun x st1 => match x with
  | .loc i => match st1[i]? with
    | some (some (.lst _)) => (n ρ st1).bind fun y st2 => match st2[i]? with
      | some (some (.lst ds)) => if ds.length < sizeLine then .ok .non (st2.set i (some (.lst (ds ++ [y])))) else .bad
      | _ => .bad
    | _ => .bad
  | _ => .bad
theorem fe_app {o e : Expr} {f g : fE} {apos pos : Pos} (h : FE X Φ W J o f) (h' : FE X Φ W J e g)
    (h1 : attributeBase o "append" X.env (eval o X.env) = eval o X.env := by rfl)
    (h2 : ((backTo pos (starEach [e] X.env)).all (fun x => !x.1) && (backToKw pos (keywordEach [] X.env)).all (fun x => x.1.isSome) && decide ([e].length + ([] : List Keyword).length + (if ([] : List Keyword).isEmpty then 0 else 1) < 30)) = true := by rfl)
    (h3 : (apos.endLine == pos.line) = true := by rfl) (h4 : starEach [e] X.env = (false, eval e X.env) :: starEach [] X.env := by rfl) (h5 : (backTo pos (starEach [] X.env)).any (·.1) = false := by rfl) :
    FE X Φ W J (.Call (.Attribute o "append" apos) [e] [] pos) (fApp f g) := by
  obtain ⟨_, h⟩ := h
  obtain ⟨_, h'⟩ := h'
  refine fe_of (de_appD h h' h1 h2 h3 h4 h5) fun ρ' O P R ⟨θ, ρ, st, c, h⟩ => ⟨θ, ρ, st, c, h.bind fun θ1 a a' st1 O1 s1 ra m1 h1 => ?_⟩
  cases ra with
  | @loc i p hp =>
    simp only at h1
    cases w : st1[i]? with
    | none => rw [w] at h1; exact h1.elim
    | some u =>
      cases u with
      | none => rw [w] at h1; exact h1.elim
      | some y =>
        rw [w] at h1
        obtain ⟨y', h4, h5⟩ := m1.at w hp
        cases h5 with
        | lst r0 =>
          refine ⟨p, rfl, ⟨_, h4⟩, θ1, ρ, st1, c.step s1 m1, h1.bind fun θ2 b b' st2 O2 s2 rb m2 h2 => ?_⟩
          have hp2 := sub_at s2 hp
          cases w2 : st2[i]? with
          | none => rw [w2] at h2; exact h2.elim
          | some u2 =>
            cases u2 with
            | none => rw [w2] at h2; exact h2.elim
            | some y2 =>
              rw [w2] at h2
              obtain ⟨y2', h6, h7⟩ := m2.at w2 hp2
              cases h7 with
              | lst r2 =>
                simp only at h2
                split at h2
                · rename_i q
                  exact ⟨_, h6, by rw [← r2.len]; exact q, Aft.ok h2 .non (m2.put w2 hp2 (.lst (r2.app (.cons rb .nil))))⟩
                · exact h2.elim
              | _ => exact h2.elim
        | _ => exact h1.elim
  | _ => exact h1.elim
def fIxO (m n : fE) : fE := fun ρ st => (m ρ st).bind fun x st1 => (n ρ st1).bind fun y st2 => match x, y with
  | .loc a, .int i => match st2[a]? with
    | some (some (.lst ds)) => optR (atI ds i) st2
    | _ => .bad
  | _, _ => .bad
theorem fe_ixO {a b : Expr} {f g : fE} {pos : Pos} (ha : FE X Φ W J a f) (hb : FE X Φ W J b g) (hs : PlainIx b := by exact fun _ _ => rfl) : FE X Φ W J (.Subscript a b pos) (fIxO f g) := by
  obtain ⟨_, ha⟩ := ha
  obtain ⟨_, hb⟩ := hb
  refine fe_of (de_ixO ha hb hs) fun ρ' O P R ⟨θ, ρ, st, c, h⟩ => ⟨θ, ρ, st, c, h.bind fun θ1 a a' st1 O1 s1 ra m1 h1 => ?_⟩
  refine ⟨θ1, ρ, st1, c.step s1 m1, h1.bind fun θ2 b b' st2 O2 s2 rb m2 h2 => ?_⟩
  cases ra with
  | @loc k p hp =>
    cases rb with
    | int i =>
      have hp2 := sub_at s2 hp
      simp only at h2
      cases w : st2[k]? with
      | none => rw [w] at h2; exact h2.elim
      | some u =>
        cases u with
        | none => rw [w] at h2; exact h2.elim
        | some y =>
          rw [w] at h2
          obtain ⟨y', h4, h5⟩ := m2.at w hp2
          cases h5 with
          | @lst ds ds' r =>
            simp only at h2
            cases z : atI ds i with
            | none => rw [z] at h2; exact h2.elim
            | some d =>
              rw [z] at h2
              obtain ⟨e, h6, h7⟩ := at_rn r z
              exact ⟨p, i, _, e, rfl, rfl, h4, h6, Aft.ok h2 h7 m2⟩
          | _ => exact h2.elim
    | _ => exact h2.elim
  | _ => cases rb <;> exact h2.elim
def fGsub (m n : fE) : fG := fun d ρ st => match m ρ st with
  | .ok (.loc a) st1 => match n ρ st1 with
    | .ok (.int i) st2 => match st2[a]? with
      | some (some (.lst ds)) => match ixN ds.length i with
        | some j => some (ρ, st2.set a (some (.lst (ds.set j d))))
        | none => none
      | _ => none
    | _ => none
  | _ => none
theorem fg_subO {o i : Expr} {m n : fE} {pos : Pos} (ho : FE X Φ W0 J o m) (hi : FE X Φ W0 J i n)
    (ha : ∀ v, assign (.Subscript o i pos) X.env v = (do
      let ov ← holding [v] (eval o X.env)
      let iv ← holding [v, ov] (eval i X.env)
      standAt pos
      holding [v, ov, iv] (setItem ov iv v)
      release [v, ov, iv] []) := by intro _; rfl) : ∃ g, DG X Φ (.Subscript o i pos) g (dG J (fGsub m n)) [] := by
  obtain ⟨_, ho⟩ := ho
  obtain ⟨_, hi⟩ := hi
  refine ⟨_, dg_imp (dg_subO ho hi ha) fun d' ρ' O P ⟨θ, d, ρ, st, rd, c, h⟩ => ⟨θ, ρ, st, c, ?_⟩⟩
  unfold fGsub at h
  cases q : m ρ st with
  | bad => rw [q] at h; exact h.elim
  | ex x st1 => rw [q] at h; exact h.elim
  | ok x st1 =>
    rw [q] at h
    intro θ1 x' O1 s1 rx m1
    cases rx with
    | @loc a p hp =>
      simp only at h
      refine ⟨θ1, ρ, st1, c.step s1 m1, ?_⟩
      cases q2 : n ρ st1 with
      | bad => rw [q2] at h; exact h.elim
      | ex x st1 => rw [q2] at h; exact h.elim
      | ok y st2 =>
        rw [q2] at h
        intro θ2 y' O2 s2 ry m2
        cases ry with
        | int k =>
          simp only at h
          have hp2 := sub_at s2 hp
          cases w : st2[a]? with
          | none => rw [w] at h; exact h.elim
          | some u =>
            cases u with
            | none => rw [w] at h; exact h.elim
            | some y =>
              rw [w] at h
              obtain ⟨y', h4, h5⟩ := m2.at w hp2
              cases h5 with
              | @lst ds ds' r =>
                simp only at h
                cases z : ixN ds.length k with
                | none => rw [z] at h; exact h.elim
                | some j =>
                  rw [z] at h
                  have s12 := s1.trans s2
                  exact ⟨p, k, ds', j, rfl, rfl, h4, by rw [← r.len]; exact z, h θ2 ρ' _ s12 ((c.step s12 m2).step (List.prefix_refl _) (m2.put w hp2 (.lst (RnL.set (rd.mono s12) j r))))⟩
              | _ => exact h.elim
        | _ => exact h.elim
    | _ => exact h.elim
end
end FL

set_option Elab.async false
set_option linter.all false
set_option maxRecDepth 100000
set_option maxHeartbeats 1000000
namespace FL
open PySem PySem.Spec PyProof.Rows L2 DL
section
variable {P : Program} {w : World} {K : PySem.W.Frag} {mg : Str → Option Value} {base : Heap}
theorem fnF_mk {x qual : Str} {st : Stmt} {f : Addr} {fd : FuncData} {N ps : List Str} {k : Nat} (F : Fun K x qual st f fd) (Sc : FnScope N ps (defScope st)) {fs : fS}
    (hb : ∀ (Φ : OH → Hp → Hp → Prop) (cdv : Value) (A : Around) (outer : List Env) (s : Shared) (H : Hp) (E : XK), OFrm (cxOf (L2.CX P w) P w K mg base N qual (defScope st) f cdv A outer s H E).K (cxOf (L2.CX P w) P w K mg base N qual (defScope st) f cdv A outer s H E).mg Φ → Rm k (cxOf (L2.CX P w) P w K mg base N qual (defScope st) f cdv A outer s H E) →
      FSs (cxOf (L2.CX P w) P w K mg base N qual (defScope st) f cdv A outer s H E) Φ (fun cls d _ H' => E cls d H') none (defBody st) fs) : FnG P w K mg base (k + 1) f fd ps (gF (fBody fs (N.length - ps.length))) :=
  by
  obtain ⟨oc, od, kV, doc, pm, an, cdv, ct, osl, rfl, lk, hcd⟩ := F.ex
  refine fnS_of lk hcd Sc (fun vs H Q E h => spO_len h) fun A outer s H vs Q E hr hgd hsp => ?_
  obtain ⟨Φ, iΦ, G, O, ds, Pd, R, f0, r, hl, hgs, hP, hR⟩ := hsp
  obtain ⟨ts, d⟩ := hb Φ cdv A outer s H E iΦ ⟨hr, hgd⟩
  refine ⟨ts, d.pss, ?_⟩
  have r0 := start_rel (N := N) r
  rw [hl] at r0
  refine d.sem _ _ O G H _ _ r0 f0 (body_run hgs) ⟨fun σ ρ s G' H' ⟨O2, le, p⟩ e _ q => hP .non O2 .non G' H' p e (iΦ.less q le) .non, fun d s v G' H' ⟨O2, le, p⟩ e q r => hP d O2 v G' H' p e (iΦ.less q le) r, fun _ _ _ _ _ p => p.elim, fun _ _ _ _ _ p => p.elim,
    fun x σ ρ s G' H' cls d ⟨O2, le, p⟩ e _ q z => hR x O2 G' H' cls d p e (iΦ.less q le) z⟩
theorem mt_nil : Mt [] [] (fun _ => none) := ⟨rfl, fun i x h => by simp at h, fun i j x y a h => by simp at h⟩
theorem lawF_mk {x qual : Str} {st : Stmt} {f : Addr} {fd : FuncData} {N : List Str} {p : Str} {k : Nat} (F : Fun K x qual st f fd) (Sc : FnScope N [p] (defScope st)) {fs : fS}
    (hb : ∀ (cdv : Value) (A : Around) (outer : List Env) (s : Shared) (H : Hp) (E : XK), OFrm (cxOf (L2.CX P w) P w K mg base N qual (defScope st) f cdv A outer s H E).K (cxOf (L2.CX P w) P w K mg base N qual (defScope st) f cdv A outer s H E).mg (Phi K mg) → Rm k (cxOf (L2.CX P w) P w K mg base N qual (defScope st) f cdv A outer s H E) →
      FSs (cxOf (L2.CX P w) P w K mg base N qual (defScope st) f cdv A outer s H E) (Phi K mg) (fun cls d _ H' => E cls d H') none (defBody st) fs)
    (hm : ∀ ns : List Int, ns.length ≤ 63 → ∃ s1, fBody fs (N.length - 1) [.frz (ns.map D.int)] [] = .ok (.bl true) s1) : FnS P w K mg base (k + 1) f fd [p] (spLawD K) := by
  refine law_mk (m := dS none fs) F Sc hb fun ns hl => ?_
  have z := body_run (f := fs) (k := N.length - 1) (ds' := [.frz (ns.map D.int)]) (O := fun _ => none) (P := fun d _ => d = .bl true) (R := R0) ⟨[], _, [], rnl_self (a := [.frz (ns.map D.int)]) ?_, mt_nil, ?_⟩
  · obtain ⟨θ, ρ, st, c, h⟩ := z
    refine ⟨θ, ρ, st, c, ?_⟩
    cases q : fs ρ st with
    | nx _ _ =>
      rw [q] at h
      intro a b c d e
      obtain ⟨_, _, h⟩ := h a b c d e
      exact h
    | rt _ _ =>
      rw [q] at h
      intro a b c d e f
      obtain ⟨_, _, h⟩ := h a b c d e f
      exact h
    | ex _ _ _ =>
      rw [q] at h
      intro a b c d e f g
      obtain ⟨_, _, h⟩ := h a b c d e f g
      exact h
    | bk _ _ => rw [q] at h; exact h
    | ct _ _ => rw [q] at h; exact h
    | bad => rw [q] at h; exact h
  · simp only [noLocL, noLoc, noLoc_ints, Bool.and_self]
  · obtain ⟨s1, h⟩ := hm ns hl
    rw [h]
    intro θ1 d' O1 _ r _
    cases r
    rfl
end
end FL

set_option Elab.async false
set_option linter.all false
set_option maxRecDepth 100000
set_option maxHeartbeats 1000000
namespace FL
open PySem PySem.Spec PyProof.Rows L2 DL
section
variable {X : Cx} {Φ : OH → Hp → Hp → Prop} {W : WX} [FΦ : OFrm X.K X.mg Φ] {J : Jv}
/-! what is never reached -/
/-! a * b of two instances of one class -/
def opIK (C : Str) (F : fF) (st : St) : D → D → Res D
  | .ins C1 ns ds, .ins C2 ms es => if C1 = C ∧ C2 = C then F [.ins C1 ns ds, .ins C2 ms es] st else .bad
  | _, _ => .bad
def fOpI (C : Str) (F : fF) (fa fb : fE) : fE := fun ρ st => (fa ρ st).bind fun a st1 => (fb ρ st1).bind fun b st2 => opIK C F st2 a b
/-! C() -/
def fMake0 (C : Str) (F : fF) (k : Nat) (dd : List D) : fE := fun _ st => if dd.length + 1 = k then mkEnd st.length (F (.loc st.length :: dd) (st ++ [some (.ins C [] [])])) else .bad
end
/-! defs with defaults -/
section
variable {P : Program} {w : World} {K : PySem.W.Frag} {mg : Str → Option Value} {base : Heap}
end
/-! more of built-ins -/
section
variable {X : Cx}
def wListF : WL := fun ds P => (∃ x, ds = [.lst x] ∧ P (.lst x)) ∨ (∃ x, ds = [.tup x] ∧ P (.lst x)) ∨ ∃ x, ds = [.frz x] ∧ P (.lst x)
theorem f_listF : Fn1 X (.type "list") (fun xs H Q => ∃ p ys, xs = [.ref p] ∧ (SqL X.K H p ys ∨ SqT X.K H p ys) ∧ ∀ l, H l = none → Q (.ref l) (upd H l (.lst ys))) wListF := by
  refine ⟨call_list_of, fun vs ds G H Q P r sm h k => ?_⟩
  have fin : ∀ {a : Addr} {ys : List V} {x : List D}, RpL X.K X.mg G ys x → P (.lst x) → ∀ l, H l = none → Q (.ref l) (upd H l (.lst ys)) := fun b h l nl => k _ _ _ _ h (.one nl) (.lst upd_same (b.mono (same_new (sm.free nl))))
  rcases h with ⟨x, ed, h⟩ | ⟨x, ed, h⟩ | ⟨x, ed, h⟩
  · subst ed
    obtain ⟨v, rfl, r1⟩ := rpl1 r
    cases r1 with
    | lst a b => exact ⟨_, _, rfl, .inl (SqL.of (sm _ _ a)), fin (a := 0) b h⟩
  · subst ed
    obtain ⟨v, rfl, r1⟩ := rpl1 r
    cases r1 with
    | tup a b => exact ⟨_, _, rfl, .inr (sqt_mono sm a), fin (a := 0) b h⟩
  · subst ed
    obtain ⟨v, rfl, r1⟩ := rpl1 r
    cases r1 with
    | frz a b => exact ⟨_, _, rfl, .inl (sql_mono sm a.sql), fin (a := 0) b h⟩
def lListF : List D → Option D
  | [.lst x] => some (.lst x)
  | [.tup x] => some (.lst x)
  | [.frz x] => some (.lst x)
  | _ => none
theorem lw_listF : LW lListF wListF := ⟨fun θ ds ds' d P r h k => by
  unfold lListF at h
  split at h
  · obtain ⟨a', rfl, q⟩ := rnl1 r
    cases q with | lst q => cases h; exact .inl ⟨_, rfl, k _ (.lst q)⟩
  · obtain ⟨a', rfl, q⟩ := rnl1 r
    cases q with | tup q => cases h; exact .inr (.inl ⟨_, rfl, k _ (.lst q)⟩)
  · obtain ⟨a', rfl, q⟩ := rnl1 r
    cases q with | frz q => cases h; exact .inr (.inr ⟨_, rfl, k _ (.lst q)⟩)
  · cases h⟩
end
section
variable {X : Cx} {Φ : OH → Hp → Hp → Prop} {W : WX} [FΦ : OFrm X.K X.mg Φ] {J : Jv}
/-! T.index(e), T a written tuple of texts -/
def idxS (ys : List Str) (z : Str) : Option Nat := match ys with
  | [] => none
  | y :: ys => if y = z then some 0 else (idxS ys z).map (· + 1)
theorem idxS_at : ∀ {ys : List Str} {z : Str} {j : Nat}, idxS ys z = some j → ys[j]? = some z ∧ ∀ m, m < j → ys[m]? ≠ some z
  | [], _, _, h => by cases h
  | y :: ys, z, j, h => by
    unfold idxS at h
    by_cases q : y = z
    · rw [if_pos q] at h
      cases h
      exact ⟨by rw [q]; rfl, fun m hm => absurd hm (Nat.not_lt_zero m)⟩
    · rw [if_neg q] at h
      simp only [Option.map_eq_some_iff] at h
      obtain ⟨i, h1, h2⟩ := h
      subst h2
      obtain ⟨a, b⟩ := idxS_at h1
      refine ⟨a, fun m hm => ?_⟩
      cases m with
      | zero => exact fun e => q (Option.some.inj e)
      | succ m => exact b m (by omega)
def fTidx (ys : List Str) (f : fE) : fE := fun ρ st => (f ρ st).bind fun y st1 => match y with
  | .str z => match idxS ys z with
    | some j => .ok (.int (j : Nat)) st1
    | none => .bad
  | _ => .bad
theorem fe_tidx {x : Str} {ys : List Str} {tp : Addr} {ot : Obj} {e : Expr} {f : fE} {np apos pos : Pos} (hg : Gl X x) (hm : X.mg x = some (.ref tp)) (lk : X.K.lookup tp = some ot) (hc : ot.cls = .type "tuple") (hd : ot.dict = none) (hq : ∀ H, SqT X.K H tp (ys.map V.str)) (h : FE X Φ W J e f) (hdb : (x == ("__debug__" : Str)) = false := by decide)
    (h1 : attributeBase (.Name x np) "index" X.env (eval (.Name x np) X.env) = eval (.Name x np) X.env := by rfl)
    (h2 : ((backTo pos (starEach [e] X.env)).all (fun x => !x.1) && (backToKw pos (keywordEach [] X.env)).all (fun x => x.1.isSome) && decide ([e].length + ([] : List Keyword).length + (if ([] : List Keyword).isEmpty then 0 else 1) < 30)) = true := by rfl)
    (h3 : (apos.endLine == pos.line) = true := by rfl) (h4 : starEach [e] X.env = (false, eval e X.env) :: starEach [] X.env := by rfl) (h5 : (backTo pos (starEach [] X.env)).any (·.1) = false := by rfl) :
    FE X Φ W J (.Call (.Attribute (.Name x np) "index" apos) [e] [] pos) (fTidx ys f) := by
  obtain ⟨te, h⟩ := h
  have g : PE X (.Name x np) (tC (.ref tp)) := pe_glob hg hm rfl hdb
  refine ⟨_, pe_bm PySem.F.plainAttrs_tuple PySem.F.slot_tuple_index PySem.F.type_tuple_index mt_tup_index g (pa_cons h.pe pa_nil h4) h1 h2 h3 h4 h5, fun σ ρ' O G H Q P R hρ f0 hW ⟨θ, ρ, st, c, hh⟩ kk => ?_⟩
  refine ⟨.inr (.inl ⟨rfl, ot, lk, hc, hd⟩), h.sem σ ρ' O G H _ (fun y O1 => ∃ z j, y = .str z ∧ idxS ys z = some j ∧ P (.int (j : Nat)) O1) R hρ f0 hW ⟨θ, ρ, st, c, hh.bind fun θ1 a a' st1 O1 s1 ra m1 h1 => ?_⟩ fun y O1 v G1 H1 ⟨z, j, ey, hj, hp⟩ e1 f1 r1 => ?_⟩
  · cases ra with
    | str z =>
      simp only at h1
      cases q : idxS ys z with
      | none => rw [q] at h1; exact h1.elim
      | some j => rw [q] at h1; exact ⟨z, j, rfl, q, Aft.ok h1 (.int _) m1⟩
    | _ => exact h1.elim
  · subst ey
    cases r1
    obtain ⟨a, b⟩ := idxS_at hj
    exact ⟨tp, ys, z, j, rfl, rfl, hq _, a, b, kk _ _ _ G1 H1 hp e1 f1 (.int _)⟩
/-! T[e], T a written dict by texts -/
def fKix (tab : List (Str × D)) (f : fE) : fE := fun ρ st => (f ρ st).bind fun y st1 => match y with
  | .str z => optR (tab.lookup z) st1
  | _ => .bad
/-! chains of two comparisons -/
def fChain (o o' : D → D → Option D) (fa fb fc : fE) : fE := fun ρ st => (fa ρ st).bind fun a st1 => (fb ρ st1).bind fun b st2 => match o a b with
  | some (.bl true) => (fc ρ st2).bind fun c st3 => optR (o' b c) st3
  | some (.bl false) => .ok (.bl false) st2
  | _ => .bad
section
variable {a b c : Expr} {fa fb fc : fE} {r r' : R2} {w w' : W2} {o o' : D → D → Option D} {op op' : CmpOp} {pos : Pos}
end
end
end FL

set_option Elab.async false
set_option linter.all false
set_option maxRecDepth 100000
set_option maxHeartbeats 2000000
namespace FL
open PySem PySem.Spec PyProof.Rows L2 DL
/-! t[::-1] of a tuple -/
section
variable {prog : Program} {w : World} {A : Around} {E : Value → Shared → Prop} {s : Shared}
theorem back_adjust (n : Nat) : Builtin.Slice.sliceAdjust none none (-1) (n : Int) = ((n : Int) - 1, -1) := by
  unfold Builtin.Slice.sliceAdjust
  simp
theorem back_places (n : Nat) : Builtin.Slice.slicePlaces ((n : Int) - 1) (-1) (-1) = n := by
  unfold Builtin.Slice.slicePlaces
  have h1 : ¬ ((-1 : Int) > 0) := by omega
  rw [if_neg h1]
  by_cases h : (n : Int) - 1 > -1
  · rw [if_pos h, show (- -1 : Int) = 1 from rfl, Int.ediv_one]
    omega
  · rw [if_neg h]
    omega
theorem back_applied {sl : Addr} {va vb vc : Value} {n : Nat} {Q : Int × Int × Nat → Shared → Prop} (hs : s.heap.IsSliceOf sl va vb vc) (pa : IsPart va none) (pb : IsPart vb none) (pc : IsPart vc (some (-1))) (h : Q ((n : Int) - 1, -1, n) s) : wpAny (model prog w) A (Builtin.Slice.sliceApplied (.ref sl) (pure (n : Int))) Q E s := by
  obtain ⟨os, ho, _, hd⟩ := id hs
  unfold Builtin.Slice.sliceApplied Builtin.Slice.sliceFields
  refine wpAny_bind (wpAny_bind (wpAny_field ho hd (x := va) rfl (wpAny_bind (wpAny_field ho hd (x := vb) rfl (wpAny_bind (wpAny_field ho hd (x := vc) rfl (wpAny_pure ?_)))))))
  refine wpAny_bind (HT.slicePart_ pc ?_)
  show wpAny _ _ (if ((-1 : Int) == 0) = true then _ else _) _ _ s
  rw [if_neg (by decide)]
  refine wpAny_bind (HT.slicePart_ pa (wpAny_bind (HT.slicePart_ pb (wpAny_bind (wpAny_pure ?_)))))
  show wpAny _ _ (match Builtin.Slice.sliceAdjust none none (-1) (n : Int) with | (a, b) => pure (a, (-1 : Int), Builtin.Slice.slicePlaces a b (-1))) _ _ s
  rw [back_adjust]
  show wpAny _ _ (pure ((n : Int) - 1, (-1 : Int), Builtin.Slice.slicePlaces ((n : Int) - 1) (-1) (-1))) _ _ s
  rw [back_places]
  exact wpAny_pure h
theorem fm_congr {α β : Type} {f g : α → Option β} : ∀ {l : List α}, (∀ k ∈ l, f k = g k) → l.filterMap f = l.filterMap g
  | [], _ => rfl
  | a :: l, h => by
    rw [List.filterMap_cons, List.filterMap_cons, h a List.mem_cons_self, fm_congr fun k hk => h k (List.mem_cons_of_mem _ hk)]
theorem back_pick (xs : Array Value) : ((List.range xs.size).filterMap fun (k : Nat) => xs[(((xs.size : Int) - 1) + (k : Int) * (-1)).toNat]?).toArray = xs.toList.reverse.toArray := by
  have e : ∀ k ∈ List.range xs.size, xs[(((xs.size : Int) - 1) + (k : Int) * (-1)).toNat]? = xs[xs.size - 1 - k]? := fun k hk => by
    have := List.mem_range.mp hk
    congr 1
    omega
  rw [fm_congr e]
  have e2 : ((List.range xs.size).filterMap fun k => xs[xs.size - 1 - k]?) = ((List.range xs.size).map fun k => xs.size - 1 - k).filterMap (xs[·]?) := by rw [List.filterMap_map]; rfl
  rw [e2, PySem.W.krv_range, List.filterMap_reverse, PySem.W.krv_all]
theorem getItem_back {t sl : Addr} {items : Array Value} {va vb vc : Value} {Q : Value → Shared → Prop} (ht : IsTup s.heap t items) (hs : s.heap.IsSliceOf sl va vb vc) (pa : IsPart va none) (pb : IsPart vb none) (pc : IsPart vc (some (-1)))
    (h : Q (.ref s.heap.objs.size) { s with heap := s.heap.push { cls := .type "tuple", data := .seq items.toList.reverse.toArray } }) (hz : items.size ≤ sizeLine) : wpAny (model prog w) A (getItem (.ref t) (.ref sl)) Q E s := by
  have hk : sizeOk (.seq items.toList.reverse.toArray) := by
    show items.toList.reverse.toArray.size ≤ sizeLine
    simpa using hz
  obtain ⟨o, ho, hc, _⟩ := id hs
  have ty : s.TypeIs (.ref sl) "slice" := ⟨o, ho, hc⟩
  unfold getItem
  try with_reducible refine wpAny_holding ?_
  refine wpAny_bind (wpAny_sequenceKey ht.typeIs (by decide) ?_)
  refine wpAny_bind (wpAny_callSpecial?_slot (name := Str.ofString "__getitem__") ht.typeIs PyProof.Rows.slot_tuple_getitem (wpAny_call_entry PyProof.Rows.slot_tuple_getitem ht.typeIs entry_tuple_getitem ?_ (args_tuple_getitem _ _)))
  show wpAny _ _ (Builtin.Tuple.tupleItemsOf (.ref t) >>= _) _ _ s
  refine wpAny_bind (tupleItemsOf_ ht (wpAny_bind (wpAny_typeOf ty ?_)))
  rw [if_pos (by decide)]
  refine wpAny_bind (back_applied hs pa pb pc ?_)
  show wpAny _ _ (if (((items.size : Int) - 1 == 0) && ((-1 : Int) == 1) && (items.size == items.size)) = true then _ else _) _ _ s
  rw [if_neg (by simp), back_pick]
  first
    | exact wpAny_bind (m := Builtin.Tuple.tupleExact _) (wpAny_newObj_type (wpAny_pure ⟨_, rfl, wpAny_pure h⟩) hk)
    | exact wpAny_bind (m := Builtin.Tuple.tupleExact _) (wpAny_newObj_type (wpAny_bind (wpAny_pure (wpAny_pure ⟨_, rfl, wpAny_pure h⟩))) hk)
    | exact wpAny_bind (wpAny_bind (m := Builtin.Tuple.tupleExact _) (wpAny_newObj_type (wpAny_pure (wpAny_pure ⟨_, rfl, wpAny_pure h⟩)) hk))
    | exact wpAny_bind (wpAny_bind (m := Builtin.Tuple.tupleExact _) (wpAny_newObj_type (wpAny_pure ⟨_, rfl, wpAny_pure h⟩) hk))
end
def tBack (K : PySem.W.Frag) (te : TE) : TE := fun σ H Q => te σ H fun x H1 => ∃ a xs, x = .ref a ∧ ((SqL K H1 a xs ∧ ∀ p, H1 p = none → Q (.ref p) (upd H1 p (.lst xs.reverse))) ∨ (SqT K H1 a xs ∧ ∀ p, H1 p = none → Q (.ref p) (upd H1 p (.tup xs.reverse))))
section
variable {X : Cx} {Φ : OH → Hp → Hp → Prop} {W : WX} [FΦ : OFrm X.K X.mg Φ] {J : Jv}
theorem pe_back {e : Expr} {te : TE} {k : Nat} {p1 p2 p3 pos : Pos} (he : PE X e te) : PE X (.Subscript e (.Slice none none (some (.UnaryOp .USub (.Constant (.int 1) k p1) p2)) p3) pos) (tBack X.K te) := by
  refine ⟨fun pins s σ H Q I h => ?_⟩
  refine Subscript_ (thn (he.run pins s σ H _ I h) fun v s1 ⟨x, H1, I1, r1, a, xs, ex, q⟩ => ?_)
  subst ex
  cases r1
  have step : PO X (some (.UnaryOp .USub (.Constant (.int 1) k p1) p2)) (tPart (tUn (rU fun i => .int (-i)) (tC (.int 1)))) := po_some (pe_un un_neg pe_int)
  refine wpAny_Slice (thn (po_none.run pins s1 σ H1 (fun o Hx => o = none ∧ Hx = H1) I1 ⟨rfl, rfl⟩) fun va s2 ⟨l, H2, I2, pa, el, e2⟩ => ?_)
  subst el e2
  refine thn (po_none.run pins s2 σ H2 (fun o Hx => o = none ∧ Hx = H2) I2 ⟨rfl, rfl⟩) fun vb s3 ⟨u, H3, I3, pb, eu, e3⟩ => ?_
  subst eu e3
  refine thn (step.run pins s3 σ H3 (fun o Hx => o = some (-1) ∧ Hx = H3) I3 ⟨1, rfl, -1, rfl, rfl, rfl⟩) fun vc s4 ⟨o, H4, I4, pc, eo, e4⟩ => ?_
  subst eo e4
  have I5 : Inv X pins σ H4 { s4 with heap := s4.heap.push { cls := .type "slice", data := .fields #[va, vb, vc] } } := I4.kept (t' := s4.toks) fun b ob z => Heap.get?_push_of_some _ z
  show wpAny (model X.prog X.w) X.A (subscriptTail e (.Slice none none (some (.UnaryOp .USub (.Constant (.int 1) k p1) p2)) p3) (.ref a) (.ref s4.heap.objs.size)) (EP X pins σ Q) X.xe { s4 with heap := s4.heap.push { cls := .type "slice", data := .fields #[va, vb, vc] } }
  rcases q with ⟨hx, q⟩ | ⟨hx, q⟩
  · obtain ⟨its, r, ht, hz⟩ := I5.list hx
    have hl := r.length
    refine tail_any (ops := [.ref a, .ref s4.heap.objs.size]) ht.isList.typeIs (PySem.slot_list_getitem.lookup) ?_ (by with_unfolding_all rfl)
    refine wpAny_getItem_list_slice ht.isList (Heap.IsSliceOf.new _ va vb vc) pa pb pc (by decide) ?_ (by rw [List.size_toArray]; omega)
    rw [PySem.W.krv_pick]
    refine ⟨.ref _, _, I5.laid (t' := s4.toks) (o := .lst xs.reverse) (fun b ob z => Heap.get?_push_of_some _ z) (Nat.le_refl _) ?_, rfl, q _ (I5.hok.fresh (Nat.le_refl _))⟩
    exact ⟨by rw [List.length_reverse]; exact hz, _, 0, r.reverse, Heap.get?_push_size _ rfl⟩
  · obtain ⟨its, r, ht, hz⟩ := I5.tuple hx
    have hl := r.length
    refine tail_any (ops := [.ref a, .ref s4.heap.objs.size]) ht.typeIs (PyProof.Rows.slot_tuple_getitem.lookup) ?_ (by with_unfolding_all rfl)
    refine getItem_back ht (Heap.IsSliceOf.new _ va vb vc) pa pb pc ?_ (by rw [List.size_toArray]; omega)
    refine ⟨.ref _, _, I5.laid (t' := s4.toks) (o := .tup xs.reverse) (fun b ob z => Heap.get?_push_of_some _ z) (Nat.le_refl _) ?_, rfl, q _ (I5.hok.fresh (Nat.le_refl _))⟩
    exact ⟨by rw [List.length_reverse]; exact hz, its.toArray.toList.reverse, by simpa using r.reverse, IsTup.new _ _⟩
def fBack (m : fE) : fE := fun ρ st => (m ρ st).bind fun x st1 => match x with
  | .lst ds => .ok (.lst ds.reverse) st1
  | .frz ds => .ok (.lst ds.reverse) st1
  | .tup ds => .ok (.tup ds.reverse) st1
  | _ => .bad
theorem fe_back {e : Expr} {f : fE} {k : Nat} {p1 p2 p3 pos : Pos} (h : FE X Φ W J e f) : FE X Φ W J (.Subscript e (.Slice none none (some (.UnaryOp .USub (.Constant (.int 1) k p1) p2)) p3) pos) (fBack f) := by
  obtain ⟨te, h⟩ := h
  refine ⟨_, pe_back h.pe, fun σ ρ' O G H Q P R hρ f0 hW ⟨θ, ρ, st, c, hh⟩ kk => ?_⟩
  refine h.sem σ ρ' O G H _ (fun x O1 => (∃ ds, (x = .lst ds ∨ x = .frz ds) ∧ P (.lst ds.reverse) O1) ∨ ∃ ds, x = .tup ds ∧ P (.tup ds.reverse) O1) R hρ f0 hW ⟨θ, ρ, st, c, hh.bind fun θ1 a a' st1 O1 s1 ra m1 h1 => ?_⟩ fun x O1 v G1 H1 hx e1 f1 r1 => ?_
  · cases ra <;> try (exact h1.elim)
    · rename_i r
      exact .inl ⟨_, .inl rfl, Aft.ok h1 (.lst r.rev) m1⟩
    · rename_i r
      exact .inr ⟨_, rfl, Aft.ok h1 (.tup r.rev) m1⟩
    · rename_i r
      exact .inl ⟨_, .inr rfl, Aft.ok h1 (.lst r.rev) m1⟩
  · have sm := Frm.same f1
    rcases hx with ⟨ds, ex | ex, p⟩ | ⟨ds, ex, p⟩ <;> subst ex
    · cases r1 with
      | lst h l => exact ⟨_, _, rfl, .inl ⟨SqL.of (sm _ _ h), fun z nz => kk _ O1 _ _ _ p (e1.trans (same_new (sm.free nz))) (Frm.ext f1 nz) (.lst upd_same (l.rev.mono (same_new (sm.free nz))))⟩⟩
    · cases r1 with
      | frz h l => exact ⟨_, _, rfl, .inl ⟨sql_mono sm h.sql, fun z nz => kk _ O1 _ _ _ p (e1.trans (same_new (sm.free nz))) (Frm.ext f1 nz) (.lst upd_same (l.rev.mono (same_new (sm.free nz))))⟩⟩
    · cases r1 with
      | tup h l => exact ⟨_, _, rfl, .inr ⟨sqt_mono sm h, fun z nz => kk _ O1 _ _ _ p (e1.trans (same_new (sm.free nz))) (Frm.ext f1 nz) (.tup (SqT.of upd_same) (l.rev.mono (same_new (sm.free nz))))⟩⟩
end
end FL

set_option Elab.async false
set_option linter.all false
set_option maxRecDepth 100000
set_option maxHeartbeats 4000000
namespace FL
open PySem PySem.Spec PyProof.Rows L2 DL
/-! enumerate(e), e a list or a tuple -/
theorem meets_enumB {v : Value} {o : Obj} {H : Heap → Prop} (B : Begins v o H) :
    Meets (Builtin.«enumerate.__new__» ⟨[.type "enumerate", v], []⟩) (fun _ R s => H s.heap ∧
      R (.ok (.ret (.ref (s.heap.push o).objs.size))) { s with heap := (s.heap.push o).push { cls := .type "enumerate", data := .fields #[.none, .bool false, .ref s.heap.objs.size, rawInt 0, .none, .none] } }) :=
  .of_wp fun prog w A R s h => by
    obtain ⟨hp, g, d, tk, os⟩ := s; obtain ⟨hv, h⟩ := h
    have hsub := sub_enumerate
    have it : ∀ {A' : Around} {E : Value → Shared → Prop} {Q : Value → Shared → Prop}, Q (.ref hp.objs.size) ⟨hp.push o, g, d, tk, os⟩ → wpAny (model prog w) A' (pyIter v) Q E ⟨hp, g, d, tk, os⟩ := fun q => B.iter prog w _ _ ⟨hp, g, d, tk, os⟩ _ hv q
    wp_walk using it
    refine wpAny_stack_any fun sk => wpAny_pure ?_
    split
    · rename_i c _ _ _ _ _
      cases (c == Value.type "enumerate") <;> (wp_walk using it; exact ⟨_, rfl, h⟩)
    · wp_walk using it
      exact ⟨_, rfl, h⟩
section
variable {prog : Program} {w : World} {A : Around} {E : Value → Shared → Prop} {s : Shared}
theorem enum_beginsB {v : Value} {o : Obj} {H : Heap → Prop} {Q : Value → Shared → Prop} (B : Begins v o H) (hv : H s.heap)
    (h : ∀ h', IsEnum h' (s.heap.objs.size + 1) s.heap.objs.size 0 .none → h'.get? s.heap.objs.size = some o → (∀ b o, s.heap.get? b = some o → h'.get? b = some o) → Q (.ref (s.heap.objs.size + 1)) { s with heap := h' }) :
    wpAny (model prog w) A (call (.type "enumerate") [v]) Q E s := by
  refine callType_new F.called_enumerate (by decide) (F.typeCall_enumerate_1 _) (F.newCall_enumerate_1 _) (fun obj => F.args_object_init_2 obj _) F.entry_enumerate_new (meets_enumB B) ⟨hv, ?_⟩
  have hz : (s.heap.push o).objs.size = s.heap.objs.size + 1 := Heap.size_push ..
  show _ ∧ _
  rw [hz]
  have he : IsEnum ((s.heap.push o).push { cls := .type "enumerate", data := .fields #[.none, .bool false, .ref s.heap.objs.size, rawInt 0, .none, .none] }) (s.heap.objs.size + 1) s.heap.objs.size 0 .none := by
    have q := Heap.get?_push_size (s.heap.push o) (o := { cls := .type "enumerate", data := .fields #[.none, .bool false, .ref s.heap.objs.size, rawInt 0, .none, .none] }) rfl
    rwa [hz] at q
  exact ⟨⟨_, he, rfl⟩, h _ he (Heap.get?_push_of_some _ (Heap.get?_push_size _ B.free)) fun b o x => Heap.get?_push_of_some _ (Heap.get?_push_of_some _ x)⟩
end
/-- the tuple at a, its items with their places in new pairs -/
def Itet (K : PySem.W.Frag) (a : Addr) : It :=
  ⟨fun i H => ∃ (xs : List V) (x : V), SqT K H a xs ∧ xs[i]? = some x, fun i H v H' => ∃ T x, v = .ref T ∧ H T = none ∧ H' = upd H T (.tup [.int (i : Nat), x]) ∧ ∀ xs, SqT K H a xs → xs[i]? = some x, fun i H => ∃ xs : List V, SqT K H a xs ∧ xs.length = i⟩
theorem turn_enumT {P : Program} {w : World} {K : PySem.W.Frag} {elts : List Expr} {kk : Nat} {tpos : Pos} (a e it : Addr) :
    Turn P w K (.Tuple elts kk tpos) (Itet K a) [e, it] e (fun i h => (∃ old, IsEnum h e it ((i : Nat) : Int) old) ∧ h.IsTupleIter it a i ∧ e ≠ it) where
  mem := List.mem_cons_self
  obj := fun i h ⟨⟨old, he⟩, ⟨o, ho, _, hd⟩, _⟩ b hb => by
    rcases List.mem_cons.mp hb with rfl | hb
    · exact ⟨_, he, fun v q => nomatch q⟩
    · rw [List.mem_singleton.mp hb]
      exact ⟨o, ho, fun v q => by rw [hd] at q; cases q⟩
  keep := fun i h h' ⟨⟨old, he⟩, hi, hne⟩ k => ⟨⟨old, k e List.mem_cons_self _ he⟩, hi.at fun o q => k it (List.mem_cons_of_mem _ List.mem_cons_self) o q, hne⟩
  item := by
    intro X hP hw hK hc i pins s σ H E I hf ⟨⟨old, he⟩, hit, hne⟩ ⟨xs, x, hq, hx⟩
    subst hP hw hK
    obtain ⟨its, rv, p, hz⟩ := I.tuple hq
    obtain ⟨u, hu, ru⟩ := rv.get hx
    have lte : e < s.heap.objs.size := Heap.lt_size he
    have lti : it < s.heap.objs.size := by obtain ⟨_, q, _⟩ := hit; exact Heap.lt_size q
    have nea : e ≠ a := fun z => by
      obtain ⟨o, ho, hcl, _⟩ := p
      rw [← z, he] at ho
      cases ho
      injection hcl with q
      exact absurd q (by decide)
    have nia : a ≠ it := fun z => by
      obtain ⟨o, ho, hcl, _⟩ := p
      obtain ⟨o2, ho2, hcl2, _⟩ := hit
      rw [z, ho2] at ho
      cases ho
      rw [hcl2] at hcl
      injection hcl with q
      exact absurd q (by decide)
    have D := Draws.tuple (prog := X.prog) (w := X.w) (A := X.A.in1) (I.ok.hd hc) it a nia its.toArray
    have hi : i < its.toArray.size := by
      have q := (List.getElem?_eq_some_iff.mp hu).1
      simpa using q
    refine wpAny_pyNext_enum_itemC (c := (i : Int)) D he ⟨hit, p⟩ hi hne (fun q => by simp at q; exact q.elim hne nea) fun y h' tk hy ho hs' hT hsz hk => ?_
    have ey : y = u := by
      have q : its[i]? = some y := by simpa using hy
      rw [hu] at q
      exact (Option.some.inj q).symm
    subst ey
    refine ⟨_, rfl, wpAny_letOwnedTupleGo_enum (s := { s with heap := h', toks := tk + 1 }) ho fun h2 he2 sb => ?_⟩
    have hT2 : h2.get? s.heap.objs.size = some { cls := .type "tuple", data := .seq #[.int i tk, y] } := (sb.2 _ (Nat.ne_of_gt lte)).trans hT
    have new : ObjOk X.prog X.w (upd H s.heap.objs.size (.tup [.int (i : Nat), x])) h2 s.heap.objs.size (.tup [.int (i : Nat), x]) :=
      ⟨by show 2 ≤ sizeLine; decide, [.int i tk, y], .cons ⟨_, rfl⟩ (.cons ru .nil), ⟨_, hT2, rfl, _, rfl⟩⟩
    have kp : ∀ b o, b ∉ [e, it] → s.heap.get? b = some o → h2.get? b = some o := fun b o hb q => by
      have n1 : b ≠ e := fun z => hb (by rw [z]; exact List.mem_cons_self)
      have n2 : b ≠ it := fun z => hb (by rw [z]; exact List.mem_cons_of_mem _ List.mem_cons_self)
      exact (sb.2 b n1).trans (hk b o n1 n2 q)
    have I1 : Inv X pins σ (upd H s.heap.objs.size (.tup [.int (i : Nat), x])) { s with heap := h2, toks := tk + 1 } := I.turnedNew (ch := [e, it]) kp hf (Nat.le_refl _) new
    refine ⟨.ref s.heap.objs.size, _, I1, rfl, ⟨_, x, rfl, I.hok.fresh (Nat.le_refl _), rfl, fun ys hy2 => by rw [I.tuple_inj hy2 hq]; exact hx⟩, ⟨⟨y, ?_⟩, hs'.1.at fun o q => (sb.2 it (Ne.symm hne)).trans q, hne⟩, fun b hb => ?_⟩
    · have e1 : ((i + 1 : Nat) : Int) = (i : Int) + 1 := by omega
      rw [e1]
      exact he2
    · have lb : b < s.heap.objs.size := by
        rcases List.mem_cons.mp hb with z | z
        · rw [z]; exact lte
        · rw [List.mem_singleton.mp z]; exact lti
      rw [upd_ne (Nat.ne_of_lt lb)]
      exact (hf b hb).1
  done := by
    intro X hP hw hK hc i pins s σ H E I hf ⟨⟨old, he⟩, hit, hne⟩ ⟨xs, hq, hx⟩
    subst hP hw hK hx
    obtain ⟨its, rv, p, hz⟩ := I.tuple hq
    obtain ⟨f0, f1, f2, f3, f4, f5⟩ := hf it (List.mem_cons_of_mem _ List.mem_cons_self)
    have nia : a ≠ it := fun z => by
      obtain ⟨o, ho, hcl, _⟩ := p
      obtain ⟨o2, ho2, hcl2, _⟩ := hit
      rw [z, ho2] at ho
      cases ho
      rw [hcl2] at hcl
      injection hcl with q
      exact absurd q (by decide)
    have D := Draws.tuple (prog := X.prog) (w := X.w) (A := X.A.in1) (I.ok.hd hc) it a nia its.toArray
    have hl : xs.length = its.toArray.size := by rw [List.size_toArray]; exact rv.length
    rw [hl] at hit he
    exact wpAny_pyNext_enum_endD D he ⟨hit, p⟩ fun h' eb => ⟨rfl, I.turned (t' := s.toks) (fun b o hb q => eb b o hb q) f0 f1 f3 f4 f5⟩
  self := fun A i s Q E ⟨⟨_, he⟩, _⟩ h => wpAny_pyIter_enum he h
def iEnA (K : PySem.W.Frag) (ta : TA) : TI := fun σ H R => ta σ H fun vs H1 => ∃ a, vs = [.ref a] ∧ ((∃ xs, SqL K H1 a xs ∧ R (Ite K a) H1) ∨ ∃ xs, SqT K H1 a xs ∧ R (Itet K a) H1)
theorem pi_enumA {X : Cx} {e : Expr} {ta : TA} {p pos tpos : Pos} {elts : List Expr} {kk : Nat} (hg : Gl X "enumerate") (hm : X.mg "enumerate" = none) (ha : PA X [e] ta) (hs : starEach [e] X.env = [(false, eval e X.env)] := by rfl) :
    PI X (.Tuple elts kk tpos) (.Call (.Name "enumerate" p) [e] [] pos) (iEnA X.K ta) := by
  refine ⟨fun pins s σ H R I h => ?_⟩
  refine Call_ (ld_blt I hg hm boot_enumerate (PyProof.Rows.callWith_type1 (thn (ha.run pos pins s σ H _ I h) fun us s1 ⟨vs, H1, I1, r1, a, ex, q⟩ => ?_) hs rfl))
  subst ex
  cases r1 with
  | cons r rr =>
    cases rr
    cases r
    have fp : ∀ b ∈ [s1.heap.objs.size + 1, s1.heap.objs.size], FpOk X pins H1 b := fun b hb => by
      have lb : s1.heap.objs.size ≤ b := by
        rcases List.mem_cons.mp hb with z | z
        · rw [z]; exact Nat.le_succ _
        · rw [List.mem_singleton.mp z]; exact Nat.le_refl _
      exact I1.fpOk lb (I1.hok.fresh lb)
    rcases q with ⟨xs, hq, q⟩ | ⟨xs, hq, q⟩
    · obtain ⟨its, rv, pl, hz⟩ := I1.list hq
      refine call_enumerate_list pl.isList fun h2 he hit _ kp => wpAny_pyIter_enum he ?_
      exact ⟨_, _, _, _, H1, rfl, I1.kept (t' := s1.toks) kp, turn_enum a (s1.heap.objs.size + 1) s1.heap.objs.size, ⟨⟨.none, he⟩, hit, Nat.succ_ne_self _⟩, fp, q⟩
    · obtain ⟨its, rv, pt, hz⟩ := I1.tuple hq
      refine enum_beginsB (begins_tuple a its.toArray) pt fun h2 he ho kp => wpAny_pyIter_enum he ?_
      exact ⟨_, _, _, _, H1, rfl, I1.kept (t' := s1.toks) kp, turn_enumT a (s1.heap.objs.size + 1) s1.heap.objs.size, ⟨⟨.none, he⟩, ⟨_, ho, rfl, rfl⟩, Nat.succ_ne_self _⟩, fp, q⟩
section
variable {K : PySem.W.Frag} {mg : Str → Option Value} {G : Hp}
/-- the trees with their places -/
def enumD (k : Nat) : List D → List D
  | [] => []
  | d :: ds => .tup [.int (k : Nat), d] :: enumD (k + 1) ds
theorem enumD_len : ∀ {ds : List D} {k : Nat}, (enumD k ds).length = ds.length
  | [], _ => rfl
  | d :: ds, k => by rw [enumD, List.length_cons, enumD_len, List.length_cons]
theorem enumD_at : ∀ {ds : List D} {k i : Nat} {d : D}, ds[i]? = some d → (enumD k ds)[i]? = some (.tup [.int ((k + i : Nat) : Nat), d])
  | [], _, _, _, h => by simp at h
  | e :: ds, k, 0, d, h => by
    simp at h
    subst h
    rfl
  | e :: ds, k, i + 1, d, h => by
    have q := enumD_at (k := k + 1) (i := i) (d := d) (by simpa using h)
    rw [enumD, List.getElem?_cons_succ, q]
    congr 5
    omega
theorem y_enumL {a : Addr} {vs : List V} {ds : List D} (h : SqL K G a vs) (r : RpL K mg G vs ds) : Yields K mg (Ite K a) G (enumD 0 ds) := fun G' H e e' => by
  have hq : SqL K H a vs := sql_mono (e.trans e') h
  have hl := r.len
  rw [enumD_len]
  refine ⟨fun i hi => ⟨vs, vs[i]'(by omega), hq, by simp [hl, hi]⟩, ⟨vs, hq, by omega⟩, fun i x H' hi ⟨T, y, ex, nT, eH, hy⟩ => ?_⟩
  subst ex eH
  obtain ⟨d, h1, h2⟩ := r.atV (hy vs hq)
  have sg := same_new (o := HO.tup [.int (i : Nat), y]) (e'.free nT)
  refine ⟨_, .one nT, _, enumD_at h1, .tup (SqT.of upd_same) ?_⟩
  rw [Nat.zero_add]
  exact .cons (.int _) (.cons ((h2.mono e).mono sg) .nil)
theorem y_enumT {a : Addr} {vs : List V} {ds : List D} (h : SqT K G a vs) (r : RpL K mg G vs ds) : Yields K mg (Itet K a) G (enumD 0 ds) := fun G' H e e' => by
  have hq : SqT K H a vs := sqt_mono (e.trans e') h
  have hl := r.len
  rw [enumD_len]
  refine ⟨fun i hi => ⟨vs, vs[i]'(by omega), hq, by simp [hl, hi]⟩, ⟨vs, hq, hl⟩, fun i x H' hi ⟨T, y, ex, nT, eH, hy⟩ => ?_⟩
  subst ex eH
  obtain ⟨d, h1, h2⟩ := r.atV (hy vs hq)
  have sg := same_new (o := HO.tup [.int (i : Nat), y]) (e'.free nT)
  refine ⟨_, .one nT, _, enumD_at h1, .tup (SqT.of upd_same) ?_⟩
  rw [Nat.zero_add]
  exact .cons (.int _) (.cons ((h2.mono e).mono sg) .nil)
end
theorem enumD_rn {θ : Th} : ∀ {a b : List D} {k : Nat}, RnL θ a b → RnL θ (enumD k a) (enumD k b)
  | _, _, _, .nil => .nil
  | _, _, _, .cons r rl => .cons (.tup (.cons (.int _) (.cons r .nil))) (enumD_rn rl)
def iEn (f : fE) : fA := fun ρ st => (f ρ st).bind fun d st1 => match seqOf d with
  | some ds => .ok (enumD 0 ds) st1
  | none => .bad
section
variable {X : Cx} {Φ : OH → Hp → Hp → Prop} {W : WX} [FΦ : OFrm X.K X.mg Φ] {J : Jv}
theorem fi_enum {e : Expr} {f : fE} {p pos tpos : Pos} {elts : List Expr} {kk : Nat} (hg : Gl X "enumerate") (hm : X.mg "enumerate" = none) (h : FE X Φ W J e f) (hs : starEach [e] X.env = [(false, eval e X.env)] := by rfl) :
    FI X Φ W J (.Tuple elts kk tpos) (.Call (.Name "enumerate" p) [e] [] pos) (iEn f) := by
  obtain ⟨te, h⟩ := h
  refine ⟨_, pi_enumA hg hm (pa_cons h.pe pa_nil (by exact hs)) hs, fun σ ρ' O G H Q P R hρ f0 hW ⟨θ, ρ, st, c, hh⟩ kk => ?_⟩
  refine h.sem σ ρ' O G H _ (fun x O1 => ∃ ds, seqOf x = some ds ∧ P (enumD 0 ds) O1) R hρ f0 hW ⟨θ, ρ, st, c, hh.bind fun θ1 a a' st1 O1 s1 ra m1 h1 => ?_⟩ fun x O1 v G1 H1 ⟨ds, hx, p⟩ e1 f1 r1 => ?_
  · cases ra <;> try (exact h1.elim)
    all_goals
      rename_i r
      exact ⟨_, rfl, Aft.ok h1 (enumD_rn r) m1⟩
  · have sm := Frm.same f1
    show ∃ a, _
    cases r1 with
    | lst h l =>
      cases hx
      exact ⟨_, rfl, .inl ⟨_, SqL.of (sm _ _ h), kk _ O1 _ G1 H1 p e1 f1 (y_enumL (SqL.of h) l)⟩⟩
    | tup h l =>
      cases hx
      exact ⟨_, rfl, .inr ⟨_, sqt_mono sm h, kk _ O1 _ G1 H1 p e1 f1 (y_enumT h l)⟩⟩
    | frz h l =>
      cases hx
      exact ⟨_, rfl, .inl ⟨_, sql_mono sm h.sql, kk _ O1 _ G1 H1 p e1 f1 (y_enumL h.sql l)⟩⟩
    | _ => cases hx
end
end FL

set_option Elab.async false
set_option linter.all false
set_option maxRecDepth 100000
set_option maxHeartbeats 4000000
namespace FL
open PySem PySem.Spec PyProof.Rows L2 DL
/-! t * 1 of a tuple: the tuple itself -/
theorem tuple_mul_one (l : Addr) (items : Array Value) (n : Nat) (dd : Option Addr) (sl : Array (Option Value)) (u : Tok) :
    Meets (Builtin.«tuple.__mul__» ⟨[.ref l, .int 1 u], []⟩) (fun _ R s => s.heap.get? l = some { cls := .type "tuple", dict := dd, data := .seq items n, slots := sl } ∧ R (.ok (.ret (Value.ref l))) s) :=
  .of_wp fun prog w A R s h => by
    obtain ⟨hp, g, d, tk, os⟩ := s
    obtain ⟨hl, h⟩ := h
    have f1 := AutoSeq1.idx_int
    wp_walk using wpAny_loadPart' hl
    exact ⟨_, rfl, h⟩
def rRep1 (K : PySem.W.Frag) : R2 := fun x y H Q => ∃ l xs, x = .ref l ∧ y = .int 1 ∧ SqT K H l xs ∧ Q (.ref l) H
section
variable {X : Cx}
theorem op_rep1 : OpR X (binaryOp .Mult) (rRep1 X.K) := by
  intro pins s σ H x y v u Q I rx ry ⟨l, xs, ex, ey, hT, q⟩
  subst ex ey
  cases rx
  obtain ⟨t, rfl⟩ := ry
  obtain ⟨its, r, ⟨⟨cl, dd, dt, sl⟩, ho, hc, n, hd⟩, _⟩ := I.tuple hT
  simp only at hc hd
  subst hc hd
  exact wpAny_binaryOp_repeat_ref (T := "tuple") (U := "int") (by decide) ⟨_, ho, rfl⟩ (fun s' => typeIs_int s' 1 t) noFill_tuple_mul F.fills_int_mul F.slot_int_rmul repeat_tuple F.slot_int_index.lookup
    (call_meets F.slot_int_rmul (typeIs_int s 1 t) F.entry_int_rmul (F.args_int_rmul_2 _ _) (int_rmul_tuple 1 t l its.toArray n dd sl)
      ⟨ho, rfl, ⟨_, ho, rfl⟩, call_meets F.slot_tuple_mul ⟨_, ho, rfl⟩ F.entry_tuple_mul (F.args_tuple_mul_2 _ _) (tuple_mul_one l its.toArray n dd sl t) ⟨ho, ⟨.ref l, H, I, rfl, q⟩⟩⟩)
def wMul1 : W2 := fun a b P => wMul a b P ∨ ∃ x, a = .tup x ∧ b = .int 1 ∧ P (.tup x)
def rMulX (K : PySem.W.Frag) : R2 := fun x y H Q => rI CMul (fun i j => .int (i * j)) x y H Q ∨ rI CMulW (fun i j => .int (i * j)) x y H Q ∨ rRep x y H Q ∨ rRepT K x y H Q
theorem o_mul1 : Op2 X (binaryOp .Mult) (fun x y H Q => rMulX X.K x y H Q ∨ rRep1 X.K x y H Q) wMul1 := by
  refine ⟨o_mul.op.or op_rep1, fun x y a b G H Q P ra rb sm h k => ?_⟩
  rcases h with h | ⟨z, ea, eb, h⟩
  · exact .inl (o_mul.sem x y a b G H Q P ra rb sm h k)
  · subst ea eb
    cases rb
    have ra' := ra
    cases ra with
    | tup p q => exact .inr ⟨_, _, rfl, rfl, sqt_mono sm p, k _ _ G H h .refl ra'⟩
def oMul1 : D → D → Option D
  | .tup x, .int k => if k = 1 then some (.tup x) else oMul (.tup x) (.int k)
  | a, b => oMul a b
theorem ow_mul1 : OW oMul1 wMul1 := ⟨fun θ a b a' b' d P ra rb h k => by
  by_cases q : ∃ x, a = .tup x ∧ b = .int 1
  · obtain ⟨x, ea, eb⟩ := q
    subst ea eb
    cases ra with
    | tup r =>
      cases rb
      simp only [oMul1, if_true] at h
      cases h
      exact .inr ⟨_, rfl, rfl, k _ (.tup r)⟩
  · refine .inl (ow_mul.run θ a b a' b' d P ra rb ?_ k)
    revert h q
    cases a <;> cases b <;> first | exact fun q h => h | exact fun h q => h | skip
    rename_i x i
    intro h q
    simp only [oMul1] at h
    split at h
    · rename_i e
      exact absurd ⟨x, rfl, by rw [e]⟩ q
    · exact h⟩
end
section
variable {X : Cx} {Φ : OH → Hp → Hp → Prop} {W : WX} [FΦ : OFrm X.K X.mg Φ] {J : Jv}
/-! xs[i] += e of one's own list, ints -/
structure IpOk (X : Cx) (op : Operator) (g : Int → Int → Int) : Prop where
  ip : PIp X op (ipI g)
theorem ip_subO : IpOk X .Sub fun i j => i - j := ⟨ip_sub⟩
end
end FL

set_option Elab.async false
set_option linter.all false
set_option maxRecDepth 100000
set_option maxHeartbeats 1000000
namespace FL
open PySem PySem.Spec PyProof.Rows L2 DL
/-- a module's constant is this tree -/
def GlE (K : PySem.W.Frag) (mg : Str → Option Value) (x : Str) (d : D) : Prop := ∃ u v, mg x = some u ∧ L2.RelV v u ∧ (∀ G, Rp K mg G v d) ∧ noLoc d = true
section
variable {X : Cx} {Φ : OH → Hp → Hp → Prop} {W : WX} [FΦ : OFrm X.K X.mg Φ] {J : Jv}
theorem fe_globE {x : Str} {d : D} {pos : Pos} (hg : Gl X x) (h : GlE X.K X.mg x d) (hd : (x == ("__debug__" : Str)) = false := by decide) : FE X Φ W J (.Name x pos) (fC d) := by
  obtain ⟨u, v, h1, h2, h3, h4⟩ := h
  exact fe_glob hg h1 h2 h3 h4 hd
theorem fs_asgSub {o i e : Expr} {f : fE} {fg : fG} {p2 pos : Pos} (h : FE X Φ W J e f) (hg : ∃ g, DG X Φ (.Subscript o i p2) g (dG J fg) []) (hs : swapsWithSole [.Subscript o i p2] e pos.line X.env = pure false := by rfl) (hw : swappedStores [.Subscript o i p2] e X.env = pure none := by rfl)
    (h1 : (assignEach [.Subscript o i p2] X.env).map (·.2) = [assign (.Subscript o i p2) X.env] := by rfl) : FS X Φ W J (.Assign [.Subscript o i p2] e pos) (fAsg f fg) := by
  obtain ⟨g, hg⟩ := hg
  exact fs_asg h hg hs hw h1
end
/-- what the other side of == may be: one of the class, or a built-in type's value -/
def eqok (C : Str) : D → Bool
  | .ins n _ _ => decide (n = C)
  | d => (tyD d).isSome
theorem eqok_rn {C : Str} (θ : Th) (a b : D) (r : Rn θ a b) : eqok C b = eqok C a := by cases r <;> rfl
end FL

set_option Elab.async false
set_option linter.all false
set_option maxRecDepth 100000
set_option maxHeartbeats 1000000
namespace FL
open PySem PySem.Spec PyProof.Rows L2 DL
/-! the facts of the written part, put together -/
section
variable {K : PySem.W.Frag} {mg : Str → Option Value}
theorem kit_two {t : Value} {S : Addr} {b : Bool} (h2 : PySem.W.isClsIn K S = true) (h3 : PySem.W.typeIn K (.ref S) = some (.type "type")) (h4 : PySem.W.subIn K t (.ref S) = some b) (hb : t = .ref S → b = true) : PySem.W.kitOne K t (.ref S) = some b := by
  have q : (PySem.W.clsIn K S).isSome = true := h2
  unfold PySem.W.kitOne PySem.W.kitCls
  by_cases e : t = .ref S
  · rw [if_pos (by rw [e]; exact beq_self_eq_true _), hb e]
  · rw [if_neg (by simpa using e)]
    simp [q, h3, h4]
/-- what a class of the text must tell -/
structure ClsF (K : PySem.W.Frag) (mg : Str → Option Value) (C : Addr) (Cn : Str) : Prop where
  m : mg Cn = some (.ref C)
  c : Cls K C
  g9 : PySem.W.findIn K (.ref C) "__class__" = some (some (.builtin "object.__class__"))
  ga : PySem.W.specialIn K (.builtin "object.__class__") "__get__" = some (some (.builtin "getset_descriptor.__get__"))
  gb : PySem.W.takesIn K (.builtin "object.__class__") = some true
  gd : PySem.W.mroIn K C (.type "object") = some true
theorem ClsF.ty {C : Addr} {Cn : Str} (F : ClsF K mg C Cn) {G H : Hp} {v : V} {ns : List Str} {ds : List D} (sm : Same G H) (r : Rp K mg G v (.ins Cn ns ds)) : TyX K H v (.ref C) := by
  cases r with
  | ins hm hg hl hr =>
    rw [F.m] at hm
    cases hm
    exact .base (.ins (sm _ _ hg) F.c F.g9 F.ga F.gb F.gd)
structure NotT (K : PySem.W.Frag) (C : Addr) : Prop where
  no : ∀ n ∈ ["NoneType", "bool", "int", "str", "list", "tuple", "dict"], PySem.W.subIn K (.type n) (.ref C) = some false
theorem tyD_in {d : D} {n : String} (h : tyD d = some n) : n ∈ ["NoneType", "bool", "int", "str", "list", "tuple", "dict"] := by
  cases d <;> simp [tyD] at h <;> simp [← h]
theorem eqT_mk {C : Addr} {Cn : Str} (F : ClsF K mg C Cn) (N : NotT K C) : EqT K mg C fun d => eqok Cn d = true := by
  refine ⟨fun G H v d sm r h => ?_⟩
  have dat : ∀ n, tyD d = some n → ∃ t, TyX K H v t ∧ PySem.W.notFirst K C t = true := fun n hn => by
    refine ⟨_, rp_tyX sm r hn, ?_⟩
    unfold PySem.W.notFirst
    rw [N.no n (tyD_in hn)]
    simp
  cases d with
  | ins n ns ds =>
    have e : n = Cn := by simpa [eqok] using h
    subst e
    refine ⟨_, F.ty sm r, ?_⟩
    unfold PySem.W.notFirst
    simp
  | loc _ => simp [eqok, tyD] at h
  | cls _ => simp [eqok, tyD] at h
  | ty _ => simp [eqok, tyD] at h
  | _ => exact dat _ rfl
theorem kTup {p : Addr} {o : Obj} {its : Array Value} {n : Nat} {xs : List V} (h : K.lookup p = some o) (hc : o.cls = .type "tuple") (hd : o.data = .seq its n) (hz : its.size ≤ sizeLine) (r : Vals xs its.toList) (H : Hp) : SqT K H p xs := .inr ⟨o, its, n, h, hc, hd, hz, r⟩
end
end FL

set_option Elab.async false
set_option linter.all false
set_option maxRecDepth 100000
set_option maxHeartbeats 1000000
/-! reckoning with the plain functions: rules of rewriting, one step each -/
namespace FL
open PySem PySem.Spec PyProof.Rows L2 DL
section
variable {α β : Type} {ρ ρ1 ρ2 : Rho} {st st1 st2 : St} {t u : fS} {tt uu : fT} {m n m2 : fE} {na nb : fA} {r r' : RS} {d e : D} {ds es : List D} {i j : Int} {x y : Str}
def seqK (r : RS) (u : fS) : RS := match r with
  | .nx ρ st => u ρ st
  | r => r
theorem seq_e : fSeq t u ρ st = seqK (t ρ st) u := rfl
theorem sizeLine_e : sizeLine = 16777216 := by decide +kernel
theorem next_e : fNext ρ st = .nx ρ st := rfl
theorem iSq_l : iSq m ρ st = (m ρ st).bind fun d st1 => match seqOf d with
    | some ds => .ok ds st1
    | none => .bad := by
  unfold iSq
  refine congrArg _ ?_
  funext d s
  cases d <;> rfl
theorem opIK_ok {C C1 C2 : Str} {F : fF} {ns ms : List Str} : opIK C F st (.ins C1 ns ds) (.ins C2 ms es) = if C1 = C ∧ C2 = C then F [.ins C1 ns ds, .ins C2 ms es] st else .bad := rfl
theorem gsub_e {a : Nat} {k : Nat} (h1 : m ρ st = .ok (.loc a) st1) (h2 : n ρ st1 = .ok (.int i) st2) (h3 : st2[a]? = some (some (.lst ds))) (h4 : ixN ds.length i = some k) : fGsub m n d ρ st = some (ρ, st2.set a (some (.lst (ds.set k d)))) := by
  unfold fGsub
  rw [h1]
  dsimp only
  rw [h2]
  dsimp only
  rw [h3]
  dsimp only
  rw [h4]
/-! operators -/
theorem oEq_int : oEq (.int i) (.int j) = some (.bl (i == j)) := by
  show (if SeqAt.shaped (.int i) = true ∧ SeqAt.shaped (.int j) = true then some (D.bl (false != PyData.eqv (.int i) (.int j))) else none) = _
  rw [if_pos ⟨rfl, rfl⟩]
  simp [PyData.eqv, PyData.eqvAll]
theorem oNe_int : oNe (.int i) (.int j) = some (.bl (!(i == j))) := by
  show (if SeqAt.shaped (.int i) = true ∧ SeqAt.shaped (.int j) = true then some (D.bl (true != PyData.eqv (.int i) (.int j))) else none) = _
  rw [if_pos ⟨rfl, rfl⟩]
  simp [PyData.eqv, PyData.eqvAll]
theorem oEq_str (h1 : SeqAt.shaped (.str x) = true) (h2 : SeqAt.shaped (.str y) = true) : oEq (.str x) (.str y) = some (.bl (x == y)) := by
  show (if SeqAt.shaped (.str x) = true ∧ SeqAt.shaped (.str y) = true then some (D.bl (false != PyData.eqv (.str x) (.str y))) else none) = _
  rw [if_pos ⟨h1, h2⟩]
  simp [PyData.eqv]
theorem oAdd_int : oAdd (.int i) (.int j) = some (.int (i + j)) := rfl
theorem oSub_int : oSub (.int i) (.int j) = some (.int (i - j)) := rfl
theorem oLt_int : oLt (.int i) (.int j) = some (.bl (decide (i < j))) := rfl
theorem oLe_int : oLe (.int i) (.int j) = some (.bl (decide (i ≤ j))) := rfl
theorem oGt_int : oGt (.int i) (.int j) = some (.bl (decide (j < i))) := rfl
theorem oGe_int : oGe (.int i) (.int j) = some (.bl (decide (j ≤ i))) := rfl
theorem oI_ok {c : Int → Int → Bool} {g : Int → Int → D} (h : c i j = true) : oI c g (.int i) (.int j) = some (g i j) := by
  unfold oI
  simp [h]
theorem oMod_int (h : 0 < j) : oMod (.int i) (.int j) = some (.int (i % j)) := oI_ok (by simpa using h)
theorem oDiv_int (h : 0 < j) (h2 : j ≤ 2 ^ 64) : oDiv (.int i) (.int j) = some (.int (i / j)) := oI_ok (by
  simp only [Bool.and_eq_true, decide_eq_true_eq]
  refine ⟨h, ?_⟩
  have hz : j.natAbs ≠ 0 := by omega
  rw [Nat.log2_lt hz]
  have h3 : j.natAbs ≤ 2 ^ 64 := by omega
  exact Nat.lt_of_le_of_lt h3 (Nat.pow_lt_pow_right (a := 2) (Nat.lt_succ_self 1) (by omega)))
theorem oMul1_int (h : -(2 ^ 64) < i ∧ i < 2 ^ 64) : oMul1 (.int i) (.int j) = some (.int (i * j)) := by
  show oMul (.int i) (.int j) = _
  have q : mulOk i j = true := by
    simp only [mulOk, Bool.or_eq_true, Bool.and_eq_true, decide_eq_true_eq]
    exact .inl (.inl h)
  simp only [oMul, q, if_true]
theorem oNotN_e : oNotN d .non = some (.bl (!isNon d)) := rfl
theorem oIsN_e : oIsN d .non = some (.bl (isNon d)) := rfl
theorem oIx_lst : oIx (.lst ds) (.int i) = atI ds i := rfl
theorem oIx_tup : oIx (.tup ds) (.int i) = atI ds i := rfl
theorem ixN_nat {k n : Nat} (h : k < n) : ixN n (k : Int) = some k := by
  unfold ixN
  have h0 : (0 : Int) ≤ (k : Int) := by omega
  simp
  omega
theorem at_nat {k : Nat} (h : k < ds.length) : atI ds (k : Int) = some ds[k] := by
  unfold atI
  rw [ixN_nat h]
  simp [h]
theorem gcF_len {ok : Bool} {n : Nat} (h : st.length = n) : gcF n ok st = st := by
  subst h
  exact gcF_same
def Clean (st : St) : Prop := ∀ n, st.all (lowO n) = true
theorem gcF_clean {t : St} (h : Clean st) : gcF st.length true (st ++ t) = st := gcF_app (h _)
mutual
theorem noLoc_low {n : Nat} : ∀ {d : D}, noLoc d = true → locB n d = true
  | .non, _ => rfl
  | .bl _, _ => rfl
  | .int _, _ => rfl
  | .str _, _ => rfl
  | .lst a, h => by simpa [locB] using noLocL_low (by simpa [noLoc] using h)
  | .tup a, h => by simpa [locB] using noLocL_low (by simpa [noLoc] using h)
  | .dic _ a, h => by simpa [locB] using noLocL_low (by simpa [noLoc] using h)
  | .ins _ _ a, h => by simpa [locB] using noLocL_low (by simpa [noLoc] using h)
  | .frz a, h => by simpa [locB] using noLocL_low (by simpa [noLoc] using h)
  | .loc _, h => by simp [noLoc] at h
  | .cls _, _ => rfl
  | .ty _, _ => rfl
theorem noLocL_low {n : Nat} : ∀ {ds : List D}, noLocL ds = true → locBL n ds = true
  | [], _ => rfl
  | d :: ds, h => by
    simp only [noLocL, Bool.and_eq_true] at h
    simp [locBL, noLoc_low h.1, noLocL_low h.2]
end
theorem noLocL_all : noLocL ds = true ↔ ∀ d ∈ ds, noLoc d = true := by
  induction ds with
  | nil => simp [noLocL]
  | cons d ds ih => simp [noLocL, ih]
theorem Clean.app {t : St} (h : Clean st) (k : Clean t) : Clean (st ++ t) := fun n => by rw [List.all_append, h n, k n]; rfl
theorem clean_lst (h : noLocL ds = true) : Clean [some (.lst ds)] := fun n => by
  simp [lowO, DO.tree, locB, noLocL_low h]
/-! comprehensions -/
end
end FL

set_option Elab.async false
set_option linter.all false
set_option maxRecDepth 100000
set_option maxHeartbeats 1000000
namespace FZ
open PySem PySem.Spec
theorem iterAll_eq (xs : List Value) : Builtin.SmallTypes.iterAll xs = (forIn xs (#[] : Array Value) fun x its => do
    let v ← holding its.toList (pyIter x)
    pure (.yield (its.push v))) >>= fun its => pure its.toList := by
  unfold Builtin.SmallTypes.iterAll
  rfl
section
variable {prog : Program} {w : World} {A : Around} {E : Value → Shared → Prop}
theorem typeCall_zip (xs : List Value) : checkTypeCall "zip" ⟨xs, []⟩ = pure () := by kernel_rfl
theorem newCall_zip0 : checkBuiltinCall "zip.__new__" ⟨.type "zip" :: [], []⟩ = pure () := by kernel_rfl
theorem newCall_zip1 (a : Value) (xs : List Value) : checkBuiltinCall "zip.__new__" ⟨.type "zip" :: a :: xs, []⟩ = pure () := by kernel_rfl
theorem newCall_zip (xs : List Value) : checkBuiltinCall "zip.__new__" ⟨.type "zip" :: xs, []⟩ = pure () := by
  cases xs with
  | nil => exact newCall_zip0
  | cons a xs => exact newCall_zip1 a xs
theorem push_at {h : Heap} {o : Obj} {i : Nat} (e : i = h.objs.size) (hf : o.isFreed = false) : (h.push o).get? i = some o := by
  subst e
  exact Heap.get?_push_size _ hf
abbrev zO (f : Value) (TI TO : Addr) : Obj := { cls := .type "zip", data := .fields #[f, .bool false, .bool false, .ref TI, .ref TO] }
abbrev tO (xs : List Value) : Obj := { cls := .type "tuple", data := .seq xs.toArray }
theorem args_object_init (a : Value) (xs : List Value) : argsOk "object.__init__" ⟨a :: xs, []⟩ := by
  unfold argsOk; rw [signature?_of (id := "object.__init__") (n := ['_', '_', 't', 'i', 'n', 'i', '_', '_']) (o := ['t', 'c', 'e', 'j', 'b', 'o']) (by kernel_rfl) F.owner_object]; kernel_rfl
end
end FZ

set_option Elab.async false
set_option linter.all false
set_option maxRecDepth 100000
set_option maxHeartbeats 1000000
namespace FZ
open PySem PySem.Spec
section
variable {prog : Program} {w : World} {A : Around} {E : Value → Shared → Prop} {s : Shared}
structure Tr where
  it : Addr
  l : Addr
  row : Array Value
def At (h : Heap) (t : Tr) (k : Nat) : Prop := h.IsTupleIter t.it t.l k ∧ h.IsTuple t.l t.row
theorem At.far {h h' : Heap} {t : Tr} {k : Nat} {c : Addr} (a : At h t k) (sb : ∀ b, b ≠ c → h'.get? b = h.get? b) (h1 : t.it ≠ c) (h2 : t.l ≠ c) : At h' t k :=
  ⟨a.1.at fun o e => (sb _ h1).trans e, by
    obtain ⟨o, e, q⟩ := a.2
    exact ⟨o, (sb _ h2).trans e, q⟩⟩
end
end FZ

set_option Elab.async false
set_option linter.all false
set_option maxRecDepth 100000
set_option maxHeartbeats 1000000
namespace FZ
open PySem PySem.Spec
section
variable {prog : Program} {w : World} {A : Around} {E : Value → Shared → Prop} {s : Shared}
abbrev seqO (xs : Array Value) : Obj := { cls := .type "tuple", data := .seq xs }
def setAll (k : Nat) : Array Value → Nat → List Tr → Array Value
  | arr, _, [] => arr
  | arr, j, t :: ts => setAll k (arr.setIfInBounds j (t.row.getD k .none)) (j + 1) ts
theorem setAll_list {k : Nat} : ∀ (ts : List Tr) (arr : Array Value) (j : Nat), arr.size = j + ts.length → (setAll k arr j ts).toList = arr.toList.take j ++ ts.map fun t => t.row.getD k .none
  | [], arr, j, h => by
    have e : arr.toList.length = j := by simpa using h
    rw [setAll, List.map_nil, List.append_nil, List.take_of_length_le (by omega)]
  | t :: ts, arr, j, h => by
    have h' : arr.size = j + (ts.length + 1) := h
    have q := setAll_list (k := k) ts (arr.setIfInBounds j (t.row.getD k .none)) (j + 1) (by rw [Array.size_setIfInBounds]; omega)
    rw [setAll, q]
    have hj : j < arr.toList.length := by rw [Array.length_toList]; omega
    rw [Array.toList_setIfInBounds, List.take_succ, List.getElem?_set_self hj, List.take_set_of_le (Nat.le_refl j)]
    simp
end
end FZ

set_option Elab.async false
set_option linter.all false
set_option maxRecDepth 100000
set_option maxHeartbeats 1000000
namespace FZ
open PySem PySem.Spec
section
variable {prog : Program} {w : World} {A : Around} {E : Value → Shared → Prop} {s : Shared}
abbrev zI (f : Value) (b : Bool) (TI TO : Addr) : Obj := { cls := .type "zip", data := .fields #[f, .bool b, .bool false, .ref TI, .ref TO] }
end
end FZ

set_option Elab.async false
set_option linter.all false
set_option maxRecDepth 100000
set_option maxHeartbeats 1000000
namespace FZ
open PySem PySem.Spec
section
variable {prog : Program} {w : World} {A : Around} {E : Value → Shared → Prop} {s : Shared}
/-- the walk after k turns: where everything stands -/
structure Wk (h : Heap) (z TI TO : Addr) (ts : List Tr) (b0 : Nat) (k : Nat) : Prop where
  zz : if k = 0 then h.get? z = some (zO .none TI TO) else ∃ b, h.get? z = some (zI (rawInt b0) b TI TO)
  ti : h.get? TI = some (tO (ts.map fun t => .ref t.it))
  tO : k = 0 → ∃ arr, arr.size = ts.length ∧ h.get? TO = some (seqO arr)
  at_ : ∀ t ∈ ts, At h t k
  cols : ∀ j, j < k → h.get? (b0 + j) = some (FZ.tO (ts.map fun t => t.row.getD j .none))
  size : h.objs.size = b0 + k
/-- what stays apart -/
structure Ap (z TI TO : Addr) (ts : List Tr) (b0 W : Nat) : Prop where
  ne : ts ≠ []
  len : ts.length ≤ 1000
  row : ∀ t ∈ ts, t.row.size = W
  nd : (ts.map Tr.it).Nodup
  il : ∀ t ∈ ts, ∀ u ∈ ts, t.it ≠ u.l
  az : ∀ t ∈ ts, t.it ≠ z ∧ t.l ≠ z
  aT : ∀ t ∈ ts, t.it ≠ TO ∧ t.l ≠ TO
  aI : ∀ t ∈ ts, t.it ≠ TI
  zT : z ≠ TO
  zI : z ≠ TI
  TT : TI ≠ TO
  old : z < b0 ∧ TI < b0 ∧ TO < b0 ∧ ∀ t ∈ ts, t.it < b0 ∧ t.l < b0
end
end FZ

set_option Elab.async false
set_option linter.all false
set_option maxRecDepth 100000
set_option maxHeartbeats 1000000
namespace FZ
open PySem PySem.Spec
section
variable {prog : Program} {w : World} {A : Around} {E : Value → Shared → Prop} {s : Shared}
/-- the list that gathers stands apart from the walk -/
structure Sa (S : Addr) (z TI TO : Addr) (ts : List Tr) (b0 : Nat) : Prop where
  z : S ≠ z
  TI : S ≠ TI
  TO : S ≠ TO
  it : ∀ t ∈ ts, t.it ≠ S ∧ t.l ≠ S
  lt : S < b0
theorem Wk.far {h h' : Heap} {S z TI TO : Addr} {ts : List Tr} {b0 k : Nat} (w0 : Wk h z TI TO ts b0 k) (a : Sa S z TI TO ts b0) (sb : ∀ c, c ≠ S → h'.get? c = h.get? c) (sz : h'.objs.size = h.objs.size) : Wk h' z TI TO ts b0 k := by
  refine ⟨?_, (sb _ (Ne.symm a.TI)).trans w0.ti, fun q => ?_, fun t ht => (w0.at_ t ht).far sb (a.it t ht).1 (a.it t ht).2, fun j hj => (sb _ fun e => ?_).trans (w0.cols j hj), sz.trans w0.size⟩
  · have q := w0.zz
    have e := sb _ (Ne.symm a.z)
    split at q
    · rename_i k0
      rw [if_pos k0]
      exact e.trans q
    · rename_i k0
      rw [if_neg k0]
      obtain ⟨b, q⟩ := q
      exact ⟨b, e.trans q⟩
  · obtain ⟨arr, e1, e2⟩ := w0.tO q
    exact ⟨arr, e1, (sb _ (Ne.symm a.TO)).trans e2⟩
  · exact absurd (e ▸ a.lt : b0 + j < b0) (Nat.not_lt.mpr (Nat.le_add_right _ _))
end
end FZ

set_option Elab.async false
set_option linter.all false
set_option maxRecDepth 100000
set_option maxHeartbeats 1000000
namespace FZ
open PySem PySem.Spec
section
variable {prog : Program} {w : World} {A : Around} {E : Value → Shared → Prop} {s : Shared}
end
end FZ

set_option Elab.async false
set_option linter.all false
set_option maxRecDepth 100000
set_option maxHeartbeats 1000000
namespace FZ
open PySem PySem.Spec
open AutoSeq1 (wpAny_loadPart')
section
variable {prog : Program} {w : World} {A : Around} {E : Value → Shared → Prop} {s : Shared}
theorem nn {a b : Nat} (h : a < b ∨ b < a) : a ≠ b := by omega
theorem ll {a b : Nat} (h : a < b) : a < b := h
end
end FZ

set_option Elab.async false
set_option linter.all false
set_option maxRecDepth 100000
set_option maxHeartbeats 1000000
namespace FZ
open PySem PySem.Spec PyProof.Rows L2 DL
section
variable {P : Program} {w : World} {X : Cx} {pins : List (Addr × Obj)} {σ : L2.St} {H : Hp} {s : Shared}
theorem vals_refs : ∀ {rs : List (Addr × List V)} {us : List Value}, Vals (rs.map fun r => V.ref r.1) us → us = rs.map fun r => Value.ref r.1
  | [], _, .nil => rfl
  | r :: rs, _, .cons h t => by
    obtain rfl : _ = Value.ref r.1 := h
    rw [vals_refs t]
    rfl
end
end FZ

set_option Elab.async false
set_option linter.all false
set_option maxRecDepth 100000
set_option maxHeartbeats 1000000
namespace FL
open PySem PySem.Spec PyProof.Rows L2 DL FZ
theorem all_len {as : List (List D)} {n : Nat} : (∀ q ∈ as, q.length = n) ↔ ∀ m ∈ as.map List.length, m = n := by
  simp
section
variable {K : PySem.W.Frag} {mg : Str → Option Value}
end
section
variable {X : Cx} {Φ : OH → Hp → Hp → Prop} {W : WX} [FΦ : OFrm X.K X.mg Φ] {J : Jv}
end
end FL

set_option Elab.async false
set_option linter.all false
set_option maxRecDepth 100000
set_option maxHeartbeats 1000000
/-! own dicts with whole numbers and texts as keys -/
namespace FL
open PySem PySem.Spec PyProof.Rows L2 DL
section
variable {X : Cx} {Φ : OH → Hp → Hp → Prop} {W : WX} [FΦ : OFrm X.K X.mg Φ] {J : Jv}
/-- a part is run, what is behind it goes on -/
theorem de_bind {β β' : Type} {rel : Th → β → β' → Prop} {e : Expr} {te : TE} {f : fE} {σ : Sig} {ρ ρ' : Rho} {O : OH} {G H : Hp} {Q : VK} {R : Exn → OH → Prop} {P : β' → OH → Prop} {θ : Th} {st : St} {k : D → St → Res β} (he : DE X Φ W e te (dE J f))
    (hρ : RelE X.K X.mg G σ ρ') (f0 : Φ O G H) (hW : Wsh X.K X.mg Φ W G σ R) (c : Ct J θ ρ ρ' st O) (h : Aft rel θ ((f ρ st).bind k) P R)
    (kk : ∀ (θ1 : Th) (d d' : D) (st1 : St) (O1 : OH) (v : V) (G1 H1 : Hp), θ <+: θ1 → Rn θ1 d d' → Mt θ1 st1 O1 → Same G G1 → Φ O1 G1 H1 → Rp X.K X.mg G1 v d' → Aft rel θ1 (k d st1) P R → Q v H1) : te σ H Q :=
  he.sem σ ρ' O G H Q (fun d' O1 => ∃ θ1 d st1, θ <+: θ1 ∧ Rn θ1 d d' ∧ Mt θ1 st1 O1 ∧ Aft rel θ1 (k d st1) P R) R hρ f0 hW
    ⟨θ, ρ, st, c, h.bind fun θ1 a a' st1 O1 s1 ra m1 h1 => ⟨θ1, a, st1, s1, ra, m1, h1⟩⟩ fun d' O1 v G1 H1 ⟨θ1, d, st1, s1, rd, m1, h1⟩ e1 f1 r1 => kk θ1 d d' st1 O1 v G1 H1 s1 rd m1 e1 f1 r1 h1
theorem de_bindS {e : Expr} {te : TE} {f : fE} {σ : Sig} {ρ ρ' : Rho} {O : OH} {G H : Hp} {Q : VK} {M : MEnds OH} {θ : Th} {st : St} {k : D → St → RS} (he : DE X Φ W e te (dE J f))
    (hρ : RelE X.K X.mg G σ ρ') (f0 : Φ O G H) (hW : Wsh X.K X.mg Φ W G σ fun x s => M.ex x ρ' s) (c : Ct J θ ρ ρ' st O) (h : AftS J θ (stB (f ρ st) ρ k) M)
    (kk : ∀ (θ1 : Th) (d d' : D) (st1 : St) (O1 : OH) (v : V) (G1 H1 : Hp), θ <+: θ1 → Rn θ1 d d' → Mt θ1 st1 O1 → Same G G1 → Φ O1 G1 H1 → Rp X.K X.mg G1 v d' → AftS J θ1 (k d st1) M → Q v H1) : te σ H Q :=
  he.sem σ ρ' O G H Q (fun d' O1 => ∃ θ1 d st1, θ <+: θ1 ∧ Rn θ1 d d' ∧ Mt θ1 st1 O1 ∧ AftS J θ1 (k d st1) M) _ hρ f0 hW
    ⟨θ, ρ, st, c, AftS.stB h c fun θ1 a a' st1 O1 s1 ra m1 h1 => ⟨θ1, a, st1, s1, ra, m1, h1⟩⟩ fun d' O1 v G1 H1 ⟨θ1, d, st1, s1, rd, m1, h1⟩ e1 f1 r1 => kk θ1 d d' st1 O1 v G1 H1 s1 rd m1 e1 f1 r1 h1
/-! keys -/
def kOf : D → Option Key
  | .int i => some (.inl i)
  | .str x => some (.inr x)
  | _ => none
def lookK (k : Key) : List Key → List D → Option D
  | q :: ks, d :: ds => if q = k then some d else lookK k ks ds
  | _, _ => none
/-- d[k] = v: the keys, the values -/
def hasK (k : Key) (ks : List Key) : Bool := ks.any fun q => decide (q = k)
def putKK (k : Key) (ks : List Key) : List Key := if hasK k ks = true then ks else ks ++ [k]
def setK {α : Type} (k : Key) (y : α) : List Key → List α → List α
  | q :: ks, d :: ds => (if q = k then y else d) :: setK k y ks ds
  | _, ds => ds
def putKD {α : Type} (k : Key) (y : α) (ks : List Key) (ds : List α) : List α := if hasK k ks = true then setK k y ks ds else ds ++ [y]
/-! {} -/
/-! d[k] -/
def dicAt (st : St) (a : Nat) : Option (List Key × List D) := match st[a]? with
  | some (some (.dic ks ds)) => some (ks, ds)
  | _ => none
def dgetR (st : St) (x y : D) : Option D := match x with
  | .loc a => match kOf y, dicAt st a with
    | some k, some (ks, ds) => lookK k ks ds
    | _, _ => none
  | _ => none
def fDGet (o i : fE) : fE := fun ρ st => (o ρ st).bind fun x st1 => (i ρ st1).bind fun y st2 => optR (dgetR st2 x y) st2
def dinR (st : St) (y x : D) : Option Bool := match x with
  | .loc a => match kOf y, dicAt st a with
    | some k, some (ks, ds) => some (lookK k ks ds).isSome
    | _, _ => none
  | _ => none
def fDIn (neg : Bool → Bool) (i o : fE) : fE := fun ρ st => (i ρ st).bind fun y st1 => (o ρ st1).bind fun x st2 => optR ((dinR st2 y x).map fun b => .bl (neg b)) st2
/-! d[k] = v -/
def dputR (st : St) (x y d : D) : Option St := match x with
  | .loc a => match kOf y, dicAt st a with
    | some k, some (ks, ds) => if ks.length < sizeLine then some (st.set a (some (.dic (putKK k ks) (putKD k d ks ds)))) else none
    | _, _ => none
  | _ => none
def fDPut (o i v : fE) : fS := fun ρ st => stB (v ρ st) ρ fun d st1 => stB (o ρ st1) ρ fun x st2 => stB (i ρ st2) ρ fun y st3 => match dputR st3 x y d with
  | some st4 => .nx ρ st4
  | none => .bad
/-! d[k] += v, for whole numbers -/
def daugK (g : Int → Int → Int) (ρ : Rho) (st : St) (x y : D) (i : Int) (d : D) : RS := match d with
  | .int j => match dputR st x y (.int (g i j)) with
    | some st4 => .nx ρ st4
    | none => .bad
  | _ => .bad
def fDAug (g : Int → Int → Int) (o i e : fE) : fS := fun ρ st => stB (o ρ st) ρ fun x st1 => stB (i ρ st1) ρ fun y st2 => match dgetR st2 x y with
  | some (.int i) => stB (e ρ st2) ρ fun d st3 => daugK g ρ st3 x y i d
  | _ => .bad
structure InOk (X : Cx) (op : Operator) (g : Int → Int → Int) : Prop where
  io : InOp X op fun x y H Q => ∃ i j, x = .int i ∧ y = .int j ∧ Q (.int (g i j)) H
end
end FL

set_option Elab.async false
set_option linter.all false
set_option maxRecDepth 100000
set_option maxHeartbeats 1000000
/-! truth of any value, pop, len of own lists, while -/
namespace FL
open PySem PySem.Spec PyProof.Rows L2 DL
section
variable {X : Cx} {Φ : OH → Hp → Hp → Prop} {W : WX} [FΦ : OFrm X.K X.mg Φ] {J : Jv}
/-- the truth of a value -/
def truD (st : St) : D → Option Bool
  | .non => some false
  | .bl b => some b
  | .int i => some (i != 0)
  | .lst ds => some (!ds.isEmpty)
  | .tup ds => some (!ds.isEmpty)
  | .loc a => match st[a]? with
    | some (some (.lst ds)) => some (!ds.isEmpty)
    | some (some (.dic ks ds)) => if ks.length = ds.length then some (!ks.isEmpty) else none
    | _ => none
  | _ => none
def fTru (f : fE) : fT := fun ρ st => (f ρ st).bind fun d st1 => match truD st1 d with
  | some b => .ok b st1
  | none => .bad
/-! xs.pop(), xs.pop(0) -/
def popR (st : St) (x : D) : Option (D × St) := match x with
  | .loc a => match st[a]? with
    | some (some (.lst ds)) => match ds[ds.length - 1]? with
      | some d => some (d, st.set a (some (.lst ds.dropLast)))
      | none => none
    | _ => none
  | _ => none
def popR0 (st : St) (x : D) : Option (D × St) := match x with
  | .loc a => match st[a]? with
    | some (some (.lst (d :: ds))) => if ds.length < 1000000000 then some (d, st.set a (some (.lst ds))) else none
    | _ => none
  | _ => none
def okO (o : Option (D × St)) : Res D := match o with
  | some (d, st) => .ok d st
  | none => .bad
def fPop (m : fE) : fE := fun ρ st => (m ρ st).bind fun x st1 => okO (popR st1 x)
def fPop0 (m : fE) : fE := fun ρ st => (m ρ st).bind fun x st1 => okO (popR0 st1 x)
end
end FL

set_option Elab.async false
set_option linter.all false
set_option maxRecDepth 100000
set_option maxHeartbeats 1000000
/-! while -/
namespace FL
open PySem PySem.Spec PyProof.Rows L2 DL
def fWhileGo (t : fT) (b : fS) : Nat → fS
  | 0, _, _ => .bad
  | n + 1, ρ, st => match t ρ st with
    | .bad => .bad
    | .ex x st1 => .ex x ρ st1
    | .ok false st1 => .nx ρ st1
    | .ok true st1 => match b ρ st1 with
      | .nx ρ2 st2 => fWhileGo t b n ρ2 st2
      | .ct ρ2 st2 => fWhileGo t b n ρ2 st2
      | .bk ρ2 st2 => .nx ρ2 st2
      | .rt d st2 => .rt d st2
      | .ex x ρ2 st2 => .ex x ρ2 st2
      | .bad => .bad
def fWhile (t : fT) (b : fS) : fS := fWhileGo t b 1000000
section
variable {X : Cx} {Φ : OH → Hp → Hp → Prop} {W : WX} [FΦ : OFrm X.K X.mg Φ] {J : Jv}
theorem dt_bindS {t : Expr} {tt : TT} {f : fT} {σ : Sig} {ρ ρ' : Rho} {O : OH} {G H : Hp} {Q : Bool → Hp → Prop} {M : MEnds OH} {θ : Th} {st : St} {k : Bool → St → RS} (ht : DT X Φ W t tt (dT J f))
    (hρ : RelE X.K X.mg G σ ρ') (f0 : Φ O G H) (hW : Wsh X.K X.mg Φ W G σ fun x s => M.ex x ρ' s) (c : Ct J θ ρ ρ' st O) (h : AftS J θ (stB (f ρ st) ρ k) M)
    (kk : ∀ (θ1 : Th) (b : Bool) (st1 : St) (O1 : OH) (G1 H1 : Hp), θ <+: θ1 → Mt θ1 st1 O1 → Same G G1 → Φ O1 G1 H1 → AftS J θ1 (k b st1) M → Q b H1) : tt σ H Q :=
  ht.sem σ ρ' O G H Q (fun b O1 => ∃ θ1 st1, θ <+: θ1 ∧ Mt θ1 st1 O1 ∧ AftS J θ1 (k b st1) M) _ hρ f0 hW
    ⟨θ, ρ, st, c, AftS.stB h c fun θ1 a a' st1 O1 s1 ra m1 h1 => by cases ra; exact ⟨θ1, st1, s1, m1, h1⟩⟩ fun b O1 G1 H1 ⟨θ1, st1, s1, m1, h1⟩ e1 f1 => kk θ1 b st1 O1 G1 H1 s1 m1 e1 f1 h1
theorem while_stB {t : fT} {b : fS} {n : Nat} {ρ : Rho} {st : St} : fWhileGo t b (n + 1) ρ st = stB (t ρ st) ρ fun c st1 => if c = true then (match b ρ st1 with
      | .nx ρ2 st2 => fWhileGo t b n ρ2 st2
      | .ct ρ2 st2 => fWhileGo t b n ρ2 st2
      | .bk ρ2 st2 => .nx ρ2 st2
      | .rt d st2 => .rt d st2
      | .ex x ρ2 st2 => .ex x ρ2 st2
      | .bad => .bad) else .nx ρ st1 := by
  rw [fWhileGo]
  cases t ρ st with
  | ok c st1 => cases c <;> rfl
  | ex x st1 => rfl
  | bad => rfl
theorem fs_while {t : Expr} {body : List Stmt} {ft : fT} {fb : fS} {pos : Pos} (hp : PassesOwn (model X.prog X.w) X.A X.env X.xe) (ht : FT X Φ W J t ft) (hb : FSs X Φ W J body fb) : FS X Φ W J (.While t body [] pos) (fWhile ft fb) := by
  obtain ⟨tt, ht⟩ := ht
  obtain ⟨tb, hb⟩ := hb
  refine ⟨_, ps_while hp ht.pt hb.pss, fun σ ρ' O G H Dd M hρ f0 ⟨θ, ρ, st, c, h⟩ E => ?_⟩
  refine ⟨fun m σ H => ∃ θ ρ ρ' st O G1, Same G G1 ∧ RelE X.K X.mg G1 σ ρ' ∧ Φ O G1 H ∧ Ct J θ ρ ρ' st O ∧ AftS J θ (fWhileGo ft fb m ρ st) M, ⟨1000000, θ, ρ, ρ', st, O, G, fun _ _ e => e, hρ, f0, c, h⟩, ?_⟩
  rintro m σ H ⟨θ, ρ, ρ', st, O, G1, e1, hρ, f1, c, h⟩
  cases m with
  | zero => exact h.elim
  | succ n =>
    rw [while_stB] at h
    have E1 := E.mono e1
    refine dt_bindS ht hρ f1 (E1.wsh hρ) c h fun θ1 b st1 O1 G2 H1 s1 m1 e2 f2 h1 => ?_
    cases b with
    | false => exact E1.nx σ ρ' O1 G2 H1 (h1 θ1 ρ' O1 (List.prefix_refl _) (c.step s1 m1)) e2 (hρ.mono e2) f2
    | true =>
      rw [if_pos rfl] at h1 ⊢
      have E2 := E1.mono e2
      have e12 := e1.trans e2
      refine ⟨fun σ' H' => ∃ m', m' < n + 1 ∧ ∃ θ ρ ρ' st O G1, Same G G1 ∧ RelE X.K X.mg G1 σ' ρ' ∧ Φ O G1 H' ∧ Ct J θ ρ ρ' st O ∧ AftS J θ (fWhileGo ft fb m' ρ st) M, fun σ' H' h => h, ?_⟩
      let M' : MEnds OH := { M with nx := fun ρ'' O'' => ∃ θ2 ρ2 st2, Ct J θ2 ρ2 ρ'' st2 O'' ∧ AftS J θ2 (fWhileGo ft fb n ρ2 st2) M, ct := fun ρ'' O'' => ∃ θ2 ρ2 st2, Ct J θ2 ρ2 ρ'' st2 O'' ∧ AftS J θ2 (fWhileGo ft fb n ρ2 st2) M, bk := M.nx }
      refine hb.sem σ ρ' O1 G2 H1 _ M' (hρ.mono e2) f2 ⟨θ1, ρ, st1, c.step s1 m1, ?_⟩ ?_
      · revert h1
        cases fb ρ st1 with
        | nx ρ2 st2 => exact fun h1 θ2 ρ'' O2 s2 c2 => ⟨θ2, ρ2, st2, c2, AftS.sub (r := fWhileGo ft fb n ρ2 st2) h1 s2⟩
        | ct ρ2 st2 => exact fun h1 θ2 ρ'' O2 s2 c2 => ⟨θ2, ρ2, st2, c2, AftS.sub (r := fWhileGo ft fb n ρ2 st2) h1 s2⟩
        | bk ρ2 st2 => exact fun h1 => h1
        | rt d st2 => exact fun h1 => h1
        | ex x ρ2 st2 => exact fun h1 => h1
        | bad => exact fun h1 => h1.elim
      · refine ⟨fun σ' ρ'' O'' G' H' z e hr f => ?_, fun d O'' v G' H' z e f r => E2.rt d O'' v G' H' z e f r, fun σ' ρ'' O'' G' H' z e hr f => E2.nx σ' ρ'' O'' G' H' z e hr f, fun σ' ρ'' O'' G' H' z e hr f => ?_, fun x σ' ρ'' O'' G' H' cls d z e hr f q => E2.ex x σ' ρ'' O'' G' H' cls d z e hr f q⟩
        · obtain ⟨θ2, ρ2, st2, c2, h2⟩ := z
          exact ⟨n, Nat.lt_succ_self n, θ2, ρ2, ρ'', st2, O'', G', e12.trans e, hr, f, c2, h2⟩
        · obtain ⟨θ2, ρ2, st2, c2, h2⟩ := z
          exact ⟨n, Nat.lt_succ_self n, θ2, ρ2, ρ'', st2, O'', G', e12.trans e, hr, f, c2, h2⟩
end
end FL

set_option Elab.async false
set_option linter.all false
set_option maxRecDepth 100000
set_option maxHeartbeats 1000000
/-! own objects handed on as trees, with all that they hold; an instance of one's own -/
namespace FL
open PySem PySem.Spec PyProof.Rows L2 DL
mutual
def frzD : Nat → D → St → Option (D × St)
  | 0, _, _ => none
  | n + 1, d, st => match d with
    | .loc a => match st[a]? with
      | some (some (.lst ds)) => match frzL n ds (st.set a none) with
        | some (es, st1) => some (.lst es, st1)
        | none => none
      | some (some (.dic ks ds)) => match frzL n ds (st.set a none) with
        | some (es, st1) => some (.dic ks es, st1)
        | none => none
      | some (some (.ins C ns ds)) => match frzL n ds (st.set a none) with
        | some (es, st1) => some (.ins C ns es, st1)
        | none => none
      | _ => none
    | .tup ds => match frzL n ds st with
      | some (es, st1) => some (.tup es, st1)
      | none => none
    | .lst ds => match frzL n ds st with
      | some (es, st1) => some (.lst es, st1)
      | none => none
    | d => some (d, st)
def frzL : Nat → List D → St → Option (List D × St)
  | _, [], st => some ([], st)
  | 0, _, _ => none
  | n + 1, d :: ds, st => match frzD n d st with
    | some (e, st1) => match frzL n ds st1 with
      | some (es, st2) => some (e :: es, st2)
      | none => none
    | none => none
end
section
variable {X : Cx} {Φ : OH → Hp → Hp → Prop} {W : WX} [FΦ : OFrm X.K X.mg Φ] {J : Jv}
theorem frz_both (n : Nat) :
    (∀ {d d' : D} {st st2 : St} {O : OH} {G H : Hp} {θ : Th} {v : V} {d2 : D}, frzD n d st = some (d2, st2) → Mt θ st O → Φ O G H → Rn θ d d' → Rp X.K X.mg G v d' →
      ∃ O2 G2 e', Same G G2 ∧ Φ O2 G2 H ∧ Mt θ st2 O2 ∧ Rn θ d2 e' ∧ Rp X.K X.mg G2 v e') ∧
    (∀ {ds ds' : List D} {st st2 : St} {O : OH} {G H : Hp} {θ : Th} {vs : List V} {es : List D}, frzL n ds st = some (es, st2) → Mt θ st O → Φ O G H → RnL θ ds ds' → RpL X.K X.mg G vs ds' →
      ∃ O2 G2 es', Same G G2 ∧ Φ O2 G2 H ∧ Mt θ st2 O2 ∧ RnL θ es es' ∧ RpL X.K X.mg G2 vs es') := by
  induction n with
  | zero =>
    refine ⟨fun h => by simp [frzD] at h, fun {ds ds' st st2 O G H θ vs es} h m f r rv => ?_⟩
    cases r with
    | nil =>
      cases rv
      simp only [frzL] at h
      cases h
      exact ⟨O, G, [], fun _ _ e => e, f, m, .nil, .nil⟩
    | cons _ _ => simp [frzL] at h
  | succ n ih =>
    obtain ⟨ihD, ihL⟩ := ih
    refine ⟨fun {d d' st st2 O G H θ v d2} h m f r rv => ?_, fun {ds ds' st st2 O G H θ vs es} h m f r rv => ?_⟩
    · cases r with
      | @loc i p hp =>
        simp only [frzD] at h
        split at h
        · rename_i ds w
          split at h
          · rename_i es st1 q
            cases h
            obtain ⟨y', hO, hr⟩ := m.at w hp
            obtain ⟨G1, e1, f1, r1⟩ := FΦ.frz f hO
            cases rv
            cases hr with
            | lst ra =>
              have r1 : Rp X.K X.mg G1 (.ref p) (.lst _) := r1
              cases r1 with
              | lst hg rl =>
                obtain ⟨O2, G2, es', e2, f2, m2, rn2, rp2⟩ := ihL q (m.del w hp) f1 ra rl
                exact ⟨O2, G2, .lst es', e1.trans e2, f2, m2, .lst rn2, .lst (e2 _ _ hg) rp2⟩
          · cases h
        · rename_i ks ds w
          split at h
          · rename_i es st1 q
            cases h
            obtain ⟨y', hO, hr⟩ := m.at w hp
            obtain ⟨G1, e1, f1, r1⟩ := FΦ.frz f hO
            cases rv
            cases hr with
            | dic ra =>
              have r1 : Rp X.K X.mg G1 (.ref p) (.dic _ _) := r1
              cases r1 with
              | dic hg hl rl =>
                obtain ⟨O2, G2, es', e2, f2, m2, rn2, rp2⟩ := ihL q (m.del w hp) f1 ra rl
                exact ⟨O2, G2, .dic ks es', e1.trans e2, f2, m2, .dic rn2, .dic (e2 _ _ hg) hl rp2⟩
          · cases h
        · rename_i C ns ds w
          split at h
          · rename_i es st1 q
            cases h
            obtain ⟨y', hO, hr⟩ := m.at w hp
            obtain ⟨G1, e1, f1, r1⟩ := FΦ.frz f hO
            cases rv
            cases hr with
            | ins ra =>
              have r1 : Rp X.K X.mg G1 (.ref p) (.ins _ _ _) := r1
              cases r1 with
              | ins hc hg hl rl =>
                obtain ⟨O2, G2, es', e2, f2, m2, rn2, rp2⟩ := ihL q (m.del w hp) f1 ra rl
                exact ⟨O2, G2, .ins C ns es', e1.trans e2, f2, m2, .ins rn2, .ins hc (e2 _ _ hg) hl rp2⟩
          · cases h
        · cases h
      | @tup a b ra =>
        simp only [frzD] at h
        split at h
        · rename_i es st1 q
          cases h
          cases rv with
          | tup hg rl =>
            obtain ⟨O2, G2, es', e2, f2, m2, rn2, rp2⟩ := ihL q m f ra rl
            exact ⟨O2, G2, .tup es', e2, f2, m2, .tup rn2, .tup (sqt_mono e2 hg) rp2⟩
        · cases h
      | @lst a b ra =>
        simp only [frzD] at h
        split at h
        · rename_i es st1 q
          cases h
          cases rv with
          | lst hg rl =>
            obtain ⟨O2, G2, es', e2, f2, m2, rn2, rp2⟩ := ihL q m f ra rl
            exact ⟨O2, G2, .lst es', e2, f2, m2, .lst rn2, .lst (e2 _ _ hg) rp2⟩
        · cases h
      | non => simp only [frzD] at h; cases h; exact ⟨O, G, _, fun _ _ e => e, f, m, .non, rv⟩
      | bl b => simp only [frzD] at h; cases h; exact ⟨O, G, _, fun _ _ e => e, f, m, .bl b, rv⟩
      | int b => simp only [frzD] at h; cases h; exact ⟨O, G, _, fun _ _ e => e, f, m, .int b, rv⟩
      | str b => simp only [frzD] at h; cases h; exact ⟨O, G, _, fun _ _ e => e, f, m, .str b, rv⟩
      | dic b => simp only [frzD] at h; cases h; exact ⟨O, G, _, fun _ _ e => e, f, m, .dic b, rv⟩
      | ins b => simp only [frzD] at h; cases h; exact ⟨O, G, _, fun _ _ e => e, f, m, .ins b, rv⟩
      | frz b => simp only [frzD] at h; cases h; exact ⟨O, G, _, fun _ _ e => e, f, m, .frz b, rv⟩
      | cls b => simp only [frzD] at h; cases h; exact ⟨O, G, _, fun _ _ e => e, f, m, .cls b, rv⟩
      | ty b => simp only [frzD] at h; cases h; exact ⟨O, G, _, fun _ _ e => e, f, m, .ty b, rv⟩
    · cases r with
      | nil =>
        cases rv
        simp only [frzL] at h
        cases h
        exact ⟨O, G, [], fun _ _ e => e, f, m, .nil, .nil⟩
      | cons rd rl =>
        cases rv with
        | cons rvd rvl =>
          simp only [frzL] at h
          split at h
          · rename_i e st1 q1
            split at h
            · rename_i es st3 q2
              cases h
              obtain ⟨O1, G1, e', s1, f1, m1, rn1, rp1⟩ := ihD q1 m f rd rvd
              obtain ⟨O2, G2, es', s2, f2, m2, rn2, rp2⟩ := ihL q2 m1 f1 rl (rvl.mono s1)
              exact ⟨O2, G2, e' :: es', s1.trans s2, f2, m2, .cons rn1 rn2, .cons (rp1.mono s2) rp2⟩
            · cases h
          · cases h
def fFrzD (m : fE) : fE := fun ρ st => (m ρ st).bind fun x st1 => okO (frzD 100000 x st1)
theorem fe_frzD {e : Expr} {f : fE} (h : FE X Φ W J e f) : FE X Φ W J e (fFrzD f) := by
  obtain ⟨te, h⟩ := h
  refine ⟨te, h.pe, fun σ ρ' O G H Q P R hρ f0 hW ⟨θ, ρ, st, c, hm⟩ k => ?_⟩
  refine de_bind h hρ f0 hW c hm fun θ1 x x' st1 O1 v G1 H1 s1 rx m1 e1 f1 rv h1 => ?_
  cases q : frzD 100000 x st1 with
  | none => rw [q] at h1; exact h1.elim
  | some r =>
    rw [q] at h1
    obtain ⟨O2, G2, d', e2, f2, m2, rn, rp⟩ := (frz_both (X := X) (Φ := Φ) 100000).1 q m1 f1 rx rv
    exact k d' O2 v G2 H1 (Aft.ok h1 rn m2) (e1.trans e2) f2 rp
/-! C(..), kept as one's own -/
end
end FL

set_option Elab.async false
set_option linter.all false
set_option maxRecDepth 100000
set_option maxHeartbeats 1000000
/-! {k: v for x in xs}, the dict one's own -/
namespace FL
open PySem PySem.Spec PyProof.Rows L2 DL
section
variable {X : Cx} {Φ : OH → Hp → Hp → Prop} {W : WX} [FΦ : OFrm X.K X.mg Φ] {J : Jv}
section
variable {kx vx tg iter : Expr} {ifs : List Expr} {scope : Scope} {own : List (Str × Nat)} {pos : Pos} {g : TG} {fi : fA} {fg : fG} {ft : fT} {fk fv : fE} {il : List Nat}
end
end
end FL

set_option Elab.async false
set_option linter.all false
set_option maxRecDepth 100000
set_option maxHeartbeats 1000000
/-! x += e of a local name; {k: v, ..} of one's own -/
namespace FL
open PySem PySem.Spec PyProof.Rows L2 DL
def augN (g : Int → Int → Int) (ρ : Rho) (i : Nat) (a : Int) (d : D) (st : St) : RS := match d with
  | .int b => .nx (ρ.set i (some (.int (g a b)))) st
  | _ => .bad
def fAugN (g : Int → Int → Int) (i : Nat) (m : fE) : fS := fun ρ st => match ρ[i]? with
  | some (some (.int a)) => stB (m ρ st) ρ fun d st1 => augN g ρ i a d st1
  | _ => .bad
def fPairs : List (fE × fE) → Rho → St → Res (List (Key × D))
  | [], _, st => .ok [] st
  | (a, b) :: r, ρ, st => (a ρ st).bind fun x s1 => (b ρ s1).bind fun y s2 => match kOf x with
    | none => .bad
    | some k => (fPairs r ρ s2).bind fun ps s3 => .ok ((k, y) :: ps) s3
def mergeD (q : List Key × List D) (ps : List (Key × D)) : List Key × List D := ps.foldl (fun q p => (putKK p.1 q.1, putKD p.1 p.2 q.1 q.2)) q
def fDisp (fs : List (fE × fE)) : fE := fun ρ st => (fPairs fs ρ (st ++ [some (.dic [] [])])).bind fun ps st2 => match dicAt st2 st.length with
  | some ([], []) => if ps.length ≤ 15 then .ok (.loc st.length) (st2.set st.length (some (.dic (mergeD ([], []) ps).1 (mergeD ([], []) ps).2))) else .bad
  | _ => .bad
section
variable {X : Cx} {Φ : OH → Hp → Hp → Prop} {W : WX} [FΦ : OFrm X.K X.mg Φ] {J : Jv}
theorem fs_augN {i : Nat} {x : Str} {e : Expr} {f : fE} {op : Operator} {g : Int → Int → Int} {pos pos' : Pos} (hN : X.N.Nodup) (hi : X.N[i]? = some x) (hx : Loc X.env.scope x) (ip : IpOk X op g) (he : FE X Φ W J e f) (hj : jfree J i := by first | trivial | (show _ ≠ _; decide)) (hf : X.fn x = true ∨ X.env.scope.names.lookup x = some .local := by first | exact .inl rfl | exact .inr rfl | assumption) :
    FS X Φ W J (.AugAssign (.Name x pos') op e pos) (fAugN g i f) := by
  obtain ⟨te, he⟩ := he
  refine ⟨_, ps_aug hN hi hx he.pe ip.ip hf, fun σ ρ' O G H Dd M hρ f0 ⟨θ, ρ, st, c, h⟩ E => ?_⟩
  have hW := E.wsh hρ
  unfold fAugN at h
  split at h
  · rename_i a w
    obtain ⟨d', hd', rd⟩ := c.env.2 i _ w
    cases rd
    obtain ⟨v, hv, rv⟩ := hρ.2 i _ hd'
    cases rv
    refine ⟨_, hv, ?_⟩
    refine de_bindS he hρ f0 hW c h fun θ1 d d' st1 O1 u G1 H1 s1 rd m1 e1 f1 ru h1 => ?_
    cases rd <;> try (exact h1.elim)
    rename_i b
    cases ru
    refine ⟨_, _, rfl, rfl, ?_⟩
    have h2 : AftS J θ1 (.nx (ρ.set i (some (.int (g a b)))) st1) M := h1
    exact E.nx _ _ O1 G1 H1 (h2 θ1 (ρ'.set i (some (.int (g a b)))) O1 (List.prefix_refl _) ((c.step s1 m1).set hj (.int _))) e1 ((hρ.mono e1).set i (.int _)) f1
  · exact h.elim
end
end FL

set_option Elab.async false
set_option linter.all false
set_option maxRecDepth 100000
set_option maxHeartbeats 1000000
/-! max(xs) of a list or a tuple of whole numbers -/
namespace FL
open PySem PySem.Spec PyProof.Rows L2 DL
section
variable {X : Cx}
end
end FL

set_option Elab.async false
set_option linter.all false
set_option maxRecDepth 100000
set_option maxHeartbeats 1000000
/-! a, b = list -/
namespace FL
open PySem PySem.Spec PyProof.Rows L2 DL
end FL

set_option Elab.async false
set_option linter.all false
set_option maxRecDepth 100000
set_option maxHeartbeats 1000000
/-! C.m(..), m a class method; of a static method, see below -/
namespace FL
open PySem PySem.Spec PyProof.Rows L2 DL
section
variable {X : Cx} {W : WX}
end
section
variable {X : Cx} {Φ : OH → Hp → Hp → Prop} {W : WX} [FΦ : OFrm X.K X.mg Φ] {J : Jv}
def fCMeth (Cn : Str) (F : fF) (k : Nat) (dd : List D) (n : fA) : fE := fun ρ st => (n ρ st).bind fun ds st1 => if (D.cls Cn :: (ds ++ dd)).length = k then F (D.cls Cn :: (ds ++ dd)) st1 else .bad
end
end FL

set_option Elab.async false
set_option linter.all false
set_option maxRecDepth 100000
set_option maxHeartbeats 1000000
/-! cls(..), a local name that holds a class -/
namespace FL
open PySem PySem.Spec PyProof.Rows L2 DL
section
variable {X : Cx} {W : WX}
end
section
variable {X : Cx} {Φ : OH → Hp → Hp → Prop} {W : WX} [FΦ : OFrm X.K X.mg Φ] {J : Jv}
def fMakeL (i : Nat) (C : Str) (F : fF) (k : Nat) (dd : List D) (n : fA) : fE := fun ρ st => match ρ[i]? with
  | some (some (.cls C')) => if C' = C then fMake C F k dd n ρ st else .bad
  | _ => .bad
end
end FL

set_option Elab.async false
set_option linter.all false
set_option maxRecDepth 100000
set_option maxHeartbeats 1000000
/-! C.m(..), m a static method -/
namespace FL
open PySem PySem.Spec PyProof.Rows L2 DL
/-- C.m is a static method: its record at p, its def at g -/
structure SMet (K : PySem.W.Frag) (C : Addr) (mc : Value) (m : Str) (p g : Addr) : Prop where
  at_ : PySem.W.findCls K (.ref C) mc m = some (.get (.builtin "staticmethod.__get__") (.ref p) .none (.ref C))
  rc : ∃ rest, PySem.W.recIn K p "staticmethod" = some (.ref g :: rest)
  hd : PySem.W.handedIn (.ref g) = true
  kp : PySem.W.keepIn K (.ref g) = true
section
variable {X : Cx} {W : WX}
end
section
variable {X : Cx} {Φ : OH → Hp → Hp → Prop} {W : WX} [FΦ : OFrm X.K X.mg Φ] {J : Jv}
end
end FL

set_option Elab.async false
set_option linter.all false
set_option maxRecDepth 100000
set_option maxHeartbeats 1000000
/-! len of a list of one's own -/
namespace FL
open PySem PySem.Spec PyProof.Rows L2 DL
def lenR1 (st : St) (d : D) : Option Int := match d with
  | .loc a => match st[a]? with
    | some (some (.lst ds)) => some (ds.length : Nat)
    | _ => none
  | _ => none
def fLenO (f : fE) : fE := fun ρ st => (f ρ st).bind fun d st1 => optR ((lenR1 st1 d).map .int) st1
section
variable {X : Cx} {Φ : OH → Hp → Hp → Prop} {W : WX} [FΦ : OFrm X.K X.mg Φ] {J : Jv}
theorem fe_lenO {x : Str} {p pos : Pos} {e : Expr} {f : fE} (hg : Gl X x) (hm : X.mg x = none) (hv : bootBuiltins x = some (.builtin "len")) (he : FE X Φ W J e f) (hn : x ≠ "__name__" := by decide) (hdb : (x == ("__debug__" : Str)) = false := by decide)
    (h1 : starEach [e] X.env = (false, eval e X.env) :: starEach [] X.env := by rfl) (h2 : (backTo pos (starEach [] X.env)).any (·.1) = false := by rfl) : FE X Φ W J (.Call (.Name x p) [e] [] pos) (fLenO f) := by
  obtain ⟨te, he⟩ := he
  refine ⟨_, pe_callB call_len hg hm hv (pa_cons he.pe pa_nil h1) hn hdb h1 h2, fun σ ρ' O G H Q P R hρ f0 hW ⟨θ, ρ, st, c, hq⟩ k => ?_⟩
  unfold tCB tCons tNil
  refine de_bind he hρ f0 hW c hq fun θ1 d d' st1 O1 v G1 H1 s1 rd m1 e1 f1 rv h1 => ?_
  cases rd with
  | @loc i p hp =>
    cases rv
    cases w : st1[i]? with
    | none => unfold lenR1 at h1; simp only [w] at h1; exact h1.elim
    | some u =>
      cases u with
      | none => unfold lenR1 at h1; simp only [w] at h1; exact h1.elim
      | some y =>
        obtain ⟨y', hO, hr⟩ := m1.at w hp
        cases hr with
        | @lst ds ds' ra =>
          unfold lenR1 at h1
          simp only [w] at h1
          obtain ⟨_, ob, hob, ro⟩ := FΦ.own f1 hO
          cases ro with
          | @lst vs _ rl =>
            refine ⟨_, vs.length, rfl, .inl ⟨vs, SqL.of hob, rfl⟩, ?_⟩
            have e : vs.length = ds.length := by rw [rl.len, ra.len]
            rw [e]
            exact k _ O1 _ G1 H1 (Aft.ok h1 (.int _) m1) e1 f1 (.int _)
        | _ => unfold lenR1 at h1; simp only [w] at h1; exact h1.elim
  | _ => exact h1.elim
end
end FL

set_option Elab.async false
set_option linter.all false
set_option maxRecDepth 100000
set_option maxHeartbeats 1000000
/-! (*xs, ..), a display with a star -/
namespace FL
open PySem PySem.Spec PyProof.Rows L2 DL
def starK (fs : fA) (ρ : Rho) (d : D) (st : St) : Res (List D) := match d with
  | .lst xs => (fs ρ st).bind fun ys st2 => .ok (xs ++ ys) st2
  | .tup xs => (fs ρ st).bind fun ys st2 => .ok (xs ++ ys) st2
  | _ => .bad
def fStar (f : fE) (fs : fA) : fA := fun ρ st => (f ρ st).bind fun d st1 => starK fs ρ d st1
section
variable {X : Cx} {Φ : OH → Hp → Hp → Prop} {W : WX} [FΦ : OFrm X.K X.mg Φ] {J : Jv}
theorem fa_star {e : Expr} {es : List Expr} {p : Pos} {f : fE} {fs : fA} (h : FE X Φ W J e f) (h' : FA X Φ W J es fs) (hs : starEach (.Starred e p :: es) X.env = (true, eval e X.env) :: starEach es X.env := by rfl) : FA X Φ W J (.Starred e p :: es) (fStar f fs) := by
  obtain ⟨te, h⟩ := h
  obtain ⟨ta, h'⟩ := h'
  refine ⟨_, StX.pa_star h.pe h'.pa hs, fun σ ρ' O G H Q P R hρ f0 hW ⟨θ, ρ, st, c, hq⟩ k => ?_⟩
  unfold StX.tStar
  refine de_bind h hρ f0 hW c hq fun θ1 d d' st1 O1 v G1 H1 s1 rd m1 e1 f1 rv h1 => ?_
  have sm := FΦ.same f1
  have go : ∀ {xs xs' : List D} {vs : List V}, RnL θ1 xs xs' → RpL X.K X.mg G1 vs xs' → Aft RnL θ1 ((fs ρ st1).bind fun ys st2 => .ok (xs ++ ys) st2) P R → ta σ H1 fun ys H2 => Q (vs ++ ys) H2 := fun {xs xs' vs} ra rl hh =>
    h'.sem σ ρ' O1 G1 H1 _ (fun ys O => P (xs' ++ ys) O) R (hρ.mono e1) f1 (hW.mono e1) ⟨θ1, ρ, st1, c.step s1 m1, hh.bind fun θ2 b b' st2 O2 s2 rb m2 h2 => Aft.ok h2 ((ra.mono s2).app rb) m2⟩ fun ys O2 ws G2 H2 p e2 f2 r2 => k _ O2 _ G2 H2 p (e1.trans e2) f2 ((rl.mono e2).app r2)
  cases rd with
  | @lst a a' ra =>
    cases rv with
    | @lst p vs _ hg rl => exact ⟨p, vs, rfl, .inr (SqL.of (sm _ _ hg)), go ra rl h1⟩
  | @tup a a' ra =>
    cases rv with
    | @tup p vs _ hg rl => exact ⟨p, vs, rfl, .inl (sqt_mono sm hg), go ra rl h1⟩
  | _ => exact h1.elim
end
end FL

set_option Elab.async false
set_option linter.all false
set_option maxRecDepth 100000
set_option maxHeartbeats 1000000
/-! what is wanted of the plain functions: rules backwards, one construct each -/
namespace FL
open PySem PySem.Spec PyProof.Rows L2 DL
inductive Res.wp {α : Type} : Res α → (α → St → Prop) → (Exn → St → Prop) → Prop
  | ok {a : α} {st : St} {Q : α → St → Prop} {X : Exn → St → Prop} (h : Q a st) : Res.wp (.ok a st) Q X
  | ex {x : Exn} {st : St} {Q : α → St → Prop} {X : Exn → St → Prop} (h : X x st) : Res.wp (.ex x st) Q X
structure En where
  nx : Rho → St → Prop
  rt : D → St → Prop
  bk : Rho → St → Prop
  ct : Rho → St → Prop
  ex : Exn → Rho → St → Prop
inductive RS.wp : RS → En → Prop
  | nx {ρ : Rho} {st : St} {M : En} (h : M.nx ρ st) : RS.wp (.nx ρ st) M
  | rt {d : D} {st : St} {M : En} (h : M.rt d st) : RS.wp (.rt d st) M
  | bk {ρ : Rho} {st : St} {M : En} (h : M.bk ρ st) : RS.wp (.bk ρ st) M
  | ct {ρ : Rho} {st : St} {M : En} (h : M.ct ρ st) : RS.wp (.ct ρ st) M
  | ex {x : Exn} {ρ : Rho} {st : St} {M : En} (h : M.ex x ρ st) : RS.wp (.ex x ρ st) M
def noX : Exn → St → Prop := fun _ _ => False
theorem Res.wp_bind {α β : Type} {r : Res α} {k : α → St → Res β} {Q : β → St → Prop} {X : Exn → St → Prop} (h : r.wp (fun a s => (k a s).wp Q X) X) : (r.bind k).wp Q X := by
  cases h with
  | ok h => exact h
  | ex h => exact .ex h
theorem Res.wp_mono {α : Type} {r : Res α} {Q Q' : α → St → Prop} {X X' : Exn → St → Prop} (h : r.wp Q X) (i : ∀ a s, Q a s → Q' a s) (j : ∀ x s, X x s → X' x s) : r.wp Q' X' := by
  cases h with
  | ok h => exact .ok (i _ _ h)
  | ex h => exact .ex (j _ _ h)
theorem Res.bind2 {α β : Type} {r : Res α} {k : α → St → Res β} {Q0 : α → St → Prop} {Q : β → St → Prop} {X : Exn → St → Prop} (h : r.wp Q0 X) (i : ∀ a s, Q0 a s → (k a s).wp Q X) : (r.bind k).wp Q X := Res.wp_bind (Res.wp_mono h i fun _ _ h => h)
theorem Res.wp_eq {α : Type} {r : Res α} {a : α} {st : St} {Q : α → St → Prop} {X : Exn → St → Prop} (e : r = .ok a st) (h : Q a st) : r.wp Q X := by
  rw [e]
  exact .ok h
theorem Res.eq_wp {α : Type} {r : Res α} {a : α} {st : St} (h : r.wp (fun b s => b = a ∧ s = st) noX) : r = .ok a st := by
  cases h with
  | ok h => obtain ⟨rfl, rfl⟩ := h; rfl
  | ex h => exact h.elim
theorem Res.ok_wp {α : Type} {r : Res α} {Q : α → St → Prop} (h : r.wp Q noX) : ∃ a s, r = .ok a s ∧ Q a s := by
  cases h with
  | ok h => exact ⟨_, _, rfl, h⟩
  | ex h => exact h.elim
theorem stB_wp {α : Type} {r : Res α} {ρ : Rho} {k : α → St → RS} {M : En} (h : r.wp (fun a s => (k a s).wp M) fun x s => M.ex x ρ s) : (stB r ρ k).wp M := by
  cases h with
  | ok h => exact h
  | ex h => exact .ex h
theorem stB2 {α : Type} {r : Res α} {ρ : Rho} {k : α → St → RS} {M : En} {Q0 : α → St → Prop} (h : r.wp Q0 fun x s => M.ex x ρ s) (i : ∀ a s, Q0 a s → (k a s).wp M) : (stB r ρ k).wp M := stB_wp (Res.wp_mono h i fun _ _ h => h)
theorem RS.wp_mono {r : RS} {M M' : En} (h : r.wp M) (h1 : ∀ ρ s, M.nx ρ s → M'.nx ρ s) (h2 : ∀ d s, M.rt d s → M'.rt d s) (h3 : ∀ ρ s, M.bk ρ s → M'.bk ρ s) (h4 : ∀ ρ s, M.ct ρ s → M'.ct ρ s) (h5 : ∀ x ρ s, M.ex x ρ s → M'.ex x ρ s) : r.wp M' := by
  cases h with
  | nx h => exact .nx (h1 _ _ h)
  | rt h => exact .rt (h2 _ _ h)
  | bk h => exact .bk (h3 _ _ h)
  | ct h => exact .ct (h4 _ _ h)
  | ex h => exact .ex (h5 _ _ _ h)
section
variable {ρ ρ' : Rho} {st st' : St} {d e : D} {ds es : List D} {Q : D → St → Prop} {QA : List D → St → Prop} {QB : Bool → St → Prop} {X : Exn → St → Prop} {M : En} {N B C : Rho → St → Prop} {R : D → St → Prop} {E : Exn → Rho → St → Prop} {m n : fE} {na nb : fA} {t u : fT} {a b : fS} {i j : Nat} {o o2 : D → D → Option D} {oL : List D → Option D}
/-! expressions -/
theorem wp_var (h : ρ[i]? = some (some d)) (k : Q d st) : (fVar i ρ st).wp Q X := by
  unfold fVar
  rw [h]
  exact .ok k
theorem wp_c (k : Q d st) : (fC d ρ st).wp Q X := (.ok (k))
theorem wp_bin (k : (m ρ st).wp (fun a s => (n ρ s).wp (fun b s => ∃ d, o a b = some d ∧ Q d s) X) X) : (fBin o m n ρ st).wp Q X := by
  refine Res.bind2 k (fun a s k => Res.bind2 k (fun b s k => ?_))
  obtain ⟨d, e, q⟩ := k
  rw [e]
  exact .ok q
theorem wp_test (k : (m ρ st).wp (fun d s => ∃ b, d = .bl b ∧ QB b s) X) : (fTest m ρ st).wp QB X := by
  refine Res.bind2 k (fun a s k => ?_)
  obtain ⟨b, rfl, q⟩ := k
  exact .ok (q)
theorem wp_and (k : (t ρ st).wp (fun c s => (c = true → (u ρ s).wp QB X) ∧ (c = false → QB false s)) X) : (fAnd t u ρ st).wp QB X := by
  refine Res.bind2 k (fun c s k => ?_)
  cases c with
  | true => exact k.1 rfl
  | false => exact .ok (k.2 rfl)
theorem wp_or (k : (t ρ st).wp (fun c s => (c = true → QB true s) ∧ (c = false → (u ρ s).wp QB X)) X) : (fOr t u ρ st).wp QB X := by
  refine Res.bind2 k (fun c s k => ?_)
  cases c with
  | true => exact .ok (k.1 rfl)
  | false => exact k.2 rfl
theorem wp_not (k : (t ρ st).wp (fun c s => QB (!c) s) X) : (fNot t ρ st).wp QB X := Res.bind2 k fun _ _ k => .ok k
theorem wp_andV (k : (m ρ st).wp (fun d s => ∃ c, d = .bl c ∧ (c = true → (n ρ s).wp Q X) ∧ (c = false → Q (.bl false) s)) X) : (fAndV m n ρ st).wp Q X := by
  refine Res.bind2 k (fun c s k => ?_)
  obtain ⟨c, rfl, k1, k2⟩ := k
  cases c with
  | true => exact k1 rfl
  | false => exact .ok (k2 rfl)
theorem wp_orV (k : (m ρ st).wp (fun d s => ∃ c, d = .bl c ∧ (c = true → Q (.bl true) s) ∧ (c = false → (n ρ s).wp Q X)) X) : (fOrV m n ρ st).wp Q X := by
  refine Res.bind2 k (fun c s k => ?_)
  obtain ⟨c, rfl, k1, k2⟩ := k
  cases c with
  | true => exact .ok (k1 rfl)
  | false => exact k2 rfl
theorem wp_notV (k : (m ρ st).wp (fun d s => ∃ c, d = .bl c ∧ Q (.bl (!c)) s) X) : (fNotV m ρ st).wp Q X := by
  refine Res.bind2 k (fun c s k => ?_)
  obtain ⟨c, rfl, k⟩ := k
  exact .ok (k)
theorem wp_if (k : (t ρ st).wp (fun c s => (c = true → (m ρ s).wp Q X) ∧ (c = false → (n ρ s).wp Q X)) X) : (fIf t m n ρ st).wp Q X := by
  refine Res.bind2 k (fun c s k => ?_)
  cases c with
  | true => exact k.1 rfl
  | false => exact k.2 rfl
theorem wp_nil (k : QA [] st) : (fNil ρ st).wp QA X := (.ok (k))
theorem wp_cons (k : (m ρ st).wp (fun d s => (na ρ s).wp (fun ds s => QA (d :: ds) s) X) X) : (fCons m na ρ st).wp QA X :=
  Res.bind2 k (fun _ _ k => Res.bind2 k fun _ _ k => .ok k)
theorem wp_lst (k : (na ρ st).wp (fun ds s => ds.length ≤ sizeLine ∧ Q (.lst ds) s) X) : (fLst na ρ st).wp Q X := by
  refine Res.bind2 k (fun ds s k => ?_)
  rw [if_pos k.1]
  exact .ok (k).2
theorem wp_tup (k : (na ρ st).wp (fun ds s => ds.length ≤ sizeLine ∧ Q (.tup ds) s) X) : (fTup na ρ st).wp Q X := by
  refine Res.bind2 k (fun ds s k => ?_)
  rw [if_pos k.1]
  exact .ok (k).2
theorem wp_lstO (k : (na ρ st).wp (fun ds s => ds.length ≤ sizeLine ∧ Q (.loc s.length) (s ++ [some (.lst ds)])) X) : (fLstO na ρ st).wp Q X := by
  refine Res.bind2 k (fun ds s k => ?_)
  rw [if_pos k.1]
  exact .ok (k).2
theorem wp_fn (k : (na ρ st).wp (fun ds s => ∃ d, oL ds = some d ∧ Q d s) X) : (fFn oL na ρ st).wp Q X := by
  refine Res.bind2 k (fun ds s k => ?_)
  obtain ⟨d, e, q⟩ := k
  rw [e]
  exact .ok q
theorem wp_neg (k : (m ρ st).wp (fun d s => ∃ i, d = .int i ∧ Q (.int (-i)) s) X) : (fNeg m ρ st).wp Q X := by
  refine Res.bind2 k (fun c s k => ?_)
  obtain ⟨i, rfl, q⟩ := k
  exact .ok (q)
theorem wp_isi {ts : List BT} (k : (m ρ st).wp (fun d s => (tyD d).isSome = true ∧ ∃ b, isTs d ts = some b ∧ Q (.bl b) s) X) : (fIsi ts m ρ st).wp Q X := by
  refine Res.bind2 k (fun c s k => ?_)
  obtain ⟨h1, b, h2, q⟩ := k
  rw [if_pos h1, h2]
  exact .ok (q)
theorem wp_isC {C : List (Str × Bool)} (k : (m ρ st).wp (fun d s => ∃ b, isC C d = some b ∧ Q (.bl b) s) X) : (fIsC C m ρ st).wp Q X := by
  refine Res.bind2 k (fun c s k => ?_)
  obtain ⟨b, h2, q⟩ := k
  rw [h2]
  exact .ok (q)
theorem wp_sl {l h : fO} (k : (m ρ st).wp (fun a s => (l ρ s).wp (fun i s => (h ρ s).wp (fun j s => ∃ d, oCut a i j = some d ∧ Q d s) X) X) X) : (fSl m l h ρ st).wp Q X := by
  refine Res.bind2 k (fun a s k => Res.bind2 k (fun b s k => Res.bind2 k (fun c s k => ?_)))
  obtain ⟨d, e, q⟩ := k
  rw [e]
  exact .ok q
theorem wp_pn {Q : Option Int → St → Prop} (k : Q none st) : (fPn ρ st).wp Q X := (.ok (k))
theorem wp_ps {Q : Option Int → St → Prop} (k : (m ρ st).wp (fun d s => ∃ i, d = .int i ∧ Q (some i) s) X) : (fPs m ρ st).wp Q X := by
  refine Res.bind2 k (fun c s k => ?_)
  obtain ⟨i, rfl, q⟩ := k
  exact .ok (q)
theorem wp_back (k : (m ρ st).wp (fun d s => (∃ x, d = .lst x ∧ Q (.lst x.reverse) s) ∨ (∃ x, d = .frz x ∧ Q (.lst x.reverse) s) ∨ ∃ x, d = .tup x ∧ Q (.tup x.reverse) s) X) : (fBack m ρ st).wp Q X := by
  refine Res.bind2 k (fun c s k => ?_)
  rcases k with ⟨x, rfl, k⟩ | ⟨x, rfl, k⟩ | ⟨x, rfl, k⟩ <;> exact .ok (k)
theorem wp_show (k : (m ρ st).wp (fun d s => ∃ y, shown? d = some y ∧ Q (.str y) s) X) : (fShow m ρ st).wp Q X := by
  refine Res.bind2 k (fun c s k => ?_)
  obtain ⟨y, e, q⟩ := k
  rw [e]
  exact .ok q
theorem wp_js_nil {acc : Str} {Q : Str → St → Prop} (k : Q acc st) : (fJs [] acc ρ st).wp Q X := (.ok (k))
theorem wp_js_cons {acc : Str} {ms : List fE} {Q : Str → St → Prop} (k : (m ρ st).wp (fun d s => ∃ y, d = .str y ∧ (acc ++ y).length ≤ sizeLine ∧ (fJs ms (acc ++ y) ρ s).wp Q X) X) : (fJs (m :: ms) acc ρ st).wp Q X := by
  refine Res.bind2 k (fun c s k => ?_)
  obtain ⟨y, rfl, h, q⟩ := k
  dsimp only
  rw [if_pos h]
  exact q
theorem wp_join {ms : List fE} (k : (fJs ms Str.empty ρ st).wp (fun y s => Q (.str y) s) X) : (fJoin ms ρ st).wp Q X := Res.bind2 k fun _ _ k => .ok k
/-! own lists -/
theorem wp_ixO (k : (m ρ st).wp (fun x s => (n ρ s).wp (fun y s => ∃ a i ds d, x = .loc a ∧ y = .int i ∧ s[a]? = some (some (.lst ds)) ∧ atI ds i = some d ∧ Q d s) X) X) : (fIxO m n ρ st).wp Q X := by
  refine Res.bind2 k (fun a s k => Res.bind2 k (fun b s k => ?_))
  obtain ⟨a, i, ds, d, rfl, rfl, h1, h2, q⟩ := k
  dsimp only
  rw [h1]
  dsimp only
  rw [h2]
  exact .ok (q)
theorem wp_frz (k : (m ρ st).wp (fun x s => ∃ i y, x = .loc i ∧ s[i]? = some (some y) ∧ Q y.tree (s.set i none)) X) : (fFrz m ρ st).wp Q X := by
  refine Res.bind2 k (fun c s k => ?_)
  obtain ⟨i, y, rfl, h, q⟩ := k
  dsimp only
  rw [h]
  exact .ok (q)
theorem wp_app (k : (m ρ st).wp (fun x s => ∃ i zs, x = .loc i ∧ s[i]? = some (some (.lst zs)) ∧ (n ρ s).wp (fun y s => ∃ ds, s[i]? = some (some (.lst ds)) ∧ ds.length < sizeLine ∧ Q .non (s.set i (some (.lst (ds ++ [y]))))) X) X) : (fApp m n ρ st).wp Q X := by
  refine Res.bind2 k (fun c s k => ?_)
  obtain ⟨i, zs, rfl, h, q⟩ := k
  dsimp only
  rw [h]
  refine Res.bind2 q (fun y s k => ?_)
  obtain ⟨ds, h1, h2, q⟩ := k
  rw [h1]
  dsimp only
  rw [if_pos h2]
  exact .ok (q)
/-! calls -/
theorem wp_call {F : fF} {k : Nat} {dd : List D} (h : (na ρ st).wp (fun ds s => (ds ++ dd).length = k ∧ (F (ds ++ dd) s).wp Q X) X) : (fCall F k dd na ρ st).wp Q X := by
  refine Res.bind2 h (fun ds s h => ?_)
  rw [if_pos h.1]
  exact h.2
theorem wp_call0 {F : fF} {k : Nat} {dd : List D} (h1 : dd.length = k) (h : (F dd st).wp Q X) : (fCall0 F k dd ρ st).wp Q X := by
  unfold fCall0
  rw [if_pos h1]
  exact h
theorem wp_meth {C f : Str} {F : fF} {k : Nat} {dd : List D} (h : (m ρ st).wp (fun x s => ∃ ns fs, x = .ins C ns fs ∧ f ∉ ns ∧ (na ρ s).wp (fun ds s => (ds ++ dd).length + 1 = k ∧ (F (.ins C ns fs :: (ds ++ dd)) s).wp Q X) X) X) : (fMeth C f F k dd m na ρ st).wp Q X := by
  refine Res.bind2 h (fun x s h => ?_)
  obtain ⟨ns, fs, rfl, h1, h⟩ := h
  dsimp only
  rw [if_pos ⟨rfl, h1⟩]
  refine Res.bind2 h (fun ds s h => ?_)
  rw [if_pos h.1]
  exact h.2
theorem wp_meth0 {C f : Str} {F : fF} {k : Nat} {dd : List D} (h : (m ρ st).wp (fun x s => ∃ ns fs, x = .ins C ns fs ∧ f ∉ ns ∧ dd.length + 1 = k ∧ (F (.ins C ns fs :: dd) s).wp Q X) X) : (fMeth0 C f F k dd m ρ st).wp Q X := by
  refine Res.bind2 h (fun x s h => ?_)
  obtain ⟨ns, fs, rfl, h1, h2, h⟩ := h
  dsimp only
  rw [if_pos ⟨rfl, h1, h2⟩]
  exact h
theorem wp_make {C : Str} {F : fF} {k : Nat} {dd : List D} (h : (na ρ st).wp (fun ds s => (ds ++ dd).length + 1 = k ∧ (mkEnd s.length (F (.loc s.length :: (ds ++ dd)) (s ++ [some (.ins C [] [])]))).wp Q X) X) : (fMake C F k dd na ρ st).wp Q X := by
  refine Res.bind2 h (fun x s h => ?_)
  rw [if_pos h.1]
  exact h.2
theorem wp_make0 {C : Str} {F : fF} {k : Nat} {dd : List D} (h1 : dd.length + 1 = k) (h : (mkEnd st.length (F (.loc st.length :: dd) (st ++ [some (.ins C [] [])]))).wp Q X) : (fMake0 C F k dd ρ st).wp Q X := by
  unfold fMake0
  rw [if_pos h1]
  exact h
theorem wp_mkEnd {r : Res D} {i : Nat} (h : r.wp (fun d s => d = .non ∧ ∃ y, s[i]? = some (some y) ∧ Q y.tree (gc i y.tree (s.set i none))) X) : (mkEnd i r).wp Q X := by
  cases h with
  | @ok d s _ _ h =>
    obtain ⟨rfl, y, e, q⟩ := h
    show ((match s[i]? with | some (some y) => Res.ok y.tree (gc i y.tree (s.set i none)) | _ => .bad) : Res D).wp Q X
    rw [e]
    exact .ok (q)
  | ex h => exact .ex h
theorem wp_calm {r : Res D} (h : r.wp Q noX) : r.calm.wp Q X := by
  cases h with
  | ok h => exact .ok h
  | ex h => exact h.elim
theorem wp_prop {C : Str} {F : fF} (h : (m ρ st).wp (fun x s => ∃ ns fs, x = .ins C ns fs ∧ (F [.ins C ns fs] s).wp Q noX) X) : (fProp C F m ρ st).wp Q X := by
  refine Res.bind2 h (fun x s h => ?_)
  obtain ⟨ns, fs, rfl, h⟩ := h
  dsimp only
  rw [if_pos rfl]
  exact wp_calm h
theorem wp_fld {C f : Str} (h : (m ρ st).wp (fun x s => ∃ ns fs d, x = .ins C ns fs ∧ lookD f ns fs = some d ∧ Q d s) X) : (fFld C f m ρ st).wp Q X := by
  refine Res.bind2 h (fun x s h => ?_)
  obtain ⟨ns, fs, d, rfl, e, h⟩ := h
  dsimp only
  rw [if_pos rfl, e]
  exact .ok h
theorem wp_opI {C : Str} {F : fF} (h : (m ρ st).wp (fun a s => (n ρ s).wp (fun b s => ∃ ns ds ms es, a = .ins C ns ds ∧ b = .ins C ms es ∧ (F [.ins C ns ds, .ins C ms es] s).wp Q X) X) X) : (fOpI C F m n ρ st).wp Q X := by
  refine Res.bind2 h (fun a s k => Res.bind2 k (fun b s k => ?_))
  obtain ⟨ns, ds, ms, es, rfl, rfl, k⟩ := k
  show (opIK C F s (.ins C ns ds) (.ins C ms es)).wp Q X
  rw [opIK_ok, if_pos ⟨rfl, rfl⟩]
  exact k
theorem wp_eqI {C : Str} {F : fF} {ok : D → Bool} (h : (m ρ st).wp (fun a s => (n ρ s).wp (fun b s => ∃ ns ds, a = .ins C ns ds ∧ ok b = true ∧ (F [.ins C ns ds, b] s).wp (fun d s => ∃ k, d = .bl k ∧ Q (.bl k) s) X) X) X) : (fEqI C F ok m n ρ st).wp Q X := by
  refine Res.bind2 h (fun a s k => Res.bind2 k (fun b s k => ?_))
  obtain ⟨ns, ds, rfl, h1, k⟩ := k
  dsimp only
  rw [if_pos ⟨rfl, h1⟩]
  refine Res.bind2 k (fun a s k => ?_)
  obtain ⟨k, rfl, q⟩ := k
  exact .ok (q)
theorem wp_reprI {C : Str} {F : fF} (h : (m ρ st).wp (fun a s => ∃ ns ds, a = .ins C ns ds ∧ (F [.ins C ns ds] s).wp (fun d s => ∃ k, d = .str k ∧ Q (.str k) s) noX) X) : (fReprI C F m ρ st).wp Q X := by
  refine Res.bind2 h (fun a s k => ?_)
  obtain ⟨ns, ds, rfl, k⟩ := k
  dsimp only
  rw [if_pos rfl]
  refine Res.wp_bind (wp_calm (Res.wp_mono k (fun a s k => ?_) fun _ _ h => h))
  obtain ⟨k, rfl, q⟩ := k
  exact .ok (q)
theorem wp_xf {C f : Str} {x : Exn} {ns : List Str} (h1 : x.cls = C) (h2 : x.fs = some (ns, ds)) (h3 : lookD f ns ds = some d) (k : Q d st) : (fXf C f x ρ st).wp Q X := by
  unfold fXf
  rw [if_pos h1, h2]
  dsimp only
  rw [h3]
  exact .ok (k)
theorem wp_tidx {ys : List Str} (h : (m ρ st).wp (fun y s => ∃ z j, y = .str z ∧ idxS ys z = some j ∧ Q (.int (j : Nat)) s) X) : (fTidx ys m ρ st).wp Q X := by
  refine Res.bind2 h (fun a s k => ?_)
  obtain ⟨z, j, rfl, e, q⟩ := k
  dsimp only
  rw [e]
  exact .ok q
theorem wp_kix {tab : List (Str × D)} (h : (m ρ st).wp (fun y s => ∃ z d, y = .str z ∧ tab.lookup z = some d ∧ Q d s) X) : (fKix tab m ρ st).wp Q X := by
  refine Res.bind2 h (fun a s k => ?_)
  obtain ⟨z, j, rfl, e, q⟩ := k
  dsimp only
  rw [e]
  exact .ok q
theorem wp_chain {o' : D → D → Option D} {p : fE} (h : (m ρ st).wp (fun a s => (n ρ s).wp (fun b s => ∃ c, o a b = some (.bl c) ∧ (c = true → (p ρ s).wp (fun e s => ∃ d, o' b e = some d ∧ Q d s) X) ∧ (c = false → Q (.bl false) s)) X) X) : (fChain o o' m n p ρ st).wp Q X := by
  refine Res.bind2 h (fun a s k => Res.bind2 k (fun b s k => ?_))
  obtain ⟨c, e, k1, k2⟩ := k
  rw [e]
  cases c with
  | true =>
    refine Res.bind2 (k1 rfl) (fun a s k => ?_)
    obtain ⟨d, e, q⟩ := k
    rw [e]
    exact .ok (q)
  | false => exact .ok (k2 rfl)
/-! statements -/
theorem wp_next (k : N ρ st) : (fNext ρ st).wp ⟨N, R, B, C, E⟩ := (.nx (k))
theorem wp_brk (k : B ρ st) : (fBrk ρ st).wp ⟨N, R, B, C, E⟩ := .bk k
theorem wp_cont (k : C ρ st) : (fCt ρ st).wp ⟨N, R, B, C, E⟩ := .ct k
theorem wp_seq (k : (a ρ st).wp ⟨fun ρ s => (b ρ s).wp ⟨N, R, B, C, E⟩, R, B, C, E⟩) : (fSeq a b ρ st).wp ⟨N, R, B, C, E⟩ := by
  unfold fSeq
  generalize a ρ st = r at k ⊢
  cases k with
  | nx h => exact h
  | rt h => exact .rt h
  | bk h => exact .bk h
  | ct h => exact .ct h
  | ex h => exact .ex h
theorem wp_drop (k : (m ρ st).wp (fun _ s => N ρ s) fun x s => E x ρ s) : (fDrop m ρ st).wp ⟨N, R, B, C, E⟩ := stB2 k fun _ _ k => .nx k
theorem wp_ret (k : (m ρ st).wp (fun d s => R d s) fun x s => E x ρ s) : (fRet m ρ st).wp ⟨N, R, B, C, E⟩ := stB2 k fun _ _ k => .rt k
theorem wp_retN (k : R .non st) : (fRetN ρ st).wp ⟨N, R, B, C, E⟩ := .rt k
theorem wp_set (k : (m ρ st).wp (fun d s => N (ρ.set i (some d)) s) fun x s => E x ρ s) : (fSet i m ρ st).wp ⟨N, R, B, C, E⟩ := stB2 k fun _ _ k => .nx k
theorem wp_par (k : (na ρ st).wp (fun ds s => ∃ a b, ds = [a, b] ∧ N ((ρ.set i (some a)).set j (some b)) s) fun x s => E x ρ s) : (fPar i j na ρ st).wp ⟨N, R, B, C, E⟩ := by
  refine stB2 k (fun ds s k => ?_)
  obtain ⟨a, b, rfl, k⟩ := k
  exact .nx (k)
theorem wp_asg {g : fG} (k : (m ρ st).wp (fun d s => ∃ ρ1 s1, g d ρ s = some (ρ1, s1) ∧ N ρ1 s1) fun x s => E x ρ s) : (fAsg m g ρ st).wp ⟨N, R, B, C, E⟩ := by
  refine stB2 k (fun ds s k => ?_)
  obtain ⟨a, b, e, k⟩ := k
  rw [e]
  exact .nx (k)
theorem wp_ifS (k : (t ρ st).wp (fun c s => (c = true → (a ρ s).wp ⟨N, R, B, C, E⟩) ∧ (c = false → (b ρ s).wp ⟨N, R, B, C, E⟩)) fun x s => E x ρ s) : (fIfS t a b ρ st).wp ⟨N, R, B, C, E⟩ := by
  refine stB2 k (fun c s k => ?_)
  cases c with
  | true => exact k.1 rfl
  | false => exact k.2 rfl
theorem wp_raise {Cn fld : Str} (k : (na ρ st).wp (fun ds s => ∃ d, ds = [d] ∧ E ⟨Cn, some ([fld], [d])⟩ ρ s) fun x s => E x ρ s) : (fRaise Cn fld na ρ st).wp ⟨N, R, B, C, E⟩ := by
  refine stB2 k (fun c s k => ?_)
  obtain ⟨d, rfl, k⟩ := k
  exact .ex k
theorem wp_try {cs : List ClF} (k : (a ρ st).wp ⟨N, R, B, C, fun x ρ s => (fPick cs x ρ s).wp ⟨N, R, B, C, E⟩⟩) : (fTry cs a ρ st).wp ⟨N, R, B, C, E⟩ := by
  unfold fTry
  generalize a ρ st = r at k ⊢
  cases k with
  | nx h => exact .nx h
  | rt h => exact .rt h
  | bk h => exact .bk h
  | ct h => exact .ct h
  | ex h => exact h
theorem wp_pickF {x : Exn} {cl : Str → Option Bool} {f : Exn → fS} {r : List ClF} (h : cl x.cls = some false) (k : (fPick r x ρ st).wp ⟨N, R, B, C, E⟩) : (fPick ((cl, i, f) :: r) x ρ st).wp ⟨N, R, B, C, E⟩ := by
  rw [fPick, h]
  exact k
theorem wp_pickT {x : Exn} {cl : Str → Option Bool} {f : Exn → fS} {r : List ClF} (h : cl x.cls = some true) (hi : i < ρ.length) (k : (f x (ρ.set i none) st).wp ⟨fun ρ s => N (ρ.set i none) s, R, fun ρ s => B (ρ.set i none) s, fun ρ s => C (ρ.set i none) s, fun _ _ _ => False⟩) : (fPick ((cl, i, f) :: r) x ρ st).wp ⟨N, R, B, C, E⟩ := by
  rw [fPick, h]
  dsimp only
  rw [if_pos hi]
  generalize f x (ρ.set i none) st = r at k ⊢
  cases k with
  | nx h => exact .nx h
  | rt h => exact .rt h
  | bk h => exact .bk h
  | ct h => exact .ct h
  | ex h => exact h.elim
theorem wp_fldS {Cn f : Str} (k : (n ρ st).wp (fun y s => (m ρ s).wp (fun x s => ∃ a ns ds, x = .loc a ∧ s[a]? = some (some (.ins Cn ns ds)) ∧ ns.length < 1000 ∧ N ρ (s.set a (some (.ins Cn (putN f ns) (putD f y ns ds))))) fun x s => E x ρ s) fun x s => E x ρ s) : (fFldS Cn f m n ρ st).wp ⟨N, R, B, C, E⟩ := by
  refine stB2 k (fun y s k => stB2 k (fun x s k => ?_))
  obtain ⟨a, ns, ds, rfl, h1, h2, k⟩ := k
  dsimp only
  rw [h1]
  dsimp only
  rw [if_pos ⟨rfl, h2⟩]
  exact .nx (k)
theorem wp_body {f : fS} {k : Nat} (h : (f (ds.map some ++ List.replicate k none) st).wp ⟨fun _ s => Q .non (gcF st.length true s), fun d s => Q d (gcF st.length (noLoc d) s), fun _ _ => False, fun _ _ => False, fun x _ s => X x (gcF st.length (noLocX x) s)⟩) : (fBody f k ds st).wp Q X := by
  unfold fBody
  generalize f (ds.map some ++ List.replicate k none) st = r at h ⊢
  cases h with
  | nx h => exact .ok h
  | rt h => exact .ok h
  | bk h => exact h.elim
  | ct h => exact h.elim
  | ex h => exact .ex h
/-- .. nothing of one's own is made or changed -/
theorem wp_body0 {f : fS} {k : Nat} (h : (f (ds.map some ++ List.replicate k none) st).wp ⟨fun _ s => s = st ∧ Q .non st, fun d s => s = st ∧ Q d st, fun _ _ => False, fun _ _ => False, fun x _ s => s = st ∧ X x st⟩) : (fBody f k ds st).wp Q X := by
  refine wp_body (RS.wp_mono h (fun _ s h => ?_) (fun _ s h => ?_) (fun _ _ h => h) (fun _ _ h => h) fun _ _ s h => ?_) <;> (obtain ⟨rfl, h⟩ := h; dsimp only; rw [gcF_same]; exact h)
/-! loops -/
theorem wp_for {it : fA} {g : fG} (k : (it ρ st).wp (fun ds s => (fForGo g b ds ρ s).wp ⟨N, R, B, C, E⟩) fun x s => E x ρ s) : (fFor it g b ρ st).wp ⟨N, R, B, C, E⟩ := stB_wp k
theorem wp_for_nil {g : fG} (k : N ρ st) : (fForGo g b [] ρ st).wp ⟨N, R, B, C, E⟩ := (.nx (k))
theorem wp_for_cons {g : fG} (h : g d ρ st = some (ρ', st')) (k : (b ρ' st').wp ⟨fun ρ s => (fForGo g b ds ρ s).wp ⟨N, R, B, C, E⟩, R, N, fun ρ s => (fForGo g b ds ρ s).wp ⟨N, R, B, C, E⟩, E⟩) : (fForGo g b (d :: ds) ρ st).wp ⟨N, R, B, C, E⟩ := by
  rw [fForGo, h]
  dsimp only
  generalize b ρ' st' = r at k ⊢
  cases k with
  | nx h => exact h
  | rt h => exact .rt h
  | bk h => exact .nx h
  | ct h => exact h
  | ex h => exact .ex h
/-- a loop, by what holds between two turns: the part taken, the part left -/
theorem wp_for_inv {α : Type} {enc : α → D} {g : fG} (I : List α → Rho → St → Prop) {xs : List α} (h0 : I [] ρ st)
    (turn : ∀ (pre : List α) (x : α) (post : List α) (ρ : Rho) (s : St), xs = pre ++ x :: post → I pre ρ s → ∃ ρ1 s1, g (enc x) ρ s = some (ρ1, s1) ∧ (b ρ1 s1).wp ⟨fun ρ s => I (pre ++ [x]) ρ s, R, N, fun ρ s => I (pre ++ [x]) ρ s, E⟩)
    (done : ∀ ρ s, I xs ρ s → N ρ s) : (fForGo g b (xs.map enc) ρ st).wp ⟨N, R, B, C, E⟩ := by
  have go : ∀ (post pre : List α) (ρ : Rho) (s : St), xs = pre ++ post → I pre ρ s → (fForGo g b (post.map enc) ρ s).wp ⟨N, R, B, C, E⟩ := by
    intro post
    induction post with
    | nil =>
      intro pre ρ s e h
      rw [List.append_nil] at e
      subst e
      exact .nx (done _ _ h)
    | cons x post ih =>
      intro pre ρ s e h
      obtain ⟨ρ1, s1, h1, h2⟩ := turn pre x post ρ s e h
      refine wp_for_cons h1 (RS.wp_mono h2 (fun ρ s h => ?_) (fun _ _ h => h) (fun _ _ h => h) (fun ρ s h => ?_) fun _ _ _ h => h)
      · exact ih (pre ++ [x]) ρ s (by rw [e]; simp) h
      · exact ih (pre ++ [x]) ρ s (by rw [e]; simp) h
  exact go xs [] ρ st rfl h0
theorem wp_iSq (k : (m ρ st).wp (fun d s => ∃ ds, seqOf d = some ds ∧ QA ds s) X) : (iSq m ρ st).wp QA X := by
  rw [iSq_l]
  refine Res.bind2 k (fun c s k => ?_)
  obtain ⟨ds, e, q⟩ := k
  rw [e]
  exact .ok q
theorem wp_iEn (k : (m ρ st).wp (fun d s => ∃ ds, seqOf d = some ds ∧ QA (enumD 0 ds) s) X) : (iEn m ρ st).wp QA X := by
  refine Res.bind2 k (fun c s k => ?_)
  obtain ⟨ds, e, q⟩ := k
  rw [e]
  exact .ok q
theorem wp_iR1 (k : (na ρ st).wp (fun ds s => ∃ j : Int, ds = [.int j] ∧ (-(2 ^ 62) ≤ j ∧ j < 2 ^ 62) ∧ QA (rngD 0 j.toNat) s) X) : (iR1 na ρ st).wp QA X := by
  refine Res.bind2 k (fun c s k => ?_)
  obtain ⟨j, rfl, h, q⟩ := k
  show ((if -(2 ^ 62) ≤ j ∧ j < 2 ^ 62 then Res.ok (rngD 0 j.toNat) s else .bad) : Res (List D)).wp QA X
  rw [if_pos h]
  exact .ok q
/-! comprehensions -/
theorem wp_lc {it : fA} {g : fG} {vs : List Nat} (k : (it ρ st).wp (fun ds s => (fLcGo g t m vs ρ ds [] s).wp (fun acc s => Q (.lst acc) s) X) X) : (fLc it g t m vs ρ st).wp Q X :=
  Res.bind2 k (fun _ _ k => Res.bind2 k fun _ _ k => .ok k)
/-- .. the state may change: by what holds between two turns -/
theorem wp_lc_inv {α : Type} {enc : α → D} {g : fG} {vs : List Nat} (I : List α → List D → St → Prop) {xs : List α} (hl : xs.length ≤ 1000000) (h0 : I [] [] st)
    (turn : ∀ (pre : List α) (x : α) (post : List α) (ys : List D) (s : St), xs = pre ++ x :: post → ys.length = pre.length → I pre ys s → ∃ ρ1 s1, g (enc x) (wipeD ρ vs) s = some (ρ1, s1) ∧ (m ρ1 s1).wp (fun y s => I (pre ++ [x]) (ys ++ [y]) s) noX)
    (done : ∀ ys s, ys.length = xs.length → I xs ys s → QA ys s) : (fLcGo g fYes m vs ρ (xs.map enc) [] st).wp QA X := by
  have go : ∀ (post pre : List α) (ys : List D) (s : St), xs = pre ++ post → ys.length = pre.length → I pre ys s → (fLcGo g fYes m vs ρ (post.map enc) ys s).wp QA X := by
    intro post
    induction post with
    | nil =>
      intro pre ys s e l h
      rw [List.append_nil] at e
      subst e
      exact .ok (done _ _ l h)
    | cons x post ih =>
      intro pre ys s e l h
      obtain ⟨ρ1, s1, h1, h2⟩ := turn pre x post ys s e l h
      obtain ⟨y, s2, e2, h2⟩ := Res.ok_wp h2
      rw [List.map_cons, fLcGo, h1]
      dsimp only
      simp only [fYes]
      rw [e2]
      dsimp only
      have hz : ys.length < sizeLine := by
        have z : xs.length = pre.length + (post.length + 1) := by rw [e]; simp
        rw [sizeLine_e]
        omega
      rw [if_pos hz]
      exact ih (pre ++ [x]) (ys ++ [y]) s2 (by rw [e]; simp) (by simp [l]) h2
  exact go xs [] [] st rfl rfl h0
/-- .. the state stays: what is made of each item -/
theorem wp_lc_map {α : Type} {enc : α → D} {g : fG} {vs : List Nat} (F : α → D) {xs : List α} (hl : xs.length ≤ 1000000)
    (turn : ∀ x ∈ xs, ∃ ρ1, g (enc x) (wipeD ρ vs) st = some (ρ1, st) ∧ (m ρ1 st).wp (fun y s => y = F x ∧ s = st) noX) (done : QA (xs.map F) st) : (fLcGo g fYes m vs ρ (xs.map enc) [] st).wp QA X := by
  refine wp_lc_inv (fun pre ys s => s = st ∧ ys = pre.map F) hl ⟨rfl, rfl⟩ (fun pre x post ys s e _ h => ?_) fun ys s _ h => ?_
  · obtain ⟨rfl, rfl⟩ := h
    obtain ⟨ρ1, h1, h2⟩ := turn x (by rw [e]; simp)
    refine ⟨ρ1, s, h1, Res.wp_mono h2 (fun y s' h => ?_) fun _ _ h => h⟩
    obtain ⟨rfl, rfl⟩ := h
    exact ⟨rfl, by simp⟩
  · obtain ⟨rfl, rfl⟩ := h
    exact done
end
end FL

set_option Elab.async false
set_option linter.all false
set_option maxRecDepth 100000
set_option maxHeartbeats 1000000
/-! small rules for what the backward rules ask -/
namespace FL
open PySem PySem.Spec PyProof.Rows L2 DL
section
variable {d e a b : D} {ds es : List D} {Q : D → St → Prop} {X : Exn → St → Prop} {s st : St} {C P : Prop} {c : Bool}
theorem at_c0 : atI (d :: ds) 0 = some d := at_nat (ds := d :: ds) (k := 0) (Nat.succ_pos _)
theorem oIx_t0 : oIx (.tup (d :: ds)) (.int 0) = some d := at_c0
theorem oIx_l0 : oIx (.lst (d :: ds)) (.int 0) = some d := at_c0
theorem set_at {n : Nat} {y x : Option DO} (h : st[n]? = some y) : (st.set n x)[n]? = some x := by
  have hl : n < st.length := (List.getElem?_eq_some_iff.mp h).1
  exact List.getElem?_set_self hl
theorem pow9 : oPow (.int 10) (.int 9) = some (.int 1000000000) := rfl
theorem pow18 : oPow (.int 10) (.int 18) = some (.int 1000000000000000000) := rfl
theorem pow20 : oPow (.int 10) (.int 20) = some (.int 100000000000000000000) := rfl
theorem pow25 : oPow (.int 10) (.int 25) = some (.int 10000000000000000000000000) := rfl
theorem pow30 : oPow (.int 10) (.int 30) = some (.int 1000000000000000000000000000000) := rfl
theorem oDiv_big {i j : Int} (h : 0 < j) (h2 : j ≤ 10000000000000000000000000000000000000000) : oDiv (.int i) (.int j) = some (.int (i / j)) := oI_ok (by
  simp only [Bool.and_eq_true, decide_eq_true_eq]
  refine ⟨h, ?_⟩
  have hz : j.natAbs ≠ 0 := by omega
  rw [Nat.log2_lt hz]
  have h3 : j.natAbs < 2 ^ 200 := by omega
  exact Nat.lt_trans h3 (Nat.pow_lt_pow_right (a := 2) (Nat.lt_succ_self 1) (by omega)))
theorem oMul1_intR {i j : Int} (h : -(2 ^ 64) < j ∧ j < 2 ^ 64) : oMul1 (.int i) (.int j) = some (.int (i * j)) := by
  show oMul (.int i) (.int j) = _
  have q : mulOk i j = true := by
    simp only [mulOk, Bool.or_eq_true, Bool.and_eq_true, decide_eq_true_eq]
    exact .inl (.inr h)
  simp only [oMul, q, if_true]
theorem oMul1_b {i : Int} {c : Bool} : oMul1 (.int i) (.int (if c = true then 1 else 0)) = some (.int (i * (if c = true then 1 else 0))) := by
  cases c
  · exact oMul1_intR (by decide)
  · exact oMul1_intR (by decide)
theorem intsOf_map {xs : List Int} : intsOf (xs.map D.int) = some xs := by
  induction xs with
  | nil => rfl
  | cons x xs ih =>
    show (intsOf (xs.map D.int)).map (x :: ·) = _
    rw [ih]
    rfl
theorem cutD_map {α : Type} {enc : α → D} {xs : List α} {lo hi : Option Int} : ∃ ys : List α, DL.cutD (xs.map enc) lo hi = ys.map enc := ⟨(xs.drop (HT.sIx xs.length 0 lo)).take (HT.sIx xs.length xs.length hi - HT.sIx xs.length 0 lo), by
  unfold DL.cutD
  rw [List.length_map, List.map_take, List.map_drop]⟩
theorem lSum_cut {xs : List Int} {lo hi : Option Int} : ∃ z, lSum [.lst (DL.cutD (xs.map D.int) lo hi)] = some (.int z) := by
  obtain ⟨ys, e⟩ := cutD_map (enc := D.int) (xs := xs) (lo := lo) (hi := hi)
  rw [e]
  show ∃ z, (intsOf (ys.map D.int)).map _ = _
  rw [intsOf_map]
  exact ⟨_, rfl⟩
theorem gw_op {o : Option D} {R : D → Prop} (h : o = some d) (k : R d) : ∃ d, o = some d ∧ R d := ⟨d, h, k⟩
theorem gw_t (h : c = true) (k : C) : (c = true → C) ∧ (c = false → P) := ⟨fun _ => k, fun q => (nomatch h.symm.trans q)⟩
theorem gw_f (h : c = false) (k : P) : (c = true → C) ∧ (c = false → P) := ⟨fun q => (nomatch h.symm.trans q), fun _ => k⟩
theorem gw_two {p : Prop} [Decidable p] (k1 : p → C) (k2 : ¬p → P) : (decide p = true → C) ∧ (decide p = false → P) := ⟨fun h => k1 (of_decide_eq_true h), fun h => k2 (of_decide_eq_false h)⟩
theorem gw_bl {R : Bool → Prop} (k : R c) : ∃ b, D.bl c = .bl b ∧ R b := ⟨c, rfl, k⟩
theorem gw_int {i : Int} {QI : Int → Prop} (k : QI i) : ∃ j, D.int i = .int j ∧ QI j := ⟨i, rfl, k⟩
theorem gw_sz (h : Nat.ble ds.length 1000 = true) (k : C) : ds.length ≤ sizeLine ∧ C := by
  have := Nat.le_of_ble_eq_true h
  refine ⟨?_, k⟩
  rw [sizeLine_e]
  omega
theorem gw_len {m n : Nat} (h : m = n) (k : C) : m = n ∧ C := ⟨h, k⟩
theorem gw_ins {K f : Str} {x : D} {ns : List Str} {fs : List D} {R : List Str → List D → Prop} (h : x = .ins K ns fs) (h2 : f ∉ ns) (k : R ns fs) : ∃ ns fs, x = .ins K ns fs ∧ f ∉ ns ∧ R ns fs := ⟨ns, fs, h, h2, k⟩
theorem gw_ins1 {K : Str} {x : D} {ns : List Str} {fs : List D} {R : List Str → List D → Prop} (h : x = .ins K ns fs) (k : R ns fs) : ∃ ns fs, x = .ins K ns fs ∧ R ns fs := ⟨ns, fs, h, k⟩
theorem gw_fld {K f : Str} {x : D} {ns : List Str} {fs : List D} {R : D → Prop} (h : x = .ins K ns fs) (h2 : lookD f ns fs = some d) (k : R d) : ∃ ns fs d, x = .ins K ns fs ∧ lookD f ns fs = some d ∧ R d := ⟨ns, fs, d, h, h2, k⟩
theorem gw_two_ins {K : Str} {ns ms : List Str} {R : List Str → List D → List Str → List D → Prop} (h1 : a = .ins K ns ds) (h2 : b = .ins K ms es) (k : R ns ds ms es) : ∃ ns ds ms es, a = .ins K ns ds ∧ b = .ins K ms es ∧ R ns ds ms es := ⟨ns, ds, ms, es, h1, h2, k⟩
theorem gw_seq {R : List D → Prop} (h : seqOf d = some ds) (k : R ds) : ∃ ds, seqOf d = some ds ∧ R ds := ⟨ds, h, k⟩
theorem gw_ix {p : Nat} {i : Int} {R : D → Prop} (h1 : a = .loc p) (h2 : b = .int i) (h3 : s[p]? = some (some (.lst ds))) (h4 : atI ds i = some d) (k : R d) : ∃ a' i ds d, a = .loc a' ∧ b = .int i ∧ s[a']? = some (some (.lst ds)) ∧ atI ds i = some d ∧ R d := ⟨p, i, ds, d, h1, h2, h3, h4, k⟩
theorem gw_asg {g : Option (Rho × St)} {ρ : Rho} {N : Rho → St → Prop} (h : g = some (ρ, s)) (k : N ρ s) : ∃ ρ s, g = some (ρ, s) ∧ N ρ s := ⟨ρ, s, h, k⟩
theorem gw_isi {ts : List BT} {R : Bool → Prop} (h1 : (tyD d).isSome = true) (h2 : isTs d ts = some c) (k : R c) : (tyD d).isSome = true ∧ ∃ b, isTs d ts = some b ∧ R b := ⟨h1, c, h2, k⟩
theorem gw_isC {t : List (Str × Bool)} {R : Bool → Prop} (h2 : isC t d = some c) (k : R c) : ∃ b, isC t d = some b ∧ R b := ⟨c, h2, k⟩
theorem gw_one {R : D → Prop} (k : R d) : ∃ e, [d] = [e] ∧ R e := ⟨d, rfl, k⟩
theorem gw_r1 {j : Int} {R : Int → Prop} (h : -(2 ^ 62) ≤ j ∧ j < 2 ^ 62) (k : R j) : ∃ i : Int, [D.int j] = [.int i] ∧ (-(2 ^ 62) ≤ i ∧ i < 2 ^ 62) ∧ R i := ⟨j, rfl, h, k⟩
theorem gw_backT {x : List D} {l r : Prop} {R : List D → Prop} (k : R x) : l ∨ r ∨ ∃ y, D.tup x = .tup y ∧ R y := .inr (.inr ⟨x, rfl, k⟩)
theorem gw_backL {x : List D} {r : Prop} {R : List D → Prop} (k : R x) : (∃ y, D.lst x = .lst y ∧ R y) ∨ r := .inl ⟨x, rfl, k⟩
theorem gw_tix {y : D} {z : Str} {j : Nat} {ys : List Str} {R : Nat → Prop} (h1 : y = .str z) (h2 : idxS ys z = some j) (k : R j) : ∃ z j, y = .str z ∧ idxS ys z = some j ∧ R j := ⟨z, j, h1, h2, k⟩
theorem gw_kix {y : D} {z : Str} {tab : List (Str × D)} {R : D → Prop} (h1 : y = .str z) (h2 : tab.lookup z = some d) (k : R d) : ∃ z d, y = .str z ∧ tab.lookup z = some d ∧ R d := ⟨z, d, h1, h2, k⟩
theorem wp_pickT1 {c' : Str} {fs : Option (List Str × List D)} {cl : Str → Option Bool} {i : Nat} {f : Exn → fS} {r : List ClF} {ρ : Rho} {N B K : Rho → St → Prop} {R : D → St → Prop} {E : Exn → Rho → St → Prop} (h : cl c' = some true) (hi : i < ρ.length) (k : (f ⟨c', fs⟩ (ρ.set i none) st).wp ⟨fun ρ s => N (ρ.set i none) s, R, fun ρ s => B (ρ.set i none) s, fun ρ s => K (ρ.set i none) s, fun _ _ _ => False⟩) : (fPick ((cl, i, f) :: r) ⟨c', fs⟩ ρ st).wp ⟨N, R, B, K, E⟩ := wp_pickT h hi k
theorem wp_pickF1 {c' : Str} {fs : Option (List Str × List D)} {cl : Str → Option Bool} {i : Nat} {f : Exn → fS} {r : List ClF} {ρ : Rho} {N B K : Rho → St → Prop} {R : D → St → Prop} {E : Exn → Rho → St → Prop} (h : cl c' = some false) (k : (fPick r ⟨c', fs⟩ ρ st).wp ⟨N, R, B, K, E⟩) : (fPick ((cl, i, f) :: r) ⟨c', fs⟩ ρ st).wp ⟨N, R, B, K, E⟩ := wp_pickF h k
end
end FL

set_option Elab.async false
set_option linter.all false
set_option maxRecDepth 100000
set_option maxHeartbeats 1000000
/-! == and repr of trees that are plain data -/
namespace FL
open PySem PySem.Spec PyProof.Rows L2 DL
mutual
/-- plain data, so deep at most -/
def plD : Nat → D → Bool
  | _, .non => true
  | _, .bl _ => true
  | _, .int _ => true
  | _, .str x => PyData.strOk x
  | n + 1, .lst ds => plL n ds
  | n + 1, .tup ds => plL n ds
  | _, _ => false
def plL : Nat → List D → Bool
  | _, [] => true
  | n, d :: ds => plD n d && plL n ds
end
mutual
theorem pl_py : ∀ {n : Nat} {d : D}, plD n d = true → ∃ p, toPy d = some p ∧ p.canLay0 = true ∧ p.depth ≤ n
  | n, .non, _ => ⟨_, rfl, rfl, Nat.zero_le _⟩
  | n, .bl _, _ => ⟨_, rfl, rfl, Nat.zero_le _⟩
  | n, .int _, _ => ⟨_, rfl, rfl, Nat.zero_le _⟩
  | n, .str x, h => ⟨_, rfl, by simpa [plD, PyData.canLay0] using h, Nat.zero_le _⟩
  | n + 1, .lst ds, h => by
    obtain ⟨ps, e, c, l⟩ := pl_pyL (n := n) (ds := ds) (by simpa [plD] using h)
    exact ⟨.list ps, by simp [toPy, e], by simpa [PyData.canLay0] using c, by simp only [PyData.depth]; omega⟩
  | n + 1, .tup ds, h => by
    obtain ⟨ps, e, c, l⟩ := pl_pyL (n := n) (ds := ds) (by simpa [plD] using h)
    exact ⟨.tuple ps, by simp [toPy, e], by simpa [PyData.canLay0] using c, by simp only [PyData.depth]; omega⟩
  | 0, .lst _, h => by simp [plD] at h
  | 0, .tup _, h => by simp [plD] at h
  | n, .dic _ _, h => by simp [plD] at h
  | n, .ins _ _ _, h => by simp [plD] at h
  | n, .frz _, h => by simp [plD] at h
  | n, .loc _, h => by simp [plD] at h
  | n, .cls _, h => by simp [plD] at h
  | n, .ty _, h => by simp [plD] at h
theorem pl_pyL : ∀ {n : Nat} {ds : List D}, plL n ds = true → ∃ ps, toPyL ds = some ps ∧ PyData.canLayAll0 ps = true ∧ PyData.depthAll ps ≤ n
  | n, [], _ => ⟨[], rfl, rfl, Nat.zero_le _⟩
  | n, d :: ds, h => by
    simp only [plL, Bool.and_eq_true] at h
    obtain ⟨p, e1, c1, l1⟩ := pl_py h.1
    obtain ⟨ps, e2, c2, l2⟩ := pl_pyL h.2
    exact ⟨p :: ps, by simp [toPyL, e1, e2], by simp [PyData.canLayAll0, c1, c2], by simp only [PyData.depthAll]; omega⟩
end
mutual
def deq : D → D → Bool
  | .non, .non => true
  | .bl a, .bl b => a == b
  | .int i, .int j => i == j
  | .bl a, .int j => (if a then 1 else 0) == j
  | .int i, .bl b => i == (if b then 1 else 0)
  | .str x, .str y => x == y
  | .lst xs, .lst ys => deqL xs ys
  | .tup xs, .tup ys => deqL xs ys
  | _, _ => false
def deqL : List D → List D → Bool
  | [], [] => true
  | x :: xs, y :: ys => deq x y && deqL xs ys
  | _, _ => false
end
mutual
theorem deq_py : ∀ {a b : D} {p q : PyData}, toPy a = some p → toPy b = some q → PyData.eqv p q = deq a b
  | .non, b, p, q, h1, h2 => by
    cases h1
    cases b <;> simp [toPy] at h2 <;> first | (subst h2; simp [PyData.eqv, deq]; done) | (obtain ⟨_, _, rfl⟩ := h2; simp [PyData.eqv, deq])
  | .bl _, b, p, q, h1, h2 => by
    cases h1
    cases b <;> simp [toPy] at h2 <;> first | (subst h2; simp [PyData.eqv, deq]; done) | (obtain ⟨_, _, rfl⟩ := h2; simp [PyData.eqv, deq])
  | .int _, b, p, q, h1, h2 => by
    cases h1
    cases b <;> simp [toPy] at h2 <;> first | (subst h2; simp [PyData.eqv, deq]; done) | (obtain ⟨_, _, rfl⟩ := h2; simp [PyData.eqv, deq])
  | .str _, b, p, q, h1, h2 => by
    cases h1
    cases b <;> simp [toPy] at h2 <;> first | (subst h2; simp [PyData.eqv, deq]; done) | (obtain ⟨_, _, rfl⟩ := h2; simp [PyData.eqv, deq])
  | .lst xs, b, p, q, h1, h2 => by
    simp only [toPy, Option.map_eq_some_iff] at h1
    obtain ⟨ps, e1, rfl⟩ := h1
    cases b with
    | lst ys =>
      simp only [toPy, Option.map_eq_some_iff] at h2
      obtain ⟨qs, e2, rfl⟩ := h2
      simp only [PyData.eqv, deq]
      exact deqL_py e1 e2
    | tup ys =>
      simp only [toPy, Option.map_eq_some_iff] at h2
      obtain ⟨qs, e2, rfl⟩ := h2
      simp [PyData.eqv, deq]
    | _ => simp [toPy] at h2 <;> (subst h2; simp [PyData.eqv, deq])
  | .tup xs, b, p, q, h1, h2 => by
    simp only [toPy, Option.map_eq_some_iff] at h1
    obtain ⟨ps, e1, rfl⟩ := h1
    cases b with
    | tup ys =>
      simp only [toPy, Option.map_eq_some_iff] at h2
      obtain ⟨qs, e2, rfl⟩ := h2
      simp only [PyData.eqv, deq]
      exact deqL_py e1 e2
    | lst ys =>
      simp only [toPy, Option.map_eq_some_iff] at h2
      obtain ⟨qs, e2, rfl⟩ := h2
      simp [PyData.eqv, deq]
    | _ => simp [toPy] at h2 <;> (subst h2; simp [PyData.eqv, deq])
  | .dic _ _, _, _, _, h, _ => by simp [toPy] at h
  | .ins _ _ _, _, _, _, h, _ => by simp [toPy] at h
  | .frz _, _, _, _, h, _ => by simp [toPy] at h
  | .loc _, _, _, _, h, _ => by simp [toPy] at h
  | .cls _, _, _, _, h, _ => by simp [toPy] at h
  | .ty _, _, _, _, h, _ => by simp [toPy] at h
theorem deqL_py : ∀ {a b : List D} {p q : List PyData}, toPyL a = some p → toPyL b = some q → PyData.eqvAll p q = deqL a b
  | [], b, p, q, h1, h2 => by
    cases h1
    cases b with
    | nil => cases h2; simp [PyData.eqvAll, deqL]
    | cons y ys =>
      simp only [toPyL] at h2
      split at h2
      · cases h2; simp [PyData.eqvAll, deqL]
      · cases h2
  | x :: xs, b, p, q, h1, h2 => by
    simp only [toPyL] at h1
    split at h1
    · rename_i p1 ps e1 e2
      cases h1
      cases b with
      | nil => cases h2; simp [PyData.eqvAll, deqL]
      | cons y ys =>
        simp only [toPyL] at h2
        split at h2
        · rename_i q1 qs f1 f2
          cases h2
          simp only [PyData.eqvAll, deqL]
          rw [deq_py e1 f1, deqL_py e2 f2]
        · cases h2
    · cases h1
end
theorem shaped_of {p : PyData} {n : Nat} (h : n ≤ 60) (c : p.canLay0 = true) (l : p.depth ≤ n) : SeqAt.shaped p = true := by
  unfold SeqAt.shaped
  rw [c]
  simp
  omega
theorem oEqB_pl {neg : Bool} {m n : Nat} {a b : D} (ha : plD m a = true) (hb : plD n b = true) (hm : m ≤ 60) (hn : n ≤ 60) : oEqB neg a b = some (.bl (neg != deq a b)) := by
  obtain ⟨p, e1, c1, l1⟩ := pl_py ha
  obtain ⟨q, e2, c2, l2⟩ := pl_py hb
  unfold oEqB
  rw [e1, e2]
  dsimp only
  rw [if_pos ⟨shaped_of hm c1 l1, shaped_of hn c2 l2⟩, deq_py e1 e2]
theorem oEq_pl {a b : D} (ha : plD 20 a = true) (hb : plD 20 b = true) : oEq a b = some (.bl (deq a b)) := by
  have := oEqB_pl (neg := false) ha hb (by decide) (by decide)
  simpa [oEq] using this
theorem oNe_pl {a b : D} (ha : plD 20 a = true) (hb : plD 20 b = true) : oNe a b = some (.bl (!deq a b)) := by
  have := oEqB_pl (neg := true) ha hb (by decide) (by decide)
  simpa [oNe] using this
mutual
theorem deq_self : ∀ {n : Nat} {d : D}, plD n d = true → deq d d = true
  | _, .non, _ => rfl
  | _, .bl _, _ => by simp [deq]
  | _, .int _, _ => by simp [deq]
  | _, .str _, _ => by simp [deq]
  | n + 1, .lst ds, h => by simpa [deq] using deqL_self (n := n) (by simpa [plD] using h)
  | n + 1, .tup ds, h => by simpa [deq] using deqL_self (n := n) (by simpa [plD] using h)
  | 0, .lst _, h => by simp [plD] at h
  | 0, .tup _, h => by simp [plD] at h
  | n, .dic _ _, h => by simp [plD] at h
  | n, .ins _ _ _, h => by simp [plD] at h
  | n, .frz _, h => by simp [plD] at h
  | n, .loc _, h => by simp [plD] at h
  | n, .cls _, h => by simp [plD] at h
  | n, .ty _, h => by simp [plD] at h
theorem deqL_self : ∀ {n : Nat} {ds : List D}, plL n ds = true → deqL ds ds = true
  | _, [], _ => by simp [deqL]
  | n, d :: ds, h => by
    simp only [plL, Bool.and_eq_true] at h
    simp [deqL, deq_self h.1, deqL_self h.2]
end
theorem oNe_self {d : D} (h : plD 20 d = true) : oNe d d = some (.bl false) := by
  rw [oNe_pl h h, deq_self h]
  rfl
theorem plL_map {α : Type} {n : Nat} {f : α → D} {xs : List α} (h : ∀ x ∈ xs, plD n (f x) = true) : plL n (xs.map f) = true := by
  induction xs with
  | nil => rfl
  | cons x xs ih => simp [plL, h x List.mem_cons_self, ih fun y hy => h y (List.mem_cons_of_mem _ hy)]
mutual
theorem pl_nl : ∀ {n : Nat} {d : D}, plD n d = true → noLoc d = true
  | _, .non, _ => rfl
  | _, .bl _, _ => rfl
  | _, .int _, _ => rfl
  | _, .str _, _ => rfl
  | n + 1, .lst ds, h => by simpa [noLoc] using plL_nl (n := n) (by simpa [plD] using h)
  | n + 1, .tup ds, h => by simpa [noLoc] using plL_nl (n := n) (by simpa [plD] using h)
  | 0, .lst _, h => by simp [plD] at h
  | 0, .tup _, h => by simp [plD] at h
  | n, .dic _ _, h => by simp [plD] at h
  | n, .ins _ _ _, h => by simp [plD] at h
  | n, .frz _, h => by simp [plD] at h
  | n, .loc _, h => by simp [plD] at h
  | n, .cls _, h => by simp [plD] at h
  | n, .ty _, h => by simp [plD] at h
theorem plL_nl : ∀ {n : Nat} {ds : List D}, plL n ds = true → noLocL ds = true
  | _, [], _ => rfl
  | n, d :: ds, h => by
    simp only [plL, Bool.and_eq_true] at h
    simp [noLocL, pl_nl h.1, plL_nl h.2]
end
end FL

set_option Elab.async false
set_option linter.all false
set_option maxRecDepth 100000
set_option maxHeartbeats 1000000
/-! backwards: own dicts, truth, pop, x += e -/
namespace FL
open PySem PySem.Spec PyProof.Rows L2 DL
section
variable {ρ : Rho} {st : St} {d : D} {Q : D → St → Prop} {QB : Bool → St → Prop} {X : Exn → St → Prop} {N B C : Rho → St → Prop} {R : D → St → Prop} {E : Exn → Rho → St → Prop} {m n p : fE} {i : Nat}
theorem wp_dget (k : (m ρ st).wp (fun x s => (n ρ s).wp (fun y s => ∃ d, dgetR s x y = some d ∧ Q d s) X) X) : (fDGet m n ρ st).wp Q X := by
  refine Res.bind2 k (fun a s k => Res.bind2 k (fun b s k => ?_))
  obtain ⟨d, e, q⟩ := k
  rw [e]
  exact .ok q
theorem wp_din {neg : Bool → Bool} (k : (m ρ st).wp (fun y s => (n ρ s).wp (fun x s => ∃ b, dinR s y x = some b ∧ Q (.bl (neg b)) s) X) X) : (fDIn neg m n ρ st).wp Q X := by
  refine Res.bind2 k (fun a s k => Res.bind2 k (fun b s k => ?_))
  obtain ⟨d, e, q⟩ := k
  rw [e]
  exact .ok q
theorem wp_dput (k : (p ρ st).wp (fun d s => (m ρ s).wp (fun x s => (n ρ s).wp (fun y s => ∃ s', dputR s x y d = some s' ∧ N ρ s') fun x s => E x ρ s) fun x s => E x ρ s) fun x s => E x ρ s) : (fDPut m n p ρ st).wp ⟨N, R, B, C, E⟩ := by
  refine stB2 k (fun d s k => stB2 k (fun x s k => stB2 k (fun y s k => ?_)))
  obtain ⟨s', e, q⟩ := k
  rw [e]
  exact .nx q
theorem wp_daug {g : Int → Int → Int} (k : (m ρ st).wp (fun x s => (n ρ s).wp (fun y s => ∃ i, dgetR s x y = some (.int i) ∧ (p ρ s).wp (fun d s => ∃ j s', d = .int j ∧ dputR s x y (.int (g i j)) = some s' ∧ N ρ s') fun x s => E x ρ s) fun x s => E x ρ s) fun x s => E x ρ s) : (fDAug g m n p ρ st).wp ⟨N, R, B, C, E⟩ := by
  refine stB2 k (fun x s k => stB2 k (fun y s k => ?_))
  obtain ⟨i, e, k⟩ := k
  rw [e]
  refine stB2 k (fun d s k => ?_)
  obtain ⟨j, s', rfl, e2, q⟩ := k
  unfold daugK
  dsimp only
  rw [e2]
  exact .nx q
theorem wp_tru (k : (m ρ st).wp (fun d s => ∃ b, truD s d = some b ∧ QB b s) X) : (fTru m ρ st).wp QB X := by
  refine Res.bind2 k (fun a s k => ?_)
  obtain ⟨d, e, q⟩ := k
  rw [e]
  exact .ok q
theorem wp_pop (k : (m ρ st).wp (fun x s => ∃ d s', popR s x = some (d, s') ∧ Q d s') X) : (fPop m ρ st).wp Q X := by
  refine Res.bind2 k (fun a s k => ?_)
  obtain ⟨d, s', e, q⟩ := k
  rw [e]
  exact .ok q
theorem wp_pop0 (k : (m ρ st).wp (fun x s => ∃ d s', popR0 s x = some (d, s') ∧ Q d s') X) : (fPop0 m ρ st).wp Q X := by
  refine Res.bind2 k (fun a s k => ?_)
  obtain ⟨d, s', e, q⟩ := k
  rw [e]
  exact .ok q
theorem wp_frzD (k : (m ρ st).wp (fun x s => ∃ d s', frzD 100000 x s = some (d, s') ∧ Q d s') X) : (fFrzD m ρ st).wp Q X := by
  refine Res.bind2 k (fun a s k => ?_)
  obtain ⟨d, s', e, q⟩ := k
  rw [e]
  exact .ok q
theorem wp_augN {g : Int → Int → Int} {a : Int} (h : ρ[i]? = some (some (.int a))) (k : (m ρ st).wp (fun d s => ∃ b, d = .int b ∧ N (ρ.set i (some (.int (g a b)))) s) fun x s => E x ρ s) : (fAugN g i m ρ st).wp ⟨N, R, B, C, E⟩ := by
  unfold fAugN
  rw [h]
  dsimp only
  refine stB2 k (fun d s k => ?_)
  obtain ⟨b, rfl, q⟩ := k
  exact .nx q
theorem wp_disp {fs : List (fE × fE)} (k : (fPairs fs ρ (st ++ [some (.dic [] [])])).wp (fun ps s => dicAt s st.length = some ([], []) ∧ ps.length ≤ 15 ∧ Q (.loc st.length) (s.set st.length (some (.dic (mergeD ([], []) ps).1 (mergeD ([], []) ps).2)))) X) : (fDisp fs ρ st).wp Q X := by
  refine Res.bind2 k (fun ps s k => ?_)
  obtain ⟨e, l, q⟩ := k
  rw [e]
  dsimp only
  rw [if_pos l]
  exact .ok q
theorem wp_pairs0 {Q : List (Key × D) → St → Prop} (k : Q [] st) : (fPairs [] ρ st).wp Q X := .ok k
theorem wp_pairs {fs : List (fE × fE)} {Q : List (Key × D) → St → Prop} (k : (m ρ st).wp (fun x s => (n ρ s).wp (fun y s => ∃ q, kOf x = some q ∧ (fPairs fs ρ s).wp (fun ps s => Q ((q, y) :: ps) s) X) X) X) : (fPairs ((m, n) :: fs) ρ st).wp Q X := by
  refine Res.bind2 k (fun x s k => Res.bind2 k (fun y s k => ?_))
  obtain ⟨q, e, k⟩ := k
  rw [e]
  exact Res.bind2 k fun _ _ k => .ok k
/-! a state and more behind it -/
theorem ap_at {t : St} {i : Nat} : (st ++ t)[st.length + i]? = t[i]? := by
  rw [List.getElem?_append_right (by omega)]
  congr 1
  omega
theorem ap_at0 {t : St} : (st ++ t)[st.length]? = t[0]? := by
  rw [List.getElem?_append_right (by omega)]
  congr 1
  omega
theorem ap_set {t : St} {i : Nat} {x : Option DO} : (st ++ t).set (st.length + i) x = st ++ t.set i x := by
  rw [List.set_append_right _ _ (by omega)]
  congr 2
  omega
theorem ap_set0 {t : St} {x : Option DO} : (st ++ t).set st.length x = st ++ t.set 0 x := by
  rw [List.set_append_right _ _ (by omega)]
  congr 2
  omega
theorem gcF_ap {t : St} (hc : Clean st) : gcF st.length true (st ++ t) = st := gcF_app (hc _)
end
end FL

set_option Elab.async false
set_option linter.all false
set_option maxRecDepth 100000
set_option maxHeartbeats 1000000
/-! repr of plain data: there is a text, and == of texts takes it -/
namespace FL
open PySem PySem.Spec PyProof.Rows L2 DL
theorem ok_iff {x : Str} : PyData.strOk x = true ↔ ∀ c ∈ x.cps.toList, c < 1114112 := by
  unfold PyData.strOk
  rw [← Array.all_toList, List.all_eq_true]
  simp
theorem ok_app {x y : Str} (hx : PyData.strOk x = true) (hy : PyData.strOk y = true) : PyData.strOk (x ++ y) = true := by
  rw [ok_iff] at *
  intro c hc
  have e : (x ++ y).cps.toList = x.cps.toList ++ y.cps.toList := by
    show (x.cps ++ y.cps).toList = _
    exact Array.toList_append
  rw [e] at hc
  rcases List.mem_append.mp hc with hc | hc
  · exact hx c hc
  · exact hy c hc
theorem ok_ofString (s : String) : PyData.strOk (Str.ofString s) = true := by
  rw [ok_iff, signs_ofString]
  intro c hc
  obtain ⟨ch, _, rfl⟩ := List.mem_map.mp hc
  have v : ch.val.toNat < 0xd800 ∨ (0xdfff < ch.val.toNat ∧ ch.val.toNat < 0x110000) := ch.valid
  show ch.val.toNat < 1114112
  omega
theorem len_app {x y : Str} : (x ++ y).length = x.length + y.length := strLen_append x y
mutual
def okR : Nat → D → Bool
  | _, .non => true
  | _, .int i => decide (i.natAbs.log2 < 1920)
  | _, .str x => PyData.strOk (PyData.shown (.str x)) && PyData.showable (.str x)
  | n + 1, .lst ds => okRL n ds
  | n + 1, .tup ds => okRL n ds
  | _, _ => false
def okRL : Nat → List D → Bool
  | _, [] => true
  | n, d :: ds => okR n d && okRL n ds
end
mutual
def lenR : D → Nat
  | .non => 4
  | .int i => (toString i).length
  | .str x => (PyData.shown (.str x)).length
  | .lst ds => 3 + lenL ds
  | .tup ds => 3 + lenL ds
  | _ => 0
def lenL : List D → Nat
  | [] => 0
  | d :: ds => lenR d + 2 + lenL ds
end
theorem join_ok {xs : List Str} (h : ∀ x ∈ xs, PyData.strOk x = true) : PyData.strOk ((Str.ofString ", ").join xs) = true := by
  induction xs with
  | nil => decide +kernel
  | cons x xs ih =>
    cases xs with
    | nil => exact h x List.mem_cons_self
    | cons y r => exact ok_app (ok_app (h x List.mem_cons_self) (ok_ofString _)) (ih fun z hz => h z (List.mem_cons_of_mem _ hz))
theorem join_len {xs : List Str} : ((Str.ofString ", ").join xs).length ≤ (xs.map fun x => x.length + 2).sum := by
  induction xs with
  | nil => decide +kernel
  | cons x xs ih =>
    cases xs with
    | nil =>
      show x.length ≤ _
      simp
    | cons y r =>
      show (x ++ Str.ofString ", " ++ (Str.ofString ", ").join (y :: r)).length ≤ _
      rw [len_app, len_app, PySem.ofString_length]
      rw [List.map_cons, List.sum_cons]
      have : (", " : String).length = 2 := by decide
      omega
structure Shown (n : Nat) (d : D) (p : PyData) : Prop where
  to : toPd d = some p
  sh : p.showable = true
  dp : p.depth ≤ n
  len : p.shown.length ≤ lenR d
  ok : PyData.strOk p.shown = true
structure ShownL (n : Nat) (ds : List D) (ps : List PyData) : Prop where
  to : toPdL ds = some ps
  sh : PyData.showableAll ps = true
  dp : PyData.depthAll ps ≤ n
  len : ((PyData.shownAll ps).map fun x => x.length + 2).sum ≤ lenL ds
  ok : ∀ x ∈ PyData.shownAll ps, PyData.strOk x = true
theorem list_len {ps : List PyData} {m : Nat} (h : ((PyData.shownAll ps).map fun x => x.length + 2).sum ≤ m) : (PyData.list ps).shown.length ≤ 3 + m := by
  rw [PyData.shown_list, len_app, len_app, PySem.ofString_length, PySem.ofString_length]
  have := join_len (xs := PyData.shownAll ps)
  have e1 : ("[" : String).length = 1 := by decide
  have e2 : ("]" : String).length = 1 := by decide
  omega
theorem tuple_len {ps : List PyData} {m : Nat} (h : ((PyData.shownAll ps).map fun x => x.length + 2).sum ≤ m) : (PyData.tuple ps).shown.length ≤ 3 + m := by
  rw [PyData.shown_tuple, len_app, len_app, PySem.ofString_length, PySem.ofString_length]
  have := join_len (xs := PyData.shownAll ps)
  have e1 : ("(" : String).length = 1 := by decide
  have e2 : (if (ps.length == 1) = true then ",)" else ")" : String).length ≤ 2 := by split <;> decide
  omega
mutual
theorem okR_s : ∀ {n : Nat} {d : D}, okR n d = true → ∃ p, Shown n d p
  | n, .non, _ => ⟨.none, rfl, by simp only [PyData.showable], Nat.zero_le _, by decide +kernel, by decide +kernel⟩
  | n, .int i, h => ⟨.int i, rfl, by simpa only [PyData.showable, okR] using h, Nat.zero_le _, by
    rw [PyData.shown_int]
    exact Nat.le_of_eq (PySem.ofString_length _), by
    rw [PyData.shown_int]
    exact ok_ofString _⟩
  | n, .str x, h => by
    simp only [okR, Bool.and_eq_true] at h
    exact ⟨.str x, rfl, h.2, Nat.zero_le _, Nat.le_refl _, h.1⟩
  | n + 1, .lst ds, h => by
    obtain ⟨ps, q⟩ := okRL_s (n := n) (ds := ds) (by simpa only [okR] using h)
    refine ⟨.list ps, by simp only [toPd, q.to, Option.map_some], by simpa only [PyData.showable] using q.sh, by simp only [PyData.depth]; exact Nat.succ_le_succ q.dp, list_len q.len, ?_⟩
    rw [PyData.shown_list]
    exact ok_app (ok_app (ok_ofString _) (join_ok q.ok)) (ok_ofString _)
  | n + 1, .tup ds, h => by
    obtain ⟨ps, q⟩ := okRL_s (n := n) (ds := ds) (by simpa only [okR] using h)
    refine ⟨.tuple ps, by simp only [toPd, q.to, Option.map_some], by simpa only [PyData.showable] using q.sh, by simp only [PyData.depth]; exact Nat.succ_le_succ q.dp, tuple_len q.len, ?_⟩
    rw [PyData.shown_tuple]
    exact ok_app (ok_app (ok_ofString _) (join_ok q.ok)) (ok_ofString _)
  | 0, .lst _, h => by simp [okR] at h
  | 0, .tup _, h => by simp [okR] at h
  | n, .bl _, h => by simp [okR] at h
  | n, .dic _ _, h => by simp [okR] at h
  | n, .ins _ _ _, h => by simp [okR] at h
  | n, .frz _, h => by simp [okR] at h
  | n, .loc _, h => by simp [okR] at h
  | n, .cls _, h => by simp [okR] at h
  | n, .ty _, h => by simp [okR] at h
theorem okRL_s : ∀ {n : Nat} {ds : List D}, okRL n ds = true → ∃ ps, ShownL n ds ps
  | n, [], _ => ⟨[], rfl, by simp only [PyData.showableAll], Nat.zero_le _, by simp only [PyData.shownAll]; exact Nat.zero_le _, fun x hx => by simp only [PyData.shownAll] at hx; cases hx⟩
  | n, d :: ds, h => by
    simp only [okRL, Bool.and_eq_true] at h
    obtain ⟨p, q⟩ := okR_s h.1
    obtain ⟨ps, qs⟩ := okRL_s h.2
    refine ⟨p :: ps, by simp only [toPdL, q.to, qs.to], by simp only [PyData.showableAll, q.sh, qs.sh, Bool.and_self], by simp only [PyData.depthAll]; exact Nat.max_le.mpr ⟨q.dp, qs.dp⟩, ?_, fun x hx => ?_⟩
    · simp only [PyData.shownAll, List.map_cons, List.sum_cons, lenL]
      have := q.len
      have := qs.len
      omega
    · simp only [PyData.shownAll] at hx
      rcases List.mem_cons.mp hx with rfl | hx
      · exact q.ok
      · exact qs.ok x hx
end
/-! sizes -/
theorem okRL_map {α : Type} {n : Nat} {f : α → D} {xs : List α} (h : ∀ x ∈ xs, okR n (f x) = true) : okRL n (xs.map f) = true := by
  induction xs with
  | nil => rfl
  | cons x xs ih =>
    simp only [List.map_cons, okRL, Bool.and_eq_true]
    exact ⟨h x List.mem_cons_self, ih fun y hy => h y (List.mem_cons_of_mem _ hy)⟩
theorem lenL_map {α : Type} {f : α → D} {xs : List α} {B : Nat} (h : ∀ x ∈ xs, lenR (f x) ≤ B) : lenL (xs.map f) ≤ xs.length * (B + 2) := by
  induction xs with
  | nil => exact Nat.zero_le _
  | cons x xs ih =>
    simp only [List.map_cons, lenL, List.length_cons, Nat.succ_mul]
    have := h x List.mem_cons_self
    have := ih fun y hy => h y (List.mem_cons_of_mem _ hy)
    omega
theorem okR_int {n : Nat} {i : Int} (h0 : 0 ≤ i) (h : i < 10000000000000000000000000000000000000000) : okR n (.int i) = true := by
  simp only [okR, decide_eq_true_eq]
  by_cases z : i.natAbs = 0
  · rw [z]; decide
  · rw [Nat.log2_lt z]
    have : i.natAbs < 2 ^ 200 := by omega
    exact Nat.lt_trans this (Nat.pow_lt_pow_right (a := 2) (Nat.lt_succ_self 1) (by omega))
theorem lenR_int {i : Int} (h0 : 0 ≤ i) (h : i < 10000000000000000000000000000000000000000) : lenR (.int i) ≤ 41 := by
  simp only [lenR]
  exact int_text_length_le10 (k := 40) (by decide) (by omega)
end FL

set_option Elab.async false
set_option linter.all false
set_option maxRecDepth 100000
set_option maxHeartbeats 1000000
/-! backwards: class methods, cls(..), a star in a display, len of an own list -/
namespace FL
open PySem PySem.Spec PyProof.Rows L2 DL
section
variable {ρ : Rho} {st : St} {d : D} {Q : D → St → Prop} {QA : List D → St → Prop} {X : Exn → St → Prop} {m : fE} {na : fA} {i : Nat}
theorem wp_cmeth {Cn : Str} {F : fF} {k : Nat} {dd : List D} (h : (na ρ st).wp (fun ds s => (D.cls Cn :: (ds ++ dd)).length = k ∧ (F (D.cls Cn :: (ds ++ dd)) s).wp Q X) X) : (fCMeth Cn F k dd na ρ st).wp Q X := by
  refine Res.bind2 h (fun ds s h => ?_)
  rw [if_pos h.1]
  exact h.2
theorem wp_makeL {Cn : Str} {F : fF} {k : Nat} {dd : List D} (hi : ρ[i]? = some (some (.cls Cn))) (h : (fMake Cn F k dd na ρ st).wp Q X) : (fMakeL i Cn F k dd na ρ st).wp Q X := by
  unfold fMakeL
  rw [hi]
  dsimp only
  rw [if_pos rfl]
  exact h
theorem wp_star (h : (m ρ st).wp (fun d s => ∃ xs, (d = .lst xs ∨ d = .tup xs) ∧ (na ρ s).wp (fun ys s => QA (xs ++ ys) s) X) X) : (fStar m na ρ st).wp QA X := by
  refine Res.bind2 h (fun d s h => ?_)
  obtain ⟨xs, e, h⟩ := h
  rcases e with rfl | rfl
  · exact Res.bind2 h fun _ _ h => .ok h
  · exact Res.bind2 h fun _ _ h => .ok h
theorem wp_lenO (h : (m ρ st).wp (fun d s => ∃ a ds, d = .loc a ∧ s[a]? = some (some (.lst ds)) ∧ Q (.int (ds.length : Nat)) s) X) : (fLenO m ρ st).wp Q X := by
  refine Res.bind2 h (fun d s h => ?_)
  obtain ⟨a, ds, rfl, e, q⟩ := h
  unfold lenR1
  dsimp only
  rw [e]
  exact .ok q
theorem gw_starT {xs : List D} {R : List D → Prop} (k : R xs) : ∃ ys, (D.tup xs = .lst ys ∨ D.tup xs = .tup ys) ∧ R ys := ⟨xs, .inr rfl, k⟩
theorem gw_starL {xs : List D} {R : List D → Prop} (k : R xs) : ∃ ys, (D.lst xs = .lst ys ∨ D.lst xs = .tup ys) ∧ R ys := ⟨xs, .inl rfl, k⟩
end
end FL

set_option Elab.async false
set_option linter.all false
set_option maxRecDepth 100000
set_option maxHeartbeats 1000000
namespace FL
open PySem PySem.Spec PyProof.Rows L2 DL
section
variable {K : PySem.W.Frag} {mg : Str → Option Value}
/-- the table may name classes that the text doesn't have -/
theorem isC_mk2 {C : Addr} {Cn : Str} {tb : List (Str × Bool)} (k1 : PySem.W.isClsIn K C = true) (k2 : PySem.W.typeIn K (.ref C) = some (.type "type")) (N : NotT K C)
    (hC : ∀ n b, tb.lookup n = some b → (∃ c, ClsF K mg c n ∧ PySem.W.subIn K (.ref c) (.ref C) = some b ∧ (c = C → b = true)) ∨ mg n = none) : IsiC K mg C (isC tb) := by
  refine ⟨fun G H v d b sm r h => ?_⟩
  have dat : ∀ n, tyD d = some n → b = false → ∃ t, TyX K H v t ∧ PySem.W.kitOne K t (.ref C) = some b := fun n hn hb => by
    subst hb
    exact ⟨_, rp_tyX sm r hn, kit_two k1 k2 (N.no n (tyD_in hn)) fun z => nomatch z⟩
  cases d with
  | ins n ns ds =>
    rcases hC n b h with ⟨c, F, h1, h2⟩ | no
    · exact ⟨_, F.ty sm r, kit_two k1 k2 h1 fun z => h2 (by injection z)⟩
    · cases r with
      | ins hm hg hl hr =>
        rw [no] at hm
        cases hm
  | loc _ => simp [isC, tyD] at h
  | cls _ => simp [isC, tyD] at h
  | ty _ => simp [isC, tyD] at h
  | _ => cases h; exact dat _ rfl rfl
end
end FL

set_option Elab.async false
set_option linter.all false
set_option maxRecDepth 100000
set_option maxHeartbeats 1000000
/-! zip over lists and tuples, mixed, as a loop draws it: turn by turn, its tuple let go each time -/
namespace FV
open PySem PySem.Spec FZ
section
variable {prog : Program} {w : World} {A : Around} {E : Value → Shared → Prop} {s : Shared}
/-- a walk over a tuple or a list, after k turns -/
def Au (h : Heap) (t : Tr) (k : Nat) : Prop := (h.IsTupleIter t.it t.l k ∧ h.IsTuple t.l t.row) ∨ (h.IsListIter t.it t.l k ∧ h.IsList t.l t.row)
theorem Au.keep {h h' : Heap} {t : Tr} {k : Nat} (a : Au h t k) (k1 : ∀ o, h.get? t.it = some o → h'.get? t.it = some o) (k2 : ∀ o, h.get? t.l = some o → h'.get? t.l = some o) : Au h' t k := by
  rcases a with ⟨a, o, e, q⟩ | ⟨a, b⟩
  · exact .inl ⟨a.at k1, o, k2 o e, q⟩
  · exact .inr ⟨a.at k1, b.at k2⟩
theorem Au.far {h h' : Heap} {t : Tr} {k : Nat} {c : Addr} (a : Au h t k) (sb : ∀ b, b ≠ c → h'.get? b = h.get? b) (h1 : t.it ≠ c) (h2 : t.l ≠ c) : Au h' t k :=
  a.keep (fun o e => (sb _ h1).trans e) fun o e => (sb _ h2).trans e
theorem Au.next {t : Tr} {k : Nat} {x : Value} {Q : Value → Shared → Prop} (a : Au s.heap t k) (ne : t.it ≠ t.l) (hx : t.row[k]? = some x) (hQ : ∀ h', Au h' t (k + 1) → Heap.SameBut t.it s.heap h' → Q x { s with heap := h' }) :
    wpAny (model prog w) A (Builtin.SmallTypes.nextOf (.ref t.it)) Q E s := by
  rcases a with ⟨a, b⟩ | ⟨a, b⟩
  · refine RZ.nextOf_tuple_item a b hx fun h' i' sb => hQ h' (.inl ⟨i', ?_⟩) sb
    obtain ⟨o, e, q⟩ := b
    exact ⟨o, (sb.2 _ ne.symm).trans e, q⟩
  · exact wpAny_nextOf_list_item a b hx fun h' i' sb => hQ h' (.inr ⟨i', b.at fun o e => (sb.2 _ ne.symm).trans e⟩) sb
theorem Au.stop {t : Tr} {k : Nat} {Q : Value → Shared → Prop} (hh : A.handled = none) (a : Au s.heap t k) (hx : t.row[k]? = none)
    (hE : ∀ h' e, Heap.ExtBut t.it s.heap h' → (∃ o, h'.get? e = some o ∧ o.cls = .type "StopIteration") → E (.ref e) { s with heap := h' }) : wpAny (model prog w) A (Builtin.SmallTypes.nextOf (.ref t.it)) Q E s := by
  rcases a with ⟨a, b⟩ | ⟨a, b⟩
  · exact RZ.nextOf_tuple_end hh a b hx hE
  · exact wpAny_nextOf_list_end hh a b hx hE
theorem loopU {D : Value → Sem (Option Value)} {Z : Value × Nat → Sem (ForInStep (Option Fin × Unit))} {U : Value × Nat → Sem (ForInStep (Option Fin × Unit))} {z TO : Addr} (hD : ∀ v, D v = (Builtin.SmallTypes.nextOf v >>= fun x => pure (some x))) {k : Nat} {Q : Option Fin × Unit → Shared → Prop} :
    ∀ (ts : List Tr) (j : Nat) (arr : Array Value) (s : Shared), (∀ t ∈ ts, Au s.heap t k ∧ k < t.row.size) → (ts.map Tr.it).Nodup → (∀ t ∈ ts, ∀ u ∈ ts, t.it ≠ u.l) → (∀ t ∈ ts, t.it ≠ TO ∧ t.l ≠ TO) → s.heap.get? TO = some (seqO arr) → arr.size ≤ 1000 →
    (∀ h', h'.objs.size = s.heap.objs.size → (∀ t ∈ ts, Au h' t (k + 1)) → h'.get? TO = some (seqO (setAll k arr j ts)) → (∀ b, b ≠ TO → b ∉ ts.map Tr.it → h'.get? b = s.heap.get? b) → Q (none, ()) { s with heap := h' }) →
    wpAny (model prog w) A (forIn ((ts.map fun t => Value.ref t.it).zipIdx j) ((none, ()) : Option Fin × Unit) fun x r => do
      let y ← (D x.1).onRaise fun _ => setField (.ref z) 0 .none
      match y with
      | some v => do
        let i ← seqItems? (.ref TO)
        match i with
        | some kept => do
          updateSeq TO fun q => q.setIfInBounds x.2 v
          letGo [kept.getD x.2 .none]
          pure (.yield (none, ()))
        | _ => U x
      | none => Z x) Q E s
  | [], j, arr, s, _, _, _, _, hT, _, hQ => by
    simp only [List.map_nil, List.zipIdx_nil, List.forIn_nil]
    refine wpAny_pure ?_
    exact hQ s.heap rfl (fun t ht => by cases ht) hT (fun b _ _ => rfl)
  | t :: ts, j, arr, s, ha, hn, hd, ho, hT, hz, hQ => by
    have hn' := List.nodup_cons.mp (show (t.it :: ts.map Tr.it).Nodup from hn)
    obtain ⟨a1, a3⟩ := ha t List.mem_cons_self
    have o1 := ho t List.mem_cons_self
    have hx : t.row[k]? = some (t.row.getD k .none) := by
      rw [Array.getElem?_eq_getElem a3]
      simp [Array.getD, a3]
    simp only [List.map_cons, List.zipIdx_cons, List.forIn_cons]
    refine wpAny_bind (wpAny_bind (wpAny_onRaise ?_))
    rw [hD]
    refine wpAny_bind (a1.next (hd t List.mem_cons_self t List.mem_cons_self) hx fun h1 b1 sb => wpAny_pure ?_)
    have hT1 : h1.get? TO = some (seqO arr) := (sb.2 _ (Ne.symm o1.1)).trans hT
    dsimp only
    refine wpAny_bind (wpAny_seqItems hT1 rfl ?_)
    dsimp only
    refine wpAny_bind (wpAny_updateSeq hT1 rfl ?_ (by simp [sizeLine]; omega) (by rw [Array.size_setIfInBounds]; simp [sizeLine]; omega))
    refine wpAny_bind (wpAny_letGo (wpAny_pure ?_))
    have hT2 : (h1.update TO (Obj.mapSeq fun q => q.setIfInBounds j (t.row.getD k .none))).get? TO = some (seqO (arr.setIfInBounds j (t.row.getD k .none))) := by
      rw [Heap.get?_update_self _ hT1 rfl]
      simp [Obj.mapSeq]
    have oth : ∀ b, b ≠ TO → (h1.update TO (Obj.mapSeq fun q => q.setIfInBounds j (t.row.getD k .none))).get? b = h1.get? b := fun b hb => Heap.get?_update_other _ _ (Ne.symm hb)
    have sz : (h1.update TO (Obj.mapSeq fun q => q.setIfInBounds j (t.row.getD k .none))).objs.size = h1.objs.size := (Heap.SameBut.update ..).1
    refine loopU (k := k) hD ts (j + 1) (arr.setIfInBounds j (t.row.getD k .none)) _ (fun u hu => ?_) hn'.2 (fun u hu v hv => hd u (List.mem_cons_of_mem _ hu) v (List.mem_cons_of_mem _ hv)) (fun u hu => ho u (List.mem_cons_of_mem _ hu)) hT2 (by rw [Array.size_setIfInBounds]; exact hz) fun h' e1 e2 e3 e4 => ?_
    · obtain ⟨q1, q2⟩ := ha u (List.mem_cons_of_mem _ hu)
      have ou := ho u (List.mem_cons_of_mem _ hu)
      exact ⟨(q1.far sb.2 (fun e => hn'.1 (e ▸ List.mem_map_of_mem hu)) (fun e => hd t List.mem_cons_self u (List.mem_cons_of_mem _ hu) e.symm)).far oth ou.1 ou.2, q2⟩
    · refine hQ h' (e1.trans (sz.trans sb.1)) (fun u hu => ?_) e3 (fun b hb hm => ?_)
      · cases hu with
        | head =>
          have far : ∀ c, c ≠ TO → c ∉ ts.map Tr.it → h'.get? c = h1.get? c := fun c c1 c2 => (e4 c c1 c2).trans (oth c c1)
          refine b1.keep (fun o e => (far _ o1.1 hn'.1).trans e) fun o e => (far _ o1.2 fun hm => ?_).trans e
          obtain ⟨u, hu, e⟩ := List.mem_map.mp hm
          exact hd u (List.mem_cons_of_mem _ hu) t List.mem_cons_self e
        | tail _ hu => exact e2 u hu
      · rw [e4 b hb fun hq => hm (List.mem_cons_of_mem _ hq), oth b hb]
        exact sb.2 b fun e => hm (by rw [e]; exact List.mem_cons_self)
/-- one turn -/
theorem next_U {z TI TO : Addr} {ts : List Tr} {k : Nat} {arr : Array Value} {Q : Value → Shared → Prop} (hz : s.heap.get? z = some (zO .none TI TO))
    (hTI : s.heap.get? TI = some (tO (ts.map fun t => .ref t.it))) (hTO : s.heap.get? TO = some (seqO arr)) (hne : ts ≠ [])
    (hAt : ∀ t ∈ ts, Au s.heap t k ∧ k < t.row.size) (hn : (ts.map Tr.it).Nodup) (hd : ∀ t ∈ ts, ∀ u ∈ ts, t.it ≠ u.l) (hzi : ∀ t ∈ ts, t.it ≠ z ∧ t.l ≠ z) (hti : ∀ t ∈ ts, t.it ≠ TO ∧ t.l ≠ TO) (hzT : z ≠ TO) (hsz : arr.size = ts.length) (hlen : ts.length ≤ 1000)
    (hQ : ∀ h', h'.get? z = some (zO (rawInt s.heap.objs.size) TI TO) → (∀ t ∈ ts, Au h' t (k + 1)) → h'.objs.size = s.heap.objs.size + 1 → h'.get? s.heap.objs.size = some (tO (ts.map fun t => t.row.getD k .none)) →
      (∃ arr', h'.get? TO = some (seqO arr') ∧ arr'.size = ts.length) → (∀ c o, c ≠ z → c ≠ TO → c ∉ ts.map Tr.it → s.heap.get? c = some o → h'.get? c = some o) → Q (.ref s.heap.objs.size) { s with heap := h' }) :
    wpAny (model prog w) A (Builtin.«zip.__next__» ⟨[.ref z], []⟩) (fun fin s' => ∃ v, fin = .done (.ret v) ∧ Q v s') E s := by
  have hzm : z ∉ ts.map Tr.it := fun hm => by
    obtain ⟨t, ht, e⟩ := List.mem_map.mp hm
    exact (hzi t ht).1 e
  have fin : ∀ h₀ : Heap, h₀.get? z = some (zO .ellipsis TI TO) → h₀.objs.size = s.heap.objs.size → (∀ c, c ≠ z → h₀.get? c = s.heap.get? c) →
      ∀ {D : Value → Sem (Option Value)} {Z U : Value × Nat → Sem (ForInStep (Option Fin × Unit))} {K : Option Fin × Unit → Sem Fin}, (∀ v, D v = (Builtin.SmallTypes.nextOf v >>= fun x => pure (some x))) →
      (∀ {s' : Shared} {xs : Array Value}, s'.heap.get? TO = some (seqO xs) → wpAny (model prog w) A (newTuple xs.toList >>= fun r => Builtin.SmallTypes.ownedTupleHandOut (.ref z) r >>= fun _ => ret r) (fun fin s' => ∃ v, fin = .done (.ret v) ∧ Q v s') E s' → wpAny (model prog w) A (K (none, ())) (fun fin s' => ∃ v, fin = .done (.ret v) ∧ Q v s') E s') →
      wpAny (model prog w) A ((forIn ((ts.map fun t => Value.ref t.it).zipIdx 0) ((none, ()) : Option Fin × Unit) fun x r => do
      let y ← (D x.1).onRaise fun _ => setField (.ref z) 0 .none
      match y with
      | some v => do
        let i ← seqItems? (.ref TO)
        match i with
        | some kept => do
          updateSeq TO fun q => q.setIfInBounds x.2 v
          letGo [kept.getD x.2 .none]
          pure (.yield (none, ()))
        | _ => U x
      | none => Z x) >>= K) (fun fin s' => ∃ v, fin = .done (.ret v) ∧ Q v s') E { s with heap := h₀ } := fun h₀ z0 z1 z2 {D Z U K} hD hK => by
    refine wpAny_bind (loopU (k := k) hD ts 0 arr { s with heap := h₀ } (fun t ht => ⟨(hAt t ht).1.far z2 (hzi t ht).1 (hzi t ht).2, (hAt t ht).2⟩) hn hd hti ((z2 _ hzT.symm).trans hTO) (by omega) fun h' e1 e2 e3 e4 => ?_)
    refine hK e3 ?_
    have hl := setAll_list (k := k) ts arr 0 (by omega)
    rw [List.take_zero, List.nil_append] at hl
    have hl2 : (setAll k arr 0 ts).size = ts.length := by
      rw [← Array.length_toList, hl, List.length_map]
    rw [hl]
    have e5 : h'.objs.size = s.heap.objs.size := e1.trans z1
    refine wpAny_bind (wpAny_newTuple ?_ (by simp [sizeLine]; omega))
    show wpAny _ _ (Builtin.SmallTypes.ownedTupleHandOut (.ref z) (.ref h'.objs.size) >>= _) _ _ _
    refine wpAny_bind ?_
    unfold Builtin.SmallTypes.ownedTupleHandOut
    have hz6 : (h'.push (tO (ts.map fun t => t.row.getD k .none))).get? z = some (zO .ellipsis TI TO) := Heap.get?_push_of_some _ ((e4 z hzT hzm).trans z0)
    refine wpAny_bind (wpAny_setField_rec hz6 (by simp) fun h7 hz7 hs7 => ?_)
    refine wpAny_setField_rec hz7 (by simp) fun h8 hz8 hs8 => ?_
    have up : ∀ c o, c ≠ z → h'.get? c = some o → h8.get? c = some o := fun c o c1 e => (hs8.2 c c1).trans ((hs7.2 c c1).trans (Heap.get?_push_of_some _ e))
    have hzl : z < h'.objs.size := Heap.lt_size ((e4 z hzT hzm).trans z0)
    refine wpAny_pure ⟨_, rfl, ?_⟩
    show Q (.ref h'.objs.size) _
    have q := hQ h8 (by rw [← e5]; exact hz8) (fun t ht => ?_) (by rw [hs8.1, hs7.1, Heap.size_push, e5]) ?_ ⟨_, up _ _ hzT.symm e3, hl2⟩ fun c o c1 c2 c3 e => up c o c1 ((e4 c c2 c3).trans ((z2 c c1).trans e))
    · rw [e5]
      exact q
    · exact (e2 t ht).keep (fun o e => up _ o (hzi t ht).1 e) fun o e => up _ o (hzi t ht).2 e
    · rw [← e5]
      exact (hs8.2 _ (Nat.ne_of_gt hzl)).trans ((hs7.2 _ (Nat.ne_of_gt hzl)).trans (push_at rfl rfl))
  show wpAny _ _ (field (.ref z) 2 >>= _) _ _ _
  refine wpAny_bind (wpAny_field hz rfl (x := .bool false) rfl ?_)
  show wpAny _ _ (field (.ref z) 3 >>= _) _ _ _
  refine wpAny_bind (wpAny_field hz rfl (x := .ref TI) rfl ?_)
  refine wpAny_bind (wpAny_seqItems hTI rfl ?_)
  have he : (ts.map fun t => Value.ref t.it).toArray.isEmpty = false := by
    cases ts with
    | nil => exact absurd rfl hne
    | cons t ts => rfl
  simp only [he, Bool.false_eq_true, if_false]
  refine wpAny_bind ?_
  unfold Builtin.SmallTypes.ownedTupleIsFree
  refine wpAny_bind (wpAny_field hz rfl (x := .none) rfl (wpAny_pure ?_))
  simp only [if_true]
  refine wpAny_bind (wpAny_rule ?_)
  refine wpAny_bind (wpAny_field hz rfl (x := .ref TO) rfl ?_)
  refine wpAny_bind (wpAny_setField_rec hz (by simp) fun h₁ hz₁ hs₁ => ?_)
  refine fin h₁ hz₁ hs₁.1 (fun c hc => hs₁.2 c hc) ?_ ?_
  · exact fun _ => rfl
  · intro s' xs e h
    exact wpAny_bind (wpAny_seqItems e rfl h)
/-- the first walk is through -/
theorem end_U {z TI TO : Addr} {t : Tr} {ts : List Tr} {k : Nat} {arr : Array Value} {Q : Fin → Shared → Prop} (hh : A.handled = none) (hz : s.heap.get? z = some (zO .none TI TO))
    (hTI : s.heap.get? TI = some (tO ((t :: ts).map fun t => .ref t.it))) (hTO : s.heap.get? TO = some (seqO arr)) (hAt : Au s.heap t k) (hend : t.row[k]? = none) (hzi : t.it ≠ z ∧ t.l ≠ z)
    (hE : ∀ h' e, (∀ c o, c ≠ z → c ≠ t.it → s.heap.get? c = some o → h'.get? c = some o) → (∃ o, h'.get? e = some o ∧ o.cls = .type "StopIteration") → E (.ref e) { s with heap := h' }) :
    wpAny (model prog w) A (Builtin.«zip.__next__» ⟨[.ref z], []⟩) Q E s := by
  have fin : ∀ h₀ : Heap, h₀.get? z = some (zO .ellipsis TI TO) → (∀ c, c ≠ z → h₀.get? c = s.heap.get? c) →
      ∀ {D : Value → Sem (Option Value)} {Z U : Value × Nat → Sem (ForInStep (Option Fin × Unit))} {K : Option Fin × Unit → Sem Fin}, (∀ v, D v = (Builtin.SmallTypes.nextOf v >>= fun x => pure (some x))) →
      wpAny (model prog w) A ((forIn (((t :: ts).map fun t => Value.ref t.it).zipIdx 0) ((none, ()) : Option Fin × Unit) fun x r => do
      let y ← (D x.1).onRaise fun _ => setField (.ref z) 0 .none
      match y with
      | some v => do
        let i ← seqItems? (.ref TO)
        match i with
        | some kept => do
          updateSeq TO fun q => q.setIfInBounds x.2 v
          letGo [kept.getD x.2 .none]
          pure (.yield (none, ()))
        | _ => U x
      | none => Z x) >>= K) Q E { s with heap := h₀ } := fun h₀ z0 z2 {D Z U K} hD => by
    simp only [List.map_cons, List.zipIdx_cons, List.forIn_cons]
    refine wpAny_bind (wpAny_bind (wpAny_bind (wpAny_onRaise ?_)))
    rw [hD]
    have a := hAt.far z2 hzi.1 hzi.2
    refine wpAny_bind (a.stop hh hend fun h2 e hs2 he => ?_)
    obtain ⟨oe, hoe, hce⟩ := he
    have hz2 : h2.get? z = some (zO .ellipsis TI TO) := hs2 _ _ hzi.1.symm z0
    have hez : e ≠ z := fun x => by
      subst x
      rw [hz2] at hoe
      cases hoe
      simp at hce
    refine wpAny_setField_rec hz2 (by simp) fun h3 _ hs3 => hE h3 e (fun c o c1 c2 x => (hs3.2 c c1).trans (hs2 _ _ c2 ((z2 c c1).trans x))) ⟨oe, (hs3.2 _ hez).trans hoe, hce⟩
  show wpAny _ _ (field (.ref z) 2 >>= _) _ _ _
  refine wpAny_bind (wpAny_field hz rfl (x := .bool false) rfl ?_)
  show wpAny _ _ (field (.ref z) 3 >>= _) _ _ _
  refine wpAny_bind (wpAny_field hz rfl (x := .ref TI) rfl ?_)
  refine wpAny_bind (wpAny_seqItems hTI rfl ?_)
  have he : ((t :: ts).map fun t => Value.ref t.it).toArray.isEmpty = false := rfl
  simp only [he, Bool.false_eq_true, if_false]
  refine wpAny_bind ?_
  unfold Builtin.SmallTypes.ownedTupleIsFree
  refine wpAny_bind (wpAny_field hz rfl (x := .none) rfl (wpAny_pure ?_))
  simp only [if_true]
  refine wpAny_bind (wpAny_rule ?_)
  refine wpAny_bind (wpAny_field hz rfl (x := .ref TO) rfl ?_)
  refine wpAny_bind (wpAny_setField_rec hz (by simp) fun h₁ hz₁ hs₁ => ?_)
  exact fin h₁ hz₁ (fun c hc => hs₁.2 c hc) fun _ => rfl
end
end FV

set_option Elab.async false
set_option linter.all false
set_option maxRecDepth 100000
set_option maxHeartbeats 4000000
namespace FV
open PySem PySem.Spec FZ
/-- a source: whether it is a tuple, where it stands -/
abbrev Sc : Type := Bool × Addr
def IsSc (h : Heap) (c : Sc) (xs : Array Value) : Prop := match c.1 with
  | true => h.IsTuple c.2 xs
  | false => h.IsList c.2 xs
theorem IsSc.push {h : Heap} {c : Sc} {xs : Array Value} (o : Obj) (a : IsSc h c xs) : IsSc (h.push o) c xs := by
  obtain ⟨b, l⟩ := c
  cases b
  · exact Heap.IsList.push a o
  · exact Heap.IsTuple.push a o
def itK (c : Sc) : Obj := { cls := .type (match c.1 with | true => "tuple_iterator" | false => "list_iterator"), data := .fields #[.ref c.2, .int 0 0] }
def isH : Heap → List Sc → Heap
  | h, [] => h
  | h, c :: cs => isH (h.push (itK c)) cs
theorem isH_size : ∀ (cs : List Sc) (h : Heap), (isH h cs).objs.size = h.objs.size + cs.length
  | [], h => rfl
  | c :: cs, h => by
    rw [isH, isH_size cs, Heap.size_push, List.length_cons]
    omega
theorem isH_keep : ∀ (cs : List Sc) (h : Heap) {c : Addr} {o : Obj}, h.get? c = some o → (isH h cs).get? c = some o
  | [], _, _, _, e => e
  | c :: cs, h, _, _, e => isH_keep cs _ (Heap.get?_push_of_some _ e)
theorem isH_at : ∀ (cs : List Sc) (h : Heap) {i : Nat} {c : Sc}, cs[i]? = some c → (isH h cs).get? (h.objs.size + i) = some (itK c)
  | [], _, _, _, e => by simp at e
  | x :: cs, h, 0, c, e => by
    simp at e
    subst e
    exact isH_keep cs _ (Heap.get?_push_size _ rfl)
  | x :: cs, h, i + 1, c, e => by
    have q := isH_at cs (h.push (itK x)) (i := i) (c := c) (by simpa using e)
    rw [Heap.size_push] at q
    rw [isH, show h.objs.size + (i + 1) = h.objs.size + 1 + i by omega]
    exact q
section
variable {prog : Program} {w : World} {A : Around} {E : Value → Shared → Prop}
theorem iterGo2 {Q : Array Value → Shared → Prop} : ∀ (cs : List Sc) (acc : Array Value) (s : Shared), (∀ c ∈ cs, ∃ xs, IsSc s.heap c xs) →
    Q (acc ++ ((List.range' s.heap.objs.size cs.length).map Value.ref).toArray) { s with heap := isH s.heap cs } →
    wpAny (model prog w) A (forIn (cs.map fun c => Value.ref c.2) acc fun x its => do
      let v ← holding its.toList (pyIter x)
      pure (.yield (its.push v))) Q E s
  | [], acc, s, _, hQ => by
    simp only [List.map_nil, List.forIn_nil]
    refine wpAny_pure ?_
    simpa [isH] using hQ
  | c :: cs, acc, s, hl, hQ => by
    obtain ⟨xs, hx⟩ := hl c List.mem_cons_self
    have fin : wpAny (model prog w) A (forIn (cs.map fun c => Value.ref c.2) (acc.push (.ref s.heap.objs.size)) fun x its => do
      let v ← holding its.toList (pyIter x)
      pure (.yield (its.push v))) Q E { s with heap := s.heap.push (itK c) } := by
      refine iterGo2 cs (acc.push (.ref s.heap.objs.size)) { s with heap := s.heap.push (itK c) } (fun z hz => ?_) ?_
      · obtain ⟨ys, hy⟩ := hl z (List.mem_cons_of_mem _ hz)
        exact ⟨ys, hy.push _⟩
      · have e : (s.heap.push (itK c)).objs.size = s.heap.objs.size + 1 := Heap.size_push ..
        show Q (_ ++ ((List.range' (s.heap.push (itK c)).objs.size cs.length).map Value.ref).toArray) { s with heap := isH (s.heap.push (itK c)) cs }
        rw [e]
        simpa [isH, List.range'_succ] using hQ
    simp only [List.map_cons, List.forIn_cons]
    obtain ⟨b, l⟩ := c
    cases b
    · exact wpAny_bind (wpAny_bind (wpAny_holding (wpAny_pyIter_list hx (wpAny_pure fin))))
    · exact wpAny_bind (wpAny_bind (wpAny_holding (wpAny_pyIter_tuple hx (wpAny_pure fin))))
theorem iterAll2 {Q : List Value → Shared → Prop} {s : Shared} (cs : List Sc) (hl : ∀ c ∈ cs, ∃ xs, IsSc s.heap c xs)
    (hQ : Q ((List.range' s.heap.objs.size cs.length).map Value.ref) { s with heap := isH s.heap cs }) :
    wpAny (model prog w) A (Builtin.SmallTypes.iterAll (cs.map fun c => Value.ref c.2)) Q E s := by
  rw [iterAll_eq]
  refine wpAny_bind (iterGo2 cs #[] s hl (wpAny_pure ?_))
  simpa using hQ
def zpH (h : Heap) (cs : List Sc) : Heap :=
  (((isH h cs).push { cls := .type "tuple", data := .seq ((List.range' h.objs.size cs.length).map Value.ref).toArray }).push { cls := .type "tuple", data := .seq ((List.range' h.objs.size cs.length).map fun _ => Value.none).toArray }).push { cls := .type "zip", data := .fields #[.none, .bool false, .bool false, .ref (h.objs.size + cs.length), .ref (h.objs.size + cs.length + 1)] }
theorem meets_zp (cs : List Sc) (hz : cs.length ≤ 1000) :
    Meets (Builtin.«zip.__new__» ⟨.type "zip" :: cs.map fun c => Value.ref c.2, []⟩) (fun _ R s => (∀ c ∈ cs, ∃ xs, IsSc s.heap c xs) ∧ R (.ok (.ret (.ref (s.heap.objs.size + cs.length + 2)))) { s with heap := zpH s.heap cs }) :=
  .of_wp fun prog w A R s h => by
    obtain ⟨hp, g, d, tk, os⟩ := s
    obtain ⟨hl, h⟩ := h
    have hsub := sub_zip
    wp_walk using iterAll2 cs hl
    have e1 : (isH hp cs).objs.size = hp.objs.size + cs.length := isH_size ..
    show wpAny _ _ (newTuple ((List.range' hp.objs.size cs.length).map Value.ref)) _ _ _
    refine wpAny_newTuple ?_ (by simp [sizeLine]; omega)
    show wpAny _ _ (newTuple _ >>= _) _ _ _
    refine wpAny_bind (wpAny_newTuple ?_ (by simp [sizeLine]; omega))
    refine wpAny_bind ?_
    unfold Builtin.SmallTypes.newRecord
    dsimp only
    refine wpAny_newObj_type ?_ (by simp [sizeOk, Builtin.SmallTypes.ownedTupleFields, sizeLine])
    refine wpAny_pure ⟨_, rfl, ?_⟩
    simpa [zpH, Heap.size_push, e1, Builtin.SmallTypes.ownedTupleFields, Function.comp_def] using h
theorem zpH_z {h : Heap} {cs : List Sc} : (zpH h cs).get? (h.objs.size + cs.length + 2) = some (zO .none (h.objs.size + cs.length) (h.objs.size + cs.length + 1)) :=
  push_at (by rw [Heap.size_push, Heap.size_push, isH_size]) rfl
theorem zpH_TO {h : Heap} {cs : List Sc} : (zpH h cs).get? (h.objs.size + cs.length + 1) = some (tO ((List.range' h.objs.size cs.length).map fun _ => Value.none)) :=
  Heap.get?_push_of_some _ (push_at (by rw [Heap.size_push, isH_size]) rfl)
theorem zpH_TI {h : Heap} {cs : List Sc} : (zpH h cs).get? (h.objs.size + cs.length) = some (tO ((List.range' h.objs.size cs.length).map Value.ref)) :=
  Heap.get?_push_of_some _ (Heap.get?_push_of_some _ (push_at (by rw [isH_size]) rfl))
theorem zpH_at {h : Heap} {cs : List Sc} {i : Nat} {c : Sc} (e : cs[i]? = some c) : (zpH h cs).get? (h.objs.size + i) = some (itK c) :=
  Heap.get?_push_of_some _ (Heap.get?_push_of_some _ (Heap.get?_push_of_some _ (isH_at cs h e)))
theorem zpH_keep {h : Heap} {cs : List Sc} {c : Addr} {o : Obj} (e : h.get? c = some o) : (zpH h cs).get? c = some o :=
  Heap.get?_push_of_some _ (Heap.get?_push_of_some _ (Heap.get?_push_of_some _ (isH_keep cs h e)))
theorem call_zp {s : Shared} {Q : Value → Shared → Prop} {cs : List Sc} (hz : cs.length ≤ 1000) (hl : ∀ c ∈ cs, ∃ xs, IsSc s.heap c xs)
    (h : Q (.ref (s.heap.objs.size + cs.length + 2)) { s with heap := zpH s.heap cs }) : wpAny (model prog w) A (call (.type "zip") (cs.map fun c => Value.ref c.2)) Q E s := by
  refine callType_new F.called_zip (by decide) (typeCall_zip _) (newCall_zip _) (fun obj => args_object_init obj _) F.entry_zip_new (meets_zp cs hz) ⟨hl, ?_⟩
  exact ⟨⟨_, zpH_z, rfl⟩, h⟩
end
open PyProof.Rows L2 DL
/-! ### the walk as the layer sees it -/
inductive F2 {α β : Type} (R : α → β → Prop) : List α → List β → Prop
  | nil : F2 R [] []
  | cons {a : α} {b : β} {as : List α} {bs : List β} : R a b → F2 R as bs → F2 R (a :: as) (b :: bs)
theorem F2.len {α β : Type} {R : α → β → Prop} : ∀ {as : List α} {bs : List β}, F2 R as bs → as.length = bs.length
  | _, _, .nil => rfl
  | _, _, .cons _ r => by rw [List.length_cons, List.length_cons, r.len]
theorem F2.imp {α β : Type} {R S : α → β → Prop} (k : ∀ a b, R a b → S a b) : ∀ {as : List α} {bs : List β}, F2 R as bs → F2 S as bs
  | _, _, .nil => .nil
  | _, _, .cons h r => .cons (k _ _ h) (r.imp k)
theorem F2.mem {α β : Type} {R : α → β → Prop} : ∀ {as : List α} {bs : List β}, F2 R as bs → ∀ a ∈ as, ∃ b, b ∈ bs ∧ R a b
  | _, _, .nil, a, h => by cases h
  | _, _, .cons h r, a, ha => by
    cases ha with
    | head => exact ⟨_, List.mem_cons_self, h⟩
    | tail _ ha =>
      obtain ⟨b, h1, h2⟩ := r.mem a ha
      exact ⟨b, List.mem_cons_of_mem _ h1, h2⟩
def SqB (K : PySem.W.Frag) (H : Hp) (c : Sc) (xs : List V) : Prop := match c.1 with
  | true => SqT K H c.2 xs
  | false => SqL K H c.2 xs
/-- a source with its iterator -/
structure Wa where
  c : Sc
  it : Addr
def ItB (h : Heap) (u : Wa) (k : Nat) : Prop := match u.c.1 with
  | true => h.IsTupleIter u.it u.c.2 k
  | false => h.IsListIter u.it u.c.2 k
theorem ItB.keep {h h' : Heap} {u : Wa} {k : Nat} (a : ItB h u k) (e : ∀ o, h.get? u.it = some o → h'.get? u.it = some o) : ItB h' u k := by
  obtain ⟨⟨b, l⟩, it⟩ := u
  cases b
  · exact Heap.IsListIter.at a e
  · exact Heap.IsTupleIter.at a e
theorem ItB.obj {h : Heap} {u : Wa} {k : Nat} (a : ItB h u k) : ∃ o, h.get? u.it = some o ∧ ∀ v, o.data ≠ .cell v := by
  obtain ⟨⟨b, l⟩, it⟩ := u
  cases b
  · obtain ⟨o, e, _, d⟩ := a
    exact ⟨o, e, fun v q => by rw [d] at q; cases q⟩
  · obtain ⟨o, e, _, d⟩ := a
    exact ⟨o, e, fun v q => by rw [d] at q; cases q⟩
def Itn (K : PySem.W.Frag) (cs : List Sc) : It :=
  ⟨fun i H => ∃ xss, F2 (SqB K H) cs xss ∧ ∀ xs ∈ xss, i < xs.length,
   fun i H v H' => ∃ T ys, v = .ref T ∧ H T = none ∧ H' = upd H T (.tup ys) ∧ ∀ xss, F2 (SqB K H) cs xss → ys = xss.map fun xs => xs.getD i .non,
   fun i H => ∃ xss, F2 (SqB K H) cs xss ∧ ∃ xs r, xss = xs :: r ∧ xs.length ≤ i⟩
theorem sqb_is {X : Cx} {pins : List (Addr × Obj)} {σ : L2.St} {H : Hp} {s : Shared} (I : Inv X pins σ H s) {c : Sc} {xs : List V} (h : SqB X.K H c xs) : ∃ its : List Value, Vals xs its ∧ IsSc s.heap c its.toArray := by
  obtain ⟨b, l⟩ := c
  cases b
  · obtain ⟨its, rv, p, _⟩ := I.list (show SqL X.K H l xs from h)
    exact ⟨its, rv, p.isList⟩
  · obtain ⟨its, rv, p, _⟩ := I.tuple (show SqT X.K H l xs from h)
    exact ⟨its, rv, p⟩
theorem sqb_inj {X : Cx} {pins : List (Addr × Obj)} {σ : L2.St} {H : Hp} {s : Shared} (I : Inv X pins σ H s) {cs : List Sc} {xss yss : List (List V)} (h : F2 (SqB X.K H) cs xss) (g : F2 (SqB X.K H) cs yss) : xss = yss := by
  induction h generalizing yss with
  | nil => cases g; rfl
  | cons a r ih =>
    cases g with
    | cons b q =>
      rename_i c xs cs' xss' ys yss'
      obtain ⟨bb, l⟩ := c
      have e : xs = ys := by
        cases bb
        · exact I.list_inj (show SqL X.K H l xs from a) (show SqL X.K H l ys from b)
        · exact I.tuple_inj (show SqT X.K H l xs from a) (show SqT X.K H l ys from b)
      rw [e, ih q]
theorem trs_of {X : Cx} {pins : List (Addr × Obj)} {σ : L2.St} {H : Hp} {s : Shared} (I : Inv X pins σ H s) {k : Nat} : ∀ {us : List Wa} {xss : List (List V)}, F2 (SqB X.K H) (us.map Wa.c) xss → (∀ u ∈ us, ItB s.heap u k) →
    ∃ ts : List Tr, ts.map Tr.it = us.map Wa.it ∧ ts.map Tr.l = us.map (fun u => u.c.2) ∧ (∀ t ∈ ts, Au s.heap t k) ∧ F2 (fun (t : Tr) xs => Vals xs t.row.toList) ts xss ∧ ∀ h' k', (∀ t ∈ ts, Au h' t k') → (∀ u ∈ us, ∀ xs, IsSc s.heap u.c xs → IsSc h' u.c xs) → ∀ u ∈ us, ItB h' u k'
  | [], _, .nil, _ => ⟨[], rfl, rfl, (fun t h => by cases h), F2.nil, (fun _ _ _ _ u h => by cases h)⟩
  | u :: us, _, .cons a r, hi => by
    obtain ⟨ts, e1, e2, e3, e4, e5⟩ := trs_of I r fun v hv => hi v (List.mem_cons_of_mem _ hv)
    obtain ⟨its, rv, p⟩ := sqb_is I a
    have i0 := hi u List.mem_cons_self
    refine ⟨⟨u.it, u.c.2, its.toArray⟩ :: ts, by simp [e1], by simp [e2], fun t ht => ?_, F2.cons (by simpa using rv) e4, fun h' k' ha hs v hv => ?_⟩
    · cases ht with
      | head =>
        obtain ⟨⟨b, l⟩, it⟩ := u
        cases b
        · exact .inr ⟨i0, p⟩
        · exact .inl ⟨i0, p⟩
      | tail _ ht => exact e3 t ht
    · cases hv with
      | tail _ hv => exact e5 h' k' (fun t ht => ha t (List.mem_cons_of_mem _ ht)) (fun v hv => hs v (List.mem_cons_of_mem _ hv)) v hv
      | head =>
        have q := ha _ List.mem_cons_self
        have p' := hs u List.mem_cons_self _ p
        obtain ⟨⟨b, l⟩, it⟩ := u
        cases b
        · rcases q with ⟨_, o, e, c, _⟩ | ⟨q, _⟩
          · obtain ⟨o2, e2, c2, _⟩ := (show h'.IsList l its.toArray from p')
            have e : h'.get? l = some o := e
            rw [e2] at e
            cases e
            rw [c2] at c
            injection c with z
            exact absurd z (by decide)
          · exact q
        · rcases q with ⟨q, _⟩ | ⟨_, o, e, c, _⟩
          · exact q
          · obtain ⟨o2, e2, c2, _⟩ := (show h'.IsTuple l its.toArray from p')
            have e : h'.get? l = some o := e
            rw [e2] at e
            cases e
            rw [c2] at c
            injection c with z
            exact absurd z (by decide)
/-- what stays apart -/
structure Apz (us : List Wa) (z TI TO : Addr) : Prop where
  ne : us ≠ []
  len : us.length ≤ 1000
  nd : (us.map Wa.it).Nodup
  il : ∀ t ∈ us, ∀ u ∈ us, t.it ≠ u.c.2
  az : ∀ t ∈ us, t.it ≠ z ∧ t.c.2 ≠ z
  aT : ∀ t ∈ us, t.it ≠ TO ∧ t.c.2 ≠ TO
  aI : ∀ t ∈ us, t.it ≠ TI
  zT : z ≠ TO
  zI : z ≠ TI
  TT : TI ≠ TO
theorem map_ex {ts : List Tr} {us : List Wa} (e1 : ts.map Tr.it = us.map Wa.it) (e2 : ts.map Tr.l = us.map fun u => u.c.2) : ∀ t ∈ ts, ∃ u ∈ us, t.it = u.it ∧ t.l = u.c.2 := by
  induction ts generalizing us with
  | nil => intro t h; cases h
  | cons t ts ih =>
    cases us with
    | nil => cases e1
    | cons u us =>
      simp only [List.map_cons, List.cons.injEq] at e1 e2
      intro v hv
      cases hv with
      | head => exact ⟨u, List.mem_cons_self, e1.1, e2.1⟩
      | tail _ hv =>
        obtain ⟨x, h1, h2⟩ := ih e1.2 e2.2 v hv
        exact ⟨x, List.mem_cons_of_mem _ h1, h2⟩
theorem vals_col {ts : List Tr} {xss : List (List V)} {i : Nat} (r : F2 (fun (t : Tr) xs => Vals xs t.row.toList) ts xss) (hi : ∀ xs ∈ xss, i < xs.length) : (∀ t ∈ ts, i < t.row.size) ∧ Vals (xss.map fun xs => xs.getD i .non) (ts.map fun t => t.row.getD i .none) := by
  induction r with
  | nil => exact ⟨fun t h => (by cases h), .nil⟩
  | cons h r ih =>
    rename_i t xs ts xss
    obtain ⟨q1, q2⟩ := ih fun xs hx => hi xs (List.mem_cons_of_mem _ hx)
    have l := h.length
    have hx := hi xs List.mem_cons_self
    have hs : i < t.row.size := by rw [← Array.length_toList, ← l]; exact hx
    refine ⟨fun t ht => ?_, .cons ?_ q2⟩
    · cases ht with
      | head => exact hs
      | tail _ ht => exact q1 t ht
    · obtain ⟨u, e, ru⟩ := h.get (i := i) (x := xs[i]) (by simp [hx])
      have e' : t.row.getD i .none = u := by
        rw [Array.getElem?_toList] at e
        simp [Array.getD, hs]
        rw [Array.getElem?_eq_getElem hs] at e
        exact Option.some.inj e
      show L2.RelV (xs.getD i .non) (t.row.getD i .none)
      rw [e']
      simpa [hx] using ru
def Stz (us : List Wa) (z TI TO : Addr) (i : Nat) (h : Heap) : Prop := h.get? z = some (zO .none TI TO) ∧ h.get? TI = some (tO (us.map fun u => .ref u.it)) ∧ (∃ arr, h.get? TO = some (seqO arr) ∧ arr.size = us.length) ∧ ∀ u ∈ us, ItB h u i
theorem turn_zp {P : Program} {w : World} {K : PySem.W.Frag} {elts : List Expr} {kk : Nat} {tpos : Pos} {us : List Wa} {z TI TO : Addr} (D : Apz us z TI TO) :
    Turn P w K (.Tuple elts kk tpos) (Itn K (us.map Wa.c)) (z :: TI :: TO :: us.map Wa.it) z (Stz us z TI TO) where
  mem := List.mem_cons_self
  obj := fun i h ⟨hz, hTI, ⟨arr, hTO, _⟩, hu⟩ b hb => by
    simp only [List.mem_cons, List.mem_map] at hb
    rcases hb with q | q | q | ⟨u, hm, q⟩
    · rw [q]; exact ⟨_, hz, fun v q => nomatch q⟩
    · rw [q]; exact ⟨_, hTI, fun v q => nomatch q⟩
    · rw [q]; exact ⟨_, hTO, fun v q => nomatch q⟩
    · rw [← q]; exact (hu u hm).obj
  keep := fun i h h' ⟨hz, hTI, ⟨arr, hTO, hs⟩, hu⟩ k => ⟨k z (by simp) _ hz, k TI (by simp) _ hTI, ⟨arr, k TO (by simp) _ hTO, hs⟩, fun u hm => (hu u hm).keep fun o e => k u.it (List.mem_cons_of_mem _ (List.mem_cons_of_mem _ (List.mem_cons_of_mem _ (List.mem_map_of_mem hm)))) o e⟩
  item := by
    intro X hP hw hK hc i pins s σ H E I hf ⟨hz, hTI, ⟨arr, hTO, hs⟩, hu⟩ ⟨xss, hq, hi⟩
    subst hP hw hK
    obtain ⟨ts, e1, e2, e3, e4, e5⟩ := trs_of I hq hu
    obtain ⟨v1, v2⟩ := vals_col e4 hi
    have ex := map_ex e1 e2
    have tl : ts.length = us.length := by simpa using congrArg List.length e1
    have eI : (ts.map fun t => Value.ref t.it) = us.map fun u => Value.ref u.it := by
      have q := congrArg (List.map Value.ref) e1
      simpa [List.map_map, Function.comp_def] using q
    have apart : (∀ t ∈ ts, ∀ u ∈ ts, t.it ≠ u.l) ∧ (∀ t ∈ ts, t.it ≠ z ∧ t.l ≠ z) ∧ (∀ t ∈ ts, t.it ≠ TO ∧ t.l ≠ TO) ∧ ∀ t ∈ ts, t.it ≠ TI := by
      refine ⟨fun t ht u hu => ?_, fun t ht => ?_, fun t ht => ?_, fun t ht => ?_⟩
      · obtain ⟨a, a1, a2, a3⟩ := ex t ht
        obtain ⟨b, b1, b2, b3⟩ := ex u hu
        rw [a2, b3]
        exact D.il a a1 b b1
      · obtain ⟨a, a1, a2, a3⟩ := ex t ht
        rw [a2, a3]
        exact D.az a a1
      · obtain ⟨a, a1, a2, a3⟩ := ex t ht
        rw [a2, a3]
        exact D.aT a a1
      · obtain ⟨a, a1, a2, a3⟩ := ex t ht
        rw [a2]
        exact D.aI a a1
    have itm : ts.map Tr.it = us.map Wa.it := e1
    have ty : s.TypeIs (.ref z) "zip" := ⟨_, hz, rfl⟩
    have hzl : z < s.heap.objs.size := Heap.lt_size hz
    unfold pyNext
    refine wpAny_bind (wpAny_attempt (wpAny_callSpecial?_slot (name := Str.ofString "__next__") ty F.slot_zip_next (wpAny_call_entry F.slot_zip_next ty F.entry_zip_next
      (next_U hz (by rw [eI]; exact hTI) hTO (fun q => D.ne (by have := congrArg List.length q; rw [tl] at this; exact List.eq_nil_of_length_eq_zero this)) (fun t ht => ⟨e3 t ht, v1 t ht⟩) (by rw [itm]; exact D.nd) apart.1 apart.2.1 apart.2.2.1 D.zT (hs.trans tl.symm) (by rw [tl]; exact D.len) fun h' a1 a2 a3 a4 a5 a6 => wpAny_pure ?_) (F.args_zip_next_1 _))))
    refine ⟨_, rfl, wpAny_letOwnedTupleGo_zip (s := { s with heap := h' }) a1 fun h2 z2 sb => ?_⟩
    have hT2 : h2.get? s.heap.objs.size = some (tO (ts.map fun t => t.row.getD i .none)) := (sb.2 _ (Nat.ne_of_gt hzl)).trans a4
    have new : ObjOk X.prog X.w (upd H s.heap.objs.size (.tup (xss.map fun xs => xs.getD i .non))) h2 s.heap.objs.size (.tup (xss.map fun xs => xs.getD i .non)) :=
      ⟨by
        have l := hq.len
        rw [List.length_map] at l ⊢
        rw [← l]
        exact Nat.le_trans D.len (by decide), _, v2, ⟨_, hT2, rfl, _, rfl⟩⟩
    have kp : ∀ b o, b ∉ (z :: TI :: TO :: us.map Wa.it) → s.heap.get? b = some o → h2.get? b = some o := fun b o hb q => by
      simp only [List.mem_cons, not_or] at hb
      exact (sb.2 b hb.1).trans (a6 b o hb.1 hb.2.2.1 (by rw [itm]; exact hb.2.2.2) q)
    have I1 : Inv X pins σ (upd H s.heap.objs.size (.tup (xss.map fun xs => xs.getD i .non))) { s with heap := h2 } := I.turnedNew (t' := s.toks) (ch := z :: TI :: TO :: us.map Wa.it) kp hf (Nat.le_refl _) new
    have up2 : ∀ t ∈ ts, Au h2 t (i + 1) := fun t ht => (a2 t ht).keep (fun o e => (sb.2 _ (apart.2.1 t ht).1).trans e) fun o e => (sb.2 _ (apart.2.1 t ht).2).trans e
    obtain ⟨arr', b1, b2⟩ := a5
    refine ⟨.ref s.heap.objs.size, _, I1, rfl, ⟨_, _, rfl, I.hok.fresh (Nat.le_refl _), rfl, fun yss hy => by rw [sqb_inj I hy hq]⟩, ⟨z2, ?_, ⟨arr', (sb.2 _ D.zT.symm).trans b1, b2.trans tl⟩, e5 h2 (i + 1) up2 fun u hm xs p => ?_⟩, fun b hb => ?_⟩
    · refine (sb.2 _ D.zI.symm).trans (a6 TI _ D.zI.symm D.TT ?_ hTI)
      rw [itm]
      intro hm
      obtain ⟨u, hu, q⟩ := List.mem_map.mp hm
      exact D.aI u hu q
    · have n1 := (D.az u hm).2
      have n2 := (D.aT u hm).2
      have n3 : u.c.2 ∉ ts.map Tr.it := by
        rw [itm]
        intro hq'
        obtain ⟨v, hv, q⟩ := List.mem_map.mp hq'
        exact D.il v hv u hm q
      have far : ∀ o, s.heap.get? u.c.2 = some o → h2.get? u.c.2 = some o := fun o e => (sb.2 _ n1).trans (a6 _ o n1 n2 n3 e)
      obtain ⟨⟨b, l⟩, it⟩ := u
      cases b
      · obtain ⟨o, e, q⟩ := p
        exact ⟨o, far o e, q⟩
      · obtain ⟨o, e, q⟩ := p
        exact ⟨o, far o e, q⟩
    · have lt : b < s.heap.objs.size := by
        simp only [List.mem_cons, List.mem_map] at hb
        rcases hb with q | q | q | ⟨u, hm, q⟩
        · rw [q]; exact hzl
        · rw [q]; exact Heap.lt_size hTI
        · rw [q]; exact Heap.lt_size hTO
        · obtain ⟨o, e, _⟩ := (hu u hm).obj
          rw [← q]; exact Heap.lt_size e
      rw [upd_ne (Nat.ne_of_lt lt)]
      exact (hf b hb).1
  done := by
    intro X hP hw hK hc i pins s σ H E I hf ⟨hz, hTI, ⟨arr, hTO, hs⟩, hu⟩ ⟨xss, hq, xs, r, ex, hl⟩
    subst hP hw hK ex
    obtain ⟨ts, e1, e2, e3, e4, e5⟩ := trs_of I hq hu
    have ex := map_ex e1 e2
    have eI : (ts.map fun t => Value.ref t.it) = us.map fun u => Value.ref u.it := by
      have q := congrArg (List.map Value.ref) e1
      simpa [List.map_map, Function.comp_def] using q
    cases e4 with
    | cons h4 r4 =>
      rename_i t ts
      obtain ⟨a, a1, a2, a3⟩ := ex t List.mem_cons_self
      have ty : s.TypeIs (.ref z) "zip" := ⟨_, hz, rfl⟩
      unfold pyNext
      refine wpAny_bind (wpAny_attempt (wpAny_callSpecial?_slot (name := Str.ofString "__next__") ty F.slot_zip_next (wpAny_call_entry F.slot_zip_next ty F.entry_zip_next
        (end_U (I.ok.hd hc) hz (by rw [eI]; exact hTI) hTO (e3 t List.mem_cons_self) (by rw [Array.getElem?_eq_none]; rw [← Array.length_toList, ← h4.length]; exact hl) (by rw [a2, a3]; exact D.az a a1) fun h' e hk he => ?_) (F.args_zip_next_1 _))))
      obtain ⟨o, ho, hce⟩ := he
      refine wpAny_bind (wpAny_isInstance (T := "StopIteration") (b := true) ⟨o, ho, hce⟩ isSubtype_stop ?_)
      refine wpAny_pure ⟨rfl, I.turnedL (t' := s.toks) (ch := z :: TI :: TO :: us.map Wa.it) (fun c o hb q => ?_) hf⟩
      simp only [List.mem_cons, not_or] at hb
      refine hk c o hb.1 (fun e => hb.2.2.2 ?_) q
      rw [e, a2]
      exact List.mem_map_of_mem a1
  self := fun A i s Q E st h => wpAny_pyIter_zip st.1 h
end FV

set_option Elab.async false
set_option linter.all false
set_option maxRecDepth 100000
set_option maxHeartbeats 4000000
namespace FL
open PySem PySem.Spec PyProof.Rows L2 DL FV FZ
/-! for a, b in zip(x, y, ..): lists and tuples of one length -/
theorem sqb_lt {X : Cx} {pins : List (Addr × Obj)} {σ : L2.St} {H : Hp} {s : Shared} (I : Inv X pins σ H s) {c : Sc} {xs : List V} (h : SqB X.K H c xs) : c.2 < s.heap.objs.size := by
  obtain ⟨its, _, p⟩ := sqb_is I h
  obtain ⟨b, l⟩ := c
  cases b
  · obtain ⟨o, e, _⟩ := p
    exact Heap.lt_size e
  · obtain ⟨o, e, _⟩ := p
    exact Heap.lt_size e
theorem vals_refs {H : Hp} : ∀ {cs : List Sc} {us : List Value}, Vals (cs.map fun c => V.ref c.2) us → us = cs.map fun c => Value.ref c.2
  | [], _, h => by cases h; rfl
  | c :: cs, _, h => by
    cases h with
    | cons a b =>
      cases a
      rw [vals_refs (H := H) b]
      rfl
def iZn (K : PySem.W.Frag) (ta : TA) : TI := fun σ H R => ta σ H fun vs H1 => ∃ cs xss, vs = cs.map (fun c : Sc => V.ref c.2) ∧ F2 (SqB K H1) cs xss ∧ cs ≠ [] ∧ cs.length ≤ 1000 ∧ R (Itn K cs) H1
theorem pi_zn {X : Cx} {e : Expr} {es : List Expr} {ta : TA} {p pos tpos : Pos} {elts : List Expr} {kk : Nat} (hg : Gl X "zip") (hm : X.mg "zip" = none) (ha : PA X (e :: es) ta)
    (hs : starEach (e :: es) X.env = (false, eval e X.env) :: starEach es X.env := by rfl) (hpl : (backTo pos (starEach es X.env)).any (·.1) = false := by rfl) :
    PI X (.Tuple elts kk tpos) (.Call (.Name "zip" p) (e :: es) [] pos) (iZn X.K ta) := by
  refine ⟨fun pins s σ H R I h => ?_⟩
  refine Call_ (ld_blt I hg hm PyProof.Rows.boot_zip (PyProof.Rows.callWith_type1 (thn (ha.run pos pins s σ H _ I h) fun us s1 ⟨vs, H1, I1, r1, q1⟩ => ?_) hs hpl))
  obtain ⟨cs, xss, ex, hq, hne, hlen, hR⟩ := q1
  subst ex
  rw [vals_refs (H := H1) r1]
  have src : ∀ c ∈ cs, (∃ xs, IsSc s1.heap c xs) ∧ c.2 < s1.heap.objs.size := fun c hc => by
    obtain ⟨xs, _, hx⟩ := hq.mem c hc
    obtain ⟨its, _, q⟩ := sqb_is I1 hx
    exact ⟨⟨_, q⟩, sqb_lt I1 hx⟩
  refine call_zp hlen (fun c hc => (src c hc).1) ?_
  have hz := zpH_z (h := s1.heap) (cs := cs)
  have hO := zpH_TO (h := s1.heap) (cs := cs)
  have hI := zpH_TI (h := s1.heap) (cs := cs)
  obtain ⟨n, hn⟩ : ∃ n, n = s1.heap.objs.size := ⟨_, rfl⟩
  obtain ⟨us, hus⟩ : ∃ us : List Wa, us = cs.zipIdx.map fun p => (⟨p.1, n + p.2⟩ : Wa) := ⟨_, rfl⟩
  have ul : us.length = cs.length := by rw [hus]; simp
  have uc : us.map Wa.c = cs := by
    rw [hus, List.map_map]
    apply List.ext_getElem?
    intro i
    rw [List.getElem?_map, List.getElem?_zipIdx]
    cases cs[i]? <;> rfl
  have ui : us.map Wa.it = List.range' n cs.length := by
    rw [hus, List.map_map]
    apply List.ext_getElem?
    intro i
    rw [List.getElem?_map, List.getElem?_zipIdx]
    by_cases h : i < cs.length
    · rw [List.getElem?_eq_getElem h, List.getElem?_range' h]
      simp
    · rw [List.getElem?_eq_none (by omega), List.getElem?_eq_none (by simp; omega)]
      rfl
  have ur : (us.map fun u => Value.ref u.it) = (List.range' n cs.length).map Value.ref := by rw [← ui, List.map_map]; rfl
  have um : ∀ u ∈ us, ∃ i : Nat, cs[i]? = some u.c ∧ u.it = n + i ∧ i < cs.length := fun u hu => by
    rw [hus] at hu
    obtain ⟨⟨c, i⟩, h1, h2⟩ := List.mem_map.mp hu
    have h3 := List.mem_zipIdx_iff_getElem?.mp h1
    subst h2
    exact ⟨i, h3, rfl, (List.getElem?_eq_some_iff.mp h3).1⟩
  rw [← hn] at hz hO hI ⊢
  rw [← ur] at hI
  have nn : ∀ {a b : Nat}, a < b ∨ b < a → (a : Addr) ≠ b := fun h e => by
    have e' : (_ : Nat) = _ := e
    omega
  have old : ∀ c ∈ cs, ∃ l : Nat, c.2 = l ∧ l < n := fun c hc => ⟨c.2, rfl, by rw [hn]; exact (src c hc).2⟩
  have D : Apz us (n + cs.length + 2) (n + cs.length) (n + cs.length + 1) := by
    refine ⟨fun e => hne (List.eq_nil_of_length_eq_zero (by rw [← ul, e]; rfl)), by rw [ul]; exact hlen, by rw [ui]; exact List.nodup_range', fun t ht u hu => ?_, fun t ht => ?_, fun t ht => ?_, fun t ht => ?_, nn (by omega), nn (by omega), nn (by omega)⟩
    · obtain ⟨i, a1, a2, a3⟩ := um t ht
      obtain ⟨j, b1, b2, b3⟩ := um u hu
      obtain ⟨l, l1, lo⟩ := old _ (List.mem_of_getElem? b1)
      rw [a2, l1]
      exact nn (.inr (by omega))
    · obtain ⟨i, a1, a2, a3⟩ := um t ht
      obtain ⟨l, l1, lo⟩ := old _ (List.mem_of_getElem? a1)
      rw [a2, l1]
      exact ⟨nn (by omega), nn (.inl (by omega))⟩
    · obtain ⟨i, a1, a2, a3⟩ := um t ht
      obtain ⟨l, l1, lo⟩ := old _ (List.mem_of_getElem? a1)
      rw [a2, l1]
      exact ⟨nn (by omega), nn (.inl (by omega))⟩
    · obtain ⟨i, a1, a2, a3⟩ := um t ht
      rw [a2]
      exact nn (by omega)
  have kp : ∀ b o, s1.heap.get? b = some o → (zpH s1.heap cs).get? b = some o := fun b o e => zpH_keep e
  have I2 : Inv X pins σ H1 { s1 with heap := zpH s1.heap cs } := I1.kept (t' := s1.toks) kp
  refine wpAny_pyIter_zip (s := { s1 with heap := zpH s1.heap cs }) hz ?_
  have T := turn_zp (P := X.prog) (w := X.w) (K := X.K) (elts := elts) (kk := kk) (tpos := tpos) D
  rw [uc] at T
  refine ⟨n + cs.length + 2, _, _, _, H1, rfl, I2, T, ⟨hz, hI, ⟨_, hO, by simp [ul]⟩, fun u hu => ?_⟩, fun b hb => ?_, hR⟩
  · obtain ⟨i, a1, a2, a3⟩ := um u hu
    have q : (zpH s1.heap cs).get? u.it = some (itK u.c) := by
      rw [a2, hn]
      exact zpH_at a1
    obtain ⟨⟨b, l⟩, it⟩ := u
    cases b
    · exact ⟨_, q, rfl, rfl⟩
    · exact ⟨_, q, rfl, rfl⟩
  · have hle : s1.heap.objs.size ≤ b := by
      rw [← hn]
      simp only [List.mem_cons] at hb
      rcases hb with q | q | q | q
      · rw [q]; exact Nat.le_trans (Nat.le_add_right _ _) (Nat.le_add_right _ _)
      · rw [q]; exact Nat.le_add_right _ _
      · rw [q]; exact Nat.le_trans (Nat.le_add_right _ _) (Nat.le_add_right _ _)
      · rw [ui] at q
        exact (List.mem_range'_1.mp q).1
    exact I1.fpOk hle (I1.hok.fresh hle)
/-! ### over trees -/
def seqsOf : List D → Option (List (List D))
  | [] => some []
  | d :: ds => match seqOf d, seqsOf ds with
    | some x, some xs => some (x :: xs)
    | _, _ => none
def zipD : List (List D) → Option (List D)
  | [] => none
  | xs :: xss => if xss.all (fun ys => Nat.beq ys.length xs.length) = true ∧ xss.length < 1000 then some ((List.range xs.length).map fun i => .tup ((xs :: xss).map fun ys => ys.getD i .non)) else none
theorem zipD_pos {xs : List D} {xss : List (List D)} (c : xss.all (fun ys => Nat.beq ys.length xs.length) = true ∧ xss.length < 1000) : zipD (xs :: xss) = some ((List.range xs.length).map fun i => .tup ((xs :: xss).map fun ys => ys.getD i .non)) := if_pos c
theorem zipD_neg {xs : List D} {xss : List (List D)} (c : ¬ (xss.all (fun ys => Nat.beq ys.length xs.length) = true ∧ xss.length < 1000)) : zipD (xs :: xss) = none := if_neg c
def zipK (ds : List D) : Option (List D) := (seqsOf ds).bind zipD
def iZp (n : fA) : fA := fun ρ st => (n ρ st).bind fun ds st1 => match zipK ds with
  | some rows => .ok rows st1
  | none => .bad
section
variable {θ : Th}
theorem seqOf_rn {d e : D} {xs : List D} (r : Rn θ d e) (h : seqOf d = some xs) : ∃ ys, seqOf e = some ys ∧ RnL θ xs ys := by
  cases r <;> first | (cases h; rename_i r; exact ⟨_, rfl, r⟩) | cases h
theorem seqsOf_rn : ∀ {ds es : List D} {xss : List (List D)}, RnL θ ds es → seqsOf ds = some xss → ∃ yss, seqsOf es = some yss ∧ F2 (RnL θ) xss yss
  | _, _, _, .nil, h => by
    cases h
    exact ⟨[], rfl, .nil⟩
  | _, _, xss, .cons (d := d) (ds := ds) a b, h => by
    unfold seqsOf at h
    cases h1 : seqOf d with
    | none => rw [h1] at h; cases h
    | some x =>
      cases h2 : seqsOf ds with
      | none => rw [h1, h2] at h; cases h
      | some xs =>
        rw [h1, h2] at h
        cases h
        obtain ⟨y, e1, r1⟩ := seqOf_rn a h1
        obtain ⟨ys, e2, r2⟩ := seqsOf_rn b h2
        exact ⟨y :: ys, by rw [seqsOf, e1, e2], .cons r1 r2⟩
theorem rnl_getD {xs ys : List D} {i : Nat} (r : RnL θ xs ys) : Rn θ (xs.getD i .non) (ys.getD i .non) := by
  by_cases h : i < xs.length
  · obtain ⟨e, h1, h2⟩ := r.at (i := i) (d := xs[i]) (by simp [h])
    rw [List.getD_eq_getElem?_getD, List.getD_eq_getElem?_getD, h1, List.getElem?_eq_getElem h]
    exact h2
  · have l := r.len
    rw [List.getD_eq_getElem?_getD, List.getD_eq_getElem?_getD, List.getElem?_eq_none (by omega), List.getElem?_eq_none (by omega)]
    exact .non
theorem cols_rn {i : Nat} : ∀ {xss yss : List (List D)}, F2 (RnL θ) xss yss → RnL θ (xss.map fun xs => xs.getD i .non) (yss.map fun xs => xs.getD i .non)
  | _, _, .nil => .nil
  | _, _, .cons a r => .cons (rnl_getD a) (cols_rn r)
theorem zipD_rn {xss yss : List (List D)} {rows : List D} (r : F2 (RnL θ) xss yss) (h : zipD xss = some rows) : ∃ rows', zipD yss = some rows' ∧ RnL θ rows rows' := by
  cases r with
  | nil => cases h
  | cons a r =>
    rename_i xs ys xss yss
    have l := a.len
    by_cases c : xss.all (fun ys => Nat.beq ys.length xs.length) = true ∧ xss.length < 1000
    · rw [zipD_pos c] at h
      cases h
      have all2 : ∀ {xss yss : List (List D)}, F2 (RnL θ) xss yss → xss.all (fun z => Nat.beq z.length xs.length) = true → yss.all (fun z => Nat.beq z.length ys.length) = true := fun {xss yss} r => by
        induction r with
        | nil => exact fun _ => rfl
        | cons b q ih =>
          intro h
          simp only [List.all_cons, Bool.and_eq_true] at h ⊢
          exact ⟨by rw [← b.len, ← l]; exact h.1, ih h.2⟩
      refine ⟨(List.range ys.length).map fun i => .tup ((ys :: yss).map fun z => z.getD i .non), ?_, ?_⟩
      · exact zipD_pos ⟨all2 r c.1, by rw [← r.len]; exact c.2⟩
      · rw [← l]
        generalize List.range xs.length = js
        induction js with
        | nil => exact .nil
        | cons j js ih => exact .cons (.tup (cols_rn (.cons a r))) ih
    · rw [zipD_neg c] at h
      cases h
end
section
variable {K : PySem.W.Frag} {mg : Str → Option Value} {G : Hp}
theorem seqOf_sq {v : V} {d : D} {xs : List D} (r : Rp K mg G v d) (h : seqOf d = some xs) : ∃ c vs, v = .ref c.2 ∧ SqB K G c vs ∧ RpL K mg G vs xs := by
  cases r with
  | lst q l => cases h; exact ⟨(false, _), _, rfl, SqL.of q, l⟩
  | tup q l => cases h; exact ⟨(true, _), _, rfl, q, l⟩
  | frz q l => cases h; exact ⟨(false, _), _, rfl, q.sql, l⟩
  | _ => cases h
theorem seqsOf_sq : ∀ {vs : List V} {ds : List D} {xss : List (List D)}, RpL K mg G vs ds → seqsOf ds = some xss → ∃ cs wss, vs = cs.map (fun c : Sc => V.ref c.2) ∧ F2 (SqB K G) cs wss ∧ F2 (fun ws xs => RpL K mg G ws xs) wss xss
  | _, _, _, .nil, h => by
    cases h
    exact ⟨[], [], rfl, .nil, .nil⟩
  | _, _, xss, .cons (d := d) (ds := ds) a b, h => by
    unfold seqsOf at h
    cases h1 : seqOf d with
    | none => rw [h1] at h; cases h
    | some x =>
      cases h2 : seqsOf ds with
      | none => rw [h1, h2] at h; cases h
      | some xs =>
        rw [h1, h2] at h
        cases h
        obtain ⟨c, ws, e1, s1, r1⟩ := seqOf_sq a h1
        obtain ⟨cs, wss, e2, s2, r2⟩ := seqsOf_sq b h2
        exact ⟨c :: cs, ws :: wss, by rw [e1, e2]; rfl, .cons s1 s2, .cons r1 r2⟩
theorem sqb_mono {H : Hp} {c : Sc} {xs : List V} (e : Same G H) (h : SqB K G c xs) : SqB K H c xs := by
  obtain ⟨b, l⟩ := c
  cases b
  · exact sql_mono e h
  · exact sqt_mono e h
theorem rpl_getD {vs : List V} {ds : List D} {i : Nat} (r : RpL K mg G vs ds) (h : i < ds.length) : Rp K mg G (vs.getD i .non) (ds.getD i .non) := by
  obtain ⟨v, e, q⟩ := r.at (i := i) (d := ds[i]) (by simp [h])
  rw [List.getD_eq_getElem?_getD, List.getD_eq_getElem?_getD, e, List.getElem?_eq_getElem h]
  exact q
theorem cols_rp {i : Nat} : ∀ {wss : List (List V)} {xss : List (List D)}, F2 (fun ws xs => RpL K mg G ws xs) wss xss → (∀ xs ∈ xss, i < xs.length) → RpL K mg G (wss.map fun ws => ws.getD i .non) (xss.map fun xs => xs.getD i .non)
  | _, _, .nil, _ => .nil
  | _, _, .cons a r, h => .cons (rpl_getD a (h _ List.mem_cons_self)) (cols_rp r fun xs hx => h xs (List.mem_cons_of_mem _ hx))
theorem y_zip {cs : List Sc} {wss : List (List V)} {xss : List (List D)} {rows : List D} (q : F2 (SqB K G) cs wss) (r : F2 (fun ws xs => RpL K mg G ws xs) wss xss) (h : zipD xss = some rows) : Yields K mg (Itn K cs) G rows := fun G' H e e' => by
  have hq : F2 (SqB K H) cs wss := q.imp fun c xs p => sqb_mono (e.trans e') p
  cases xss with
  | nil => cases h
  | cons xs xss =>
    by_cases c : xss.all (fun ys => Nat.beq ys.length xs.length) = true ∧ xss.length < 1000
    · rw [zipD_pos c] at h
      cases h
      have len : ∀ ys ∈ xs :: xss, ys.length = xs.length := fun ys hy => by
        cases hy with
        | head => rfl
        | tail _ hy => exact Nat.eq_of_beq_eq_true (List.all_eq_true.mp c.1 ys hy)
      have len2 : ∀ {wss : List (List V)} {xss : List (List D)} {n : Nat}, F2 (fun ws xs => RpL K mg G ws xs) wss xss → (∀ ys ∈ xss, ys.length = n) → ∀ ws ∈ wss, ws.length = n := fun {wss xss n} r hl => by
        induction r with
        | nil => intro ws hw; cases hw
        | cons a q ih =>
          intro ws hw
          cases hw with
          | head => rw [a.len]; exact hl _ List.mem_cons_self
          | tail _ hw => exact ih (fun ys hy => hl ys (List.mem_cons_of_mem _ hy)) ws hw
      have lw := len2 r len
      rw [List.length_map, List.length_range]
      refine ⟨fun i hi => ⟨wss, hq, fun ws hw => by rw [lw ws hw]; exact hi⟩, ?_, fun i x H' hi ⟨T, ys, ex, nT, eH, hy⟩ => ?_⟩
      · cases r with
        | cons a r =>
          refine ⟨_, hq, _, _, rfl, ?_⟩
          rw [a.len]
          exact Nat.le_refl _
      · subst ex eH
        have sg := same_new (o := HO.tup ys) (e'.free nT)
        have ey := hy _ hq
        have r2 := cols_rp (i := i) r fun zs hz => by rw [len zs hz]; exact hi
        refine ⟨_, .one nT, .tup ((xs :: xss).map fun zs => zs.getD i .non), ?_, .tup (SqT.of upd_same) ?_⟩
        · rw [List.getElem?_map, List.getElem?_range hi]
          rfl
        · have r3 := (r2.mono e).mono sg
          rw [← ey] at r3
          exact r3
    · rw [zipD_neg c] at h
      cases h
end
section
variable {X : Cx} {Φ : OH → Hp → Hp → Prop} {W : WX} [FΦ : OFrm X.K X.mg Φ] {J : Jv}
theorem fi_zip {e : Expr} {es : List Expr} {f : fA} {p pos tpos : Pos} {elts : List Expr} {kk : Nat} (hg : Gl X "zip") (hm : X.mg "zip" = none) (h : FA X Φ W J (e :: es) f)
    (hs : starEach (e :: es) X.env = (false, eval e X.env) :: starEach es X.env := by rfl) (hpl : (backTo pos (starEach es X.env)).any (·.1) = false := by rfl) :
    FI X Φ W J (.Tuple elts kk tpos) (.Call (.Name "zip" p) (e :: es) [] pos) (iZp f) := by
  obtain ⟨ta, h⟩ := h
  refine ⟨_, pi_zn hg hm h.pa hs hpl, fun σ ρ' O G H Q P R hρ f0 hW ⟨θ, ρ, st, c, hh⟩ kk => ?_⟩
  refine h.sem σ ρ' O G H _ (fun xs O1 => ∃ rows, zipK xs = some rows ∧ P rows O1) R hρ f0 hW ⟨θ, ρ, st, c, hh.bind fun θ1 a a' st1 O1 s1 ra m1 h1 => ?_⟩ fun xs O1 vs G1 H1 ⟨rows, hx, p⟩ e1 f1 r1 => ?_
  · cases q : zipK a with
    | none => rw [q] at h1; exact h1.elim
    | some rows =>
      rw [q] at h1
      unfold zipK at q
      cases q1 : seqsOf a with
      | none => rw [q1] at q; cases q
      | some xss =>
        rw [q1] at q
        obtain ⟨yss, e2, r2⟩ := seqsOf_rn ra q1
        obtain ⟨rows', e3, r3⟩ := zipD_rn r2 q
        refine ⟨rows', ?_, Aft.ok h1 r3 m1⟩
        unfold zipK
        rw [e2]
        exact e3
  · have sm := Frm.same f1
    unfold zipK at hx
    cases q1 : seqsOf xs with
    | none => rw [q1] at hx; cases hx
    | some xss =>
      rw [q1] at hx
      obtain ⟨cs, wss, e2, s2, r2⟩ := seqsOf_sq r1 q1
      have hx : zipD xss = some rows := hx
      have l1 := s2.len
      have l2 := r2.len
      have ne : cs ≠ [] ∧ cs.length ≤ 1000 := by
        cases xss with
        | nil => cases hx
        | cons y ys =>
          by_cases c : ys.all (fun z => Nat.beq z.length y.length) = true ∧ ys.length < 1000
          · have c2 := c.2
            simp only [List.length_cons] at l2
            refine ⟨fun z => ?_, by omega⟩
            subst z
            simp only [List.length_nil] at l1
            omega
          · rw [zipD_neg c] at hx
            cases hx
      exact ⟨cs, wss, e2, s2.imp fun c xs p => sqb_mono sm p, ne.1, ne.2, kk rows O1 _ G1 H1 p e1 f1 (y_zip s2 r2 hx)⟩
end
end FL

set_option Elab.async false
set_option linter.all false
set_option maxRecDepth 100000
set_option maxHeartbeats 4000000
/-! [e for t in s for t1 in s1], without tests -/
namespace DL
open PySem PySem.Spec PyProof.Rows L2
section
variable {X : Cx} {Φ : OH → Hp → Hp → Prop} {W : WX} [F : OFrm X.K X.mg Φ]
section
variable {elt tg iter tg1 iter1 : Expr} {scope : Scope} {own : List (Str × Nat)} {vs1 : List Nat} {pos : Pos} {wi wi1 : TI} {g g1 : TG} {te : TE} {mi mi1 : MI OH} {mg mg1 : MG OH} {me : ME OH} {il il1 : List Nat}
end
end
end DL
namespace FL
open PySem PySem.Spec PyProof.Rows L2 DL
def fLc2Go (g : fG) (it1 : fA) (g1 : fG) (m : fE) (vs vs1 : List Nat) (ρ : Rho) : List D → List D → St → Res (List D)
  | [], acc, st => .ok acc st
  | d :: ds, acc, st => match g d (wipeD ρ vs) st with
    | none => .bad
    | some (ρ1, st1) => match it1 ρ1 st1 with
      | .ok es st2 => (fLcGo g1 fYes m vs1 ρ1 es acc st2).bind fun acc1 st3 => fLc2Go g it1 g1 m vs vs1 ρ ds acc1 st3
      | _ => .bad
def fLc2 (it : fA) (g : fG) (it1 : fA) (g1 : fG) (m : fE) (vs vs1 : List Nat) : fE := fun ρ st => (it ρ st).bind fun ds st1 => (fLc2Go g it1 g1 m vs vs1 ρ ds [] st1).bind fun acc st2 => .ok (.lst acc) st2
section
variable {J : Jv}
section
variable {X : Cx} {Φ : OH → Hp → Hp → Prop} {W : WX} [FΦ : OFrm X.K X.mg Φ]
variable {elt tg iter tg1 iter1 : Expr} {scope : Scope} {own : List (Str × Nat)} {vs1 : List Nat} {pos : Pos} {g g1 : TG} {fi fi1 : fA} {fg fg1 : fG} {fe : fE} {il il1 : List Nat}
end
end
end FL

set_option Elab.async false
set_option linter.all false
set_option maxRecDepth 100000
set_option maxHeartbeats 4000000
/-! sorted(l), l tuples that begin with unlike ints -/
namespace FV
open PySem PySem.Spec PyProof.Rows SrtO
section
variable {prog : Program} {w : World} {A : Around} {E : Value → Shared → Prop} {s : Shared}
def IsHd (h : Heap) (v : Value) (i : Int) : Prop := ∃ a o t xs n, v = Value.ref a ∧ h.get? a = some o ∧ o.cls = .type "tuple" ∧ o.data = .seq xs n ∧ xs[0]? = some (.int i t)
theorem IsHd.keep {h h' : Heap} {v : Value} {i : Int} (a : IsHd h v i) (k : ∀ b o, v = .ref b → h.get? b = some o → o.cls = .type "tuple" → h'.get? b = some o) : IsHd h' v i := by
  obtain ⟨b, o, t, xs, n, e, ho, hc, hd, hx⟩ := a
  exact ⟨b, o, t, xs, n, e, k b o e ho hc, hc, hd, hx⟩
def hk (h : Heap) (v : Value) : Int := match v with
  | .ref a => match h.get? a with
    | some ⟨_, _, .seq xs _, _⟩ => match xs.toList with
      | Value.int i _ :: _ => i
      | _ => 0
    | _ => 0
  | _ => 0
theorem first_list {xs : Array Value} {v : Value} (hx : xs[0]? = some v) : ∃ r, xs.toList = v :: r := by
  rw [← Array.getElem?_toList] at hx
  cases q : xs.toList with
  | nil => rw [q] at hx; cases hx
  | cons z r => rw [q] at hx; cases hx; exact ⟨r, rfl⟩
theorem IsHd.hk {h : Heap} {v : Value} {i : Int} (a : IsHd h v i) : hk h v = i := by
  obtain ⟨b, ⟨oc, od, dt, sl⟩, t, xs, n, e, ho, hc, hd, hx⟩ := a
  have hd : dt = .seq xs n := hd
  subst e hd
  obtain ⟨r, hr⟩ := first_list hx
  unfold FV.hk
  dsimp only
  rw [ho]
  dsimp only
  rw [hr]
end
/-! ### by insertion -/
section
variable {α β : Type}
end
end FV
namespace L2
open PySem PySem.Spec PyProof.Rows FV
section
variable {X : Cx}
end
end L2
namespace FL
open PySem PySem.Spec PyProof.Rows L2 DL FV
def headD : D → Option Int
  | .tup (.int i :: _) => some i
  | _ => none
section
variable {K : PySem.W.Frag} {mg : Str → Option Value} {G H : Hp}
end
section
variable {X : Cx}
end
end FL

set_option Elab.async false
set_option linter.all false
set_option maxRecDepth 100000
set_option maxHeartbeats 4000000
/-! len(x), x an instance with a __len__ of its own -/
namespace DL
open PySem PySem.Spec PyProof.Rows L2
section
variable {X : Cx}
variable {Φ : OH → Hp → Hp → Prop} {W : WX} [FΦ : OFrm X.K X.mg Φ]
def mLenI (C : Str) (g : WF) (m : ME OH) : ME OH := fun ρ O P R => m ρ O (fun x O1 => ∃ ns ds, x = .ins C ns ds ∧ g [x] O1 (fun d O2 => ∃ y, d = .int y ∧ (0 ≤ y ∧ y < 2 ^ 63) ∧ P d O2) R0) R
theorem cr_lenI {k : Nat} {C f : Addr} {fd : FuncData} {n : Str} {g : WF} (c : Cls X.K C) (hs : PySem.W.findIn X.K (.ref C) "__len__" = some (some (.ref f))) (hf : PySem.W.isFn X.K (.ref f) = true) (F : FnG X.prog X.w X.K X.mg X.base k f fd [n] g) (hr : Rm (k + 1) X) (hb : Binds X.K fd [n] []) :
    CallR X (.builtin "len") (fun vs H Q => ∃ a dx fs, vs = [.ref a] ∧ H a = some (.ins C dx fs) ∧ spO X.K X.mg 1 g [.ref a] H (fun v H' => ∃ y, v = .int y ∧ (0 ≤ y ∧ y < 2 ^ 63) ∧ Q v H') E0) := by
  intro pins s σ H vs us Q I r ⟨a, dx, fs, ev, ha, q⟩
  subst ev
  obtain ⟨u, rfl, ru⟩ := vals1 r
  cases (show u = Value.ref a from ru)
  obtain ⟨mA, J, _⟩ := ins_get I.hok ha
  obtain ⟨od, J, _⟩ := J.look
  obtain ⟨m, hF⟩ := I.fr
  have hl : ([Value.ref a] ++ []).length = [n].length := rfl
  have go := F.run X.A.in1 X.stack s H ⟨[.ref a], []⟩ [.ref a] [.ref a] _ E0 hr.room.in1 hr.gd I.env0.in1 (hb s [.ref a] I.kIn hl) (.cons rfl .nil) q
  refine PySem.W.len_K hF I.ok.mod.kin J hs hf (wpAny_call (codeAny_mono go fun r s' hq => ?_))
  match r, hq with
  | .error er, hq => exact (passL (X := X.nox) pins σ H s er s' (I.wish _) hq).elim
  | .ok (.ret u), hq =>
    obtain ⟨v, H', I3, rv, y, ev, hy, q3⟩ := I.after hq
    subst ev
    obtain ⟨t, rfl⟩ := rv
    exact ⟨hy, .int y, H', I3.tok _, ⟨_, rfl⟩, q3⟩
  | .ok .next, hq => exact hq.elim
  | .ok .brk, hq => exact hq.elim
  | .ok .cont, hq => exact hq.elim
theorem de_lenI {k : Nat} {C f : Addr} {Cn : Str} {fd : FuncData} {n : Str} {g : WF} {e : Expr} {te : TE} {m : ME OH} {p pos : Pos} (c : Cls X.K C) (hC : X.mg Cn = some (.ref C)) (hs : PySem.W.findIn X.K (.ref C) "__len__" = some (some (.ref f))) (hf : PySem.W.isFn X.K (.ref f) = true)
    (F : FnG X.prog X.w X.K X.mg X.base k f fd [n] g) (hr : Rm (k + 1) X) (hb : Binds X.K fd [n] []) (hg : Gl X "len") (hm : X.mg "len" = none) (h : DE X Φ W e te m)
    (he : starEach [e] X.env = (false, eval e X.env) :: starEach [] X.env := by rfl) (hpl : (backTo pos (starEach [] X.env)).any (·.1) = false := by rfl) :
    DE X Φ W (.Call (.Name "len" p) [e] [] pos) (tCB (fun vs H Q => ∃ a dx fs, vs = [.ref a] ∧ H a = some (.ins C dx fs) ∧ spO X.K X.mg 1 g [.ref a] H (fun v H' => ∃ y, v = .int y ∧ (0 ≤ y ∧ y < 2 ^ 63) ∧ Q v H') E0) (tCons te tNil)) (mLenI Cn g m) :=
  ⟨pe_callB (cr_lenI c hs hf F hr hb) hg hm (by decide +kernel) (pa_cons h.pe pa_nil he) (by decide) (by decide) he hpl, fun σ ρ O G H Q P R hρ f0 hW hmm k => h.sem σ ρ O G H _ _ R hρ f0 hW hmm fun x O1 v G1 H1 ⟨ns, ds, ex, hgx⟩ e1 f1 r1 => by
    subst ex
    have r2 := r1
    cases r1 with
    | ins mC hG hl rl =>
      rw [hC] at mC
      cases mC
      refine ⟨_, _, _, rfl, Frm.same f1 _ _ hG, spO_of (R := R0) f1 (.cons r2 .nil) rfl hgx (fun d s' z G' H' ⟨y, ed, hy, p⟩ q f' rz => ?_) fun _ _ _ _ _ _ _ _ _ z => z.elim⟩
      subst ed
      cases rz
      exact ⟨y, rfl, hy, k _ s' _ G' H' p (e1.trans q) f' (.int y)⟩⟩
end
end DL
namespace FL
open PySem PySem.Spec PyProof.Rows L2 DL
def fLenI (C : Str) (F : fF) (m : fE) : fE := fun ρ st => (m ρ st).bind fun x st1 => match x with
  | .ins C' ns ds => if C' = C then (F [.ins C' ns ds] st1).calm.bind fun d st2 => match d with
      | .int y => if 0 ≤ y ∧ y < 2 ^ 63 then .ok (.int y) st2 else .bad
      | _ => .bad
    else .bad
  | _ => .bad
section
variable {X : Cx} {Φ : OH → Hp → Hp → Prop} {W : WX} [FΦ : OFrm X.K X.mg Φ] {J : Jv} {k : Nat} {C g : Addr} {Cn n : Str} {fd : FuncData} {F : fF} {e : Expr} {m : fE} {pos : Pos}
theorem fe_lenI {p : Pos} (c : Cls X.K C) (hC : X.mg Cn = some (.ref C)) (hs : PySem.W.findIn X.K (.ref C) "__len__" = some (some (.ref g))) (hf : PySem.W.isFn X.K (.ref g) = true)
    (Fg : FnG X.prog X.w X.K X.mg X.base k g fd [n] (gF F)) (hr : Rm (k + 1) X) (hb : Binds X.K fd [n] []) (hg : Gl X "len") (hm : X.mg "len" = none) (h : FE X Φ W J e m)
    (he : starEach [e] X.env = (false, eval e X.env) :: starEach [] X.env := by rfl) (hpl : (backTo pos (starEach [] X.env)).any (·.1) = false := by rfl) :
    FE X Φ W J (.Call (.Name "len" p) [e] [] pos) (fLenI Cn F m) := by
  obtain ⟨_, h⟩ := h
  refine fe_of (de_lenI c hC hs hf Fg hr hb hg hm h he hpl) fun ρ' O P R ⟨θ, ρ, st, c, h⟩ => ⟨θ, ρ, st, c, h.bind fun θ1 a a' st1 O1 s1 ra m1 h1 => ?_⟩
  cases ra with
  | @ins C' ns u u' ru =>
    simp only at h1
    by_cases q : C' = Cn
    · subst q
      rw [if_pos rfl] at h1
      refine ⟨_, _, rfl, θ1, _, st1, .cons (.ins ru) .nil, m1, ?_⟩
      cases z : F [.ins C' ns u] st1 with
      | bad => rw [z] at h1; exact h1.elim
      | ex w st2 => rw [z] at h1; exact h1.elim
      | ok d st2 =>
        rw [z] at h1
        intro θ2 d' O2 s2 rd m2
        cases rd with
        | int y =>
          by_cases cy : 0 ≤ y ∧ y < 2 ^ 63
          · have h1 : Aft Rn θ1 (if 0 ≤ y ∧ y < 2 ^ 63 then Res.ok (D.int y) st2 else .bad) P R := h1
            rw [if_pos cy] at h1
            exact ⟨y, rfl, cy, h1 θ2 _ O2 s2 (.int y) m2⟩
          · have h1 : Aft Rn θ1 (if 0 ≤ y ∧ y < 2 ^ 63 then Res.ok (D.int y) st2 else .bad) P R := h1
            rw [if_neg cy] at h1
            exact h1.elim
        | _ => exact h1.elim
    · rw [if_neg q] at h1
      exact h1.elim
  | _ => exact h1.elim
end
end FL

set_option Elab.async false
set_option linter.all false
set_option maxRecDepth 100000
set_option maxHeartbeats 1000000
/-! the rules backwards: zip, two fors, while, sorted, instances kept, len of instances -/
namespace FL
open PySem PySem.Spec PyProof.Rows L2 DL FV
section
variable {ρ : Rho} {st : St} {Q : D → St → Prop} {QA : List D → St → Prop} {X : Exn → St → Prop} {m n p : fE} {na : fA} {t : fT} {b : fS}
theorem wp_zipI (k : (na ρ st).wp (fun ds s => ∃ rows, zipK ds = some rows ∧ QA rows s) X) : (iZp na ρ st).wp QA X :=
  Res.bind2 k fun _ s ⟨rows, e, k⟩ => by
    rw [e]
    exact .ok k
theorem wp_lc2 {it it1 : fA} {g g1 : fG} {vs vs1 : List Nat} (k : (it ρ st).wp (fun ds s => (fLc2Go g it1 g1 m vs vs1 ρ ds [] s).wp (fun acc s => Q (.lst acc) s) X) X) : (fLc2 it g it1 g1 m vs vs1 ρ st).wp Q X :=
  Res.bind2 k (fun _ _ k => Res.bind2 k fun _ _ k => .ok k)
theorem wp_lenI {C : Str} {F : fF} (h : (m ρ st).wp (fun x s => ∃ ns ds, x = .ins C ns ds ∧ (F [.ins C ns ds] s).wp (fun d s => ∃ y, d = .int y ∧ (0 ≤ y ∧ y < 2 ^ 63) ∧ Q (.int y) s) noX) X) : (fLenI C F m ρ st).wp Q X :=
  Res.bind2 h fun _ s ⟨ns, ds, e, k⟩ => by
    subst e
    dsimp only
    rw [if_pos rfl]
    obtain ⟨d, s2, e2, y, ed, hy, q⟩ := Res.ok_wp k
    subst ed
    rw [e2]
    show Res.wp (if 0 ≤ y ∧ y < 2 ^ 63 then Res.ok (D.int y) s2 else .bad) Q X
    rw [if_pos hy]
    exact .ok q
section
variable {N B C : Rho → St → Prop} {R : D → St → Prop} {E : Exn → Rho → St → Prop}
theorem wp_while (k : (fWhileGo t b 1000000 ρ st).wp ⟨N, R, B, C, E⟩) : (fWhile t b ρ st).wp ⟨N, R, B, C, E⟩ := k
theorem wp_while1 {i : Nat} (k : (t ρ st).wp (fun c s => (c = true → (b ρ s).wp ⟨fun ρ s => (fWhileGo t b i ρ s).wp ⟨N, R, B, C, E⟩, R, N, fun ρ s => (fWhileGo t b i ρ s).wp ⟨N, R, B, C, E⟩, E⟩) ∧ (c = false → N ρ s)) fun x s => E x ρ s) : (fWhileGo t b (i + 1) ρ st).wp ⟨N, R, B, C, E⟩ := by
  rw [while_stB]
  refine stB_wp (Res.wp_mono k (fun c s k => ?_) fun _ _ h => h)
  cases c with
  | true =>
    rw [if_pos rfl]
    have q := k.1 rfl
    revert q
    generalize b ρ s = r
    intro q
    cases q with
    | nx h => exact h
    | rt h => exact .rt h
    | bk h => exact .nx h
    | ct h => exact h
    | ex h => exact .ex h
  | false =>
    rw [if_neg (by decide)]
    exact .nx (k.2 rfl)
end
end
/-! ### targets of more names in a comprehension -/
theorem fg_tupB {X : Cx} {s : Shared} {H : Hp} {sc : Scope} {ev : Env} {fp : List Addr} {Φ : OH → Hp → Hp → Prop} {J : Jv} [Frm Φ] {es : List Expr} {k n : Nat} {pos : Pos} {g : TGs} {m : fGs} {il : List Nat} (hc : (X.blk s H sc ev fp).calm = true) (h : DGs (X.blk s H sc ev fp) Φ es g (dGs J m) il)
    (hn : (assignEach es (X.blk s H sc ev fp).env).length = n := by rfl) (hst : (assignEach es (X.blk s H sc ev fp).env).findIdx? (·.1) = none := by rfl) : DG (X.blk s H sc ev fp) Φ (.Tuple es k pos) (gTup X.K n g) (dG J (fGt n m)) il :=
  fg_tup hc h hn hst
end FL

set_option Elab.async false
set_option linter.all false
set_option maxRecDepth 100000
set_option maxHeartbeats 1000000
/-! == and in where the left side is a dict -/
namespace PySem.SeqAt

open AutoSeq1 (wpAny_loadPart')
open MeetsSeq
theorem dict_eq_declines_strF (l : Addr) (es : Array DictEntry) (n : Nat) (dd : Option Addr) (sl : Array (Option Value)) (b : Str) (u : Tok) :
    Meets (Builtin.«dict.__eq__» ⟨[.ref l, .str b u], []⟩) (fun _ R s => s.heap.get? l = some { cls := .type "dict", dict := dd, data := .dict es n, slots := sl } ∧ R (.ok (.ret .notImplemented)) s) :=
  .of_wp fun prog w A R s h => by obtain ⟨hp, g, d, tk, os⟩ := s; obtain ⟨hl, h⟩ := h; have f1 := F.sub_str_dict; wp_walk using wpAny_loadPart' hl; exact ⟨_, rfl, h⟩
theorem str_eq_declines_dictF (b : Str) (u : Tok) (l : Addr) (c : Value) (es : Array DictEntry) (n : Nat) (dd : Option Addr) (sl : Array (Option Value)) :
    Meets (Builtin.«str.__eq__» ⟨[.str b u, .ref l], []⟩) (fun _ R s => s.heap.get? l = some { cls := c, dict := dd, data := .dict es n, slots := sl } ∧ R (.ok (.ret .notImplemented)) s) :=
  .of_wp fun prog w A R s h => by obtain ⟨hp, g, d, tk, os⟩ := s; obtain ⟨hl, h⟩ := h; wp_walk using wpAny_loadPart' hl, wpAny_load hl; exact ⟨_, rfl, h⟩
end PySem.SeqAt
namespace PySem.SeqAt
open MeetsSeq
section
variable {A : Around} {s : Shared}
def IsDictF (h : Heap) (l : Addr) : Prop := ∃ o es ep, h.get? l = some o ∧ o.ExactDict ∧ o.data = .dict es ep
theorem RcAt.str_dictF {l : Addr} (b : Str) (u : Tok) (hl : IsDictF s.heap l) (hu : A.units < cLine) : RcAt A s (.str b u) (.ref l) false := fun prog w E Q h => by
  obtain ⟨⟨cls, dd, data, sl⟩, es, n, ho, ⟨hc, h2, h3⟩, hd⟩ := hl
  simp only at hc hd
  subst hc hd
  exact rc_eq_decline_or (k := false) (typeIs_str s b u) ⟨_, ho, rfl⟩ (by decide) F.sub_dict_str F.slot_str_eq F.slot_dict_eq_refl
    (fun _ hq => call_meets F.slot_str_eq (typeIs_str s b u) F.entry_str_eq (F.args_str_eq_2 _ _) (str_eq_declines_dictF b u l (.type "dict") es n dd sl) ⟨ho, hq⟩)
    (fun _ hq => call_meets F.slot_dict_eq_refl ⟨_, ho, rfl⟩ F.entry_dict_eq (F.args_dict_eq_2 _ _) (dict_eq_declines_strF l es n dd sl b u) ⟨ho, hq⟩)
    (fun _ hq => wpAny_of_eq (rfl : isSame (.str b u) (.ref l) = pure false) hq) (.inr hu) h
theorem EqAt.str_dictF {l : Addr} (b : Str) (u : Tok) (hl : IsDictF s.heap l) (hu : A.units < cLine) : EqAt A s (.str b u) (.ref l) false := fun prog w E Q h => by
  unfold eqBool
  refine wpAny_holding ?_
  refine wpAny_ite_split (fun hab => absurd (eq_of_beq hab) nofun) (fun _ => ?_)
  exact wpAny_bind (RcAt.str_dictF b u hl hu prog w E _ (wpAny_truthy_bool h))
end
end PySem.SeqAt
namespace FL
open PySem PySem.Spec PyProof.Rows L2 DL FL
section
variable {X : Cx}
def isStrD : D → Bool
  | .str _ => true
  | _ => false
end
def oEqE (a b : D) : Option D := match a, b with
  | .dic _ _, .str _ => some (.bl false)
  | a, b => oEq a b
def oInE (a b : D) : Option D := match a, b with
  | .dic _ _, .tup xs => if xs.all isStrD = true then some (.bl false) else none
  | a, b => oIn a b
end FL

set_option Elab.async false
set_option linter.all false
set_option maxRecDepth 100000
set_option maxHeartbeats 1000000
/-! name = [e for t in s for t1 in s1] -/
namespace DL
open PySem PySem.Spec PyProof.Rows L2
section
variable {X : Cx} {Φ : OH → Hp → Hp → Prop} {W : WX} [F : OFrm X.K X.mg Φ]
variable {elt tg iter tg1 iter1 : Expr} {scope : Scope} {own : List (Str × Nat)} {vs1 : List Nat} {pos : Pos} {wi wi1 : TI} {g g1 : TG} {te : TE} {mi mi1 : MI OH} {mg mg1 : MG OH} {me : ME OH} {il il1 : List Nat}
end
end DL
namespace FL
open PySem PySem.Spec PyProof.Rows L2 DL
section
variable {J : Jv}
variable {X : Cx} {Φ : OH → Hp → Hp → Prop} {W : WX} [FΦ : OFrm X.K X.mg Φ]
variable {elt tg iter tg1 iter1 : Expr} {scope : Scope} {own : List (Str × Nat)} {vs1 : List Nat} {pos : Pos} {g g1 : TG} {fi fi1 : fA} {fg fg1 : fG} {fe : fE} {il il1 : List Nat}
end
end FL

set_option Elab.async false
set_option linter.all false
set_option maxRecDepth 100000
set_option maxHeartbeats 1000000
/-! sum of a tuple; a classmethod called without arguments -/
namespace PySem
section
variable {prog : Program} {w : World} {A : Around} {E : Value → Shared → Prop} {s : Shared} {l : Addr} {xs : Array (Int × Tok)}
end
end PySem
namespace L2
open PySem PySem.Spec PyProof.Rows
section
variable {X : Cx}
end
end L2
namespace DL
open PySem PySem.Spec PyProof.Rows L2
section
variable {X : Cx}
end
section
variable {X : Cx} {Φ : OH → Hp → Hp → Prop} {W : WX}
end
section
variable {X : Cx} {Φ : OH → Hp → Hp → Prop} {W : WX} [FΦ : OFrm X.K X.mg Φ]
end
end DL
namespace FL
open PySem PySem.Spec PyProof.Rows L2 DL
section
variable {X : Cx} {Φ : OH → Hp → Hp → Prop} {W : WX} [FΦ : OFrm X.K X.mg Φ] {J : Jv}
end
end FL

set_option Elab.async false
set_option linter.all false
set_option maxRecDepth 100000
set_option maxHeartbeats 1000000
/-! isinstance(x, (list, tuple)) where x may be of an own class -/
namespace FL
open PySem PySem.Spec PyProof.Rows L2 DL
section
variable {K : PySem.W.Frag} {mg : Str → Option Value}
structure IsiI (K : PySem.W.Frag) (mg : Str → Option Value) (cs : List Str) (ts : List BT) : Prop where
  no : ∀ n ∈ cs, (∃ c, ClsF K mg c n ∧ ∀ t ∈ ts, PySem.W.subIn K (.ref c) (.type t.nm) = some false) ∨ mg n = none
def isTsI (cs : List Str) (ts : List BT) : D → Option Bool
  | .ins n _ _ => if n ∈ cs then some false else none
  | d => if (tyD d).isSome = true then isTs d ts else none
theorem kit_no {C : Addr} : ∀ {ts : List BT}, (∀ t ∈ ts, PySem.W.subIn K (.ref C) (.type t.nm) = some false) → PySem.W.kitAny K (.ref C) ((ts.map BT.nm).map Value.type) = some false
  | [], _ => by
    unfold PySem.W.kitAny
    rfl
  | t :: ts, h => by
    have one : PySem.W.kitOne K (.ref C) (.type t.nm) = some false := by
      have hm : PySem.W.kitMeta t.nm = true := by cases t <;> decide +kernel
      unfold PySem.W.kitOne PySem.W.kitCls
      rw [if_neg (by simp)]
      dsimp only
      rw [if_pos hm]
      exact h t List.mem_cons_self
    show PySem.W.kitAny K (.ref C) (.type t.nm :: (ts.map BT.nm).map Value.type) = some false
    unfold PySem.W.kitAny
    rw [one]
    exact kit_no fun x hx => h x (List.mem_cons_of_mem _ hx)
theorem IsiI.ty {cs : List Str} {ts : List BT} (T : IsiI K mg cs ts) {G H : Hp} {v : V} {d : D} {b : Bool} (sm : Same G H) (r : Rp K mg G v d) (h : isTsI cs ts d = some b) : ∃ t, TyX K H v t ∧ PySem.W.kitAny K t ((ts.map BT.nm).map Value.type) = some b := by
  have dat : ∀ n, tyD d = some n → isTs d ts = some b → ∃ t, TyX K H v t ∧ PySem.W.kitAny K t ((ts.map BT.nm).map Value.type) = some b := fun n hn hb => ⟨_, rp_tyX sm r hn, kit_all (isTs_kit hn hb)⟩
  cases d with
  | ins n ns ds =>
    simp only [isTsI] at h
    split at h
    · rename_i hn
      cases h
      rcases T.no n hn with ⟨c, F, q⟩ | no
      · exact ⟨_, F.ty sm r, kit_no q⟩
      · cases r with
        | ins hm hg hl hr =>
          rw [no] at hm
          cases hm
    · cases h
  | loc _ => simp [isTsI, tyD] at h
  | cls _ => simp [isTsI, tyD] at h
  | ty _ => simp [isTsI, tyD] at h
  | _ => exact dat _ rfl h
end
section
variable {X : Cx} {Φ : OH → Hp → Hp → Prop} {W : WX} [FΦ : OFrm X.K X.mg Φ] {J : Jv}
def fIsiI (cs : List Str) (ts : List BT) (m : fE) : fE := fun ρ st => (m ρ st).bind fun d st1 => optR ((isTsI cs ts d).map .bl) st1
end
section
variable {ρ : Rho} {st : St} {Q : D → St → Prop} {X : Exn → St → Prop} {m : fE}
theorem wp_isiI {cs : List Str} {ts : List BT} (k : (m ρ st).wp (fun d s => ∃ b, isTsI cs ts d = some b ∧ Q (.bl b) s) X) : (fIsiI cs ts m ρ st).wp Q X := by
  refine Res.bind2 k (fun c s k => ?_)
  obtain ⟨b, h2, q⟩ := k
  rw [h2]
  exact .ok q
theorem gw_isiI {cs : List Str} {ts : List BT} {d : D} {c : Bool} {R : Bool → Prop} (h : isTsI cs ts d = some c) (k : R c) : ∃ b, isTsI cs ts d = some b ∧ R b := ⟨c, h, k⟩
end
end FL

set_option Elab.async false
set_option linter.all false
set_option maxRecDepth 100000
set_option maxHeartbeats 1000000
/-! f-string fields: {x} of ints, texts and truth values; {x!r} of an own instance -/
namespace PySem.W
open PySem PySem.Calls PyProof.Rows Builtin
section
variable {prog : Program} {w : World} {A : Around} {E : Value → Shared → Prop} {s : Shared} {K : Frag} {x C L f : Addr} {h₀ : Heap} {m : Str → Option Value} {ox : Obj} {od : Option Obj}
end
end PySem.W
namespace DL
open PySem PySem.Spec PyProof.Rows L2
section
variable {X : Cx} {Φ : OH → Hp → Hp → Prop} {W : WX} [FΦ : OFrm X.K X.mg Φ]
/-- the text of a field -/
def fmt? : D → Option Str
  | .str y => if y.length ≤ sizeLine then some y else none
  | .int i => if i.natAbs.log2 < 1920 then some (toString i) else none
  | .bl b => some (if b then "True" else "False" : String)
  | _ => none
end
end DL
namespace FL
open PySem PySem.Spec PyProof.Rows L2 DL
section
variable {X : Cx} {Φ : OH → Hp → Hp → Prop} {W : WX} [FΦ : OFrm X.K X.mg Φ] {J : Jv}
def fFmt (m : fE) : fE := fun ρ st => (m ρ st).bind fun d st1 => optR ((fmt? d).map .str) st1
def fShowI (C : Str) (F : fF) (m : fE) : fE := fun ρ st => (m ρ st).bind fun x st1 => match x with
  | .ins C' ns ds => if C' = C then (F [.ins C' ns ds] st1).calm.bind fun d st2 => match d with
      | .str y => if y.length ≤ sizeLine then .ok (.str y) st2 else .bad
      | _ => .bad
    else .bad
  | _ => .bad
end
section
variable {ρ : Rho} {st : St} {Q : D → St → Prop} {X : Exn → St → Prop} {m : fE}
theorem wp_fmt (k : (m ρ st).wp (fun d s => ∃ y, fmt? d = some y ∧ Q (.str y) s) X) : (fFmt m ρ st).wp Q X := by
  refine Res.bind2 k (fun c s k => ?_)
  obtain ⟨y, h, q⟩ := k
  rw [h]
  exact .ok q
theorem wp_showI {C : Str} {F : fF} (h : (m ρ st).wp (fun a s => ∃ ns ds, a = .ins C ns ds ∧ (F [.ins C ns ds] s).wp (fun d s => ∃ y : Str, d = .str y ∧ y.length ≤ sizeLine ∧ Q (.str y) s) noX) X) : (fShowI C F m ρ st).wp Q X :=
  Res.bind2 h fun _ s ⟨ns, ds, e, k⟩ => by
    subst e
    dsimp only
    rw [if_pos rfl]
    obtain ⟨d, s2, e2, y, ed, hy, q⟩ := Res.ok_wp k
    subst ed
    rw [e2]
    show (if y.length ≤ sizeLine then (.ok (.str y) s2 : Res D) else .bad).wp Q X
    rw [if_pos hy]
    exact .ok q
end
end FL

set_option Elab.async false
set_option linter.all false
set_option maxRecDepth 100000
set_option maxHeartbeats 1000000
/-! `is` between truth values -/
namespace DL
open PySem PySem.Spec PyProof.Rows L2
section
variable {X : Cx}
end
end DL
namespace FL
open PySem PySem.Spec PyProof.Rows L2 DL
end FL

set_option Elab.async false
set_option linter.all false
set_option maxRecDepth 100000
set_option maxHeartbeats 2000000
/-! a != b, where the class has an __eq__ of its own and no __ne__ -/
namespace PySem.W
open PySem PySem.Spec PySem.Calls PyProof.Rows Builtin
section
variable {prog : Program} {w : World} {A : Around} {E : Value → Shared → Prop} {s : Shared} {K : Frag} {x C L f : Addr} {h₀ : Heap} {m : Str → Option Value} {ox : Obj} {od : Option Obj} {b tb : Value}
end
end PySem.W
namespace DL
open PySem PySem.Spec PyProof.Rows L2
section
variable {X : Cx} {Φ : OH → Hp → Hp → Prop} {W : WX} [FΦ : OFrm X.K X.mg Φ]
section
variable {k : Nat} {C f : Addr} {Cn : Str} {fd : FuncData} {n1 n2 : Str} {g : WF} {ok : D → Prop} {a b : Expr} {ta tb : TE} {ma mb : ME OH} {pos : Pos}
end
end
end DL
namespace FL
open PySem PySem.Spec PyProof.Rows L2 DL
section
variable {X : Cx} {Φ : OH → Hp → Hp → Prop} {W : WX} {J : Jv} [FΦ : OFrm X.K X.mg Φ] {C : Addr} {Cn : Str} {pos : Pos}
def fNeI (C : Str) (F : fF) (ok : D → Bool) (ma mb : fE) : fE := fun ρ st => (ma ρ st).bind fun a st1 => (mb ρ st1).bind fun b st2 => match a with
  | .ins C' ns ds => if C' = C ∧ ok b = true then (F [.ins C' ns ds, b] st2).calm.bind fun d st3 => match d with
      | .bl k => .ok (.bl (!k)) st3
      | _ => .bad
    else .bad
  | _ => .bad
section
variable {k : Nat} {g : Addr} {fd : FuncData} {n1 n2 n : Str} {F : fF} {ok : D → Bool} {a b : Expr} {fa fb : fE}
end
end
section
variable {ρ : Rho} {st : St} {m n : fE} {Q : D → St → Prop} {X : Exn → St → Prop}
theorem wp_neI {C : Str} {F : fF} {ok : D → Bool} (h : (m ρ st).wp (fun a s => (n ρ s).wp (fun b s => ∃ ns ds, a = .ins C ns ds ∧ ok b = true ∧ (F [.ins C ns ds, b] s).wp (fun d s => ∃ k, d = .bl k ∧ Q (.bl (!k)) s) noX) X) X) : (fNeI C F ok m n ρ st).wp Q X := by
  refine Res.bind2 h (fun a s z => Res.bind2 z (fun b s z => ?_))
  obtain ⟨ns, ds, rfl, h1, z⟩ := z
  dsimp only
  rw [if_pos ⟨rfl, h1⟩]
  obtain ⟨d, s, e, k, rfl, q⟩ := Res.ok_wp z
  rw [e]
  exact .ok q
end
end FL

set_option Elab.async false
set_option linter.all false
set_option maxRecDepth 100000
set_option maxHeartbeats 2000000
/-! xs.index(text), xs a list of texts -/
namespace FL
open PySem PySem.Spec PyProof.Rows L2 DL
section
variable {X : Cx} {Φ : OH → Hp → Hp → Prop} {W : WX} {J : Jv} [FΦ : OFrm X.K X.mg Φ]
end
section
variable {ρ : Rho} {st : St} {m n : fE} {Q : D → St → Prop} {X : Exn → St → Prop}
end
end FL

set_option Elab.async false
set_option linter.all false
set_option maxRecDepth 100000
set_option maxHeartbeats 2000000
/-! raise C(e1, e2): an error class of one's own with two fields -/
namespace DLS
open PySem Builtin Builtin.ObjectAttr PySem.W PySem.Calls PyProof.Rows PySem.HandSPX
end DLS
namespace DL
open PySem PySem.Spec PyProof.Rows L2
section
variable {X : Cx} {pins : List (Addr × Obj)} {σ : Sig} {H : Hp} {s : Shared} {a C dx : Addr} {f : Str} {y : V} {u : Value} {fs : List (Str × V)} {Q : Unit → Shared → Prop} {E : Value → Shared → Prop} {A : Around}
end
end DL
namespace DL
open PySem PySem.Spec PyProof.Rows L2
section
variable {X : Cx} {o e : Expr} {es : List Expr} {to te : TE} {ta : TA} {f : Str} {p p' pos : Pos}
end
section
variable {P : Program} {w : World} {K : PySem.W.Frag} {mg : Str → Option Value} {base : Heap}
end
section
variable {X : Cx} {Φ : OH → Hp → Hp → Prop} {W : WX} [FΦ : OFrm X.K X.mg Φ]
end
end DL
namespace FL
open PySem PySem.Spec PyProof.Rows L2 DL
section
variable {X : Cx} {Φ : OH → Hp → Hp → Prop} {W : WX} {J : Jv} [FΦ : OFrm X.K X.mg Φ]
end
end FL

set_option Elab.async false
set_option linter.all false
set_option maxRecDepth 100000
set_option maxHeartbeats 2000000
/-! except C: without a name; a + b as a list of one's own; what is one's own or not, handed on as a tree -/
namespace DL
open PySem PySem.Spec PyProof.Rows L2
section
variable {X : Cx} {Φ : OH → Hp → Hp → Prop} {W : WX} [FΦ : OFrm X.K X.mg Φ]
/-! a + b, a new list of one's own -/
/-! one's own object or a tree, handed on as a tree -/
end
end DL
namespace FL
open PySem PySem.Spec PyProof.Rows L2 DL
def fTryO (cl : Str → Option Bool) (h : fS) (b : fS) : fS := fun ρ st => match b ρ st with
  | .ex x ρ1 st1 => match cl x.cls with
    | none => .bad
    | some false => .ex x ρ1 st1
    | some true => match h ρ1 st1 with
      | .ex _ _ _ => .bad
      | r => r
  | r => r
section
variable {X : Cx} {Φ : OH → Hp → Hp → Prop} {W : WX} {J : Jv} [FΦ : OFrm X.K X.mg Φ]
end
section
variable {ρ : Rho} {st : FL.St} {m n : fE} {Q : D → FL.St → Prop} {X : Exn → FL.St → Prop} {a f : fS} {cl : Str → Option Bool} {N B C : Rho → FL.St → Prop} {R : D → FL.St → Prop} {E : Exn → Rho → FL.St → Prop}
theorem wp_tryO (k : (a ρ st).wp ⟨N, R, B, C, fun x ρ s => ∃ b, cl x.cls = some b ∧ (b = true → (f ρ s).wp ⟨N, R, B, C, fun _ _ _ => False⟩) ∧ (b = false → E x ρ s)⟩) : (fTryO cl f a ρ st).wp ⟨N, R, B, C, E⟩ := by
  unfold fTryO
  generalize a ρ st = r at k ⊢
  cases k with
  | nx h => exact .nx h
  | rt h => exact .rt h
  | bk h => exact .bk h
  | ct h => exact .ct h
  | ex h =>
    obtain ⟨b, hb, yes, no⟩ := h
    simp only [hb]
    cases b with
    | false => exact .ex (no rfl)
    | true =>
      have k := yes rfl
      dsimp only
      generalize f _ _ = r at k ⊢
      cases k with
      | nx h => exact .nx h
      | rt h => exact .rt h
      | bk h => exact .bk h
      | ct h => exact .ct h
      | ex h => exact h.elim
end
end FL

set_option Elab.async false
set_option linter.all false
set_option maxRecDepth 100000
set_option maxHeartbeats 2000000
/-! ways that meet again -/
namespace FL
open PySem PySem.Spec PyProof.Rows L2 DL
theorem wp_meet {r : RS} {N B' C : Rho → FL.St → Prop} {R : D → FL.St → Prop} {E : Exn → Rho → FL.St → Prop} (I : Rho → FL.St → Prop) (h : r.wp ⟨I, R, B', C, E⟩) (k : ∀ ρ s, I ρ s → N ρ s) : r.wp ⟨N, R, B', C, E⟩ :=
  RS.wp_mono h k (fun _ _ h => h) (fun _ _ h => h) (fun _ _ h => h) fun _ _ _ h => h
end FL

set_option Elab.async false
set_option linter.all false
set_option maxRecDepth 100000
set_option maxHeartbeats 2000000
/-! def f(*v) -/
namespace DL
open PySem PySem.Spec PyProof.Rows L2
section
variable (P : Program) (w : World) (K : PySem.W.Frag) (mg : Str → Option Value) (base : Heap)
structure FnV (k : Nat) (f : Addr) (g : WF) : Prop where
  run : ∀ (A : Around) (outer : List Env) (s : Shared) (H : Hp) (us : List Value) (vs : List V) (Q : VK) (E : XK), Room k A → A.guards = some [] → Env0 P w K mg base A outer s H → Vals vs us → us.length ≤ sizeLine →
    (∀ p, H p = none → spO K mg 1 g [V.ref p] (upd H p (.tup vs)) Q E) → codeAny (model P w) A (.call (.ref f) ⟨us, []⟩) (CR (L2.CX P w) outer P w H s Q E) s
end
section
variable {P : Program} {w : World} {K : PySem.W.Frag} {mg : Str → Option Value} {base : Heap}
end
section
variable {X : Cx} {Φ : OH → Hp → Hp → Prop} {W : WX} [FΦ : OFrm X.K X.mg Φ]
end
end DL
namespace FL
open PySem PySem.Spec PyProof.Rows L2 DL
def fCallV (F : fF) (fs : fA) : fE := fun ρ st => (fs ρ st).bind fun ds st1 => if ds.length ≤ sizeLine then F [.tup ds] st1 else .bad
def fCallV0 (F : fF) : fE := fun _ st => F [.tup []] st
section
variable {X : Cx} {Φ : OH → Hp → Hp → Prop} {W : WX} {J : Jv} [FΦ : OFrm X.K X.mg Φ]
end
section
variable {ρ : Rho} {st : FL.St} {Q : D → FL.St → Prop} {X : Exn → FL.St → Prop} {F : fF} {fs : fA}
theorem wp_callV (k : (fs ρ st).wp (fun ds s => ds.length ≤ sizeLine ∧ (F [.tup ds] s).wp Q X) X) : (fCallV F fs ρ st).wp Q X :=
  Res.bind2 k fun ds s ⟨hl, k⟩ => by
    rw [if_pos hl]
    exact k
theorem wp_callV0 (k : (F [.tup []] st).wp Q X) : (fCallV0 F ρ st).wp Q X := k
end
end FL

set_option Elab.async false
set_option linter.all false
set_option maxRecDepth 100000
set_option maxHeartbeats 2000000
/-! == and != where a list of one's own is looked at, and stays one's own -/
namespace DL
open PySem PySem.Spec PyProof.Rows L2
def pkD (O : OH) (x t : D) : Prop := x = t ∨ ∃ a z, x = .loc a ∧ O a = some z ∧ t = DO.tree z
def mEqO (neg : Bool) (m n : ME OH) : ME OH := fun ρ O P R => m ρ O (fun x O1 => n ρ O1 (fun y O2 => ∃ tx ty p q, pkD O2 x tx ∧ pkD O2 y ty ∧ toPy tx = some p ∧ toPy ty = some q ∧ SeqAt.shaped p = true ∧ SeqAt.shaped q = true ∧ P (.bl (neg != PyData.eqv p q)) O2) R) R
section
variable {X : Cx} {Φ : OH → Hp → Hp → Prop} {W : WX} [FΦ : OFrm X.K X.mg Φ]
theorem pk_dp {O : OH} {G H : Hp} {v : V} {x t : D} {p : PyData} (f : Φ O G H) (r : Rp X.K X.mg G v x) (h : pkD O x t) (e : toPy t = some p) : Dp X.K H v p := by
  rcases h with rfl | ⟨a, z, rfl, oa, rfl⟩
  · exact rp_dp (Frm.same f) r e
  · cases r
    obtain ⟨G', _, f', r'⟩ := FΦ.frz f oa
    exact rp_dp (Frm.same f') r' e
variable {a b : Expr} {te tb : TE} {m n : ME OH} {pos : Pos}
theorem de_neO (hu : X.A.units + 64 < cLine) (ha : DE X Φ W a te m) (hb : DE X Φ W b tb n) (hm : behindInMarks .NotEq b = false := by first | exact nomark _ | rfl) : DE X Φ W (.Compare a [.NotEq] [b] pos) (tOp (rNeD X.K) te tb) (mEqO true m n) :=
  ⟨pe_cmpR (op_neD hu) ha.pe hb.pe hm, fun σ ρ s G H Q P R hρ f0 hW h k => by
    refine ha.sem σ ρ s G H _ _ R hρ f0 hW h fun x s1 u G1 H1 h1 e1 f1 r1 => ?_
    refine hb.sem σ ρ s1 G1 H1 _ _ R (hρ.mono e1) f1 (hW.mono e1) h1 fun y s2 v G2 H2 ⟨tx, ty, p, q, px, py, h2, h3, h4, h5, h6⟩ e2 f2 r2 => ?_
    rw [Bool.true_bne] at h6
    exact ⟨p, q, pk_dp f2 (r1.mono e2) px h2, pk_dp f2 r2 py h3, h4, h5, k _ s2 _ G2 H2 h6 (e1.trans e2) f2 (.bl _)⟩⟩
end
end DL
namespace FL
open PySem PySem.Spec PyProof.Rows L2 DL
def peek (st : St) : D → D
  | .loc i => match st[i]? with
    | some (some y) => y.tree
    | _ => .loc i
  | d => d
def oEqP (neg : Bool) (a b : D) : Option D := match toPy a, toPy b with
  | some p, some q => if SeqAt.shaped p = true ∧ SeqAt.shaped q = true then some (.bl (neg != PyData.eqv p q)) else none
  | _, _ => none
def fEqO (neg : Bool) (m n : fE) : fE := fun ρ st => (m ρ st).bind fun x st1 => (n ρ st1).bind fun y st2 => match oEqP neg (peek st2 x) (peek st2 y) with
  | some d => .ok d st2
  | none => .bad
section
variable {X : Cx} {Φ : OH → Hp → Hp → Prop} {W : WX} {J : Jv} [FΦ : OFrm X.K X.mg Φ]
theorem pk_run {θ : Th} {st : St} {O : OH} {x x' : D} {p : PyData} (m : Mt θ st O) (r : Rn θ x x') (e : toPy (peek st x) = some p) : pkD O x' (peek st x) := by
  have r0 := r
  cases r with
  | @loc i a hp =>
    cases w : st[i]? with
    | none =>
      have : peek st (.loc i) = .loc i := by simp only [peek, w]
      rw [this] at e
      cases e
    | some u =>
      cases u with
      | none =>
        have : peek st (.loc i) = .loc i := by simp only [peek, w]
        rw [this] at e
        cases e
      | some y =>
        have pe : peek st (.loc i) = y.tree := by simp only [peek, w]
        rw [pe] at e ⊢
        obtain ⟨y', h4, h5⟩ := m.at w hp
        exact .inr ⟨a, y', rfl, h4, (rn_eq h5.tree (toPy_noLoc e)).symm⟩
  | _ => exact .inl (rn_eq r0 (toPy_noLoc e))
end
section
variable {ρ : Rho} {st : FL.St} {m n : fE} {Q : D → FL.St → Prop} {X : Exn → FL.St → Prop}
theorem wp_eqO {neg : Bool} (k : (m ρ st).wp (fun x s => (n ρ s).wp (fun y s => ∃ d, oEqP neg (peek s x) (peek s y) = some d ∧ Q d s) X) X) : (fEqO neg m n ρ st).wp Q X :=
  Res.bind2 k fun x s k => Res.bind2 k fun y s ⟨d, e, q⟩ => by
    rw [e]
    exact .ok q
theorem oEqP_pl {neg : Bool} {a b : D} (ha : plD 20 a = true) (hb : plD 20 b = true) : oEqP neg a b = some (.bl (neg != deq a b)) := by
  have h := oEq_pl ha hb
  obtain ⟨p, e1, _⟩ := pl_py ha
  obtain ⟨q, e2, _⟩ := pl_py hb
  unfold oEq oEqB at h
  unfold oEqP
  rw [e1, e2] at h ⊢
  dsimp only at h ⊢
  split at h
  · rename_i hs
    rw [if_pos hs]
    cases h'' : deq a b <;> rw [h''] at h <;> cases h' : PyData.eqv p q <;> rw [h'] at h <;> first | rfl | cases h
  · cases h
theorem peek_loc {i : Nat} {y : DO} (h : st[i]? = some (some y)) : peek st (.loc i) = y.tree := by
  simp only [peek, h]
end
end FL

set_option Elab.async false
set_option linter.all false
set_option maxRecDepth 100000
set_option maxHeartbeats 2000000
/-! i >> j, i & j, i.bit_length(), reversed(range(n)) -/
namespace FL
open PySem PySem.Spec PyProof.Rows L2 DL
def fBits (m : fE) : fE := fun ρ st => (m ρ st).bind fun x st1 => match x with
  | .int i => .ok (.int (Builtin.Int.intBits i : Nat)) st1
  | _ => .bad
def rngR (n : Nat) : List D := (List.range n).map fun (i : Nat) => D.int (((n : Nat) : Int) - 1 - i)
def iRv (m : fE) : fA := fun ρ st => (m ρ st).bind fun x st1 => match x with
  | .int j => if 0 ≤ j ∧ j < 2 ^ 62 then .ok (rngR j.toNat) st1 else .bad
  | _ => .bad
section
variable {X : Cx} {Φ : OH → Hp → Hp → Prop} {W : WX} {J : Jv} [FΦ : OFrm X.K X.mg Φ]
end
variable {ρ : Rho} {st : St} {Q : D → St → Prop} {X : Exn → St → Prop} {QA : List D → St → Prop}
theorem wp_bits {m : fE} (k : (m ρ st).wp (fun x s => ∃ i, x = .int i ∧ Q (.int (Builtin.Int.intBits i : Nat)) s) X) : (fBits m ρ st).wp Q X := by
  refine Res.bind2 k (fun x s k => ?_)
  obtain ⟨i, rfl, q⟩ := k
  exact .ok q
theorem wp_iRv {m : fE} (k : (m ρ st).wp (fun x s => ∃ j : Int, x = .int j ∧ (0 ≤ j ∧ j < 2 ^ 62) ∧ QA (rngR j.toNat) s) X) : (iRv m ρ st).wp QA X := by
  refine Res.bind2 k (fun x s k => ?_)
  obtain ⟨j, rfl, hb, q⟩ := k
  show ((if 0 ≤ j ∧ j < 2 ^ 62 then Res.ok (rngR j.toNat) s else .bad) : Res (List D)).wp QA X
  rw [if_pos hb]
  exact .ok q
end FL

set_option Elab.async false
set_option linter.all false
set_option maxRecDepth 100000
set_option maxHeartbeats 2000000
/-! list(range(a, b)) -/
namespace FL
open PySem PySem.Spec PyProof.Rows L2 DL
def rgB (a b : Int) : Bool := decide (-(2 ^ 62) ≤ a) && decide (a < 2 ^ 62) && decide (-(2 ^ 62) ≤ b) && decide (b < 2 ^ 62) && decide ((b - a).toNat ≤ 2 ^ 24)
def fLrg (m n : fE) : fE := fun ρ st => (m ρ st).bind fun x st1 => match x with
  | .int i => (n ρ st1).bind fun y st2 => match y with
    | .int j => if rgB i j = true then .ok (.lst (rngD i (j - i).toNat)) st2 else .bad
    | _ => .bad
  | _ => .bad
section
variable {X : Cx} {Φ : OH → Hp → Hp → Prop} {W : WX} {J : Jv} [FΦ : OFrm X.K X.mg Φ]
end
variable {ρ : Rho} {st : St} {Q : D → St → Prop} {X : Exn → St → Prop}
theorem wp_lrg {m n : fE} (k : (m ρ st).wp (fun x s => ∃ i, x = .int i ∧ (n ρ s).wp (fun y s => ∃ j, y = .int j ∧ rgB i j = true ∧ Q (.lst (rngD i (j - i).toNat)) s) X) X) : (fLrg m n ρ st).wp Q X := by
  refine Res.bind2 k (fun x s k => ?_)
  obtain ⟨i, rfl, k⟩ := k
  refine Res.bind2 k (fun y s k => ?_)
  obtain ⟨j, rfl, h, q⟩ := k
  show ((if rgB i j = true then Res.ok (D.lst (rngD i (j - i).toNat)) s else .bad) : Res D).wp Q X
  rw [if_pos h]
  exact .ok q
end FL

set_option Elab.async false
set_option linter.all false
set_option maxRecDepth 100000
set_option maxHeartbeats 2000000
/-! C.m(.., k=e), m a class method with a parameter that is only given by its name -/
namespace FL
open PySem PySem.Spec PyProof.Rows L2 DL
/-- what a call that gives n values and then the named ones binds -/
structure KwB (K : PySem.W.Frag) (fd : FuncData) (ps : List Str) (n : Nat) (ks : List Str) : Prop where
  to : ∀ (s : Shared) (us ws : List Value), K.In s.heap → us.length = n → ws.length = ks.length → BindsTo s fd ⟨us, ks.zip ws⟩ (ps.zip (us ++ ws))
section
variable {X : Cx} {W : WX}
end
section
variable {X : Cx} {Φ : OH → Hp → Hp → Prop} {W : WX} [FΦ : OFrm X.K X.mg Φ] {J : Jv}
def fCMethK (Cn : Str) (F : fF) (k : Nat) (n : fA) (m : fE) : fE := fun ρ st => (n ρ st).bind fun ds st1 => (m ρ st1).bind fun z st2 => if (D.cls Cn :: (ds ++ [z])).length = k then F (D.cls Cn :: (ds ++ [z])) st2 else .bad
end
variable {ρ : Rho} {st : St} {Q : D → St → Prop} {X : Exn → St → Prop}
theorem wp_cmethK {Cn : Str} {F : fF} {k : Nat} {n : fA} {m : fE} (h : (n ρ st).wp (fun ds s => (m ρ s).wp (fun z s => (D.cls Cn :: (ds ++ [z])).length = k ∧ (F (D.cls Cn :: (ds ++ [z])) s).wp Q X) X) X) : (fCMethK Cn F k n m ρ st).wp Q X := by
  refine Res.bind2 h (fun ds s h => ?_)
  refine Res.bind2 h (fun z s h => ?_)
  rw [if_pos h.1]
  exact h.2
end FL

set_option Elab.async false
set_option linter.all false
set_option maxRecDepth 100000
set_option maxHeartbeats 2000000
/-! xs.pop(i) of an own list -/
namespace DL
open PySem PySem.Spec PyProof.Rows L2
section
variable {X : Cx} {Φ : OH → Hp → Hp → Prop} {W : WX} [FΦ : OFrm X.K X.mg Φ] {a b : Expr} {te tb : TE} {m n : ME OH} {pos : Pos}
theorem dt_neO (hu : X.A.units + 64 < cLine) (ha : DE X Φ W a te m) (hb : DE X Φ W b tb n) (hm : behindInMarks .NotEq b = false) : DT X Φ W (.Compare a [.NotEq] [b] pos) (tTest (tOp (rNeD X.K) te tb)) (mTest (mEqO true m n)) :=
  ⟨pt_cmpR (op_neD hu) ha.pe hb.pe hm, fun σ ρ s G H _ _ R hρ f hW h k => (de_neO (pos := pos) hu ha hb hm).sem σ ρ s G H _ _ R hρ f hW h fun d s' v G' H' ⟨c, e, p⟩ q1 q2 q3 => by
    subst e
    exact ⟨c, rp_bl q3, k c s' G' H' p q1 q2⟩⟩
end
end DL
namespace FL
open PySem PySem.Spec PyProof.Rows L2 DL
section
variable {X : Cx} {Φ : OH → Hp → Hp → Prop} {W : WX} {J : Jv} [FΦ : OFrm X.K X.mg Φ]
theorem feqO_run {neg : Bool} {fa fb : fE} {ρ' : Rho} {O : OH} {P : D → OH → Prop} {R : Exn → OH → Prop} (h : dE J (fEqO neg fa fb) ρ' O P R) : mEqO neg (dE J fa) (dE J fb) ρ' O P R := by
  obtain ⟨θ, ρ, st, c, h⟩ := h
  refine ⟨θ, ρ, st, c, h.bind fun θ1 a a' st1 O1 s1 ra m1 h1 => ?_⟩
  refine ⟨θ1, ρ, st1, c.step s1 m1, h1.bind fun θ2 b b' st2 O2 s2 rb m2 h2 => ?_⟩
  unfold oEqP at h2
  cases e1 : toPy (peek st2 a) with
  | none => simp only [e1] at h2; exact h2.elim
  | some p =>
    cases e2 : toPy (peek st2 b) with
    | none => simp only [e1, e2] at h2; exact h2.elim
    | some q =>
      simp only [e1, e2] at h2
      by_cases hs : SeqAt.shaped p = true ∧ SeqAt.shaped q = true
      · rw [if_pos hs] at h2
        exact ⟨_, _, p, q, pk_run m2 (ra.mono s2) e1, pk_run m2 rb e2, e1, e2, hs.1, hs.2, Aft.ok h2 (.bl _) m2⟩
      · rw [if_neg hs] at h2
        exact h2.elim
theorem ft_neO {a b : Expr} {fa fb : fE} {pos : Pos} (hu : X.A.units + 64 < cLine) (ha : FE X Φ W J a fa) (hb : FE X Φ W J b fb) (hm : behindInMarks .NotEq b = false := by first | exact nomark _ | rfl) : FT X Φ W J (.Compare a [.NotEq] [b] pos) (fTest (fEqO true fa fb)) := by
  obtain ⟨_, ha⟩ := ha
  obtain ⟨_, hb⟩ := hb
  exact ft_of (dt_neO hu ha hb hm) fun _ _ _ _ h => mtest_mono (fun _ _ _ _ => feqO_run) (ftest_run h)
end
theorem RpL.erase {K : PySem.W.Frag} {mg : Str → Option Value} {G : Hp} : ∀ {vs : List V} {ds : List D} {i : Nat}, RpL K mg G vs ds → RpL K mg G (vs.eraseIdx i) (ds.eraseIdx i)
  | _, _, _, .nil => by simp [List.eraseIdx]; exact .nil
  | _, _, 0, .cons _ rl => rl
  | _, _, i + 1, .cons r rl => .cons r (RpL.erase rl)
theorem RnL.erase {θ : Th} : ∀ {a b : List D} {i : Nat}, RnL θ a b → RnL θ (a.eraseIdx i) (b.eraseIdx i)
  | _, _, _, .nil => by simp [List.eraseIdx]; exact .nil
  | _, _, 0, .cons _ rl => rl
  | _, _, i + 1, .cons r rl => .cons r (RnL.erase rl)
def popRI (st : St) (x y : D) : Option (D × St) := match x, y with
  | .loc a, .int i => match st[a]? with
    | some (some (.lst ds)) => if 0 ≤ i ∧ i < 2 ^ 62 then match ds[i.toNat]? with
        | some d => some (d, st.set a (some (.lst (ds.eraseIdx i.toNat))))
        | none => none
      else none
    | _ => none
  | _, _ => none
def lstAt (st : St) (x : D) : Bool := match x with
  | .loc a => match st[a]? with
    | some (some (.lst _)) => true
    | _ => false
  | _ => false
def fPopI (m n : fE) : fE := fun ρ st => (m ρ st).bind fun x st1 => if lstAt st1 x = true then (n ρ st1).bind fun y st2 => okO (popRI st2 x y) else .bad
def fLstC (m : fE) : fE := fun ρ st => (m ρ st).bind fun x st1 => match x with
  | .lst ds => .ok (.loc st1.length) (st1 ++ [some (.lst ds)])
  | .tup ds => .ok (.loc st1.length) (st1 ++ [some (.lst ds)])
  | _ => .bad
section
variable {X : Cx} {Φ : OH → Hp → Hp → Prop} {W : WX} {J : Jv} [FΦ : OFrm X.K X.mg Φ]
theorem fe_popI {o e : Expr} {f g : fE} {apos cpos : Pos} (h : FE X Φ W J o f) (hn : FE X Φ W J e g) (hbase : attributeBase o "pop" X.env (eval o X.env) = eval o X.env := by rfl)
    (h2 : ((backTo cpos (starEach [e] X.env)).all (fun x => !x.1) && (backToKw cpos (keywordEach [] X.env)).all (fun x => x.1.isSome) && decide ([e].length + ([] : List Keyword).length + (if ([] : List Keyword).isEmpty then 0 else 1) < 30)) = true := by rfl)
    (hline : (apos.endLine == cpos.line) = true := by rfl) (h4 : starEach [e] X.env = (false, eval e X.env) :: starEach [] X.env := by rfl) (h5 : (backTo cpos (starEach [] X.env)).any (·.1) = false := by rfl) :
    FE X Φ W J (.Call (.Attribute o "pop" apos) [e] [] cpos) (fPopI f g) := by
  obtain ⟨te, h⟩ := h
  obtain ⟨tn, hn⟩ := hn
  refine ⟨_, pe_bm PySem.F.plainAttrs_list PySem.F.slot_list_pop PySem.F.type_list_pop mt_popAt h.pe (pa_cons hn.pe pa_nil h4) hbase h2 hline h4 h5, fun σ ρ' O G H Q P R hρ f0 hW ⟨θ, ρ, st, c, hm⟩ k => ?_⟩
  unfold tBM
  refine de_bind h hρ f0 hW c hm fun θ1 x x' st1 O1 v G1 H1 s1 rx m1 e1 f1 rv h1 => ?_
  have c1 := c.step s1 m1
  by_cases z : lstAt st1 x = true
  · rw [if_pos z] at h1
    have rx2 := rx
    cases rx <;> try (cases z; done)
    rename_i a p hp
    cases rv
    unfold lstAt at z
    simp only at z
    split at z
    · rename_i ds w
      obtain ⟨y', hO, hr⟩ := m1.at w hp
      cases hr with
      | @lst _ ds' ra =>
        obtain ⟨_, ob, hob, ro⟩ := FΦ.own f1 hO
        cases ro with
        | @lst vs _ rl =>
          refine ⟨.inl ⟨rfl, _, SqL.of hob⟩, ?_⟩
          refine de_bind hn (hρ.mono e1) f1 (hW.mono e1) c1 h1 fun θ2 y y' st2 O2 u G2 H2 s2 ry m2 e2 f2 ru h3 => ?_
          have rx3 := rx2.mono s2
          cases rx3
          rename_i hp2
          cases q : popRI st2 (.loc a) y with
          | none => rw [q] at h3; exact h3.elim
          | some r =>
            rw [q] at h3
            cases ry <;> try (cases q; done)
            rename_i i
            cases ru
            unfold popRI at q
            simp only at q
            split at q
            · rename_i ds2 w2
              split at q
              · rename_i hi
                split at q
                · rename_i d hd
                  cases q
                  obtain ⟨y2, hO2, hr2⟩ := m2.at w2 hp2
                  cases hr2 with
                  | @lst _ ds3 ra2 =>
                    obtain ⟨_, ob2, hob2, ro2⟩ := FΦ.own f2 hO2
                    cases ro2 with
                    | @lst vs2 _ rl2 =>
                      obtain ⟨d', hd', rd⟩ := ra2.at hd
                      obtain ⟨v', hv', rv'⟩ := rl2.at hd'
                      have lt : i.toNat < vs2.length := (List.getElem?_eq_some_iff.mp hv').1
                      refine ⟨p, _, i, i.toNat, v', rfl, rfl, hob2, by omega, by omega, ?_, hv', ?_⟩
                      · show (if 0 ≤ (if i < 0 then i + _ else i) && (if i < 0 then i + _ else i) < _ then some (if i < 0 then i + _ else i).toNat else none) = _
                        rw [if_neg (show ¬ i < 0 by omega)]
                        rw [if_pos (by simp; omega)]
                      · exact k d' _ v' G2 _ (Aft.ok h3 rd (m2.put w2 hp2 (.lst (RnL.erase ra2)))) (e1.trans e2) (FΦ.put f2 hO2 (.lst (RpL.erase rl2))) rv'
                · cases q
              · cases q
            · cases q
    · cases z
  · rw [if_neg z] at h1
    exact h1.elim
/-- list(x), a list of one's own -/
theorem fe_lstC {e : Expr} {f : fE} {p pos : Pos} (hg : Gl X "list") (hm : X.mg "list" = none) (h : FE X Φ W J e f)
    (he : starEach [e] X.env = (false, eval e X.env) :: starEach [] X.env := by rfl) (hpl : (backTo pos (starEach [] X.env)).any (·.1) = false := by rfl) : FE X Φ W J (.Call (.Name "list" p) [e] [] pos) (fLstC f) := by
  obtain ⟨te, h⟩ := h
  refine ⟨_, pe_callTy f_list.cr hg hm (by rfl) (pa_cons h.pe pa_nil he) (by decide) (by decide) he hpl, fun σ ρ' O G H Q P R hρ f0 hW ⟨θ, ρ, st, c, hx⟩ k => ?_⟩
  unfold tCB
  refine de_bind h hρ f0 hW c hx fun θ1 x x' st1 O1 v G1 H1 s1 rx m1 e1 f1 rv h1 => ?_
  cases rx <;> try (exact h1.elim)
  · rename_i a b ra
    cases rv with
    | lst q r => exact ⟨_, _, rfl, .inl (SqL.of (FΦ.same f1 _ _ q)), fun l nl => k _ _ _ G1 _ (h1 (θ1 ++ [l]) _ _ ⟨[l], rfl⟩ (.loc (mt_last m1)) (m1.new (own_free (X := X) f1 nl) (.lst ra))) e1 (FΦ.new f1 nl (.lst r)) (.loc l)⟩
  · rename_i a b ra
    cases rv with
    | tup q r => exact ⟨_, _, rfl, .inr (sqt_mono (FΦ.same f1) q), fun l nl => k _ _ _ G1 _ (h1 (θ1 ++ [l]) _ _ ⟨[l], rfl⟩ (.loc (mt_last m1)) (m1.new (own_free (X := X) f1 nl) (.lst ra))) e1 (FΦ.new f1 nl (.lst r)) (.loc l)⟩
end
variable {ρ : Rho} {st : St} {Q : D → St → Prop} {X : Exn → St → Prop}
theorem wp_lstC {m : fE} (h : (m ρ st).wp (fun x s => ∃ ds, (x = .lst ds ∨ x = .tup ds) ∧ Q (.loc s.length) (s ++ [some (.lst ds)])) X) : (fLstC m ρ st).wp Q X := by
  refine Res.bind2 h (fun x s h => ?_)
  obtain ⟨ds, e, q⟩ := h
  rcases e with rfl | rfl <;> exact .ok q
theorem wp_popI {m n : fE} (h : (m ρ st).wp (fun x s => ∃ a, x = .loc a ∧ (∃ ds, s[a]? = some (some (.lst ds))) ∧ (n ρ s).wp (fun y s2 => ∃ i d ds, y = .int i ∧ s2[a]? = some (some (.lst ds)) ∧ (0 ≤ i ∧ i < 2 ^ 62) ∧ ds[i.toNat]? = some d ∧ Q d (s2.set a (some (.lst (ds.eraseIdx i.toNat))))) X) X) : (fPopI m n ρ st).wp Q X := by
  refine Res.bind2 h (fun x s h => ?_)
  obtain ⟨a, rfl, ⟨ds, e⟩, h⟩ := h
  have z : lstAt s (.loc a) = true := by
    unfold lstAt
    simp only [e]
  rw [if_pos z]
  refine Res.bind2 h (fun y s2 h => ?_)
  obtain ⟨i, d, ds2, rfl, e2, hi, hd, q⟩ := h
  have r : popRI s2 (.loc a) (.int i) = some (d, s2.set a (some (.lst (ds2.eraseIdx i.toNat)))) := by
    unfold popRI
    simp only [e2]
    rw [if_pos hi, hd]
  rw [r]
  exact .ok q
end FL

set_option Elab.async false
set_option linter.all false
set_option maxRecDepth 100000
set_option maxHeartbeats 4000000
namespace FL
open PySem PySem.Spec PyProof.Rows L2 DL
/-! ### what is reached from the module's names -/
/-! ### addresses -/
/-! ### defs -/
theorem Df.mk_ {K : HK} {d : Df} (e : sight K (d.at_ K) = d.val) (c : d.good K = true) :
    ∃ fd, FunD K d.name d.qual (defArgs d.st) (defBody d.st) (defScope d.st) d.dv [] (d.at_ K) fd ∧ PySem.W.typeIn K (.ref (d.at_ K)) = some (.type "function") := by
  obtain ⟨c1, c⟩ := He.ba c
  obtain ⟨c2, c3⟩ := He.ba c
  unfold sight at e
  unfold codeB at c1
  cases q : K.lookup (d.at_ K) with
  | none =>
    rw [q] at c1
    cases c1
  | some o =>
    obtain ⟨oc, od, dt, osl⟩ := o
    rw [q] at c1 e
    cases dt with
    | func fd =>
      obtain ⟨b1, b2⟩ := He.ba c1
      obtain ⟨n1, n2, n3, n4, n5, n6, n7, n8, n9, n10, n11, n12, n13, n14, n15⟩ := fd
      unfold Df.val at e
      simp only [Option.some.injEq, Prod.mk.injEq] at e
      obtain ⟨h1, h2, h3, h4, h5, ⟨h6, h7⟩, h8⟩ := e
      subst h1 h2 h3 h4 h5 h6 h7 h8
      exact ⟨_, ⟨⟨oc, od, n8, n9, n10, n11, n12, n13, n14, osl, rfl, q, b1, He.dflB_ok b2, .inl rfl⟩, c2⟩, of_decide_eq_true c3⟩
    | _ => cases c1
theorem funD_fun {K : HK} {x qual : Str} {st : Stmt} {f : Addr} {fd : FuncData} (F : FunD K x qual (defArgs st) (defBody st) (defScope st) [] [] f fd) : Fun K x qual st f fd := by
  obtain ⟨⟨oc, od, dV, kV, doc, pm, an, cdv, ct, osl, e, l, c, hD, _⟩, kp⟩ := F
  rcases hD with ⟨_, z⟩ | ⟨z, _⟩
  · subst z
    exact ⟨⟨oc, od, kV, doc, pm, an, cdv, ct, osl, e, l, c⟩, kp⟩
  · exact absurd rfl z
theorem isFn_of {K : HK} {f : Addr} (h : PySem.W.typeIn K (.ref f) = some (.type "function")) : PySem.W.isFn K (.ref f) = true := by
  unfold PySem.W.isFn
  rw [h]
  rfl

/-! ### classes -/
structure OwnC (K : HK) (mg : Str → Option Value) (x : Str) (c : Addr) : Prop where
  m : mg x = some (.ref c)
  cl : Cls K c
  mks : PySem.W.makesIn K c = true
  kp : PySem.W.keepIn K (.ref c) = true
  cf : ClsF K mg c x
  is_ : PySem.W.isClsIn K c = true
  ty : PySem.W.typeIn K (.ref c) = some (.type "type")
  nt : NotT K c
theorem own_of {K : HK} {h : Heap} {mg : Str → Option Value} {x : Str} (X : K.In h) (G : h.Ns mainGlobals mg) (c : ownB K x = true) : OwnC K mg x (He.ga K x) := by
  unfold ownB noneOf at c
  simp only [Bool.and_eq_true, decide_eq_true_eq, List.all_eq_true] at c
  obtain ⟨⟨⟨⟨⟨⟨a1, a2⟩, a3⟩, a4⟩, ⟨⟨b1, b2⟩, b3⟩⟩, ⟨⟨d1, d2⟩, d3⟩⟩, ⟨⟨⟨e1, e2⟩, e3⟩, e4⟩⟩ := c
  have m := PySem.W.mg_of X G a1
  exact ⟨m, ⟨a2, a3, a4, b1⟩, b2, b3, ⟨m, ⟨a2, a3, a4, b1⟩, d1, d2, d3, e1⟩, e2, e3, ⟨e4⟩⟩
structure ExcC (K : HK) (mg : Str → Option Value) (x f : Str) (c : Addr) : Prop where
  m : mg x = some (.ref c)
  ox : OexG K c
  no : PySem.W.findIn K (.ref c) f = some none
  xc : XcT K c f
  sb : PySem.W.subIn K (.ref c) (.type "BaseException") = some true
  is_ : PySem.W.isClsIn K c = true
  ty : PySem.W.typeIn K (.ref c) = some (.type "type")
theorem exc_of {K : HK} {h : Heap} {mg : Str → Option Value} {x f : Str} {tl : List Value} {nw ini : String} (X : K.In h) (G : h.Ns mainGlobals mg) (B : BaseF nw ini tl) (c : excB K x f tl nw = true) : ExcC K mg x f (He.ga K x) := by
  unfold excB at c
  simp only [Bool.and_eq_true, decide_eq_true_eq] at c
  obtain ⟨⟨⟨⟨⟨a1, a2⟩, a3⟩, ⟨⟨b1, b2⟩, b3⟩⟩, ⟨⟨d1, d2⟩, d3⟩⟩, ⟨⟨e1, e2⟩, e3⟩⟩ := c
  exact ⟨PySem.W.mg_of X G a1, ⟨⟨_, _, _, B, a2, a3⟩, e2, b1, d3, e1, d2⟩, d1, ⟨b2, b3, d1, d3, e2⟩, d3, e3, e1⟩
theorem sub_of {K : HK} {x y : Str} {b : Bool} (h : subB K x y b = true) : PySem.W.subIn K (.ref (He.ga K x)) (.ref (He.ga K y)) = some b := of_decide_eq_true h
theorem lack_of {K : HK} {x f : Str} (h : lackB K x f = true) : PySem.W.findIn K (.ref (He.ga K x)) f = some none := of_decide_eq_true h
theorem mth_of {K : HK} {x m : Str} (h : mthB K x m = true) : PySem.W.findIn K (.ref (He.ga K x)) m = some (some (.ref (He.ma K (He.ga K x) m))) := of_decide_eq_true h
/-! ### names and constants -/
theorem glo_of {K : HK} {h : Heap} {mg : Str → Option Value} {x : Str} (X : K.In h) (G : h.Ns mainGlobals mg) (c : gloB K x = true) : mg x = some (.ref (He.ga K x)) := PySem.W.mg_of X G (of_decide_eq_true c)
theorem fre_of {K : HK} {h : Heap} {mg : Str → Option Value} {x : Str} (X : K.In h) (G : h.Ns mainGlobals mg) (c : freB K x = true) : mg x = none := PySem.W.mg_none_of X G (of_decide_eq_true c)
theorem int_of {K : HK} {h : Heap} {mg : Str → Option Value} {x : Str} {i : Int} (X : K.In h) (G : h.Ns mainGlobals mg) (c : intB K x i = true) : GlE K mg x (.int i) := by
  unfold intB at c
  split at c
  · rename_i v q
    exact ⟨v, .int i, PySem.W.mg_of X G q, He.relB_ok c, fun _ => .int i, rfl⟩
  · cases c
theorem tup_of {K : HK} {x : Str} {vs : List V} (h : tupB K x vs = true) : ∃ o, K.lookup (He.ga K x) = some o ∧ o.cls = .type "tuple" ∧ o.dict = none ∧ ∀ H, SqT K H (He.ga K x) vs := by
  obtain ⟨_, h⟩ := He.ba h
  split at h
  · rename_i c its n sl q
    obtain ⟨h1, h⟩ := He.ba h
    obtain ⟨h2, h3⟩ := He.ba h
    rw [of_decide_eq_true h1] at q
    exact ⟨_, q, rfl, rfl, fun H => kTup q rfl rfl (of_decide_eq_true h2) (He.relAll_ok h3) H⟩
  · cases h
/-! ### the Hook -/
section
variable {fs : List (HK → Bool)} {ds : List Df} {ts : List (Str × List Str)} {w : World} {K : HK}
theorem Told.all (c : Told fs ds ts w K) : (fs.all fun f => f K) = true := (He.ba (congrArg (fun z : Eye => z.1) c)).1
theorem Told.fact (c : Told fs ds ts w K) (i : Nat) {f : HK → Bool} (h : fs[i]? = some f := by rfl) : f K = true := List.all_eq_true.mp c.all f (List.mem_of_getElem? h)
theorem Told.def_ (c : Told fs ds ts w K) (i : Nat) {d : Df} (h : ds[i]? = some d := by rfl) :
    ∃ fd, FunD K d.name d.qual (defArgs d.st) (defBody d.st) (defScope d.st) d.dv [] (d.at_ K) fd ∧ PySem.W.typeIn K (.ref (d.at_ K)) = some (.type "function") := by
  have c1 : (ds.all fun d => d.good K) = true := (He.ba (congrArg (fun z : Eye => z.1) c)).2
  have e : ds.map (fun d => sight K (d.at_ K)) = ds.map Df.val := congrArg (fun z : Eye => z.2.1) c
  have e1 : (ds.map fun d => sight K (d.at_ K))[i]? = (ds.map Df.val)[i]? := by rw [e]
  rw [List.getElem?_map, List.getElem?_map, h] at e1
  exact Df.mk_ (Option.some.inj e1) (List.all_eq_true.mp c1 d (List.mem_of_getElem? h))
theorem Told.tab (c : Told fs ds ts w K) (i : Nat) {t : Str × List Str} (h : ts[i]? = some t := by rfl) : ∃ es n, KDict K w (He.ga K t.1) es n := by
  have e : ts.map (fun t => He.dicW K (He.ga K t.1)) = ts.map fun t => some (He.keysIn w.params t.2) := congrArg (fun z : Eye => z.2.2) c
  have e1 : (ts.map fun t => He.dicW K (He.ga K t.1))[i]? = (ts.map fun t => some (He.keysIn w.params t.2))[i]? := by rw [e]
  rw [List.getElem?_map, List.getElem?_map, h] at e1
  exact He.dicW_ok (Option.some.inj e1)
end
/-- the law's frame over such a head -/
theorem walk_W {l : PySem.W.OpenLaw} {k : Nat} {q : Program} {loose : List Str} {XP : (Str → Option Value) → Heap → Prop} {YP : World → Heap → Prop} {d : DefRec} {x : Str}
    (hn : l.most = some 63) (hi : importsNone q = true) (hdf : d.params.defaults = []) (hr : Room k callerA)
    (F : ∀ (w : World) (mg : Str → Option Value) (fa : Addr) (h : Heap), YP w h → h.Ns mainGlobals mg → mg d.name = some (.ref fa) →
      ∃ (K : HK) (fd : FuncData), K.In h ∧ (∀ (s : Shared) (u : Value), BindsTo s fd ⟨[u], []⟩ [(x, u)]) ∧ ∀ base : Heap, K.In base → base.Ns mainGlobals mg → (∃ mm, base.Ns sysModules mm) → FnS l.prog w K mg base k fa fd [x] (spLawD K)) :
    PySem.W.WalkO q loose XP YP l.row.toRowW d [] (fun f vs => PySem.call f vs) := by
  refine Att.attach_call hn hdf fun w s₀ s₁ mg mb fa o pm cd doc a vs ns G Y ho hd hcd hmg hobj hints hlen hg => ?_
  obtain ⟨K, fd, hK, hb, hF⟩ := F w mg fa _ Y G.T.g hmg
  exact law_callD hK G.T.g G.T.b G.T.builtins G.T.nolimit hg hobj hints hlen hr ((G.T.seer hi).mods.imp fun _ h => h.1) hF hb
end FL

set_option Elab.async false
set_option linter.all false
set_option maxRecDepth 100000
set_option maxHeartbeats 4000000
namespace PD
open PySem PySem.Spec PyProof.Rows L2 DL FL 
def ys_SIDES : List Str := ["top", "right", "bottom", "left"]
def isc_Symmetry : List (Str × Bool) := [("Picture", false), ("Symmetry", true), ("Frame", false), ("Effect", false)]
def isc_Frame : List (Str × Bool) := [("Picture", false), ("Symmetry", false), ("Frame", true), ("Effect", false)]
def p_is_whole : fS := (fRet (fAndV (fIsi [.int] (fVar 0)) (fNotV (fIsi [.bool] (fVar 0)))))
def e_is_whole : fF := fBody p_is_whole 0
def p_is_count : fS := (fRet (fAndV (fCall e_is_whole 1 [] (fCons (fVar 0) fNil)) (fBin oGe (fVar 0) (fC (.int 0)))))
def e_is_count : fF := fBody p_is_count 0
def p_is_colour : fS := (fRet (fCall e_is_count 1 [] (fCons (fVar 0) fNil)))
def e_is_colour : fF := fBody p_is_colour 0
def p_is_side : fS := (fRet (fAndV (fIsi [.str] (fVar 0)) (fBin oIn (fVar 0) (fC (.tup [.str "top", .str "right", .str "bottom", .str "left"])))))
def e_is_side : fF := fBody p_is_side 0
def p_is_step : fS := (fSeq (fIfS (fOr (fNot (fTest (fIsi [.tuple] (fVar 0)))) (fTest (fBin oEq (fFn lLen (fCons (fVar 0) fNil)) (fC (.int 0))))) (fRet (fC (.bl false))) fNext) (fSeq (fSet 1 (fBin oIx (fVar 0) (fC (.int 0)))) (fSeq (fIfS (fTest (fBin oInE (fVar 1) (fTup (fCons (fC (.str "turn")) (fCons (fC (.str "mirror")) fNil))))) (fRet (fBin oEq (fFn lLen (fCons (fVar 0) fNil)) (fC (.int 1)))) fNext) (fSeq (fIfS (fTest (fBin oEqE (fVar 1) (fC (.str "cut")))) (fRet (fAndV (fBin oEq (fFn lLen (fCons (fVar 0) fNil)) (fC (.int 2))) (fCall e_is_side 1 [] (fCons (fBin oIx (fVar 0) (fC (.int 1))) fNil)))) fNext) (fSeq (fIfS (fTest (fBin oEqE (fVar 1) (fC (.str "add")))) (fRet (fAndV (fBin oEq (fFn lLen (fCons (fVar 0) fNil)) (fC (.int 3))) (fAndV (fCall e_is_side 1 [] (fCons (fBin oIx (fVar 0) (fC (.int 1))) fNil)) (fCall e_is_colour 1 [] (fCons (fBin oIx (fVar 0) (fC (.int 2))) fNil))))) fNext) (fRet (fC (.bl false))))))))
def e_is_step : fF := fBody p_is_step 1
def p_Symmetry_eq_ : fS := (fRet (fAndV (fIsC isc_Symmetry (fVar 1)) (fAndV (fBin oEq (fFld "Symmetry" "_turns" (fVar 0)) (fFld "Symmetry" "_turns" (fVar 1))) (fBin oEq (fFld "Symmetry" "_mirrors" (fVar 0)) (fFld "Symmetry" "_mirrors" (fVar 1))))))
def e_Symmetry_eq_ : fF := fBody p_Symmetry_eq_ 0
def p_is_line : fS := (fRet (fAndV (fIsi [.tuple] (fVar 0)) (fAndV (fBin oEq (fFn lLen (fCons (fVar 0) fNil)) (fC (.int 2))) (fAndV (fCall e_is_side 1 [] (fCons (fBin oIx (fVar 0) (fC (.int 0))) fNil)) (fCall e_is_colour 1 [] (fCons (fBin oIx (fVar 0) (fC (.int 1))) fNil))))))
def e_is_line : fF := fBody p_is_line 0
def p_check_lines : fS := (fSeq (fIfS (fOr (fNot (fTest (fIsi [.list, .tuple] (fVar 0)))) (fTest (fBin oGt (fFn lLen (fCons (fVar 0) fNil)) (fC (.int 200))))) (fRaise "InvalidFrame" "index" (fCons (fC .non) fNil)) fNext) (fFor (iEn (fVar 0)) (fGt 2 (fGc (fGn 1) (fGc (fGn 2) fGl))) (fIfS (fNot (fTest (fCall e_is_line 1 [] (fCons (fVar 2) fNil)))) (fRaise "InvalidFrame" "index" (fCons (fVar 1) fNil)) fNext)))
def e_check_lines : fF := fBody p_check_lines 2
def p_number_of_last_unlike : fS := (fSeq (fSet 2 (fLenO (fVar 0))) (fSeq (fWhile (fAnd (fTest (fBin oGt (fVar 2) (fC (.int 0)))) (fTest (fBin oEq (fIxO (fVar 0) (fBin oSub (fVar 2) (fC (.int 1)))) (fVar 1)))) (fAugN (fun i j => i - j) 2 (fC (.int 1)))) (fRet (fVar 2))))
def e_number_of_last_unlike : fF := fBody p_number_of_last_unlike 1
def p_waiting_lines : fS := (fSeq (fSet 1 (fLstO (fCons (fLstO fNil) (fCons (fLstO fNil) (fCons (fLstO fNil) (fCons (fLstO fNil) fNil)))))) (fSeq (fSet 2 (fLstO (fCons (fLstO fNil) (fCons (fLstO fNil) (fCons (fLstO fNil) (fCons (fLstO fNil) fNil)))))) (fSeq (fFor (iSq (fVar 0)) (fGt 2 (fGc (fGn 3) (fGc (fGn 4) fGl))) (fSeq (fSet 5 (fTidx ys_SIDES (fVar 3))) (fSeq (fSet 6 (fLstO (fCons (fC (.int 0)) (fCons (fC (.int 0)) (fCons (fC (.int 0)) (fCons (fC (.int 0)) fNil)))))) (fSeq (fFor (iSq (fTup (fCons (fBin oMod (fBin oAdd (fVar 5) (fC (.int 1))) (fC (.int 4))) (fCons (fBin oMod (fBin oAdd (fVar 5) (fC (.int 3))) (fC (.int 4))) fNil)))) (fGn 7) (fAsg (fCall e_number_of_last_unlike 2 [] (fCons (fIxO (fVar 1) (fVar 7)) (fCons (fVar 4) fNil))) (fGsub (fVar 6) (fVar 7)))) (fSeq (fDrop (fApp (fIxO (fVar 1) (fVar 5)) (fVar 4))) (fDrop (fApp (fIxO (fVar 2) (fVar 5)) (fTup (fCons (fTup (fCons (fVar 3) (fCons (fVar 4) fNil))) (fCons (fVar 6) fNil)))))))))) (fRet (fFrzD (fVar 2))))))
def e_waiting_lines : fF := fBody p_waiting_lines 7
def p_next_lines : fS := (fSeq (fSet 2 (fLstO fNil)) (fSeq (fFor (iEn (fVar 0)) (fGt 2 (fGc (fGn 3) (fGc (fGn 4) fGl))) (fSeq (fIfS (fTest (fBin oEq (fBin oIx (fVar 1) (fVar 3)) (fFn lLen (fCons (fVar 4) fNil)))) fCt fNext) (fSeq (fAsg (fBin oIx (fVar 4) (fBin oIx (fVar 1) (fVar 3))) (fGt 2 (fGc (fGn 5) (fGc (fGn 6) fGl)))) (fIfS (fTest (fFn lAll (fCons (fLc (iZp (fCons (fVar 6) (fCons (fVar 1) fNil))) (fGt 2 (fGc (fGn 7) (fGc (fGn 8) fGl))) fYes (fBin oLe (fVar 7) (fVar 8)) [7, 8]) fNil))) (fDrop (fApp (fVar 2) (fTup (fCons (fVar 5) (fCons (fTup (fStar (fSl (fVar 1) fPn (fPs (fVar 3))) (fCons (fBin oAdd (fBin oIx (fVar 1) (fVar 3)) (fC (.int 1))) (fStar (fSl (fVar 1) (fPs (fBin oAdd (fVar 3) (fC (.int 1)))) fPn) fNil)))) fNil))))) fNext)))) (fRet (fFrz (fVar 2)))))
def e_next_lines : fF := fBody p_next_lines 7
def p_least_order : fS := (fSeq (fSet 1 (fCall e_waiting_lines 1 [] (fCons (fVar 0) fNil))) (fSeq (fSet 2 (fTup (fCons (fC (.int 0)) (fCons (fC (.int 0)) (fCons (fC (.int 0)) (fCons (fC (.int 0)) fNil)))))) (fSeq (fSet 3 (fLstO fNil)) (fSeq (fFor (iR1 (fCons (fFn lLen (fCons (fVar 0) fNil)) fNil)) (fGn 4) (fSeq (fAsg (fBin oIx (fCall e_next_lines 2 [] (fCons (fVar 1) (fCons (fVar 2) fNil))) (fC (.int 0))) (fGt 2 (fGc (fGn 5) (fGc (fGn 2) fGl)))) (fDrop (fApp (fVar 3) (fVar 5))))) (fRet (fFn lTuple (fCons (fFrz (fVar 3)) fNil)))))))
def e_least_order : fF := fBody p_least_order 5
def p_Frame_init_ : fS := (fSeq (fDrop (fCall e_check_lines 1 [] (fCons (fVar 1) fNil))) (fFldS "Frame" "_lines" (fVar 0) (fCall e_least_order 1 [] (fCons (fVar 1) fNil))))
def e_Frame_init_ : fF := fBody p_Frame_init_ 0
def p_Frame_order : fS := (fRet (fFn lListF (fCons (fFld "Frame" "_lines" (fVar 0)) fNil)))
def e_Frame_order : fF := fBody p_Frame_order 0
def p_Frame_eq_ : fS := (fRet (fAndV (fIsC isc_Frame (fVar 1)) (fBin oEq (fFld "Frame" "_lines" (fVar 0)) (fFld "Frame" "_lines" (fVar 1)))))
def e_Frame_eq_ : fF := fBody p_Frame_eq_ 0
def p_Frame_len_ : fS := (fRet (fFn lLen (fCons (fFld "Frame" "_lines" (fVar 0)) fNil)))
def e_Frame_len_ : fF := fBody p_Frame_len_ 0
def p_Frame_repr_ : fS := (fRet (fJoin ((fC (.str "Frame(")) :: ((fShow (fFn lListF (fCons (fFld "Frame" "_lines" (fVar 0)) fNil))) :: ((fC (.str ")")) :: [])))))
def e_Frame_repr_ : fF := fBody p_Frame_repr_ 0
end PD

set_option Elab.async false
set_option linter.all false
set_option maxRecDepth 100000
set_option maxHeartbeats 4000000
/-! grids, steps: what the program makes of them, in plain words -/
namespace TP
open PySem PySem.Spec PyProof.Rows L2 DL FL PD
abbrev Grid := List (List Int)
abbrev tR (r : List Int) : D := .tup (r.map .int)
abbrev lR (r : List Int) : D := .lst (r.map .int)
abbrev lG (g : Grid) : D := .lst (g.map lR)
/-- so many rows, so many columns -/
structure Rect (h w : Nat) (g : Grid) : Prop where
  h : g.length = h
  w : ∀ r ∈ g, r.length = w
inductive Sd | top | right | bottom | left
deriving DecidableEq
@[reducible] def Sd.s : Sd → Str
  | .top => "top"
  | .right => "right"
  | .bottom => "bottom"
  | .left => "left"
@[reducible] def Sd.d (s : Sd) : D := .str s.s
inductive Sp | turn | mir | cut (s : Sd) | add (s : Sd) (c : Int)
@[reducible] def Sp.d : Sp → D
  | .turn => .tup [.str "turn"]
  | .mir => .tup [.str "mirror"]
  | .cut s => .tup [.str "cut", s.d]
  | .add s c => .tup [.str "add", s.d, .int c]
/-! what a step makes of a grid -/
def turnG (w : Nat) (g : Grid) : Grid := (List.range w).map fun j => g.reverse.map fun r => r.getD j 0
def mirG (g : Grid) : Grid := g.map List.reverse
def cutG : Sd → Grid → Grid
  | .top, g => g.drop 1
  | .bottom, g => g.take (g.length - 1)
  | .left, g => g.map fun r => r.drop 1
  | .right, g => g.map fun r => r.take (r.length - 1)
def addG (w : Nat) (c : Int) : Sd → Grid → Grid
  | .top, g => List.replicate w c :: g
  | .bottom, g => g ++ [List.replicate w c]
  | .left, g => g.map fun r => c :: r
  | .right, g => g.map fun r => r ++ [c]
/-! .. and of its size -/
theorem Rect.turn {h w : Nat} {g : Grid} (k : Rect h w g) : Rect w h (turnG w g) := by
  refine ⟨by simp [turnG], fun r hr => ?_⟩
  simp only [turnG, List.mem_map] at hr
  obtain ⟨j, _, rfl⟩ := hr
  simp [k.h]
theorem Rect.mir {h w : Nat} {g : Grid} (k : Rect h w g) : Rect h w (mirG g) := by
  refine ⟨by simp [mirG, k.h], fun r hr => ?_⟩
  simp only [mirG, List.mem_map] at hr
  obtain ⟨q, hq, rfl⟩ := hr
  simp [k.w q hq]
theorem Rect.head {h w : Nat} {g : Grid} (k : Rect h w g) (hh : 1 ≤ h) : ∃ r rs, g = r :: rs ∧ r.length = w := by
  cases g with
  | nil =>
    have := k.h
    simp at this
    omega
  | cons r rs => exact ⟨r, rs, rfl, k.w r List.mem_cons_self⟩
end TP
namespace FL
open PySem PySem.Spec PyProof.Rows L2 DL
theorem cut_first {r : List D} : DL.cutD r (some 1) none = r.drop 1 := by
  unfold DL.cutD
  rw [HT.sIx_none]
  have h : HT.sIx r.length 0 (some 1) = min 1 r.length := HT.sIx_nat r.length 0 1
  rw [h]
  cases r with
  | nil => rfl
  | cons a r =>
    have z : min 1 (a :: r).length = 1 := by simp
    rw [z, List.take_of_length_le]
    simp
theorem cut_last {r : List D} : DL.cutD r none (some (-1)) = r.take (r.length - 1) := by
  unfold DL.cutD
  rw [HT.sIx_none]
  have e : HT.sIx r.length r.length (some (-1)) = r.length - 1 := by
    show (if (-1 : Int) < 0 then (-1 + (r.length : Int)).toNat else min (-1 : Int).toNat r.length) = _
    rw [if_pos (by decide)]
    omega
  rw [e, Nat.sub_zero, List.drop_zero]
theorem oCut_t1 {r : List D} : oCut (.tup r) (some 1) none = some (.tup (r.drop 1)) := congrArg (fun x => some (D.tup x)) cut_first
theorem oCut_t9 {r : List D} : oCut (.tup r) none (some (-1)) = some (.tup (r.take (r.length - 1))) := congrArg (fun x => some (D.tup x)) cut_last
theorem oCut_l1 {r : List D} : oCut (.lst r) (some 1) none = some (.lst (r.drop 1)) := congrArg (fun x => some (D.lst x)) cut_first
theorem oCut_l9 {r : List D} : oCut (.lst r) none (some (-1)) = some (.lst (r.take (r.length - 1))) := congrArg (fun x => some (D.lst x)) cut_last
theorem oAdd_tt {x y : List D} (h : x.length + y.length ≤ 1000000) : oAdd (.tup x) (.tup y) = some (.tup (x ++ y)) := by
  show (if x.length + y.length ≤ sizeLine then _ else _) = _
  rw [if_pos (by rw [sizeLine_e]; omega)]
theorem oAdd_ll {x y : List D} (h : x.length + y.length ≤ 1000000) : oAdd (.lst x) (.lst y) = some (.lst (x ++ y)) := by
  show (if x.length + y.length ≤ sizeLine then _ else _) = _
  rw [if_pos (by rw [sizeLine_e]; omega)]
theorem flat_one {c : D} {n : Nat} : (List.replicate n [c]).flatten = List.replicate n c := by simp
theorem oMul1_t {c : D} {w : Nat} (h1 : 1 ≤ w) (h2 : w ≤ 1000) : oMul1 (.tup [c]) (.int (w : Int)) = some (.tup (List.replicate w c)) := by
  by_cases q : (w : Int) = 1
  · have e : w = 1 := by omega
    subst e
    rfl
  · show (if (w : Int) = 1 then some (D.tup [c]) else oMul (.tup [c]) (.int (w : Int))) = _
    rw [if_neg q]
    show (if _ then _ else _) = _
    rw [if_pos ⟨by simp, by omega, by omega, by simp⟩, Int.toNat_natCast, flat_one]
theorem oMul1_l {c : D} {w : Nat} (h2 : w ≤ 1000000) : oMul1 (.lst [c]) (.int (w : Int)) = some (.lst (List.replicate w c)) := by
  have e : oMul1 (.lst [c]) (.int (w : Int)) = oMul (.lst [c]) (.int (w : Int)) := rfl
  have q : -(2 ^ 63) ≤ (w : Int) ∧ (w : Int) < 2 ^ 63 ∧ [c].length * (w : Int).toNat ≤ sizeLine := ⟨by omega, by omega, by rw [sizeLine_e]; simp; omega⟩
  rw [e]
  simp only [oMul, if_pos q]
  rw [Int.toNat_natCast, flat_one]
theorem blsOf_map {α : Type} {p : α → Bool} {xs : List α} : blsOf (xs.map fun x => D.bl (p x)) = some (xs.map p) := by
  induction xs with
  | nil => rfl
  | cons x xs ih =>
    show (blsOf (xs.map fun x => D.bl (p x))).map (p x :: ·) = _
    rw [ih]
    rfl
theorem lAll_map {α : Type} {p : α → Bool} {xs : List α} : lAll [.lst (xs.map fun x => D.bl (p x))] = some (.bl (xs.all p)) := by
  show (blsOf _).map _ = _
  rw [blsOf_map]
  simp
end FL

local macro_rules | `(tactic| walk_at "op") => `(tactic| first
  | with_reducible assumption
  | with_reducible exact FL.oEq_int | with_reducible exact FL.oNe_int | with_reducible exact FL.oAdd_int | with_reducible exact FL.oSub_int | with_reducible exact FL.oLt_int | with_reducible exact FL.oLe_int | with_reducible exact FL.oGt_int | with_reducible exact FL.oGe_int
  | with_reducible exact FL.oEq_str (by decide +kernel) (by decide +kernel)
  | with_reducible exact FL.oNotN_e | with_reducible exact FL.oIsN_e
  | with_reducible exact FL.pow9 | with_reducible exact FL.pow18 | with_reducible exact FL.pow20 | with_reducible exact FL.pow25 | with_reducible exact FL.pow30
  | with_reducible exact FL.oMod_int (by omega) | with_reducible exact FL.oDiv_int (by omega) (by omega) | with_reducible exact FL.oDiv_big (by omega) (by omega) | with_reducible exact FL.oMul1_b | with_reducible exact FL.oMul1_int (by omega) | with_reducible exact FL.oMul1_intR (by omega)
  | ((with_reducible show FL.oIx _ _ = _); first | exact FL.oIx_t0 | exact FL.oIx_l0 | (refine Eq.trans FL.oIx_tup ?_; exact rfl) | (refine Eq.trans FL.oIx_lst ?_; exact rfl))
  | ((with_reducible show FL.oIn _ _ = _); exact rfl) | ((with_reducible show FL.oNotIn _ _ = _); exact rfl) | ((with_reducible show FL.oInE _ _ = _); exact rfl)
  | with_reducible exact FL.oCut_t1 | with_reducible exact FL.oCut_t9 | with_reducible exact FL.oCut_l1 | with_reducible exact FL.oCut_l9)
local macro_rules | `(tactic| walk_at "fn") => `(tactic| first
  | ((with_reducible show FL.lLen _ = _); exact rfl) | ((with_reducible show FL.lTuple _ = _); exact rfl) | ((with_reducible show FL.lListF _ = _); exact rfl) | ((with_reducible show FL.lInt _ = _); exact rfl) | ((with_reducible show FL.lAbs _ = _); exact rfl) | ((with_reducible show FL.lMax _ = _); exact rfl) | ((with_reducible show FL.lMin _ = _); exact rfl) | ((with_reducible show FL.oCut _ _ _ = _); exact rfl))
local macro_rules | `(tactic| walk_at "br") => `(tactic| first | decide +kernel | with_reducible assumption | decide | exact rfl)
local macro_rules | `(tactic| walk_at "g1") => `(tactic| first
  | with_reducible refine FL.wp_seq ?_
  | ((with_reducible apply FL.wp_var); (exact rfl))
  | with_reducible refine FL.wp_c ?_
  | with_reducible refine FL.wp_bin ?_
  | ((with_reducible apply FL.gw_op); (first | walk_at "op" | walk_at "fn"))
  | with_reducible refine FL.wp_test ?_
  | with_reducible refine FL.gw_bl ?_
  | with_reducible refine FL.wp_ifS ?_
  | ((with_reducible apply FL.gw_t); (walk_at "br"))
  | ((with_reducible apply FL.gw_f); (walk_at "br"))
  | with_reducible refine FL.wp_set ?_
  | with_reducible refine FL.wp_cons ?_
  | with_reducible refine FL.wp_nil ?_
  | with_reducible refine FL.wp_ret ?_
  | with_reducible refine FL.wp_next ?_
  | with_reducible refine FL.wp_call ?_
  | ((with_reducible apply FL.gw_len); (exact rfl))
  | with_reducible refine FL.wp_drop ?_
  | with_reducible refine FL.wp_fn ?_
  | with_reducible refine FL.wp_tup ?_
  | with_reducible refine FL.wp_lst ?_
  | ((with_reducible apply FL.gw_sz); (exact rfl))
  | with_reducible refine FL.wp_and ?_
  | with_reducible refine FL.wp_or ?_
  | with_reducible refine FL.wp_not ?_
  | with_reducible refine FL.wp_andV ?_
  | with_reducible refine FL.wp_orV ?_
  | with_reducible refine FL.wp_notV ?_
  | with_reducible refine FL.wp_if ?_
  | with_reducible refine FL.wp_fld ?_
  | ((with_reducible apply FL.gw_fld); (exact rfl); (exact rfl))
  | with_reducible refine FL.wp_prop ?_
  | with_reducible refine FL.wp_meth0 ?_
  | with_reducible refine FL.wp_meth ?_
  | ((with_reducible apply FL.gw_ins); (exact rfl); (decide))
  | ((with_reducible apply FL.gw_ins1); (exact rfl))
  | with_reducible refine FL.wp_isi ?_
  | ((with_reducible apply FL.gw_isi); (exact rfl); (exact rfl))
  | with_reducible refine FL.wp_isC ?_
  | with_reducible refine FL.wp_isiI ?_
  | with_reducible refine FL.wp_fmt ?_
  | with_reducible refine FL.wp_showI ?_
  | ((with_reducible apply FL.gw_isiI); (first | with_reducible assumption | exact rfl))
  | ((with_reducible apply FL.gw_isC); (first | with_reducible assumption | exact rfl))
  | with_reducible refine FL.wp_sl ?_
  | with_reducible refine FL.wp_pn ?_
  | with_reducible refine FL.wp_ps ?_
  | with_reducible refine FL.gw_int ?_
  | with_reducible refine FL.wp_neg ?_
  | with_reducible refine FL.wp_back ?_
  | with_reducible refine FL.gw_backT ?_
  | with_reducible refine FL.gw_backL ?_
  | with_reducible refine FL.wp_asg ?_
  | ((with_reducible apply FL.gw_asg); (first | exact rfl | exact FL.gsub_e rfl rfl (by first | with_reducible assumption | exact FL.set_at (by with_reducible assumption)) rfl))
  | with_reducible refine FL.wp_ixO ?_
  | ((with_reducible apply FL.gw_ix); (exact rfl); (exact rfl); (first | exact rfl | with_reducible assumption | exact FL.set_at (by with_reducible assumption)); (exact rfl))
  | with_reducible refine FL.wp_lc ?_
  | with_reducible refine FL.wp_for ?_
  | with_reducible refine FL.wp_iSq ?_
  | ((with_reducible apply FL.gw_seq); (exact rfl))
  | with_reducible refine FL.wp_iEn ?_
  | with_reducible refine FL.wp_iR1 ?_
  | ((with_reducible apply FL.gw_r1); (omega))
  | with_reducible refine FL.wp_make ?_
  | with_reducible refine FL.wp_opI ?_
  | ((with_reducible apply FL.gw_two_ins); (exact rfl); (exact rfl))
  | with_reducible refine FL.wp_raise ?_
  | with_reducible refine FL.gw_one ?_
  | with_reducible refine FL.wp_try ?_
  | ((with_reducible apply FL.wp_pickT1); (focus decide +kernel); (focus (simp; done)))
  | ((with_reducible apply FL.wp_pickF1); (focus decide +kernel))
  | ((with_reducible apply FL.wp_xf); (exact rfl); (exact rfl); (exact rfl))
  | with_reducible refine FL.wp_tidx ?_
  | ((with_reducible apply FL.gw_tix); (exact rfl); (exact rfl))
  | with_reducible refine FL.wp_kix ?_
  | ((with_reducible apply FL.gw_kix); (exact rfl); (exact rfl))
  | with_reducible refine FL.wp_lstO ?_
  | with_reducible refine FL.wp_retN ?_
  | with_reducible refine FL.wp_brk ?_
  | with_reducible refine FL.wp_cont ?_
  | with_reducible refine FL.wp_par ?_
  | with_reducible refine FL.wp_chain ?_
  | with_reducible refine FL.wp_join ?_
  | with_reducible refine FL.wp_reprI ?_
  | with_reducible refine FL.wp_eqI ?_
  | ((with_reducible apply FL.gw_t); (focus (simp; done)))
  | ((with_reducible apply FL.gw_f); (focus (simp; done))))
local macro_rules | `(tactic| walk_at "g") => `(tactic| repeat walk_at "g1")

set_option Elab.async false
set_option linter.all false
set_option maxRecDepth 100000
set_option maxHeartbeats 4000000
namespace TP
open PySem PySem.Spec PyProof.Rows L2 DL FL PD
variable {st : FL.St} {h w : Nat} {g : Grid}
def lastG (s : Sd) (h w : Nat) : Bool := match s with
  | .top => decide (h = 1)
  | .bottom => decide (h = 1)
  | _ => decide (w = 1)
/-! sides and colours -/
def isSide : D → Bool
  | .str x => inV (V.str x) [V.str "top", V.str "right", V.str "bottom", V.str "left"]
  | _ => false
def isWhole : D → Bool
  | .int _ => true
  | _ => false
def isColour : D → Bool
  | .int i => decide (0 ≤ i)
  | _ => false
theorem is_whole_e {d : D} (hd : (tyD d).isSome = true) : e_is_whole [d] st = .ok (.bl (isWhole d)) st := by
  refine Res.eq_wp (wp_body0 ?_)
  unfold p_is_whole
  cases d <;> try (cases hd; done)
  all_goals walk_at "g"
  all_goals exact ⟨rfl, rfl, rfl⟩
theorem is_count_e {d : D} (hd : (tyD d).isSome = true) : e_is_count [d] st = .ok (.bl (isColour d)) st := by
  refine Res.eq_wp (wp_body0 ?_)
  unfold p_is_count
  walk_at "g"
  refine Res.wp_eq (is_whole_e hd) ?_
  cases d <;> try (cases hd; done)
  all_goals walk_at "g"
  all_goals exact ⟨rfl, rfl, rfl⟩
theorem is_colour_e {d : D} (hd : (tyD d).isSome = true) : e_is_colour [d] st = .ok (.bl (isColour d)) st := by
  refine Res.eq_wp (wp_body0 ?_)
  unfold p_is_colour
  walk_at "g"
  refine Res.wp_eq (is_count_e hd) ?_
  exact ⟨rfl, rfl, rfl⟩
theorem is_side_e {d : D} (hd : (tyD d).isSome = true) : e_is_side [d] st = .ok (.bl (isSide d)) st := by
  refine Res.eq_wp (wp_body0 ?_)
  unfold p_is_side
  cases d <;> try (cases hd; done)
  all_goals walk_at "g"
  all_goals exact ⟨rfl, rfl, rfl⟩
end TP

set_option Elab.async false
set_option linter.all false
set_option maxRecDepth 100000
set_option maxHeartbeats 4000000
namespace TP
open PySem PySem.Spec PyProof.Rows L2 DL FL PD
variable {st : FL.St} {h w : Nat} {g : Grid}
/-! pictures -/
/-- a grid of colours -/
structure Grd (h w : Nat) (g : Grid) : Prop where
  r : Rect h w g
  hh : 1 ≤ h
  hw : 1 ≤ w
  h1 : h ≤ 1000
  w1 : w ≤ 1000
  pos : ∀ r ∈ g, ∀ c ∈ r, 0 ≤ c
/-- rows or a row, as a list or as a tuple -/
abbrev sq (t : Bool) (ds : List D) : D := match t with
  | true => .tup ds
  | false => .lst ds
theorem gcF_app1 {st : FL.St} {x y : Option DO} {ok : Bool} : gcF (st ++ [x]).length ok (st ++ [y]) = st ++ [y] := gcF_len (by simp)
/-! its methods -/
theorem Grd.turn (k : Grd h w g) : Grd w h (turnG w g) := ⟨k.r.turn, k.hw, k.hh, k.w1, k.h1, fun r hr c hc => by
  simp only [turnG, List.mem_map, List.mem_range] at hr
  obtain ⟨j, hj, rfl⟩ := hr
  simp only [List.mem_map, List.mem_reverse] at hc
  obtain ⟨q, hq, rfl⟩ := hc
  have hw := k.r.w q hq
  have : j < q.length := by omega
  simp only [List.getD, List.getElem?_eq_getElem this, Option.getD_some]
  exact k.pos q hq _ (List.getElem_mem _)⟩
theorem Grd.mir (k : Grd h w g) : Grd h w (mirG g) := ⟨k.r.mir, k.hh, k.hw, k.h1, k.w1, fun r hr c hc => by
  simp only [mirG, List.mem_map] at hr
  obtain ⟨q, hq, rfl⟩ := hr
  exact k.pos q hq c (List.mem_reverse.mp hc)⟩
def cutH (s : Sd) (h : Nat) : Nat := match s with
  | .top => h - 1
  | .bottom => h - 1
  | _ => h
def cutW (s : Sd) (w : Nat) : Nat := match s with
  | .left => w - 1
  | .right => w - 1
  | _ => w
theorem Grd.cut {s : Sd} (k : Grd h w g) (n : lastG s h w = false) : Grd (cutH s h) (cutW s w) (cutG s g) := by
  have hh := k.hh
  have hw := k.hw
  have h1 := k.h1
  have w1 := k.w1
  have rh := k.r.h
  cases s
  case top =>
    have n := of_decide_eq_false n
    exact ⟨⟨by simp [cutG, cutH, rh], fun r hr => k.r.w r (List.mem_of_mem_drop hr)⟩, by simp only [cutH]; omega, hw, by simp only [cutH]; omega, w1, fun r hr => k.pos r (List.mem_of_mem_drop hr)⟩
  case bottom =>
    have n := of_decide_eq_false n
    exact ⟨⟨by simp only [cutG, cutH, List.length_take]; omega, fun r hr => k.r.w r (List.mem_of_mem_take hr)⟩, by simp only [cutH]; omega, hw, by simp only [cutH]; omega, w1, fun r hr => k.pos r (List.mem_of_mem_take hr)⟩
  case left =>
    have n := of_decide_eq_false n
    refine ⟨⟨by simp [cutG, cutH, rh], fun r hr => ?_⟩, hh, by simp only [cutW]; omega, h1, by simp only [cutW]; omega, fun r hr c hc => ?_⟩
    · simp only [cutG, List.mem_map] at hr
      obtain ⟨q, hq, rfl⟩ := hr
      simp [cutW, k.r.w q hq]
    · simp only [cutG, List.mem_map] at hr
      obtain ⟨q, hq, rfl⟩ := hr
      exact k.pos q hq c (List.mem_of_mem_drop hc)
  case right =>
    have n := of_decide_eq_false n
    refine ⟨⟨by simp [cutG, cutH, rh], fun r hr => ?_⟩, hh, by simp only [cutW]; omega, h1, by simp only [cutW]; omega, fun r hr c hc => ?_⟩
    · simp only [cutG, List.mem_map] at hr
      obtain ⟨q, hq, rfl⟩ := hr
      simp only [cutW, List.length_take, k.r.w q hq]
      omega
    · simp only [cutG, List.mem_map] at hr
      obtain ⟨q, hq, rfl⟩ := hr
      exact k.pos q hq c (List.mem_of_mem_take hc)
def addH (s : Sd) (h : Nat) : Nat := match s with
  | .top => h + 1
  | .bottom => h + 1
  | _ => h
def addW (s : Sd) (w : Nat) : Nat := match s with
  | .left => w + 1
  | .right => w + 1
  | _ => w
theorem Grd.add {s : Sd} {c : Int} (k : Grd h w g) (hc : 0 ≤ c) (h2 : h < 1000) (w2 : w < 1000) : Grd (addH s h) (addW s w) (addG w c s g) := by
  have hh := k.hh
  have hw := k.hw
  have h1 := k.h1
  have w1 := k.w1
  have rh := k.r.h
  have rep : ∀ x ∈ List.replicate w c, 0 ≤ x := fun x hx => by rw [List.eq_of_mem_replicate hx]; exact hc
  cases s
  case top =>
    refine ⟨⟨by simp [addG, addH, rh], fun r hr => ?_⟩, by simp only [addH]; omega, hw, by simp only [addH]; omega, w1, fun r hr => ?_⟩
    · rcases List.mem_cons.mp hr with rfl | hr
      · simp [addW]
      · exact k.r.w r hr
    · rcases List.mem_cons.mp hr with rfl | hr
      · exact rep
      · exact k.pos r hr
  case bottom =>
    refine ⟨⟨by simp [addG, addH, rh], fun r hr => ?_⟩, by simp only [addH]; omega, hw, by simp only [addH]; omega, w1, fun r hr => ?_⟩
    · rcases List.mem_append.mp hr with hr | hr
      · exact k.r.w r hr
      · rw [List.mem_singleton.mp hr]
        simp [addW]
    · rcases List.mem_append.mp hr with hr | hr
      · exact k.pos r hr
      · rw [List.mem_singleton.mp hr]
        exact rep
  case left =>
    refine ⟨⟨by simp [addG, addH, rh], fun r hr => ?_⟩, hh, by simp only [addW]; omega, h1, by simp only [addW]; omega, fun r hr x hx => ?_⟩
    · simp only [addG, List.mem_map] at hr
      obtain ⟨q, hq, rfl⟩ := hr
      simp [addW, k.r.w q hq]
    · simp only [addG, List.mem_map] at hr
      obtain ⟨q, hq, rfl⟩ := hr
      rcases List.mem_cons.mp hx with rfl | hx
      · exact hc
      · exact k.pos q hq x hx
  case right =>
    refine ⟨⟨by simp [addG, addH, rh], fun r hr => ?_⟩, hh, by simp only [addW]; omega, h1, by simp only [addW]; omega, fun r hr x hx => ?_⟩
    · simp only [addG, List.mem_map] at hr
      obtain ⟨q, hq, rfl⟩ := hr
      simp [addW, k.r.w q hq]
    · simp only [addG, List.mem_map] at hr
      obtain ⟨q, hq, rfl⟩ := hr
      rcases List.mem_append.mp hx with hx | hx
      · exact k.pos q hq x hx
      · rw [List.mem_singleton.mp hx]
        exact hc
end TP

set_option Elab.async false
set_option linter.all false
set_option maxRecDepth 100000
set_option maxHeartbeats 4000000
namespace PA
open PySem PySem.Spec PyProof.Rows L2 DL FL PD
def p_l_pool : fS := (fSeq (fSet 2 (fBin oAdd (fBin oMul1 (fC (.int 11)) (fFn lSum (fCons (fSl (fVar 0) fPn (fPs (fC (.int 63)))) fNil))) (fVar 1))) (fSeq (fIfS (fTest (fBin oLt (fVar 1) (fFn lLen (fCons (fVar 0) fNil)))) (fSet 2 (fBin oIx (fVar 0) (fVar 1))) fNext) (fSeq (fSet 3 (fFn lAbs (fCons (fVar 2) fNil))) (fSeq (fSet 4 (fBin oMod (fBin oMul1 (fBin oAdd (fBin oAdd (fBin oAdd (fBin oMod (fVar 3) (fC (.int 2147483629))) (fBin oMul1 (fBin oMul1 (fC (.int 7919)) (fVar 1)) (fVar 1))) (fBin oMul1 (fC (.int 31)) (fVar 1))) (fC (.int 17))) (fC (.int 48271))) (fC (.int 2147483647)))) (fRet (fLstO (fCons (fBin oMul1 (fVar 3) (fFn lInt (fCons (fBin oGe (fVar 3) (fBin oPow (fC (.int 10)) (fC (.int 18)))) fNil))) (fCons (fBin oMod (fBin oMul1 (fVar 4) (fVar 4)) (fC (.int 2147483629))) fNil))))))))
def e_l_pool : fF := fBody p_l_pool 3
def p_l_draw : fS := (fSeq (fIfS (fTest (fBin oGt (fIxO (fVar 0) (fC (.int 0))) (fC (.int 0)))) (fSeq (fSet 2 (fBin oMod (fIxO (fVar 0) (fC (.int 0))) (fVar 1))) (fSeq (fAsg (fBin oDiv (fIxO (fVar 0) (fC (.int 0))) (fVar 1)) (fGsub (fVar 0) (fC (.int 0)))) (fRet (fVar 2)))) fNext) (fSeq (fAsg (fBin oMod (fBin oAdd (fBin oMul1 (fIxO (fVar 0) (fC (.int 1))) (fC (.int 48271))) (fC (.int 11))) (fC (.int 2147483647))) (fGsub (fVar 0) (fC (.int 1)))) (fRet (fBin oMod (fBin oDiv (fBin oMod (fBin oMul1 (fIxO (fVar 0) (fC (.int 1))) (fIxO (fVar 0) (fC (.int 1)))) (fC (.int 2147483629))) (fC (.int 16))) (fVar 1)))))
def e_l_draw : fF := fBody p_l_draw 1
def p_l_random_lines : fS := (fSeq (fSet 3 (fLstO fNil)) (fSeq (fFor (iR1 (fCons (fVar 1) fNil)) (fGn 4) (fSeq (fSet 5 (fBin oIx (fLst (fCons (fC (.str "top")) (fCons (fC (.str "right")) (fCons (fC (.str "bottom")) (fCons (fC (.str "left")) fNil))))) (fCall e_l_draw 2 [] (fCons (fVar 0) (fCons (fC (.int 4)) fNil))))) (fDrop (fApp (fVar 3) (fTup (fCons (fVar 5) (fCons (fCall e_l_draw 2 [] (fCons (fVar 0) (fCons (fVar 2) fNil))) fNil))))))) (fRet (fFrz (fVar 3)))))
def e_l_random_lines : fF := fBody p_l_random_lines 3
def p_l_numbered : fS := (fRet (fLc (iR1 (fCons (fVar 0) fNil)) (fGn 3) fYes (fLc (iR1 (fCons (fVar 1) fNil)) (fGn 4) fYes (fBin oAdd (fBin oAdd (fVar 2) (fBin oMul1 (fVar 3) (fVar 1))) (fVar 4)) [4]) [3]))
def e_l_numbered : fF := fBody p_l_numbered 2
def p_l_after : fS := (fSeq (fSet 2 (fFn lLen (fCons (fBin oIx (fVar 0) (fC (.int 0))) fNil))) (fSeq (fIfS (fTest (fBin oEq (fBin oIx (fVar 1) (fC (.int 0))) (fC (.str "turn")))) (fRet (fLc (iR1 (fCons (fVar 2) fNil)) (fGn 6) fYes (fLc (iSq (fBack (fVar 0))) (fGn 5) fYes (fBin oIx (fVar 5) (fVar 6)) [5]) [6])) fNext) (fSeq (fIfS (fTest (fBin oEq (fBin oIx (fVar 1) (fC (.int 0))) (fC (.str "mirror")))) (fRet (fLc (iSq (fVar 0)) (fGn 5) fYes (fBack (fVar 5)) [5])) fNext) (fSeq (fIfS (fTest (fBin oIn (fBin oIx (fVar 1) (fC (.int 1))) (fTup (fCons (fC (.str "top")) (fCons (fC (.str "bottom")) fNil))))) (fSeq (fSet 3 (fBin oEq (fBin oIx (fVar 1) (fC (.int 1))) (fC (.str "top")))) (fSeq (fIfS (fTest (fBin oEq (fBin oIx (fVar 1) (fC (.int 0))) (fC (.str "cut")))) (fRet (fIf (fTest (fBin oGt (fFn lLen (fCons (fVar 0) fNil)) (fC (.int 1)))) (fIf (fTest (fVar 3)) (fSl (fVar 0) (fPs (fC (.int 1))) fPn) (fSl (fVar 0) fPn (fPs (fNeg (fC (.int 1)))))) (fC .non))) fNext) (fRet (fIf (fTest (fVar 3)) (fBin oAdd (fLst (fCons (fBin oMul1 (fLst (fCons (fBin oIx (fVar 1) (fC (.int 2))) fNil)) (fVar 2)) fNil)) (fVar 0)) (fBin oAdd (fVar 0) (fLst (fCons (fBin oMul1 (fLst (fCons (fBin oIx (fVar 1) (fC (.int 2))) fNil)) (fVar 2)) fNil))))))) fNext) (fSeq (fSet 4 (fBin oEq (fBin oIx (fVar 1) (fC (.int 1))) (fC (.str "left")))) (fSeq (fIfS (fTest (fBin oEq (fBin oIx (fVar 1) (fC (.int 0))) (fC (.str "cut")))) (fRet (fIf (fTest (fBin oGt (fVar 2) (fC (.int 1)))) (fLc (iSq (fVar 0)) (fGn 5) fYes (fIf (fTest (fVar 4)) (fSl (fVar 5) (fPs (fC (.int 1))) fPn) (fSl (fVar 5) fPn (fPs (fNeg (fC (.int 1)))))) [5]) (fC .non))) fNext) (fRet (fLc (iSq (fVar 0)) (fGn 5) fYes (fIf (fTest (fVar 4)) (fBin oAdd (fLst (fCons (fBin oIx (fVar 1) (fC (.int 2))) fNil)) (fVar 5)) (fBin oAdd (fVar 5) (fLst (fCons (fBin oIx (fVar 1) (fC (.int 2))) fNil)))) [5]))))))))
def e_l_after : fF := fBody p_l_after 5
def p_l_run : fS := (fSeq (fFor (iEn (fVar 1)) (fGt 2 (fGc (fGn 2) (fGc (fGn 3) fGl))) (fSeq (fSet 0 (fCall e_l_after 2 [] (fCons (fVar 0) (fCons (fVar 3) fNil)))) (fIfS (fTest (fBin oIsN (fVar 0) (fC .non))) (fRet (fLst (fCons (fC .non) (fCons (fVar 2) fNil)))) fNext))) (fRet (fLst (fCons (fVar 0) (fCons (fC .non) fNil)))))
def e_l_run : fF := fBody p_l_run 2
end PA

set_option Elab.async false
set_option linter.all false
set_option maxRecDepth 100000
set_option maxHeartbeats 4000000
/-! the laws' own small functions: draws, random pictures, steps on lists of lists -/
namespace TQ
open PySem PySem.Spec PyProof.Rows L2 DL FL PD TP
variable {st : FL.St} {h w : Nat} {g : Grid} {Q : D → FL.St → Prop} {X : Exn → FL.St → Prop}
abbrev po (a b : Int) : Option DO := some (.lst [.int a, .int b])
theorem draw_wp {n : Nat} {a b c : Int} (hs : st[n]? = some (po a b)) (hc : 0 < c) (h2 : c ≤ 10000000000000000000000000000000000000000) (k : ∀ r a' b', 0 ≤ r → r < c → Q (.int r) (st.set n (po a' b'))) : (PA.e_l_draw [.loc n, .int c] st).wp Q X := by
  refine wp_body ?_
  unfold PA.p_l_draw
  walk_at "g"
  refine gw_two (fun ha => ?_) (fun ha => ?_)
  · walk_at "g"
    rw [gcF_len (by simp)]
    exact k _ _ _ (Int.emod_nonneg _ (by omega)) (Int.emod_lt_of_pos _ hc)
  · walk_at "g"
    rw [gcF_len (by simp)]
    exact k _ _ _ (Int.emod_nonneg _ (by omega)) (Int.emod_lt_of_pos _ hc)
theorem pool_wp {ns : List Int} {j : Int} (hj : 0 ≤ j) (hj2 : j ≤ 1000) (k : ∀ a b, Q (.loc st.length) (st ++ [po a b])) : (PA.e_l_pool [.frz (ns.map D.int), .int j] st).wp Q X := by
  refine wp_body ?_
  unfold PA.p_l_pool
  obtain ⟨z, hz⟩ := lSum_cut (xs := ns) (lo := none) (hi := some 63)
  have hl : lLen [.frz (ns.map D.int)] = some (.int ((ns.length : Nat) : Int)) := by
    show some (D.int (((ns.map D.int).length : Nat) : Int)) = _
    rw [List.length_map]
  walk_at "g"
  refine gw_two (fun hb => ?_) (fun hb => ?_)
  · have a := at_nat (ds := ns.map D.int) (k := j.toNat) (by rw [List.length_map]; omega)
    rw [List.getElem_map, Int.toNat_of_nonneg hj] at a
    have a : oIx (.frz (ns.map D.int)) (.int j) = _ := a
    walk_at "g"
    exact k _ _
  · walk_at "g"
    exact k _ _
theorem set_set' {n : Nat} {x y : Option DO} : (st.set n x).set n y = st.set n y := List.set_set ..
end TQ

set_option Elab.async false
set_option linter.all false
set_option maxRecDepth 100000
set_option maxHeartbeats 4000000
namespace TQ
open PySem PySem.Spec PyProof.Rows L2 DL FL PD TP
variable {st : FL.St} {h w : Nat} {g : Grid} {Q : D → FL.St → Prop} {X : Exn → FL.St → Prop}
def aft (h w : Nat) : TP.Sp → Grid → Option Grid
  | .turn, g => some (turnG w g)
  | .mir, g => some (mirG g)
  | .cut s, g => if lastG s h w = true then none else some (cutG s g)
  | .add s c, g => some (addG w c s g)
def optD : Option Grid → D
  | none => .non
  | some g => lG g
theorem getD_int' {r : List Int} {j : Nat} (h : j < r.length) : atI (r.map D.int) (0 + (j : Int)) = some (.int (r.getD j 0)) := by
  have a := at_nat (ds := r.map D.int) (k := j) (by rw [List.length_map]; exact h)
  rw [Int.zero_add, a, List.getElem_map]
  simp [List.getD, h]
theorem after_turn (k : Grd h w g) : PA.e_l_after [lG g, (TP.Sp.turn).d] st = .ok (lG (turnG w g)) st := by
  obtain ⟨r, rs, e, l⟩ := k.r.head k.hh
  have kr := k.r
  have hh := k.h1
  have hw := k.w1
  have rh := kr.h
  have ix : oIx (lG g) (.int 0) = some (lR r) := by rw [e]; exact oIx_l0
  have hl : lLen [lR r] = some (.int ((w : Nat) : Int)) := by
    show some (D.int (((r.map D.int).length : Nat) : Int)) = _
    rw [List.length_map, l]
  refine Res.eq_wp (wp_body0 ?_)
  unfold PA.p_l_after
  walk_at "g"
  refine wp_lc_map (enc := fun i : Nat => D.int (0 + i)) (xs := List.range w) (fun j => lR (g.reverse.map fun r => r.getD j 0)) (by simp; omega) ?_ ?_
  · intro j hj
    have hj := List.mem_range.mp hj
    refine ⟨_, rfl, ?_⟩
    walk_at "g"
    rw [← List.map_reverse]
    refine wp_lc_map (enc := lR) (xs := g.reverse) (fun r => .int (r.getD j 0)) (by simp; omega) ?_ ?_
    · intro q hq
      refine ⟨_, rfl, ?_⟩
      walk_at "g"
      exact ⟨_, getD_int' (by rw [kr.w q (List.mem_reverse.mp hq)]; exact hj), rfl, rfl⟩
    · exact ⟨by simp [lR, List.map_map, Function.comp], rfl⟩
  · exact ⟨rfl, by simp [TP.turnG, lG, List.map_map, Function.comp], rfl⟩
theorem after_mir (k : Grd h w g) : PA.e_l_after [lG g, (TP.Sp.mir).d] st = .ok (lG (mirG g)) st := by
  obtain ⟨r, rs, e, l⟩ := k.r.head k.hh
  have rh := k.r.h
  have hh := k.h1
  have ix : oIx (lG g) (.int 0) = some (lR r) := by rw [e]; exact oIx_l0
  refine Res.eq_wp (wp_body0 ?_)
  unfold PA.p_l_after
  walk_at "g"
  refine wp_lc_map (enc := lR) (fun r => lR r.reverse) (by omega) ?_ ?_
  · intro q hq
    refine ⟨_, rfl, ?_⟩
    walk_at "g"
    exact ⟨by simp [lR], rfl⟩
  · exact ⟨rfl, by simp [mirG, lG, List.map_map, Function.comp], rfl⟩
theorem after_cut {s : Sd} (k : Grd h w g) : PA.e_l_after [lG g, (TP.Sp.cut s).d] st = .ok (optD (aft h w (.cut s) g)) st := by
  obtain ⟨r, rs, e, l⟩ := k.r.head k.hh
  have rh := k.r.h
  have hh := k.h1
  have hh0 := k.hh
  have hw0 := k.hw
  have ix : oIx (lG g) (.int 0) = some (lR r) := by rw [e]; exact oIx_l0
  have hl : lLen [lR r] = some (.int ((w : Nat) : Int)) := by
    show some (D.int (((r.map D.int).length : Nat) : Int)) = _
    rw [List.length_map, l]
  have hg : lLen [lG g] = some (.int ((h : Nat) : Int)) := by
    show some (D.int (((g.map lR).length : Nat) : Int)) = _
    rw [List.length_map, rh]
  refine Res.eq_wp (wp_body0 ?_)
  unfold PA.p_l_after
  cases s
  case top =>
    walk_at "g"
    refine gw_two (fun hb => ?_) (fun hb => ?_)
    · walk_at "g"
      have : lastG .top h w = false := by simp [lastG]; omega
      exact ⟨rfl, by rw [aft, this]; simp [optD, cutG, lG], rfl⟩
    · walk_at "g"
      have : lastG .top h w = true := by simp [lastG]; omega
      exact ⟨rfl, by rw [aft, this]; rfl, rfl⟩
  case bottom =>
    walk_at "g"
    refine gw_two (fun hb => ?_) (fun hb => ?_)
    · walk_at "g"
      have : lastG .bottom h w = false := by simp [lastG]; omega
      exact ⟨rfl, by rw [aft, this]; simp [optD, cutG, lG], rfl⟩
    · walk_at "g"
      have : lastG .bottom h w = true := by simp [lastG]; omega
      exact ⟨rfl, by rw [aft, this]; rfl, rfl⟩
  case left =>
    walk_at "g"
    refine gw_two (fun hb => ?_) (fun hb => ?_)
    · walk_at "g"
      have : lastG .left h w = false := by simp [lastG]; omega
      refine wp_lc_map (enc := lR) (fun r => lR (r.drop 1)) (by omega) ?_ ?_
      · intro q hq
        refine ⟨_, rfl, ?_⟩
        walk_at "g"
        exact ⟨by simp [lR], rfl⟩
      · exact ⟨rfl, by rw [aft, this]; simp [optD, cutG, lG, List.map_map, Function.comp], rfl⟩
    · walk_at "g"
      have : lastG .left h w = true := by simp [lastG]; omega
      exact ⟨rfl, by rw [aft, this]; rfl, rfl⟩
  case right =>
    walk_at "g"
    refine gw_two (fun hb => ?_) (fun hb => ?_)
    · walk_at "g"
      have : lastG .right h w = false := by simp [lastG]; omega
      refine wp_lc_map (enc := lR) (fun r => lR (r.take (r.length - 1))) (by omega) ?_ ?_
      · intro q hq
        refine ⟨_, rfl, ?_⟩
        walk_at "g"
        exact ⟨by simp [lR], rfl⟩
      · exact ⟨rfl, by rw [aft, this]; simp [optD, cutG, lG, List.map_map, Function.comp], rfl⟩
    · walk_at "g"
      have : lastG .right h w = true := by simp [lastG]; omega
      exact ⟨rfl, by rw [aft, this]; rfl, rfl⟩
theorem after_add {s : Sd} {c : Int} (k : Grd h w g) : PA.e_l_after [lG g, (TP.Sp.add s c).d] st = .ok (lG (addG w c s g)) st := by
  obtain ⟨r, rs, e, l⟩ := k.r.head k.hh
  have rh := k.r.h
  have hh := k.h1
  have hw1 := k.w1
  have ix : oIx (lG g) (.int 0) = some (lR r) := by rw [e]; exact oIx_l0
  have hl : lLen [lR r] = some (.int ((w : Nat) : Int)) := by
    show some (D.int (((r.map D.int).length : Nat) : Int)) = _
    rw [List.length_map, l]
  have m : oMul1 (.lst [.int c]) (.int ((w : Nat) : Int)) = some (lR (List.replicate w c)) := by
    rw [oMul1_l (by omega)]
    simp [lR]
  refine Res.eq_wp (wp_body0 ?_)
  unfold PA.p_l_after
  cases s
  case top =>
    walk_at "g"
    exact ⟨_, oAdd_ll (by simp; omega), rfl, rfl, rfl⟩
  case bottom =>
    walk_at "g"
    exact ⟨_, oAdd_ll (by simp; omega), rfl, by simp [addG, lG], rfl⟩
  case left =>
    walk_at "g"
    refine wp_lc_map (enc := lR) (fun r => lR (c :: r)) (by omega) ?_ ?_
    · intro q hq
      refine ⟨_, rfl, ?_⟩
      walk_at "g"
      exact ⟨_, oAdd_ll (by have := k.r.w q hq; simp; omega), by simp [lR], rfl⟩
    · exact ⟨rfl, by simp [addG, lG, List.map_map, Function.comp], rfl⟩
  case right =>
    walk_at "g"
    refine wp_lc_map (enc := lR) (fun r => lR (r ++ [c])) (by omega) ?_ ?_
    · intro q hq
      refine ⟨_, rfl, ?_⟩
      walk_at "g"
      exact ⟨_, oAdd_ll (by have := k.r.w q hq; simp; omega), by simp [lR], rfl⟩
    · exact ⟨rfl, by simp [addG, lG, List.map_map, Function.comp], rfl⟩
theorem after_e {p : TP.Sp} (k : Grd h w g) : PA.e_l_after [lG g, p.d] st = .ok (optD (aft h w p g)) st := by
  cases p with
  | turn => exact after_turn k
  | mir => exact after_mir k
  | cut s => exact after_cut k
  | add s c => exact after_add k
end TQ

set_option Elab.async false
set_option linter.all false
set_option maxRecDepth 100000
set_option maxHeartbeats 4000000
namespace PE
open PySem PySem.Spec PyProof.Rows L2 DL FL PD
end PE

set_option Elab.async false
set_option linter.all false
set_option maxRecDepth 100000
set_option maxHeartbeats 4000000
namespace K09
open PySem PySem.Spec PyProof.Rows L2 DL FL PD PE PA
theorem sc_InvalidFrame_init_ : FnScope ["self", "index"] ["self", "index"] (defScope s_InvalidFrame_init_) := ⟨rfl, rfl, rfl, by decide +kernel, rfl, by decide +kernel, by decide +kernel⟩
theorem sc_is_whole : FnScope ["value"] ["value"] (defScope s_is_whole) := ⟨rfl, rfl, rfl, by decide +kernel, rfl, by decide +kernel, by decide +kernel⟩
theorem sc_is_count : FnScope ["value"] ["value"] (defScope s_is_count) := ⟨rfl, rfl, rfl, by decide +kernel, rfl, by decide +kernel, by decide +kernel⟩
theorem sc_is_colour : FnScope ["value"] ["value"] (defScope s_is_colour) := ⟨rfl, rfl, rfl, by decide +kernel, rfl, by decide +kernel, by decide +kernel⟩
theorem sc_is_side : FnScope ["value"] ["value"] (defScope s_is_side) := ⟨rfl, rfl, rfl, by decide +kernel, rfl, by decide +kernel, by decide +kernel⟩
theorem sc_is_line : FnScope ["value"] ["value"] (defScope s_is_line) := ⟨rfl, rfl, rfl, by decide +kernel, rfl, by decide +kernel, by decide +kernel⟩
theorem sc_check_lines : FnScope ["lines", "index", "line"] ["lines"] (defScope s_check_lines) := ⟨rfl, rfl, rfl, by decide +kernel, rfl, by decide +kernel, by decide +kernel⟩
theorem sc_number_of_last_unlike : FnScope ["colours", "colour", "number"] ["colours", "colour"] (defScope s_number_of_last_unlike) := ⟨rfl, rfl, rfl, by decide +kernel, rfl, by decide +kernel, by decide +kernel⟩
theorem sc_waiting_lines : FnScope ["lines", "colours", "waiting", "side", "colour", "here", "needs", "neighbour"] ["lines"] (defScope s_waiting_lines) := ⟨rfl, rfl, rfl, by decide +kernel, rfl, by decide +kernel, by decide +kernel⟩
theorem sc_next_lines : FnScope ["waiting", "placed", "following", "here", "queue", "line", "needs", "need", "there"] ["waiting", "placed"] (defScope s_next_lines) := ⟨rfl, rfl, rfl, by decide +kernel, rfl, by decide +kernel, by decide +kernel⟩
theorem sc_least_order : FnScope ["lines", "waiting", "placed", "order", "_", "line"] ["lines"] (defScope s_least_order) := ⟨rfl, rfl, rfl, by decide +kernel, rfl, by decide +kernel, by decide +kernel⟩
theorem sc_Frame_init_ : FnScope ["self", "lines"] ["self", "lines"] (defScope s_Frame_init_) := ⟨rfl, rfl, rfl, by decide +kernel, rfl, by decide +kernel, by decide +kernel⟩
theorem sc_Frame_order : FnScope ["self"] ["self"] (defScope s_Frame_order) := ⟨rfl, rfl, rfl, by decide +kernel, rfl, by decide +kernel, by decide +kernel⟩
theorem sc_Frame_eq_ : FnScope ["self", "other"] ["self", "other"] (defScope s_Frame_eq_) := ⟨rfl, rfl, rfl, by decide +kernel, rfl, by decide +kernel, by decide +kernel⟩
theorem sc_Frame_len_ : FnScope ["self"] ["self"] (defScope s_Frame_len_) := ⟨rfl, rfl, rfl, by decide +kernel, rfl, by decide +kernel, by decide +kernel⟩
theorem sc_Frame_repr_ : FnScope ["self"] ["self"] (defScope s_Frame_repr_) := ⟨rfl, rfl, rfl, by decide +kernel, rfl, by decide +kernel, by decide +kernel⟩
theorem sc_l_pool : FnScope ["script", "k", "cell", "great", "mixed"] ["script", "k"] (defScope s_l_pool) := ⟨rfl, rfl, rfl, by decide +kernel, rfl, by decide +kernel, by decide +kernel⟩
theorem sc_l_draw : FnScope ["pool", "many", "found"] ["pool", "many"] (defScope s_l_draw) := ⟨rfl, rfl, rfl, by decide +kernel, rfl, by decide +kernel, by decide +kernel⟩
theorem sc_l_numbered : FnScope ["height", "width", "start", "row", "column"] ["height", "width", "start"] (defScope s_l_numbered) := ⟨rfl, rfl, rfl, by decide +kernel, rfl, by decide +kernel, by decide +kernel⟩
theorem sc_l_random_lines : FnScope ["pool", "many", "colours", "found", "turn", "side"] ["pool", "many", "colours"] (defScope s_l_random_lines) := ⟨rfl, rfl, rfl, by decide +kernel, rfl, by decide +kernel, by decide +kernel⟩
theorem sc_l_after : FnScope ["rows", "step", "width", "top", "left", "row", "column"] ["rows", "step"] (defScope s_l_after) := ⟨rfl, rfl, rfl, by decide +kernel, rfl, by decide +kernel, by decide +kernel⟩
theorem sc_l_run : FnScope ["rows", "steps", "position", "step"] ["rows", "steps"] (defScope s_l_run) := ⟨rfl, rfl, rfl, by decide +kernel, rfl, by decide +kernel, by decide +kernel⟩
theorem sc_l_shown : FnScope ["lines", "line"] ["lines"] (defScope s_l_shown) := ⟨rfl, rfl, rfl, by decide +kernel, rfl, by decide +kernel, by decide +kernel⟩
theorem sc_l_changed : FnScope ["pool", "lines", "colours", "at", "choice", "left", "found"] ["pool", "lines", "colours"] (defScope s_l_changed) := ⟨rfl, rfl, rfl, by decide +kernel, rfl, by decide +kernel, by decide +kernel⟩
theorem sc_law : FnScope ["script", "k", "pool", "colours", "lines", "one", "turn", "changed", "other", "same"] ["script"] (defScope s_law) := ⟨rfl, rfl, rfl, by decide +kernel, rfl, by decide +kernel, by decide +kernel⟩
structure Ad where
  a_InvalidFrame_init_ : Addr
  fd_InvalidFrame_init_ : FuncData
  a_is_whole : Addr
  fd_is_whole : FuncData
  a_is_count : Addr
  fd_is_count : FuncData
  a_is_colour : Addr
  fd_is_colour : FuncData
  a_is_side : Addr
  fd_is_side : FuncData
  a_is_line : Addr
  fd_is_line : FuncData
  a_check_lines : Addr
  fd_check_lines : FuncData
  a_number_of_last_unlike : Addr
  fd_number_of_last_unlike : FuncData
  a_waiting_lines : Addr
  fd_waiting_lines : FuncData
  a_next_lines : Addr
  fd_next_lines : FuncData
  a_least_order : Addr
  fd_least_order : FuncData
  a_Frame_init_ : Addr
  fd_Frame_init_ : FuncData
  a_Frame_order : Addr
  fd_Frame_order : FuncData
  a_Frame_eq_ : Addr
  fd_Frame_eq_ : FuncData
  a_Frame_len_ : Addr
  fd_Frame_len_ : FuncData
  a_Frame_repr_ : Addr
  fd_Frame_repr_ : FuncData
  a_l_pool : Addr
  fd_l_pool : FuncData
  a_l_draw : Addr
  fd_l_draw : FuncData
  a_l_numbered : Addr
  fd_l_numbered : FuncData
  a_l_random_lines : Addr
  fd_l_random_lines : FuncData
  a_l_after : Addr
  fd_l_after : FuncData
  a_l_run : Addr
  fd_l_run : FuncData
  a_l_shown : Addr
  fd_l_shown : FuncData
  a_l_changed : Addr
  fd_l_changed : FuncData
  a_law : Addr
  fd_law : FuncData
  c_Picture : Addr
  c_InvalidFrame : Addr
  c_Frame : Addr
  k_SIDES : Addr
  o_SIDES : Obj

structure Tx (w : World) (K : PySem.W.Frag) (mg : Str → Option Value) (base : Heap) (A : Ad) : Prop where
  mods : ∃ mm, base.Ns sysModules mm
  F_InvalidFrame_init_ : Fun K "__init__" "InvalidFrame.__init__" s_InvalidFrame_init_ A.a_InvalidFrame_init_ A.fd_InvalidFrame_init_
  b_InvalidFrame_init_ : Binds K A.fd_InvalidFrame_init_ ["self", "index"] []
  F_is_whole : Fun K "is_whole" "is_whole" s_is_whole A.a_is_whole A.fd_is_whole
  b_is_whole : Binds K A.fd_is_whole ["value"] []
  g_is_whole : mg "is_whole" = some (.ref A.a_is_whole)
  F_is_count : Fun K "is_count" "is_count" s_is_count A.a_is_count A.fd_is_count
  b_is_count : Binds K A.fd_is_count ["value"] []
  g_is_count : mg "is_count" = some (.ref A.a_is_count)
  F_is_colour : Fun K "is_colour" "is_colour" s_is_colour A.a_is_colour A.fd_is_colour
  b_is_colour : Binds K A.fd_is_colour ["value"] []
  g_is_colour : mg "is_colour" = some (.ref A.a_is_colour)
  F_is_side : Fun K "is_side" "is_side" s_is_side A.a_is_side A.fd_is_side
  b_is_side : Binds K A.fd_is_side ["value"] []
  g_is_side : mg "is_side" = some (.ref A.a_is_side)
  F_is_line : Fun K "_is_line" "_is_line" s_is_line A.a_is_line A.fd_is_line
  b_is_line : Binds K A.fd_is_line ["value"] []
  g_is_line : mg "_is_line" = some (.ref A.a_is_line)
  F_check_lines : Fun K "_check_lines" "_check_lines" s_check_lines A.a_check_lines A.fd_check_lines
  b_check_lines : Binds K A.fd_check_lines ["lines"] []
  g_check_lines : mg "_check_lines" = some (.ref A.a_check_lines)
  F_number_of_last_unlike : Fun K "_number_of_last_unlike" "_number_of_last_unlike" s_number_of_last_unlike A.a_number_of_last_unlike A.fd_number_of_last_unlike
  b_number_of_last_unlike : Binds K A.fd_number_of_last_unlike ["colours", "colour"] []
  g_number_of_last_unlike : mg "_number_of_last_unlike" = some (.ref A.a_number_of_last_unlike)
  F_waiting_lines : Fun K "_waiting_lines" "_waiting_lines" s_waiting_lines A.a_waiting_lines A.fd_waiting_lines
  b_waiting_lines : Binds K A.fd_waiting_lines ["lines"] []
  g_waiting_lines : mg "_waiting_lines" = some (.ref A.a_waiting_lines)
  F_next_lines : Fun K "_next_lines" "_next_lines" s_next_lines A.a_next_lines A.fd_next_lines
  b_next_lines : Binds K A.fd_next_lines ["waiting", "placed"] []
  g_next_lines : mg "_next_lines" = some (.ref A.a_next_lines)
  F_least_order : Fun K "_least_order" "_least_order" s_least_order A.a_least_order A.fd_least_order
  b_least_order : Binds K A.fd_least_order ["lines"] []
  g_least_order : mg "_least_order" = some (.ref A.a_least_order)
  F_Frame_init_ : Fun K "__init__" "Frame.__init__" s_Frame_init_ A.a_Frame_init_ A.fd_Frame_init_
  b_Frame_init_ : Binds K A.fd_Frame_init_ ["self", "lines"] []
  F_Frame_order : Fun K "order" "Frame.order" s_Frame_order A.a_Frame_order A.fd_Frame_order
  b_Frame_order : Binds K A.fd_Frame_order ["self"] []
  F_Frame_eq_ : Fun K "__eq__" "Frame.__eq__" s_Frame_eq_ A.a_Frame_eq_ A.fd_Frame_eq_
  b_Frame_eq_ : Binds K A.fd_Frame_eq_ ["self", "other"] []
  F_Frame_len_ : Fun K "__len__" "Frame.__len__" s_Frame_len_ A.a_Frame_len_ A.fd_Frame_len_
  b_Frame_len_ : Binds K A.fd_Frame_len_ ["self"] []
  F_Frame_repr_ : Fun K "__repr__" "Frame.__repr__" s_Frame_repr_ A.a_Frame_repr_ A.fd_Frame_repr_
  b_Frame_repr_ : Binds K A.fd_Frame_repr_ ["self"] []
  F_l_pool : Fun K "_law_pool" "_law_pool" s_l_pool A.a_l_pool A.fd_l_pool
  b_l_pool : Binds K A.fd_l_pool ["script", "k"] []
  g_l_pool : mg "_law_pool" = some (.ref A.a_l_pool)
  F_l_draw : Fun K "_law_draw" "_law_draw" s_l_draw A.a_l_draw A.fd_l_draw
  b_l_draw : Binds K A.fd_l_draw ["pool", "many"] []
  g_l_draw : mg "_law_draw" = some (.ref A.a_l_draw)
  F_l_numbered : Fun K "_law_numbered" "_law_numbered" s_l_numbered A.a_l_numbered A.fd_l_numbered
  b_l_numbered : Binds K A.fd_l_numbered ["height", "width", "start"] []
  g_l_numbered : mg "_law_numbered" = some (.ref A.a_l_numbered)
  F_l_random_lines : Fun K "_law_random_lines" "_law_random_lines" s_l_random_lines A.a_l_random_lines A.fd_l_random_lines
  b_l_random_lines : Binds K A.fd_l_random_lines ["pool", "many", "colours"] []
  g_l_random_lines : mg "_law_random_lines" = some (.ref A.a_l_random_lines)
  F_l_after : Fun K "_law_after" "_law_after" s_l_after A.a_l_after A.fd_l_after
  b_l_after : Binds K A.fd_l_after ["rows", "step"] []
  g_l_after : mg "_law_after" = some (.ref A.a_l_after)
  F_l_run : Fun K "_law_run" "_law_run" s_l_run A.a_l_run A.fd_l_run
  b_l_run : Binds K A.fd_l_run ["rows", "steps"] []
  g_l_run : mg "_law_run" = some (.ref A.a_l_run)
  F_l_shown : Fun K "_law_shown" "_law_shown" s_l_shown A.a_l_shown A.fd_l_shown
  b_l_shown : Binds K A.fd_l_shown ["lines"] []
  g_l_shown : mg "_law_shown" = some (.ref A.a_l_shown)
  F_l_changed : Fun K "_law_changed" "_law_changed" s_l_changed A.a_l_changed A.fd_l_changed
  b_l_changed : Binds K A.fd_l_changed ["pool", "lines", "colours"] []
  g_l_changed : mg "_law_changed" = some (.ref A.a_l_changed)
  F_law : Fun K "law" "law" s_law A.a_law A.fd_law
  g_SIDES : GlE K mg "SIDES" (.tup [.str "top", .str "right", .str "bottom", .str "left"])
  g_MOST_LINES : GlE K mg "MOST_LINES" (.int 200)
  h_SIDES : mg "SIDES" = some (.ref A.k_SIDES)
  l_SIDES : K.lookup A.k_SIDES = some A.o_SIDES
  lc_SIDES : A.o_SIDES.cls = .type "tuple"
  ld_SIDES : A.o_SIDES.dict = none
  q_SIDES : ∀ H, SqT K H A.k_SIDES (ys_SIDES.map V.str)
  mg_InvalidFrame : mg "InvalidFrame" = some (.ref A.c_InvalidFrame)
  ox_InvalidFrame : OexG K A.c_InvalidFrame
  oi_InvalidFrame : PySem.W.findIn K (.ref A.c_InvalidFrame) "__init__" = some (some (.ref A.a_InvalidFrame_init_))
  ot_InvalidFrame : PySem.W.typeIn K (.ref A.a_InvalidFrame_init_) = some (.type "function")
  no_InvalidFrame : PySem.W.findIn K (.ref A.c_InvalidFrame) "index" = some none
  mg_Frame : mg "Frame" = some (.ref A.c_Frame)
  cl_Frame : Cls K A.c_Frame
  mk_Frame : Mk K A.c_Frame A.a_Frame_init_
  is_Frame : IsiC K mg A.c_Frame (isC isc_Frame)
  na_Frame_lines : NoAttr K A.c_Frame "_lines"
  mt_Frame_order : Meth K A.c_Frame "order" A.a_Frame_order
  fn_Frame_eq_ : PySem.W.isFn K (.ref A.a_Frame_eq_) = true
  eq_Frame : PySem.W.findIn K (.ref A.c_Frame) "__eq__" = some (some (.ref A.a_Frame_eq_))
  ty_Frame : EqT K mg A.c_Frame (fun d => eqok "Frame" d = true)
  op_Frame_len_ : PySem.W.findIn K (.ref A.c_Frame) "__len__" = some (some (.ref A.a_Frame_len_))
  fn_Frame_len_ : PySem.W.isFn K (.ref A.a_Frame_len_) = true
  fn_Frame_repr_ : PySem.W.isFn K (.ref A.a_Frame_repr_) = true
  re_Frame : PySem.W.findIn K (.ref A.c_Frame) "__repr__" = some (some (.ref A.a_Frame_repr_))
  n_abs : mg "abs" = none
  n_all : mg "all" = none
  n_bool : mg "bool" = none
  n_enumerate : mg "enumerate" = none
  n_int : mg "int" = none
  n_isinstance : mg "isinstance" = none
  n_len : mg "len" = none
  n_list : mg "list" = none
  n_max : mg "max" = none
  n_min : mg "min" = none
  n_range : mg "range" = none
  n_repr : mg "repr" = none
  n_str : mg "str" = none
  n_sum : mg "sum" = none
  n_tuple : mg "tuple" = none
  n_zip : mg "zip" = none
section
variable {P : Program} {w : World} {K : PySem.W.Frag} {mg : Str → Option Value} {base : Heap} {A : Ad}
theorem ok_InvalidFrame_init_ (T : Tx w K mg base A) : FnOk P w K mg base CX0 1 A.a_InvalidFrame_init_ A.fd_InvalidFrame_init_ ["self", "index"] (spXI A.c_InvalidFrame "index") := by
  refine ok_xinitG T.F_InvalidFrame_init_ sc_InvalidFrame_init_ T.ox_InvalidFrame T.no_InvalidFrame fun X eK eN eS => ⟨tVar 0, tVar 1, pss_one ?_, fun u y H Q h => ⟨y, rfl, h⟩, fun u y H Q h => ⟨u, rfl, h⟩⟩
  subst eK
  exact ps_ostG (pe_var (by rw [eN]; rfl) (by rw [eS]; exact Or.inl rfl)) (pe_var (by rw [eN]; rfl) (by rw [eS]; exact Or.inl rfl)) (by first | rfl | (simp [swapsWith]))
theorem ok_is_whole (T : Tx w K mg base A) : FnG P w K mg base 2 A.a_is_whole A.fd_is_whole ["value"] (gF e_is_whole) := by
  refine fnF_mk (fs := p_is_whole) T.F_is_whole sc_is_whole fun Φ cdv A' outer s H E iΦ hr => ?_
  exact (fss_one (fs_ret (fe_and (fe_isi (t := .int) rfl (by rfl) T.n_isinstance (fe_var 0) (pe_tyn (T := "int") (by rfl) T.n_int (by decide +kernel))) (fe_one (fe_not (fe_isi (t := .bool) rfl (by rfl) T.n_isinstance (fe_var 0) (pe_tyn (T := "bool") (by rfl) T.n_bool (by decide +kernel))))))))
theorem ok_is_count (T : Tx w K mg base A) : FnG P w K mg base 4 A.a_is_count A.fd_is_count ["value"] (gF e_is_count) := by
  refine fnF_mk (fs := p_is_count) T.F_is_count sc_is_count fun Φ cdv A' outer s H E iΦ hr => ?_
  exact (fss_one (fs_ret (fe_and (fe_call (ok_is_whole T) (hr.mono (by decide)) (by rfl) T.g_is_whole T.F_is_whole.kp T.b_is_whole .nil (fun _ => .nil) (takes_of rfl rfl rfl rfl) (fa_cons (fe_var 0) fa_nil)) (fe_one (fe_cmp o_ge ow_ge (fe_var 0) fe_int)))))
theorem ok_is_colour (T : Tx w K mg base A) : FnG P w K mg base 6 A.a_is_colour A.fd_is_colour ["value"] (gF e_is_colour) := by
  refine fnF_mk (fs := p_is_colour) T.F_is_colour sc_is_colour fun Φ cdv A' outer s H E iΦ hr => ?_
  exact (fss_one (fs_ret (fe_call (ok_is_count T) (hr.mono (by decide)) (by rfl) T.g_is_count T.F_is_count.kp T.b_is_count .nil (fun _ => .nil) (takes_of rfl rfl rfl rfl) (fa_cons (fe_var 0) fa_nil))))
theorem ok_is_side (T : Tx w K mg base A) : FnG P w K mg base 2 A.a_is_side A.fd_is_side ["value"] (gF e_is_side) := by
  refine fnF_mk (fs := p_is_side) T.F_is_side sc_is_side fun Φ cdv A' outer s H E iΦ hr => ?_
  exact (fss_one (fs_ret (fe_and (fe_isi (t := .str) rfl (by rfl) T.n_isinstance (fe_var 0) (pe_tyn (T := "str") (by rfl) T.n_str (by decide +kernel))) (fe_one (fe_cmp o_in ow_in (fe_var 0) (fe_globE (by rfl) T.g_SIDES))))))
theorem ok_is_line (T : Tx w K mg base A) : FnG P w K mg base 8 A.a_is_line A.fd_is_line ["value"] (gF e_is_line) := by
  refine fnF_mk (fs := p_is_line) T.F_is_line sc_is_line fun Φ cdv A' outer s H E iΦ hr => ?_
  exact (fss_one (fs_ret (fe_and (fe_isi (t := .tuple) rfl (by rfl) T.n_isinstance (fe_var 0) (pe_tyn (T := "tuple") (by rfl) T.n_tuple (by decide +kernel))) (fe_and (fe_cmp (o_eq' hr.units) ow_eq (fe_callB (f_len) lw_len (by rfl) T.n_len (by decide +kernel) (fa_cons (fe_var 0) fa_nil)) fe_int) (fe_and (fe_call (ok_is_side T) (hr.mono (by decide)) (by rfl) T.g_is_side T.F_is_side.kp T.b_is_side .nil (fun _ => .nil) (takes_of rfl rfl rfl rfl) (fa_cons (fe_ix x_seq ow_ix (fe_var 0) fe_int) fa_nil)) (fe_one (fe_call (ok_is_colour T) (hr.mono (by decide)) (by rfl) T.g_is_colour T.F_is_colour.kp T.b_is_colour .nil (fun _ => .nil) (takes_of rfl rfl rfl rfl) (fa_cons (fe_ix x_seq ow_ix (fe_var 0) fe_int) fa_nil))))))))
theorem ok_check_lines (T : Tx w K mg base A) : FnG P w K mg base 10 A.a_check_lines A.fd_check_lines ["lines"] (gF e_check_lines) := by
  refine fnF_mk (fs := p_check_lines) T.F_check_lines sc_check_lines fun Φ cdv A' outer s H E iΦ hr => ?_
  exact (fss_cons (fs_if (FW.ft (fw_or (ft_not (ft_val (fe_isiT (ts := [.list, .tuple]) (by rfl) T.n_isinstance (fe_var 0) (pa_cons (pe_tyn (by rfl) T.n_list (by decide +kernel)) (pa_cons (pe_tyn (by rfl) T.n_tuple (by decide +kernel)) pa_nil)) (fun _ _ _ h => h) (by decide)))) (fw_or1 (ft_cmp o_gt ow_gt (fe_callB (f_len) lw_len (by rfl) T.n_len (by decide +kernel) (fa_cons (fe_var 0) fa_nil)) (fe_globE (by rfl) T.g_MOST_LINES))))) (fss_one (fs_raise T.ox_InvalidFrame T.oi_InvalidFrame T.ot_InvalidFrame (ok_InvalidFrame_init_ T) (hr.mono (by decide : 2 ≤ _)) T.b_InvalidFrame_init_ (by rfl) T.mg_InvalidFrame rfl (takes_of rfl rfl rfl rfl) (fa_cons fe_non fa_nil))) fss_nil) (fss_one (fs_for (passes_of rfl) rfl (fi_enum (by rfl) T.n_enumerate (fe_var 0)) (fg_tup rfl (fgs_cons (fg_name (i := 1) sc_check_lines.nd rfl (by first | exact Or.inl rfl | exact Or.inr rfl)) (fgs_cons (fg_name (i := 2) sc_check_lines.nd rfl (by first | exact Or.inl rfl | exact Or.inr rfl)) fgs_nil))) (fss_one (fs_if (ft_not (ft_val (fe_call (ok_is_line T) (hr.mono (by decide)) (by rfl) T.g_is_line T.F_is_line.kp T.b_is_line .nil (fun _ => .nil) (takes_of rfl rfl rfl rfl) (fa_cons (fe_var 2) fa_nil)))) (fss_one (fs_raise T.ox_InvalidFrame T.oi_InvalidFrame T.ot_InvalidFrame (ok_InvalidFrame_init_ T) (hr.mono (by decide : 2 ≤ _)) T.b_InvalidFrame_init_ (by rfl) T.mg_InvalidFrame rfl (takes_of rfl rfl rfl rfl) (fa_cons (fe_var 1) fa_nil))) fss_nil)))))
theorem ok_number_of_last_unlike (T : Tx w K mg base A) : FnG P w K mg base 2 A.a_number_of_last_unlike A.fd_number_of_last_unlike ["colours", "colour"] (gF e_number_of_last_unlike) := by
  refine fnF_mk (fs := p_number_of_last_unlike) T.F_number_of_last_unlike sc_number_of_last_unlike fun Φ cdv A' outer s H E iΦ hr => ?_
  exact (fss_cons (fs_set (i := 2) sc_number_of_last_unlike.nd rfl (by first | exact Or.inl rfl | exact Or.inr rfl) (fe_lenO (by rfl) T.n_len (by decide +kernel) (fe_var 0))) (fss_cons (fs_while (passes_of rfl) (FW.ft (fw_and (ft_cmp o_gt ow_gt (fe_var 2) fe_int) (fw_and1 (ft_cmp (o_eq' hr.units) ow_eq (fe_ixO (fe_var 0) (fe_bin o_sub ow_sub (fe_var 2) fe_int)) (fe_var 1))))) (fss_one (fs_augN (i := 2) sc_number_of_last_unlike.nd rfl (by first | exact Or.inl rfl | exact Or.inr rfl) ip_subO fe_int))) (fss_one (fs_ret (fe_var 2)))))
theorem ok_waiting_lines (T : Tx w K mg base A) : FnG P w K mg base 4 A.a_waiting_lines A.fd_waiting_lines ["lines"] (gF e_waiting_lines) := by
  refine fnF_mk (fs := p_waiting_lines) T.F_waiting_lines sc_waiting_lines fun Φ cdv A' outer s H E iΦ hr => ?_
  exact (fss_cons (fs_set (i := 1) sc_waiting_lines.nd rfl (by first | exact Or.inl rfl | exact Or.inr rfl) (fe_lstO (fa_cons (fe_lstO fa_nil) (fa_cons (fe_lstO fa_nil) (fa_cons (fe_lstO fa_nil) (fa_cons (fe_lstO fa_nil) fa_nil)))))) (fss_cons (fs_set (i := 2) sc_waiting_lines.nd rfl (by first | exact Or.inl rfl | exact Or.inr rfl) (fe_lstO (fa_cons (fe_lstO fa_nil) (fa_cons (fe_lstO fa_nil) (fa_cons (fe_lstO fa_nil) (fa_cons (fe_lstO fa_nil) fa_nil)))))) (fss_cons (fs_for (passes_of rfl) rfl (fi_seq (fe_var 0)) (fg_tup rfl (fgs_cons (fg_name (i := 3) sc_waiting_lines.nd rfl (by first | exact Or.inl rfl | exact Or.inr rfl)) (fgs_cons (fg_name (i := 4) sc_waiting_lines.nd rfl (by first | exact Or.inl rfl | exact Or.inr rfl)) fgs_nil))) (fss_cons (fs_set (i := 5) sc_waiting_lines.nd rfl (by first | exact Or.inl rfl | exact Or.inr rfl) (fe_tidx (ys := ys_SIDES) (by rfl) T.h_SIDES T.l_SIDES T.lc_SIDES T.ld_SIDES T.q_SIDES (fe_var 3))) (fss_cons (fs_set (i := 6) sc_waiting_lines.nd rfl (by first | exact Or.inl rfl | exact Or.inr rfl) (fe_lstO (fa_cons fe_int (fa_cons fe_int (fa_cons fe_int (fa_cons fe_int fa_nil)))))) (fss_cons (fs_for (passes_of rfl) rfl (fi_seq (fe_tup (fa_cons (fe_bin o_mod ow_mod (fe_bin o_add ow_add (fe_var 5) fe_int) fe_int) (fa_cons (fe_bin o_mod ow_mod (fe_bin o_add ow_add (fe_var 5) fe_int) fe_int) fa_nil)))) (fg_name (i := 7) sc_waiting_lines.nd rfl (by first | exact Or.inl rfl | exact Or.inr rfl)) (fss_one (fs_asgSub (fe_call (ok_number_of_last_unlike T) (hr.mono (by decide)) (by rfl) T.g_number_of_last_unlike T.F_number_of_last_unlike.kp T.b_number_of_last_unlike .nil (fun _ => .nil) (takes_of rfl rfl rfl rfl) (fa_cons (fe_ixO (fe_var 1) (fe_var 7)) (fa_cons (fe_var 4) fa_nil))) (fg_subO (fe_var 6) (fe_var 7))))) (fss_cons (fs_expr (fe_app (fe_ixO (fe_var 1) (fe_var 5)) (fe_var 4))) (fss_one (fs_expr (fe_app (fe_ixO (fe_var 2) (fe_var 5)) (fe_tup (fa_cons (fe_tup (fa_cons (fe_var 3) (fa_cons (fe_var 4) fa_nil))) (fa_cons (fe_var 6) fa_nil))))))))))) (fss_one (fs_ret (fe_frzD (fe_var 2)))))))
theorem ok_next_lines (T : Tx w K mg base A) : FnG P w K mg base 2 A.a_next_lines A.fd_next_lines ["waiting", "placed"] (gF e_next_lines) := by
  refine fnF_mk (fs := p_next_lines) T.F_next_lines sc_next_lines fun Φ cdv A' outer s H E iΦ hr => ?_
  exact (fss_cons (fs_set (i := 2) sc_next_lines.nd rfl (by first | exact Or.inl rfl | exact Or.inr rfl) (fe_lstO fa_nil)) (fss_cons (fs_for (passes_of rfl) rfl (fi_enum (by rfl) T.n_enumerate (fe_var 0)) (fg_tup rfl (fgs_cons (fg_name (i := 3) sc_next_lines.nd rfl (by first | exact Or.inl rfl | exact Or.inr rfl)) (fgs_cons (fg_name (i := 4) sc_next_lines.nd rfl (by first | exact Or.inl rfl | exact Or.inr rfl)) fgs_nil))) (fss_cons (fs_if (ft_cmp (o_eq' hr.units) ow_eq (fe_ix x_seq ow_ix (fe_var 1) (fe_var 3)) (fe_callB (f_len) lw_len (by rfl) T.n_len (by decide +kernel) (fa_cons (fe_var 4) fa_nil))) (fss_one fs_continue) fss_nil) (fss_cons (fs_asg (fe_ix x_seq ow_ix (fe_var 4) (fe_ix x_seq ow_ix (fe_var 1) (fe_var 3))) (fg_tup rfl (fgs_cons (fg_name (i := 5) sc_next_lines.nd rfl (by first | exact Or.inl rfl | exact Or.inr rfl)) (fgs_cons (fg_name (i := 6) sc_next_lines.nd rfl (by first | exact Or.inl rfl | exact Or.inr rfl)) fgs_nil)))) (fss_one (fs_if (ft_val (fe_callB (f_all rfl) lw_all (by rfl) T.n_all (by decide +kernel) (fa_cons (fe_lc rfl sc_next_lines.nd (own := [("need", 7), ("there", 8)]) (fi_zip (by rfl) T.n_zip (fa_cons (fe_var 6) (fa_cons (fe_var 1) fa_nil))) (blkOk_by (N := ["waiting", "placed", "following", "here", "queue", "line", "needs", "need", "there"]) (sc := defScope s_next_lines) (by decide +kernel)) (fun _ _ _ _ _ _ _ => (fg_tupB rfl (fgs_cons (fg_name (i := 7) sc_next_lines.nd rfl (by first | exact Or.inl rfl | exact Or.inr rfl)) (fgs_cons (fg_name (i := 8) sc_next_lines.nd rfl (by first | exact Or.inl rfl | exact Or.inr rfl)) fgs_nil)))) (fun _ _ _ _ _ _ _ => fts_nil) (fun _ _ _ _ _ _ _ => (fe_cmp o_le ow_le (fe_var 7) (fe_var 8)))) fa_nil))) (fss_one (fs_expr (fe_app (fe_var 2) (fe_tup (fa_cons (fe_var 5) (fa_cons (fe_tup (fa_star (fe_sl (fe_var 1) fo_none (fo_some (fe_var 3))) (fa_cons (fe_bin o_add ow_add (fe_ix x_seq ow_ix (fe_var 1) (fe_var 3)) fe_int) (fa_star (fe_sl (fe_var 1) (fo_some (fe_bin o_add ow_add (fe_var 3) fe_int)) fo_none) fa_nil)))) fa_nil)))))) fss_nil))))) (fss_one (fs_ret (fe_frz (fe_var 2))))))
theorem ok_least_order (T : Tx w K mg base A) : FnG P w K mg base 6 A.a_least_order A.fd_least_order ["lines"] (gF e_least_order) := by
  refine fnF_mk (fs := p_least_order) T.F_least_order sc_least_order fun Φ cdv A' outer s H E iΦ hr => ?_
  exact (fss_cons (fs_set (i := 1) sc_least_order.nd rfl (by first | exact Or.inl rfl | exact Or.inr rfl) (fe_call (ok_waiting_lines T) (hr.mono (by decide)) (by rfl) T.g_waiting_lines T.F_waiting_lines.kp T.b_waiting_lines .nil (fun _ => .nil) (takes_of rfl rfl rfl rfl) (fa_cons (fe_var 0) fa_nil))) (fss_cons (fs_set (i := 2) sc_least_order.nd rfl (by first | exact Or.inl rfl | exact Or.inr rfl) (fe_tup (fa_cons fe_int (fa_cons fe_int (fa_cons fe_int (fa_cons fe_int fa_nil)))))) (fss_cons (fs_set (i := 3) sc_least_order.nd rfl (by first | exact Or.inl rfl | exact Or.inr rfl) (fe_lstO fa_nil)) (fss_cons (fs_for (passes_of rfl) rfl (fi_range1 (by rfl) T.n_range (fa_cons (fe_callB (f_len) lw_len (by rfl) T.n_len (by decide +kernel) (fa_cons (fe_var 0) fa_nil)) fa_nil)) (fg_name (i := 4) sc_least_order.nd rfl (by first | exact Or.inl rfl | exact Or.inr rfl)) (fss_cons (fs_asg (fe_ix x_seq ow_ix (fe_call (ok_next_lines T) (hr.mono (by decide)) (by rfl) T.g_next_lines T.F_next_lines.kp T.b_next_lines .nil (fun _ => .nil) (takes_of rfl rfl rfl rfl) (fa_cons (fe_var 1) (fa_cons (fe_var 2) fa_nil))) fe_int) (fg_tup rfl (fgs_cons (fg_name (i := 5) sc_least_order.nd rfl (by first | exact Or.inl rfl | exact Or.inr rfl)) (fgs_cons (fg_name (i := 2) sc_least_order.nd rfl (by first | exact Or.inl rfl | exact Or.inr rfl)) fgs_nil)))) (fss_one (fs_expr (fe_app (fe_var 3) (fe_var 5)))))) (fss_one (fs_ret (fe_callTy f_tuple lw_tuple (by rfl) T.n_tuple (by decide +kernel) (fa_cons (fe_frz (fe_var 3)) fa_nil))))))))
theorem ok_Frame_init_ (T : Tx w K mg base A) : FnG P w K mg base 12 A.a_Frame_init_ A.fd_Frame_init_ ["self", "lines"] (gF e_Frame_init_) := by
  refine fnF_mk (fs := p_Frame_init_) T.F_Frame_init_ sc_Frame_init_ fun Φ cdv A' outer s H E iΦ hr => ?_
  exact (fss_cons (fs_expr (fe_call (ok_check_lines T) (hr.mono (by decide)) (by rfl) T.g_check_lines T.F_check_lines.kp T.b_check_lines .nil (fun _ => .nil) (takes_of rfl rfl rfl rfl) (fa_cons (fe_var 1) fa_nil))) (fss_one (fs_fld T.cl_Frame T.mg_Frame T.na_Frame_lines (fe_var 0) (fe_call (ok_least_order T) (hr.mono (by decide)) (by rfl) T.g_least_order T.F_least_order.kp T.b_least_order .nil (fun _ => .nil) (takes_of rfl rfl rfl rfl) (fa_cons (fe_var 1) fa_nil)))))
theorem ok_Frame_order (T : Tx w K mg base A) : FnG P w K mg base 2 A.a_Frame_order A.fd_Frame_order ["self"] (gF e_Frame_order) := by
  refine fnF_mk (fs := p_Frame_order) T.F_Frame_order sc_Frame_order fun Φ cdv A' outer s H E iΦ hr => ?_
  exact (fss_one (fs_ret (fe_callTy f_listF lw_listF (by rfl) T.n_list (by decide +kernel) (fa_cons (fe_fld T.cl_Frame T.mg_Frame T.na_Frame_lines (fe_var 0)) fa_nil))))
theorem ok_Frame_eq_ (T : Tx w K mg base A) : FnG P w K mg base 2 A.a_Frame_eq_ A.fd_Frame_eq_ ["self", "other"] (gF e_Frame_eq_) := by
  refine fnF_mk (fs := p_Frame_eq_) T.F_Frame_eq_ sc_Frame_eq_ fun Φ cdv A' outer s H E iΦ hr => ?_
  exact (fss_one (fs_ret (fe_and (fe_isiC T.is_Frame (by rfl) T.n_isinstance (by rfl) T.mg_Frame (fe_var 1)) (fe_one (fe_cmp (o_eq' hr.units) ow_eq (fe_fld T.cl_Frame T.mg_Frame T.na_Frame_lines (fe_var 0)) (fe_fld T.cl_Frame T.mg_Frame T.na_Frame_lines (fe_var 1)))))))
theorem ok_Frame_len_ (T : Tx w K mg base A) : FnG P w K mg base 2 A.a_Frame_len_ A.fd_Frame_len_ ["self"] (gF e_Frame_len_) := by
  refine fnF_mk (fs := p_Frame_len_) T.F_Frame_len_ sc_Frame_len_ fun Φ cdv A' outer s H E iΦ hr => ?_
  exact (fss_one (fs_ret (fe_callB (f_len) lw_len (by rfl) T.n_len (by decide +kernel) (fa_cons (fe_fld T.cl_Frame T.mg_Frame T.na_Frame_lines (fe_var 0)) fa_nil))))
theorem ok_Frame_repr_ (T : Tx w K mg base A) : FnG P w K mg base 2 A.a_Frame_repr_ A.fd_Frame_repr_ ["self"] (gF e_Frame_repr_) := by
  refine fnF_mk (fs := p_Frame_repr_) T.F_Frame_repr_ sc_Frame_repr_ fun Φ cdv A' outer s H E iΦ hr => ?_
  exact (fss_one (fs_ret (fe_join (fj_cons fe_str (fj_cons (fe_show T.mods hr.gd hr.units (fe_callTy f_listF lw_listF (by rfl) T.n_list (by decide +kernel) (fa_cons (fe_fld T.cl_Frame T.mg_Frame T.na_Frame_lines (fe_var 0)) fa_nil))) (fj_cons fe_str fj_nil))))))
theorem ok_l_pool (T : Tx w K mg base A) : FnG P w K mg base 2 A.a_l_pool A.fd_l_pool ["script", "k"] (gF e_l_pool) := by
  refine fnF_mk (fs := p_l_pool) T.F_l_pool sc_l_pool fun Φ cdv A' outer s H E iΦ hr => ?_
  exact (fss_cons (fs_set (i := 2) sc_l_pool.nd rfl (by first | exact Or.inl rfl | exact Or.inr rfl) (fe_bin o_add ow_add (fe_bin o_mul1 ow_mul1 fe_int (fe_callB (f_sum rfl) lw_sum (by rfl) T.n_sum (by decide +kernel) (fa_cons (fe_sl (fe_var 0) fo_none (fo_some fe_int)) fa_nil))) (fe_var 1))) (fss_cons (fs_if (ft_cmp o_lt ow_lt (fe_var 1) (fe_callB (f_len) lw_len (by rfl) T.n_len (by decide +kernel) (fa_cons (fe_var 0) fa_nil))) (fss_one (fs_set (i := 2) sc_l_pool.nd rfl (by first | exact Or.inl rfl | exact Or.inr rfl) (fe_ix x_seq ow_ix (fe_var 0) (fe_var 1)))) fss_nil) (fss_cons (fs_set (i := 3) sc_l_pool.nd rfl (by first | exact Or.inl rfl | exact Or.inr rfl) (fe_callB (f_abs) lw_abs (by rfl) T.n_abs (by decide +kernel) (fa_cons (fe_var 2) fa_nil))) (fss_cons (fs_set (i := 4) sc_l_pool.nd rfl (by first | exact Or.inl rfl | exact Or.inr rfl) (fe_bin o_mod ow_mod (fe_bin o_mul1 ow_mul1 (fe_bin o_add ow_add (fe_bin o_add ow_add (fe_bin o_add ow_add (fe_bin o_mod ow_mod (fe_var 3) fe_int) (fe_bin o_mul1 ow_mul1 (fe_bin o_mul1 ow_mul1 fe_int (fe_var 1)) (fe_var 1))) (fe_bin o_mul1 ow_mul1 fe_int (fe_var 1))) fe_int) fe_int) fe_int)) (fss_one (fs_ret (fe_lstO (fa_cons (fe_bin o_mul1 ow_mul1 (fe_var 3) (fe_callTy f_int lw_int (by rfl) T.n_int (by decide +kernel) (fa_cons (fe_cmp o_ge ow_ge (fe_var 3) (fe_bin o_pow ow_pow fe_int fe_int)) fa_nil))) (fa_cons (fe_bin o_mod ow_mod (fe_bin o_mul1 ow_mul1 (fe_var 4) (fe_var 4)) fe_int) fa_nil)))))))))
theorem ok_l_draw (T : Tx w K mg base A) : FnG P w K mg base 2 A.a_l_draw A.fd_l_draw ["pool", "many"] (gF e_l_draw) := by
  refine fnF_mk (fs := p_l_draw) T.F_l_draw sc_l_draw fun Φ cdv A' outer s H E iΦ hr => ?_
  exact (fss_cons (fs_if (ft_cmp o_gt ow_gt (fe_ixO (fe_var 0) fe_int) fe_int) (fss_cons (fs_set (i := 2) sc_l_draw.nd rfl (by first | exact Or.inl rfl | exact Or.inr rfl) (fe_bin o_mod ow_mod (fe_ixO (fe_var 0) fe_int) (fe_var 1))) (fss_cons (fs_asgSub (fe_bin o_div ow_div (fe_ixO (fe_var 0) fe_int) (fe_var 1)) (fg_subO (fe_var 0) fe_int)) (fss_one (fs_ret (fe_var 2))))) fss_nil) (fss_cons (fs_asgSub (fe_bin o_mod ow_mod (fe_bin o_add ow_add (fe_bin o_mul1 ow_mul1 (fe_ixO (fe_var 0) fe_int) fe_int) fe_int) fe_int) (fg_subO (fe_var 0) fe_int)) (fss_one (fs_ret (fe_bin o_mod ow_mod (fe_bin o_div ow_div (fe_bin o_mod ow_mod (fe_bin o_mul1 ow_mul1 (fe_ixO (fe_var 0) fe_int) (fe_ixO (fe_var 0) fe_int)) fe_int) fe_int) (fe_var 1))))))
theorem ok_l_numbered (T : Tx w K mg base A) : FnG P w K mg base 2 A.a_l_numbered A.fd_l_numbered ["height", "width", "start"] (gF e_l_numbered) := by
  refine fnF_mk (fs := p_l_numbered) T.F_l_numbered sc_l_numbered fun Φ cdv A' outer s H E iΦ hr => ?_
  exact (fss_one (fs_ret (fe_lc rfl sc_l_numbered.nd (own := [("row", 3)]) (fi_range1 (by rfl) T.n_range (fa_cons (fe_var 0) fa_nil)) (blkOk_by (N := ["height", "width", "start", "row", "column"]) (sc := defScope s_l_numbered) (by decide +kernel)) (fun _ _ _ _ _ _ _ => (fg_name (i := 3) sc_l_numbered.nd rfl (by first | exact Or.inl rfl | exact Or.inr rfl))) (fun _ _ _ _ _ _ _ => fts_nil) (fun _ _ _ _ _ _ _ => (fe_lc rfl sc_l_numbered.nd (own := [("column", 4)]) (fi_range1 (by rfl) T.n_range (fa_cons (fe_var 1) fa_nil)) (blkOk_in (N := ["height", "width", "start", "row", "column"]) (sc0 := defScope s_l_numbered) (by decide +kernel)) (fun _ _ _ _ _ _ _ => (fg_name (i := 4) sc_l_numbered.nd rfl (by first | exact Or.inl rfl | exact Or.inr rfl))) (fun _ _ _ _ _ _ _ => fts_nil) (fun _ _ _ _ _ _ _ => (fe_bin o_add ow_add (fe_bin o_add ow_add (fe_var 2) (fe_bin o_mul1 ow_mul1 (fe_var 3) (fe_var 1))) (fe_var 4))))))))
theorem ok_l_random_lines (T : Tx w K mg base A) : FnG P w K mg base 4 A.a_l_random_lines A.fd_l_random_lines ["pool", "many", "colours"] (gF e_l_random_lines) := by
  refine fnF_mk (fs := p_l_random_lines) T.F_l_random_lines sc_l_random_lines fun Φ cdv A' outer s H E iΦ hr => ?_
  exact (fss_cons (fs_set (i := 3) sc_l_random_lines.nd rfl (by first | exact Or.inl rfl | exact Or.inr rfl) (fe_lstO fa_nil)) (fss_cons (fs_for (passes_of rfl) rfl (fi_range1 (by rfl) T.n_range (fa_cons (fe_var 1) fa_nil)) (fg_name (i := 4) sc_l_random_lines.nd rfl (by first | exact Or.inl rfl | exact Or.inr rfl)) (fss_cons (fs_set (i := 5) sc_l_random_lines.nd rfl (by first | exact Or.inl rfl | exact Or.inr rfl) (fe_ix x_seq ow_ix (fe_lst (fa_cons fe_str (fa_cons fe_str (fa_cons fe_str (fa_cons fe_str fa_nil))))) (fe_call (ok_l_draw T) (hr.mono (by decide)) (by rfl) T.g_l_draw T.F_l_draw.kp T.b_l_draw .nil (fun _ => .nil) (takes_of rfl rfl rfl rfl) (fa_cons (fe_var 0) (fa_cons fe_int fa_nil))))) (fss_one (fs_expr (fe_app (fe_var 3) (fe_tup (fa_cons (fe_var 5) (fa_cons (fe_call (ok_l_draw T) (hr.mono (by decide)) (by rfl) T.g_l_draw T.F_l_draw.kp T.b_l_draw .nil (fun _ => .nil) (takes_of rfl rfl rfl rfl) (fa_cons (fe_var 0) (fa_cons (fe_var 2) fa_nil))) fa_nil)))))))) (fss_one (fs_ret (fe_frz (fe_var 3))))))
theorem ok_l_after (T : Tx w K mg base A) : FnG P w K mg base 2 A.a_l_after A.fd_l_after ["rows", "step"] (gF e_l_after) := by
  refine fnF_mk (fs := p_l_after) T.F_l_after sc_l_after fun Φ cdv A' outer s H E iΦ hr => ?_
  exact (fss_cons (fs_set (i := 2) sc_l_after.nd rfl (by first | exact Or.inl rfl | exact Or.inr rfl) (fe_callB (f_len) lw_len (by rfl) T.n_len (by decide +kernel) (fa_cons (fe_ix x_seq ow_ix (fe_var 0) fe_int) fa_nil))) (fss_cons (fs_if (ft_cmp (o_eq' hr.units) ow_eq (fe_ix x_seq ow_ix (fe_var 1) fe_int) fe_str) (fss_one (fs_ret (fe_lc rfl sc_l_after.nd (own := [("column", 6)]) (fi_range1 (by rfl) T.n_range (fa_cons (fe_var 2) fa_nil)) (blkOk_by (N := ["rows", "step", "width", "top", "left", "row", "column"]) (sc := defScope s_l_after) (by decide +kernel)) (fun _ _ _ _ _ _ _ => (fg_name (i := 6) sc_l_after.nd rfl (by first | exact Or.inl rfl | exact Or.inr rfl))) (fun _ _ _ _ _ _ _ => fts_nil) (fun _ _ _ _ _ _ _ => (fe_lc rfl sc_l_after.nd (own := [("row", 5)]) (fi_seq (fe_back (fe_var 0))) (blkOk_in (N := ["rows", "step", "width", "top", "left", "row", "column"]) (sc0 := defScope s_l_after) (by decide +kernel)) (fun _ _ _ _ _ _ _ => (fg_name (i := 5) sc_l_after.nd rfl (by first | exact Or.inl rfl | exact Or.inr rfl))) (fun _ _ _ _ _ _ _ => fts_nil) (fun _ _ _ _ _ _ _ => (fe_ix x_seq ow_ix (fe_var 5) (fe_var 6)))))))) fss_nil) (fss_cons (fs_if (ft_cmp (o_eq' hr.units) ow_eq (fe_ix x_seq ow_ix (fe_var 1) fe_int) fe_str) (fss_one (fs_ret (fe_lc rfl sc_l_after.nd (own := [("row", 5)]) (fi_seq (fe_var 0)) (blkOk_by (N := ["rows", "step", "width", "top", "left", "row", "column"]) (sc := defScope s_l_after) (by decide +kernel)) (fun _ _ _ _ _ _ _ => (fg_name (i := 5) sc_l_after.nd rfl (by first | exact Or.inl rfl | exact Or.inr rfl))) (fun _ _ _ _ _ _ _ => fts_nil) (fun _ _ _ _ _ _ _ => (fe_back (fe_var 5)))))) fss_nil) (fss_cons (fs_if (ft_cmp o_in ow_in (fe_ix x_seq ow_ix (fe_var 1) fe_int) (fe_tup (fa_cons fe_str (fa_cons fe_str fa_nil)))) (fss_cons (fs_set (i := 3) sc_l_after.nd rfl (by first | exact Or.inl rfl | exact Or.inr rfl) (fe_cmp (o_eq' hr.units) ow_eq (fe_ix x_seq ow_ix (fe_var 1) fe_int) fe_str)) (fss_cons (fs_if (ft_cmp (o_eq' hr.units) ow_eq (fe_ix x_seq ow_ix (fe_var 1) fe_int) fe_str) (fss_one (fs_ret (fe_if (ft_cmp o_gt ow_gt (fe_callB (f_len) lw_len (by rfl) T.n_len (by decide +kernel) (fa_cons (fe_var 0) fa_nil)) fe_int) (fe_if (ft_val (fe_var 3)) (fe_sl (fe_var 0) (fo_some fe_int) fo_none) (fe_sl (fe_var 0) fo_none (fo_some (fe_neg fe_int)))) fe_non))) fss_nil) (fss_one (fs_ret (fe_if (ft_val (fe_var 3)) (fe_bin o_add ow_add (fe_lst (fa_cons (fe_bin o_mul1 ow_mul1 (fe_lst (fa_cons (fe_ix x_seq ow_ix (fe_var 1) fe_int) fa_nil)) (fe_var 2)) fa_nil)) (fe_var 0)) (fe_bin o_add ow_add (fe_var 0) (fe_lst (fa_cons (fe_bin o_mul1 ow_mul1 (fe_lst (fa_cons (fe_ix x_seq ow_ix (fe_var 1) fe_int) fa_nil)) (fe_var 2)) fa_nil)))))))) fss_nil) (fss_cons (fs_set (i := 4) sc_l_after.nd rfl (by first | exact Or.inl rfl | exact Or.inr rfl) (fe_cmp (o_eq' hr.units) ow_eq (fe_ix x_seq ow_ix (fe_var 1) fe_int) fe_str)) (fss_cons (fs_if (ft_cmp (o_eq' hr.units) ow_eq (fe_ix x_seq ow_ix (fe_var 1) fe_int) fe_str) (fss_one (fs_ret (fe_if (ft_cmp o_gt ow_gt (fe_var 2) fe_int) (fe_lc rfl sc_l_after.nd (own := [("row", 5)]) (fi_seq (fe_var 0)) (blkOk_by (N := ["rows", "step", "width", "top", "left", "row", "column"]) (sc := defScope s_l_after) (by decide +kernel)) (fun _ _ _ _ _ _ _ => (fg_name (i := 5) sc_l_after.nd rfl (by first | exact Or.inl rfl | exact Or.inr rfl))) (fun _ _ _ _ _ _ _ => fts_nil) (fun _ _ _ _ _ _ _ => (fe_if (ft_val (fe_var 4)) (fe_sl (fe_var 5) (fo_some fe_int) fo_none) (fe_sl (fe_var 5) fo_none (fo_some (fe_neg fe_int)))))) fe_non))) fss_nil) (fss_one (fs_ret (fe_lc rfl sc_l_after.nd (own := [("row", 5)]) (fi_seq (fe_var 0)) (blkOk_by (N := ["rows", "step", "width", "top", "left", "row", "column"]) (sc := defScope s_l_after) (by decide +kernel)) (fun _ _ _ _ _ _ _ => (fg_name (i := 5) sc_l_after.nd rfl (by first | exact Or.inl rfl | exact Or.inr rfl))) (fun _ _ _ _ _ _ _ => fts_nil) (fun _ _ _ _ _ _ _ => (fe_if (ft_val (fe_var 4)) (fe_bin o_add ow_add (fe_lst (fa_cons (fe_ix x_seq ow_ix (fe_var 1) fe_int) fa_nil)) (fe_var 5)) (fe_bin o_add ow_add (fe_var 5) (fe_lst (fa_cons (fe_ix x_seq ow_ix (fe_var 1) fe_int) fa_nil))))))))))))))
theorem ok_l_run (T : Tx w K mg base A) : FnG P w K mg base 4 A.a_l_run A.fd_l_run ["rows", "steps"] (gF e_l_run) := by
  refine fnF_mk (fs := p_l_run) T.F_l_run sc_l_run fun Φ cdv A' outer s H E iΦ hr => ?_
  exact (fss_cons (fs_for (passes_of rfl) rfl (fi_enum (by rfl) T.n_enumerate (fe_var 1)) (fg_tup rfl (fgs_cons (fg_name (i := 2) sc_l_run.nd rfl (by first | exact Or.inl rfl | exact Or.inr rfl)) (fgs_cons (fg_name (i := 3) sc_l_run.nd rfl (by first | exact Or.inl rfl | exact Or.inr rfl)) fgs_nil))) (fss_cons (fs_set (i := 0) sc_l_run.nd rfl (by first | exact Or.inl rfl | exact Or.inr rfl) (fe_call (ok_l_after T) (hr.mono (by decide)) (by rfl) T.g_l_after T.F_l_after.kp T.b_l_after .nil (fun _ => .nil) (takes_of rfl rfl rfl rfl) (fa_cons (fe_var 0) (fa_cons (fe_var 3) fa_nil)))) (fss_one (fs_if (ft_cmp o_isN ow_isN (fe_var 0) fe_non) (fss_one (fs_ret (fe_lst (fa_cons fe_non (fa_cons (fe_var 2) fa_nil))))) fss_nil)))) (fss_one (fs_ret (fe_lst (fa_cons (fe_var 0) (fa_cons fe_non fa_nil))))))
def p_l_shown : fS := (fRet (fBin oIx (fCall e_l_run 2 [] (fCons (fCall e_l_numbered 3 [] (fCons (fC (.int 2)) (fCons (fC (.int 2)) (fCons (fC (.int 100)) fNil)))) (fCons (fLc (iSq (fVar 0)) (fGn 1) fYes (fBin oAdd (fTup (fCons (fC (.str "add")) fNil)) (fVar 1)) [1]) fNil))) (fC (.int 0))))
def e_l_shown : fF := fBody p_l_shown 1
theorem ok_l_shown (T : Tx w K mg base A) : FnG P w K mg base 6 A.a_l_shown A.fd_l_shown ["lines"] (gF e_l_shown) := by
  refine fnF_mk (fs := p_l_shown) T.F_l_shown sc_l_shown fun Φ cdv A' outer s H E iΦ hr => ?_
  exact (fss_one (fs_ret (fe_ix x_seq ow_ix (fe_call (ok_l_run T) (hr.mono (by decide)) (by rfl) T.g_l_run T.F_l_run.kp T.b_l_run .nil (fun _ => .nil) (takes_of rfl rfl rfl rfl) (fa_cons (fe_call (ok_l_numbered T) (hr.mono (by decide)) (by rfl) T.g_l_numbered T.F_l_numbered.kp T.b_l_numbered .nil (fun _ => .nil) (takes_of rfl rfl rfl rfl) (fa_cons fe_int (fa_cons fe_int (fa_cons fe_int fa_nil)))) (fa_cons (fe_lc rfl sc_l_shown.nd (own := [("line", 1)]) (fi_seq (fe_var 0)) (blkOk_by (N := ["lines", "line"]) (sc := defScope s_l_shown) (by decide +kernel)) (fun _ _ _ _ _ _ _ => (fg_name (i := 1) sc_l_shown.nd rfl (by first | exact Or.inl rfl | exact Or.inr rfl))) (fun _ _ _ _ _ _ _ => fts_nil) (fun _ _ _ _ _ _ _ => (fe_bin o_add ow_add (fe_tup (fa_cons fe_str fa_nil)) (fe_var 1)))) fa_nil))) fe_int)))
def p_l_changed : fS := (fSeq (fPar 3 4 (fCons (fCall e_l_draw 2 [] (fCons (fVar 0) (fCons (fBin oAdd (fFn lLen (fCons (fVar 1) fNil)) (fC (.int 1))) fNil))) (fCons (fCall e_l_draw 2 [] (fCons (fVar 0) (fCons (fC (.int 5)) fNil))) fNil))) (fSeq (fIfS (fAnd (fTest (fBin oLt (fVar 4) (fC (.int 3)))) (fTest (fBin oLt (fBin oAdd (fVar 3) (fC (.int 1))) (fFn lLen (fCons (fVar 1) fNil))))) (fRet (fBin oAdd (fBin oAdd (fSl (fVar 1) fPn (fPs (fVar 3))) (fLst (fCons (fBin oIx (fVar 1) (fBin oAdd (fVar 3) (fC (.int 1)))) (fCons (fBin oIx (fVar 1) (fVar 3)) fNil)))) (fSl (fVar 1) (fPs (fBin oAdd (fVar 3) (fC (.int 2)))) fPn))) fNext) (fSeq (fIfS (fTest (fBin oEq (fVar 4) (fC (.int 3)))) (fRet (fBin oAdd (fBin oAdd (fSl (fVar 1) fPn (fPs (fVar 3))) (fCall e_l_random_lines 3 [] (fCons (fVar 0) (fCons (fCall e_l_draw 2 [] (fCons (fVar 0) (fCons (fC (.int 2)) fNil))) (fCons (fVar 2) fNil))))) (fSl (fVar 1) (fPs (fBin oAdd (fVar 3) (fC (.int 1)))) fPn))) fNext) (fSeq (fPar 5 6 (fCons (fLstC (fVar 1)) (fCons (fLstO fNil) fNil))) (fSeq (fWhile (fTest (fEqO true (fVar 5) (fLst fNil))) (fDrop (fApp (fVar 6) (fPopI (fVar 5) (fCall e_l_draw 2 [] (fCons (fVar 0) (fCons (fLenO (fVar 5)) fNil))))))) (fRet (fFrz (fVar 6))))))))
def e_l_changed : fF := fBody p_l_changed 4
theorem ok_l_changed (T : Tx w K mg base A) : FnG P w K mg base 6 A.a_l_changed A.fd_l_changed ["pool", "lines", "colours"] (gF e_l_changed) := by
  refine fnF_mk (fs := p_l_changed) T.F_l_changed sc_l_changed fun Φ cdv A' outer s H E iΦ hr => ?_
  exact (fss_cons (fs_par (i := 3) (j := 4) rfl sc_l_changed.nd rfl rfl (by decide) rfl rfl (fa_cons (fe_call (ok_l_draw T) (hr.mono (by decide)) (by rfl) T.g_l_draw T.F_l_draw.kp T.b_l_draw .nil (fun _ => .nil) (takes_of rfl rfl rfl rfl) (fa_cons (fe_var 0) (fa_cons (fe_bin o_add ow_add (fe_callB (f_len) lw_len (by rfl) T.n_len (by decide +kernel) (fa_cons (fe_var 1) fa_nil)) fe_int) fa_nil))) (fa_cons (fe_call (ok_l_draw T) (hr.mono (by decide)) (by rfl) T.g_l_draw T.F_l_draw.kp T.b_l_draw .nil (fun _ => .nil) (takes_of rfl rfl rfl rfl) (fa_cons (fe_var 0) (fa_cons fe_int fa_nil))) fa_nil))) (fss_cons (fs_if (FW.ft (fw_and (ft_cmp o_lt ow_lt (fe_var 4) fe_int) (fw_and1 (ft_cmp o_lt ow_lt (fe_bin o_add ow_add (fe_var 3) fe_int) (fe_callB (f_len) lw_len (by rfl) T.n_len (by decide +kernel) (fa_cons (fe_var 1) fa_nil)))))) (fss_one (fs_ret (fe_bin o_add ow_add (fe_bin o_add ow_add (fe_sl (fe_var 1) fo_none (fo_some (fe_var 3))) (fe_lst (fa_cons (fe_ix x_seq ow_ix (fe_var 1) (fe_bin o_add ow_add (fe_var 3) fe_int)) (fa_cons (fe_ix x_seq ow_ix (fe_var 1) (fe_var 3)) fa_nil)))) (fe_sl (fe_var 1) (fo_some (fe_bin o_add ow_add (fe_var 3) fe_int)) fo_none)))) fss_nil) (fss_cons (fs_if (ft_cmp (o_eq' hr.units) ow_eq (fe_var 4) fe_int) (fss_one (fs_ret (fe_bin o_add ow_add (fe_bin o_add ow_add (fe_sl (fe_var 1) fo_none (fo_some (fe_var 3))) (fe_call (ok_l_random_lines T) (hr.mono (by decide)) (by rfl) T.g_l_random_lines T.F_l_random_lines.kp T.b_l_random_lines .nil (fun _ => .nil) (takes_of rfl rfl rfl rfl) (fa_cons (fe_var 0) (fa_cons (fe_call (ok_l_draw T) (hr.mono (by decide)) (by rfl) T.g_l_draw T.F_l_draw.kp T.b_l_draw .nil (fun _ => .nil) (takes_of rfl rfl rfl rfl) (fa_cons (fe_var 0) (fa_cons fe_int fa_nil))) (fa_cons (fe_var 2) fa_nil))))) (fe_sl (fe_var 1) (fo_some (fe_bin o_add ow_add (fe_var 3) fe_int)) fo_none)))) fss_nil) (fss_cons (fs_par (i := 5) (j := 6) rfl sc_l_changed.nd rfl rfl (by decide) rfl rfl (fa_cons (fe_lstC (by rfl) T.n_list (fe_var 1)) (fa_cons (fe_lstO fa_nil) fa_nil))) (fss_cons (fs_while (passes_of rfl) (ft_neO hr.units (fe_var 5) (fe_lst fa_nil)) (fss_one (fs_expr (fe_app (fe_var 6) (fe_popI (fe_var 5) (fe_call (ok_l_draw T) (hr.mono (by decide)) (by rfl) T.g_l_draw T.F_l_draw.kp T.b_l_draw .nil (fun _ => .nil) (takes_of rfl rfl rfl rfl) (fa_cons (fe_var 0) (fa_cons (fe_lenO (by rfl) T.n_len (by decide +kernel) (fe_var 5)) fa_nil)))))))) (fss_one (fs_ret (fe_frz (fe_var 6)))))))))
def p_law : fS := (fSeq (fFor (iR1 (fCons (fFn lMax (fCons (fC (.int 1)) (fCons (fFn lMin (fCons (fFn lLen (fCons (fVar 0) fNil)) (fCons (fC (.int 8)) fNil))) fNil))) fNil)) (fGn 1) (fSeq (fSet 2 (fCall e_l_pool 2 [] (fCons (fVar 0) (fCons (fVar 1) fNil)))) (fSeq (fSet 3 (fBin oAdd (fC (.int 1)) (fCall e_l_draw 2 [] (fCons (fVar 2) (fCons (fC (.int 3)) fNil))))) (fSeq (fSet 4 (fCall e_l_random_lines 3 [] (fCons (fVar 2) (fCons (fCall e_l_draw 2 [] (fCons (fVar 2) (fCons (fC (.int 11)) fNil))) (fCons (fVar 3) fNil))))) (fSeq (fSet 5 (fMake "Frame" e_Frame_init_ 2 [] (fCons (fVar 4) fNil))) (fSeq (fIfS (fOr (fTest (fBin oNe (fCall e_l_shown 1 [] (fCons (fMeth0 "Frame" "order" e_Frame_order 1 [] (fVar 5)) fNil)) (fCall e_l_shown 1 [] (fCons (fVar 4) fNil)))) (fTest (fBin oNe (fReprI "Frame" e_Frame_repr_ (fVar 5)) (fBin oAdd (fBin oAdd (fC (.str "Frame(")) (fFn lRepr (fCons (fMeth0 "Frame" "order" e_Frame_order 1 [] (fVar 5)) fNil))) (fC (.str ")")))))) (fRet (fC (.bl false))) fNext) (fSeq (fIfS (fOr (fNot (fTest (fEqI "Frame" e_Frame_eq_ (eqok "Frame") (fMake "Frame" e_Frame_init_ 2 [] (fCons (fFn lTuple (fCons (fVar 4) fNil)) fNil)) (fVar 5)))) (fOr (fTest (fEqI "Frame" e_Frame_eq_ (eqok "Frame") (fVar 5) (fVar 4))) (fTest (fBin oNe (fLenI "Frame" e_Frame_len_ (fVar 5)) (fFn lLen (fCons (fVar 4) fNil)))))) (fRet (fC (.bl false))) fNext) (fFor (iR1 (fCons (fC (.int 8)) fNil)) (fGn 6) (fSeq (fSet 7 (fCall e_l_changed 3 [] (fCons (fVar 2) (fCons (fVar 4) (fCons (fVar 3) fNil))))) (fSeq (fPar 8 9 (fCons (fMake "Frame" e_Frame_init_ 2 [] (fCons (fVar 7) fNil)) (fCons (fBin oEq (fCall e_l_shown 1 [] (fCons (fVar 7) fNil)) (fCall e_l_shown 1 [] (fCons (fVar 4) fNil))) fNil))) (fSeq (fIfS (fOr (fTest (fBin oNe (fEqI "Frame" e_Frame_eq_ (eqok "Frame") (fVar 5) (fVar 8)) (fVar 9))) (fTest (fBin oNe (fBin oEq (fMeth0 "Frame" "order" e_Frame_order 1 [] (fVar 5)) (fMeth0 "Frame" "order" e_Frame_order 1 [] (fVar 8))) (fVar 9)))) (fRet (fC (.bl false))) fNext) (fSet 4 (fIf (fTest (fVar 9)) (fVar 7) (fVar 4)))))))))))))) (fRet (fC (.bl true))))
def e_law : fF := fBody p_law 9
theorem ok_law (T : Tx w K mg base A) (hm : ∀ ns : List Int, ns.length ≤ 63 → ∃ s1, e_law [.frz (ns.map D.int)] [] = .ok (.bl true) s1) : FnS P w K mg base 14 A.a_law A.fd_law ["script"] (spLawD K) := by
  refine lawF_mk (fs := p_law) T.F_law sc_law (fun cdv A' outer s H E iΦ hr => ?_) hm
  exact (fss_cons (fs_for (passes_of rfl) rfl (fi_range1 (by rfl) T.n_range (fa_cons (fe_callB (f_max rfl) lw_max (by rfl) T.n_max (by decide +kernel) (fa_cons fe_int (fa_cons (fe_callB (f_min rfl) lw_min (by rfl) T.n_min (by decide +kernel) (fa_cons (fe_callB (f_len) lw_len (by rfl) T.n_len (by decide +kernel) (fa_cons (fe_var 0) fa_nil)) (fa_cons fe_int fa_nil))) fa_nil))) fa_nil)) (fg_name (i := 1) sc_law.nd rfl (by first | exact Or.inl rfl | exact Or.inr rfl)) (fss_cons (fs_set (i := 2) sc_law.nd rfl (by first | exact Or.inl rfl | exact Or.inr rfl) (fe_call (ok_l_pool T) (hr.mono (by decide)) (by rfl) T.g_l_pool T.F_l_pool.kp T.b_l_pool .nil (fun _ => .nil) (takes_of rfl rfl rfl rfl) (fa_cons (fe_var 0) (fa_cons (fe_var 1) fa_nil)))) (fss_cons (fs_set (i := 3) sc_law.nd rfl (by first | exact Or.inl rfl | exact Or.inr rfl) (fe_bin o_add ow_add fe_int (fe_call (ok_l_draw T) (hr.mono (by decide)) (by rfl) T.g_l_draw T.F_l_draw.kp T.b_l_draw .nil (fun _ => .nil) (takes_of rfl rfl rfl rfl) (fa_cons (fe_var 2) (fa_cons fe_int fa_nil))))) (fss_cons (fs_set (i := 4) sc_law.nd rfl (by first | exact Or.inl rfl | exact Or.inr rfl) (fe_call (ok_l_random_lines T) (hr.mono (by decide)) (by rfl) T.g_l_random_lines T.F_l_random_lines.kp T.b_l_random_lines .nil (fun _ => .nil) (takes_of rfl rfl rfl rfl) (fa_cons (fe_var 2) (fa_cons (fe_call (ok_l_draw T) (hr.mono (by decide)) (by rfl) T.g_l_draw T.F_l_draw.kp T.b_l_draw .nil (fun _ => .nil) (takes_of rfl rfl rfl rfl) (fa_cons (fe_var 2) (fa_cons fe_int fa_nil))) (fa_cons (fe_var 3) fa_nil))))) (fss_cons (fs_set (i := 5) sc_law.nd rfl (by first | exact Or.inl rfl | exact Or.inr rfl) (fe_make T.mk_Frame T.mg_Frame (ok_Frame_init_ T) (hr.mono (by decide)) (by rfl) T.b_Frame_init_ .nil (fun _ => .nil) (takes_of rfl rfl rfl rfl) (fa_cons (fe_var 4) fa_nil))) (fss_cons (fs_if (FW.ft (fw_or (ft_cmp (o_ne' hr.units) ow_ne (fe_call (ok_l_shown T) (hr.mono (by decide)) (by rfl) T.g_l_shown T.F_l_shown.kp T.b_l_shown .nil (fun _ => .nil) (takes_of rfl rfl rfl rfl) (fa_cons (fe_meth0 (fe_var 5) T.cl_Frame T.mg_Frame T.mt_Frame_order (ok_Frame_order T) (hr.mono (by decide)) T.b_Frame_order .nil (fun _ => .nil) (takes_of rfl rfl rfl rfl)) fa_nil)) (fe_call (ok_l_shown T) (hr.mono (by decide)) (by rfl) T.g_l_shown T.F_l_shown.kp T.b_l_shown .nil (fun _ => .nil) (takes_of rfl rfl rfl rfl) (fa_cons (fe_var 4) fa_nil))) (fw_or1 (ft_cmp (o_ne' hr.units) ow_ne (fe_reprI T.cl_Frame T.mg_Frame T.re_Frame T.fn_Frame_repr_ (ok_Frame_repr_ T) (hr.mono (by decide)) T.b_Frame_repr_ (by rfl) T.n_repr (fe_var 5)) (fe_bin o_add ow_add (fe_bin o_add ow_add fe_str (fe_callB (f_repr T.mods hr.gd hr.units) lw_repr (by rfl) T.n_repr (by decide +kernel) (fa_cons (fe_meth0 (fe_var 5) T.cl_Frame T.mg_Frame T.mt_Frame_order (ok_Frame_order T) (hr.mono (by decide)) T.b_Frame_order .nil (fun _ => .nil) (takes_of rfl rfl rfl rfl)) fa_nil))) fe_str))))) (fss_one (fs_ret fe_bl)) fss_nil) (fss_cons (fs_if (FW.ft (fw_or (ft_not (ft_eqI T.mg_Frame T.eq_Frame T.fn_Frame_eq_ T.ty_Frame eqok_rn (ok_Frame_eq_ T) (hr.mono (by decide)) T.b_Frame_eq_ (takes_of rfl rfl rfl rfl) (fe_make T.mk_Frame T.mg_Frame (ok_Frame_init_ T) (hr.mono (by decide)) (by rfl) T.b_Frame_init_ .nil (fun _ => .nil) (takes_of rfl rfl rfl rfl) (fa_cons (fe_callTy f_tuple lw_tuple (by rfl) T.n_tuple (by decide +kernel) (fa_cons (fe_var 4) fa_nil)) fa_nil)) (fe_var 5))) (fw_or (ft_eqI T.mg_Frame T.eq_Frame T.fn_Frame_eq_ T.ty_Frame eqok_rn (ok_Frame_eq_ T) (hr.mono (by decide)) T.b_Frame_eq_ (takes_of rfl rfl rfl rfl) (fe_var 5) (fe_var 4)) (fw_or1 (ft_cmp (o_ne' hr.units) ow_ne (fe_lenI T.cl_Frame T.mg_Frame T.op_Frame_len_ T.fn_Frame_len_ (ok_Frame_len_ T) (hr.mono (by decide)) T.b_Frame_len_ (by rfl) T.n_len (fe_var 5)) (fe_callB (f_len) lw_len (by rfl) T.n_len (by decide +kernel) (fa_cons (fe_var 4) fa_nil))))))) (fss_one (fs_ret fe_bl)) fss_nil) (fss_one (fs_for (passes_of rfl) rfl (fi_range1 (by rfl) T.n_range (fa_cons fe_int fa_nil)) (fg_name (i := 6) sc_law.nd rfl (by first | exact Or.inl rfl | exact Or.inr rfl)) (fss_cons (fs_set (i := 7) sc_law.nd rfl (by first | exact Or.inl rfl | exact Or.inr rfl) (fe_call (ok_l_changed T) (hr.mono (by decide)) (by rfl) T.g_l_changed T.F_l_changed.kp T.b_l_changed .nil (fun _ => .nil) (takes_of rfl rfl rfl rfl) (fa_cons (fe_var 2) (fa_cons (fe_var 4) (fa_cons (fe_var 3) fa_nil))))) (fss_cons (fs_par (i := 8) (j := 9) rfl sc_law.nd rfl rfl (by decide) rfl rfl (fa_cons (fe_make T.mk_Frame T.mg_Frame (ok_Frame_init_ T) (hr.mono (by decide)) (by rfl) T.b_Frame_init_ .nil (fun _ => .nil) (takes_of rfl rfl rfl rfl) (fa_cons (fe_var 7) fa_nil)) (fa_cons (fe_cmp (o_eq' hr.units) ow_eq (fe_call (ok_l_shown T) (hr.mono (by decide)) (by rfl) T.g_l_shown T.F_l_shown.kp T.b_l_shown .nil (fun _ => .nil) (takes_of rfl rfl rfl rfl) (fa_cons (fe_var 7) fa_nil)) (fe_call (ok_l_shown T) (hr.mono (by decide)) (by rfl) T.g_l_shown T.F_l_shown.kp T.b_l_shown .nil (fun _ => .nil) (takes_of rfl rfl rfl rfl) (fa_cons (fe_var 4) fa_nil))) fa_nil))) (fss_cons (fs_if (FW.ft (fw_or (ft_cmp (o_ne' hr.units) ow_ne (fe_eqI T.mg_Frame T.eq_Frame T.fn_Frame_eq_ T.ty_Frame eqok_rn (ok_Frame_eq_ T) (hr.mono (by decide)) T.b_Frame_eq_ (takes_of rfl rfl rfl rfl) (fe_var 5) (fe_var 8)) (fe_var 9)) (fw_or1 (ft_cmp (o_ne' hr.units) ow_ne (fe_cmp (o_eq' hr.units) ow_eq (fe_meth0 (fe_var 5) T.cl_Frame T.mg_Frame T.mt_Frame_order (ok_Frame_order T) (hr.mono (by decide)) T.b_Frame_order .nil (fun _ => .nil) (takes_of rfl rfl rfl rfl)) (fe_meth0 (fe_var 8) T.cl_Frame T.mg_Frame T.mt_Frame_order (ok_Frame_order T) (hr.mono (by decide)) T.b_Frame_order .nil (fun _ => .nil) (takes_of rfl rfl rfl rfl))) (fe_var 9))))) (fss_one (fs_ret fe_bl)) fss_nil) (fss_one (fs_set (i := 4) sc_law.nd rfl (by first | exact Or.inl rfl | exact Or.inr rfl) (fe_if (ft_val (fe_var 9)) (fe_var 7) (fe_var 4)))))))))))))))) (fss_one (fs_ret fe_bl)))
end
-- level of the law: 14
end K09

set_option Elab.async false
set_option linter.all false
set_option maxRecDepth 100000
set_option maxHeartbeats 4000000
/-! steps and their checks -/
namespace TR
open PySem PySem.Spec PyProof.Rows L2 DL FL PD TP
variable {st : FL.St}
/-- a step as it should be, one that is not -/
def Good (d : D) : Prop := ∀ st, e_is_step [d] st = .ok (.bl true) st
def okS : TP.Sp → Bool
  | .add _ c => decide (0 ≤ c)
  | _ => true
/-! the check of a list -/
theorem isl {ds : List D} {t : Bool} : isTs (sq t ds) [.list, .tuple] = some true := by cases t <;> rfl
theorem tyl {ds : List D} {t : Bool} : (tyD (sq t ds)).isSome = true := by cases t <;> rfl
theorem lenl {ds : List D} {t : Bool} : lLen [sq t ds] = some (.int (ds.length : Nat)) := by cases t <;> rfl
theorem seql {ds : List D} {t : Bool} : seqOf (sq t ds) = some ds := by cases t <;> rfl
end TR

set_option Elab.async false
set_option linter.all false
set_option maxRecDepth 100000
set_option maxHeartbeats 4000000
/-! random steps -/
namespace TV
open PySem PySem.Spec PyProof.Rows L2 DL FL PD TP TR TQ
variable {st : FL.St} {Q : D → FL.St → Prop} {X : Exn → FL.St → Prop}
theorem set_app {n : Nat} {x : Option DO} {t : FL.St} (h : n < st.length) : (st ++ t).set n x = st.set n x ++ t := List.set_append_left n x h
theorem at_app {n : Nat} {x : Option DO} {t : FL.St} (h : st[n]? = some x) : (st ++ t)[n]? = some x := by
  rw [List.getElem?_append_left (List.getElem?_eq_some_iff.mp h).1]
  exact h
theorem ap_end {x : Option DO} : (st ++ [x])[st.length]? = some x := by simp
theorem ap_sete {x y : Option DO} : (st ++ [x]).set st.length y = st ++ [y] := by simp
theorem set_at_same {n : Nat} {x : Option DO} (h : st[n]? = some x) : st.set n x = st := by
  apply List.ext_getElem?
  intro i
  rw [List.getElem?_set]
  split
  · rename_i e
    subst e
    split
    · exact h.symm
    · rename_i q
      exact absurd (List.getElem?_eq_some_iff.mp h).1 q
  · rfl
theorem sps_nl {ps : List TP.Sp} : noLocL (ps.map TP.Sp.d) = true := by
  rw [noLocL_all]
  intro d h
  obtain ⟨q, _, e⟩ := List.mem_map.mp h
  rw [← e]
  match q with
  | .turn => rfl
  | .mir => rfl
  | .cut s => cases s <;> rfl
  | .add s c => cases s <;> rfl
theorem pick4 {r : Int} (h0 : 0 ≤ r) (h4 : r < 4) : ∃ s : Sd, oIx (.lst [.str "top", .str "right", .str "bottom", .str "left"]) (.int r) = some s.d := by
  have z : r = 0 ∨ r = 1 ∨ r = 2 ∨ r = 3 := by omega
  rcases z with rfl | rfl | rfl | rfl
  · exact ⟨.top, rfl⟩
  · exact ⟨.right, rfl⟩
  · exact ⟨.bottom, rfl⟩
  · exact ⟨.left, rfl⟩
end TV

set_option Elab.async false
set_option linter.all false
set_option maxRecDepth 100000
set_option maxHeartbeats 4000000
/-! symmetries -/
namespace TR
open PySem PySem.Spec PyProof.Rows L2 DL FL PD TP
variable {st : FL.St}
abbrev syN : List Str := ["_turns", "_mirrors"]
def sym (t : Int) (m : Bool) : D := .ins "Symmetry" syN [.int t, .bl m]
/-- sides by number, clockwise -/
def sdN : Sd → Int
  | .top => 0
  | .right => 1
  | .bottom => 2
  | .left => 3
def sdOf (z : Int) : Sd := if z % 4 = 0 then .top else if z % 4 = 1 then .right else if z % 4 = 2 then .bottom else .left
/-- where a symmetry moves a side -/
def symS (t : Int) (m : Bool) (s : Sd) : Sd := sdOf ((if m then -sdN s else sdN s) + t)
end TR

set_option Elab.async false
set_option linter.all false
set_option maxRecDepth 100000
set_option maxHeartbeats 4000000
/-! frames: the lines, what they need -/
namespace TU
open PySem PySem.Spec PyProof.Rows L2 DL FL PD TP TR
local macro_rules | `(tactic| walk_at "g1") => `(tactic| first
  | with_reducible refine wp_dget ?_
  | with_reducible refine wp_din ?_
  | with_reducible refine wp_dput ?_
  | with_reducible refine wp_daug ?_
  | with_reducible refine wp_tru ?_
  | with_reducible refine wp_pop ?_
  | with_reducible refine wp_pop0 ?_
  | ((with_reducible apply wp_augN); (exact rfl))
  | with_reducible refine wp_disp ?_
  | with_reducible refine wp_pairs0 ?_
  | with_reducible refine wp_pairs ?_
  | with_reducible refine wp_call0 ?_ ?_
  | with_reducible refine wp_frz ?_
  | with_reducible refine wp_app ?_
  | with_reducible refine wp_make0 rfl ?_)
local macro_rules | `(tactic| walk_at "g1") => `(tactic| first
  | with_reducible refine wp_cmeth ?_
  | ((with_reducible apply wp_makeL); (exact rfl))
  | with_reducible refine wp_star ?_
  | with_reducible refine wp_lenO ?_
  | with_reducible refine gw_starT ?_
  | with_reducible refine gw_starL ?_)
variable {st : FL.St}
abbrev Li := Sd × Int
@[reducible] def liD (l : Li) : D := .tup [l.1.d, .int l.2]
/-- the number of the last of these that is not c -/
def nluGo (cs : List Int) (c : Int) : Nat → Nat
  | 0 => 0
  | k + 1 => if cs.getD k 0 = c then nluGo cs c k else k + 1
def nlu (cs : List Int) (c : Int) : Nat := nluGo cs c cs.length
theorem nluGo_le {cs : List Int} {c : Int} : ∀ k, nluGo cs c k ≤ k
  | 0 => Nat.le_refl _
  | k + 1 => by
    unfold nluGo
    split
    · exact Nat.le_trans (nluGo_le k) (Nat.le_succ k)
    · exact Nat.le_refl _
theorem nlu_le {cs : List Int} {c : Int} : nlu cs c ≤ cs.length := nluGo_le _
abbrev t_nlu : fT := (fAnd (fTest (fBin oGt (fVar 2) (fC (.int 0)))) (fTest (fBin oEq (fIxO (fVar 0) (fBin oSub (fVar 2) (fC (.int 1)))) (fVar 1))))
abbrev b_nlu : fS := (fAugN (fun i j => i - j) 2 (fC (.int 1)))
theorem nlu_loop {a : Addr} {c : Int} {cs : List Int} (h : st[a]? = some (some (.lst (cs.map D.int)))) {R : D → FL.St → Prop} {B C : Rho → FL.St → Prop} {N : Rho → FL.St → Prop} {E : Exn → Rho → FL.St → Prop} : ∀ (k fuel : Nat), k < fuel → k ≤ cs.length → N [some (.loc a), some (.int c), some (.int (nluGo cs c k : Nat))] st →
    (fWhileGo t_nlu b_nlu fuel [some (.loc a), some (.int c), some (.int (k : Nat))] st).wp ⟨N, R, B, C, E⟩
  | k, 0, hk, _, _ => absurd hk (Nat.not_lt_zero _)
  | 0, i + 1, _, _, n => by
    refine wp_while1 ?_
    have e1 : decide ((0 : Int) < ((0 : Nat) : Int)) = false := by decide
    walk_at "g"
    exact n
  | k + 1, i + 1, hk, hl, n => by
    refine wp_while1 ?_
    have e1 : decide ((0 : Int) < ((k + 1 : Nat) : Int)) = true := by
      rw [decide_eq_true_iff]
      omega
    have e2 : atI (cs.map D.int) (((k + 1 : Nat) : Int) - 1) = some (.int (cs.getD k 0)) := by
      have e : (((k + 1 : Nat) : Int) - 1) = (k : Nat) := by omega
      rw [e, at_nat (by rw [List.length_map]; omega), List.getElem_map, List.getD_eq_getElem?_getD, List.getElem?_eq_getElem (by omega)]
      rfl
    walk_at "g"
    refine gw_ix rfl rfl h e2 ?_
    walk_at "g"
    unfold nluGo at n
    refine ⟨fun q => ?_, fun q => ?_⟩
    · have q' : cs.getD k 0 = c := by simpa using q
      rw [if_pos q'] at n
      walk_at "g"
      have e : (((k + 1 : Nat) : Int) - 1) = (k : Nat) := by omega
      show (fWhileGo t_nlu b_nlu i [some (.loc a), some (.int c), some (.int (((k + 1 : Nat) : Int) - 1))] st).wp _
      rw [e]
      exact nlu_loop h k i (by omega) (by omega) n
    · have q' : ¬ cs.getD k 0 = c := by simpa using q
      rw [if_neg q'] at n
      exact n
theorem nlu_e {a : Addr} {c : Int} {cs : List Int} (h : st[a]? = some (some (.lst (cs.map D.int)))) (hl : cs.length < 1000000) : e_number_of_last_unlike [.loc a, .int c] st = .ok (.int (nlu cs c : Nat)) st := by
  refine Res.eq_wp (wp_body0 ?_)
  unfold p_number_of_last_unlike
  walk_at "g"
  refine ⟨a, _, rfl, h, ?_⟩
  walk_at "g"
  refine wp_while ?_
  rw [List.length_map]
  refine nlu_loop h _ _ hl (Nat.le_refl _) ?_
  walk_at "g"
  exact ⟨rfl, rfl, rfl⟩
end TU

set_option Elab.async false
set_option linter.all false
set_option maxRecDepth 100000
set_option maxHeartbeats 8000000
/-! frames: the waiting lines -/
namespace TU
open PySem PySem.Spec PyProof.Rows L2 DL FL PD TP TR
local macro_rules | `(tactic| walk_at "g1") => `(tactic| first
  | with_reducible refine wp_dget ?_
  | with_reducible refine wp_din ?_
  | with_reducible refine wp_dput ?_
  | with_reducible refine wp_daug ?_
  | with_reducible refine wp_tru ?_
  | with_reducible refine wp_pop ?_
  | with_reducible refine wp_pop0 ?_
  | ((with_reducible apply wp_augN); (exact rfl))
  | with_reducible refine wp_disp ?_
  | with_reducible refine wp_pairs0 ?_
  | with_reducible refine wp_pairs ?_
  | with_reducible refine wp_call0 ?_ ?_
  | with_reducible refine wp_frz ?_
  | with_reducible refine wp_app ?_
  | with_reducible refine wp_make0 rfl ?_)
local macro_rules | `(tactic| walk_at "g1") => `(tactic| first
  | with_reducible refine wp_cmeth ?_
  | ((with_reducible apply wp_makeL); (exact rfl))
  | with_reducible refine wp_star ?_
  | with_reducible refine wp_lenO ?_
  | with_reducible refine gw_starT ?_
  | with_reducible refine gw_starL ?_)
variable {st : FL.St}
theorem map_snoc {α β : Type} {f : α → β} {xs : List α} {x : α} : xs.map f ++ [f x] = (xs ++ [x]).map f := by
  rw [List.map_append]
  rfl
/-- what is kept while the lines are gone through: the colours and the queues of the four sides, the needs of each line -/
structure Wt where
  c : Sd → List Int
  q : Sd → List (Li × Nat)
  ns : List (List Int)
def Wt.none : Wt := ⟨fun _ => [], fun _ => [], []⟩
def upS {α : Type} (f : Sd → List α) (s : Sd) (x : α) : Sd → List α := fun k => if k = s then f k ++ [x] else f k
/-- the needs of a line -/
def needOf (W : Wt) (l : Li) : List Int := match l.1 with
  | .top | .bottom => [0, (nlu (W.c .right) l.2 : Nat), 0, (nlu (W.c .left) l.2 : Nat)]
  | .right | .left => [(nlu (W.c .top) l.2 : Nat), 0, (nlu (W.c .bottom) l.2 : Nat), 0]
def Wt.add (W : Wt) (l : Li) : Wt := ⟨upS W.c l.1 l.2, upS W.q l.1 (l, W.ns.length), W.ns ++ [needOf W l]⟩
def Wt.all (W : Wt) (ls : List Li) : Wt := ls.foldl Wt.add W
@[reducible] def inD (xs : List Int) : List D := xs.map D.int
@[reducible] def quD (n : Nat) (q : Li × Nat) : D := .tup [liD q.1, .loc (n + (10 + q.2))]
abbrev T10 (n : Nat) (W : Wt) : FL.St := [some (.lst (inD (W.c .top))), some (.lst (inD (W.c .right))), some (.lst (inD (W.c .bottom))), some (.lst (inD (W.c .left))), some (.lst [.loc n, .loc (n + 1), .loc (n + 2), .loc (n + 3)]),
  some (.lst ((W.q .top).map (quD n))), some (.lst ((W.q .right).map (quD n))), some (.lst ((W.q .bottom).map (quD n))), some (.lst ((W.q .left).map (quD n))), some (.lst [.loc (n + 5), .loc (n + 6), .loc (n + 7), .loc (n + 8)])]
abbrev nsS (ns : List (List Int)) : FL.St := ns.map fun x => some (.lst (inD x))
/-- the state between two lines -/
abbrev Wst (st : FL.St) (W : Wt) : FL.St := st ++ (T10 st.length W ++ nsS W.ns)
theorem T10_len {n : Nat} {W : Wt} : (T10 n W).length = 10 := rfl
theorem Wst_len {W : Wt} : (Wst st W).length = st.length + (10 + W.ns.length) := by
  rw [List.length_append, List.length_append, T10_len, List.length_map]
section
variable {W : Wt} {x : Option DO}
abbrev Xst (st : FL.St) (W : Wt) (x : Option DO) : FL.St := st ++ (T10 st.length W ++ (nsS W.ns ++ [x]))
theorem Xst_at {i : Nat} {y : Option DO} (hi : i < 10) (h : (T10 st.length W)[i]? = some y) : (Xst st W x)[st.length + i]? = some y := by
  rw [ap_at, List.getElem?_append_left (by rw [T10_len]; exact hi)]
  exact h
theorem Xst_new {i : Nat} (hi : i = 10 + W.ns.length) : (Xst st W x)[st.length + i]? = some x := by
  subst hi
  rw [ap_at, List.getElem?_append_right (by rw [T10_len]; omega), T10_len, List.getElem?_append_right (by rw [List.length_map]; omega), List.length_map]
  have : 10 + W.ns.length - 10 - W.ns.length = 0 := by omega
  rw [this]
  rfl
theorem Xst_setN {i : Nat} {y : Option DO} (hi : i = 10 + W.ns.length) : (Xst st W x).set (st.length + i) y = Xst st W y := by
  subst hi
  rw [ap_set, List.set_append_right _ _ (by rw [T10_len]; omega), T10_len, List.set_append_right _ _ (by rw [List.length_map]; omega), List.length_map]
  have : 10 + W.ns.length - 10 - W.ns.length = 0 := by omega
  rw [this]
  rfl
theorem Xst_set {i : Nat} {y : Option DO} (hi : i < 10) : (Xst st W x).set (st.length + i) y = st ++ ((T10 st.length W).set i y ++ (nsS W.ns ++ [x])) := by
  rw [ap_set, List.set_append_left _ _ (by rw [T10_len]; exact hi)]
end
theorem Xst_set0 {W : Wt} {x y : Option DO} : (Xst st W x).set st.length y = st ++ ((T10 st.length W).set 0 y ++ (nsS W.ns ++ [x])) := Xst_set (i := 0) (by decide)
/-- the colours' own lists, the queues' -/
theorem col_at {W : Wt} {x : Option DO} {s : Sd} : ∃ i : Nat, i < 4 ∧ (i : Int) = sdN s ∧ (Xst st W x)[st.length + i]? = some (some (.lst (inD (W.c s)))) := by
  cases s
  · exact ⟨0, by decide, rfl, Xst_at (by decide) rfl⟩
  · exact ⟨1, by decide, rfl, Xst_at (by decide) rfl⟩
  · exact ⟨2, by decide, rfl, Xst_at (by decide) rfl⟩
  · exact ⟨3, by decide, rfl, Xst_at (by decide) rfl⟩
abbrev g_wt : fG := fGt 2 (fGc (fGn 3) (fGc (fGn 4) fGl))
abbrev b_nb : fS := fAsg (fCall e_number_of_last_unlike 2 [] (fCons (fIxO (fVar 1) (fVar 7)) (fCons (fVar 4) fNil))) (fGsub (fVar 6) (fVar 7))
abbrev b_wt : fS := (fSeq (fSet 5 (fTidx ys_SIDES (fVar 3))) (fSeq (fSet 6 (fLstO (fCons (fC (.int 0)) (fCons (fC (.int 0)) (fCons (fC (.int 0)) (fCons (fC (.int 0)) fNil)))))) (fSeq (fFor (iSq (fTup (fCons (fBin oMod (fBin oAdd (fVar 5) (fC (.int 1))) (fC (.int 4))) (fCons (fBin oMod (fBin oAdd (fVar 5) (fC (.int 3))) (fC (.int 4))) fNil)))) (fGn 7) b_nb) (fSeq (fDrop (fApp (fIxO (fVar 1) (fVar 5)) (fVar 4))) (fDrop (fApp (fIxO (fVar 2) (fVar 5)) (fTup (fCons (fTup (fCons (fVar 3) (fCons (fVar 4) fNil))) (fCons (fVar 6) fNil)))))))))
abbrev env (st : FL.St) (Z : D) (a b c d e : Option D) : Rho := [some Z, some (.loc (st.length + 4)), some (.loc (st.length + 9)), a, b, c, d, e]
/-- one neighbour -/
theorem nb_e {W : Wt} {Z : D} {l : Li} {s : Sd} {here : D} {xs : List D} {k : Int} {j : Nat} {R : D → FL.St → Prop} {B C : Rho → FL.St → Prop} {N : Rho → FL.St → Prop} {E : Exn → Rho → FL.St → Prop} (hl : (W.c s).length < 1000000) (hk : k = sdN s) (hj : (j : Int) = k) (hx : xs.length = 4) (hz : j < 4)
    (n : N (env st Z (some l.1.d) (some (.int l.2)) (some here) (some (.loc (st.length + (10 + W.ns.length)))) (some (.int k))) (Xst st W (some (.lst (xs.set j (.int (nlu (W.c s) l.2 : Nat))))))) :
    (b_nb (env st Z (some l.1.d) (some (.int l.2)) (some here) (some (.loc (st.length + (10 + W.ns.length)))) (some (.int k))) (Xst st W (some (.lst xs)))).wp ⟨N, R, B, C, E⟩ := by
  obtain ⟨i, hi, ei, ha⟩ := col_at (st := st) (W := W) (x := some (.lst xs)) (s := s)
  have c4 : (Xst st W (some (.lst xs)))[st.length + 4]? = some (some (.lst [.loc st.length, .loc (st.length + 1), .loc (st.length + 2), .loc (st.length + 3)])) := Xst_at (by decide) rfl
  have ix : atI [D.loc st.length, .loc (st.length + 1), .loc (st.length + 2), .loc (st.length + 3)] k = some (.loc (st.length + i)) := by
    subst hk
    cases s
    · cases (show i = 0 by have : (i : Int) = 0 := ei; omega); rfl
    · cases (show i = 1 by have : (i : Int) = 1 := ei; omega); rfl
    · cases (show i = 2 by have : (i : Int) = 2 := ei; omega); rfl
    · cases (show i = 3 by have : (i : Int) = 3 := ei; omega); rfl
  walk_at "g"
  refine gw_ix rfl rfl c4 ix ?_
  walk_at "g"
  refine Res.wp_eq (nlu_e ha hl) ?_
  refine gw_asg (s := Xst st W (some (.lst (xs.set j (.int (nlu (W.c s) l.2 : Nat)))))) ?_ n
  have e4 : ixN xs.length k = some j := by
    rw [← hj, hx]
    have : j = 0 ∨ j = 1 ∨ j = 2 ∨ j = 3 := by omega
    rcases this with rfl | rfl | rfl | rfl <;> rfl
  refine (gsub_e (a := st.length + (10 + W.ns.length)) (i := k) (ds := xs) (k := j) rfl rfl (Xst_new rfl) e4).trans ?_
  rw [Xst_setN rfl]
/-- one line -/
theorem wt_step {W : Wt} {Z : D} {l : Li} {a b c d e : Option D} {R : D → FL.St → Prop} {B C : Rho → FL.St → Prop} {N : Rho → FL.St → Prop} {E : Exn → Rho → FL.St → Prop} (hl : ∀ s, (W.c s).length < 1000000) (hq : ∀ s, (W.q s).length < 1000000)
    (n : ∀ c d e, N (env st Z (some l.1.d) (some (.int l.2)) c d e) (Wst st (W.add l))) :
    (b_wt (env st Z (some l.1.d) (some (.int l.2)) c d e) (Wst st W)).wp ⟨N, R, B, C, E⟩ := by
  obtain ⟨s, v⟩ := l
  have len0 : (Wst st W).length = st.length + (10 + W.ns.length) := Wst_len
  have mk0 : ∀ x, Wst st W ++ [x] = Xst st W x := fun x => by
    rw [List.append_assoc, List.append_assoc]
  have c4 : ∀ x, (Xst st W x)[st.length + 4]? = some (some (.lst [.loc st.length, .loc (st.length + 1), .loc (st.length + 2), .loc (st.length + 3)])) := fun x => Xst_at (by decide) rfl
  cases s with
  | top =>
    have fin : ∀ e, N (env st Z (some Sd.top.d) (some (.int v)) (some (.int 0)) (some (.loc (st.length + (10 + W.ns.length)))) e) (Wst st (W.add (Sd.top, v))) := fun e => n _ _ _
    walk_at "g"
    rw [len0, mk0]
    walk_at "g"
    refine wp_for_cons (d := .int 1) (ρ' := env st Z (some Sd.top.d) (some (.int v)) (some (.int 0)) (some (.loc (st.length + (10 + W.ns.length)))) (some (.int 1))) (st' := _) rfl ?_
    refine nb_e (l := (.top, v)) (s := .right) (j := 1) (hl _) rfl rfl rfl (by decide) ?_
    refine wp_for_cons (d := .int 3) (ρ' := env st Z (some Sd.top.d) (some (.int v)) (some (.int 0)) (some (.loc (st.length + (10 + W.ns.length)))) (some (.int 3))) (st' := _) rfl ?_
    refine nb_e (l := (.top, v)) (s := .left) (j := 3) (hl _) rfl rfl rfl (by decide) ?_
    refine wp_for_nil ?_
    walk_at "g"
    refine gw_ix rfl rfl (c4 _) rfl ?_
    refine ⟨_, _, rfl, Xst_at (i := 0) (by decide) rfl, ?_⟩
    walk_at "g"
    refine ⟨_, Xst_at (i := 0) (by decide) rfl, by rw [List.length_map, sizeLine_e]; exact Nat.lt_trans (hl _) (by decide), ?_⟩
    rw [Xst_set0]
    walk_at "g"
    refine gw_ix rfl rfl (ap_at (i := 9)) rfl ?_
    refine ⟨_, _, rfl, ap_at (i := 5), ?_⟩
    walk_at "g"
    refine ⟨_, ap_at (i := 5), by rw [List.length_map, sizeLine_e]; exact Nat.lt_trans (hq _) (by decide), ?_⟩
    rw [ap_set]
    have z := fin (some (.int 3))
    have ez : Wst st (W.add (Sd.top, v)) = st ++ (((T10 st.length W).set 0 (some (.lst (inD (W.c .top) ++ [.int v]))) |>.set 5 (some (.lst ((W.q .top).map (quD st.length) ++ [quD st.length ((.top, v), W.ns.length)])))) ++ (nsS W.ns ++ [some (.lst (inD (needOf W (.top, v))))])) := by
      show st ++ (T10 st.length (W.add (Sd.top, v)) ++ nsS (W.ns ++ [needOf W (.top, v)])) = _
      rw [show nsS (W.ns ++ [needOf W (.top, v)]) = nsS W.ns ++ [some (.lst (inD (needOf W (.top, v))))] from List.map_append ..]
      rw [map_snoc (f := quD st.length) (xs := W.q .top) (x := ((Sd.top, v), W.ns.length)), map_snoc (f := D.int) (xs := W.c .top) (x := v)]
      rfl
    rw [ez] at z
    exact z
  | right =>
    have fin : ∀ e, N (env st Z (some Sd.right.d) (some (.int v)) (some (.int 1)) (some (.loc (st.length + (10 + W.ns.length)))) e) (Wst st (W.add (Sd.right, v))) := fun e => n _ _ _
    walk_at "g"
    rw [len0, mk0]
    walk_at "g"
    refine wp_for_cons (d := .int 2) (ρ' := env st Z (some Sd.right.d) (some (.int v)) (some (.int 1)) (some (.loc (st.length + (10 + W.ns.length)))) (some (.int 2))) (st' := _) rfl ?_
    refine nb_e (l := (.right, v)) (s := .bottom) (j := 2) (hl _) rfl rfl rfl (by decide) ?_
    refine wp_for_cons (d := .int 0) (ρ' := env st Z (some Sd.right.d) (some (.int v)) (some (.int 1)) (some (.loc (st.length + (10 + W.ns.length)))) (some (.int 0))) (st' := _) rfl ?_
    refine nb_e (l := (.right, v)) (s := .top) (j := 0) (hl _) rfl rfl rfl (by decide) ?_
    refine wp_for_nil ?_
    walk_at "g"
    refine gw_ix rfl rfl (c4 _) rfl ?_
    refine ⟨_, _, rfl, Xst_at (i := 1) (by decide) rfl, ?_⟩
    walk_at "g"
    refine ⟨_, Xst_at (i := 1) (by decide) rfl, by rw [List.length_map, sizeLine_e]; exact Nat.lt_trans (hl _) (by decide), ?_⟩
    rw [Xst_set (by decide)]
    walk_at "g"
    refine gw_ix rfl rfl (ap_at (i := 9)) rfl ?_
    refine ⟨_, _, rfl, ap_at (i := 6), ?_⟩
    walk_at "g"
    refine ⟨_, ap_at (i := 6), by rw [List.length_map, sizeLine_e]; exact Nat.lt_trans (hq _) (by decide), ?_⟩
    rw [ap_set]
    have z := fin (some (.int 0))
    have ez : Wst st (W.add (Sd.right, v)) = st ++ (((T10 st.length W).set 1 (some (.lst (inD (W.c .right) ++ [.int v]))) |>.set 6 (some (.lst ((W.q .right).map (quD st.length) ++ [quD st.length ((.right, v), W.ns.length)])))) ++ (nsS W.ns ++ [some (.lst (inD (needOf W (.right, v))))])) := by
      show st ++ (T10 st.length (W.add (Sd.right, v)) ++ nsS (W.ns ++ [needOf W (.right, v)])) = _
      rw [show nsS (W.ns ++ [needOf W (.right, v)]) = nsS W.ns ++ [some (.lst (inD (needOf W (.right, v))))] from List.map_append ..]
      rw [map_snoc (f := quD st.length) (xs := W.q .right) (x := ((Sd.right, v), W.ns.length)), map_snoc (f := D.int) (xs := W.c .right) (x := v)]
      rfl
    rw [ez] at z
    exact z
  | bottom =>
    have fin : ∀ e, N (env st Z (some Sd.bottom.d) (some (.int v)) (some (.int 2)) (some (.loc (st.length + (10 + W.ns.length)))) e) (Wst st (W.add (Sd.bottom, v))) := fun e => n _ _ _
    walk_at "g"
    rw [len0, mk0]
    walk_at "g"
    refine wp_for_cons (d := .int 3) (ρ' := env st Z (some Sd.bottom.d) (some (.int v)) (some (.int 2)) (some (.loc (st.length + (10 + W.ns.length)))) (some (.int 3))) (st' := _) rfl ?_
    refine nb_e (l := (.bottom, v)) (s := .left) (j := 3) (hl _) rfl rfl rfl (by decide) ?_
    refine wp_for_cons (d := .int 1) (ρ' := env st Z (some Sd.bottom.d) (some (.int v)) (some (.int 2)) (some (.loc (st.length + (10 + W.ns.length)))) (some (.int 1))) (st' := _) rfl ?_
    refine nb_e (l := (.bottom, v)) (s := .right) (j := 1) (hl _) rfl rfl rfl (by decide) ?_
    refine wp_for_nil ?_
    walk_at "g"
    refine gw_ix rfl rfl (c4 _) rfl ?_
    refine ⟨_, _, rfl, Xst_at (i := 2) (by decide) rfl, ?_⟩
    walk_at "g"
    refine ⟨_, Xst_at (i := 2) (by decide) rfl, by rw [List.length_map, sizeLine_e]; exact Nat.lt_trans (hl _) (by decide), ?_⟩
    rw [Xst_set (by decide)]
    walk_at "g"
    refine gw_ix rfl rfl (ap_at (i := 9)) rfl ?_
    refine ⟨_, _, rfl, ap_at (i := 7), ?_⟩
    walk_at "g"
    refine ⟨_, ap_at (i := 7), by rw [List.length_map, sizeLine_e]; exact Nat.lt_trans (hq _) (by decide), ?_⟩
    rw [ap_set]
    have z := fin (some (.int 1))
    have ez : Wst st (W.add (Sd.bottom, v)) = st ++ (((T10 st.length W).set 2 (some (.lst (inD (W.c .bottom) ++ [.int v]))) |>.set 7 (some (.lst ((W.q .bottom).map (quD st.length) ++ [quD st.length ((.bottom, v), W.ns.length)])))) ++ (nsS W.ns ++ [some (.lst (inD (needOf W (.bottom, v))))])) := by
      show st ++ (T10 st.length (W.add (Sd.bottom, v)) ++ nsS (W.ns ++ [needOf W (.bottom, v)])) = _
      rw [show nsS (W.ns ++ [needOf W (.bottom, v)]) = nsS W.ns ++ [some (.lst (inD (needOf W (.bottom, v))))] from List.map_append ..]
      rw [map_snoc (f := quD st.length) (xs := W.q .bottom) (x := ((Sd.bottom, v), W.ns.length)), map_snoc (f := D.int) (xs := W.c .bottom) (x := v)]
      rfl
    rw [ez] at z
    exact z
  | left =>
    have fin : ∀ e, N (env st Z (some Sd.left.d) (some (.int v)) (some (.int 3)) (some (.loc (st.length + (10 + W.ns.length)))) e) (Wst st (W.add (Sd.left, v))) := fun e => n _ _ _
    walk_at "g"
    rw [len0, mk0]
    walk_at "g"
    refine wp_for_cons (d := .int 0) (ρ' := env st Z (some Sd.left.d) (some (.int v)) (some (.int 3)) (some (.loc (st.length + (10 + W.ns.length)))) (some (.int 0))) (st' := _) rfl ?_
    refine nb_e (l := (.left, v)) (s := .top) (j := 0) (hl _) rfl rfl rfl (by decide) ?_
    refine wp_for_cons (d := .int 2) (ρ' := env st Z (some Sd.left.d) (some (.int v)) (some (.int 3)) (some (.loc (st.length + (10 + W.ns.length)))) (some (.int 2))) (st' := _) rfl ?_
    refine nb_e (l := (.left, v)) (s := .bottom) (j := 2) (hl _) rfl rfl rfl (by decide) ?_
    refine wp_for_nil ?_
    walk_at "g"
    refine gw_ix rfl rfl (c4 _) rfl ?_
    refine ⟨_, _, rfl, Xst_at (i := 3) (by decide) rfl, ?_⟩
    walk_at "g"
    refine ⟨_, Xst_at (i := 3) (by decide) rfl, by rw [List.length_map, sizeLine_e]; exact Nat.lt_trans (hl _) (by decide), ?_⟩
    rw [Xst_set (by decide)]
    walk_at "g"
    refine gw_ix rfl rfl (ap_at (i := 9)) rfl ?_
    refine ⟨_, _, rfl, ap_at (i := 8), ?_⟩
    walk_at "g"
    refine ⟨_, ap_at (i := 8), by rw [List.length_map, sizeLine_e]; exact Nat.lt_trans (hq _) (by decide), ?_⟩
    rw [ap_set]
    have z := fin (some (.int 2))
    have ez : Wst st (W.add (Sd.left, v)) = st ++ (((T10 st.length W).set 3 (some (.lst (inD (W.c .left) ++ [.int v]))) |>.set 8 (some (.lst ((W.q .left).map (quD st.length) ++ [quD st.length ((.left, v), W.ns.length)])))) ++ (nsS W.ns ++ [some (.lst (inD (needOf W (.left, v))))])) := by
      show st ++ (T10 st.length (W.add (Sd.left, v)) ++ nsS (W.ns ++ [needOf W (.left, v)])) = _
      rw [show nsS (W.ns ++ [needOf W (.left, v)]) = nsS W.ns ++ [some (.lst (inD (needOf W (.left, v))))] from List.map_append ..]
      rw [map_snoc (f := quD st.length) (xs := W.q .left) (x := ((Sd.left, v), W.ns.length)), map_snoc (f := D.int) (xs := W.c .left) (x := v)]
      rfl
    rw [ez] at z
    exact z
end TU

set_option Elab.async false
set_option linter.all false
set_option maxRecDepth 100000
set_option maxHeartbeats 8000000
/-! frames: the waiting lines as a tree -/
namespace TU
open PySem PySem.Spec PyProof.Rows L2 DL FL PD TP TR
local macro_rules | `(tactic| walk_at "g1") => `(tactic| first
  | with_reducible refine wp_dget ?_
  | with_reducible refine wp_din ?_
  | with_reducible refine wp_dput ?_
  | with_reducible refine wp_daug ?_
  | with_reducible refine wp_tru ?_
  | with_reducible refine wp_pop ?_
  | with_reducible refine wp_pop0 ?_
  | ((with_reducible apply wp_augN); (exact rfl))
  | with_reducible refine wp_disp ?_
  | with_reducible refine wp_pairs0 ?_
  | with_reducible refine wp_pairs ?_
  | with_reducible refine wp_call0 ?_ ?_
  | with_reducible refine wp_frz ?_
  | with_reducible refine wp_app ?_
  | with_reducible refine wp_make0 rfl ?_)
local macro_rules | `(tactic| walk_at "g1") => `(tactic| first
  | with_reducible refine wp_cmeth ?_
  | ((with_reducible apply wp_makeL); (exact rfl))
  | with_reducible refine wp_star ?_
  | with_reducible refine wp_lenO ?_
  | with_reducible refine gw_starT ?_
  | with_reducible refine gw_starL ?_)
variable {st : FL.St}
/-! ### own lists handed on as a tree -/
theorem frz_li {k : Nat} {l : Li} {S : FL.St} : frzD (k + 5) (liD l) S = some (liD l, S) := by simp only [frzD, frzL]
theorem frz_ints {S : FL.St} : ∀ {xs : List Int} {k : Nat}, xs.length < k → frzL k (inD xs) S = some (inD xs, S)
  | [], k, h => by
    cases k with
    | zero => exact absurd h (Nat.not_lt_zero _)
    | succ k => simp only [inD, List.map_nil, frzL]
  | x :: xs, k, h => by
    cases k with
    | zero => exact absurd h (Nat.not_lt_zero _)
    | succ k =>
      rw [List.length_cons] at h
      cases k with
      | zero => omega
      | succ k =>
        have q := frz_ints (S := S) (xs := xs) (k := k + 1) (by omega)
        simp only [inD, List.map_cons] at q ⊢
        rw [frzL]
        simp only [frzD]
        rw [q]
theorem frz_q {k a : Nat} {l : Li} {xs : List Int} {S : FL.St} (h : S[a]? = some (some (.lst (inD xs)))) (hx : xs.length = 4) : frzD (k + 10) (.tup [liD l, .loc a]) S = some (.tup [liD l, .lst (inD xs)], S.set a none) := by
  have e1 : frzL (k + 7) [.loc a] S = some ([.lst (inD xs)], S.set a none) := by
    rw [frzL, frzD]
    rw [h]
    dsimp only
    rw [frz_ints (by omega)]
    dsimp only
    rw [frzL]
  rw [frzD]
  rw [frzL, frz_li (k := k + 3)]
  dsimp only
  rw [show k + 8 = (k + 7) + 1 from rfl] at *
  have e2 : frzL (k + 8) [.loc a] S = some ([.lst (inD xs)], S.set a none) := by
    rw [frzL, frzD]
    rw [h]
    dsimp only
    rw [frz_ints (by omega)]
    dsimp only
    rw [frzL]
  rw [e2]
abbrev qfD (f : Nat → List Int) (q : Li × Nat) : D := .tup [liD q.1, .lst (inD (f q.2))]
theorem frz_qs {n : Nat} {f : Nat → List Int} : ∀ {xs : List (Li × Nat)} {k : Nat} {S : FL.St}, xs.length + 12 ≤ k → (∀ x ∈ xs, S[n + (10 + x.2)]? = some (some (.lst (inD (f x.2)))) ∧ (f x.2).length = 4) → (xs.map (·.2)).Nodup →
    ∃ S', frzL k (xs.map (quD n)) S = some (xs.map (qfD f), S') ∧ S'.length = S.length ∧ ∀ i, (∀ x ∈ xs, i ≠ n + (10 + x.2)) → S'[i]? = S[i]?
  | [], k, S, hk, _, _ => by
    refine ⟨S, ?_, rfl, fun _ _ => rfl⟩
    cases k with
    | zero => simp at hk
    | succ k => simp only [List.map_nil, frzL]
  | x :: xs, k, S, hk, hx, nd => by
    have nd' := List.nodup_cons.mp (show (x.2 :: xs.map (·.2)).Nodup from nd)
    rw [List.length_cons] at hk
    obtain ⟨k, rfl⟩ : ∃ k', k = k' + 11 := ⟨k - 11, by omega⟩
    obtain ⟨h1, h2⟩ := hx x List.mem_cons_self
    have ne : ∀ y ∈ xs, n + (10 + y.2) ≠ n + (10 + x.2) := fun y hy e => nd'.1 (List.mem_map.mpr ⟨y, hy, by omega⟩)
    obtain ⟨S', e1, e2, e3⟩ := frz_qs (n := n) (f := f) (xs := xs) (k := k + 10) (S := S.set (n + (10 + x.2)) none) (by omega) (fun y hy => by
      rw [List.getElem?_set_ne (Ne.symm (ne y hy))]
      exact hx y (List.mem_cons_of_mem _ hy)) nd'.2
    refine ⟨S', ?_, by rw [e2, List.length_set], fun i hi => ?_⟩
    · rw [List.map_cons, frzL, frz_q h1 h2]
      dsimp only
      rw [e1]
      rfl
    · rw [e3 i fun y hy => hi y (List.mem_cons_of_mem _ hy), List.getElem?_set_ne (Ne.symm (hi x List.mem_cons_self))]
/-! ### what stands in the queues -/
structure Wt.Ok (W : Wt) : Prop where
  lt : ∀ s, ∀ q ∈ W.q s, q.2 < W.ns.length
  nd : ∀ s, ((W.q s).map (·.2)).Nodup
  ap : ∀ s s', ∀ q ∈ W.q s, ∀ q' ∈ W.q s', q.2 = q'.2 → s = s'
  n4 : ∀ x ∈ W.ns, x.length = 4
theorem Wt.none_ok : Wt.none.Ok := ⟨fun s q h => (by cases h), fun s => List.nodup_nil, fun s s' q h => (by cases h), fun x h => (by cases h)⟩
theorem need_len {W : Wt} {l : Li} : (needOf W l).length = 4 := by
  obtain ⟨s, v⟩ := l
  cases s <;> rfl
theorem mem_up {α : Type} {f : Sd → List α} {s k : Sd} {x y : α} (h : y ∈ upS f s x k) : y ∈ f k ∨ (k = s ∧ y = x) := by
  unfold upS at h
  split at h
  · rename_i e
    rcases List.mem_append.mp h with h | h
    · exact .inl h
    · exact .inr ⟨e, by simpa using h⟩
  · exact .inl h
theorem Wt.Ok.add {W : Wt} (o : W.Ok) (l : Li) : (W.add l).Ok := by
  have len : (W.add l).ns.length = W.ns.length + 1 := by
    show (W.ns ++ [needOf W l]).length = _
    rw [List.length_append]
    rfl
  refine ⟨fun s q h => ?_, fun s => ?_, fun s s' q h q' h' e => ?_, fun x h => ?_⟩
  · rw [len]
    rcases mem_up h with h | ⟨_, rfl⟩
    · exact Nat.lt_succ_of_lt (o.lt s q h)
    · exact Nat.lt_succ_self _
  · show ((upS W.q l.1 (l, W.ns.length) s).map (·.2)).Nodup
    unfold upS
    split
    · rw [List.map_append, List.nodup_append]
      refine ⟨o.nd s, by simp, fun a ha b hb e => ?_⟩
      obtain ⟨q, hq, rfl⟩ := List.mem_map.mp ha
      have := o.lt s q hq
      simp at hb
      omega
    · exact o.nd s
  · rcases mem_up h with h | ⟨rfl, rfl⟩
    · rcases mem_up h' with h' | ⟨rfl, rfl⟩
      · exact o.ap s s' q h q' h' e
      · have := o.lt s q h
        have e : q.2 = W.ns.length := e
        omega
    · rcases mem_up h' with h' | ⟨rfl, rfl⟩
      · have := o.lt s' q' h'
        have e : W.ns.length = q'.2 := e
        omega
      · rfl
  · rcases List.mem_append.mp h with h | h
    · exact o.n4 x h
    · have : x = needOf W l := by simpa using h
      rw [this]
      exact need_len
/-- the colours and queues without the places -/
structure Ws where
  c : Sd → List Int
  q : Sd → List (Li × List Int)
def Ws.none : Ws := ⟨fun _ => [], fun _ => []⟩
def Ws.need (W : Ws) (l : Li) : List Int := match l.1 with
  | .top | .bottom => [0, (nlu (W.c .right) l.2 : Nat), 0, (nlu (W.c .left) l.2 : Nat)]
  | .right | .left => [(nlu (W.c .top) l.2 : Nat), 0, (nlu (W.c .bottom) l.2 : Nat), 0]
def Ws.add (W : Ws) (l : Li) : Ws := ⟨upS W.c l.1 l.2, upS W.q l.1 (l, W.need l)⟩
def Ws.all (W : Ws) (ls : List Li) : Ws := ls.foldl Ws.add W
def vis (W : Wt) : Ws := ⟨W.c, fun s => (W.q s).map fun q => (q.1, W.ns.getD q.2 [])⟩
theorem vis_add {W : Wt} (o : W.Ok) (l : Li) : vis (W.add l) = (vis W).add l := by
  have en : (vis W).need l = needOf W l := rfl
  have eq : (fun s => ((W.add l).q s).map fun q => (q.1, (W.add l).ns.getD q.2 [])) = upS (vis W).q l.1 (l, (vis W).need l) := by
    funext s
    have old : ((W.q s).map fun q => (q.1, (W.ns ++ [needOf W l]).getD q.2 [])) = (W.q s).map fun q => (q.1, W.ns.getD q.2 []) := by
      refine List.map_congr_left fun q hq => ?_
      have := o.lt s q hq
      rw [List.getD_eq_getElem?_getD, List.getD_eq_getElem?_getD, List.getElem?_append_left this]
    show ((upS W.q l.1 (l, W.ns.length) s).map fun q => (q.1, (W.ns ++ [needOf W l]).getD q.2 [])) = upS (vis W).q l.1 (l, (vis W).need l) s
    unfold upS
    by_cases e : s = l.1
    · rw [if_pos e, if_pos e, List.map_append, old, en]
      have : (W.ns ++ [needOf W l]).getD W.ns.length [] = needOf W l := by
        rw [List.getD_eq_getElem?_getD, List.getElem?_append_right (Nat.le_refl _), Nat.sub_self]
        rfl
      rw [List.map_singleton, this]
      rfl
    · rw [if_neg e, if_neg e, old]
      rfl
  show Ws.mk _ _ = Ws.mk _ _
  rw [eq]
  rfl
theorem all_ok : ∀ {ls : List Li} {W : Wt}, W.Ok → (W.all ls).Ok ∧ vis (W.all ls) = (vis W).all ls
  | [], W, o => ⟨o, rfl⟩
  | l :: ls, W, o => by
    have q := all_ok (ls := ls) (o.add l)
    refine ⟨q.1, q.2.trans ?_⟩
    rw [vis_add o]
    rfl
abbrev Wn (ls : List Li) : Ws := Ws.none.all ls
/-- lengths -/
theorem up_len {α : Type} {f : Sd → List α} {s k : Sd} {x : α} : (upS f s x k).length ≤ (f k).length + 1 := by
  unfold upS
  split
  · rw [List.length_append]
    exact Nat.le_refl _
  · exact Nat.le_succ _
@[reducible] def qD (q : Li × List Int) : D := .tup [liD q.1, .lst (inD q.2)]
@[reducible] def wnD (W : Ws) : D := .lst [.lst ((W.q .top).map qD), .lst ((W.q .right).map qD), .lst ((W.q .bottom).map qD), .lst ((W.q .left).map qD)]
end TU

set_option Elab.async false
set_option linter.all false
set_option maxRecDepth 100000
set_option maxHeartbeats 8000000
/-! frames: what _waiting_lines returns -/
namespace TU
open PySem PySem.Spec PyProof.Rows L2 DL FL PD TP TR
local macro_rules | `(tactic| walk_at "g1") => `(tactic| first
  | with_reducible refine wp_dget ?_
  | with_reducible refine wp_din ?_
  | with_reducible refine wp_dput ?_
  | with_reducible refine wp_daug ?_
  | with_reducible refine wp_tru ?_
  | with_reducible refine wp_pop ?_
  | with_reducible refine wp_pop0 ?_
  | ((with_reducible apply wp_augN); (exact rfl))
  | with_reducible refine wp_disp ?_
  | with_reducible refine wp_pairs0 ?_
  | with_reducible refine wp_pairs ?_
  | with_reducible refine wp_call0 ?_ ?_
  | with_reducible refine wp_frz ?_
  | with_reducible refine wp_app ?_
  | with_reducible refine wp_make0 rfl ?_)
local macro_rules | `(tactic| walk_at "g1") => `(tactic| first
  | with_reducible refine wp_cmeth ?_
  | ((with_reducible apply wp_makeL); (exact rfl))
  | with_reducible refine wp_star ?_
  | with_reducible refine wp_lenO ?_
  | with_reducible refine gw_starT ?_
  | with_reducible refine gw_starL ?_)
variable {st : FL.St}
/-- own objects that tell of nothing beyond -/
def Low (st : FL.St) : Prop := ∀ n, st.length ≤ n → st.all (lowO n) = true
theorem clean_low (h : Clean st) : Low st := fun n _ => h n
theorem gcF_low {t : FL.St} (h : Low st) : gcF st.length true (st ++ t) = st := gcF_app (h _ (Nat.le_refl _))
theorem gc_low {d : D} (hd : noLoc d = true) (h : Low st) : gc st.length d (st ++ [Option.none]) = st := gc_app hd rfl (h _ (Nat.le_refl _))
theorem Wst_at {W : Wt} {i : Nat} {y : Option DO} (hi : i < 10) (h : (T10 st.length W)[i]? = some y) : (Wst st W)[st.length + i]? = some y := by
  rw [ap_at, List.getElem?_append_left (by rw [T10_len]; exact hi)]
  exact h
theorem Wst_need {W : Wt} {j : Nat} (hj : j < W.ns.length) : (Wst st W)[st.length + (10 + j)]? = some (some (.lst (inD (W.ns.getD j [])))) := by
  rw [ap_at, List.getElem?_append_right (by rw [T10_len]; omega), T10_len, show 10 + j - 10 = j by omega, List.getElem?_map, List.getD_eq_getElem?_getD, List.getElem?_eq_getElem hj]
  rfl
/-- one queue -/
theorem frz_one {W : Wt} (o : W.Ok) {s : Sd} {K i : Nat} {S : FL.St} (hK : (W.q s).length + 20 ≤ K) (hi : i < 10) (h : S[st.length + i]? = some (some (.lst ((W.q s).map (quD st.length))))) (hn : ∀ q ∈ W.q s, S[st.length + (10 + q.2)]? = some (some (.lst (inD (W.ns.getD q.2 []))))) :
    ∃ S', frzD K (.loc (st.length + i)) S = some (.lst (((vis W).q s).map qD), S') ∧ S'.length = S.length ∧ ∀ k, k ≠ st.length + i → (∀ q ∈ W.q s, k ≠ st.length + (10 + q.2)) → S'[k]? = S[k]? := by
  obtain ⟨K, rfl⟩ : ∃ k, K = k + 1 := ⟨K - 1, by omega⟩
  obtain ⟨S', e1, e2, e3⟩ := frz_qs (n := st.length) (f := fun j => W.ns.getD j []) (xs := W.q s) (k := K) (S := S.set (st.length + i) none) (by omega) (fun q hq => by
    refine ⟨?_, ?_⟩
    · rw [List.getElem?_set_ne (by omega)]
      exact hn q hq
    · refine o.n4 _ ?_
      have := o.lt s q hq
      rw [List.getD_eq_getElem?_getD, List.getElem?_eq_getElem this]
      exact List.getElem_mem this) (o.nd s)
  refine ⟨S', ?_, by rw [e2, List.length_set], fun k h1 h2 => ?_⟩
  · rw [frzD]
    rw [h]
    dsimp only
    rw [e1]
    dsimp only
    have : ((vis W).q s).map qD = (W.q s).map (qfD fun j => W.ns.getD j []) := by
      show ((W.q s).map _).map qD = _
      rw [List.map_map]
      rfl
    rw [this]
  · rw [e3 k h2, List.getElem?_set_ne (Ne.symm h1)]
theorem frz_all {W : Wt} (o : W.Ok) (hq : ∀ s, (W.q s).length ≤ 50000) : ∃ S', frzD 100000 (.loc (st.length + 9)) (Wst st W) = some (wnD (vis W), S') ∧ S'.length = (Wst st W).length ∧ ∀ k, k < st.length → S'[k]? = (Wst st W)[k]? := by
  obtain ⟨K, eK, hK⟩ : ∃ K, 100000 = K + 20 ∧ K = 99980 := ⟨99980, rfl, rfl⟩
  rw [eK]
  have nd : ∀ {S : FL.St}, (∀ k, S[st.length + (10 + k)]? = (Wst st W)[st.length + (10 + k)]?) → ∀ s, ∀ q ∈ W.q s, S[st.length + (10 + q.2)]? = some (some (.lst (inD (W.ns.getD q.2 [])))) := fun h s q hq => by
    rw [h]
    exact Wst_need (o.lt s q hq)
  have ap : ∀ s s', s ≠ s' → ∀ q ∈ W.q s, ∀ q' ∈ W.q s', st.length + (10 + q.2) ≠ st.length + (10 + q'.2) := fun s s' hs q hq q' hq' e => hs (o.ap s s' q hq q' hq' (by omega))
  have s0 : ((Wst st W).set (st.length + 9) none).length = (Wst st W).length := List.length_set
  have g0 : ∀ k, k ≠ st.length + 9 → ((Wst st W).set (st.length + 9) none)[k]? = (Wst st W)[k]? := fun k h => List.getElem?_set_ne (Ne.symm h)
  obtain ⟨S1, a1, a2, a3⟩ := frz_one (st := st) o (s := .top) (K := K + 18) (i := 5) (S := (Wst st W).set (st.length + 9) none) (by have := hq .top; omega) (by decide) ((g0 _ (by omega)).trans (Wst_at (by decide) rfl)) fun q hq => (g0 _ (by omega)).trans (Wst_need (o.lt _ q hq))
  obtain ⟨S2, b1, b2, b3⟩ := frz_one (st := st) o (s := .right) (K := K + 17) (i := 6) (S := S1) (by have := hq .right; omega) (by decide) ((a3 _ (by omega) (fun q hq => by omega)).trans ((g0 _ (by omega)).trans (Wst_at (by decide) rfl)))
    fun q hq => (a3 _ (by omega) (ap .right .top (by decide) q hq)).trans ((g0 _ (by omega)).trans (Wst_need (o.lt _ q hq)))
  obtain ⟨S3, c1, c2, c3⟩ := frz_one (st := st) o (s := .bottom) (K := K + 16) (i := 7) (S := S2) (by have := hq .bottom; omega) (by decide) ((b3 _ (by omega) (fun q hq => by omega)).trans ((a3 _ (by omega) (fun q hq => by omega)).trans ((g0 _ (by omega)).trans (Wst_at (by decide) rfl))))
    fun q hq => (b3 _ (by omega) (ap .bottom .right (by decide) q hq)).trans ((a3 _ (by omega) (ap .bottom .top (by decide) q hq)).trans ((g0 _ (by omega)).trans (Wst_need (o.lt _ q hq))))
  obtain ⟨S4, d1, d2, d3⟩ := frz_one (st := st) o (s := .left) (K := K + 15) (i := 8) (S := S3) (by have := hq .left; omega) (by decide) ((c3 _ (by omega) (fun q hq => by omega)).trans ((b3 _ (by omega) (fun q hq => by omega)).trans ((a3 _ (by omega) (fun q hq => by omega)).trans ((g0 _ (by omega)).trans (Wst_at (by decide) rfl)))))
    fun q hq => (c3 _ (by omega) (ap .left .bottom (by decide) q hq)).trans ((b3 _ (by omega) (ap .left .right (by decide) q hq)).trans ((a3 _ (by omega) (ap .left .top (by decide) q hq)).trans ((g0 _ (by omega)).trans (Wst_need (o.lt _ q hq)))))
  refine ⟨S4, ?_, by rw [d2, c2, b2, a2, s0], fun k hk => ?_⟩
  · have h9 : (Wst st W)[st.length + 9]? = some (some (.lst [.loc (st.length + 5), .loc (st.length + 6), .loc (st.length + 7), .loc (st.length + 8)])) := Wst_at (by decide) rfl
    rw [show K + 20 = (K + 19) + 1 from rfl, frzD]
    rw [h9]
    dsimp only
    rw [show K + 19 = (K + 18) + 1 from rfl, frzL, a1]
    dsimp only
    rw [show K + 18 = (K + 17) + 1 from rfl, frzL, b1]
    dsimp only
    rw [show K + 17 = (K + 16) + 1 from rfl, frzL, c1]
    dsimp only
    rw [show K + 16 = (K + 15) + 1 from rfl, frzL, d1]
    dsimp only
    rw [show K + 15 = (K + 14) + 1 from rfl, frzL]
  · rw [d3 k (by omega) (fun q hq => by omega), c3 k (by omega) (fun q hq => by omega), b3 k (by omega) (fun q hq => by omega), a3 k (by omega) (fun q hq => by omega), g0 k (by omega)]
/-! ### the loop over the lines -/
theorem wt_loop {Z : D} {R : D → FL.St → Prop} {B C : Rho → FL.St → Prop} {N : Rho → FL.St → Prop} {E : Exn → Rho → FL.St → Prop} : ∀ {ls : List Li} {W : Wt} {a b c d e : Option D}, (∀ s, (W.c s).length + ls.length < 1000000) → (∀ s, (W.q s).length + ls.length < 1000000) →
    (∀ a b c d e, N (env st Z a b c d e) (Wst st (W.all ls))) → (fForGo g_wt b_wt (ls.map liD) (env st Z a b c d e) (Wst st W)).wp ⟨N, R, B, C, E⟩
  | [], W, a, b, c, d, e, h1, h2, n => wp_for_nil (n _ _ _ _ _)
  | l :: ls, W, a, b, c, d, e, h1, h2, n => by
    refine wp_for_cons (d := liD l) (ρ' := env st Z (some l.1.d) (some (.int l.2)) c d e) (st' := Wst st W) rfl ?_
    refine wt_step (a := a) (b := b) (fun s => by have := h1 s; simp at this; omega) (fun s => by have := h2 s; simp at this; omega) fun c d e => ?_
    refine wt_loop (ls := ls) (W := W.add l) (fun s => ?_) (fun s => ?_) n
    · have := h1 s
      have q := up_len (f := W.c) (s := l.1) (k := s) (x := l.2)
      show (upS W.c l.1 l.2 s).length + ls.length < 1000000
      simp at this
      omega
    · have := h2 s
      have q := up_len (f := W.q) (s := l.1) (k := s) (x := (l, W.ns.length))
      show (upS W.q l.1 (l, W.ns.length) s).length + ls.length < 1000000
      simp at this
      omega
theorem q_len : ∀ {ls : List Li} {W : Wt} {s : Sd}, ((W.all ls).q s).length ≤ (W.q s).length + ls.length
  | [], W, s => Nat.le_refl _
  | l :: ls, W, s => by
    have q := q_len (ls := ls) (W := W.add l) (s := s)
    have u := up_len (f := W.q) (s := l.1) (k := s) (x := (l, W.ns.length))
    have e : ((W.add l).q s) = upS W.q l.1 (l, W.ns.length) s := rfl
    rw [e] at q
    show (((W.add l).all ls).q s).length ≤ _
    rw [List.length_cons]
    omega
theorem qs_nl {qs : List (Li × List Int)} : noLocL (qs.map qD) = true := by
  rw [noLocL_all]
  intro d h
  obtain ⟨q, _, e⟩ := List.mem_map.mp h
  rw [← e]
  show (noLoc (liD q.1) && (noLoc (.lst (inD q.2)) && true)) = true
  have : noLoc (.lst (inD q.2)) = true := by
    show noLocL (inD q.2) = true
    rw [noLocL_all]
    intro d h
    obtain ⟨i, _, e⟩ := List.mem_map.mp h
    rw [← e]
    rfl
  rw [this]
  rfl
theorem wn_nl {W : Ws} : noLoc (wnD W) = true := by
  show (noLocL ((W.q .top).map qD) && (noLocL ((W.q .right).map qD) && (noLocL ((W.q .bottom).map qD) && (noLocL ((W.q .left).map qD) && true)))) = true
  rw [qs_nl, qs_nl, qs_nl, qs_nl]
  rfl
theorem waiting_e {t : Bool} {ls : List Li} (hl : ls.length ≤ 40000) (hc : Low st) : e_waiting_lines [sq t (ls.map liD)] st = .ok (wnD (Wn ls)) st := by
  have e0 : (∀ {x : FL.St}, x.length = st.length → True) := fun _ => trivial
  refine Res.eq_wp (wp_body ?_)
  unfold p_waiting_lines
  walk_at "g"
  simp only [List.length_append, List.length_cons, List.length_nil, List.append_assoc, List.cons_append, List.nil_append]
  refine ⟨ls.map liD, seql, ?_⟩
  refine wt_loop (W := Wt.none) (a := none) (b := none) (c := none) (d := none) (e := none) (fun s => ?_) (fun s => ?_) fun a b c d e => ?_
  · show 0 + ls.length < 1000000
    omega
  · show 0 + ls.length < 1000000
    omega
  walk_at "g"
  refine wp_frzD ?_
  walk_at "g"
  obtain ⟨o, ev⟩ := all_ok (ls := ls) Wt.none_ok
  obtain ⟨S', e1, e2, e3⟩ := frz_all (st := st) o fun s => by
    have := q_len (ls := ls) (W := Wt.none) (s := s)
    have z : (Wt.none.q s).length = 0 := rfl
    omega
  refine ⟨_, S', e1, ?_⟩
  refine ⟨by rw [ev]; rfl, ?_⟩
  have tk : S'.take st.length = st := by
    apply List.ext_getElem?
    intro i
    rw [List.getElem?_take]
    split
    · rename_i h
      rw [e3 i h, List.getElem?_append_left h]
    · rename_i h
      rw [List.getElem?_eq_none (by omega)]
  unfold gcF
  rw [tk, if_pos ⟨wn_nl, hc _ (Nat.le_refl _)⟩]
end TU

set_option Elab.async false
set_option linter.all false
set_option maxRecDepth 100000
set_option maxHeartbeats 8000000
/-! frames: what may come next -/
namespace TU
open PySem PySem.Spec PyProof.Rows L2 DL FL PD TP TR
local macro_rules | `(tactic| walk_at "g1") => `(tactic| first
  | with_reducible refine wp_dget ?_
  | with_reducible refine wp_din ?_
  | with_reducible refine wp_dput ?_
  | with_reducible refine wp_daug ?_
  | with_reducible refine wp_tru ?_
  | with_reducible refine wp_pop ?_
  | with_reducible refine wp_pop0 ?_
  | ((with_reducible apply wp_augN); (exact rfl))
  | with_reducible refine wp_disp ?_
  | with_reducible refine wp_pairs0 ?_
  | with_reducible refine wp_pairs ?_
  | with_reducible refine wp_call0 ?_ ?_
  | with_reducible refine wp_frz ?_
  | with_reducible refine wp_app ?_
  | with_reducible refine wp_make0 rfl ?_)
local macro_rules | `(tactic| walk_at "g1") => `(tactic| first
  | with_reducible refine wp_cmeth ?_
  | ((with_reducible apply wp_makeL); (exact rfl))
  | with_reducible refine wp_star ?_
  | with_reducible refine wp_lenO ?_
  | with_reducible refine gw_starT ?_
  | with_reducible refine gw_starL ?_)
variable {st : FL.St}
abbrev Pl := Sd → Nat
@[reducible] def plD (p : Pl) : D := .tup [.int (p .top : Nat), .int (p .right : Nat), .int (p .bottom : Nat), .int (p .left : Nat)]
def inc (p : Pl) (s : Sd) : Pl := fun k => if k = s then p k + 1 else p k
def plL (p : Pl) : List Int := [(p .top : Nat), (p .right : Nat), (p .bottom : Nat), (p .left : Nat)]
def readyB (ns : List Int) (p : Pl) : Bool := (ns.zip (plL p)).all fun x => decide (x.1 ≤ x.2)
def nextS (W : Ws) (p : Pl) (s : Sd) : List (Li × Pl) := match (W.q s)[p s]? with
  | none => []
  | some (l, ns) => if readyB ns p = true then [(l, inc p s)] else []
def nextL (W : Ws) (p : Pl) : List (Li × Pl) := nextS W p .top ++ (nextS W p .right ++ (nextS W p .bottom ++ nextS W p .left))
@[reducible] def nxD (x : Li × Pl) : D := .tup [liD x.1, plD x.2]
abbrev g_nx : fG := fGt 2 (fGc (fGn 3) (fGc (fGn 4) fGl))
abbrev b_nx : fS := (fSeq (fIfS (fTest (fBin oEq (fBin oIx (fVar 1) (fVar 3)) (fFn lLen (fCons (fVar 4) fNil)))) fCt fNext) (fSeq (fAsg (fBin oIx (fVar 4) (fBin oIx (fVar 1) (fVar 3))) (fGt 2 (fGc (fGn 5) (fGc (fGn 6) fGl)))) (fIfS (fTest (fFn lAll (fCons (fLc (iZp (fCons (fVar 6) (fCons (fVar 1) fNil))) (fGt 2 (fGc (fGn 7) (fGc (fGn 8) fGl))) fYes (fBin oLe (fVar 7) (fVar 8)) [7, 8]) fNil))) (fDrop (fApp (fVar 2) (fTup (fCons (fVar 5) (fCons (fTup (fStar (fSl (fVar 1) fPn (fPs (fVar 3))) (fCons (fBin oAdd (fBin oIx (fVar 1) (fVar 3)) (fC (.int 1))) (fStar (fSl (fVar 1) (fPs (fBin oAdd (fVar 3) (fC (.int 1)))) fPn) fNil)))) fNil))))) fNext)))
structure WsOk (W : Ws) : Prop where
  n4 : ∀ s, ∀ q ∈ W.q s, q.2.length = 4
def hN : Sd → Nat
  | .top => 0
  | .right => 1
  | .bottom => 2
  | .left => 3
theorem cut_pl {p : Pl} {s : Sd} : oCut (plD p) none (some (hN s : Nat)) = some (.tup (((plL p).map D.int).take (hN s))) ∧ oCut (plD p) (some ((hN s : Nat) + 1)) none = some (.tup (((plL p).map D.int).drop (hN s + 1))) ∧ oIx (plD p) (.int (hN s : Nat)) = some (.int (p s : Nat)) := by
  cases s <;> exact ⟨rfl, rfl, rfl⟩
theorem inc_e {p : Pl} {s : Sd} : (.tup (((plL p).map D.int).take (hN s) ++ (D.int ((p s : Nat) + 1) :: (((plL p).map D.int).drop (hN s + 1) ++ []))) : D) = plD (inc p s) := by
  cases s <;> rfl
theorem nx_step {W : Ws} {p : Pl} {s : Sd} {WD : D} {acc : List (Li × Pl)} {a b : Option D} {R : D → FL.St → Prop} {B C : Rho → FL.St → Prop} {N : Rho → FL.St → Prop} {E : Exn → Rho → FL.St → Prop} (o : WsOk W) (hp : p s ≤ (W.q s).length) (hq : (W.q s).length < 1000000) (ha : acc.length ≤ 10)
    (n : ∀ a b, N [some WD, some (plD p), some (.loc st.length), some (.int (hN s : Nat)), some (.lst ((W.q s).map qD)), a, b, none, none] (st ++ [some (.lst ((acc ++ nextS W p s).map nxD))]))
    (n2 : ∀ a b, C [some WD, some (plD p), some (.loc st.length), some (.int (hN s : Nat)), some (.lst ((W.q s).map qD)), a, b, none, none] (st ++ [some (.lst ((acc ++ nextS W p s).map nxD))])) :
    (b_nx [some WD, some (plD p), some (.loc st.length), some (.int (hN s : Nat)), some (.lst ((W.q s).map qD)), a, b, none, none] (st ++ [some (.lst (acc.map nxD))])).wp ⟨N, R, B, C, E⟩ := by
  obtain ⟨c1, c2, c3⟩ := cut_pl (p := p) (s := s)
  have e1 : lLen [.lst ((W.q s).map qD)] = some (.int ((W.q s).length : Nat)) := by
    show some (D.int (((W.q s).map qD).length : Nat)) = _
    rw [List.length_map]
  by_cases he : p s = (W.q s).length
  · have en : nextS W p s = [] := by
      unfold nextS
      rw [List.getElem?_eq_none (by omega)]
    rw [en, List.append_nil] at n2
    have d1 : (((p s : Nat) : Int) == ((W.q s).length : Nat)) = true := by rw [he]; exact beq_self_eq_true _
    walk_at "g"
    exact n2 _ _
  · have lt : p s < (W.q s).length := by omega
    have d1 : (((p s : Nat) : Int) == ((W.q s).length : Nat)) = false := by
      rw [beq_eq_false_iff_ne]
      omega
    obtain ⟨⟨l, ns⟩, hx⟩ : ∃ x, (W.q s)[p s]? = some x := ⟨_, List.getElem?_eq_getElem lt⟩
    have e2 : oIx (.lst ((W.q s).map qD)) (.int (p s : Nat)) = some (qD (l, ns)) := by
      rw [oIx_lst, at_nat (by rw [List.length_map]; exact lt), List.getElem_map]
      have := List.getElem?_eq_getElem lt
      rw [hx] at this
      rw [← Option.some.inj this]
    have h4 : ns.length = 4 := o.n4 s _ (List.mem_of_getElem? hx)
    obtain ⟨n0, n1, n2', n3, rfl⟩ : ∃ a b c d, ns = [a, b, c, d] := by
      match ns, h4 with
      | [a, b, c, d], _ => exact ⟨a, b, c, d, rfl⟩
    walk_at "g"
    refine wp_zipI ?_
    walk_at "g"
    refine ⟨[(n0, ((p .top : Nat) : Int)), (n1, ((p .right : Nat) : Int)), (n2', ((p .bottom : Nat) : Int)), (n3, ((p .left : Nat) : Int))].map (fun x : Int × Int => D.tup [.int x.1, .int x.2]), rfl, ?_⟩
    refine wp_lc_map (fun x : Int × Int => D.bl (decide (x.1 ≤ x.2))) (by show 4 ≤ 1000000; decide) (fun x _ => ⟨_, rfl, ?_⟩) ?_
    · walk_at "g"
      exact ⟨rfl, rfl⟩
    walk_at "g"
    refine gw_op lAll_map ?_
    by_cases hr : readyB [n0, n1, n2', n3] p = true
    · have en : nextS W p s = [(l, inc p s)] := by
        unfold nextS
        rw [hx]
        exact if_pos hr
      rw [en] at n
      have hr' : ([(n0, ((p .top : Nat) : Int)), (n1, ((p .right : Nat) : Int)), (n2', ((p .bottom : Nat) : Int)), (n3, ((p .left : Nat) : Int))].all fun x => decide (x.1 ≤ x.2)) = true := hr
      walk_at "g"
      refine ⟨_, _, rfl, ap_at0, ?_⟩
      walk_at "g"
      refine ⟨by cases s <;> exact (by decide : 4 ≤ sizeLine), ?_⟩
      rw [inc_e]
      walk_at "g"
      refine ⟨_, ap_at0, by rw [List.length_map, sizeLine_e]; omega, ?_⟩
      rw [ap_set0]
      have m : acc.map nxD ++ [D.tup [liD l, plD (inc p s)]] = (acc ++ [(l, inc p s)]).map nxD := map_snoc (f := nxD) (xs := acc) (x := (l, inc p s))
      rw [← m] at n
      exact n _ _
    · have en : nextS W p s = [] := by
        unfold nextS
        rw [hx]
        exact if_neg hr
      have hr' : ([(n0, ((p .top : Nat) : Int)), (n1, ((p .right : Nat) : Int)), (n2', ((p .bottom : Nat) : Int)), (n3, ((p .left : Nat) : Int))].all fun x => decide (x.1 ≤ x.2)) = false := by
        have : readyB [n0, n1, n2', n3] p = false := by simpa using hr
        exact this
      rw [en, List.append_nil] at n
      walk_at "g"
      exact n _ _
theorem nxs_nl {xs : List (Li × Pl)} : noLocL (xs.map nxD) = true := by
  rw [noLocL_all]
  intro d h
  obtain ⟨q, _, e⟩ := List.mem_map.mp h
  rw [← e]
  rfl
/-- next lines -/
theorem next_e {W : Ws} {p : Pl} (o : WsOk W) (hp : ∀ s, p s ≤ (W.q s).length) (hq : ∀ s, (W.q s).length < 1000000) (hc : Low st) : e_next_lines [wnD W, plD p] st = .ok (.lst ((nextL W p).map nxD)) st := by
  refine Res.eq_wp (wp_body ?_)
  unfold p_next_lines
  walk_at "g"
  have n1 : ∀ s, (nextS W p s).length ≤ 1 := fun s => by
    unfold nextS
    split
    · exact Nat.zero_le _
    · split
      · exact Nat.le_refl _
      · exact Nat.zero_le _
  have turn : ∀ (s : Sd) (acc : List (Li × Pl)) (c d a b : Option D) {R : D → FL.St → Prop} {B C : Rho → FL.St → Prop} {N : Rho → FL.St → Prop} {E : Exn → Rho → FL.St → Prop} (ds : List D), acc.length ≤ 10 →
      (∀ c d a b, (fForGo g_nx b_nx ds [some (wnD W), some (plD p), some (.loc st.length), c, d, a, b, none, none] (st ++ [some (.lst ((acc ++ nextS W p s).map nxD))])).wp ⟨N, R, B, C, E⟩) →
      (fForGo g_nx b_nx (.tup [.int (hN s : Nat), .lst ((W.q s).map qD)] :: ds) [some (wnD W), some (plD p), some (.loc st.length), c, d, a, b, none, none] (st ++ [some (.lst (acc.map nxD))])).wp ⟨N, R, B, C, E⟩ := fun s acc c d a b {R B C N E} ds ha h => by
    refine wp_for_cons (d := .tup [.int (hN s : Nat), .lst ((W.q s).map qD)]) (ρ' := [some (wnD W), some (plD p), some (.loc st.length), some (.int (hN s : Nat)), some (.lst ((W.q s).map qD)), a, b, none, none]) (st' := st ++ [some (.lst (acc.map nxD))]) rfl ?_
    exact nx_step o (hp s) (hq s) ha (fun a b => h _ _ a b) fun a b => h _ _ a b
  refine turn .top [] none none none none _ (by decide) fun c d a b => ?_
  refine turn .right _ c d a b _ (by have := n1 .top; simp; omega) fun c d a b => ?_
  refine turn .bottom _ c d a b _ (by have := n1 .top; have := n1 .right; simp; omega) fun c d a b => ?_
  refine turn .left _ c d a b _ (by have := n1 .top; have := n1 .right; have := n1 .bottom; simp; omega) fun c d a b => ?_
  refine wp_for_nil ?_
  walk_at "g"
  refine ⟨_, _, rfl, ap_at0, ?_⟩
  rw [ap_set0]
  refine ⟨?_, ?_⟩
  · show D.lst _ = _
    rw [List.nil_append, List.append_assoc, List.append_assoc]
    rfl
  · rw [show noLoc (DO.lst _).tree = true from nxs_nl]
    exact gcF_low hc
end TU

set_option Elab.async false
set_option linter.all false
set_option maxRecDepth 100000
set_option maxHeartbeats 8000000
/-! frames: the least order -/
namespace TU
open PySem PySem.Spec PyProof.Rows L2 DL FL PD TP TR
local macro_rules | `(tactic| walk_at "g1") => `(tactic| first
  | with_reducible refine wp_dget ?_
  | with_reducible refine wp_din ?_
  | with_reducible refine wp_dput ?_
  | with_reducible refine wp_daug ?_
  | with_reducible refine wp_tru ?_
  | with_reducible refine wp_pop ?_
  | with_reducible refine wp_pop0 ?_
  | ((with_reducible apply wp_augN); (exact rfl))
  | with_reducible refine wp_disp ?_
  | with_reducible refine wp_pairs0 ?_
  | with_reducible refine wp_pairs ?_
  | with_reducible refine wp_call0 ?_ ?_
  | with_reducible refine wp_frz ?_
  | with_reducible refine wp_app ?_
  | with_reducible refine wp_make0 rfl ?_)
local macro_rules | `(tactic| walk_at "g1") => `(tactic| first
  | with_reducible refine wp_cmeth ?_
  | ((with_reducible apply wp_makeL); (exact rfl))
  | with_reducible refine wp_star ?_
  | with_reducible refine wp_lenO ?_
  | with_reducible refine gw_starT ?_
  | with_reducible refine gw_starL ?_)
variable {st : FL.St}
/-! ### some line may always come -/
theorem all_pre : ∀ {ls : List Li} {W : Ws} {s : Sd}, ∃ t, (W.all ls).q s = W.q s ++ t
  | [], W, s => ⟨[], (List.append_nil _).symm⟩
  | l :: ls, W, s => by
    obtain ⟨t, e⟩ := all_pre (ls := ls) (W := W.add l) (s := s)
    by_cases h : s = l.1
    · refine ⟨(l, W.need l) :: t, ?_⟩
      show ((W.add l).all ls).q s = _
      rw [e]
      show upS W.q l.1 (l, W.need l) s ++ t = _
      unfold upS
      rw [if_pos h, List.append_assoc]
      rfl
    · refine ⟨t, ?_⟩
      show ((W.add l).all ls).q s = _
      rw [e]
      show upS W.q l.1 (l, W.need l) s ++ t = _
      unfold upS
      rw [if_neg h]
/-- as many colours as lines, four needs each -/
structure Ws.Ok (W : Ws) : Prop where
  cq : ∀ s, (W.c s).length = (W.q s).length
  n4 : ∀ s, ∀ q ∈ W.q s, q.2.length = 4
theorem Ws.none_ok : Ws.none.Ok := ⟨fun _ => rfl, fun s q h => (by cases h)⟩
theorem wneed_len {W : Ws} {l : Li} : (W.need l).length = 4 := by
  obtain ⟨s, v⟩ := l
  cases s <;> rfl
theorem Ws.Ok.add {W : Ws} (o : W.Ok) (l : Li) : (W.add l).Ok := by
  refine ⟨fun s => ?_, fun s q h => ?_⟩
  · show (upS W.c l.1 l.2 s).length = (upS W.q l.1 (l, W.need l) s).length
    unfold upS
    split
    · rw [List.length_append, List.length_append, o.cq]
      rfl
    · exact o.cq s
  · rcases mem_up h with h | ⟨_, rfl⟩
    · exact o.n4 s q h
    · exact wneed_len
theorem Ws.Ok.all : ∀ {ls : List Li} {W : Ws}, W.Ok → (W.all ls).Ok
  | [], _, o => o
  | l :: ls, _, o => Ws.Ok.all (ls := ls) (o.add l)
theorem need_ready {W : Ws} {l : Li} {p : Pl} (o : W.Ok) (h : ∀ s, (W.q s).length ≤ p s) : readyB (W.need l) p = true := by
  have k : ∀ s, decide (((nlu (W.c s) l.2 : Nat) : Int) ≤ (p s : Nat)) = true := fun s => by
    have a := nlu_le (cs := W.c s) (c := l.2)
    have b := o.cq s
    have c := h s
    rw [decide_eq_true_iff]
    omega
  have z : ∀ s, decide ((0 : Int) ≤ (p s : Nat)) = true := fun s => by
    rw [decide_eq_true_iff]
    omega
  obtain ⟨s, v⟩ := l
  cases s
  · show (decide ((0 : Int) ≤ (p .top : Nat)) && (decide (((nlu (W.c .right) v : Nat) : Int) ≤ (p .right : Nat)) && (decide ((0 : Int) ≤ (p .bottom : Nat)) && (decide (((nlu (W.c .left) v : Nat) : Int) ≤ (p .left : Nat)) && true)))) = true
    rw [z, z, k .right, k .left]
    rfl
  · show (decide (((nlu (W.c .top) v : Nat) : Int) ≤ (p .top : Nat)) && (decide ((0 : Int) ≤ (p .right : Nat)) && (decide (((nlu (W.c .bottom) v : Nat) : Int) ≤ (p .bottom : Nat)) && (decide ((0 : Int) ≤ (p .left : Nat)) && true)))) = true
    rw [z, z, k .top, k .bottom]
    rfl
  · show (decide ((0 : Int) ≤ (p .top : Nat)) && (decide (((nlu (W.c .right) v : Nat) : Int) ≤ (p .right : Nat)) && (decide ((0 : Int) ≤ (p .bottom : Nat)) && (decide (((nlu (W.c .left) v : Nat) : Int) ≤ (p .left : Nat)) && true)))) = true
    rw [z, z, k .right, k .left]
    rfl
  · show (decide (((nlu (W.c .top) v : Nat) : Int) ≤ (p .top : Nat)) && (decide ((0 : Int) ≤ (p .right : Nat)) && (decide (((nlu (W.c .bottom) v : Nat) : Int) ≤ (p .bottom : Nat)) && (decide ((0 : Int) ≤ (p .left : Nat)) && true)))) = true
    rw [z, z, k .top, k .bottom]
    rfl
theorem some_next : ∀ {ls : List Li} {W : Ws} {p : Pl}, W.Ok → (∀ s, (W.q s).length ≤ p s) → (∃ s, p s < ((W.all ls).q s).length) → ∃ s x ns, ((W.all ls).q s)[p s]? = some (x, ns) ∧ readyB ns p = true
  | [], W, p, o, h, ⟨s, hs⟩ => absurd hs (Nat.not_lt.mpr (h s))
  | l :: ls, W, p, o, h, hs => by
    by_cases e : p l.1 = (W.q l.1).length
    · refine ⟨l.1, l, W.need l, ?_, need_ready o h⟩
      obtain ⟨t, et⟩ := all_pre (ls := ls) (W := W.add l) (s := l.1)
      show (((W.add l).all ls).q l.1)[p l.1]? = _
      rw [et]
      show (upS W.q l.1 (l, W.need l) l.1 ++ t)[p l.1]? = _
      unfold upS
      rw [if_pos rfl, e, List.append_assoc, List.getElem?_append_right (Nat.le_refl _), Nat.sub_self]
      rfl
    · refine some_next (ls := ls) (W := W.add l) (o.add l) (fun s => ?_) hs
      show (upS W.q l.1 (l, W.need l) s).length ≤ p s
      unfold upS
      split
      · rename_i q
        subst q
        have := h l.1
        rw [List.length_append, List.length_singleton]
        omega
      · exact h s
def sumP (p : Pl) : Nat := p .top + (p .right + (p .bottom + p .left))
theorem sum_inc {p : Pl} {s : Sd} : sumP (inc p s) = sumP p + 1 := by
  cases s <;> (simp only [sumP, inc]; simp; try omega)
def lenW (W : Ws) : Nat := (W.q .top).length + ((W.q .right).length + ((W.q .bottom).length + (W.q .left).length))
theorem len_all : ∀ {ls : List Li} {W : Ws}, lenW (W.all ls) = lenW W + ls.length
  | [], _ => rfl
  | l :: ls, W => by
    have e : lenW (W.add l) = lenW W + 1 := by
      obtain ⟨s, v⟩ := l
      cases s <;> (simp only [lenW, Ws.add, upS]; simp; try omega)
    show lenW ((W.add l).all ls) = _
    rw [len_all, e, List.length_cons]
    omega
theorem next_some {W : Ws} {p : Pl} {x : Li × Pl} (h : x ∈ nextL W p) : ∃ s ns, (W.q s)[p s]? = some (x.1, ns) ∧ readyB ns p = true ∧ x.2 = inc p s := by
  have one : ∀ s, x ∈ nextS W p s → ∃ s ns, (W.q s)[p s]? = some (x.1, ns) ∧ readyB ns p = true ∧ x.2 = inc p s := fun s h => by
    unfold nextS at h
    split at h
    · cases h
    · rename_i l ns e
      split at h
      · rename_i r
        have : x = (l, inc p s) := by simpa using h
        rw [this]
        exact ⟨s, ns, e, r, rfl⟩
      · cases h
  unfold nextL at h
  simp only [List.mem_append] at h
  rcases h with h | h | h | h
  · exact one _ h
  · exact one _ h
  · exact one _ h
  · exact one _ h
theorem next_ne {ls : List Li} {p : Pl} (hp : ∀ s, p s ≤ ((Wn ls).q s).length) (hs : sumP p < ls.length) : nextL (Wn ls) p ≠ [] := by
  have hl := len_all (ls := ls) (W := Ws.none)
  have z : lenW Ws.none = 0 := rfl
  have ex : ∃ s, p s < ((Wn ls).q s).length := by
    have h1 := hp .top
    have h2 := hp .right
    have h3 := hp .bottom
    have h4 := hp .left
    unfold lenW at hl
    unfold sumP at hs
    by_cases a : p .top < ((Wn ls).q .top).length
    · exact ⟨_, a⟩
    by_cases b : p .right < ((Wn ls).q .right).length
    · exact ⟨_, b⟩
    by_cases c : p .bottom < ((Wn ls).q .bottom).length
    · exact ⟨_, c⟩
    refine ⟨.left, ?_⟩
    have hl : ((Wn ls).q .top).length + (((Wn ls).q .right).length + (((Wn ls).q .bottom).length + ((Wn ls).q .left).length)) = 0 + ls.length := hl
    omega
  obtain ⟨s, x, ns, e, r⟩ := some_next (ls := ls) (W := Ws.none) (p := p) Ws.none_ok (fun _ => Nat.zero_le _) ex
  have h1 : nextS (Wn ls) p s = [(x, inc p s)] := by
    unfold nextS
    rw [show ((Wn ls).q s)[p s]? = some (x, ns) from e]
    exact if_pos r
  intro q
  unfold nextL at q
  simp only [List.append_eq_nil_iff] at q
  obtain ⟨q1, q2, q3, q4⟩ := q
  cases s
  · rw [q1] at h1; cases h1
  · rw [q2] at h1; cases h1
  · rw [q3] at h1; cases h1
  · rw [q4] at h1; cases h1
theorem lis_nl {xs : List Li} : noLocL (xs.map liD) = true := by
  rw [noLocL_all]
  intro d h
  obtain ⟨q, _, e⟩ := List.mem_map.mp h
  rw [← e]
  rfl
/-- the order, from these places on -/
def ordGo (W : Ws) : Nat → Pl → List Li
  | 0, _ => []
  | n + 1, p => match nextL W p with
    | [] => []
    | x :: _ => x.1 :: ordGo W n x.2
def leastO (ls : List Li) : List Li := ordGo (Wn ls) ls.length fun _ => 0
abbrev b_lo : fS := (fSeq (fAsg (fBin oIx (fCall e_next_lines 2 [] (fCons (fVar 1) (fCons (fVar 2) fNil))) (fC (.int 0))) (fGt 2 (fGc (fGn 5) (fGc (fGn 2) fGl)))) (fDrop (fApp (fVar 3) (fVar 5))))
theorem lo_loop {ls : List Li} {L : D} (hc : Low st) (hl : ls.length ≤ 40000) {R : D → FL.St → Prop} {B C : Rho → FL.St → Prop} {N : Rho → FL.St → Prop} {E : Exn → Rho → FL.St → Prop} : ∀ {ds : List D} {p : Pl} {acc : List Li} {a b : Option D}, (∀ s, p s ≤ ((Wn ls).q s).length) → sumP p + ds.length = ls.length → acc.length + ds.length ≤ 40000 →
    (∀ a b c, N [some L, some (wnD (Wn ls)), c, some (.loc st.length), a, b] (st ++ [some (.lst ((acc ++ ordGo (Wn ls) ds.length p).map liD))])) →
    (fForGo (fGn 4) b_lo ds [some L, some (wnD (Wn ls)), some (plD p), some (.loc st.length), a, b] (st ++ [some (.lst (acc.map liD))])).wp ⟨N, R, B, C, E⟩
  | [], p, acc, a, b, hp, hs, ha, n => by
    refine wp_for_nil ?_
    have q := n a b (some (plD p))
    rw [show ordGo (Wn ls) [].length p = [] from rfl, List.append_nil] at q
    exact q
  | d :: ds, p, acc, a, b, hp, hs, ha, n => by
    rw [List.length_cons] at hs ha
    have ne := next_ne (ls := ls) hp (by omega)
    obtain ⟨x, r, ex⟩ : ∃ x r, nextL (Wn ls) p = x :: r := by
      cases q : nextL (Wn ls) p with
      | nil => exact absurd q ne
      | cons x r => exact ⟨x, r, rfl⟩
    have qlen : ∀ s, ((Wn ls).q s).length ≤ ls.length := fun s => by
      have hl := len_all (ls := ls) (W := Ws.none)
      have hl : ((Wn ls).q .top).length + (((Wn ls).q .right).length + (((Wn ls).q .bottom).length + ((Wn ls).q .left).length)) = 0 + ls.length := hl
      cases s <;> omega
    have okW : (Wn ls).Ok := Ws.none_ok.all
    obtain ⟨s, ns, e1, e2, e3⟩ := next_some (x := x) (by rw [ex]; exact List.mem_cons_self)
    have cl : Low (st ++ [some (.lst (acc.map liD))]) := fun m hm => by
      rw [List.length_append] at hm
      rw [List.all_append, hc m (by omega)]
      show (lowO m (some (.lst (acc.map liD))) && true) = true
      rw [Bool.and_true]
      exact noLoc_low (n := m) (d := .lst (acc.map liD)) lis_nl
    refine wp_for_cons (d := d) (ρ' := [some L, some (wnD (Wn ls)), some (plD p), some (.loc st.length), some d, b]) (st' := st ++ [some (.lst (acc.map liD))]) rfl ?_
    walk_at "g"
    refine Res.wp_eq (next_e ⟨okW.n4⟩ hp (fun s => Nat.lt_of_le_of_lt (qlen s) (by omega)) cl) ?_
    rw [ex]
    walk_at "g"
    refine ⟨_, _, rfl, ap_at0, ?_⟩
    walk_at "g"
    refine ⟨_, ap_at0, by rw [List.length_map, sizeLine_e]; omega, ?_⟩
    rw [ap_set0]
    have m : acc.map liD ++ [liD x.1] = (acc ++ [x.1]).map liD := map_snoc (f := liD) (xs := acc) (x := x.1)
    show (fForGo (fGn 4) b_lo ds [some L, some (wnD (Wn ls)), some (plD x.2), some (.loc st.length), some d, some (liD x.1)] (st ++ [some (.lst (acc.map liD ++ [liD x.1]))])).wp ⟨N, R, B, C, E⟩
    rw [m]
    refine lo_loop hc hl (ds := ds) (p := x.2) (acc := acc ++ [x.1]) (fun k => ?_) ?_ (by rw [List.length_append, List.length_singleton]; omega) fun a b c => ?_
    · rw [e3]
      unfold inc
      split
      · rename_i h
        subst h
        have := (List.getElem?_eq_some_iff.mp e1).1
        omega
      · exact hp k
    · rw [e3, sum_inc]
      omega
    · have q := n a b c
      have eo : ordGo (Wn ls) (d :: ds).length p = x.1 :: ordGo (Wn ls) ds.length x.2 := by
        show ordGo (Wn ls) (ds.length + 1) p = _
        rw [ordGo, ex]
      rw [eo] at q
      rw [List.append_assoc]
      exact q
theorem rngD_len {a : Int} {n : Nat} : (rngD a n).length = n := by
  unfold rngD
  rw [List.length_map, List.length_range]
theorem least_e {t : Bool} {ls : List Li} (hl : ls.length ≤ 40000) (hc : Low st) : e_least_order [sq t (ls.map liD)] st = .ok (.tup ((leastO ls).map liD)) st := by
  have e1 : lLen [sq t (ls.map liD)] = some (.int (ls.length : Nat)) := by rw [lenl, List.length_map]
  refine Res.eq_wp (wp_body ?_)
  unfold p_least_order
  walk_at "g"
  refine Res.wp_eq (waiting_e hl hc) ?_
  walk_at "g"
  refine lo_loop (ls := ls) (p := fun _ => 0) (acc := []) (a := none) (b := none) hc hl (fun s => Nat.zero_le _) ?_ ?_ fun a b c => ?_
  · rw [rngD_len]
    show 0 + _ = _
    omega
  · rw [rngD_len]
    show 0 + _ ≤ _
    omega
  · walk_at "g"
    refine ⟨_, _, rfl, ap_at0, ?_⟩
    rw [ap_set0, rngD_len, List.nil_append]
    walk_at "g"
    refine ⟨rfl, ?_⟩
    rw [show noLoc (D.tup _) = true from lis_nl]
    exact gcF_low hc
end TU

set_option Elab.async false
set_option linter.all false
set_option maxRecDepth 100000
set_option maxHeartbeats 8000000
/-! frames: made, checked -/
namespace TU
open PySem PySem.Spec PyProof.Rows L2 DL FL PD TP TR
local macro_rules | `(tactic| walk_at "g1") => `(tactic| first
  | with_reducible refine wp_dget ?_
  | with_reducible refine wp_din ?_
  | with_reducible refine wp_dput ?_
  | with_reducible refine wp_daug ?_
  | with_reducible refine wp_tru ?_
  | with_reducible refine wp_pop ?_
  | with_reducible refine wp_pop0 ?_
  | ((with_reducible apply wp_augN); (exact rfl))
  | with_reducible refine wp_disp ?_
  | with_reducible refine wp_pairs0 ?_
  | with_reducible refine wp_pairs ?_
  | with_reducible refine wp_call0 ?_ ?_
  | with_reducible refine wp_frz ?_
  | with_reducible refine wp_app ?_
  | with_reducible refine wp_make0 rfl ?_)
local macro_rules | `(tactic| walk_at "g1") => `(tactic| first
  | with_reducible refine wp_cmeth ?_
  | ((with_reducible apply wp_makeL); (exact rfl))
  | with_reducible refine wp_star ?_
  | with_reducible refine wp_lenO ?_
  | with_reducible refine gw_starT ?_
  | with_reducible refine gw_starL ?_)
variable {st : FL.St}
theorem app_at0 {x : Option DO} : (st ++ [x])[st.length]? = some x := ap_at0
theorem app_set0 {x y : Option DO} : (st ++ [x]).set st.length y = st ++ [y] := ap_set0
/-! ### lines -/
def GoodL (d : D) : Prop := ∀ st, e_is_line [d] st = .ok (.bl true) st
theorem good_line {l : Li} (h : 0 ≤ l.2) : GoodL (liD l) := fun st => by
  obtain ⟨s, v⟩ := l
  have e1 : lLen [liD (s, v)] = some (.int 2) := rfl
  have c : isColour (.int v) = true := by simpa [isColour] using h
  refine Res.eq_wp (wp_body0 ?_)
  unfold p_is_line
  walk_at "g"
  refine Res.wp_eq (is_side_e (d := s.d) rfl) ?_
  rw [show isSide s.d = true by cases s <;> rfl]
  walk_at "g"
  refine Res.wp_eq (is_colour_e (st := st) rfl) ?_
  rw [c]
  exact ⟨rfl, rfl, rfl⟩
abbrev g_chl : fG := fGt 2 (fGc (fGn 1) (fGc (fGn 2) fGl))
abbrev b_chl : fS := (fIfS (fNot (fTest (fCall e_is_line 1 [] (fCons (fVar 2) fNil)))) (fRaise "InvalidFrame" "index" (fCons (fVar 1) fNil)) fNext)
theorem chl_step {S d : D} {k : Nat} {R : D → FL.St → Prop} {B C : Rho → FL.St → Prop} {N : Rho → FL.St → Prop} {E : Exn → Rho → FL.St → Prop} (h : GoodL d) (n : N [some S, some (.int (k : Nat)), some d] st) : (b_chl [some S, some (.int (k : Nat)), some d] st).wp ⟨N, R, B, C, E⟩ := by
  walk_at "g"
  refine Res.wp_eq (h st) ?_
  walk_at "g"
  exact n
theorem chl_loop {S : D} {R : D → FL.St → Prop} {B C : Rho → FL.St → Prop} {N : Rho → FL.St → Prop} {E : Exn → Rho → FL.St → Prop} : ∀ {ds es : List D} {k : Nat} {a b : Option D}, (∀ d ∈ ds, GoodL d) → (∀ a b, (fForGo g_chl b_chl es [some S, a, b] st).wp ⟨N, R, B, C, E⟩) → (fForGo g_chl b_chl (enumD k ds ++ es) [some S, a, b] st).wp ⟨N, R, B, C, E⟩
  | [], es, k, a, b, h, n => n a b
  | d :: ds, es, k, a, b, h, n => by
    have ih := chl_loop (ds := ds) (es := es) (k := k + 1) (a := some (.int (k : Nat))) (b := some d) (fun x hx => h x (List.mem_cons_of_mem _ hx)) n
    refine wp_for_cons (d := .tup [.int (k : Nat), d]) (ρ' := [some S, some (.int (k : Nat)), some d]) (st' := st) rfl ?_
    exact chl_step (h d List.mem_cons_self) ih
theorem checkl_e {t : Bool} {ds : List D} (h : ∀ d ∈ ds, GoodL d) (hl : ds.length ≤ 200) : e_check_lines [sq t ds] st = .ok .non st := by
  have e1 : decide ((200 : Int) < ((ds.length : Nat) : Int)) = false := by
    rw [decide_eq_false_iff_not]
    omega
  refine Res.eq_wp (wp_body0 ?_)
  unfold p_check_lines
  walk_at "g"
  refine gw_isi tyl isl ?_
  walk_at "g"
  refine gw_op lenl ?_
  walk_at "g"
  refine ⟨ds, seql, ?_⟩
  have := chl_loop (st := st) (S := sq t ds) (ds := ds) (es := []) (k := 0) (a := none) (b := none) (N := fun _ s => s = st ∧ D.non = D.non ∧ st = st) (R := fun d s => s = st ∧ d = D.non ∧ st = st) (B := fun _ _ => False) (C := fun _ _ => False) (E := fun x _ s => s = st ∧ noX x st) h fun a b => wp_for_nil ⟨rfl, rfl, rfl⟩
  rw [List.append_nil] at this
  exact this
/-! ### a frame -/
abbrev frN : List Str := ["_lines"]
def frD (ls : List Li) : D := .ins "Frame" frN [.tup (ls.map liD)]
theorem fr_nl {ls : List Li} : noLoc (frD ls) = true := by
  show (noLocL (ls.map liD) && true) = true
  rw [lis_nl]
  rfl
theorem low_ins {C : Str} {ns : List Str} {ds : List D} (hc : Low st) (h : noLocL ds = true) : Low (st ++ [some (.ins C ns ds)]) := fun m hm => by
  rw [List.length_append] at hm
  rw [List.all_append, hc m (by omega)]
  show (lowO m (some (.ins C ns ds)) && true) = true
  rw [Bool.and_true]
  exact noLoc_low (n := m) (d := .ins C ns ds) h
/-- the making of a frame -/
theorem finit_e {t : Bool} {ls : List Li} (h : ∀ l ∈ ls, 0 ≤ l.2) (hl : ls.length ≤ 200) (hc : Low st) : e_Frame_init_ [.loc st.length, sq t (ls.map liD)] (st ++ [some (.ins "Frame" [] [])]) = .ok .non (st ++ [some (.ins "Frame" frN [.tup ((leastO ls).map liD)])]) := by
  refine Res.eq_wp (wp_body ?_)
  unfold p_Frame_init_
  walk_at "g"
  refine Res.wp_eq (checkl_e (fun d hd => ?_) (by rw [List.length_map]; exact hl)) ?_
  · obtain ⟨l, hm, e⟩ := List.mem_map.mp hd
    rw [← e]
    exact good_line (h l hm)
  refine wp_fldS ?_
  walk_at "g"
  refine Res.wp_eq (least_e (by omega) (low_ins hc rfl)) ?_
  walk_at "g"
  refine ⟨_, _, _, rfl, app_at0, by decide, ?_⟩
  rw [app_set0]
  exact ⟨rfl, gcF_app1⟩
theorem fmk_e {t : Bool} {ls : List Li} (h : ∀ l ∈ ls, 0 ≤ l.2) (hl : ls.length ≤ 200) (hc : Low st) : mkEnd st.length (e_Frame_init_ [.loc st.length, sq t (ls.map liD)] (st ++ [some (.ins "Frame" [] [])])) = .ok (frD (leastO ls)) st := by
  rw [finit_e h hl hc]
  refine Res.eq_wp (wp_mkEnd (.ok ⟨rfl, _, app_at0, rfl, ?_⟩))
  rw [app_set0]
  exact gc_low fr_nl hc
theorem flen_e {ls : List Li} : e_Frame_len_ [frD ls] st = .ok (.int (ls.length : Nat)) st := by
  have e1 : lLen [.tup (ls.map liD)] = some (.int (ls.length : Nat)) := by
    show some (D.int ((ls.map liD).length : Nat)) = _
    rw [List.length_map]
  have e2 : lookD "_lines" frN [.tup (ls.map liD)] = some (.tup (ls.map liD)) := rfl
  refine Res.eq_wp (wp_body0 ?_)
  unfold p_Frame_len_ frD
  walk_at "g"
  exact ⟨rfl, rfl, rfl⟩
end TU

set_option Elab.async false
set_option linter.all false
set_option maxRecDepth 100000
set_option maxHeartbeats 4000000
/-! random lines, random symmetries -/
namespace TV
open PySem PySem.Spec PyProof.Rows L2 DL FL PD TP TR TQ TU
variable {st : FL.St} {Q : D → FL.St → Prop} {X : Exn → FL.St → Prop}
abbrev rlI (st : FL.St) (n : Nat) (m c : Int) (k : Nat) (ρ : Rho) (s : FL.St) : Prop := ∃ (ls : List Li) (a b : Int) (x y : Option D), (∀ q ∈ ls, 0 ≤ q.2 ∧ q.2 < c) ∧ ls.length = k ∧ ρ = [some (.loc n), some (.int m), some (.int c), some (.loc st.length), x, y] ∧ s = st.set n (po a b) ++ [some (.lst (ls.map liD))]
theorem rlines_wp {n : Nat} {a b m c : Int} (hs : st[n]? = some (po a b)) (hm : 0 ≤ m) (hm2 : m ≤ 1000) (hc : 0 < c) (hc2 : c ≤ 10000000000000000000000000000000000000000) (cl : ∀ a b, Clean (st.set n (po a b)))
    (k : ∀ (ls : List Li) (a' b' : Int), (∀ q ∈ ls, 0 ≤ q.2 ∧ q.2 < c) → (ls.length : Int) = m → Q (.lst (ls.map liD)) (st.set n (po a' b'))) : (PA.e_l_random_lines [.loc n, .int m, .int c] st).wp Q X := by
  have hn : n < st.length := (List.getElem?_eq_some_iff.mp hs).1
  refine wp_body ?_
  unfold PA.p_l_random_lines
  walk_at "g"
  refine wp_for_inv (enc := fun i : Nat => D.int (0 + i)) (xs := List.range m.toNat) (fun pre ρ s => rlI st n m c pre.length ρ s) ⟨[], a, b, _, _, fun _ h => (nomatch h), rfl, rfl, ?_⟩ ?_ ?_
  · rw [set_at_same hs]
    rfl
  · rintro pre x0 post ρ s e ⟨ls, a1, b1, x, y, hp, hk, rfl, rfl⟩
    refine ⟨_, _, rfl, ?_⟩
    walk_at "g"
    have hs1 : (st.set n (po a1 b1))[n]? = some (po a1 b1) := set_at hs
    have hn1 : ∀ a b, n < (st.set n (po a b)).length := fun a b => by rw [List.length_set]; exact hn
    refine draw_wp (at_app hs1) (by decide) (by decide) fun q a2 b2 q0 q4 => ?_
    rw [set_app (hn1 _ _), set_set']
    obtain ⟨sd, esd⟩ := pick4 q0 q4
    have ap : ∀ a b, (st.set n (po a b) ++ [some (DO.lst (ls.map liD))])[st.length]? = some (some (.lst (ls.map liD))) := fun a b => by
      have : (st.set n (po a b)).length = st.length := List.length_set
      rw [← this]
      exact ap_end
    have aps : ∀ a b d, (st.set n (po a b) ++ [some (DO.lst (ls.map liD))]).set st.length (some (.lst (ls.map liD ++ [d]))) = st.set n (po a b) ++ [some (.lst (ls.map liD ++ [d]))] := fun a b d => by
      have : (st.set n (po a b)).length = st.length := List.length_set
      rw [← this]
      exact ap_sete
    have pl : (pre ++ [x0]).length = pre.length + 1 := by simp
    have lt : (ls.map liD).length < sizeLine := by
      have := congrArg List.length e
      rw [List.length_range, List.length_append] at this
      rw [List.length_map, sizeLine_e]
      omega
    walk_at "g"
    refine wp_app ?_
    walk_at "g"
    refine ⟨_, _, rfl, ap _ _, ?_⟩
    walk_at "g"
    refine draw_wp (at_app (set_at hs)) hc hc2 fun v a4 b4 v0 v1 => ?_
    rw [set_app (hn1 _ _), set_set']
    walk_at "g"
    refine ⟨_, ap _ _, lt, ?_⟩
    rw [aps, pl]
    refine ⟨ls ++ [(sd, v)], a4, b4, _, _, fun q hq => ?_, by rw [List.length_append, hk]; rfl, rfl, by rw [List.map_append]; rfl⟩
    rcases List.mem_append.mp hq with hq | hq
    · exact hp q hq
    · rw [List.mem_singleton.mp hq]
      exact ⟨v0, v1⟩
  · rintro ρ s ⟨ls, a1, b1, x, y, hp, hk, rfl, rfl⟩
    have ln : (st.set n (po a1 b1)).length = st.length := List.length_set
    have ap : (st.set n (po a1 b1) ++ [some (DO.lst (ls.map liD))])[st.length]? = some (some (.lst (ls.map liD))) := by
      rw [← ln]
      exact ap_end
    walk_at "g"
    refine wp_frz ?_
    walk_at "g"
    refine ⟨_, _, rfl, ap, ?_⟩
    show Q (.lst (ls.map liD)) (gcF st.length (noLoc (.lst (ls.map liD))) ((st.set n (po a1 b1) ++ [some (DO.lst (ls.map liD))]).set st.length none))
    rw [← ln, show noLoc (.lst (ls.map liD)) = true from lis_nl, ap_sete, gcF_ap (cl _ _)]
    exact k ls a1 b1 hp (by rw [hk, List.length_range]; omega)
end TV

set_option Elab.async false
set_option linter.all false
set_option maxRecDepth 100000
set_option maxHeartbeats 4000000
/-! the moves, seen from the upright picture -/
namespace TR
open PySem PySem.Spec PyProof.Rows L2 DL FL PD TP
local macro_rules | `(tactic| walk_at "g1") => `(tactic| first
  | with_reducible refine wp_dget ?_
  | with_reducible refine wp_din ?_
  | with_reducible refine wp_dput ?_
  | with_reducible refine wp_daug ?_
  | with_reducible refine wp_tru ?_
  | with_reducible refine wp_pop ?_
  | with_reducible refine wp_pop0 ?_
  | ((with_reducible apply wp_augN); (exact rfl))
  | with_reducible refine wp_disp ?_
  | with_reducible refine wp_pairs0 ?_
  | with_reducible refine wp_pairs ?_
  | with_reducible refine wp_call0 ?_ ?_
  | with_reducible refine wp_frz ?_
  | with_reducible refine wp_app ?_
  | with_reducible refine wp_make0 rfl ?_)
variable {st : FL.St}
abbrev Mv := Nat × Sd × Option Int
def upS (t : Int) (m : Bool) (s : Sd) : Sd := symS (if m then t else -t % 4) m s
end TR

set_option Elab.async false
set_option linter.all false
set_option maxRecDepth 100000
set_option maxHeartbeats 4000000
/-! sizes by the moves -/
namespace TR
open PySem PySem.Spec PyProof.Rows L2 DL FL PD TP
local macro_rules | `(tactic| walk_at "g1") => `(tactic| first
  | with_reducible refine wp_dget ?_
  | with_reducible refine wp_din ?_
  | with_reducible refine wp_dput ?_
  | with_reducible refine wp_daug ?_
  | with_reducible refine wp_tru ?_
  | with_reducible refine wp_pop ?_
  | with_reducible refine wp_pop0 ?_
  | ((with_reducible apply wp_augN); (exact rfl))
  | with_reducible refine wp_disp ?_
  | with_reducible refine wp_pairs0 ?_
  | with_reducible refine wp_pairs ?_
  | with_reducible refine wp_call0 ?_ ?_
  | with_reducible refine wp_frz ?_
  | with_reducible refine wp_app ?_
  | with_reducible refine wp_make0 rfl ?_)
variable {st : FL.St}
section
variable {s : FL.St} {x y d : D} {a n : Nat} {k i j : Int} {ds : List D} {ρ : Rho} {N B C : Rho → FL.St → Prop} {R' : D → FL.St → Prop} {E : Exn → Rho → FL.St → Prop}
end
/-! where a run of the moves fails -/
end TR

set_option Elab.async false
set_option linter.all false
set_option maxRecDepth 100000
set_option maxHeartbeats 4000000
/-! the lines that are left, one direction -/
namespace TR
open PySem PySem.Spec PyProof.Rows L2 DL FL PD TP
local macro_rules | `(tactic| walk_at "g1") => `(tactic| first
  | with_reducible refine wp_dget ?_
  | with_reducible refine wp_din ?_
  | with_reducible refine wp_dput ?_
  | with_reducible refine wp_daug ?_
  | with_reducible refine wp_tru ?_
  | with_reducible refine wp_pop ?_
  | with_reducible refine wp_pop0 ?_
  | ((with_reducible apply wp_augN); (exact rfl))
  | with_reducible refine wp_disp ?_
  | with_reducible refine wp_pairs0 ?_
  | with_reducible refine wp_pairs ?_
  | with_reducible refine wp_call0 ?_ ?_
  | with_reducible refine wp_frz ?_
  | with_reducible refine wp_app ?_
  | with_reducible refine wp_make0 rfl ?_)
variable {st : FL.St}
abbrev Ln := Int × Int
section
variable {ax : Bool} {A B A' B' : List Ln} {o : Int}
end
end TR

set_option Elab.async false
set_option linter.all false
set_option maxRecDepth 100000
set_option maxHeartbeats 4000000
/-! .. and what crosses -/
namespace TR
open PySem PySem.Spec PyProof.Rows L2 DL FL PD TP
local macro_rules | `(tactic| walk_at "g1") => `(tactic| first
  | with_reducible refine wp_dget ?_
  | with_reducible refine wp_din ?_
  | with_reducible refine wp_dput ?_
  | with_reducible refine wp_daug ?_
  | with_reducible refine wp_tru ?_
  | with_reducible refine wp_pop ?_
  | with_reducible refine wp_pop0 ?_
  | ((with_reducible apply wp_augN); (exact rfl))
  | with_reducible refine wp_disp ?_
  | with_reducible refine wp_pairs0 ?_
  | with_reducible refine wp_pairs ?_
  | with_reducible refine wp_call0 ?_ ?_
  | with_reducible refine wp_frz ?_
  | with_reducible refine wp_app ?_
  | with_reducible refine wp_make0 rfl ?_)
variable {st : FL.St}
section
variable {ax : Bool} {A B : List Ln} {o : Int}
def crossL (r c : Ln) : Int := if c.1 < r.1 then r.2 else c.2
def cross (rs cs : List Ln) : Grid := rs.map fun r => cs.map fun c => crossL r c
end
end TR

set_option Elab.async false
set_option linter.all false
set_option maxRecDepth 100000
set_option maxHeartbeats 8000000
/-! the effect of a sequence -/
namespace TU
open PySem PySem.Spec PyProof.Rows L2 DL FL PD TP TR FV
local macro_rules | `(tactic| walk_at "g1") => `(tactic| first
  | with_reducible refine wp_dget ?_
  | with_reducible refine wp_din ?_
  | with_reducible refine wp_dput ?_
  | with_reducible refine wp_daug ?_
  | with_reducible refine wp_tru ?_
  | with_reducible refine wp_pop ?_
  | with_reducible refine wp_pop0 ?_
  | ((with_reducible apply wp_augN); (exact rfl))
  | with_reducible refine wp_disp ?_
  | with_reducible refine wp_pairs0 ?_
  | with_reducible refine wp_pairs ?_
  | with_reducible refine wp_call0 ?_ ?_
  | with_reducible refine wp_frz ?_
  | with_reducible refine wp_app ?_
  | with_reducible refine wp_make0 rfl ?_)
local macro_rules | `(tactic| walk_at "g1") => `(tactic| first
  | with_reducible refine wp_cmeth ?_
  | ((with_reducible apply wp_makeL); (exact rfl))
  | with_reducible refine wp_star ?_
  | with_reducible refine wp_lenO ?_
  | with_reducible refine gw_starT ?_
  | with_reducible refine gw_starL ?_)
variable {st : FL.St}
/-! ### what the moves leave -/
abbrev Tr3 := Nat × Sd × Int
structure Ef where
  a : Sd → List Tr3
  l : Sd → Int
def Ef.none : Ef := ⟨fun _ => [], fun _ => 0⟩
def setS {α : Type} (f : Sd → α) (s : Sd) (x : α) : Sd → α := fun k => if k = s then x else f k
def Ef.move (e : Ef) (m : Mv) : Ef := match m with
  | (k, s, some c) => ⟨setS e.a s (e.a s ++ [(k, s, c)]), e.l⟩
  | (_, s, none) => if e.a s = [] then ⟨e.a, setS e.l s (e.l s + 1)⟩ else ⟨setS e.a s (e.a s).dropLast, e.l⟩
def Ef.moves (e : Ef) (ms : List Mv) : Ef := ms.foldl Ef.move e
def aI : Sd → Nat
  | .top => 1
  | .right => 2
  | .bottom => 3
  | .left => 4
section
variable {e : Ef} {s : Sd} {ts : List Tr3} {i : Int}
end
/-! ### the indexes -/
def Inc : Nat → List Mv → Prop
  | _, [] => True
  | k, m :: ms => k ≤ m.1 ∧ Inc (m.1 + 1) ms
theorem Inc.le : ∀ {ms : List Mv} {k j : Nat}, Inc k ms → j ≤ k → Inc j ms
  | [], _, _, _, _ => trivial
  | m :: ms, _, _, h, l => ⟨Nat.le_trans l h.1, h.2⟩
structure EfOk (e : Ef) (k n : Nat) : Prop where
  lt : ∀ s, ∀ t ∈ e.a s, t.1 < k
  nd : ∀ s, ((e.a s).map (·.1)).Nodup
  ap : ∀ s s', ∀ t ∈ e.a s, ∀ t' ∈ e.a s', t.1 = t'.1 → s = s'
  ln : ∀ s, (e.a s).length ≤ n
  ps : ∀ s, 0 ≤ e.l s
theorem EfOk.zero : EfOk Ef.none 0 0 := ⟨fun s t h => (by cases h), fun s => List.nodup_nil, fun s s' t h => (by cases h), fun s => Nat.le_refl _, fun s => Int.le_refl _⟩
theorem set_mem {f : Sd → List Tr3} {s k : Sd} {xs : List Tr3} {t : Tr3} (h : t ∈ setS f s xs k) : (k = s ∧ t ∈ xs) ∨ (k ≠ s ∧ t ∈ f k) := by
  unfold setS at h
  split at h
  · rename_i e
    exact .inl ⟨e, h⟩
  · rename_i e
    exact .inr ⟨e, h⟩
theorem EfOk.move {e : Ef} {k n : Nat} (o : EfOk e k n) {m : Mv} (h : k ≤ m.1) : EfOk (e.move m) (m.1 + 1) (n + 1) := by
  obtain ⟨j, s, c⟩ := m
  have h : k ≤ j := h
  have lt' : ∀ s, ∀ t ∈ e.a s, t.1 < j := fun s t ht => Nat.lt_of_lt_of_le (o.lt s t ht) h
  cases c with
  | some c =>
    have em : e.move (j, s, some c) = ⟨setS e.a s (e.a s ++ [(j, s, c)]), e.l⟩ := rfl
    rw [em]
    have mm : ∀ k t, t ∈ setS e.a s (e.a s ++ [(j, s, c)]) k → t ∈ e.a k ∨ (k = s ∧ t.1 = j) := fun k t ht => by
      rcases set_mem ht with ⟨e1, ht⟩ | ⟨_, ht⟩
      · rcases List.mem_append.mp ht with ht | ht
        · rw [e1]; exact .inl ht
        · have : t = (j, s, c) := by simpa using ht
          exact .inr ⟨e1, by rw [this]⟩
      · exact .inl ht
    refine ⟨fun k t ht => ?_, fun k => ?_, fun k k' t ht t' ht' et => ?_, fun k => ?_, o.ps⟩
    · rcases mm k t ht with ht | ⟨_, e2⟩
      · exact Nat.lt_succ_of_lt (lt' k t ht)
      · rw [e2]; exact Nat.lt_succ_self j
    · show ((setS e.a s (e.a s ++ [(j, s, c)]) k).map (·.1)).Nodup
      unfold setS
      split
      · rw [List.map_append, List.nodup_append]
        refine ⟨o.nd s, by simp, fun x hx y hy exy => ?_⟩
        obtain ⟨t, ht, rfl⟩ := List.mem_map.mp hx
        have := lt' s t ht
        simp at hy
        omega
      · exact o.nd k
    · rcases mm k t ht with ht | ⟨e1, e2⟩
      · rcases mm k' t' ht' with ht' | ⟨e3, e4⟩
        · exact o.ap k k' t ht t' ht' et
        · have := lt' k t ht
          omega
      · rcases mm k' t' ht' with ht' | ⟨e3, e4⟩
        · have := lt' k' t' ht'
          omega
        · rw [e1, e3]
    · show (setS e.a s (e.a s ++ [(j, s, c)]) k).length ≤ n + 1
      unfold setS
      split
      · rw [List.length_append, List.length_singleton]
        have := o.ln s
        omega
      · exact Nat.le_succ_of_le (o.ln k)
  | none =>
    by_cases q : e.a s = []
    · have em : e.move (j, s, none) = ⟨e.a, setS e.l s (e.l s + 1)⟩ := if_pos q
      rw [em]
      refine ⟨fun k t ht => Nat.lt_succ_of_lt (lt' k t ht), o.nd, o.ap, fun k => Nat.le_succ_of_le (o.ln k), fun k => ?_⟩
      show 0 ≤ setS e.l s (e.l s + 1) k
      unfold setS
      split
      · have := o.ps s
        omega
      · exact o.ps k
    · have em : e.move (j, s, none) = ⟨setS e.a s (e.a s).dropLast, e.l⟩ := if_neg q
      rw [em]
      have mm : ∀ k t, t ∈ setS e.a s (e.a s).dropLast k → t ∈ e.a k := fun k t ht => by
        rcases set_mem ht with ⟨e1, ht⟩ | ⟨_, ht⟩
        · rw [e1]; exact (List.dropLast_sublist _).subset ht
        · exact ht
      refine ⟨fun k t ht => Nat.lt_succ_of_lt (lt' k t (mm k t ht)), fun k => ?_, fun k k' t ht t' ht' et => o.ap k k' t (mm k t ht) t' (mm k' t' ht') et, fun k => ?_, o.ps⟩
      · show ((setS e.a s (e.a s).dropLast k).map (·.1)).Nodup
        unfold setS
        split
        · rw [List.map_dropLast]
          exact (o.nd s).sublist (List.dropLast_sublist _)
        · exact o.nd k
      · show (setS e.a s (e.a s).dropLast k).length ≤ n + 1
        unfold setS
        split
        · have := o.ln s
          rw [List.length_dropLast]
          omega
        · exact Nat.le_succ_of_le (o.ln k)
end TU

set_option Elab.async false
set_option linter.all false
set_option maxRecDepth 100000
set_option maxHeartbeats 8000000
/-! Effect.of -/
namespace TU
open PySem PySem.Spec PyProof.Rows L2 DL FL PD TP TR FV
local macro_rules | `(tactic| walk_at "g1") => `(tactic| first
  | with_reducible refine wp_dget ?_
  | with_reducible refine wp_din ?_
  | with_reducible refine wp_dput ?_
  | with_reducible refine wp_daug ?_
  | with_reducible refine wp_tru ?_
  | with_reducible refine wp_pop ?_
  | with_reducible refine wp_pop0 ?_
  | ((with_reducible apply wp_augN); (exact rfl))
  | with_reducible refine wp_disp ?_
  | with_reducible refine wp_pairs0 ?_
  | with_reducible refine wp_pairs ?_
  | with_reducible refine wp_call0 ?_ ?_
  | with_reducible refine wp_frz ?_
  | with_reducible refine wp_app ?_
  | with_reducible refine wp_make0 rfl ?_)
local macro_rules | `(tactic| walk_at "g1") => `(tactic| first
  | with_reducible refine wp_cmeth ?_
  | ((with_reducible apply wp_makeL); (exact rfl))
  | with_reducible refine wp_star ?_
  | with_reducible refine wp_lenO ?_
  | with_reducible refine gw_starT ?_
  | with_reducible refine gw_starL ?_)
variable {st : FL.St}
/-! ### sorted by their indexes -/
/-! ### the lists taken one by one -/
def allA (e : Ef) : List Tr3 := e.a .top ++ (e.a .right ++ (e.a .bottom ++ e.a .left))
end TU

set_option Elab.async false
set_option linter.all false
set_option maxRecDepth 100000
set_option maxHeartbeats 8000000
/-! Effect.of, its end -/
namespace TU
open PySem PySem.Spec PyProof.Rows L2 DL FL PD TP TR FV
local macro_rules | `(tactic| walk_at "g1") => `(tactic| first
  | with_reducible refine wp_dget ?_
  | with_reducible refine wp_din ?_
  | with_reducible refine wp_dput ?_
  | with_reducible refine wp_daug ?_
  | with_reducible refine wp_tru ?_
  | with_reducible refine wp_pop ?_
  | with_reducible refine wp_pop0 ?_
  | ((with_reducible apply wp_augN); (exact rfl))
  | with_reducible refine wp_disp ?_
  | with_reducible refine wp_pairs0 ?_
  | with_reducible refine wp_pairs ?_
  | with_reducible refine wp_call0 ?_ ?_
  | with_reducible refine wp_frz ?_
  | with_reducible refine wp_app ?_
  | with_reducible refine wp_make0 rfl ?_)
local macro_rules | `(tactic| walk_at "g1") => `(tactic| first
  | with_reducible refine wp_cmeth ?_
  | ((with_reducible apply wp_makeL); (exact rfl))
  | with_reducible refine wp_star ?_
  | with_reducible refine wp_lenO ?_
  | with_reducible refine gw_starT ?_
  | with_reducible refine gw_starL ?_)
variable {st : FL.St}
/-! ### an effect -/
abbrev efN : List Str := ["_symmetry", "_lost", "_frame"]
@[reducible] def loD (l : Sd → Int) : D := .tup [.int (l .top), .int (l .right), .int (l .bottom), .int (l .left)]
def efD (t : Int) (m : Bool) (l : Sd → Int) (ls : List Li) : D := .ins "Effect" efN [sym t m, loD l, frD ls]
/-! ### the dicts of the sides -/
end TU

set_option Elab.async false
set_option linter.all false
set_option maxRecDepth 100000
set_option maxHeartbeats 4000000
/-! steps of a symmetry, the text of steps, what is no effect -/
namespace TU
open PySem PySem.Spec PyProof.Rows L2 DL FL PD TP TR
variable {st : FL.St}
/-! the text of steps -/
theorem ok_app {a b : Str} (ha : PyData.strOk a = true) (hb : PyData.strOk b = true) : PyData.strOk (a ++ b) = true := by
  unfold PyData.strOk at *
  rw [Str.cps_append, Array.all_append, ha, hb]
  rfl
end TU

set_option Elab.async false
set_option linter.all false
set_option maxRecDepth 100000
set_option maxHeartbeats 4000000
/-! the least order, on lists: lines that may be exchanged -/
namespace TW
open PySem PySem.Spec PyProof.Rows L2 DL FL PD TP TR TU
def opp : Sd → Sd
  | .top => .bottom
  | .right => .left
  | .bottom => .top
  | .left => .right
/-- two lines that may be exchanged -/
def comm (a b : Li) : Bool := decide (a.1 ≠ b.1) && (decide (opp a.1 = b.1) || decide (a.2 = b.2))
theorem comm_symm {a b : Li} (h : comm a b = true) : comm b a = true := by
  obtain ⟨s, c⟩ := a
  obtain ⟨s', c'⟩ := b
  simp only [comm, Bool.and_eq_true, Bool.or_eq_true, decide_eq_true_eq] at h ⊢
  obtain ⟨h1, h2⟩ := h
  refine ⟨fun e => h1 e.symm, ?_⟩
  rcases h2 with h2 | h2
  · left
    subst h2
    cases s <;> rfl
  · exact .inr h2.symm
/-- the first line of a side, if it may come first -/
def front (s : Sd) : List Li → Option Li
  | [] => none
  | l :: r => if l.1 = s then some l else match front s r with
    | some x => if comm l x = true then some x else none
    | none => none
def rmS (s : Sd) : List Li → List Li
  | [] => []
  | l :: r => if l.1 = s then r else l :: rmS s r
def pick (xs : List Li) : Option (Li × List Li) := match front .top xs with
  | some x => some (x, rmS .top xs)
  | none => match front .right xs with
    | some x => some (x, rmS .right xs)
    | none => match front .bottom xs with
      | some x => some (x, rmS .bottom xs)
      | none => match front .left xs with
        | some x => some (x, rmS .left xs)
        | none => none
def least : Nat → List Li → List Li
  | 0, _ => []
  | n + 1, xs => match pick xs with
    | some (x, r) => x :: least n r
    | none => []
inductive Tr : List Li → List Li → Prop
  | refl {x} : Tr x x
  | cons {l x y} : Tr x y → Tr (l :: x) (l :: y)
  | swap {a b x} : comm a b = true → Tr (a :: b :: x) (b :: a :: x)
  | trans {x y z} : Tr x y → Tr y z → Tr x z
theorem Tr.symm {x y : List Li} (h : Tr x y) : Tr y x := by
  induction h with
  | refl => exact .refl
  | cons _ ih => exact .cons ih
  | swap h => exact .swap (comm_symm h)
  | trans _ _ i1 i2 => exact .trans i2 i1
theorem Tr.len {x y : List Li} (h : Tr x y) : x.length = y.length := by
  induction h with
  | refl => rfl
  | cons _ ih => simp [ih]
  | swap h => rfl
  | trans _ _ i1 i2 => exact i1.trans i2
theorem Tr.app {x y : List Li} (h : Tr x y) (z : List Li) : Tr (x ++ z) (y ++ z) := by
  induction h with
  | refl => exact .refl
  | cons _ ih => exact .cons ih
  | swap h => exact .swap h
  | trans _ _ i1 i2 => exact .trans i1 i2
theorem Tr.pre {x y : List Li} (h : Tr x y) : ∀ z : List Li, Tr (z ++ x) (z ++ y)
  | [] => h
  | a :: z => .cons (h.pre z)
theorem Tr.mem {x y : List Li} (h : Tr x y) {l : Li} : l ∈ x ↔ l ∈ y := by
  induction h with
  | refl => rfl
  | cons _ ih => simp [ih]
  | swap h => simp only [List.mem_cons]; exact ⟨fun h => by rcases h with h | h | h <;> simp [h], fun h => by rcases h with h | h | h <;> simp [h]⟩
  | trans _ _ i1 i2 => exact i1.trans i2
theorem Tr.front {x y : List Li} (h : Tr x y) (s : Sd) : front s x = front s y := by
  induction h with
  | refl => rfl
  | cons _ ih =>
    unfold TW.front
    rw [ih]
  | @swap a b x h =>
    have h' := comm_symm h
    have hne : a.1 ≠ b.1 := by
      simp only [comm, Bool.and_eq_true, decide_eq_true_eq] at h
      exact h.1
    by_cases ea : a.1 = s
    · have eb : ¬ b.1 = s := fun e => hne (ea.trans e.symm)
      simp only [TW.front, if_pos ea, if_neg eb, if_pos h']
    · by_cases eb : b.1 = s
      · simp only [TW.front, if_neg ea, if_pos eb, if_pos h]
      · simp only [TW.front, if_neg ea, if_neg eb]
        cases TW.front s x with
        | none => rfl
        | some y =>
          dsimp only
          by_cases c1 : comm a y = true
          · by_cases c2 : comm b y = true
            · simp [c1, c2]
            · simp [c1, c2]
          · by_cases c2 : comm b y = true
            · simp [c1, c2]
            · simp [c1, c2]
  | trans _ _ i1 i2 => exact i1.trans i2
theorem Tr.rm {x y : List Li} (h : Tr x y) (s : Sd) : Tr (rmS s x) (rmS s y) := by
  induction h with
  | refl => exact .refl
  | @cons l x y h ih =>
    unfold rmS
    by_cases e : l.1 = s
    · rw [if_pos e, if_pos e]
      exact h
    · rw [if_neg e, if_neg e]
      exact .cons ih
  | @swap a b x h =>
    have hne : a.1 ≠ b.1 := by
      simp only [comm, Bool.and_eq_true, decide_eq_true_eq] at h
      exact h.1
    by_cases ea : a.1 = s
    · have eb : ¬ b.1 = s := fun e => hne (ea.trans e.symm)
      simp only [rmS, if_pos ea, if_neg eb]
      exact .refl
    · by_cases eb : b.1 = s
      · simp only [rmS, if_neg ea, if_pos eb]
        exact .refl
      · simp only [rmS, if_neg ea, if_neg eb]
        exact .swap h
  | trans _ _ i1 i2 => exact .trans i1 i2
theorem Tr.least : ∀ {n : Nat} {x y : List Li}, Tr x y → least n x = least n y
  | 0, _, _, _ => rfl
  | n + 1, x, y, h => by
    have ft := h.front .top
    have fr := h.front .right
    have fb := h.front .bottom
    have fl := h.front .left
    unfold TW.least pick
    rw [ft, fr, fb, fl]
    cases TW.front .top y with
    | some a =>
      dsimp only
      rw [Tr.least (h.rm .top)]
    | none =>
      dsimp only
      cases TW.front .right y with
      | some a =>
        dsimp only
        rw [Tr.least (h.rm .right)]
      | none =>
        dsimp only
        cases TW.front .bottom y with
        | some a =>
          dsimp only
          rw [Tr.least (h.rm .bottom)]
        | none =>
          dsimp only
          cases TW.front .left y with
          | some a =>
            dsimp only
            rw [Tr.least (h.rm .left)]
          | none => rfl
theorem front_tr {s : Sd} : ∀ {xs : List Li} {x : Li}, front s xs = some x → Tr xs (x :: rmS s xs)
  | [], _, h => by cases h
  | l :: r, x, h => by
    unfold front at h
    unfold rmS
    by_cases e : l.1 = s
    · rw [if_pos e] at h ⊢
      rw [Option.some.inj h]
      exact .refl
    · rw [if_neg e] at h ⊢
      cases f : front s r with
      | none =>
        rw [f] at h
        cases h
      | some y =>
        rw [f] at h
        dsimp only at h
        by_cases c : comm l y = true
        · rw [if_pos c] at h
          rw [← Option.some.inj h]
          exact .trans (.cons (front_tr f)) (.swap c)
        · rw [if_neg c] at h
          cases h
theorem pick_tr {xs : List Li} {x : Li} {r : List Li} (h : pick xs = some (x, r)) : Tr xs (x :: r) := by
  unfold pick at h
  cases f : front .top xs with
  | some a =>
    rw [f] at h
    cases h
    exact front_tr f
  | none =>
    rw [f] at h
    dsimp only at h
    cases f : front .right xs with
    | some a =>
      rw [f] at h
      cases h
      exact front_tr f
    | none =>
      rw [f] at h
      dsimp only at h
      cases f : front .bottom xs with
      | some a =>
        rw [f] at h
        cases h
        exact front_tr f
      | none =>
        rw [f] at h
        dsimp only at h
        cases f : front .left xs with
        | some a =>
          rw [f] at h
          cases h
          exact front_tr f
        | none =>
          rw [f] at h
          cases h
theorem pick_some {l : Li} {xs : List Li} : ∃ x r, pick (l :: xs) = some (x, r) := by
  have h : front l.1 (l :: xs) = some l := if_pos rfl
  unfold pick
  cases f : front .top (l :: xs) with
  | some a => exact ⟨_, _, rfl⟩
  | none =>
    dsimp only
    cases f2 : front .right (l :: xs) with
    | some a => exact ⟨_, _, rfl⟩
    | none =>
      dsimp only
      cases f3 : front .bottom (l :: xs) with
      | some a => exact ⟨_, _, rfl⟩
      | none =>
        dsimp only
        cases f4 : front .left (l :: xs) with
        | some a => exact ⟨_, _, rfl⟩
        | none =>
          exfalso
          generalize hs : l.1 = s at h
          cases s
          · rw [f] at h; cases h
          · rw [f2] at h; cases h
          · rw [f3] at h; cases h
          · rw [f4] at h; cases h
theorem least_tr : ∀ {n : Nat} {xs : List Li}, xs.length = n → Tr xs (least n xs)
  | 0, [], _ => .refl
  | n + 1, l :: xs, h => by
    obtain ⟨x, r, e⟩ := pick_some (l := l) (xs := xs)
    have t := pick_tr e
    have hl := t.len
    rw [List.length_cons, List.length_cons] at hl
    rw [List.length_cons] at h
    unfold least
    rw [e]
    exact .trans t (.cons (least_tr (by omega)))
/-! the order by places -/
def dec (p : Pl) (s : Sd) : Pl := fun k => if k = s then p k - 1 else p k
/-- the lines that are left when so many of each side are placed -/
def rem : List Li → Pl → List Li
  | [], _ => []
  | l :: r, p => if p l.1 = 0 then l :: rem r p else rem r (dec p l.1)
def cnt (s : Sd) (ls : List Li) : Nat := (ls.filter fun l => decide (l.1 = s)).length
theorem rem_zero : ∀ {ls : List Li}, rem ls (fun _ => 0) = ls
  | [] => rfl
  | l :: r => by
    unfold rem
    rw [if_pos rfl, rem_zero]
theorem dec_inc {p : Pl} {s : Sd} : dec (inc p s) s = p := by
  funext k
  by_cases e : k = s
  · simp [dec, inc, e]
  · simp [dec, inc, e]
theorem dec_inc1 {p : Pl} {s : Sd} (z : p s ≠ 0) : dec (inc p s) s = inc (dec p s) s := by
  funext k
  by_cases e : k = s
  · subst e
    simp only [dec, inc, if_true]
    omega
  · simp [dec, inc, e]
theorem dec_inc2 {p : Pl} {s t : Sd} (h : t ≠ s) : dec (inc p s) t = inc (dec p t) s := by
  funext k
  by_cases e : k = s
  · subst e
    simp [dec, inc, h.symm]
  · by_cases e2 : k = t
    · subst e2
      simp [dec, inc, e]
    · simp [dec, inc, e, e2]
theorem inc_at {p : Pl} {s : Sd} : inc p s s = p s + 1 := if_pos rfl
theorem inc_ne {p : Pl} {s t : Sd} (h : t ≠ s) : inc p s t = p t := if_neg h
theorem rem_inc {s : Sd} : ∀ {ls : List Li} {p : Pl}, rem ls (inc p s) = rmS s (rem ls p)
  | [], _ => rfl
  | l :: r, p => by
    unfold rem
    by_cases e : l.1 = s
    · subst e
      rw [inc_at, if_neg (Nat.succ_ne_zero _)]
      by_cases z : p l.1 = 0
      · rw [if_pos z, dec_inc]
        unfold rmS
        rw [if_pos rfl]
      · rw [if_neg z, dec_inc1 z, rem_inc]
    · rw [inc_ne e]
      by_cases z : p l.1 = 0
      · rw [if_pos z, if_pos z, rem_inc]
        show _ = (if l.1 = s then _ else _)
        rw [if_neg e]
      · rw [if_neg z, if_neg z, dec_inc2 e, rem_inc]
end TW

set_option Elab.async false
set_option linter.all false
set_option maxRecDepth 100000
set_option maxHeartbeats 4000000
/-! the least order by places is the least order on lists -/
namespace TW
open PySem PySem.Spec PyProof.Rows L2 DL FL PD TP TR TU
def colS (n : Sd) (ls : List Li) : List Int := (ls.filter fun l => decide (l.1 = n)).map (·.2)
theorem colS_cons {n : Sd} {l : Li} {r : List Li} : colS n (l :: r) = if l.1 = n then l.2 :: colS n r else colS n r := by
  unfold colS
  by_cases e : l.1 = n
  · rw [List.filter_cons_of_pos (by simpa using e), if_pos e]
    rfl
  · rw [List.filter_cons_of_neg (by simpa using e), if_neg e]
theorem cnt_cons {n : Sd} {l : Li} {r : List Li} : cnt n (l :: r) = if l.1 = n then cnt n r + 1 else cnt n r := by
  unfold cnt
  by_cases e : l.1 = n
  · rw [List.filter_cons_of_pos (by simpa using e), if_pos e]
    rfl
  · rw [List.filter_cons_of_neg (by simpa using e), if_neg e]
theorem colS_len {n : Sd} {ls : List Li} : (colS n ls).length = cnt n ls := by
  unfold colS cnt
  rw [List.length_map]
theorem all_c : ∀ {ls : List Li} {W : Ws} {n : Sd}, (W.all ls).c n = W.c n ++ colS n ls
  | [], W, n => (List.append_nil _).symm
  | l :: r, W, n => by
    show ((W.add l).all r).c n = _
    rw [all_c, colS_cons]
    show upS W.c l.1 l.2 n ++ _ = _
    unfold TU.upS
    by_cases e : l.1 = n
    · rw [if_pos e.symm, if_pos e, List.append_assoc]
      rfl
    · rw [if_neg (fun h => e h.symm), if_neg e]
theorem wn_c {ls : List Li} {n : Sd} : (Wn ls).c n = colS n ls := by
  rw [all_c]
  rfl
theorem all_q : ∀ {ls : List Li} {W : Ws} {n : Sd}, ((W.all ls).q n).length = (W.q n).length + cnt n ls
  | [], W, n => rfl
  | l :: r, W, n => by
    show (((W.add l).all r).q n).length = _
    rw [all_q, cnt_cons]
    show (upS W.q l.1 (l, W.need l) n).length + _ = _
    unfold TU.upS
    by_cases e : l.1 = n
    · rw [if_pos e.symm, if_pos e, List.length_append]
      show _ + 1 + _ = _
      omega
    · rw [if_neg (fun h => e h.symm), if_neg e]
theorem wn_q {ls : List Li} {n : Sd} : ((Wn ls).q n).length = cnt n ls := by
  rw [all_q]
  show 0 + _ = _
  omega
theorem rem_snoc {l : Li} : ∀ {ls : List Li} {p : Pl}, rem (ls ++ [l]) p = rem ls p ++ (if p l.1 ≤ cnt l.1 ls then [l] else [])
  | [], p => by
    show (if p l.1 = 0 then [l] else []) = [] ++ (if p l.1 ≤ 0 then [l] else [])
    rw [List.nil_append]
    by_cases z : p l.1 = 0
    · rw [if_pos z, if_pos (by omega)]
    · rw [if_neg z, if_neg (by omega)]
  | x :: r, p => by
    show (if p x.1 = 0 then x :: rem (r ++ [l]) p else rem (r ++ [l]) (dec p x.1)) = (if p x.1 = 0 then x :: rem r p else rem r (dec p x.1)) ++ _
    rw [cnt_cons]
    by_cases z : p x.1 = 0
    · rw [if_pos z, if_pos z, rem_snoc]
      by_cases e : x.1 = l.1
      · rw [if_pos e, if_pos (by rw [← e, z]; omega), if_pos (by rw [← e, z]; omega)]
        rfl
      · rw [if_neg e]
        rfl
    · rw [if_neg z, if_neg z, rem_snoc]
      by_cases e : x.1 = l.1
      · rw [if_pos e]
        have d : dec p x.1 l.1 = p l.1 - 1 := if_pos e.symm
        rw [d]
        rw [e] at z
        by_cases h : p l.1 ≤ cnt l.1 r + 1
        · rw [if_pos h, if_pos (by omega)]
        · rw [if_neg h, if_neg (by omega)]
      · rw [if_neg e]
        have d : dec p x.1 l.1 = p l.1 := if_neg fun h => e h.symm
        rw [d]
theorem rem_col {n : Sd} : ∀ {ls : List Li} {p : Pl}, colS n (rem ls p) = (colS n ls).drop (p n)
  | [], p => by
    show [] = List.drop _ []
    rw [List.drop_nil]
  | x :: r, p => by
    show colS n (if p x.1 = 0 then x :: rem r p else rem r (dec p x.1)) = _
    rw [colS_cons]
    by_cases z : p x.1 = 0
    · rw [if_pos z, colS_cons, rem_col]
      by_cases e : x.1 = n
      · rw [if_pos e, if_pos e, ← e, z]
        rfl
      · rw [if_neg e, if_neg e]
    · rw [if_neg z, rem_col]
      by_cases e : x.1 = n
      · rw [if_pos e]
        have d : dec p x.1 n = p n - 1 := if_pos e.symm
        rw [d]
        rw [e] at z
        obtain ⟨k, hk⟩ : ∃ k, p n = k + 1 := ⟨p n - 1, by omega⟩
        rw [hk]
        rfl
      · rw [if_neg e]
        have d : dec p x.1 n = p n := if_neg fun h => e h.symm
        rw [d]
theorem mem_col {l : Li} {xs : List Li} : l ∈ xs ↔ l.2 ∈ colS l.1 xs := by
  unfold colS
  rw [List.mem_map]
  constructor
  · intro h
    exact ⟨l, List.mem_filter.mpr ⟨h, by simp⟩, rfl⟩
  · rintro ⟨a, h, e⟩
    obtain ⟨h1, h2⟩ := List.mem_filter.mp h
    have : a = l := Prod.ext (by simpa using h2) e
    rw [← this]
    exact h1
theorem front_cons {s : Sd} {x : Li} {r : List Li} : front s (x :: r) = if x.1 = s then some x else match front s r with
    | some y => if comm x y = true then some y else none
    | none => none := rfl
theorem front_ne {s : Sd} {l : Li} (h : l.1 ≠ s) : ∀ {xs : List Li}, front s (xs ++ [l]) = front s xs
  | [] => by
    show (if l.1 = s then some l else none) = none
    rw [if_neg h]
  | x :: r => by
    rw [List.cons_append, front_cons, front_cons, front_ne h]
theorem front_has {s : Sd} {l : Li} : ∀ {xs : List Li}, (∃ x ∈ xs, x.1 = s) → front s (xs ++ [l]) = front s xs
  | [], h => by
    obtain ⟨x, hx, _⟩ := h
    cases hx
  | x :: r, h => by
    rw [List.cons_append, front_cons, front_cons]
    by_cases e : x.1 = s
    · rw [if_pos e, if_pos e]
    · rw [if_neg e, if_neg e, front_has]
      obtain ⟨y, hy, ey⟩ := h
      rcases List.mem_cons.mp hy with hy | hy
      · rw [hy] at ey
        exact absurd ey e
      · exact ⟨y, hy, ey⟩
theorem front_new {l : Li} : ∀ {xs : List Li}, (∀ x ∈ xs, x.1 ≠ l.1) → front l.1 (xs ++ [l]) = if xs.all (fun x => comm x l) = true then some l else none
  | [], _ => by
    show (if l.1 = l.1 then some l else none) = _
    rw [if_pos rfl]
    rfl
  | x :: r, h => by
    show (if x.1 = l.1 then some x else match front l.1 (r ++ [l]) with
      | some y => if comm x y = true then some y else none
      | none => none) = _
    rw [if_neg (h x List.mem_cons_self), front_new fun y hy => h y (List.mem_cons_of_mem _ hy), List.all_cons]
    by_cases a : r.all (fun x => comm x l) = true
    · rw [if_pos a, a, Bool.and_true]
    · rw [if_neg a]
      dsimp only
      rw [if_neg (by simp only [Bool.and_eq_true]; exact fun h => a h.2)]
theorem front_none {s : Sd} : ∀ {xs : List Li}, (∀ x ∈ xs, x.1 ≠ s) → front s xs = none
  | [], _ => rfl
  | x :: r, h => by
    unfold front
    rw [if_neg (h x List.mem_cons_self), front_none fun y hy => h y (List.mem_cons_of_mem _ hy)]
theorem nlu_iff {cs : List Int} {c : Int} {k : Nat} : nlu cs c ≤ k ↔ ∀ x ∈ cs.drop k, x = c := by
  have go : ∀ m, m ≤ cs.length → (nluGo cs c m ≤ k ↔ ∀ i, k ≤ i → i < m → cs.getD i 0 = c) := by
    intro m
    induction m with
    | zero =>
      intro _
      exact ⟨fun _ i _ h => absurd h (by omega), fun _ => Nat.zero_le _⟩
    | succ m ih =>
      intro hm
      unfold nluGo
      by_cases e : cs.getD m 0 = c
      · rw [if_pos e, ih (by omega)]
        constructor
        · intro h i h1 h2
          by_cases q : i = m
          · rw [q]
            exact e
          · exact h i h1 (by omega)
        · intro h i h1 h2
          exact h i h1 (by omega)
      · rw [if_neg e]
        constructor
        · intro h i h1 h2
          exact absurd h (by omega)
        · intro h
          refine Nat.le_of_not_lt fun q => e (h m (by omega) (by omega))
  unfold nlu
  rw [go _ (Nat.le_refl _)]
  constructor
  · intro h x hx
    obtain ⟨i, hi, e⟩ := List.mem_iff_getElem.mp hx
    rw [List.length_drop] at hi
    rw [List.getElem_drop] at e
    have := h (k + i) (by omega) (by omega)
    rw [List.getD_eq_getElem?_getD, List.getElem?_eq_getElem (by omega)] at this
    rw [← e]
    exact this
  · intro h i h1 h2
    rw [List.getD_eq_getElem?_getD, List.getElem?_eq_getElem h2]
    refine h _ (List.mem_iff_getElem.mpr ⟨i - k, by rw [List.length_drop]; omega, ?_⟩)
    rw [List.getElem_drop]
    congr 1
    omega
/-- all colours of a side that are left are this one -/
theorem side_ok {ls : List Li} {p : Pl} {n : Sd} {c : Int} : nlu ((Wn ls).c n) c ≤ p n ↔ ∀ x ∈ rem ls p, x.1 = n → x.2 = c := by
  rw [nlu_iff, wn_c, ← rem_col]
  constructor
  · intro h x hx e
    refine h _ ?_
    rw [← e]
    exact mem_col.mp hx
  · intro h y hy
    exact h (n, y) (mem_col.mpr hy) rfl
theorem ready_iff {ls : List Li} {p : Pl} {l : Li} (h : ∀ x ∈ rem ls p, x.1 ≠ l.1) : readyB ((Wn ls).need l) p = (rem ls p).all (fun x => comm x l) := by
  obtain ⟨s, c⟩ := l
  have key : readyB ((Wn ls).need (s, c)) p = true ↔ (rem ls p).all (fun x => comm x (s, c)) = true := by
    have r1 := side_ok (ls := ls) (p := p) (n := .top) (c := c)
    have r2 := side_ok (ls := ls) (p := p) (n := .right) (c := c)
    have r3 := side_ok (ls := ls) (p := p) (n := .bottom) (c := c)
    have r4 := side_ok (ls := ls) (p := p) (n := .left) (c := c)
    rw [List.all_eq_true]
    have tb : (readyB [0, (nlu ((Wn ls).c .right) c : Nat), 0, (nlu ((Wn ls).c .left) c : Nat)] p = true) ↔ (nlu ((Wn ls).c .right) c ≤ p .right ∧ nlu ((Wn ls).c .left) c ≤ p .left) := by
      simp only [readyB, TU.plL, List.zip_cons_cons, List.zip_nil_right, List.all_cons, List.all_nil, Bool.and_true, Bool.and_eq_true, decide_eq_true_eq]
      omega
    have lr : (readyB [(nlu ((Wn ls).c .top) c : Nat), 0, (nlu ((Wn ls).c .bottom) c : Nat), 0] p = true) ↔ (nlu ((Wn ls).c .top) c ≤ p .top ∧ nlu ((Wn ls).c .bottom) c ≤ p .bottom) := by
      simp only [readyB, TU.plL, List.zip_cons_cons, List.zip_nil_right, List.all_cons, List.all_nil, Bool.and_true, Bool.and_eq_true, decide_eq_true_eq]
      omega
    cases s with
    | top =>
      show readyB [0, (nlu ((Wn ls).c .right) c : Nat), 0, (nlu ((Wn ls).c .left) c : Nat)] p = true ↔ _
      rw [tb, r2, r4]
      constructor
      · rintro ⟨a, b⟩ ⟨x, y⟩ hx
        have := h _ hx
        cases x
        · exact absurd rfl this
        · have := a _ hx rfl
          simp only [comm, opp, Bool.and_eq_true, Bool.or_eq_true, decide_eq_true_eq]
          exact ⟨by decide, .inr this⟩
        · simp [comm, opp]
        · have := b _ hx rfl
          simp only [comm, opp, Bool.and_eq_true, Bool.or_eq_true, decide_eq_true_eq]
          exact ⟨by decide, .inr this⟩
      · intro a
        refine ⟨fun x hx e => ?_, fun x hx e => ?_⟩
        · have := a x hx
          simpa [comm, opp, e] using this
        · have := a x hx
          simpa [comm, opp, e] using this
    | right =>
      show readyB [(nlu ((Wn ls).c .top) c : Nat), 0, (nlu ((Wn ls).c .bottom) c : Nat), 0] p = true ↔ _
      rw [lr, r1, r3]
      constructor
      · rintro ⟨a, b⟩ ⟨x, y⟩ hx
        have := h _ hx
        cases x
        · have := a _ hx rfl
          simp only [comm, opp, Bool.and_eq_true, Bool.or_eq_true, decide_eq_true_eq]
          exact ⟨by decide, .inr this⟩
        · exact absurd rfl this
        · have := b _ hx rfl
          simp only [comm, opp, Bool.and_eq_true, Bool.or_eq_true, decide_eq_true_eq]
          exact ⟨by decide, .inr this⟩
        · simp [comm, opp]
      · intro a
        refine ⟨fun x hx e => ?_, fun x hx e => ?_⟩
        · have := a x hx
          simpa [comm, opp, e] using this
        · have := a x hx
          simpa [comm, opp, e] using this
    | bottom =>
      show readyB [0, (nlu ((Wn ls).c .right) c : Nat), 0, (nlu ((Wn ls).c .left) c : Nat)] p = true ↔ _
      rw [tb, r2, r4]
      constructor
      · rintro ⟨a, b⟩ ⟨x, y⟩ hx
        have := h _ hx
        cases x
        · simp [comm, opp]
        · have := a _ hx rfl
          simp only [comm, opp, Bool.and_eq_true, Bool.or_eq_true, decide_eq_true_eq]
          exact ⟨by decide, .inr this⟩
        · exact absurd rfl this
        · have := b _ hx rfl
          simp only [comm, opp, Bool.and_eq_true, Bool.or_eq_true, decide_eq_true_eq]
          exact ⟨by decide, .inr this⟩
      · intro a
        refine ⟨fun x hx e => ?_, fun x hx e => ?_⟩
        · have := a x hx
          simpa [comm, opp, e] using this
        · have := a x hx
          simpa [comm, opp, e] using this
    | left =>
      show readyB [(nlu ((Wn ls).c .top) c : Nat), 0, (nlu ((Wn ls).c .bottom) c : Nat), 0] p = true ↔ _
      rw [lr, r1, r3]
      constructor
      · rintro ⟨a, b⟩ ⟨x, y⟩ hx
        have := h _ hx
        cases x
        · have := a _ hx rfl
          simp only [comm, opp, Bool.and_eq_true, Bool.or_eq_true, decide_eq_true_eq]
          exact ⟨by decide, .inr this⟩
        · simp [comm, opp]
        · have := b _ hx rfl
          simp only [comm, opp, Bool.and_eq_true, Bool.or_eq_true, decide_eq_true_eq]
          exact ⟨by decide, .inr this⟩
        · exact absurd rfl this
      · intro a
        refine ⟨fun x hx e => ?_, fun x hx e => ?_⟩
        · have := a x hx
          simpa [comm, opp, e] using this
        · have := a x hx
          simpa [comm, opp, e] using this
  rw [Bool.eq_iff_iff]
  exact key
theorem has_side {ls : List Li} {p : Pl} {s : Sd} (h : p s < cnt s ls) : ∃ x ∈ rem ls p, x.1 = s := by
  have e := rem_col (n := s) (ls := ls) (p := p)
  have hl : 0 < (colS s (rem ls p)).length := by
    rw [e, List.length_drop, colS_len]
    omega
  obtain ⟨c, hc⟩ := List.exists_mem_of_length_pos hl
  exact ⟨(s, c), mem_col.mpr hc, rfl⟩
theorem no_side {ls : List Li} {p : Pl} {s : Sd} (h : cnt s ls ≤ p s) : ∀ x ∈ rem ls p, x.1 ≠ s := by
  intro x hx e
  have hm := mem_col.mp hx
  rw [e, rem_col, List.drop_of_length_le (by rw [colS_len]; exact h)] at hm
  cases hm
def nx1 (s : Sd) (p : Pl) : Option Li → List (Li × Pl)
  | some x => [(x, inc p s)]
  | none => []
theorem next_front : ∀ {n : Nat} {ls : List Li}, ls.length = n → ∀ {p : Pl} {s : Sd}, nextS (Wn ls) p s = nx1 s p (front s (rem ls p))
  | 0, [], _, p, s => rfl
  | n + 1, ls, hl, p, s => by
    rcases List.eq_nil_or_concat ls with e | ⟨xs, l, e⟩
    · rw [e] at hl
      cases hl
    · rw [List.concat_eq_append] at e
      subst e
      have ih := next_front (n := n) (ls := xs) (by rw [List.length_append, List.length_singleton] at hl; omega) (p := p) (s := s)
      have ea : Wn (xs ++ [l]) = (Wn xs).add l := by
        show Ws.all _ _ = _
        unfold Ws.all
        rw [List.foldl_append]
        rfl
      rw [ea, rem_snoc]
      by_cases e : s = l.1
      · subst e
        have q : ((Wn xs).add l).q l.1 = (Wn xs).q l.1 ++ [(l, (Wn xs).need l)] := if_pos rfl
        unfold nextS at ih ⊢
        rw [q]
        by_cases h1 : p l.1 < cnt l.1 xs
        · rw [List.getElem?_append_left (by rw [wn_q]; exact h1), ih, if_pos (Nat.le_of_lt h1), front_has (has_side h1)]
        · by_cases h2 : p l.1 = cnt l.1 xs
          · rw [List.getElem?_append_right (by rw [wn_q]; omega), wn_q, h2, Nat.sub_self, if_pos (Nat.le_refl _), front_new (no_side (by omega)), ← ready_iff (no_side (by omega))]
            show (if readyB ((Wn xs).need l) p = true then [(l, inc p l.1)] else []) = _
            by_cases r : readyB ((Wn xs).need l) p = true
            · rw [if_pos r, if_pos r]
              rfl
            · rw [if_neg r, if_neg r]
              rfl
          · rw [List.getElem?_eq_none (by rw [List.length_append, wn_q]; show _ + 1 ≤ _; omega), if_neg (by omega), List.append_nil, front_none (no_side (by omega))]
            rfl
      · have q : ((Wn xs).add l).q s = (Wn xs).q s := if_neg e
        unfold nextS at ih ⊢
        rw [q, ih]
        congr 1
        by_cases h : p l.1 ≤ cnt l.1 xs
        · rw [if_pos h, front_ne fun z => e z.symm]
        · rw [if_neg h, List.append_nil]
theorem ord_least {ls : List Li} : ∀ {n : Nat} {p : Pl}, ordGo (Wn ls) n p = least n (rem ls p)
  | 0, _ => rfl
  | n + 1, p => by
    have ft := next_front (ls := ls) rfl (p := p) (s := .top)
    have fr := next_front (ls := ls) rfl (p := p) (s := .right)
    have fb := next_front (ls := ls) rfl (p := p) (s := .bottom)
    have fl := next_front (ls := ls) rfl (p := p) (s := .left)
    unfold ordGo least pick nextL
    rw [ft, fr, fb, fl]
    cases front .top (rem ls p) with
    | some a =>
      dsimp only [nx1, List.cons_append]
      rw [ord_least, rem_inc]
    | none =>
      dsimp only [nx1, List.nil_append]
      cases front .right (rem ls p) with
      | some a =>
        dsimp only [nx1, List.cons_append]
        rw [ord_least, rem_inc]
      | none =>
        dsimp only [nx1, List.nil_append]
        cases front .bottom (rem ls p) with
        | some a =>
          dsimp only [nx1, List.cons_append]
          rw [ord_least, rem_inc]
        | none =>
          dsimp only [nx1, List.nil_append]
          cases front .left (rem ls p) with
          | some a =>
            dsimp only [nx1, List.cons_append]
            rw [ord_least, rem_inc]
          | none => rfl
theorem leastO_eq {ls : List Li} : leastO ls = least ls.length ls := by
  unfold leastO
  rw [ord_least, rem_zero]
/-- the least order is an order of the same frame -/
theorem leastO_tr {ls : List Li} : Tr ls (leastO ls) := by
  rw [leastO_eq]
  exact least_tr rfl
/-- orders of one frame have the same least order -/
theorem Tr.leastO {x y : List Li} (h : Tr x y) : leastO x = leastO y := by
  rw [leastO_eq, leastO_eq, h.len]
  exact h.least
theorem leastO_idem {ls : List Li} : TU.leastO (TU.leastO ls) = TU.leastO ls := leastO_tr.symm.leastO
end TW

set_option Elab.async false
set_option linter.all false
set_option maxRecDepth 100000
set_option maxHeartbeats 8000000
/-! the widths of a frame; the composition of two effects -/
namespace TU
open PySem PySem.Spec PyProof.Rows L2 DL FL PD TP TR TW
local macro_rules | `(tactic| walk_at "g1") => `(tactic| first
  | with_reducible refine wp_dget ?_
  | with_reducible refine wp_din ?_
  | with_reducible refine wp_dput ?_
  | with_reducible refine wp_daug ?_
  | with_reducible refine wp_tru ?_
  | with_reducible refine wp_pop ?_
  | with_reducible refine wp_pop0 ?_
  | ((with_reducible apply wp_augN); (exact rfl))
  | with_reducible refine wp_disp ?_
  | with_reducible refine wp_pairs0 ?_
  | with_reducible refine wp_pairs ?_
  | with_reducible refine wp_call0 ?_ ?_
  | with_reducible refine wp_frz ?_
  | with_reducible refine wp_app ?_
  | with_reducible refine wp_make0 rfl ?_)
local macro_rules | `(tactic| walk_at "g1") => `(tactic| first
  | with_reducible refine wp_cmeth ?_
  | ((with_reducible apply wp_makeL); (exact rfl))
  | with_reducible refine wp_star ?_
  | with_reducible refine wp_lenO ?_
  | with_reducible refine gw_starT ?_
  | with_reducible refine gw_starL ?_)
variable {st : FL.St} {Q : D → FL.St → Prop} {X : Exn → FL.St → Prop} {t t2 : Int} {m m2 : Bool} {l l2 : Sd → Int} {ls ls2 : List Li}
theorem forder_e : e_Frame_order [frD ls] st = .ok (.lst (ls.map liD)) st := Res.eq_wp (wp_body0 (by
  unfold p_Frame_order
  walk_at "g"
  exact ⟨rfl, rfl, rfl⟩))
/-- how many lines of a side -/
def wdt (ls : List Li) (s : Sd) : Int := (TW.cnt s ls : Nat)
/-! ### the composition -/
def addL (l : Sd → Int) (s : Sd) (i : Int) : Sd → Int := setS l s (l s + i)
/-- the invT of a symmetry's turns -/
def invT (t : Int) (m : Bool) : Int := if m then t else -t % 4
def lostC (t : Int) (m : Bool) (l w l2 : Sd → Int) : Sd → Int := addL (addL (addL (addL l (symS (invT t m) m .top) (max (l2 .top - w .top) 0)) (symS (invT t m) m .right) (max (l2 .right - w .right) 0)) (symS (invT t m) m .bottom) (max (l2 .bottom - w .bottom) 0)) (symS (invT t m) m .left) (max (l2 .left - w .left) 0)
theorem addL_nn {l : Sd → Int} {s : Sd} {i : Int} (h : ∀ s, 0 ≤ l s) (hi : 0 ≤ i) : ∀ k, 0 ≤ addL l s i k := fun k => by
  unfold addL setS
  split
  · have := h s
    omega
  · exact h k
theorem lostC_nn {t : Int} {m : Bool} {l w l2 : Sd → Int} (h : ∀ s, 0 ≤ l s) : ∀ k, 0 ≤ lostC t m l w l2 k :=
  addL_nn (addL_nn (addL_nn (addL_nn h (by omega)) (by omega)) (by omega)) (by omega)
def leftC (w l2 : Sd → Int) (s : Sd) : Int := max (w s - l2 s) 0
def innerC (t : Int) (m : Bool) : (Sd → Int) → List Li → List Li
  | _, [] => []
  | f, (s, c) :: r => if 0 < f s then (symS t m s, c) :: innerC t m (setS f s (f s - 1)) r else innerC t m f r
abbrev cE (A B M : D) (n : Nat) (a5 a6 a7 : Option D) : Rho := [some A, some B, some M, some (.loc n), some (.loc (n + 1)), a5, a6, a7, none, none, none, none]
end TU

set_option Elab.async false
set_option linter.all false
set_option maxRecDepth 100000
set_option maxHeartbeats 4000000
/-! outcomes -/
namespace TR
open PySem PySem.Spec PyProof.Rows L2 DL FL PD TP
local macro_rules | `(tactic| walk_at "g1") => `(tactic| first
  | with_reducible refine wp_dget ?_
  | with_reducible refine wp_din ?_
  | with_reducible refine wp_dput ?_
  | with_reducible refine wp_daug ?_
  | with_reducible refine wp_tru ?_
  | with_reducible refine wp_pop ?_
  | with_reducible refine wp_pop0 ?_
  | ((with_reducible apply wp_augN); (exact rfl))
  | with_reducible refine wp_disp ?_
  | with_reducible refine wp_pairs0 ?_
  | with_reducible refine wp_pairs ?_
  | with_reducible refine wp_call0 ?_ ?_
  | with_reducible refine wp_frz ?_
  | with_reducible refine wp_app ?_
  | with_reducible refine wp_make0 rfl ?_)
variable {st : FL.St}
/-! rows moved by a symmetry -/
def turnN : Nat → Nat → Nat → Grid → Grid
  | 0, _, _, g => g
  | n + 1, h, w, g => turnN n w h (turnG w g)
def par : Nat → Nat → Nat → Nat
  | 0, h, _ => h
  | n + 1, h, w => par n w h
theorem Grd.turnN : ∀ {n h w : Nat} {g : Grid}, Grd h w g → Grd (par n h w) (par n w h) (TR.turnN n h w g)
  | 0, _, _, _, k => k
  | n + 1, h, w, g, k => Grd.turnN (n := n) (h := w) (w := h) (g := turnG w g) k.turn
def movedG (t : Int) (m : Bool) (h w : Nat) (g : Grid) : Grid := turnN t.toNat h w (if m = true then mirG g else g)
theorem Grd.moved {t : Int} {m : Bool} {h w : Nat} {g : Grid} (k : Grd h w g) : Grd (par t.toNat h w) (par t.toNat w h) (movedG t m h w g) := by
  unfold movedG
  cases m
  · exact Grd.turnN k
  · exact Grd.turnN k.mir
/-! the pictures that outcomes are -/
section
variable {S : D} {ps : List TP.Sp} {t : Bool} {h w : Int}
end
end TR

set_option Elab.async false
set_option linter.all false
set_option maxRecDepth 100000
set_option maxHeartbeats 4000000
/-! lines drawn around a picture -/
namespace TW
open PySem PySem.Spec PyProof.Rows L2 DL FL PD TP TR TU
theorem Rect.add {h w : Nat} {g : Grid} {c : Int} {s : Sd} (k : Rect h w g) : Rect (addH s h) (addW s w) (addG w c s g) := by
  have rh := k.h
  cases s
  · refine ⟨by simp [addG, addH, rh], fun r hr => ?_⟩
    rcases List.mem_cons.mp hr with rfl | hr
    · simp [addW]
    · exact k.w r hr
  · refine ⟨by simp [addG, addH, rh], fun r hr => ?_⟩
    simp only [addG, List.mem_map] at hr
    obtain ⟨q, hq, rfl⟩ := hr
    simp [addW, k.w q hq]
  · refine ⟨by simp [addG, addH, rh], fun r hr => ?_⟩
    rcases List.mem_append.mp hr with hr | hr
    · exact k.w r hr
    · rw [List.mem_singleton.mp hr]
      simp [addW]
  · refine ⟨by simp [addG, addH, rh], fun r hr => ?_⟩
    simp only [addG, List.mem_map] at hr
    obtain ⟨q, hq, rfl⟩ := hr
    simp [addW, k.w q hq]
def drG : Nat → Grid → List Li → Grid
  | _, g, [] => g
  | w, g, (s, c) :: r => drG (addW s w) (addG w c s g) r
def drW : Nat → List Li → Nat
  | w, [] => w
  | w, (s, _) :: r => drW (addW s w) r
def drH : Nat → List Li → Nat
  | h, [] => h
  | h, (s, _) :: r => drH (addH s h) r
theorem Rect.dr : ∀ {ls : List Li} {h w : Nat} {g : Grid}, Rect h w g → Rect (drH h ls) (drW w ls) (drG w g ls)
  | [], _, _, _, k => k
  | (s, c) :: r, h, w, g, k => Rect.dr (ls := r) (Rect.add (c := c) (s := s) k)
theorem drG_app : ∀ {x y : List Li} {w : Nat} {g : Grid}, drG w g (x ++ y) = drG (drW w x) (drG w g x) y
  | [], _, _, _ => rfl
  | (s, c) :: r, y, w, g => drG_app (x := r)
theorem drW_app : ∀ {x y : List Li} {w : Nat}, drW w (x ++ y) = drW (drW w x) y
  | [], _, _ => rfl
  | (s, c) :: r, y, w => drW_app (x := r)
/-- lines that may be exchanged give the same picture -/
theorem add_comm {w : Nat} {g : Grid} {a b : Li} (h : comm a b = true) : addG (addW a.1 w) b.2 b.1 (addG w a.2 a.1 g) = addG (addW b.1 w) a.2 a.1 (addG w b.2 b.1 g) ∧ addW b.1 (addW a.1 w) = addW a.1 (addW b.1 w) := by
  obtain ⟨s, c⟩ := a
  obtain ⟨s', c'⟩ := b
  simp only [comm, Bool.and_eq_true, Bool.or_eq_true, decide_eq_true_eq] at h
  obtain ⟨h1, h2⟩ := h
  cases s <;> cases s' <;> first | (exact absurd rfl h1) | skip
  all_goals
    first
    | (rcases h2 with h2 | h2
       · cases h2
       · subst h2
         refine ⟨?_, rfl⟩
         simp [addG, addW, List.replicate_succ', List.map_map]
         try simp [← List.replicate_succ', List.replicate_succ])
    | (refine ⟨?_, rfl⟩
       simp [addG, addW, List.map_map])
theorem Tr.dr {x y : List Li} (h : Tr x y) : ∀ {w : Nat} {g : Grid}, drG w g x = drG w g y ∧ drW w x = drW w y := by
  induction h with
  | refl => exact ⟨rfl, rfl⟩
  | @cons l x y _ ih =>
    intro w g
    obtain ⟨s, c⟩ := l
    exact ih
  | @swap a b x h =>
    intro w g
    obtain ⟨s, c⟩ := a
    obtain ⟨s', c'⟩ := b
    obtain ⟨e1, e2⟩ := add_comm (w := w) (g := g) h
    dsimp only at e1 e2
    unfold drG drW
    unfold drG drW
    rw [e1, e2]
    exact ⟨rfl, rfl⟩
  | trans _ _ i1 i2 =>
    intro w g
    exact ⟨i1.1.trans i2.1, (i1 (g := g)).2.trans (i2 (g := g)).2⟩
/-! moved by a symmetry -/
theorem mir_add {w : Nat} {g : Grid} {c : Int} {s : Sd} : mirG (addG w c s g) = addG w c (symS 0 true s) (mirG g) := by
  cases s
  · show mirG (List.replicate w c :: g) = List.replicate w c :: mirG g
    simp [mirG]
  · show mirG (g.map fun r => r ++ [c]) = (mirG g).map fun r => c :: r
    simp [mirG, List.map_map]
  · show mirG (g ++ [List.replicate w c]) = mirG g ++ [List.replicate w c]
    simp [mirG]
  · show mirG (g.map fun r => c :: r) = (mirG g).map fun r => r ++ [c]
    simp [mirG, List.map_map]
theorem turn_add {h w : Nat} {g : Grid} {c : Int} {s : Sd} (k : Rect h w g) : turnG (addW s w) (addG w c s g) = addG h c (symS 1 false s) (turnG w g) := by
  cases s
  · show turnG w (List.replicate w c :: g) = (turnG w g).map fun r => r ++ [c]
    unfold TP.turnG
    rw [List.map_map]
    refine List.map_congr_left fun j hj => ?_
    have hj := List.mem_range.mp hj
    simp only [List.reverse_cons, List.map_append, List.map_cons, List.map_nil, Function.comp]
    rw [List.getD_eq_getElem?_getD, List.getElem?_replicate, if_pos hj]
    rfl
  · show turnG (w + 1) (g.map fun r => r ++ [c]) = turnG w g ++ [List.replicate h c]
    unfold TP.turnG
    rw [List.range_succ, List.map_append, List.map_cons, List.map_nil]
    congr 1
    · refine List.map_congr_left fun j hj => ?_
      have hj := List.mem_range.mp hj
      rw [← List.map_reverse, List.map_map]
      refine List.map_congr_left fun r hr => ?_
      have hw := k.w r (List.mem_reverse.mp hr)
      show (r ++ [c]).getD j 0 = r.getD j 0
      rw [List.getD_eq_getElem?_getD, List.getD_eq_getElem?_getD, List.getElem?_append_left (by omega)]
    · congr 1
      refine List.eq_replicate_iff.mpr ⟨by simp [k.h], fun x hx => ?_⟩
      rw [← List.map_reverse, List.map_map] at hx
      obtain ⟨r, hr, e⟩ := List.mem_map.mp hx
      have hw := k.w r (List.mem_reverse.mp hr)
      rw [← e]
      show (r ++ [c]).getD w 0 = c
      rw [List.getD_eq_getElem?_getD, List.getElem?_append_right (by omega), hw, Nat.sub_self]
      rfl
  · show turnG w (g ++ [List.replicate w c]) = (turnG w g).map fun r => c :: r
    unfold TP.turnG
    rw [List.map_map]
    refine List.map_congr_left fun j hj => ?_
    have hj := List.mem_range.mp hj
    simp only [List.reverse_append, List.reverse_cons, List.reverse_nil, List.nil_append, List.cons_append, List.map_cons, Function.comp]
    rw [List.getD_eq_getElem?_getD, List.getElem?_replicate, if_pos hj]
    rfl
  · show turnG (w + 1) (g.map fun r => c :: r) = List.replicate h c :: turnG w g
    unfold TP.turnG
    rw [List.range_succ_eq_map, List.map_cons, List.map_map]
    congr 1
    · refine List.eq_replicate_iff.mpr ⟨by simp [k.h], fun x hx => ?_⟩
      rw [← List.map_reverse, List.map_map] at hx
      obtain ⟨r, hr, e⟩ := List.mem_map.mp hx
      rw [← e]
      rfl
    · refine List.map_congr_left fun j hj => ?_
      show ((g.map fun r => c :: r).reverse.map fun r => r.getD (j + 1) 0) = _
      rw [← List.map_reverse, List.map_map]
      rfl
def rotS : Nat → Sd → Sd
  | 0, s => s
  | n + 1, s => rotS n (symS 1 false s)
theorem turnN_add {c : Int} : ∀ {n h w : Nat} {g : Grid} {s : Sd}, Rect h w g → turnN n (addH s h) (addW s w) (addG w c s g) = addG (par n w h) c (rotS n s) (turnN n h w g)
  | 0, h, w, g, s, k => rfl
  | n + 1, h, w, g, s, k => by
    have e1 : addW s w = addH (symS 1 false s) w := by cases s <;> rfl
    have e2 : addH s h = addW (symS 1 false s) h := by cases s <;> rfl
    show turnN n (addW s w) (addH s h) (turnG (addW s w) (addG w c s g)) = addG (par n h w) c (rotS n (symS 1 false s)) (turnN n w h (turnG w g))
    rw [turn_add k, e1, e2]
    exact turnN_add k.turn
theorem rot_sym {t : Int} {m : Bool} {s : Sd} (h0 : 0 ≤ t) (h3 : t ≤ 3) : rotS t.toNat (if m = true then symS 0 true s else s) = symS t m s := by
  have z : t = 0 ∨ t = 1 ∨ t = 2 ∨ t = 3 := by omega
  rcases z with rfl | rfl | rfl | rfl <;> cases m <;> cases s <;> rfl
theorem moved_add {t : Int} {m : Bool} {h w : Nat} {g : Grid} {c : Int} {s : Sd} (h0 : 0 ≤ t) (h3 : t ≤ 3) (k : Rect h w g) : movedG t m (addH s h) (addW s w) (addG w c s g) = addG (par t.toNat w h) c (symS t m s) (movedG t m h w g) := by
  rw [← rot_sym h0 h3]
  unfold movedG
  cases m
  · exact turnN_add k
  · rw [if_pos rfl, if_pos rfl, if_pos rfl, mir_add]
    have e1 : addW s w = addW (symS 0 true s) w := by cases s <;> rfl
    have e2 : addH s h = addH (symS 0 true s) h := by cases s <;> rfl
    rw [e1, e2]
    exact turnN_add k.mir
def mvL (t : Int) (m : Bool) (q : Li) : Li := (symS t m q.1, q.2)
theorem par_add {t : Int} {m : Bool} {h w : Nat} {s : Sd} (h0 : 0 ≤ t) (h3 : t ≤ 3) : addW (symS t m s) (par t.toNat w h) = par t.toNat (addW s w) (addH s h) := by
  have z : t = 0 ∨ t = 1 ∨ t = 2 ∨ t = 3 := by omega
  rcases z with rfl | rfl | rfl | rfl <;> cases m <;> cases s <;> rfl
theorem moved_dr {t : Int} {m : Bool} (h0 : 0 ≤ t) (h3 : t ≤ 3) : ∀ {ls : List Li} {h w : Nat} {g : Grid}, Rect h w g → movedG t m (drH h ls) (drW w ls) (drG w g ls) = drG (par t.toNat w h) (movedG t m h w g) (ls.map (mvL t m))
  | [], _, _, _, _ => rfl
  | (s, c) :: r, h, w, g, k => by
    show movedG t m (drH (addH s h) r) (drW (addW s w) r) (drG (addW s w) (addG w c s g) r) = drG (addW (symS t m s) (par t.toNat w h)) (addG (par t.toNat w h) c (symS t m s) (movedG t m h w g)) (r.map (mvL t m))
    rw [moved_dr h0 h3 (Rect.add k), moved_add h0 h3 k, par_add h0 h3]
/-- lines that may be exchanged may be exchanged when they are moved -/
theorem comm_mv {t : Int} {m : Bool} {a b : Li} (h0 : 0 ≤ t) (h3 : t ≤ 3) : comm (mvL t m a) (mvL t m b) = comm a b := by
  have z : t = 0 ∨ t = 1 ∨ t = 2 ∨ t = 3 := by omega
  obtain ⟨s, c⟩ := a
  obtain ⟨s', c'⟩ := b
  rcases z with rfl | rfl | rfl | rfl <;> cases m <;> cases s <;> cases s' <;> rfl
theorem Tr.mv {t : Int} {m : Bool} (h0 : 0 ≤ t) (h3 : t ≤ 3) {x y : List Li} (h : Tr x y) : Tr (x.map (mvL t m)) (y.map (mvL t m)) := by
  induction h with
  | refl => exact .refl
  | cons _ ih => exact .cons ih
  | swap h => exact .swap (by rw [comm_mv h0 h3]; exact h)
  | trans _ _ i1 i2 => exact .trans i1 i2
end TW

set_option Elab.async false
set_option linter.all false
set_option maxRecDepth 100000
set_option maxHeartbeats 4000000
/-! the picture by the places of the lines -/
namespace TW
open PySem PySem.Spec PyProof.Rows L2 DL FL PD TP TR TU
def colAt (ls : List Li) (i : Nat) : Int := (ls.getD i (.top, 0)).2
end TW

set_option Elab.async false
set_option linter.all false
set_option maxRecDepth 100000
set_option maxHeartbeats 8000000
/-! when symmetries, frames and effects are equal; all symmetries; then -/
namespace TU
open PySem PySem.Spec PyProof.Rows L2 DL FL PD TP TR TW
local macro_rules | `(tactic| walk_at "g1") => `(tactic| first
  | with_reducible refine wp_dget ?_
  | with_reducible refine wp_din ?_
  | with_reducible refine wp_dput ?_
  | with_reducible refine wp_daug ?_
  | with_reducible refine wp_tru ?_
  | with_reducible refine wp_pop ?_
  | with_reducible refine wp_pop0 ?_
  | ((with_reducible apply wp_augN); (exact rfl))
  | with_reducible refine wp_disp ?_
  | with_reducible refine wp_pairs0 ?_
  | with_reducible refine wp_pairs ?_
  | with_reducible refine wp_call0 ?_ ?_
  | with_reducible refine wp_frz ?_
  | with_reducible refine wp_app ?_
  | with_reducible refine wp_make0 rfl ?_)
local macro_rules | `(tactic| walk_at "g1") => `(tactic| first
  | with_reducible refine wp_cmeth ?_
  | ((with_reducible apply wp_makeL); (exact rfl))
  | with_reducible refine wp_star ?_
  | with_reducible refine wp_lenO ?_
  | with_reducible refine gw_starT ?_
  | with_reducible refine gw_starL ?_)
variable {st : FL.St} {Q : D → FL.St → Prop} {X : Exn → FL.St → Prop} {t t2 : Int} {m m2 : Bool} {l l2 : Sd → Int} {ls ls2 : List Li}
theorem oEq_bl {a b : Bool} : oEq (.bl a) (.bl b) = some (.bl (a == b)) := by
  cases a <;> cases b <;> rfl
theorem seq_e : e_Symmetry_eq_ [sym t m, sym t2 m2] st = .ok (.bl (t == t2 && m == m2)) st := by
  have e1 : oEq (.int t) (.int t2) = some (.bl (t == t2)) := oEq_int
  have e2 : oEq (.bl m) (.bl m2) = some (.bl (m == m2)) := oEq_bl
  refine Res.eq_wp (wp_body0 ?_)
  unfold p_Symmetry_eq_
  generalize (t == t2) = a at e1 ⊢
  generalize (m == m2) = b at e2 ⊢
  walk_at "g"
  refine ⟨fun h => ?_, fun h => ?_⟩
  · walk_at "g"
    rw [h]
    exact ⟨rfl, rfl, rfl⟩
  · rw [h]
    exact ⟨rfl, rfl, rfl⟩
theorem sdok (s : Sd) : PyData.strOk s.s = true := by cases s <;> decide +kernel
theorem sdq (a b : Sd) : deq a.d b.d = decide (a = b) := by cases a <;> cases b <;> decide +kernel
theorem lis_pl : ∀ {n : Nat} {ls : List Li}, FL.plL (n + 1) (ls.map liD) = true
  | _, [] => rfl
  | n, (s, c) :: r => by
    have ih := lis_pl (n := n) (ls := r)
    have h1 : FL.plD (n + 1) (liD (s, c)) = true := by
      have := sdok s
      have e : s.d = .str s.s := rfl
      simp [FL.plD, FL.plL, e, this]
    rw [List.map_cons, FL.plL, h1, ih]
    rfl
theorem lis_deq : ∀ {ls ls2 : List Li}, deqL (ls.map liD) (ls2.map liD) = decide (ls = ls2)
  | [], [] => rfl
  | [], _ :: _ => rfl
  | _ :: _, [] => rfl
  | (s, c) :: r, (s2, c2) :: r2 => by
    have ih := lis_deq (ls := r) (ls2 := r2)
    show (deqL [s.d, .int c] [s2.d, .int c2] && deqL (r.map liD) (r2.map liD)) = _
    rw [ih]
    show ((deq s.d s2.d && (deq (.int c) (.int c2) && true)) && _) = _
    rw [sdq]
    show ((decide (s = s2) && ((c == c2) && true)) && _) = _
    rw [Bool.eq_iff_iff]
    simp
theorem feq_e : e_Frame_eq_ [frD ls, frD ls2] st = .ok (.bl (decide (ls = ls2))) st := by
  have e1 : oEq (.tup (ls.map liD)) (.tup (ls2.map liD)) = some (.bl (decide (ls = ls2))) := by
    rw [oEq_pl (show FL.plD 20 (.tup (ls.map liD)) = true from lis_pl) (show FL.plD 20 (.tup (ls2.map liD)) = true from lis_pl)]
    exact congrArg (fun b => some (D.bl b)) lis_deq
  refine Res.eq_wp (wp_body0 ?_)
  unfold p_Frame_eq_
  walk_at "g"
  exact ⟨rfl, rfl, rfl⟩
theorem eqok_ins {C : Str} {ns : List Str} {ds : List D} : eqok C (.ins C ns ds) = true := by simp [eqok]
/-! all symmetries -/
end TU

set_option Elab.async false
set_option linter.all false
set_option maxRecDepth 100000
set_option maxHeartbeats 8000000
/-! enclose, moved, apply -/
namespace TW
open PySem PySem.Spec PyProof.Rows L2 DL FL PD TP TR TU
local macro_rules | `(tactic| walk_at "g1") => `(tactic| first
  | with_reducible refine wp_dget ?_
  | with_reducible refine wp_din ?_
  | with_reducible refine wp_dput ?_
  | with_reducible refine wp_daug ?_
  | with_reducible refine wp_tru ?_
  | with_reducible refine wp_pop ?_
  | with_reducible refine wp_pop0 ?_
  | ((with_reducible apply wp_augN); (exact rfl))
  | with_reducible refine wp_disp ?_
  | with_reducible refine wp_pairs0 ?_
  | with_reducible refine wp_pairs ?_
  | with_reducible refine wp_call0 ?_ ?_
  | with_reducible refine wp_frz ?_
  | with_reducible refine wp_app ?_
  | with_reducible refine wp_make0 rfl ?_)
local macro_rules | `(tactic| walk_at "g1") => `(tactic| first
  | with_reducible refine wp_cmeth ?_
  | ((with_reducible apply wp_makeL); (exact rfl))
  | with_reducible refine wp_star ?_
  | with_reducible refine wp_lenO ?_
  | with_reducible refine gw_starT ?_
  | with_reducible refine gw_starL ?_)
variable {st : FL.St} {Q : D → FL.St → Prop} {X : Exn → FL.St → Prop} {t t2 : Int} {m m2 : Bool} {ls : List Li} {h w : Nat} {g : Grid}
abbrev nD (i : Nat) : D := .int (i : Nat)
theorem col_at {i : Nat} (hi : i < ls.length) : ∃ q : Li, oIx (.lst (ls.map liD)) (.int (i : Nat)) = some (liD q) ∧ q.2 = colAt ls i := by
  have a := at_nat (ds := ls.map liD) (k := i) (by rw [List.length_map]; exact hi)
  rw [List.getElem_map] at a
  refine ⟨_, a, ?_⟩
  unfold colAt
  rw [List.getD_eq_getElem?_getD, List.getElem?_eq_getElem hi]
  rfl
theorem Grd.dr : ∀ {ls : List Li} {h w : Nat} {g : Grid}, Grd h w g → (∀ q ∈ ls, 0 ≤ q.2) → h + ls.length ≤ 1000 → w + ls.length ≤ 1000 → Grd (drH h ls) (drW w ls) (drG w g ls)
  | [], _, _, _, k, _, _, _ => k
  | (s, c) :: r, h, w, g, k, hp, hh, hw => by
    rw [List.length_cons] at hh hw
    have k2 := k.add (s := s) (c := c) (hp _ List.mem_cons_self) (by omega) (by omega)
    have h1 : addH s h ≤ h + 1 := by cases s <;> simp [addH]
    have w1 : addW s w ≤ w + 1 := by cases s <;> simp [addW]
    exact Grd.dr (ls := r) (h := addH s h) (w := addW s w) (g := addG w c s g) k2 (fun q hq => hp q (List.mem_cons_of_mem _ hq)) (by omega) (by omega)
/-! products and inverses -/
end TW

set_option Elab.async false
set_option linter.all false
set_option maxRecDepth 100000
set_option maxHeartbeats 8000000
/-! Effect.of -/
namespace TU
open PySem PySem.Spec PyProof.Rows L2 DL FL PD TP TR FV
local macro_rules | `(tactic| walk_at "g1") => `(tactic| first
  | with_reducible refine wp_dget ?_
  | with_reducible refine wp_din ?_
  | with_reducible refine wp_dput ?_
  | with_reducible refine wp_daug ?_
  | with_reducible refine wp_tru ?_
  | with_reducible refine wp_pop ?_
  | with_reducible refine wp_pop0 ?_
  | ((with_reducible apply wp_augN); (exact rfl))
  | with_reducible refine wp_disp ?_
  | with_reducible refine wp_pairs0 ?_
  | with_reducible refine wp_pairs ?_
  | with_reducible refine wp_call0 ?_ ?_
  | with_reducible refine wp_frz ?_
  | with_reducible refine wp_app ?_
  | with_reducible refine wp_make0 rfl ?_)
local macro_rules | `(tactic| walk_at "g1") => `(tactic| first
  | with_reducible refine wp_cmeth ?_
  | ((with_reducible apply wp_makeL); (exact rfl))
  | with_reducible refine wp_star ?_
  | with_reducible refine wp_lenO ?_
  | with_reducible refine gw_starT ?_
  | with_reducible refine gw_starL ?_)
local macro_rules | `(tactic| walk_at "g1") => `(tactic| first
  | with_reducible refine wp_lc2 ?_)
variable {st : FL.St}
theorem all_len {e : Ef} {k n : Nat} (o : EfOk e k n) : (allA e).length ≤ 4 * n := by
  unfold allA
  simp only [List.length_append]
  have := o.ln .top
  have := o.ln .right
  have := o.ln .bottom
  have := o.ln .left
  omega
end TU

set_option Elab.async false
set_option linter.all false
set_option maxRecDepth 100000
set_option maxHeartbeats 4000000
/-! the effect of a sequence, step by step -/
namespace TW
open PySem PySem.Spec PyProof.Rows L2 DL FL PD TP TR TU
/-! the last one is taken out -/
def rmP {α : Type} (p : α → Bool) : List α → List α
  | [] => []
  | q :: r => if r.any p = true then q :: rmP p r else if p q = true then r else q :: r
theorem any_filter {α : Type} {p : α → Bool} {xs : List α} : xs.any p = !(xs.filter p).isEmpty := by
  induction xs with
  | nil => rfl
  | cons x r ih =>
    rw [List.any_cons, List.filter_cons]
    cases h : p x
    · rw [if_neg (by simp), ih, Bool.false_or]
    · rw [if_pos rfl]
      rfl
theorem rmP_self {α : Type} {p : α → Bool} : ∀ {xs : List α}, (rmP p xs).filter p = (xs.filter p).dropLast
  | [] => rfl
  | q :: r => by
    unfold rmP
    by_cases h : r.any p = true
    · rw [if_pos h]
      have ne : r.filter p ≠ [] := fun e => by
        rw [any_filter, e] at h
        cases h
      rw [List.filter_cons, List.filter_cons, rmP_self]
      by_cases hq : p q = true
      · rw [if_pos hq, if_pos hq, List.dropLast_cons_of_ne_nil ne]
      · rw [if_neg hq, if_neg hq]
    · rw [if_neg h]
      have e : r.filter p = [] := by
        cases z : r.filter p with
        | nil => rfl
        | cons a b =>
          exfalso
          apply h
          rw [any_filter, z]
          rfl
      by_cases hq : p q = true
      · rw [if_pos hq, e, List.filter_cons, if_pos hq, e]
        rfl
      · rw [if_neg hq, List.filter_cons, if_neg hq, e]
        rfl
theorem rmP_other {α : Type} {p q : α → Bool} (d : ∀ x, q x = true → p x = false) : ∀ {xs : List α}, (rmP p xs).filter q = xs.filter q
  | [] => rfl
  | y :: r => by
    unfold rmP
    split
    · rw [List.filter_cons, List.filter_cons, rmP_other d]
    · split
      · rename_i hp
        have hq : ¬ q y = true := fun h => by
          rw [d y h] at hp
          cases hp
        rw [List.filter_cons, if_neg hq]
      · rfl
theorem rmP_sub {α : Type} {p : α → Bool} : ∀ {xs : List α}, (rmP p xs).Sublist xs
  | [] => List.Sublist.refl _
  | y :: r => by
    unfold rmP
    split
    · exact rmP_sub.cons_cons y
    · split
      · exact List.sublist_cons_self y r
      · exact List.Sublist.refl _
/-- what a sequence leaves: a symmetry, lost lines, added lines in their order, as they lie now -/
structure Ee where
  t : Int
  m : Bool
  l : Sd → Int
  ls : List Li
def onS (s : Sd) (q : Li) : Bool := decide (q.1 = s)
def Ee.step (e : Ee) : TP.Sp → Ee
  | .turn => ⟨(1 + e.t) % 4, e.m, e.l, e.ls.map (mvL 1 false)⟩
  | .mir => ⟨(0 + -e.t) % 4, !e.m, e.l, e.ls.map (mvL 0 true)⟩
  | .add s c => ⟨e.t, e.m, e.l, e.ls ++ [(s, c)]⟩
  | .cut s => if e.ls.any (onS s) = true then ⟨e.t, e.m, e.l, rmP (onS s) e.ls⟩ else ⟨e.t, e.m, setS e.l (TR.upS e.t e.m s) (e.l (TR.upS e.t e.m s) + 1), e.ls⟩
def Ee.run (e : Ee) (ps : List TP.Sp) : Ee := ps.foldl Ee.step e
def Ee.zero : Ee := ⟨0, false, fun _ => 0, []⟩
/-! .. beside the places of the steps -/
def onT (s : Sd) (q : Tr3) : Bool := decide (q.2.1 = s)
def mvT (T : List Tr3) (x : Mv) : List Tr3 := match x with
  | (k, s, some c) => T ++ [(k, s, c)]
  | (_, s, none) => rmP (onT s) T
structure Iv (T : List Tr3) (e : Ef) (k : Nat) : Prop where
  pw : T.Pairwise fun a b => a.1 < b.1
  lt : ∀ x ∈ T, x.1 < k
  fl : ∀ s, T.filter (onT s) = e.a s
theorem Iv.mono {T : List Tr3} {e : Ef} {k j : Nat} (i : Iv T e k) (h : k ≤ j) : Iv T e j := ⟨i.pw, fun x hx => Nat.lt_of_lt_of_le (i.lt x hx) h, i.fl⟩
theorem Iv.move {T : List Tr3} {e : Ef} {k : Nat} {x : Mv} (i : Iv T e k) (h : k ≤ x.1) : Iv (mvT T x) (e.move x) (x.1 + 1) := by
  obtain ⟨j, s, c⟩ := x
  have h : k ≤ j := h
  cases c with
  | some c =>
    show Iv (T ++ [(j, s, c)]) ⟨setS e.a s (e.a s ++ [(j, s, c)]), e.l⟩ (j + 1)
    refine ⟨?_, fun x hx => ?_, fun r => ?_⟩
    · refine List.pairwise_append.mpr ⟨i.pw, List.pairwise_singleton _ _, fun a ha b hb => ?_⟩
      rw [List.mem_singleton.mp hb]
      have := i.lt a ha
      show a.1 < j
      omega
    · rcases List.mem_append.mp hx with hx | hx
      · have := i.lt x hx
        show x.1 < j + 1
        omega
      · rw [List.mem_singleton.mp hx]
        exact Nat.lt_succ_self j
    · rw [List.filter_append, i.fl]
      show _ = setS e.a s _ r
      unfold setS
      by_cases er : r = s
      · subst er
        rw [if_pos rfl, List.filter_cons_of_pos (by simp [onT])]
        rfl
      · rw [if_neg er, List.filter_cons_of_neg (by simp [onT]; exact fun z => er z.symm)]
        exact List.append_nil _
  | none =>
    have pw' : (rmP (onT s) T).Pairwise fun a b => a.1 < b.1 := i.pw.sublist rmP_sub
    have lt' : ∀ x ∈ rmP (onT s) T, x.1 < j + 1 := fun x hx => by
      have := i.lt x (rmP_sub.mem hx)
      omega
    have f1 := rmP_self (p := onT s) (xs := T)
    rw [i.fl] at f1
    have f2 : ∀ r, r ≠ s → (rmP (onT s) T).filter (onT r) = e.a r := fun r hr => by
      rw [rmP_other (fun x hx => ?_), i.fl]
      simp only [onT, decide_eq_true_eq] at hx
      exact decide_eq_false fun z => hr (hx.symm.trans z)
    show Iv (rmP (onT s) T) (if e.a s = [] then ⟨e.a, setS e.l s (e.l s + 1)⟩ else ⟨setS e.a s (e.a s).dropLast, e.l⟩) (j + 1)
    refine ⟨pw', lt', fun r => ?_⟩
    by_cases z : e.a s = []
    · rw [if_pos z]
      show _ = e.a r
      by_cases er : r = s
      · subst er
        rw [f1, z]
        rfl
      · exact f2 r er
    · rw [if_neg z]
      show _ = setS e.a s _ r
      unfold setS
      by_cases er : r = s
      · subst er
        rw [if_pos rfl]
        exact f1
      · rw [if_neg er]
        exact f2 r er
def fT (t : Int) (m : Bool) (x : Tr3) : Li := (symS t m x.2.1, x.2.2)
theorem symS_up {t : Int} {m : Bool} {s : Sd} (h0 : 0 ≤ t) (h3 : t ≤ 3) : symS t m (TR.upS t m s) = s := by
  have z : t = 0 ∨ t = 1 ∨ t = 2 ∨ t = 3 := by omega
  rcases z with rfl | rfl | rfl | rfl <;> cases m <;> cases s <;> rfl
end TW

set_option Elab.async false
set_option linter.all false
set_option maxRecDepth 100000
set_option maxHeartbeats 1000000
/-! lines cut off, and what a sequence makes of a picture -/
namespace TW
open PySem PySem.Spec PyProof.Rows L2 DL FL PD TP TR TU
theorem Rect.cut {h w : Nat} {g : Grid} {s : Sd} (k : Rect h w g) : Rect (cutH s h) (cutW s w) (cutG s g) := by
  have rh := k.h
  cases s
  · exact ⟨by simp [cutG, cutH, rh], fun r hr => k.w r (List.mem_of_mem_drop hr)⟩
  · refine ⟨by simp [cutG, cutH, rh], fun r hr => ?_⟩
    simp only [cutG, List.mem_map] at hr
    obtain ⟨q, hq, rfl⟩ := hr
    simp [cutW, k.w q hq]
  · exact ⟨by simp [cutG, cutH, rh], fun r hr => k.w r (List.mem_of_mem_take hr)⟩
  · refine ⟨by simp [cutG, cutH, rh], fun r hr => ?_⟩
    simp only [cutG, List.mem_map] at hr
    obtain ⟨q, hq, rfl⟩ := hr
    simp [cutW, k.w q hq]
/-- the line that was added last at a side is cut off again -/
theorem cut_add {h w : Nat} {g : Grid} {s : Sd} {c : Int} (k : Rect h w g) : cutG s (addG w c s g) = g := by
  cases s
  · rfl
  · show (g.map fun r => r ++ [c]).map (fun r => r.take (r.length - 1)) = g
    rw [List.map_map]
    conv => rhs; rw [← List.map_id g]
    refine List.map_congr_left fun r _ => ?_
    simp
  · show (g ++ [List.replicate w c]).take ((g ++ [List.replicate w c]).length - 1) = g
    simp
  · show (g.map fun r => c :: r).map (fun r => r.drop 1) = g
    rw [List.map_map]
    conv => rhs; rw [← List.map_id g]
    exact List.map_congr_left fun r _ => rfl
/-- .. and one of another side stays -/
theorem cut_add_ne {h w : Nat} {g : Grid} {s s' : Sd} {c : Int} (k : Rect h w g) (hh : 1 ≤ h) (hw : 1 ≤ w) (ne : s' ≠ s) : cutG s (addG w c s' g) = addG (cutW s w) c s' (cutG s g) := by
  obtain ⟨r0, rs, eg, er⟩ := k.head hh
  cases s <;> cases s' <;> first | (exact absurd rfl ne) | skip
  · show (g.map fun r => r ++ [c]).drop 1 = (g.drop 1).map fun r => r ++ [c]
    rw [List.map_drop]
  · show (g ++ [List.replicate w c]).drop 1 = g.drop 1 ++ [List.replicate w c]
    rw [eg]
    rfl
  · show (g.map fun r => c :: r).drop 1 = (g.drop 1).map fun r => c :: r
    rw [List.map_drop]
  · show (List.replicate w c).take ((List.replicate w c).length - 1) :: g.map _ = List.replicate (w - 1) c :: g.map _
    rw [List.length_replicate, List.take_replicate, Nat.min_eq_left (by omega)]
  · show (g ++ [List.replicate w c]).map _ = g.map _ ++ [List.replicate (w - 1) c]
    rw [List.map_append]
    show _ ++ [(List.replicate w c).take ((List.replicate w c).length - 1)] = _
    rw [List.length_replicate, List.take_replicate, Nat.min_eq_left (by omega)]
  · show (g.map fun r => c :: r).map (fun r => r.take (r.length - 1)) = (g.map fun r => r.take (r.length - 1)).map fun r => c :: r
    rw [List.map_map, List.map_map]
    refine List.map_congr_left fun r hr => ?_
    have := k.w r hr
    show (c :: r).take ((c :: r).length - 1) = c :: r.take (r.length - 1)
    obtain ⟨n, hn⟩ : ∃ n, r.length = n + 1 := ⟨r.length - 1, by omega⟩
    rw [List.length_cons, hn]
    rfl
  · show (List.replicate w c :: g).take ((List.replicate w c :: g).length - 1) = List.replicate w c :: g.take (g.length - 1)
    rw [eg]
    rfl
  · show (g.map fun r => r ++ [c]).take ((g.map fun r => r ++ [c]).length - 1) = (g.take (g.length - 1)).map fun r => r ++ [c]
    rw [List.length_map, List.map_take]
  · show (g.map fun r => c :: r).take ((g.map fun r => c :: r).length - 1) = (g.take (g.length - 1)).map fun r => c :: r
    rw [List.length_map, List.map_take]
  · show (List.replicate w c).drop 1 :: g.map _ = List.replicate (w - 1) c :: g.map _
    rw [List.drop_replicate]
  · show (g.map fun r => r ++ [c]).map (fun r => r.drop 1) = (g.map fun r => r.drop 1).map fun r => r ++ [c]
    rw [List.map_map, List.map_map]
    refine List.map_congr_left fun r hr => ?_
    have := k.w r hr
    show (r ++ [c]).drop 1 = r.drop 1 ++ [c]
    rw [List.drop_append_of_le_length (by omega)]
  · show (g ++ [List.replicate w c]).map _ = g.map _ ++ [List.replicate (w - 1) c]
    rw [List.map_append]
    show _ ++ [(List.replicate w c).drop 1] = _
    rw [List.drop_replicate]
theorem rmP_snoc {α : Type} {p : α → Bool} {x : α} : ∀ {xs : List α}, rmP p (xs ++ [x]) = if p x = true then xs else rmP p xs ++ [x]
  | [] => by
    show (if ([] : List α).any p = true then _ else if p x = true then [] else [x]) = _
    rw [if_neg (by simp)]
    rfl
  | y :: r => by
    show (if (r ++ [x]).any p = true then y :: rmP p (r ++ [x]) else if p y = true then r ++ [x] else y :: (r ++ [x])) = _
    rw [rmP_snoc]
    by_cases h : p x = true
    · rw [if_pos h, if_pos h, if_pos (by simp [h])]
    · rw [if_neg h, if_neg h]
      by_cases a : r.any p = true
      · rw [if_pos (by rw [List.any_append, a]; rfl)]
        show _ = (if r.any p = true then y :: rmP p r else _) ++ [x]
        rw [if_pos a]
        rfl
      · have a' : r.any p = false := by simpa using a
        have na : ¬ (r ++ [x]).any p = true := by
          rw [List.any_append, a']
          simpa using h
        rw [if_neg na]
        show _ = (if r.any p = true then y :: rmP p r else if p y = true then r else y :: r) ++ [x]
        rw [if_neg a]
        split <;> rfl
theorem drH_le : ∀ {ls : List Li} {h : Nat}, h ≤ drH h ls
  | [], _ => Nat.le_refl _
  | (s, c) :: r, h => Nat.le_trans (by cases s <;> simp [addH]) (drH_le (ls := r) (h := addH s h))
theorem drW_le : ∀ {ls : List Li} {w : Nat}, w ≤ drW w ls
  | [], _ => Nat.le_refl _
  | (s, c) :: r, w => Nat.le_trans (by cases s <;> simp [addW]) (drW_le (ls := r) (w := addW s w))
theorem drW_snoc {ls : List Li} {s : Sd} {c : Int} {w : Nat} : drW w (ls ++ [(s, c)]) = addW s (drW w ls) := drW_app
theorem drG_snoc {ls : List Li} {s : Sd} {c : Int} {w : Nat} {g : Grid} : drG w g (ls ++ [(s, c)]) = addG (drW w ls) c s (drG w g ls) := drG_app
theorem cutW_addW {s s' : Sd} {w : Nat} (hw : 1 ≤ w) : cutW s (addW s' w) = addW s' (cutW s w) := by
  cases s <;> cases s' <;> simp [cutW, addW] <;> omega
/-- a cut: of the last added line at this side, or of the picture within -/
theorem cut_dr {s : Sd} : ∀ {n : Nat} {ls : List Li}, ls.length = n → ∀ {h w : Nat} {g : Grid}, Rect h w g → 1 ≤ h → 1 ≤ w →
    cutG s (drG w g ls) = (if ls.any (onS s) = true then drG w g (rmP (onS s) ls) else drG (cutW s w) (cutG s g) ls) ∧ cutW s (drW w ls) = (if ls.any (onS s) = true then drW w (rmP (onS s) ls) else drW (cutW s w) ls)
  | 0, [], _, h, w, g, k, hh, hw => ⟨rfl, rfl⟩
  | n + 1, ls, hl, h, w, g, k, hh, hw => by
    rcases List.eq_nil_or_concat ls with e | ⟨xs, l, e⟩
    · rw [e] at hl
      cases hl
    · rw [List.concat_eq_append] at e
      subst e
      obtain ⟨s', c⟩ := l
      rw [List.length_append, List.length_singleton] at hl
      have kd := Rect.dr (ls := xs) k
      have lh := drH_le (ls := xs) (h := h)
      have lw := drW_le (ls := xs) (w := w)
      obtain ⟨i1, i2⟩ := cut_dr (s := s) (n := n) (ls := xs) (by omega) k hh hw
      rw [drG_snoc, drW_snoc, rmP_snoc, List.any_append]
      by_cases es : s' = s
      · subst es
        have on : onS s' (s', c) = true := decide_eq_true rfl
        rw [cut_add kd, if_pos on, if_pos (by simp [on]), if_pos (by simp [on])]
        refine ⟨rfl, ?_⟩
        cases s' <;> simp [cutW, addW]
      · have off : onS s (s', c) = false := decide_eq_false es
        have a2 : (xs.any (onS s) || [(s', c)].any (onS s)) = xs.any (onS s) := by simp [off]
        have r2 : (if onS s (s', c) = true then xs else rmP (onS s) xs ++ [(s', c)]) = rmP (onS s) xs ++ [(s', c)] := if_neg (by rw [off]; decide)
        rw [cut_add_ne kd (by omega) (by omega) es, r2, a2, cutW_addW (by omega), i1, i2]
        by_cases a : xs.any (onS s) = true
        · simp only [if_pos a, drG_snoc, drW_snoc]
          exact ⟨trivial, trivial⟩
        · simp only [if_neg a, drG_snoc, drW_snoc]
          exact ⟨trivial, trivial⟩
/-! cut and moved -/
theorem mir_cut {g : Grid} {u : Sd} : cutG (symS 0 true u) (mirG g) = mirG (cutG u g) := by
  cases u
  · show (mirG g).drop 1 = mirG (g.drop 1)
    unfold mirG
    rw [List.map_drop]
  · show (mirG g).map (fun r => r.drop 1) = mirG (g.map fun r => r.take (r.length - 1))
    unfold mirG
    rw [List.map_map, List.map_map]
    refine List.map_congr_left fun r _ => ?_
    show r.reverse.drop 1 = (r.take (r.length - 1)).reverse
    rw [List.reverse_take]
    by_cases z : r.length = 0
    · rw [List.eq_nil_of_length_eq_zero z]
      rfl
    · rw [show r.length - (r.length - 1) = 1 by omega]
  · show (mirG g).take ((mirG g).length - 1) = mirG (g.take (g.length - 1))
    unfold mirG
    rw [List.length_map, List.map_take]
  · show (mirG g).map (fun r => r.take (r.length - 1)) = mirG (g.map fun r => r.drop 1)
    unfold mirG
    rw [List.map_map, List.map_map]
    refine List.map_congr_left fun r _ => ?_
    show r.reverse.take (r.reverse.length - 1) = (r.drop 1).reverse
    rw [List.reverse_drop, List.length_reverse]
theorem turn_cut {h w : Nat} {g : Grid} {u : Sd} (k : Rect h w g) : cutG (symS 1 false u) (turnG w g) = turnG (cutW u w) (cutG u g) := by
  cases u
  · show (turnG w g).map (fun r => r.take (r.length - 1)) = turnG w (g.drop 1)
    unfold TP.turnG
    rw [List.map_map]
    refine List.map_congr_left fun j _ => ?_
    show (g.reverse.map fun r => r.getD j 0).take ((g.reverse.map fun r => r.getD j 0).length - 1) = (g.drop 1).reverse.map fun r => r.getD j 0
    rw [List.length_map, List.length_reverse, List.reverse_drop, List.map_take]
  · show (turnG w g).take ((turnG w g).length - 1) = turnG (w - 1) (g.map fun r => r.take (r.length - 1))
    unfold TP.turnG
    rw [List.length_map, List.length_range, ← List.map_take]
    have e : (List.range w).take (w - 1) = List.range (w - 1) := by
      rw [List.take_range, Nat.min_eq_left (by omega)]
    rw [e]
    refine List.map_congr_left fun j hj => ?_
    have hj := List.mem_range.mp hj
    rw [← List.map_reverse, List.map_map]
    refine List.map_congr_left fun r hr => ?_
    have := k.w r (List.mem_reverse.mp hr)
    show r.getD j 0 = (r.take (r.length - 1)).getD j 0
    rw [List.getD_eq_getElem?_getD, List.getD_eq_getElem?_getD, List.getElem?_take_of_lt (by omega)]
  · show (turnG w g).map (fun r => r.drop 1) = turnG w (g.take (g.length - 1))
    unfold TP.turnG
    rw [List.map_map]
    refine List.map_congr_left fun j _ => ?_
    show (g.reverse.map fun r => r.getD j 0).drop 1 = (g.take (g.length - 1)).reverse.map fun r => r.getD j 0
    rw [List.reverse_take, List.map_drop]
    by_cases z : g.length = 0
    · rw [List.eq_nil_of_length_eq_zero z]
      rfl
    · rw [show g.length - (g.length - 1) = 1 by omega]
  · show (turnG w g).drop 1 = turnG (w - 1) (g.map fun r => r.drop 1)
    unfold TP.turnG
    rw [← List.map_drop]
    by_cases z : w = 0
    · subst z
      rfl
    · obtain ⟨n, rfl⟩ : ∃ n, w = n + 1 := ⟨w - 1, by omega⟩
      have e : (List.range (n + 1)).drop 1 = (List.range n).map (· + 1) := by
        rw [List.range_succ_eq_map]
        rfl
      rw [e, List.map_map]
      refine List.map_congr_left fun j _ => ?_
      show (g.reverse.map fun r => r.getD (j + 1) 0) = ((g.map fun r => r.drop 1).reverse.map fun r => r.getD j 0)
      rw [← List.map_reverse, List.map_map]
      refine List.map_congr_left fun r _ => ?_
      show r.getD (j + 1) 0 = (r.drop 1).getD j 0
      rw [List.getD_eq_getElem?_getD, List.getD_eq_getElem?_getD, List.getElem?_drop, Nat.add_comm]
theorem turnN_cut : ∀ {n h w : Nat} {g : Grid} {u : Sd}, Rect h w g → cutG (rotS n u) (turnN n h w g) = turnN n (cutH u h) (cutW u w) (cutG u g)
  | 0, h, w, g, u, k => rfl
  | n + 1, h, w, g, u, k => by
    have e1 : cutW u w = cutH (symS 1 false u) w := by cases u <;> rfl
    have e2 : cutH u h = cutW (symS 1 false u) h := by cases u <;> rfl
    show cutG (rotS n (symS 1 false u)) (turnN n w h (turnG w g)) = turnN n (cutW u w) (cutH u h) (turnG (cutW u w) (cutG u g))
    rw [← turn_cut k, e1, e2]
    exact turnN_cut k.turn
theorem moved_cut {t : Int} {m : Bool} {h w : Nat} {g : Grid} {u : Sd} (h0 : 0 ≤ t) (h3 : t ≤ 3) (k : Rect h w g) : cutG (symS t m u) (movedG t m h w g) = movedG t m (cutH u h) (cutW u w) (cutG u g) := by
  rw [← rot_sym h0 h3]
  unfold movedG
  cases m
  · exact turnN_cut k
  · rw [if_pos rfl, if_pos rfl, if_pos rfl, ← mir_cut]
    have e1 : cutW u w = cutW (symS 0 true u) w := by cases u <;> rfl
    have e2 : cutH u h = cutH (symS 0 true u) h := by cases u <;> rfl
    rw [e1, e2]
    exact turnN_cut k.mir
theorem par_cut {t : Int} {m : Bool} {h w : Nat} {u : Sd} (h0 : 0 ≤ t) (h3 : t ≤ 3) : cutW (symS t m u) (par t.toNat w h) = par t.toNat (cutW u w) (cutH u h) ∧ cutH (symS t m u) (par t.toNat h w) = par t.toNat (cutH u h) (cutW u w) := by
  have z : t = 0 ∨ t = 1 ∨ t = 2 ∨ t = 3 := by omega
  rcases z with rfl | rfl | rfl | rfl <;> cases m <;> cases u <;> exact ⟨rfl, rfl⟩
/-! the part of a picture that is left -/
def coreG (n : Sd → Nat) (h w : Nat) (g : Grid) : Grid := ((g.drop (n .top)).take (h - n .top - n .bottom)).map fun r => (r.drop (n .left)).take (w - n .left - n .right)
def coreH (n : Sd → Nat) (h : Nat) : Nat := h - n .top - n .bottom
def coreW (n : Sd → Nat) (w : Nat) : Nat := w - n .left - n .right
def inc1 (n : Sd → Nat) (u : Sd) : Sd → Nat := fun k => if k = u then n k + 1 else n k
theorem Rect.core {n : Sd → Nat} {h w : Nat} {g : Grid} (k : Rect h w g) : Rect (coreH n h) (coreW n w) (coreG n h w g) := by
  refine ⟨?_, fun r hr => ?_⟩
  · have := k.h
    simp only [coreG, coreH, List.length_map, List.length_take, List.length_drop]
    omega
  · obtain ⟨q, hq, rfl⟩ := List.mem_map.mp hr
    have := k.w q (List.mem_of_mem_drop (List.mem_of_mem_take hq))
    simp only [coreW, List.length_take, List.length_drop]
    omega
theorem core_cut {n : Sd → Nat} {h w : Nat} {g : Grid} {u : Sd} (k : Rect h w g) (h1 : 1 ≤ coreH n h) (w1 : 1 ≤ coreW n w) : cutG u (coreG n h w g) = coreG (inc1 n u) h w g ∧ cutH u (coreH n h) = coreH (inc1 n u) h ∧ cutW u (coreW n w) = coreW (inc1 n u) w := by
  have kh := k.h
  unfold coreH at h1
  unfold coreW at w1
  cases u
  · refine ⟨?_, by simp [cutH, coreH, inc1]; omega, by simp [cutW, coreW, inc1]⟩
    show (((g.drop (n .top)).take (h - n .top - n .bottom)).map _).drop 1 = ((g.drop (n .top + 1)).take (h - (n .top + 1) - n .bottom)).map _
    rw [← List.map_drop, List.drop_take, List.drop_drop, show h - (n .top + 1) - n .bottom = h - n .top - n .bottom - 1 by omega]
    rfl
  · refine ⟨?_, by simp [cutH, coreH, inc1], by simp [cutW, coreW, inc1]; omega⟩
    show (((g.drop (n .top)).take (h - n .top - n .bottom)).map fun r => (r.drop (n .left)).take (w - n .left - n .right)).map (fun r => r.take (r.length - 1)) = ((g.drop (n .top)).take (h - n .top - n .bottom)).map fun r => (r.drop (n .left)).take (w - n .left - (n .right + 1))
    rw [List.map_map]
    refine List.map_congr_left fun r hr => ?_
    have := k.w r (List.mem_of_mem_drop (List.mem_of_mem_take hr))
    show ((r.drop (n .left)).take (w - n .left - n .right)).take (((r.drop (n .left)).take (w - n .left - n .right)).length - 1) = _
    rw [List.take_take, List.length_take, List.length_drop]
    congr 1
    omega
  · refine ⟨?_, by simp [cutH, coreH, inc1]; omega, by simp [cutW, coreW, inc1]⟩
    show (((g.drop (n .top)).take (h - n .top - n .bottom)).map _).take ((((g.drop (n .top)).take (h - n .top - n .bottom)).map _).length - 1) = ((g.drop (n .top)).take (h - n .top - (n .bottom + 1))).map _
    rw [List.length_map, ← List.map_take, List.take_take, List.length_take, List.length_drop]
    congr 2
    omega
  · refine ⟨?_, by simp [cutH, coreH, inc1], by simp [cutW, coreW, inc1]; omega⟩
    show (((g.drop (n .top)).take (h - n .top - n .bottom)).map fun r => (r.drop (n .left)).take (w - n .left - n .right)).map (fun r => r.drop 1) = ((g.drop (n .top)).take (h - n .top - n .bottom)).map fun r => (r.drop (n .left + 1)).take (w - (n .left + 1) - n .right)
    rw [List.map_map]
    refine List.map_congr_left fun r _ => ?_
    show ((r.drop (n .left)).take (w - n .left - n .right)).drop 1 = _
    rw [List.drop_take, List.drop_drop, show w - (n .left + 1) - n .right = w - n .left - n .right - 1 by omega]
end TW

set_option Elab.async false
set_option linter.all false
set_option maxRecDepth 100000
set_option maxHeartbeats 1000000
/-! turns and mirrorings after one another -/
namespace TW
open PySem PySem.Spec PyProof.Rows L2 DL FL PD TP TR TU
def mk (h w : Nat) (G : Nat → Nat → Int) : Grid := (List.range h).map fun i => (List.range w).map fun j => G i j
def ent (g : Grid) (i j : Nat) : Int := (g.getD i []).getD j 0
theorem mk_congr {h w : Nat} {F G : Nat → Nat → Int} (e : ∀ i j, i < h → j < w → F i j = G i j) : mk h w F = mk h w G :=
  List.map_congr_left fun i hi => List.map_congr_left fun j hj => e i j (List.mem_range.mp hi) (List.mem_range.mp hj)
theorem mk_ent {h w : Nat} {g : Grid} (k : Rect h w g) : mk h w (ent g) = g := by
  refine List.ext_getElem (by simp [mk, k.h]) fun i h1 h2 => ?_
  have hw := k.w g[i] (List.getElem_mem h2)
  simp only [mk, List.getElem_map, List.getElem_range]
  refine List.ext_getElem (by simp [hw]) fun j h3 h4 => ?_
  simp only [List.getElem_map, List.getElem_range]
  unfold ent
  rw [List.getD_eq_getElem?_getD, List.getD_eq_getElem?_getD, List.getElem?_eq_getElem h2, Option.getD_some, List.getElem?_eq_getElem h4, Option.getD_some]
theorem turn_mk {h w : Nat} {G : Nat → Nat → Int} : turnG w (mk h w G) = mk w h fun j i => G (h - 1 - i) j := by
  unfold TP.turnG mk
  refine List.map_congr_left fun j hj => ?_
  have hj := List.mem_range.mp hj
  refine List.ext_getElem (by simp) fun i h1 h2 => ?_
  simp only [List.length_map, List.length_range] at h2
  rw [List.getElem_map, List.getElem_reverse, List.getElem_map, List.getElem_map, List.getElem_range, List.getElem_range]
  simp only [List.length_map, List.length_range]
  rw [List.getD_eq_getElem?_getD, List.getElem?_eq_getElem (by simpa using hj), Option.getD_some, List.getElem_map, List.getElem_range]
theorem mir_mk {h w : Nat} {G : Nat → Nat → Int} : mirG (mk h w G) = mk h w fun i j => G i (w - 1 - j) := by
  unfold mirG mk
  rw [List.map_map]
  refine List.map_congr_left fun i _ => ?_
  refine List.ext_getElem (by simp) fun j h1 h2 => ?_
  simp only [Function.comp]
  rw [List.getElem_reverse, List.getElem_map, List.getElem_map, List.getElem_range, List.getElem_range]
  simp only [List.length_map, List.length_range]
/-- one turn more -/
theorem turn_moved {t : Int} {m : Bool} {h w : Nat} {g : Grid} (h0 : 0 ≤ t) (h3 : t ≤ 3) (k : Rect h w g) : turnG (par t.toNat w h) (movedG t m h w g) = movedG ((1 + t) % 4) m h w g := by
  have z : t = 0 ∨ t = 1 ∨ t = 2 ∨ t = 3 := by omega
  have go : ∀ {g : Grid}, Rect h w g → turnG h (turnG w (turnG h (turnG w g))) = g := fun {g} k => by
    conv => rhs; rw [← mk_ent k]
    conv => lhs; rw [← mk_ent k]
    rw [turn_mk, turn_mk, turn_mk, turn_mk]
    refine mk_congr fun i j hi hj => ?_
    show ent g _ _ = _
    first | rfl | (congr 1 <;> omega)
  rcases z with rfl | rfl | rfl | rfl
  · rfl
  · rfl
  · rfl
  · unfold movedG
    cases m
    · exact go k
    · exact go k.mir
theorem mir_moved {t : Int} {m : Bool} {h w : Nat} {g : Grid} (h0 : 0 ≤ t) (h3 : t ≤ 3) (k : Rect h w g) : mirG (movedG t m h w g) = movedG ((0 + -t) % 4) (!m) h w g := by
  have z : t = 0 ∨ t = 1 ∨ t = 2 ∨ t = 3 := by omega
  have mm : ∀ {g : Grid}, mirG (mirG g) = g := fun {g} => by
    unfold mirG
    rw [List.map_map]
    conv => rhs; rw [← List.map_id g]
    refine List.map_congr_left fun r _ => ?_
    simp
  have t1 : ∀ {g : Grid}, Rect h w g → mirG (turnG w g) = turnG w (turnG h (turnG w (mirG g))) := fun {g} k => by
    rw [← mk_ent k, turn_mk, mir_mk, mir_mk, turn_mk, turn_mk, turn_mk]
    refine mk_congr fun i j hi hj => ?_
    show ent g _ _ = ent g _ _
    first | rfl | (congr 1 <;> omega)
  have t2 : ∀ {g : Grid}, Rect h w g → mirG (turnG h (turnG w g)) = turnG h (turnG w (mirG g)) := fun {g} k => by
    rw [← mk_ent k, turn_mk, turn_mk, mir_mk, mir_mk, turn_mk, turn_mk]
    all_goals
      refine mk_congr fun i j hi hj => ?_
      show ent g _ _ = ent g _ _
      first | rfl | (congr 1 <;> omega)
  have t3 : ∀ {g : Grid}, Rect h w g → mirG (turnG w (turnG h (turnG w g))) = turnG w (mirG g) := fun {g} k => by
    rw [← mk_ent k, turn_mk, turn_mk, turn_mk, mir_mk, mir_mk, turn_mk]
    refine mk_congr fun i j hi hj => ?_
    show ent g _ _ = ent g _ _
    first | rfl | (congr 1 <;> omega)
  rcases z with rfl | rfl | rfl | rfl
  · cases m
    · rfl
    · exact mm
  · cases m
    · exact t1 k
    · exact (t1 k.mir).trans (by rw [mm]; rfl)
  · cases m
    · exact t2 k
    · exact (t2 k.mir).trans (by rw [mm]; rfl)
  · cases m
    · exact t3 k
    · exact (t3 k.mir).trans (by rw [mm]; rfl)
end TW

set_option Elab.async false
set_option linter.all false
set_option maxRecDepth 100000
set_option maxHeartbeats 1000000
/-! what a sequence makes of a picture: the lost lines cut off, moved, the added lines drawn around -/
namespace TW
open PySem PySem.Spec PyProof.Rows L2 DL FL PD TP TR TU
def nE (e : Ee) (s : Sd) : Nat := (e.l s).toNat
def wX (e : Ee) (h w : Nat) : Nat := par e.t.toNat (coreW (nE e) w) (coreH (nE e) h)
def hX (e : Ee) (h w : Nat) : Nat := par e.t.toNat (coreH (nE e) h) (coreW (nE e) w)
def inX (e : Ee) (h w : Nat) (g : Grid) : Grid := movedG e.t e.m (coreH (nE e) h) (coreW (nE e) w) (coreG (nE e) h w g)
def cur (e : Ee) (h w : Nat) (g : Grid) : Grid := drG (wX e h w) (inX e h w g) e.ls
def curH (e : Ee) (h w : Nat) : Nat := drH (hX e h w) e.ls
def curW (e : Ee) (h w : Nat) : Nat := drW (wX e h w) e.ls
def stepG (W : Nat) : TP.Sp → Grid → Grid
  | .turn, G => turnG W G
  | .mir, G => mirG G
  | .cut s, G => cutG s G
  | .add s c, G => addG W c s G
def stepH (H W : Nat) : TP.Sp → Nat
  | .turn => W
  | .mir => H
  | .cut s => cutH s H
  | .add s _ => addH s H
def stepW (H W : Nat) : TP.Sp → Nat
  | .turn => H
  | .mir => W
  | .cut s => cutW s W
  | .add s _ => addW s W
structure EOk (e : Ee) : Prop where
  t0 : 0 ≤ e.t
  t3 : e.t ≤ 3
  l0 : ∀ s, 0 ≤ e.l s
theorem Rect.turnN : ∀ {n h w : Nat} {g : Grid}, Rect h w g → Rect (par n h w) (par n w h) (TR.turnN n h w g)
  | 0, _, _, _, k => k
  | n + 1, h, w, g, k => Rect.turnN (n := n) (h := w) (w := h) (g := turnG w g) k.turn
theorem Rect.moved {t : Int} {m : Bool} {h w : Nat} {g : Grid} (k : Rect h w g) : Rect (par t.toNat h w) (par t.toNat w h) (movedG t m h w g) := by
  unfold movedG
  cases m
  · exact Rect.turnN k
  · exact Rect.turnN k.mir
theorem par_t {t : Int} {h w : Nat} (h0 : 0 ≤ t) (h3 : t ≤ 3) : par ((1 + t) % 4).toNat w h = par t.toNat h w := by
  have z : t = 0 ∨ t = 1 ∨ t = 2 ∨ t = 3 := by omega
  rcases z with rfl | rfl | rfl | rfl <;> rfl
theorem par_m {t : Int} {h w : Nat} (h0 : 0 ≤ t) (h3 : t ≤ 3) : par ((0 + -t) % 4).toNat w h = par t.toNat w h := by
  have z : t = 0 ∨ t = 1 ∨ t = 2 ∨ t = 3 := by omega
  rcases z with rfl | rfl | rfl | rfl <;> rfl
theorem par_ge {n h w : Nat} : ∀ {h w : Nat}, 1 ≤ h → 1 ≤ w → 1 ≤ par n h w := by
  induction n with
  | zero => intro h w a b; exact a
  | succ n ih => intro h w a b; exact ih b a
theorem dr_turn : ∀ {ls : List Li} {h w : Nat}, drH h (ls.map (mvL 1 false)) = drW h ls ∧ drW w (ls.map (mvL 1 false)) = drH w ls
  | [], _, _ => ⟨rfl, rfl⟩
  | (s, c) :: r, h, w => by
    have e1 : addH (symS 1 false s) h = addW s h := by cases s <;> rfl
    have e2 : addW (symS 1 false s) w = addH s w := by cases s <;> rfl
    show drH (addH (symS 1 false s) h) (r.map (mvL 1 false)) = drW (addW s h) r ∧ drW (addW (symS 1 false s) w) (r.map (mvL 1 false)) = drH (addH s w) r
    rw [e1, e2]
    exact ⟨(dr_turn (ls := r) (h := addW s h) (w := w)).1, (dr_turn (ls := r) (h := h) (w := addH s w)).2⟩
theorem dr_mir : ∀ {ls : List Li} {h w : Nat}, drH h (ls.map (mvL 0 true)) = drH h ls ∧ drW w (ls.map (mvL 0 true)) = drW w ls
  | [], _, _ => ⟨rfl, rfl⟩
  | (s, c) :: r, h, w => by
    have e1 : addH (symS 0 true s) h = addH s h := by cases s <;> rfl
    have e2 : addW (symS 0 true s) w = addW s w := by cases s <;> rfl
    show drH (addH (symS 0 true s) h) (r.map (mvL 0 true)) = drH (addH s h) r ∧ drW (addW (symS 0 true s) w) (r.map (mvL 0 true)) = drW (addW s w) r
    rw [e1, e2]
    exact ⟨(dr_mir (ls := r) (h := addH s h) (w := w)).1, (dr_mir (ls := r) (h := h) (w := addW s w)).2⟩
theorem drH_snoc {ls : List Li} {s : Sd} {c : Int} : ∀ {h : Nat}, drH h (ls ++ [(s, c)]) = addH s (drH h ls) := by
  induction ls with
  | nil => intro h; rfl
  | cons x r ih =>
    intro h
    obtain ⟨s', c'⟩ := x
    exact ih
theorem cutH_addH {s s' : Sd} {h : Nat} (hh : 1 ≤ h) : cutH s (addH s' h) = addH s' (cutH s h) := by
  cases s <;> cases s' <;> simp [cutH, addH] <;> omega
theorem cut_drH {s : Sd} : ∀ {n : Nat} {ls : List Li}, ls.length = n → ∀ {h : Nat}, 1 ≤ h → cutH s (drH h ls) = (if ls.any (onS s) = true then drH h (rmP (onS s) ls) else drH (cutH s h) ls)
  | 0, [], _, h, hh => rfl
  | n + 1, ls, hl, h, hh => by
    rcases List.eq_nil_or_concat ls with e | ⟨xs, l, e⟩
    · rw [e] at hl
      cases hl
    · rw [List.concat_eq_append] at e
      subst e
      obtain ⟨s', c⟩ := l
      rw [List.length_append, List.length_singleton] at hl
      have lh := drH_le (ls := xs) (h := h)
      have i1 := cut_drH (s := s) (n := n) (ls := xs) (by omega) hh
      rw [drH_snoc, rmP_snoc, List.any_append]
      by_cases es : s' = s
      · subst es
        have on : onS s' (s', c) = true := decide_eq_true rfl
        rw [if_pos on, if_pos (by simp [on])]
        cases s' <;> simp [cutH, addH]
      · have off : onS s (s', c) = false := decide_eq_false es
        have a2 : (xs.any (onS s) || [(s', c)].any (onS s)) = xs.any (onS s) := by simp [off]
        have r2 : (if onS s (s', c) = true then xs else rmP (onS s) xs ++ [(s', c)]) = rmP (onS s) xs ++ [(s', c)] := if_neg (by rw [off]; decide)
        rw [r2, a2, cutH_addH (by omega), i1]
        by_cases a : xs.any (onS s) = true
        · simp only [if_pos a, drH_snoc]
        · simp only [if_neg a, drH_snoc]
theorem step_cur {e : Ee} {h w : Nat} {g : Grid} {p : TP.Sp} (o : EOk e) (k : Rect h w g) (h1 : 1 ≤ coreH (nE (e.step p)) h) (w1 : 1 ≤ coreW (nE (e.step p)) w) (hb : 1 ≤ coreH (nE e) h) (wb : 1 ≤ coreW (nE e) w) :
    stepG (curW e h w) p (cur e h w g) = cur (e.step p) h w g ∧ stepH (curH e h w) (curW e h w) p = curH (e.step p) h w ∧ stepW (curH e h w) (curW e h w) p = curW (e.step p) h w := by
  have t0 := o.t0
  have t3 := o.t3
  have kc := Rect.core (n := nE e) k
  have kx := Rect.moved (t := e.t) (m := e.m) kc
  cases p with
  | turn =>
    have a := moved_dr (t := 1) (m := false) (by decide) (by decide) (ls := e.ls) kx
    have b := turn_moved (m := e.m) t0 t3 kc
    have wn : wX (e.step .turn) h w = hX e h w := par_t t0 t3
    have hn : hX (e.step .turn) h w = wX e h w := par_t t0 t3
    refine ⟨?_, ?_, ?_⟩
    · show turnG (curW e h w) (cur e h w g) = drG (wX (e.step .turn) h w) (movedG ((1 + e.t) % 4) e.m (coreH (nE e) h) (coreW (nE e) w) (coreG (nE e) h w g)) (e.ls.map (mvL 1 false))
      rw [wn, ← b]
      exact a
    · show drW (wX e h w) e.ls = drH (hX (e.step .turn) h w) (e.ls.map (mvL 1 false))
      rw [hn]
      exact (dr_turn (w := 0)).1.symm
    · show drH (hX e h w) e.ls = drW (wX (e.step .turn) h w) (e.ls.map (mvL 1 false))
      rw [wn]
      exact (dr_turn (h := 0)).2.symm
  | mir =>
    have a := moved_dr (t := 0) (m := true) (by decide) (by decide) (ls := e.ls) kx
    have b := mir_moved (m := e.m) t0 t3 kc
    have wn : wX (e.step .mir) h w = wX e h w := par_m t0 t3
    have hn : hX (e.step .mir) h w = hX e h w := par_m t0 t3
    refine ⟨?_, ?_, ?_⟩
    · show mirG (cur e h w g) = drG (wX (e.step .mir) h w) (movedG ((0 + -e.t) % 4) (!e.m) (coreH (nE e) h) (coreW (nE e) w) (coreG (nE e) h w g)) (e.ls.map (mvL 0 true))
      rw [wn, ← b]
      exact a
    · show drH (hX e h w) e.ls = drH (hX (e.step .mir) h w) (e.ls.map (mvL 0 true))
      rw [hn]
      exact (dr_mir (w := 0)).1.symm
    · show drW (wX e h w) e.ls = drW (wX (e.step .mir) h w) (e.ls.map (mvL 0 true))
      rw [wn]
      exact (dr_mir (h := 0)).2.symm
  | add s c =>
    refine ⟨?_, ?_, ?_⟩
    · show addG (drW (wX e h w) e.ls) c s (drG (wX e h w) (inX e h w g) e.ls) = drG (wX e h w) (inX e h w g) (e.ls ++ [(s, c)])
      rw [drG_snoc]
    · show addH s (drH (hX e h w) e.ls) = drH (hX e h w) (e.ls ++ [(s, c)])
      rw [drH_snoc]
    · show addW s (drW (wX e h w) e.ls) = drW (wX e h w) (e.ls ++ [(s, c)])
      rw [drW_snoc]
  | cut s =>
    have hx1 : 1 ≤ hX e h w := par_ge (h := 0) (w := 0) hb wb
    have wx1 : 1 ≤ wX e h w := par_ge (h := 0) (w := 0) wb hb
    obtain ⟨c1, c2⟩ := cut_dr (s := s) rfl (ls := e.ls) kx hx1 wx1
    have c3 := cut_drH (s := s) rfl (ls := e.ls) hx1
    by_cases a : e.ls.any (onS s) = true
    · rw [if_pos a] at c1 c2 c3
      have es : e.step (.cut s) = ⟨e.t, e.m, e.l, rmP (onS s) e.ls⟩ := if_pos a
      rw [es]
      exact ⟨c1, c3, c2⟩
    · rw [if_neg a] at c1 c2 c3
      have es : e.step (.cut s) = ⟨e.t, e.m, setS e.l (TR.upS e.t e.m s) (e.l (TR.upS e.t e.m s) + 1), e.ls⟩ := if_neg a
      have en : nE (e.step (.cut s)) = inc1 (nE e) (TR.upS e.t e.m s) := by
        rw [es]
        funext r
        have := o.l0 (TR.upS e.t e.m s)
        show (setS e.l (TR.upS e.t e.m s) (e.l (TR.upS e.t e.m s) + 1) r).toNat = inc1 (nE e) (TR.upS e.t e.m s) r
        unfold setS inc1 nE
        split
        · rename_i q
          rw [q]
          omega
        · rfl
      have us := symS_up (t := e.t) (m := e.m) (s := s) t0 t3
      obtain ⟨d1, d2, d3⟩ := core_cut (u := TR.upS e.t e.m s) k hb wb
      have mc := moved_cut (m := e.m) (u := TR.upS e.t e.m s) t0 t3 kc
      obtain ⟨p1, p2⟩ := par_cut (t := e.t) (m := e.m) (h := coreH (nE e) h) (w := coreW (nE e) w) (u := TR.upS e.t e.m s) t0 t3
      rw [us] at mc p1 p2
      rw [d1, d2, d3, ← en] at mc
      rw [d2, d3, ← en] at p1 p2
      refine ⟨?_, ?_, ?_⟩
      · show cutG s (drG (wX e h w) (inX e h w g) e.ls) = _
        refine c1.trans ?_
        show drG (cutW s (wX e h w)) (cutG s (inX e h w g)) e.ls = _
        rw [show cutG s (inX e h w g) = _ from mc, show cutW s (wX e h w) = _ from p1]
        rw [es]
        rfl
      · refine c3.trans ?_
        rw [show cutH s (hX e h w) = _ from p2]
        rw [es]
        rfl
      · refine c2.trans ?_
        rw [p1]
        rw [es]
        rfl
/-! whole sequences -/
theorem EOk.zero : EOk Ee.zero := ⟨by decide, by decide, fun _ => Int.le_refl 0⟩
theorem EOk.step {e : Ee} (o : EOk e) (p : TP.Sp) : EOk (e.step p) := by
  have a := o.t0
  have b := o.t3
  cases p with
  | turn => exact ⟨by show 0 ≤ (1 + e.t) % 4; omega, by show (1 + e.t) % 4 ≤ 3; omega, o.l0⟩
  | mir => exact ⟨by show 0 ≤ (0 + -e.t) % 4; omega, by show (0 + -e.t) % 4 ≤ 3; omega, o.l0⟩
  | add s c => exact ⟨a, b, o.l0⟩
  | cut s =>
    unfold Ee.step
    dsimp only
    split
    · exact ⟨a, b, o.l0⟩
    · refine ⟨a, b, fun r => ?_⟩
      show 0 ≤ setS e.l _ _ r
      unfold setS
      split
      · have := o.l0 (TR.upS e.t e.m s)
        omega
      · exact o.l0 r
theorem EOk.run : ∀ {ps : List TP.Sp} {e : Ee}, EOk e → EOk (e.run ps)
  | [], _, o => o
  | p :: ps, e, o => EOk.run (ps := ps) (o.step p)
theorem nE_step {e : Ee} (o : EOk e) {p : TP.Sp} {s : Sd} : nE e s ≤ nE (e.step p) s := by
  cases p with
  | turn => exact Nat.le_refl _
  | mir => exact Nat.le_refl _
  | add s' c => exact Nat.le_refl _
  | cut s' =>
    unfold Ee.step
    dsimp only
    split
    · exact Nat.le_refl _
    · show (e.l s).toNat ≤ (setS e.l _ _ s).toNat
      unfold setS
      split
      · rename_i q
        rw [q]
        omega
      · exact Nat.le_refl _
theorem nE_run : ∀ {ps : List TP.Sp} {e : Ee} {s : Sd}, EOk e → nE e s ≤ nE (e.run ps) s
  | [], _, _, _ => Nat.le_refl _
  | p :: ps, e, s, o => Nat.le_trans (nE_step o (p := p)) (nE_run (ps := ps) (o.step p))
theorem core_le {e : Ee} {ps : List TP.Sp} {h w : Nat} (o : EOk e) : coreH (nE (e.run ps)) h ≤ coreH (nE e) h ∧ coreW (nE (e.run ps)) w ≤ coreW (nE e) w := by
  have a := nE_run (ps := ps) (s := .top) o
  have b := nE_run (ps := ps) (s := .right) o
  have c := nE_run (ps := ps) (s := .bottom) o
  have d := nE_run (ps := ps) (s := .left) o
  unfold coreH coreW
  omega
theorem cur_zero {h w : Nat} {g : Grid} (k : Rect h w g) : cur Ee.zero h w g = g ∧ curH Ee.zero h w = h ∧ curW Ee.zero h w = w := by
  refine ⟨?_, rfl, rfl⟩
  show ((g.drop 0).take (h - 0 - 0)).map (fun r => (r.drop 0).take (w - 0 - 0)) = g
  have kh := k.h
  rw [List.drop_zero, List.take_of_length_le (by omega)]
  conv => rhs; rw [← List.map_id g]
  refine List.map_congr_left fun r hr => ?_
  have := k.w r hr
  show (r.drop 0).take (w - 0 - 0) = r
  rw [List.drop_zero, List.take_of_length_le (by omega)]
end TW

set_option Elab.async false
set_option linter.all false
set_option maxRecDepth 100000
set_option maxHeartbeats 4000000
/-! Effect.apply -/
namespace TW
open PySem PySem.Spec PyProof.Rows L2 DL FL PD TP TR TU
local macro_rules | `(tactic| walk_at "g1") => `(tactic| first
  | with_reducible refine wp_dget ?_
  | with_reducible refine wp_din ?_
  | with_reducible refine wp_dput ?_
  | with_reducible refine wp_daug ?_
  | with_reducible refine wp_tru ?_
  | with_reducible refine wp_pop ?_
  | with_reducible refine wp_pop0 ?_
  | ((with_reducible apply wp_augN); (exact rfl))
  | with_reducible refine wp_disp ?_
  | with_reducible refine wp_pairs0 ?_
  | with_reducible refine wp_pairs ?_
  | with_reducible refine wp_call0 ?_ ?_
  | with_reducible refine wp_frz ?_
  | with_reducible refine wp_app ?_
  | with_reducible refine wp_make0 rfl ?_)
local macro_rules | `(tactic| walk_at "g1") => `(tactic| first
  | with_reducible refine wp_cmeth ?_
  | ((with_reducible apply wp_makeL); (exact rfl))
  | with_reducible refine wp_star ?_
  | with_reducible refine wp_lenO ?_
  | with_reducible refine gw_starT ?_
  | with_reducible refine gw_starL ?_)
variable {st : FL.St} {Q : D → FL.St → Prop} {X : Exn → FL.St → Prop} {t : Int} {m : Bool} {l : Sd → Int} {ls : List Li} {h w : Nat} {g : Grid}
section
variable {na : fA} {ρ : Rho} {N B C : Rho → FL.St → Prop} {R : D → FL.St → Prop} {E : Exn → Rho → FL.St → Prop}
end
theorem Grd.core {n : Sd → Nat} (k : Grd h w g) (h1 : 1 ≤ coreH n h) (w1 : 1 ≤ coreW n w) : Grd (coreH n h) (coreW n w) (coreG n h w g) := by
  have hb := k.h1
  have wb := k.w1
  refine ⟨Rect.core k.r, h1, w1, ?_, ?_, ?_⟩
  · unfold coreH; omega
  · unfold coreW; omega
  · intro r hr c hc
    unfold coreG at hr
    obtain ⟨r', hr', rfl⟩ := List.mem_map.mp hr
    have m1 : r' ∈ g := List.mem_of_mem_drop (List.mem_of_mem_take hr')
    exact k.pos r' m1 c (List.mem_of_mem_drop (List.mem_of_mem_take hc))
/-! what a sequence leaves is small -/
def tot (l : Sd → Int) : Int := l .top + l .right + l .bottom + l .left
structure Bnd (e : Ee) (n : Nat) : Prop where
  o : EOk e
  c : ∀ q ∈ e.ls, 0 ≤ q.2
  b : (e.ls.length : Int) + tot e.l ≤ n
theorem tot_set {l : Sd → Int} {s : Sd} : tot (setS l s (l s + 1)) = tot l + 1 := by
  cases s <;> simp [tot, setS] <;> omega
theorem Bnd.step {e : Ee} {n : Nat} {p : TP.Sp} (i : Bnd e n) (hp : okS p = true) : Bnd (e.step p) (n + 1) := by
  refine ⟨i.o.step p, ?_, ?_⟩
  · cases p with
    | turn =>
      intro q hq
      obtain ⟨q', h', rfl⟩ := List.mem_map.mp hq
      exact i.c q' h'
    | mir =>
      intro q hq
      obtain ⟨q', h', rfl⟩ := List.mem_map.mp hq
      exact i.c q' h'
    | add s c =>
      intro q hq
      rcases List.mem_append.mp hq with h | h
      · exact i.c q h
      · rw [List.mem_singleton.mp h]
        simpa [okS, isColour] using hp
    | cut s =>
      unfold Ee.step
      dsimp only
      split
      · exact fun q hq => i.c q (rmP_sub.subset hq)
      · exact i.c
  · have b := i.b
    cases p with
    | turn =>
      show ((e.ls.map (mvL 1 false)).length : Int) + tot e.l ≤ _
      rw [List.length_map]
      omega
    | mir =>
      show ((e.ls.map (mvL 0 true)).length : Int) + tot e.l ≤ _
      rw [List.length_map]
      omega
    | add s c =>
      show ((e.ls ++ [(s, c)]).length : Int) + tot e.l ≤ _
      rw [List.length_append, List.length_singleton]
      omega
    | cut s =>
      unfold Ee.step
      dsimp only
      split
      · have := (rmP_sub (p := onS s) (xs := e.ls)).length_le
        show ((rmP (onS s) e.ls).length : Int) + tot e.l ≤ _
        omega
      · show (e.ls.length : Int) + tot (setS e.l _ (e.l _ + 1)) ≤ _
        rw [tot_set]
        omega
theorem Bnd.run : ∀ {ps : List TP.Sp} {e : Ee} {n : Nat}, Bnd e n → (∀ p ∈ ps, okS p = true) → Bnd (e.run ps) (n + ps.length)
  | [], _, _, i, _ => i
  | p :: ps, e, n, i, h => by
    have a := Bnd.run (ps := ps) (i.step (h p List.mem_cons_self)) (fun q hq => h q (List.mem_cons_of_mem _ hq))
    rw [List.length_cons, show n + (ps.length + 1) = n + 1 + ps.length by omega]
    exact a
end TW

set_option Elab.async false
set_option linter.all false
set_option maxRecDepth 100000
set_option maxHeartbeats 4000000
/-! own runs of family A, numbered pictures -/
namespace TV
open PySem PySem.Spec PyProof.Rows L2 DL FL PD TP TR TQ
local macro_rules | `(tactic| walk_at "g1") => `(tactic| first
  | with_reducible refine wp_dget ?_
  | with_reducible refine wp_din ?_
  | with_reducible refine wp_dput ?_
  | with_reducible refine wp_daug ?_
  | with_reducible refine wp_tru ?_
  | with_reducible refine wp_pop ?_
  | with_reducible refine wp_pop0 ?_
  | ((with_reducible apply wp_augN); (exact rfl))
  | with_reducible refine wp_disp ?_
  | with_reducible refine wp_pairs0 ?_
  | with_reducible refine wp_pairs ?_
  | with_reducible refine wp_call0 ?_ ?_
  | with_reducible refine wp_frz ?_
  | with_reducible refine wp_app ?_
  | with_reducible refine wp_make0 rfl ?_)
local macro_rules | `(tactic| walk_at "g1") => `(tactic| first
  | with_reducible refine wp_cmeth ?_
  | ((with_reducible apply wp_makeL); (exact rfl))
  | with_reducible refine wp_star ?_
  | with_reducible refine wp_lenO ?_
  | with_reducible refine gw_starT ?_
  | with_reducible refine gw_starL ?_)
variable {st : FL.St} {Q : D → FL.St → Prop} {X : Exn → FL.St → Prop} {h w : Nat} {g : Grid}
/-- an own run: nothing as soon as a cut fails -/
def runA : Nat → Nat → Grid → List TP.Sp → Option Grid
  | _, _, g, [] => some g
  | H, W, g, p :: ps => match aft H W p g with
    | none => none
    | some g' => runA (TW.stepH H W p) (TW.stepW H W p) g' ps
theorem aft_some {p : TP.Sp} (h1 : 1 ≤ h) (w1 : 1 ≤ w) (h2 : 1 ≤ TW.stepH h w p) (w2 : 1 ≤ TW.stepW h w p) : aft h w p g = some (TW.stepG w p g) := by
  cases p with
  | turn => rfl
  | mir => rfl
  | add s c => rfl
  | cut s =>
    have : lastG s h w = false := by
      cases s
      all_goals simp only [TW.stepH, TW.stepW, cutH, cutW] at h2 w2
      all_goals exact decide_eq_false (by omega)
    show (if lastG s h w = true then none else some (cutG s g)) = _
    rw [this]
    rfl
theorem aft_grd {p : TP.Sp} {g' : Grid} (k : Grd h w g) (o : okS p = true) (hh : h < 1000) (hw : w < 1000) (e : aft h w p g = some g') : Grd (TW.stepH h w p) (TW.stepW h w p) g' ∧ TW.stepH h w p ≤ max h w + 1 ∧ TW.stepW h w p ≤ max h w + 1 ∧ g' = TW.stepG w p g := by
  cases p with
  | turn =>
    cases e
    exact ⟨k.turn, by show w ≤ _; omega, by show h ≤ _; omega, rfl⟩
  | mir =>
    cases e
    exact ⟨k.mir, by show h ≤ _; omega, by show w ≤ _; omega, rfl⟩
  | add s c =>
    cases e
    have hc : 0 ≤ c := by simpa [okS, isColour] using o
    refine ⟨k.add hc hh hw, ?_, ?_, rfl⟩
    · show addH s h ≤ _
      cases s <;> simp [addH] <;> omega
    · show addW s w ≤ _
      cases s <;> simp [addW] <;> omega
  | cut s =>
    have e' : (if lastG s h w = true then none else some (cutG s g)) = some g' := e
    by_cases z : lastG s h w = true
    · rw [if_pos z] at e'
      cases e'
    · rw [if_neg z] at e'
      cases e'
      have z' : lastG s h w = false := by simpa using z
      refine ⟨k.cut z', ?_, ?_, rfl⟩
      · show cutH s h ≤ _
        cases s <;> simp [cutH] <;> omega
      · show cutW s w ≤ _
        cases s <;> simp [cutW] <;> omega
section
variable {N B C : Rho → FL.St → Prop} {R : D → FL.St → Prop} {E : Exn → Rho → FL.St → Prop}
theorem run_go {S : D} : ∀ {ps : List TP.Sp} {h w i : Nat} {g : Grid} {a b : Option D}, Grd h w g → (∀ p ∈ ps, okS p = true) → max h w + ps.length ≤ 1000 →
    (∀ g' a b, runA h w g ps = some g' → N [some (lG g'), some S, a, b] st) → (∀ d, runA h w g ps = none → R (.lst [.non, d]) st) →
    (fForGo (fGt 2 (fGc (fGn 2) (fGc (fGn 3) fGl))) (fSeq (fSet 0 (fCall PA.e_l_after 2 [] (fCons (fVar 0) (fCons (fVar 3) fNil)))) (fIfS (fTest (fBin oIsN (fVar 0) (fC .non))) (fRet (fLst (fCons (fC .non) (fCons (fVar 2) fNil)))) fNext)) (enumD i (ps.map TP.Sp.d)) [some (lG g), some S, a, b] st).wp ⟨N, R, B, C, E⟩
  | [], h, w, i, g, a, b, k, o, hl, kN, kR => wp_for_nil (kN g a b rfl)
  | p :: ps, h, w, i, g, a, b, k, o, hl, kN, kR => by
    have op := o p List.mem_cons_self
    rw [List.length_cons] at hl
    refine wp_for_cons (ρ' := [some (lG g), some S, some (.int (i : Nat)), some p.d]) (st' := st) rfl ?_
    walk_at "g"
    refine Res.wp_eq (after_e k) ?_
    cases z : aft h w p g with
    | none =>
      have e0 : runA h w g (p :: ps) = none := by
        unfold runA
        rw [z]
      rw [show optD none = D.non from rfl]
      walk_at "g"
      exact kR _ e0
    | some g' =>
      have e0 : runA h w g (p :: ps) = runA (TW.stepH h w p) (TW.stepW h w p) g' ps := by
        conv => lhs; unfold runA
        rw [z]
      obtain ⟨k', b1, b2, _⟩ := aft_grd k op (by omega) (by omega) z
      rw [show optD (some g') = lG g' from rfl]
      walk_at "g"
      exact run_go (ps := ps) k' (fun q hq => o q (List.mem_cons_of_mem _ hq)) (by omega) (fun g2 a b e => kN g2 a b (e0.trans e)) (fun d e => kR d (e0.trans e))
end
theorem lrun_e {t : Bool} {ps : List TP.Sp} (k : Grd h w g) (o : ∀ p ∈ ps, okS p = true) (hl : max h w + ps.length ≤ 1000) : ∃ x, PA.e_l_run [lG g, sq t (ps.map TP.Sp.d)] st = .ok (.lst [optD (runA h w g ps), x]) st := by
  cases z : runA h w g ps with
  | none =>
    have fin : (PA.e_l_run [lG g, sq t (ps.map TP.Sp.d)] st).wp (fun d s => ∃ x, d = .lst [.non, x] ∧ s = st) noX := by
      refine wp_body0 ?_
      unfold PA.p_l_run
      cases t
      all_goals
        walk_at "g"
        refine run_go k o hl (fun g' a b e => ?_) (fun d _ => ?_)
        · rw [z] at e
          cases e
        · exact ⟨rfl, d, rfl, rfl⟩
    obtain ⟨d, s, e, x, rfl, rfl⟩ := Res.ok_wp fin
    exact ⟨x, e⟩
  | some g' =>
    have fin : (PA.e_l_run [lG g, sq t (ps.map TP.Sp.d)] st).wp (fun d s => ∃ x, d = .lst [lG g', x] ∧ s = st) noX := by
      refine wp_body0 ?_
      unfold PA.p_l_run
      cases t
      all_goals
        walk_at "g"
        refine run_go k o hl (fun g2 a b e => ?_) (fun d e => ?_)
        · rw [z] at e
          cases e
          walk_at "g"
          exact ⟨rfl, _, rfl, rfl⟩
        · rw [z] at e
          cases e
    obtain ⟨d, s, e, x, rfl, rfl⟩ := Res.ok_wp fin
    exact ⟨x, e⟩
/-! a run on a picture that is large enough -/
open TW (Ee nE cur curH curW EOk)
theorem runA_cur : ∀ {ps : List TP.Sp} {e : Ee} {h w : Nat} {g : Grid}, EOk e → Rect h w g → 1 ≤ TW.coreH (nE (e.run ps)) h → 1 ≤ TW.coreW (nE (e.run ps)) w → runA (curH e h w) (curW e h w) (cur e h w g) ps = some (cur (e.run ps) h w g)
  | [], _, _, _, _, _, _, _, _ => rfl
  | p :: ps, e, h, w, g, o, k, h1, w1 => by
    have b1 := TW.core_le (ps := ps) (h := h) (w := w) (o.step p)
    have b2 := TW.core_le (ps := p :: ps) (h := h) (w := w) o
    have h1' : 1 ≤ TW.coreH (nE ((e.step p).run ps)) h := h1
    have w1' : 1 ≤ TW.coreW (nE ((e.step p).run ps)) w := w1
    obtain ⟨s1, s2, s3⟩ := TW.step_cur (p := p) o k (by omega) (by omega) (by omega) (by omega)
    have pos : ∀ {e : Ee}, 1 ≤ TW.coreH (nE e) h → 1 ≤ TW.coreW (nE e) w → 1 ≤ curH e h w ∧ 1 ≤ curW e h w := fun {e} a b =>
      ⟨Nat.le_trans (TW.par_ge (h := 0) (w := 0) a b) TW.drH_le, Nat.le_trans (TW.par_ge (h := 0) (w := 0) b a) TW.drW_le⟩
    have p1 := pos (e := e) (by omega) (by omega)
    have p2 := pos (e := e.step p) (by omega) (by omega)
    have a := aft_some (g := cur e h w g) (p := p) p1.1 p1.2 (by rw [s2]; exact p2.1) (by rw [s3]; exact p2.2)
    unfold runA
    rw [a, s1]
    show runA (TW.stepH _ _ p) (TW.stepW _ _ p) _ ps = _
    rw [s2, s3]
    exact runA_cur (ps := ps) (o.step p) k h1' w1'
theorem runA_eff {ps : List TP.Sp} (k : Rect h w g) (h1 : 1 ≤ TW.coreH (nE (Ee.zero.run ps)) h) (w1 : 1 ≤ TW.coreW (nE (Ee.zero.run ps)) w) : runA h w g ps = some (cur (Ee.zero.run ps) h w g) := by
  obtain ⟨c1, c2, c3⟩ := TW.cur_zero k
  have r := runA_cur (ps := ps) EOk.zero k h1 w1
  rw [c1, c2, c3] at r
  exact r
/-! numbered pictures -/
def numG (h w : Nat) (F : Int) : Grid := (List.range h).map fun i : Nat => (List.range w).map fun j : Nat => F + (i : Int) * (w : Int) + (j : Int)
theorem num_grd {F : Int} (h0 : 1 ≤ h) (w0 : 1 ≤ w) (h1 : h ≤ 1000) (w1 : w ≤ 1000) (f0 : 0 ≤ F) : Grd h w (numG h w F) := by
  refine ⟨⟨by simp [numG], ?_⟩, h0, w0, h1, w1, ?_⟩
  · intro r hr
    obtain ⟨i, _, rfl⟩ := List.mem_map.mp hr
    simp
  · intro r hr c hc
    obtain ⟨i, _, rfl⟩ := List.mem_map.mp hr
    obtain ⟨j, _, rfl⟩ := List.mem_map.mp hc
    have : 0 ≤ (i : Int) * (w : Int) := Int.mul_nonneg (by omega) (by omega)
    omega
theorem num_e {F : Int} (h1 : h ≤ 1000) (w1 : w ≤ 1000) : PA.e_l_numbered [.int (h : Nat), .int (w : Nat), .int F] st = .ok (lG (numG h w F)) st := by
  refine Res.eq_wp (wp_body0 ?_)
  unfold PA.p_l_numbered
  walk_at "g"
  refine wp_lc_map (enc := fun i : Nat => D.int (0 + i)) (xs := List.range (Int.toNat (h : Nat))) (fun i => lR ((List.range w).map fun j : Nat => F + (i : Int) * (w : Int) + (j : Int))) (by simp; omega) ?_ ?_
  · intro i hi
    refine ⟨_, rfl, ?_⟩
    walk_at "g"
    refine wp_lc_map (enc := fun i : Nat => D.int (0 + i)) (xs := List.range (Int.toNat (w : Nat))) (fun j => .int (F + (i : Int) * (w : Int) + (j : Int))) (by simp; omega) ?_ ?_
    · intro j hj
      refine ⟨_, rfl, ?_⟩
      have m1 : oMul1 (.int (0 + (i : Int))) (.int ((w : Nat) : Int)) = some (.int ((0 + (i : Int)) * (w : Int))) := oMul1_intR (by omega)
      walk_at "g"
      refine ⟨?_, rfl⟩
      rw [Int.zero_add, Int.zero_add]
    · exact ⟨by simp [lR, List.map_map, Function.comp], rfl⟩
  · exact ⟨rfl, by simp [numG, lG, List.map_map, Function.comp], rfl⟩
end TV

set_option Elab.async false
set_option linter.all false
set_option maxRecDepth 100000
set_option maxHeartbeats 1000000
/-! steps that undo an effect without lost lines -/
namespace TW
open PySem PySem.Spec PyProof.Rows L2 DL FL PD TP TR TU TV
variable {t : Int} {m : Bool} {l : Sd → Int} {ls : List Li} {h w : Nat} {g : Grid} {e : Ee}
/-! cuts that take lines away -/
/-! the effect of these steps alone -/
/-! the composition with them -/
end TW

set_option Elab.async false
set_option linter.all false
set_option maxRecDepth 100000
set_option maxHeartbeats 4000000
/-! family A's draws, where only the pool's place is told -/
namespace TX
open PySem PySem.Spec PyProof.Rows L2 DL FL PD TP TR TQ TV TU
variable {st s : FL.St} {Q : D → FL.St → Prop} {X : Exn → FL.St → Prop} {n : Nat}
theorem Clean.set {x : Option DO} (h : Clean st) (k : Clean [x]) : Clean (st.set n x) := fun m => by
  rw [List.all_eq_true]
  intro y hy
  rcases List.mem_or_eq_of_mem_set hy with hy | rfl
  · exact List.all_eq_true.mp (h m) y hy
  · exact List.all_eq_true.mp (k m) y List.mem_cons_self
structure PoolAt (n : Nat) (s : FL.St) : Prop where
  cl : Clean s
  at' : ∃ a b, s[n]? = some (po a b)
theorem po_clean {a b : Int} : Clean [po a b] := clean_lst rfl
theorem PoolAt.set (h : PoolAt n st) {a b : Int} : PoolAt n (st.set n (po a b)) := by
  obtain ⟨a', b', e⟩ := h.at'
  exact ⟨Clean.set h.cl po_clean, a, b, set_at e⟩
theorem PoolAt.put (h : PoolAt n st) {m : Nat} {x : Option DO} (k : Clean [x]) (ne : m ≠ n) : PoolAt n (st.set m x) := by
  obtain ⟨a', b', e⟩ := h.at'
  exact ⟨Clean.set h.cl k, a', b', by rw [List.getElem?_set_ne ne]; exact e⟩
theorem PoolAt.app (h : PoolAt n st) {t : FL.St} (k : Clean t) : PoolAt n (st ++ t) := by
  obtain ⟨a', b', e⟩ := h.at'
  exact ⟨h.cl.app k, a', b', at_app e⟩
theorem PoolAt.lt (h : PoolAt n st) : n < st.length := by
  obtain ⟨_, _, e⟩ := h.at'
  exact (List.getElem?_eq_some_iff.mp e).1
/-- the same but for the pool -/
structure But (n : Nat) (s s' : FL.St) : Prop where
  p : PoolAt n s'
  l : s'.length = s.length
  o : ∀ m, m ≠ n → s'[m]? = s[m]?
theorem PoolAt.but (h : PoolAt n st) {a b : Int} : But n st (st.set n (po a b)) := ⟨h.set, List.length_set, fun m ne => List.getElem?_set_ne ne.symm⟩
theorem But.trans {a b c : FL.St} (h : But n a b) (k : But n b c) : But n a c := ⟨k.p, k.l.trans h.l, fun m ne => (k.o m ne).trans (h.o m ne)⟩
theorem drawP {c : Int} (h : PoolAt n st) (hc : 0 < c) (h2 : c ≤ 10000000000000000000000000000000000000000) (k : ∀ r s', But n st s' → 0 ≤ r → r < c → Q (.int r) s') : (PA.e_l_draw [.loc n, .int c] st).wp Q X := by
  obtain ⟨a, b, e⟩ := h.at'
  exact draw_wp e hc h2 fun r a b r0 r1 => k r _ h.but r0 r1
theorem poolP {ns : List Int} {j : Int} (hc : Clean st) (hj : 0 ≤ j) (hj2 : j ≤ 1000) (k : ∀ s', PoolAt st.length s' → s'.length = st.length + 1 → Q (.loc st.length) s') : (PA.e_l_pool [.frz (ns.map D.int), .int j] st).wp Q X :=
  pool_wp hj hj2 fun a b => k _ ⟨hc.app po_clean, a, b, ap_end⟩ (by simp)
theorem rlinesP {m c : Int} (h : PoolAt n st) (hm : 0 ≤ m) (hm2 : m ≤ 1000) (hc : 0 < c) (hc2 : c ≤ 10000000000000000000000000000000000000000)
    (k : ∀ (ls : List Li) s', But n st s' → (∀ q ∈ ls, 0 ≤ q.2 ∧ q.2 < c) → (ls.length : Int) = m → Q (.lst (ls.map liD)) s') : (PA.e_l_random_lines [.loc n, .int m, .int c] st).wp Q X := by
  obtain ⟨a, b, e⟩ := h.at'
  exact rlines_wp e hm hm2 hc hc2 (fun a b => h.set.cl) fun ls a b hp hl => k ls _ h.but hp hl
theorem But.refl (h : PoolAt n st) : But n st st := ⟨h, rfl, fun _ _ => rfl⟩
open TW (Ee nE cur curH curW)
end TX

set_option Elab.async false
set_option linter.all false
set_option maxRecDepth 100000
set_option maxHeartbeats 2000000
/-! composing is running one sequence after the other -/
namespace TW
open PySem PySem.Spec PyProof.Rows L2 DL FL PD TP TR TU TV
variable {t t2 : Int} {m m2 : Bool} {l l2 wd : Sd → Int} {ls : List Li} {e f : Ee} {s u k : Sd}
/-! what is kept of the inner lines -/
/-- one after the other -/
def cmp (e f : Ee) : Ee := ⟨(f.t + if f.m then -e.t else e.t) % 4, e.m != f.m, lostC e.t e.m e.l (wdt e.ls) f.l, innerC f.t f.m (leftC (wdt e.ls) f.l) e.ls ++ f.ls⟩
/-! whatever the order of the frames' lines -/
/-- an effect as a value -/
def effE (e : Ee) : D := efD e.t e.m e.l (leastO e.ls)
theorem EOk.cmp (o : EOk e) (_ : EOk f) : EOk (cmp e f) := ⟨by show 0 ≤ (_ : Int) % 4; omega, by show (_ : Int) % 4 ≤ 3; omega, lostC_nn o.l0⟩
end TW

set_option Elab.async false
set_option linter.all false
set_option maxRecDepth 100000
set_option maxHeartbeats 4000000
namespace PB
open PySem PySem.Spec PyProof.Rows L2 DL FL PD
def p_l_draw : fS := (fSeq (fIfS (fTest (fBin oEq (fIxO (fVar 0) (fC (.int 2))) (fC (.int 0)))) (fSeq (fSet 2 (fIf (fTest (fBin oLt (fIxO (fVar 0) (fC (.int 1))) (fFn lLen (fCons (fIxO (fVar 0) (fC (.int 0))) fNil)))) (fBin oIx (fIxO (fVar 0) (fC (.int 0))) (fIxO (fVar 0) (fC (.int 1)))) (fC (.int 0)))) (fSeq (fAsg (fBin oAdd (fIxO (fVar 0) (fC (.int 1))) (fC (.int 1))) (fGsub (fVar 0) (fC (.int 1)))) (fSeq (fIfS (fTest (fBin oLt (fVar 2) (fBin oPow (fC (.int 10)) (fC (.int 18))))) (fSeq (fAsg (fBin oMod (fBin oAdd (fBin oAdd (fBin oMul1 (fIxO (fVar 0) (fC (.int 3))) (fC (.int 48271))) (fBin oMod (fVar 2) (fC (.int 2147483629)))) (fIxO (fVar 0) (fC (.int 1)))) (fC (.int 2147483647))) (fGsub (fVar 0) (fC (.int 3)))) (fRet (fBin oMod (fBin oDiv (fBin oMod (fBin oMul1 (fIxO (fVar 0) (fC (.int 3))) (fIxO (fVar 0) (fC (.int 3)))) (fC (.int 2147483629))) (fC (.int 7))) (fVar 1)))) fNext) (fAsg (fVar 2) (fGsub (fVar 0) (fC (.int 2))))))) fNext) (fSeq (fSet 3 (fBin oMod (fIxO (fVar 0) (fC (.int 2))) (fVar 1))) (fSeq (fAsg (fBin oDiv (fIxO (fVar 0) (fC (.int 2))) (fVar 1)) (fGsub (fVar 0) (fC (.int 2)))) (fRet (fVar 3)))))
def e_l_draw : fF := fBody p_l_draw 2
def p_l_after : fS := (fSeq (fIfS (fTest (fBin oEq (fBin oIx (fVar 1) (fC (.int 0))) (fC (.str "turn")))) (fRet (fLc (iR1 (fCons (fFn lLen (fCons (fBin oIx (fVar 0) (fC (.int 0))) fNil)) fNil)) (fGn 5) fYes (fFn lTuple (fCons (fLc (iSq (fBack (fVar 0))) (fGn 4) fYes (fBin oIx (fVar 4) (fVar 5)) [4]) fNil)) [5])) fNext) (fSeq (fIfS (fTest (fBin oEq (fBin oIx (fVar 1) (fC (.int 0))) (fC (.str "mirror")))) (fRet (fLc (iSq (fVar 0)) (fGn 4) fYes (fBack (fVar 4)) [4])) fNext) (fSeq (fSet 2 (fBin oIx (fVar 1) (fC (.int 1)))) (fSeq (fIfS (fTest (fBin oEq (fBin oIx (fVar 1) (fC (.int 0))) (fC (.str "cut")))) (fSeq (fIfS (fTest (fBin oEq (fIf (fTest (fBin oIn (fVar 2) (fLst (fCons (fC (.str "top")) (fCons (fC (.str "bottom")) fNil))))) (fFn lLen (fCons (fVar 0) fNil)) (fFn lLen (fCons (fBin oIx (fVar 0) (fC (.int 0))) fNil))) (fC (.int 1)))) (fRet (fC .non)) fNext) (fSeq (fIfS (fTest (fBin oIn (fVar 2) (fLst (fCons (fC (.str "top")) (fCons (fC (.str "bottom")) fNil))))) (fRet (fIf (fTest (fBin oEq (fVar 2) (fC (.str "top")))) (fSl (fVar 0) (fPs (fC (.int 1))) fPn) (fSl (fVar 0) fPn (fPs (fNeg (fC (.int 1))))))) fNext) (fRet (fLc (iSq (fVar 0)) (fGn 4) fYes (fIf (fTest (fBin oEq (fVar 2) (fC (.str "left")))) (fSl (fVar 4) (fPs (fC (.int 1))) fPn) (fSl (fVar 4) fPn (fPs (fNeg (fC (.int 1)))))) [4])))) fNext) (fSeq (fSet 3 (fBin oMul1 (fTup (fCons (fBin oIx (fVar 1) (fC (.int 2))) fNil)) (fFn lLen (fCons (fBin oIx (fVar 0) (fC (.int 0))) fNil)))) (fSeq (fIfS (fTest (fBin oIn (fVar 2) (fLst (fCons (fC (.str "top")) (fCons (fC (.str "bottom")) fNil))))) (fRet (fIf (fTest (fBin oEq (fVar 2) (fC (.str "top")))) (fBin oAdd (fLst (fCons (fVar 3) fNil)) (fVar 0)) (fBin oAdd (fVar 0) (fLst (fCons (fVar 3) fNil))))) fNext) (fRet (fLc (iSq (fVar 0)) (fGn 4) fYes (fIf (fTest (fBin oEq (fVar 2) (fC (.str "left")))) (fBin oAdd (fTup (fCons (fBin oIx (fVar 1) (fC (.int 2))) fNil)) (fVar 4)) (fBin oAdd (fVar 4) (fTup (fCons (fBin oIx (fVar 1) (fC (.int 2))) fNil)))) [4]))))))))
def e_l_after : fF := fBody p_l_after 4
def p_l_run : fS := (fSeq (fSet 2 (fVar 0)) (fSeq (fFor (iR1 (fCons (fFn lLen (fCons (fVar 1) fNil)) fNil)) (fGn 3) (fSeq (fSet 2 (fCall e_l_after 2 [] (fCons (fVar 2) (fCons (fBin oIx (fVar 1) (fVar 3)) fNil)))) (fIfS (fTest (fBin oIsN (fVar 2) (fC .non))) (fRet (fLst (fCons (fC .non) (fCons (fVar 3) fNil)))) fNext))) (fRet (fLst (fCons (fVar 2) (fCons (fC .non) fNil))))))
def e_l_run : fF := fBody p_l_run 2
end PB

set_option Elab.async false
set_option linter.all false
set_option maxRecDepth 100000
set_option maxHeartbeats 4000000
/-! the later laws' own small functions: draws, steps -/
namespace TS
open PySem PySem.Spec PyProof.Rows L2 DL FL PD TP TR
local macro_rules | `(tactic| walk_at "g1") => `(tactic| first
  | with_reducible refine wp_dget ?_
  | with_reducible refine wp_din ?_
  | with_reducible refine wp_dput ?_
  | with_reducible refine wp_daug ?_
  | with_reducible refine wp_tru ?_
  | with_reducible refine wp_pop ?_
  | with_reducible refine wp_pop0 ?_
  | ((with_reducible apply wp_augN); (exact rfl))
  | with_reducible refine wp_disp ?_
  | with_reducible refine wp_pairs0 ?_
  | with_reducible refine wp_pairs ?_
  | with_reducible refine wp_call0 ?_ ?_
  | with_reducible refine wp_frz ?_
  | with_reducible refine wp_app ?_
  | with_reducible refine wp_make0 rfl ?_)
variable {st : FL.St} {Q : D → FL.St → Prop} {X : Exn → FL.St → Prop}
abbrev po (ns : List Int) (k p2 p3 : Int) : Option DO := some (.lst [.lst (ns.map D.int), .int k, .int p2, .int p3])
/-- the pool of draws -/
def Pl (ns : List Int) (x : Option DO) : Prop := ∃ k p2 p3, 0 ≤ k ∧ 0 ≤ p2 ∧ 0 ≤ p3 ∧ p3 < 2147483648 ∧ x = po ns k p2 p3
theorem draw_wp {n : Nat} {ns : List Int} {x : Option DO} {c : Int} (hs : st[n]? = some x) (hx : Pl ns x) (hc : 0 < c) (h2 : c ≤ 10000000000000000000000000000000000000000) (q : ∀ r x', Pl ns x' → 0 ≤ r → r < c → Q (.int r) (st.set n x')) : (PB.e_l_draw [.loc n, .int c] st).wp Q X := by
  obtain ⟨k, p2, p3, a1, a2, a3, a4, rfl⟩ := hx
  have pm : -(2 ^ 64) ≤ p3 ∧ p3 < 2 ^ 64 := by omega
  refine wp_body ?_
  unfold PB.p_l_draw
  walk_at "g"
  by_cases hp : p2 = 0
  · subst hp
    walk_at "g"
    refine gw_two (fun ha => ?_) (fun ha => ?_)
    · rw [List.length_map] at ha
      have a := at_nat (ds := ns.map D.int) (k := k.toNat) (by rw [List.length_map]; omega)
      rw [List.getElem_map, Int.toNat_of_nonneg a1] at a
      have a : oIx (.lst (ns.map D.int)) (.int k) = _ := a
      generalize ns[k.toNat] = z at a
      walk_at "g"
      refine gw_two (fun hz => ?_) (fun hz => ?_)
      · walk_at "g"
        rw [List.set_set]
        walk_at "g"
        generalize hp3 : (p3 * 48271 + z % 2147483629 + (k + 1)) % 2147483647 = p
        have p0 : 0 ≤ p := by omega
        have p1 : p < 2147483647 := by omega
        have m1 : oMul1 (.int p) (.int p) = some (.int (p * p)) := oMul1_intR (by omega)
        walk_at "g"
        rw [gcF_len (by simp)]
        exact q _ _ ⟨k + 1, 0, p, by omega, a2, p0, by omega, rfl⟩ (Int.emod_nonneg _ (by omega)) (Int.emod_lt_of_pos _ hc)
      · walk_at "g"
        rw [List.set_set]
        walk_at "g"
        rw [List.set_set]
        rw [gcF_len (by simp)]
        exact q _ _ ⟨k + 1, z / c, p3, by omega, Int.ediv_nonneg (by omega) (by omega), a3, a4, rfl⟩ (Int.emod_nonneg _ (by omega)) (Int.emod_lt_of_pos _ hc)
    · walk_at "g"
      rw [List.set_set]
      walk_at "g"
      generalize hp3 : (p3 * 48271 + 0 % 2147483629 + (k + 1)) % 2147483647 = p
      have p0 : 0 ≤ p := by omega
      have p1 : p < 2147483647 := by omega
      have m1 : oMul1 (.int p) (.int p) = some (.int (p * p)) := oMul1_intR (by omega)
      walk_at "g"
      rw [gcF_len (by simp)]
      exact q _ _ ⟨k + 1, 0, p, by omega, a2, p0, by omega, rfl⟩ (Int.emod_nonneg _ (by omega)) (Int.emod_lt_of_pos _ hc)
  · have hp' : (p2 == 0) = false := by simpa using hp
    walk_at "g"
    rw [gcF_len (by simp)]
    exact q _ _ ⟨k, p2 / c, p3, a1, Int.ediv_nonneg a2 (by omega), a3, a4, rfl⟩ (Int.emod_nonneg _ (by omega)) (Int.emod_lt_of_pos _ hc)
end TS

set_option Elab.async false
set_option linter.all false
set_option maxRecDepth 100000
set_option maxHeartbeats 4000000
namespace TS
open PySem PySem.Spec PyProof.Rows L2 DL FL PD TP TR
local macro_rules | `(tactic| walk_at "g1") => `(tactic| first
  | with_reducible refine wp_dget ?_
  | with_reducible refine wp_din ?_
  | with_reducible refine wp_dput ?_
  | with_reducible refine wp_daug ?_
  | with_reducible refine wp_tru ?_
  | with_reducible refine wp_pop ?_
  | with_reducible refine wp_pop0 ?_
  | ((with_reducible apply wp_augN); (exact rfl))
  | with_reducible refine wp_disp ?_
  | with_reducible refine wp_pairs0 ?_
  | with_reducible refine wp_pairs ?_
  | with_reducible refine wp_call0 ?_ ?_
  | with_reducible refine wp_frz ?_
  | with_reducible refine wp_app ?_
  | with_reducible refine wp_make0 rfl ?_)
variable {st : FL.St} {Q : D → FL.St → Prop} {X : Exn → FL.St → Prop}
theorem sp_nl {p : TP.Sp} : noLoc p.d = true := by
  cases p <;> try rfl
theorem sps_nl {ps : List TP.Sp} : noLocL (ps.map Sp.d) = true := by
  rw [noLocL_all]
  intro d h
  obtain ⟨q, _, e⟩ := List.mem_map.mp h
  rw [← e]
  exact sp_nl
theorem ap_setL {t : FL.St} {n : Nat} {x y : Option DO} (h : st[n]? = some x) : (st ++ t).set n y = st.set n y ++ t := by
  have hl : n < st.length := (List.getElem?_eq_some_iff.mp h).1
  rw [List.set_append_left _ _ hl]
end TS

set_option Elab.async false
set_option linter.all false
set_option maxRecDepth 100000
set_option maxHeartbeats 4000000
/-! steps on lists of tuples -/
namespace TS
open PySem PySem.Spec PyProof.Rows L2 DL FL PD TP TR
local macro_rules | `(tactic| walk_at "g1") => `(tactic| first
  | with_reducible refine wp_dget ?_
  | with_reducible refine wp_din ?_
  | with_reducible refine wp_dput ?_
  | with_reducible refine wp_daug ?_
  | with_reducible refine wp_tru ?_
  | with_reducible refine wp_pop ?_
  | with_reducible refine wp_pop0 ?_
  | ((with_reducible apply wp_augN); (exact rfl))
  | with_reducible refine wp_disp ?_
  | with_reducible refine wp_pairs0 ?_
  | with_reducible refine wp_pairs ?_
  | with_reducible refine wp_call0 ?_ ?_
  | with_reducible refine wp_frz ?_
  | with_reducible refine wp_app ?_
  | with_reducible refine wp_make0 rfl ?_)
variable {st : FL.St} {h w : Nat} {g : Grid} {Q : D → FL.St → Prop} {X : Exn → FL.St → Prop}
abbrev qG (g : Grid) : D := .lst (g.map tR)
def aft (h w : Nat) : TP.Sp → Grid → Option Grid
  | .turn, g => some (turnG w g)
  | .mir, g => some (mirG g)
  | .cut s, g => if lastG s h w = true then none else some (cutG s g)
  | .add s c, g => some (addG w c s g)
def optD : Option Grid → D
  | none => .non
  | some g => qG g
theorem getD_int' {r : List Int} {j : Nat} (h : j < r.length) : atI (r.map D.int) (0 + (j : Int)) = some (.int (r.getD j 0)) := by
  have a := at_nat (ds := r.map D.int) (k := j) (by rw [List.length_map]; exact h)
  rw [Int.zero_add, a, List.getElem_map]
  simp [List.getD, h]
theorem head_facts (k : Grd h w g) : ∃ r, oIx (qG g) (.int 0) = some (tR r) ∧ lLen [tR r] = some (.int ((w : Nat) : Int)) ∧ lLen [qG g] = some (.int ((h : Nat) : Int)) := by
  obtain ⟨r, rs, e, l⟩ := k.r.head k.hh
  have rh := k.r.h
  refine ⟨r, by rw [e]; exact oIx_l0, ?_, ?_⟩
  · show some (D.int (((r.map D.int).length : Nat) : Int)) = _
    rw [List.length_map, l]
  · show some (D.int (((g.map tR).length : Nat) : Int)) = _
    rw [List.length_map, rh]
theorem after_turn (k : Grd h w g) : PB.e_l_after [qG g, (TP.Sp.turn).d] st = .ok (qG (turnG w g)) st := by
  obtain ⟨r, ix, hl, hg⟩ := head_facts k
  have kr := k.r
  have hh := k.h1
  have hw := k.w1
  have rh := kr.h
  refine Res.eq_wp (wp_body0 ?_)
  unfold PB.p_l_after
  walk_at "g"
  refine wp_lc_map (enc := fun i : Nat => D.int (0 + i)) (xs := List.range w) (fun j => tR (g.reverse.map fun r => r.getD j 0)) (by simp; omega) ?_ ?_
  · intro j hj
    have hj := List.mem_range.mp hj
    refine ⟨_, rfl, ?_⟩
    walk_at "g"
    rw [← List.map_reverse]
    refine wp_lc_map (enc := tR) (xs := g.reverse) (fun r => .int (r.getD j 0)) (by simp; omega) ?_ ?_
    · intro q hq
      refine ⟨_, rfl, ?_⟩
      have gi : oIx (tR q) (.int (0 + (j : Int))) = some (.int (q.getD j 0)) := getD_int' (by rw [kr.w q (List.mem_reverse.mp hq)]; exact hj)
      walk_at "g"
      exact ⟨rfl, rfl⟩
    · walk_at "g"
      exact ⟨by simp [tR, List.map_map, Function.comp], rfl⟩
  · exact ⟨rfl, by simp [TP.turnG, qG, List.map_map, Function.comp], rfl⟩
theorem after_mir (k : Grd h w g) : PB.e_l_after [qG g, (TP.Sp.mir).d] st = .ok (qG (mirG g)) st := by
  have rh := k.r.h
  have hh := k.h1
  refine Res.eq_wp (wp_body0 ?_)
  unfold PB.p_l_after
  walk_at "g"
  refine wp_lc_map (enc := tR) (fun r => tR r.reverse) (by omega) ?_ ?_
  · intro q hq
    refine ⟨_, rfl, ?_⟩
    walk_at "g"
    exact ⟨by simp [tR], rfl⟩
  · exact ⟨rfl, by simp [mirG, qG, List.map_map, Function.comp], rfl⟩
theorem after_cut {s : Sd} (k : Grd h w g) : PB.e_l_after [qG g, (TP.Sp.cut s).d] st = .ok (optD (aft h w (.cut s) g)) st := by
  obtain ⟨r, ix, hl, hg⟩ := head_facts k
  have rh := k.r.h
  have hh := k.h1
  have c1 := oCut_l1 (r := g.map tR)
  have c9 := oCut_l9 (r := g.map tR)
  refine Res.eq_wp (wp_body0 ?_)
  unfold PB.p_l_after
  cases hs : lastG s h w with
  | true =>
    cases s
    case top =>
      have q : ((h : Int) == 1) = true := by simp [lastG] at hs; simp [hs]
      walk_at "g"
      exact ⟨rfl, by rw [aft, hs]; rfl, rfl⟩
    case bottom =>
      have q : ((h : Int) == 1) = true := by simp [lastG] at hs; simp [hs]
      walk_at "g"
      exact ⟨rfl, by rw [aft, hs]; rfl, rfl⟩
    case left =>
      have q : ((w : Int) == 1) = true := by simp [lastG] at hs; simp [hs]
      walk_at "g"
      exact ⟨rfl, by rw [aft, hs]; rfl, rfl⟩
    case right =>
      have q : ((w : Int) == 1) = true := by simp [lastG] at hs; simp [hs]
      walk_at "g"
      exact ⟨rfl, by rw [aft, hs]; rfl, rfl⟩
  | false =>
    cases s
    case top =>
      have q : ((h : Int) == 1) = false := by simp [lastG] at hs; simp; omega
      walk_at "g"
      exact ⟨rfl, by rw [aft, hs]; simp [optD, cutG, qG], rfl⟩
    case bottom =>
      have q : ((h : Int) == 1) = false := by simp [lastG] at hs; simp; omega
      walk_at "g"
      exact ⟨rfl, by rw [aft, hs]; simp [optD, cutG, qG], rfl⟩
    case left =>
      have q : ((w : Int) == 1) = false := by simp [lastG] at hs; simp; omega
      walk_at "g"
      refine wp_lc_map (enc := tR) (fun r => tR (r.drop 1)) (by omega) ?_ ?_
      · intro q hq
        refine ⟨_, rfl, ?_⟩
        have d1 := oCut_t1 (r := q.map D.int)
        walk_at "g"
        exact ⟨by simp [tR], rfl⟩
      · exact ⟨rfl, by rw [aft, hs]; simp [optD, cutG, qG, List.map_map, Function.comp], rfl⟩
    case right =>
      have q : ((w : Int) == 1) = false := by simp [lastG] at hs; simp; omega
      walk_at "g"
      refine wp_lc_map (enc := tR) (fun r => tR (r.take (r.length - 1))) (by omega) ?_ ?_
      · intro q hq
        refine ⟨_, rfl, ?_⟩
        have d1 := oCut_t9 (r := q.map D.int)
        walk_at "g"
        exact ⟨by simp [tR], rfl⟩
      · exact ⟨rfl, by rw [aft, hs]; simp [optD, cutG, qG, List.map_map, Function.comp], rfl⟩
theorem after_add {s : Sd} {c : Int} (k : Grd h w g) : PB.e_l_after [qG g, (TP.Sp.add s c).d] st = .ok (qG (addG w c s g)) st := by
  obtain ⟨r, ix, hl, hg⟩ := head_facts k
  have rh := k.r.h
  have hh := k.h1
  have hw1 := k.w1
  have hw0 := k.hw
  have m : oMul1 (.tup [.int c]) (.int ((w : Nat) : Int)) = some (tR (List.replicate w c)) := by
    rw [oMul1_t hw0 hw1, tR, List.map_replicate]
  have a1 := oAdd_ll (x := [tR (List.replicate w c)]) (y := g.map tR) (by simp; omega)
  have a2 := oAdd_ll (x := g.map tR) (y := [tR (List.replicate w c)]) (by simp; omega)
  refine Res.eq_wp (wp_body0 ?_)
  unfold PB.p_l_after
  cases s
  case top =>
    walk_at "g"
    exact ⟨rfl, by simp [addG, qG], rfl⟩
  case bottom =>
    walk_at "g"
    exact ⟨rfl, by simp [addG, qG], rfl⟩
  case left =>
    walk_at "g"
    refine wp_lc_map (enc := tR) (fun r => tR (c :: r)) (by omega) ?_ ?_
    · intro q hq
      refine ⟨_, rfl, ?_⟩
      have l := k.r.w q hq
      have b1 := oAdd_tt (x := [.int c]) (y := q.map D.int) (by simp; omega)
      walk_at "g"
      exact ⟨by simp [tR], rfl⟩
    · exact ⟨rfl, by simp [addG, qG, List.map_map, Function.comp], rfl⟩
  case right =>
    walk_at "g"
    refine wp_lc_map (enc := tR) (fun r => tR (r ++ [c])) (by omega) ?_ ?_
    · intro q hq
      refine ⟨_, rfl, ?_⟩
      have l := k.r.w q hq
      have b1 := oAdd_tt (x := q.map D.int) (y := [.int c]) (by simp; omega)
      walk_at "g"
      exact ⟨by simp [tR], rfl⟩
    · exact ⟨rfl, by simp [addG, qG, List.map_map, Function.comp], rfl⟩
theorem after_e {p : TP.Sp} (k : Grd h w g) : PB.e_l_after [qG g, p.d] st = .ok (optD (aft h w p g)) st := by
  cases p with
  | turn => exact after_turn k
  | mir => exact after_mir k
  | cut s => exact after_cut k
  | add s c => exact after_add k
end TS

set_option Elab.async false
set_option linter.all false
set_option maxRecDepth 100000
set_option maxHeartbeats 4000000
/-! runs on lists of tuples -/
namespace TS
open PySem PySem.Spec PyProof.Rows L2 DL FL PD TP TR
local macro_rules | `(tactic| walk_at "g1") => `(tactic| first
  | with_reducible refine wp_dget ?_
  | with_reducible refine wp_din ?_
  | with_reducible refine wp_dput ?_
  | with_reducible refine wp_daug ?_
  | with_reducible refine wp_tru ?_
  | with_reducible refine wp_pop ?_
  | with_reducible refine wp_pop0 ?_
  | ((with_reducible apply wp_augN); (exact rfl))
  | with_reducible refine wp_disp ?_
  | with_reducible refine wp_pairs0 ?_
  | with_reducible refine wp_pairs ?_
  | with_reducible refine wp_call0 ?_ ?_
  | with_reducible refine wp_frz ?_
  | with_reducible refine wp_app ?_
  | with_reducible refine wp_make0 rfl ?_)
variable {st : FL.St} {h w : Nat} {g : Grid} {Q : D → FL.St → Prop} {X : Exn → FL.St → Prop}
def stH : TP.Sp → Nat → Nat → Nat
  | .turn, _, w => w
  | .mir, h, _ => h
  | .cut s, h, _ => cutH s h
  | .add s _, h, _ => addH s h
def stW : TP.Sp → Nat → Nat → Nat
  | .turn, h, _ => h
  | .mir, _, w => w
  | .cut s, _, w => cutW s w
  | .add s _, _, w => addW s w
theorem st_le (p : TP.Sp) (h w : Nat) : stH p h w + stW p h w ≤ h + w + 1 := by
  cases p with
  | turn => simp [stH, stW]; omega
  | mir => simp [stH, stW]
  | cut s => cases s <;> simp [stH, stW, cutH, cutW] <;> omega
  | add s c => cases s <;> simp [stH, stW, addH, addW] <;> omega
theorem aft_grd {p : TP.Sp} {g' : Grid} (k : Grd h w g) (hp : okS p = true) (hh : h < 1000) (hw : w < 1000) (e : aft h w p g = some g') : Grd (stH p h w) (stW p h w) g' := by
  cases p with
  | turn => cases e; exact k.turn
  | mir => cases e; exact k.mir
  | cut s =>
    simp only [aft] at e
    split at e
    · cases e
    · rename_i n
      cases e
      exact k.cut (by simpa using n)
  | add s c =>
    cases e
    exact k.add (by simpa [okS] using hp) hh hw
def runG : Nat → Nat → Nat → Grid → List TP.Sp → Except Nat (Nat × Nat × Grid)
  | _, h, w, g, [] => .ok (h, w, g)
  | k, h, w, g, p :: ps => match aft h w p g with
    | none => .error k
    | some g' => runG (k + 1) (stH p h w) (stW p h w) g' ps
end TS

set_option Elab.async false
set_option linter.all false
set_option maxRecDepth 100000
set_option maxHeartbeats 2000000
/-! sequences in a turned world -/
namespace TW
open PySem PySem.Spec PyProof.Rows L2 DL FL PD TP TR TU TV
open TS (runG stH stW)
variable {t a : Int} {m b : Bool} {e : Ee} {h w k : Nat} {g : Grid} {s : Sd}
/-! pictures -/
end TW

set_option Elab.async false
set_option linter.all false
set_option maxRecDepth 100000
set_option maxHeartbeats 4000000
/-! pictures by their lines: rows and columns with names, a cell from the two that cross -/
namespace TS
open PySem PySem.Spec PyProof.Rows L2 DL FL PD TP TR
inductive Lab
  | row (i : Nat)
  | col (j : Nat)
  | add (k : Nat) (c : Int)
abbrev LL := List Lab × List Lab
@[reducible] def addL (a : Lab) (s : Sd) (x : LL) : LL := match s with
  | .top => (a :: x.1, x.2)
  | .bottom => (x.1 ++ [a], x.2)
  | .left => (x.1, a :: x.2)
  | .right => (x.1, x.2 ++ [a])
def old (k : Nat) : Lab → Prop
  | .add k' _ => k' < k
  | _ => True
/-! runs -/
end TS

set_option Elab.async false
set_option linter.all false
set_option maxRecDepth 100000
set_option maxHeartbeats 4000000
/-! the moves make the same picture -/
namespace TS
open PySem PySem.Spec PyProof.Rows L2 DL FL PD TP TR
theorem four {t : Int} (h0 : 0 ≤ t) (h3 : t ≤ 3) : t = 0 ∨ t = 1 ∨ t = 2 ∨ t = 3 := by omega
end TS

set_option Elab.async false
set_option linter.all false
set_option maxRecDepth 100000
set_option maxHeartbeats 4000000
/-! the lines of a direction -/
namespace TS
open PySem PySem.Spec PyProof.Rows L2 DL FL PD TP TR
section
variable {ax : Bool} {orig : Nat → Lab} {lo o k : Nat} {A B : List Ln} {c : Int}
end
end TS

set_option Elab.async false
set_option linter.all false
set_option maxRecDepth 100000
set_option maxHeartbeats 4000000
/-! what holds of the lines in a run -/
namespace TS
open PySem PySem.Spec PyProof.Rows L2 DL FL PD TP TR
def goodR (F : Int) (k : Nat) : Lab → Prop
  | .add k' c => k' < k ∧ 0 ≤ c ∧ c < F
  | .row _ => True
  | .col _ => False
def goodC (F : Int) (k : Nat) : Lab → Prop
  | .add k' c => k' < k ∧ 0 ≤ c ∧ c < F
  | .col _ => True
  | .row _ => False
def sepL : Lab → Lab → Prop
  | .add k _, .add k' _ => k ≠ k'
  | _, _ => True
structure InvM (F : Int) (k : Nat) (x : LL) : Prop where
  r : ∀ a ∈ x.1, goodR F k a
  c : ∀ a ∈ x.2, goodC F k a
  s : ∀ a ∈ x.1, ∀ b ∈ x.2, sepL a b
  h : 1 ≤ x.1.length
  w : 1 ≤ x.2.length
theorem goodR.mono {F : Int} {k k' : Nat} {a : Lab} (h : goodR F k a) (l : k ≤ k') : goodR F k' a := by
  cases a with
  | add j c => exact ⟨Nat.lt_of_lt_of_le h.1 l, h.2⟩
  | row i => trivial
  | col i => exact h
theorem goodC.mono {F : Int} {k k' : Nat} {a : Lab} (h : goodC F k a) (l : k ≤ k') : goodC F k' a := by
  cases a with
  | add j c => exact ⟨Nat.lt_of_lt_of_le h.1 l, h.2⟩
  | row i => exact h
  | col i => trivial
def Mok (F : Int) : Nat → List Mv → Prop
  | _, [] => True
  | k, (k', _, o) :: ms => k ≤ k' ∧ (∀ c, o = some c → 0 ≤ c ∧ c < F) ∧ Mok F (k' + 1) ms
theorem Mok.mono {F : Int} {k k' : Nat} (l : k' ≤ k) : ∀ {ms : List Mv}, Mok F k ms → Mok F k' ms
  | [], _ => trivial
  | _ :: _, h => ⟨Nat.le_trans l h.1, h.2⟩
/-! what crosses, as the program reckons it -/
def nn (A : List Ln) : Prop := ∀ q ∈ A, 0 ≤ q.1
end TS

set_option Elab.async false
set_option linter.all false
set_option maxRecDepth 100000
set_option maxHeartbeats 4000000
/-! the program's run, and its running size, exactly -/
namespace TX
open PySem PySem.Spec PyProof.Rows L2 DL FL PD TP TR TS
local macro_rules | `(tactic| walk_at "g1") => `(tactic| first
  | with_reducible refine wp_dget ?_
  | with_reducible refine wp_din ?_
  | with_reducible refine wp_dput ?_
  | with_reducible refine wp_daug ?_
  | with_reducible refine wp_tru ?_
  | with_reducible refine wp_pop ?_
  | with_reducible refine wp_pop0 ?_
  | ((with_reducible apply wp_augN); (exact rfl))
  | with_reducible refine wp_disp ?_
  | with_reducible refine wp_pairs0 ?_
  | with_reducible refine wp_pairs ?_
  | with_reducible refine wp_call0 ?_ ?_
  | with_reducible refine wp_frz ?_
  | with_reducible refine wp_app ?_
  | with_reducible refine wp_make0 rfl ?_)
local macro_rules | `(tactic| walk_at "g1") => `(tactic| first
  | with_reducible refine wp_cmeth ?_
  | ((with_reducible apply wp_makeL); (exact rfl))
  | with_reducible refine wp_star ?_
  | with_reducible refine wp_lenO ?_
  | with_reducible refine gw_starT ?_
  | with_reducible refine gw_starL ?_)
variable {st : FL.St} {Q : D → FL.St → Prop} {X : Exn → FL.St → Prop} {h w : Nat} {g : Grid}
/-! the running size -/
/-! it is exactly where a run fails -/
end TX

set_option Elab.async false
set_option linter.all false
set_option maxRecDepth 100000
set_option maxHeartbeats 4000000
/-! the effect that changes nothing -/
namespace TU
open PySem PySem.Spec PyProof.Rows L2 DL FL PD TP TR
variable {st : FL.St}
end TU

set_option Elab.async false
set_option linter.all false
set_option maxRecDepth 100000
set_option maxHeartbeats 4000000
/-! compose; what a run leaves is a picture -/
namespace TX
open PySem PySem.Spec PyProof.Rows L2 DL FL PD PE TP TR TV TU
open TW (Ee EOk cmp effE)
open TS (runG stH stW st_le)
local macro_rules | `(tactic| walk_at "g1") => `(tactic| first
  | with_reducible refine wp_dget ?_
  | with_reducible refine wp_din ?_
  | with_reducible refine wp_dput ?_
  | with_reducible refine wp_daug ?_
  | with_reducible refine wp_tru ?_
  | with_reducible refine wp_pop ?_
  | with_reducible refine wp_pop0 ?_
  | ((with_reducible apply wp_augN); (exact rfl))
  | with_reducible refine wp_disp ?_
  | with_reducible refine wp_pairs0 ?_
  | with_reducible refine wp_pairs ?_
  | with_reducible refine wp_call0 ?_ ?_
  | with_reducible refine wp_frz ?_
  | with_reducible refine wp_app ?_
  | with_reducible refine wp_make0 rfl ?_)
local macro_rules | `(tactic| walk_at "g1") => `(tactic| first
  | with_reducible refine wp_cmeth ?_
  | ((with_reducible apply wp_makeL); (exact rfl))
  | with_reducible refine wp_star ?_
  | with_reducible refine wp_lenO ?_
  | with_reducible refine gw_starT ?_
  | with_reducible refine gw_starL ?_)
local macro_rules | `(tactic| walk_at "g1") => `(tactic| first
  | with_reducible refine wp_neI ?_
  | with_reducible refine wp_eqO ?_
  | with_reducible refine wp_callV ?_
  | with_reducible refine wp_callV0 ?_
  | with_reducible refine wp_tryO ?_
  | with_reducible refine wp_bits ?_
  | with_reducible refine wp_iRv ?_
  | with_reducible refine wp_lrg ?_
  | with_reducible refine wp_cmethK ?_
  | with_reducible refine wp_popI ?_
  | with_reducible refine wp_lstC ?_)
variable {st : FL.St} {Q : D → FL.St → Prop} {X : Exn → FL.St → Prop}
end TX

set_option Elab.async false
set_option linter.all false
set_option maxRecDepth 100000
set_option maxHeartbeats 4000000
/-! power; commute -/
namespace TX
open PySem PySem.Spec PyProof.Rows L2 DL FL PD PE TP TR TV TU
open TW (Ee EOk cmp effE)
local macro_rules | `(tactic| walk_at "g1") => `(tactic| first
  | with_reducible refine wp_dget ?_
  | with_reducible refine wp_din ?_
  | with_reducible refine wp_dput ?_
  | with_reducible refine wp_daug ?_
  | with_reducible refine wp_tru ?_
  | with_reducible refine wp_pop ?_
  | with_reducible refine wp_pop0 ?_
  | ((with_reducible apply wp_augN); (exact rfl))
  | with_reducible refine wp_disp ?_
  | with_reducible refine wp_pairs0 ?_
  | with_reducible refine wp_pairs ?_
  | with_reducible refine wp_call0 ?_ ?_
  | with_reducible refine wp_frz ?_
  | with_reducible refine wp_app ?_
  | with_reducible refine wp_make0 rfl ?_)
local macro_rules | `(tactic| walk_at "g1") => `(tactic| first
  | with_reducible refine wp_cmeth ?_
  | ((with_reducible apply wp_makeL); (exact rfl))
  | with_reducible refine wp_star ?_
  | with_reducible refine wp_lenO ?_
  | with_reducible refine gw_starT ?_
  | with_reducible refine gw_starL ?_)
local macro_rules | `(tactic| walk_at "g1") => `(tactic| first
  | with_reducible refine wp_neI ?_
  | with_reducible refine wp_eqO ?_
  | with_reducible refine wp_callV ?_
  | with_reducible refine wp_callV0 ?_
  | with_reducible refine wp_tryO ?_
  | with_reducible refine wp_bits ?_
  | with_reducible refine wp_iRv ?_
  | with_reducible refine wp_lrg ?_
  | with_reducible refine wp_cmethK ?_
  | with_reducible refine wp_popI ?_
  | with_reducible refine wp_lstC ?_)
variable {st : FL.St} {Q : D → FL.St → Prop} {X : Exn → FL.St → Prop}
/-- so many copies -/
def rep (n : Nat) (ps : List TP.Sp) : List TP.Sp := (List.replicate n ps).flatten
end TX

set_option Elab.async false
set_option linter.all false
set_option maxRecDepth 100000
set_option maxHeartbeats 4000000
/-! sequences for some effects: only cuts; cuts and lines; powers of these -/
namespace TX
open PySem PySem.Spec PyProof.Rows L2 DL FL PD PE TP TR TV TU
open TW (Ee EOk cmp effE)
/-- cuts that lose so many lines -/
def cuts (k : Sd → Nat) : List TP.Sp := List.replicate (k .top) (.cut .top) ++ (List.replicate (k .right) (.cut .right) ++ (List.replicate (k .bottom) (.cut .bottom) ++ List.replicate (k .left) (.cut .left)))
theorem adds_run : ∀ {ls : List Li} {l : Sd → Int} {p : List Li}, (Ee.mk 0 false l p).run (ls.map fun q => TP.Sp.add q.1 q.2) = ⟨0, false, l, p ++ ls⟩
  | [], l, p => by
    show Ee.mk 0 false l p = _
    rw [List.append_nil]
  | (s, c) :: ls, l, p => by
    show (Ee.mk 0 false l (p ++ [(s, c)])).run (ls.map fun q => TP.Sp.add q.1 q.2) = _
    rw [adds_run, List.append_assoc]
    rfl
end TX

set_option Elab.async false
set_option linter.all false
set_option maxRecDepth 100000
set_option maxHeartbeats 1000000
/-! the outermost lines of drawn pictures; a picture tells its frame -/
namespace TW
open PySem PySem.Spec PyProof.Rows L2 DL FL PD TP TR TU
def lineG : Sd → Grid → List Int
  | .top, g => g.headD []
  | .bottom, g => g.getLastD []
  | .left, g => g.map fun r => r.headD 0
  | .right, g => g.map fun r => r.getLastD 0
variable {h w : Nat} {g : Grid} {c x : Int} {s u : Sd}
theorem getLastD_app {α : Type} {xs : List α} {y d : α} : (xs ++ [y]).getLastD d = y := by
  rw [List.getLastD_eq_getLast?, List.getLast?_append]
  rfl
theorem getLastD_cons {α : Type} {xs : List α} {y d : α} (h : xs ≠ []) : (y :: xs).getLastD d = xs.getLastD d := by
  cases xs with
  | nil => exact absurd rfl h
  | cons z zs => rfl
theorem headD_app {α : Type} {xs : List α} {y d : α} (h : xs ≠ []) : (xs ++ [y]).headD d = xs.headD d := by
  cases xs with
  | nil => exact absurd rfl h
  | cons z zs => rfl
theorem rect_ne (k : Rect h w g) (hh : 1 ≤ h) : g ≠ [] := fun e => by
  have := k.h
  rw [e] at this
  simp at this
  omega
theorem rect_rne (k : Rect h w g) (hw : 1 ≤ w) : ∀ r ∈ g, r ≠ [] := fun r hr e => by
  have := k.w r hr
  rw [e] at this
  simp at this
  omega
theorem line_same (k : Rect h w g) (hh : 1 ≤ h) (hw : 1 ≤ w) : x ∈ lineG s (addG w c s g) ↔ x = c := by
  have ne := rect_ne k hh
  cases s with
  | top => simp [lineG, addG]; omega
  | bottom =>
    show x ∈ (g ++ [List.replicate w c]).getLastD [] ↔ _
    rw [getLastD_app]
    simp
    omega
  | left =>
    simp only [lineG, addG, List.map_map, List.mem_map, Function.comp, List.headD_cons]
    constructor
    · rintro ⟨r, _, rfl⟩
      rfl
    · rintro rfl
      obtain ⟨r, hr⟩ := List.exists_mem_of_ne_nil g ne
      exact ⟨r, hr, rfl⟩
  | right =>
    simp only [lineG, addG, List.map_map, List.mem_map, Function.comp, getLastD_app]
    constructor
    · rintro ⟨r, _, rfl⟩
      rfl
    · rintro rfl
      obtain ⟨r, hr⟩ := List.exists_mem_of_ne_nil g ne
      exact ⟨r, hr, rfl⟩
theorem line_opp (k : Rect h w g) (hh : 1 ≤ h) (hw : 1 ≤ w) : lineG s (addG w c (opp s) g) = lineG s g := by
  have ne := rect_ne k hh
  have rne := rect_rne k hw
  cases s with
  | top => exact headD_app ne
  | bottom => exact getLastD_cons ne
  | left =>
    simp only [lineG, addG, opp, List.map_map]
    exact List.map_congr_left fun r hr => headD_app (rne r hr)
  | right =>
    simp only [lineG, addG, opp, List.map_map]
    exact List.map_congr_left fun r hr => getLastD_cons (rne r hr)
theorem line_perp (k : Rect h w g) (hh : 1 ≤ h) (hw : 1 ≤ w) (h1 : u ≠ s) (h2 : u ≠ opp s) : x ∈ lineG s (addG w c u g) ↔ x = c ∨ x ∈ lineG s g := by
  have ne := rect_ne k hh
  have rne := rect_rne k hw
  have last : ∀ {f : List Int → List Int}, (g.map f).getLastD [] = f (g.getLastD []) := fun {f} => by
    obtain ⟨xs, y, e⟩ := List.eq_nil_or_concat g |>.resolve_left ne
    rw [e, List.concat_eq_append, List.map_append, List.map_singleton, getLastD_app, getLastD_app]
  have first : ∀ {f : List Int → List Int}, (g.map f).headD [] = f (g.headD []) := fun {f} => by
    cases g with
    | nil => exact absurd rfl ne
    | cons y ys => rfl
  have rl : (List.replicate w c).getLastD 0 = c := by
    obtain ⟨n, rfl⟩ : ∃ n, w = n + 1 := ⟨w - 1, by omega⟩
    rw [List.replicate_succ', getLastD_app]
  have rf : (List.replicate w c).headD 0 = c := by
    obtain ⟨n, rfl⟩ : ∃ n, w = n + 1 := ⟨w - 1, by omega⟩
    rfl
  cases s <;> cases u <;> first | exact absurd rfl h1 | exact absurd rfl h2 | skip
  · show x ∈ (g.map fun r => r ++ [c]).headD [] ↔ _
    rw [first]
    simp [lineG, or_comm]
  · show x ∈ (g.map fun r => c :: r).headD [] ↔ _
    rw [first]
    simp [lineG]
  · show x ∈ (List.replicate w c :: g).map (fun r => r.getLastD 0) ↔ _
    rw [List.map_cons, rl]
    simp [lineG]
  · show x ∈ (g ++ [List.replicate w c]).map (fun r => r.getLastD 0) ↔ _
    rw [List.map_append, List.map_singleton, rl]
    simp [lineG, or_comm]
  · show x ∈ (g.map fun r => r ++ [c]).getLastD [] ↔ _
    rw [last]
    simp [lineG, or_comm]
  · show x ∈ (g.map fun r => c :: r).getLastD [] ↔ _
    rw [last]
    simp [lineG]
  · show x ∈ (List.replicate w c :: g).map (fun r => r.headD 0) ↔ _
    rw [List.map_cons, rf]
    simp [lineG]
  · show x ∈ (g ++ [List.replicate w c]).map (fun r => r.headD 0) ↔ _
    rw [List.map_append, List.map_singleton, rf]
    simp [lineG, or_comm]
def perp (u s : Sd) : Bool := decide (u ≠ s) && decide (u ≠ opp s)
theorem line_add (k : Rect h w g) (hh : 1 ≤ h) (hw : 1 ≤ w) (hu : u ≠ s) : x ∈ lineG s (addG w c u g) ↔ (perp u s = true ∧ x = c) ∨ x ∈ lineG s g := by
  by_cases h2 : u = opp s
  · rw [h2, line_opp k hh hw]
    have : perp (opp s) s = false := by cases s <;> rfl
    rw [this]
    simp
  · rw [line_perp k hh hw hu h2]
    have : perp u s = true := by simp [perp, hu, h2]
    simp [this]
/-- lines of other sides: they show their corners -/
theorem line_dr : ∀ {B : List Li} {h w : Nat} {g : Grid}, Rect h w g → 1 ≤ h → 1 ≤ w → (∀ b ∈ B, b.1 ≠ s) → (x ∈ lineG s (drG w g B) ↔ (∃ b ∈ B, perp b.1 s = true ∧ x = b.2) ∨ x ∈ lineG s g)
  | [], h, w, g, k, hh, hw, hB => by simp [drG]
  | (u, c) :: r, h, w, g, k, hh, hw, hB => by
    have ka := Rect.add (c := c) (s := u) k
    have a1 : 1 ≤ addH u h := by cases u <;> simp [addH] <;> omega
    have a2 : 1 ≤ addW u w := by cases u <;> simp [addW] <;> omega
    show x ∈ lineG s (drG (addW u w) (addG w c u g) r) ↔ _
    rw [line_dr ka a1 a2 (fun b hb => hB b (List.mem_cons_of_mem _ hb)), line_add k hh hw (hB (u, c) List.mem_cons_self)]
    simp only [List.mem_cons, exists_eq_or_imp]
    constructor
    · rintro (q | q | q)
      · exact .inl (.inr q)
      · exact .inl (.inl q)
      · exact .inr q
    · rintro ((q | q) | q)
      · exact .inr (.inl q)
      · exact .inl q
      · exact .inr (.inr q)
/-- the last line of a side, and what comes behind it -/
theorem split_last : ∀ {y : List Li}, (∃ A c B, y = A ++ (s, c) :: B ∧ ∀ b ∈ B, b.1 ≠ s) ∨ ∀ b ∈ y, b.1 ≠ s
  | [] => .inr fun b hb => (List.not_mem_nil hb).elim
  | (u, c) :: r => by
    rcases split_last (y := r) with ⟨A, c', B, e, hB⟩ | hr
    · exact .inl ⟨(u, c) :: A, c', B, by rw [e]; rfl, hB⟩
    · by_cases q : u = s
      · exact .inl ⟨[], c, r, by rw [q]; rfl, hr⟩
      · refine .inr fun b hb => ?_
        rcases List.mem_cons.mp hb with rfl | hb
        · exact q
        · exact hr b hb
/-- the colours of an outermost line that was drawn -/
theorem line_last {A B : List Li} (k : Rect h w g) (hh : 1 ≤ h) (hw : 1 ≤ w) (hB : ∀ b ∈ B, b.1 ≠ s) : x ∈ lineG s (drG w g (A ++ (s, c) :: B)) ↔ (∃ b ∈ B, perp b.1 s = true ∧ x = b.2) ∨ x = c := by
  have kA := Rect.dr (ls := A) k
  have lh := drH_le (ls := A) (h := h)
  have lw := drW_le (ls := A) (w := w)
  have ka := Rect.add (c := c) (s := s) kA
  have a1 : 1 ≤ addH s (drH h A) := by cases s <;> simp [addH] <;> omega
  have a2 : 1 ≤ addW s (drW w A) := by cases s <;> simp [addW] <;> omega
  rw [drG_app]
  show x ∈ lineG s (drG (addW s (drW w A)) (addG (drW w A) c s (drG w g A)) B) ↔ _
  rw [line_dr ka a1 a2 hB, line_same kA (by omega) (by omega)]
theorem comm_perp {b : Li} (h1 : b.1 ≠ s) (h2 : perp b.1 s = true → b.2 = c) : comm (s, c) b = true := by
  unfold comm
  have e1 : decide ((s, c).1 ≠ b.1) = true := decide_eq_true fun e => h1 e.symm
  rw [e1, Bool.true_and]
  by_cases q : b.1 = opp s
  · rw [decide_eq_true (show opp (s, c).1 = b.1 from q.symm)]
    rfl
  · have : perp b.1 s = true := by simp [perp, h1, q]
    rw [decide_eq_true (show (s, c).2 = b.2 from (h2 this).symm)]
    exact Bool.or_true _
theorem tr_last : ∀ {A B : List Li}, (∀ b ∈ B, comm (s, c) b = true) → Tr (A ++ (s, c) :: B) (A ++ B ++ [(s, c)])
  | A, [], _ => by rw [List.append_nil]; exact .refl
  | A, b :: B, hB => by
    have t1 : Tr (A ++ (s, c) :: b :: B) (A ++ b :: (s, c) :: B) := Tr.pre (.swap (hB b List.mem_cons_self)) A
    have t2 := tr_last (A := A ++ [b]) (B := B) fun q hq => hB q (List.mem_cons_of_mem _ hq)
    simp only [List.append_assoc, List.cons_append, List.nil_append] at t1 t2 ⊢
    exact .trans t1 t2
/-- a picture none of whose outermost lines has one colour -/
def Good (g : Grid) : Prop := ∀ s, ∃ a ∈ lineG s g, ∃ b ∈ lineG s g, a ≠ b
theorem good_line {y : List Li} (k : Rect h w g) (hh : 1 ≤ h) (hw : 1 ≤ w) (G : Good g) (hy : ∀ b ∈ y, b.1 ≠ s) (one : ∀ x ∈ lineG s (drG w g y), x = c) : False := by
  obtain ⟨a, ha, b, hb, ne⟩ := G s
  have a1 := one a ((line_dr k hh hw hy).mpr (.inr ha))
  have b1 := one b ((line_dr k hh hw hy).mpr (.inr hb))
  exact ne (a1.trans b1.symm)
/-- a drawn picture tells what is within, and the frame -/
theorem dr_inj : ∀ {n : Nat} {x y : List Li} {h w h' w' : Nat} {g g' : Grid}, x.length = n → Rect h w g → Rect h' w' g' → 1 ≤ h → 1 ≤ w → 1 ≤ h' → 1 ≤ w' → Good g → Good g' → drG w g x = drG w' g' y → g = g' ∧ Tr x y
  | 0, [], y, h, w, h', w', g, g', _, k, k', hh, hw, hh', hw', G, G', e => by
    rcases List.eq_nil_or_concat y with ey | ⟨ys, ⟨s, c⟩, ey⟩
    · subst ey
      exact ⟨e, .refl⟩
    · exfalso
      rw [List.concat_eq_append] at ey
      subst ey
      have e : g = drG w' g' (ys ++ [(s, c)]) := e
      refine good_line (s := s) (c := c) (y := []) k hh hw G (fun b hb => (List.not_mem_nil hb).elim) fun x hx => ?_
      have hx : x ∈ lineG s (drG w' g' (ys ++ (s, c) :: [])) := by
        have hx : x ∈ lineG s g := hx
        rw [e] at hx
        exact hx
      rcases (line_last k' hh' hw' (fun b hb => (List.not_mem_nil hb).elim)).mp hx with ⟨b, hb, _⟩ | q
      · exact (List.not_mem_nil hb).elim
      · exact q
  | n + 1, x, y, h, w, h', w', g, g', hn, k, k', hh, hw, hh', hw', G, G', e => by
    rcases List.eq_nil_or_concat x with ex | ⟨xs, ⟨s, c⟩, ex⟩
    · subst ex
      cases hn
    · rw [List.concat_eq_append] at ex
      subst ex
      rw [List.length_append, List.length_singleton] at hn
      have one : ∀ q ∈ lineG s (drG w' g' y), q = c := fun q hq => by
        rw [← e] at hq
        rcases (line_last (A := xs) (B := []) k hh hw (fun b hb => (List.not_mem_nil hb).elim)).mp hq with ⟨b, hb, _⟩ | q
        · exact (List.not_mem_nil hb).elim
        · exact q
      rcases split_last (s := s) (y := y) with ⟨A, c', B, ey, hB⟩ | hy
      · subst ey
        have ec : c' = c := one c' ((line_last k' hh' hw' hB).mpr (.inr rfl))
        subst ec
        have cB : ∀ b ∈ B, comm (s, c') b = true := fun b hb => comm_perp (hB b hb) fun p => one b.2 ((line_last k' hh' hw' hB).mpr (.inl ⟨b, hb, p, rfl⟩))
        have t := tr_last (A := A) cB
        have e2 : drG w g (xs ++ [(s, c')]) = drG w' g' (A ++ B ++ [(s, c')]) := e.trans (t.dr).1
        have c1 := (cut_dr (s := s) (ls := xs ++ [(s, c')]) rfl k hh hw).1
        have c2 := (cut_dr (s := s) (ls := A ++ B ++ [(s, c')]) rfl k' hh' hw').1
        have on : onS s (s, c') = true := decide_eq_true rfl
        rw [if_pos (by simp [on]), rmP_snoc, if_pos on] at c1 c2
        have e3 : drG w g xs = drG w' g' (A ++ B) := by
          rw [← c1, ← c2, e2]
        obtain ⟨eg, tr⟩ := dr_inj (n := n) (by omega) k k' hh hw hh' hw' G G' e3
        exact ⟨eg, .trans (tr.app [(s, c')]) t.symm⟩
      · exact (good_line k' hh' hw' G' hy one).elim
end TW

set_option Elab.async false
set_option linter.all false
set_option maxRecDepth 100000
set_option maxHeartbeats 4000000
/-! a large picture with unlike cells tells an effect's parts -/
namespace TW
open PySem PySem.Spec PyProof.Rows L2 DL FL PD TP TR TU
variable {h w H W : Nat} {g : Grid} {F G : Nat → Nat → Int} {e e' : Ee}
def Dis (h w : Nat) (F : Nat → Nat → Int) : Prop := ∀ i j i' j', i < h → j < w → i' < h → j' < w → F i j = F i' j' → i = i' ∧ j = j'
theorem good_mk (D : Dis h w F) (hh : 2 ≤ h) (hw : 2 ≤ w) : Good (mk h w F) := by
  obtain ⟨p, rfl⟩ : ∃ p, h = p + 2 := ⟨h - 2, by omega⟩
  obtain ⟨q, rfl⟩ : ∃ q, w = q + 2 := ⟨w - 2, by omega⟩
  have row : ∀ i, (List.range (q + 2)).map (fun j => F i j) = F i 0 :: F i 1 :: (List.range q).map fun j => F i (j + 2) := fun i => by
    rw [List.range_succ_eq_map, List.range_succ_eq_map]
    simp [List.map_map, Function.comp]
  have rowl : ∀ i, ((List.range (q + 2)).map fun j => F i j).getLastD 0 = F i (q + 1) := fun i => by
    rw [List.range_succ, List.map_append, List.map_singleton, getLastD_app]
  have ne : ∀ i j i' j', i < p + 2 → j < q + 2 → i' < p + 2 → j' < q + 2 → (i ≠ i' ∨ j ≠ j') → F i j ≠ F i' j' := fun i j i' j' a b c d n z => by
    have := D i j i' j' a b c d z
    omega
  have hd : ∀ f : Nat → List Int, ((List.range (p + 2)).map f).headD [] = f 0 := fun f => by
    rw [List.range_succ_eq_map]
    rfl
  have tl : ∀ f : Nat → List Int, ((List.range (p + 2)).map f).getLastD [] = f (p + 1) := fun f => by
    rw [List.range_succ, List.map_append, List.map_singleton, getLastD_app]
  intro s
  cases s with
  | top =>
    refine ⟨F 0 0, ?_, F 0 1, ?_, ne _ _ _ _ (by omega) (by omega) (by omega) (by omega) (by omega)⟩
    all_goals
      show _ ∈ ((List.range (p + 2)).map fun i => (List.range (q + 2)).map fun j => F i j).headD []
      rw [hd, row]
      simp
  | bottom =>
    refine ⟨F (p + 1) 0, ?_, F (p + 1) 1, ?_, ne _ _ _ _ (by omega) (by omega) (by omega) (by omega) (by omega)⟩
    all_goals
      show _ ∈ ((List.range (p + 2)).map fun i => (List.range (q + 2)).map fun j => F i j).getLastD []
      rw [tl, row]
      simp
  | left =>
    have lf : ∀ i, i < p + 2 → F i 0 ∈ ((List.range (p + 2)).map fun i => (List.range (q + 2)).map fun j => F i j).map fun r => r.headD 0 := fun i hi => by
      rw [List.map_map]
      refine List.mem_map.mpr ⟨i, List.mem_range.mpr hi, ?_⟩
      simp only [Function.comp]
      rw [row]
      rfl
    exact ⟨F 0 0, lf 0 (by omega), F 1 0, lf 1 (by omega), ne _ _ _ _ (by omega) (by omega) (by omega) (by omega) (by omega)⟩
  | right =>
    have lf : ∀ i, i < p + 2 → F i (q + 1) ∈ ((List.range (p + 2)).map fun i => (List.range (q + 2)).map fun j => F i j).map fun r => r.getLastD 0 := fun i hi => by
      rw [List.map_map]
      refine List.mem_map.mpr ⟨i, List.mem_range.mpr hi, ?_⟩
      simp only [Function.comp]
      rw [rowl]
    exact ⟨F 0 (q + 1), lf 0 (by omega), F 1 (q + 1), lf 1 (by omega), ne _ _ _ _ (by omega) (by omega) (by omega) (by omega) (by omega)⟩
end TW

set_option Elab.async false
set_option linter.all false
set_option maxRecDepth 100000
set_option maxHeartbeats 4000000
/-! lines drawn around a core of two by two -/
namespace TX
open PySem PySem.Spec PyProof.Rows L2 DL FL PD PE TP TR TV TU
open TW (Ee EOk cmp effE)
variable {h w : Nat} {g : Grid}
theorem cur_up {ls : List Li} (k : Rect h w g) : TW.cur ⟨0, false, fun _ => 0, ls⟩ h w g = TW.drG w g ls := by
  obtain ⟨c1, c2, c3⟩ := TW.cur_zero k
  have e1 : TW.wX ⟨0, false, fun _ => 0, ls⟩ h w = w := by first | exact c1 | exact c2 | exact c3
  have e2 : TW.inX ⟨0, false, fun _ => 0, ls⟩ h w g = g := by first | exact c1 | exact c2 | exact c3
  unfold TW.cur
  rw [e1, e2]
/-- what a sequence of lines makes of the core -/
def sh (ls : List Li) : Grid := TW.drG 2 (numG 2 2 100) ls
theorem num2_mk : numG 2 2 100 = TW.mk 2 2 fun i j => 100 + (i : Int) * 2 + (j : Int) := rfl
theorem num2_dis : TW.Dis 2 2 fun i j => 100 + (i : Int) * 2 + (j : Int) := fun i j i' j' _ hj _ hj' e => by
  dsimp only at e
  omega
theorem num2_good : TW.Good (numG 2 2 100) := by
  rw [num2_mk]
  exact TW.good_mk num2_dis (by decide) (by decide)
theorem num2_grd : Grd 2 2 (numG 2 2 100) := num_grd (by decide) (by decide) (by decide) (by decide) (by decide)
theorem sh_iff {a b : List Li} : sh a = sh b ↔ leastO a = leastO b := by
  constructor
  · intro e
    exact (TW.dr_inj rfl num2_grd.r num2_grd.r (by decide) (by decide) (by decide) (by decide) num2_good num2_good e).2.leastO
  · intro e
    have d1 := (TW.leastO_tr (ls := a)).dr (w := 2) (g := numG 2 2 100)
    have d2 := (TW.leastO_tr (ls := b)).dr (w := 2) (g := numG 2 2 100)
    unfold sh
    rw [d1.1, d2.1, e]
theorem sh_least {a : List Li} : sh (leastO a) = sh a := sh_iff.mpr TW.leastO_idem
theorem adds_zero {ls : List Li} : Ee.zero.run (ls.map fun q => TP.Sp.add q.1 q.2) = ⟨0, false, fun _ => 0, ls⟩ := adds_run
theorem adds_ok {ls : List Li} (h : ∀ q ∈ ls, 0 ≤ q.2) : ∀ p ∈ ls.map fun q => TP.Sp.add q.1 q.2, okS p = true := fun p hp => by
  obtain ⟨q, hq, rfl⟩ := List.mem_map.mp hp
  exact decide_eq_true (h q hq)
theorem run_sh {ls : List Li} : runA 2 2 (numG 2 2 100) (ls.map fun q => TP.Sp.add q.1 q.2) = some (sh ls) := by
  have c : 1 ≤ TW.coreH (TW.nE (Ee.zero.run (ls.map fun q => TP.Sp.add q.1 q.2))) 2 ∧ 1 ≤ TW.coreW (TW.nE (Ee.zero.run (ls.map fun q => TP.Sp.add q.1 q.2))) 2 := by
    rw [adds_zero]
    exact ⟨show 1 ≤ 2 by decide, show 1 ≤ 2 by decide⟩
  have r := runA_eff num2_grd.r c.1 c.2
  rw [r, adds_zero, cur_up num2_grd.r]
  rfl
end TX

set_option Elab.async false
set_option linter.all false
set_option maxRecDepth 100000
set_option maxHeartbeats 8000000
namespace K09
open PySem PySem.Spec PyProof.Rows L2 DL FL PD PE PA TP TR TQ TV TU TX
local macro_rules | `(tactic| walk_at "g1") => `(tactic| first
  | with_reducible refine wp_dget ?_
  | with_reducible refine wp_din ?_
  | with_reducible refine wp_dput ?_
  | with_reducible refine wp_daug ?_
  | with_reducible refine wp_tru ?_
  | with_reducible refine wp_pop ?_
  | with_reducible refine wp_pop0 ?_
  | ((with_reducible apply wp_augN); (exact rfl))
  | with_reducible refine wp_disp ?_
  | with_reducible refine wp_pairs0 ?_
  | with_reducible refine wp_pairs ?_
  | with_reducible refine wp_call0 ?_ ?_
  | with_reducible refine wp_frz ?_
  | with_reducible refine wp_app ?_
  | with_reducible refine wp_make0 rfl ?_)
local macro_rules | `(tactic| walk_at "g1") => `(tactic| first
  | with_reducible refine wp_cmeth ?_
  | ((with_reducible apply wp_makeL); (exact rfl))
  | with_reducible refine wp_star ?_
  | with_reducible refine wp_lenO ?_
  | with_reducible refine gw_starT ?_
  | with_reducible refine gw_starL ?_)
local macro_rules | `(tactic| walk_at "g1") => `(tactic| first
  | with_reducible refine wp_neI ?_
  | with_reducible refine wp_eqO ?_
  | with_reducible refine wp_callV ?_
  | with_reducible refine wp_callV0 ?_
  | with_reducible refine wp_tryO ?_
  | with_reducible refine wp_bits ?_
  | with_reducible refine wp_iRv ?_
  | with_reducible refine wp_lrg ?_
  | with_reducible refine wp_cmethK ?_
  | with_reducible refine wp_popI ?_
  | with_reducible refine wp_lstC ?_)
variable {st : FL.St} {Q : D → FL.St → Prop} {X : Exn → FL.St → Prop} {n : Nat}
theorem shown_e {ls : List Li} (h : ∀ q ∈ ls, 0 ≤ q.2) (hl : ls.length ≤ 100) : e_l_shown [.lst (ls.map liD)] st = .ok (lG (sh ls)) st := by
  refine Res.eq_wp (wp_body0 ?_)
  unfold p_l_shown
  walk_at "g"
  refine Res.wp_eq (num_e (h := 2) (w := 2) (F := 100) (by decide) (by decide)) ?_
  walk_at "g"
  refine wp_lc_map (enc := liD) (xs := ls) (fun q => (TP.Sp.add q.1 q.2).d) (by omega) (fun q hq => ?_) ?_
  · have o : oAdd (.tup [.str "add"]) (liD q) = some ((TP.Sp.add q.1 q.2).d) := rfl
    refine ⟨_, rfl, ?_⟩
    walk_at "g"
    exact ⟨rfl, rfl⟩
  have e1 : (ls.map fun q => (TP.Sp.add q.1 q.2).d) = (ls.map fun q => TP.Sp.add q.1 q.2).map TP.Sp.d := by rw [List.map_map]; rfl
  rw [e1]
  obtain ⟨u, e⟩ := lrun_e (st := st) (t := false) (ps := ls.map fun q => TP.Sp.add q.1 q.2) num2_grd (adds_ok h) (by rw [List.length_map]; show 2 + _ ≤ 1000; omega)
  rw [run_sh] at e
  have ix : oIx (.lst [optD (some (sh ls)), u]) (.int 0) = some (lG (sh ls)) := oIx_l0
  walk_at "g"
  refine Res.wp_eq e ?_
  walk_at "g"
  exact ⟨rfl, rfl, rfl⟩
/-! texts of lines -/
theorem lines_repr {ls : List Li} (h : ∀ q ∈ ls, 0 ≤ q.2 ∧ q.2 < 1000) (hl : ls.length ≤ 100) : ∃ y, shown? (.lst (ls.map liD)) = some y ∧ y.length ≤ 10000 ∧ PyData.strOk y = true := by
  have one : ∀ q ∈ ls, okR 19 (liD q) = true ∧ lenR (liD q) ≤ 60 := fun q hq => by
    obtain ⟨a, b⟩ := h q hq
    have o := okR_int (n := 18) a (show q.2 < 10000000000000000000000000000000000000000 by omega)
    have l := lenR_int a (show q.2 < 10000000000000000000000000000000000000000 by omega)
    obtain ⟨s, c⟩ := q
    have t : okR 18 s.d = true ∧ lenR s.d ≤ 8 := by cases s <;> exact ⟨by decide +kernel, by decide +kernel⟩
    constructor
    · show okRL 18 [s.d, .int c] = true
      simp only [okRL, Bool.and_eq_true]
      exact ⟨t.1, o, trivial⟩
    · show 3 + (lenR s.d + 2 + (lenR (.int c) + 2 + 0)) ≤ 60
      dsimp only at l
      omega
  have ok : okR 20 (.lst (ls.map liD)) = true := okRL_map fun q hq => (one q hq).1
  have len : lenR (.lst (ls.map liD)) ≤ 10000 := by
    have := lenL_map (f := liD) (xs := ls) (B := 60) fun q hq => (one q hq).2
    show 3 + lenL (ls.map liD) ≤ 10000
    have := Nat.mul_le_mul_right 62 hl
    omega
  obtain ⟨p, q⟩ := okR_s ok
  have l := q.len
  refine ⟨p.shown, ?_, by omega, q.ok⟩
  have dp := q.dp
  have s : sizeLine = 16777216 := rfl
  unfold shown?
  rw [q.to]
  dsimp only
  rw [if_pos ⟨q.sh, by omega, by omega⟩]
variable {g : Grid}
theorem pl_lR {n : Nat} : ∀ {r : List Int}, FL.plL n (r.map D.int) = true
  | [] => by simp [FL.plL]
  | c :: r => by
    have := pl_lR (n := n) (r := r)
    simp [FL.plL, FL.plD, this]
theorem pl_lG {n : Nat} : ∀ {g : Grid}, FL.plL (n + 1) (g.map lR) = true
  | [] => by simp [FL.plL]
  | r :: g => by
    have := pl_lG (n := n) (g := g)
    have h2 := pl_lR (n := n) (r := r)
    simp [FL.plL, FL.plD, lR, h2] at this ⊢
    exact this
theorem pl_lG2 : FL.plD 20 (lG g) = true := by
  have := pl_lG (n := 18) (g := g)
  simpa [FL.plD, lG] using this
theorem deq_ints : ∀ {r s : List Int}, deqL (r.map D.int) (s.map D.int) = decide (r = s)
  | [], [] => by simp [deqL]
  | [], _ :: _ => by simp [deqL]
  | _ :: _, [] => by simp [deqL]
  | a :: r, b :: s => by
    have ih := deq_ints (r := r) (s := s)
    simp only [List.map_cons, deqL, deq, ih]
    by_cases h : a = b <;> by_cases k : r = s <;> simp [h, k]
theorem deq_rows : ∀ {g k : Grid}, deqL (g.map lR) (k.map lR) = decide (g = k)
  | [], [] => by simp [deqL]
  | [], _ :: _ => by simp [deqL]
  | _ :: _, [] => by simp [deqL]
  | a :: r, b :: s => by
    have ih := deq_rows (g := r) (k := s)
    have e : deq (lR a) (lR b) = decide (a = b) := by
      show deq (.lst (a.map D.int)) (.lst (b.map D.int)) = _
      rw [← deq_ints]
      simp only [deq]
    simp only [List.map_cons, deqL, e, ih]
    by_cases h : a = b <;> by_cases k : r = s <;> simp [h, k]
theorem oEq_lG {g k : Grid} : oEq (lG g) (lG k) = some (.bl (decide (g = k))) := by
  rw [oEq_pl pl_lG2 pl_lG2]
  show some (D.bl (deq (.lst (g.map lR)) (.lst (k.map lR)))) = _
  rw [← deq_rows]
  simp only [deq]
theorem strOk_app {a b : Str} (h : PyData.strOk a = true) (k : PyData.strOk b = true) : PyData.strOk (a ++ b) = true := by
  unfold PyData.strOk at h k ⊢
  rw [Str.cps_append, Array.all_append, h, k]
  rfl
end K09

set_option Elab.async false
set_option linter.all false
set_option maxRecDepth 100000
set_option maxHeartbeats 8000000
namespace K09
open PySem PySem.Spec PyProof.Rows L2 DL FL PD PE PA TP TR TQ TV TU TX
local macro_rules | `(tactic| walk_at "g1") => `(tactic| first
  | with_reducible refine wp_dget ?_
  | with_reducible refine wp_din ?_
  | with_reducible refine wp_dput ?_
  | with_reducible refine wp_daug ?_
  | with_reducible refine wp_tru ?_
  | with_reducible refine wp_pop ?_
  | with_reducible refine wp_pop0 ?_
  | ((with_reducible apply wp_augN); (exact rfl))
  | with_reducible refine wp_disp ?_
  | with_reducible refine wp_pairs0 ?_
  | with_reducible refine wp_pairs ?_
  | with_reducible refine wp_call0 ?_ ?_
  | with_reducible refine wp_frz ?_
  | with_reducible refine wp_app ?_
  | with_reducible refine wp_make0 rfl ?_)
local macro_rules | `(tactic| walk_at "g1") => `(tactic| first
  | with_reducible refine wp_cmeth ?_
  | ((with_reducible apply wp_makeL); (exact rfl))
  | with_reducible refine wp_star ?_
  | with_reducible refine wp_lenO ?_
  | with_reducible refine gw_starT ?_
  | with_reducible refine gw_starL ?_)
local macro_rules | `(tactic| walk_at "g1") => `(tactic| first
  | with_reducible refine wp_neI ?_
  | with_reducible refine wp_eqO ?_
  | with_reducible refine wp_callV ?_
  | with_reducible refine wp_callV0 ?_
  | with_reducible refine wp_tryO ?_
  | with_reducible refine wp_bits ?_
  | with_reducible refine wp_iRv ?_
  | with_reducible refine wp_lrg ?_
  | with_reducible refine wp_cmethK ?_
  | with_reducible refine wp_popI ?_
  | with_reducible refine wp_lstC ?_)
variable {st : FL.St} {Q : D → FL.St → Prop} {X : Exn → FL.St → Prop} {n : Nat}
theorem cut_to {r : List D} {k : Nat} (h : k ≤ r.length) : DL.cutD r none (some (k : Int)) = r.take k := by
  unfold DL.cutD
  rw [HT.sIx_none, HT.sIx_nat, Nat.min_eq_left h, Nat.sub_zero, List.drop_zero]
theorem cut_from {r : List D} {k : Nat} : DL.cutD r (some (k : Int)) none = r.drop k := by
  unfold DL.cutD
  rw [HT.sIx_none, HT.sIx_nat]
  by_cases h : k ≤ r.length
  · rw [Nat.min_eq_left h, List.take_of_length_le (by rw [List.length_drop]; exact Nat.le_refl _)]
  · rw [Nat.min_eq_right (by omega), List.drop_length, List.drop_eq_nil_of_le (by omega)]
    exact List.take_nil
theorem frepr_e {ls : List Li} {y : Str} (h : shown? (.lst (ls.map liD)) = some y) (hl : y.length ≤ 10000) : e_Frame_repr_ [frD ls] st = .ok (.str ((Str.ofString "Frame(" ++ y) ++ Str.ofString ")")) st := by
  have l1 : (Str.ofString "Frame(").length = 6 := by decide +kernel
  have l2 : (Str.ofString ")").length = 1 := by decide +kernel
  have e0 : Str.empty ++ Str.ofString "Frame(" = Str.ofString "Frame(" := by decide +kernel
  have s : sizeLine = 16777216 := rfl
  refine Res.eq_wp (wp_body0 ?_)
  unfold p_Frame_repr_
  walk_at "g"
  refine wp_js_cons ?_
  walk_at "g"
  refine ⟨_, rfl, by rw [e0, l1, s]; decide, ?_⟩
  rw [e0]
  refine wp_js_cons ?_
  have ll : lListF [.tup (ls.map liD)] = some (.lst (ls.map liD)) := rfl
  refine wp_show ?_
  walk_at "g"
  refine ⟨y, h, ?_⟩
  refine ⟨_, rfl, by rw [Str.length_append, l1, s]; omega, ?_⟩
  refine wp_js_cons ?_
  walk_at "g"
  refine ⟨_, rfl, by rw [Str.length_append, Str.length_append, l1, l2, s]; omega, ?_⟩
  exact wp_js_nil ⟨rfl, rfl, rfl⟩
theorem erase_map {α β : Type} {f : α → β} : ∀ {l : List α} {i : Nat}, (l.map f).eraseIdx i = (l.eraseIdx i).map f
  | [], _ => rfl
  | _ :: _, 0 => rfl
  | a :: l, i + 1 => congrArg (f a :: ·) (erase_map (l := l) (i := i))
theorem loop_wp {ρ : Rho} {N : Rho → FL.St → Prop} {R : D → FL.St → Prop} {B C : Rho → FL.St → Prop} {E : Exn → Rho → FL.St → Prop} {m : Nat} (r5 : ρ[5]? = some (some (.loc m))) (r6 : ρ[6]? = some (some (.loc (m + 1)))) (r0 : ρ[0]? = some (some (.loc n))) :
    ∀ (k i : Nat) (left found : List Li) (S : FL.St), left.length = k → k < i → k + found.length ≤ 100 → S.length = m → PoolAt n S → (∀ q ∈ left, 0 ≤ q.2 ∧ q.2 < 1000) → (∀ q ∈ found, 0 ≤ q.2 ∧ q.2 < 1000) →
      (∀ (f' : List Li) (S' : FL.St), S'.length = m → PoolAt n S' → (∀ q ∈ f', 0 ≤ q.2 ∧ q.2 < 1000) → f'.length = k + found.length → N ρ (S' ++ [some (.lst []), some (.lst (f'.map liD))])) →
      (fWhileGo (fTest (fEqO true (fVar 5) (fLst fNil))) (fDrop (fApp (fVar 6) (fPopI (fVar 5) (fCall e_l_draw 2 [] (fCons (fVar 0) (fCons (fLenO (fVar 5)) fNil)))))) i ρ (S ++ [some (.lst (left.map liD)), some (.lst (found.map liD))])).wp ⟨N, R, B, C, E⟩ := by
  intro k
  induction k with
  | zero =>
    intro i left found S hk hi hb hS hp hl hf kk
    obtain rfl : left = [] := List.length_eq_zero_iff.mp hk
    obtain ⟨j, rfl⟩ : ∃ j, i = j + 1 := ⟨i - 1, by omega⟩
    refine wp_while1 ?_
    walk_at "g"
    refine wp_var r5 ?_
    walk_at "g"
    have a5 : (S ++ [some (DO.lst (List.map liD [])), some (.lst (found.map liD))])[m]? = some (some (DO.lst (List.map liD []))) := by rw [← hS]; exact ap_at0
    rw [peek_loc a5]
    have eq : oEqP true (DO.lst (List.map liD [])).tree (peek (S ++ [some (DO.lst (List.map liD [])), some (.lst (found.map liD))]) (.lst [])) = some (.bl false) := (oEqP_pl rfl rfl).trans rfl
    refine ⟨_, eq, _, rfl, fun z => absurd z (by decide), fun _ => ?_⟩
    exact kk found S hS hp hf (by omega)
  | succ k ih =>
    intro i left found S hk hi hb hS hp hl hf kk
    obtain ⟨j, rfl⟩ : ∃ j, i = j + 1 := ⟨i - 1, by omega⟩
    refine wp_while1 ?_
    walk_at "g"
    refine wp_var r5 ?_
    walk_at "g"
    have a5 : (S ++ [some (DO.lst (left.map liD)), some (.lst (found.map liD))])[m]? = some (some (DO.lst (left.map liD))) := by rw [← hS]; exact ap_at0
    rw [peek_loc a5]
    obtain ⟨q, r, rfl⟩ : ∃ q r, left = q :: r := by
      cases left with
      | nil => simp at hk
      | cons q r => exact ⟨q, r, rfl⟩
    have plq : ∀ {L : List Li}, FL.plD 20 (.lst (L.map liD)) = true := fun {L} => by
      show FL.plL 19 (L.map liD) = true
      exact plL_map fun q _ => by
        obtain ⟨s, c⟩ := q
        cases s <;> simp [liD, FL.plD, FL.plL] <;> decide +kernel
    have eq : oEqP true (DO.lst ((q :: r).map liD)).tree (peek (S ++ [some (DO.lst ((q :: r).map liD)), some (.lst (found.map liD))]) (.lst [])) = some (.bl true) := (oEqP_pl plq rfl).trans (by simp [deq, deqL, DO.tree, peek])
    refine ⟨_, eq, _, rfl, fun _ => ?_, fun z => absurd z (by decide)⟩
    walk_at "g"
    have a6 : ∀ {S : FL.St} {x y : Option DO}, S.length = m → (S ++ [x, y])[m + 1]? = some y := fun {S x y} h => by
      rw [← h, ap_at]
      rfl
    have a5' : ∀ {S : FL.St} {x y : Option DO}, S.length = m → (S ++ [x, y])[m]? = some x := fun {S x y} h => by
      rw [← h]
      exact ap_at0
    have s5 : ∀ {S : FL.St} {x y z : Option DO}, S.length = m → (S ++ [x, y]).set m z = S ++ [z, y] := fun {S x y z} h => by
      rw [← h]
      exact ap_set0
    have s6 : ∀ {S : FL.St} {x y z : Option DO}, S.length = m → (S ++ [x, y]).set (m + 1) z = S ++ [x, z] := fun {S x y z} h => by
      rw [← h]
      exact ap_set
    refine wp_var r6 ?_
    refine ⟨_, _, rfl, a6 hS, ?_⟩
    refine wp_popI ?_
    refine wp_var r5 ?_
    refine ⟨_, rfl, ⟨_, a5' hS⟩, ?_⟩
    walk_at "g"
    refine wp_var r0 ?_
    walk_at "g"
    refine wp_var r5 ?_
    refine ⟨_, _, rfl, a5' hS, ?_⟩
    walk_at "g"
    obtain ⟨pa, pb, pe⟩ := hp.at'
    have lt : n < S.length := hp.lt
    have lq : (((q :: r).map liD).length : Int) = (k : Int) + 1 := by
      rw [List.length_map, hk]
      omega
    rw [lq]
    refine draw_wp (a := pa) (b := pb) (by rw [List.getElem?_append_left lt]; exact pe) (by omega) (by omega) fun x a' b' x0 x1 => ?_
    rw [TS.ap_setL pe]
    have hS' : (S.set n (po a' b')).length = m := by rw [List.length_set]; exact hS
    have hp' : PoolAt n (S.set n (po a' b')) := hp.set
    generalize S.set n (po a' b') = S2 at hS' hp' ⊢
    obtain ⟨at', rfl⟩ := Int.eq_ofNat_of_zero_le x0
    have lx : at' < (q :: r).length := by rw [hk]; omega
    have gx : ((q :: r).map liD)[((at' : Nat) : Int).toNat]? = some (liD (q :: r)[at']) := by
      rw [Int.toNat_natCast, List.getElem?_map, List.getElem?_eq_getElem lx]
      rfl
    refine ⟨_, _, _, rfl, a5' hS', ⟨by omega, by omega⟩, gx, ?_⟩
    rw [s5 hS']
    refine ⟨_, a6 hS', by rw [List.length_map, sizeLine_e]; omega, ?_⟩
    rw [s6 hS', Int.toNat_natCast]
    have e1 : ((q :: r).map liD).eraseIdx at' = ((q :: r).eraseIdx at').map liD := by
      exact erase_map
    have e2 : found.map liD ++ [liD (q :: r)[at']] = (found ++ [(q :: r)[at']]).map liD := by
      rw [List.map_append]
      rfl
    rw [e1, e2]
    refine ih j ((q :: r).eraseIdx at') (found ++ [(q :: r)[at']]) S2 ?_ (by omega) (by rw [List.length_append, List.length_singleton]; omega) hS' hp' (fun z hz => hl z (List.mem_of_mem_eraseIdx hz)) (fun z hz => ?_) fun f' S' h1 h2 h3 h4 => kk f' S' h1 h2 h3 (by rw [List.length_append, List.length_singleton] at h4; omega)
    · rw [List.length_eraseIdx, if_pos lx, hk]
      rfl
    · rcases List.mem_append.mp hz with hz | hz
      · exact hf z hz
      · rw [List.mem_singleton.mp hz]
        exact hl _ (List.getElem_mem lx)
theorem changed_wp {ls : List Li} {c : Int} (hp : PoolAt n st) (h : ∀ q ∈ ls, 0 ≤ q.2 ∧ q.2 < 1000) (hl : ls.length ≤ 50) (c1 : 1 ≤ c) (c3 : c ≤ 10) (k : ∀ (ls' : List Li) s', PoolAt n s' → (∀ q ∈ ls', 0 ≤ q.2 ∧ q.2 < 1000) → ls'.length ≤ ls.length + 1 → Q (.lst (ls'.map liD)) s') : (e_l_changed [.loc n, .lst (ls.map liD), .int c] st).wp Q X := by
  have mem_take : ∀ {i : Nat}, ∀ q ∈ ls.take i, 0 ≤ q.2 ∧ q.2 < 1000 := fun q hq => h q (List.mem_of_mem_take hq)
  have mem_drop : ∀ {i : Nat}, ∀ q ∈ ls.drop i, 0 ≤ q.2 ∧ q.2 < 1000 := fun q hq => h q (List.mem_of_mem_drop hq)
  have nl : ∀ {L : List Li}, noLoc (.lst (L.map liD)) = true := fun {L} => by
    show noLocL (L.map liD) = true
    rw [noLocL_all]
    intro d hd
    obtain ⟨⟨s, c⟩, _, rfl⟩ := List.mem_map.mp hd
    cases s <;> rfl
  refine wp_body ?_
  unfold p_l_changed
  have hlen : lLen [.lst (ls.map liD)] = some (.int ((ls.length : Nat) : Int)) := by
    show some (D.int (((ls.map liD).length : Nat) : Int)) = _
    rw [List.length_map]
  walk_at "g"
  refine drawP hp (by omega) (by omega) fun at' s1 b1 at0 at1 => ?_
  obtain ⟨a, rfl⟩ := Int.eq_ofNat_of_zero_le at0
  walk_at "g"
  refine drawP b1.p (by decide) (by decide) fun ch s2 b2 ch0 ch5 => ?_
  walk_at "g"
  refine ⟨_, _, rfl, ?_⟩
  have sl : s2.length = st.length := b2.l.trans b1.l
  have t1 : DL.cutD (ls.map liD) none (some (a : Int)) = (ls.take a).map liD := by
    rw [cut_to (by rw [List.length_map]; omega), List.map_take]
  have t2 : ∀ {i : Nat}, DL.cutD (ls.map liD) (some (i : Int)) none = (ls.drop i).map liD := fun {i} => by
    rw [cut_from, List.map_drop]
  have add : ∀ {x y : List Li}, x.length + y.length ≤ 1000 → oAdd (.lst (x.map liD)) (.lst (y.map liD)) = some (.lst ((x ++ y).map liD)) := fun {x y} h => by
    rw [List.map_append]
    exact oAdd_ll (by rw [List.length_map, List.length_map]; omega)
  refine wp_seq ?_
  refine wp_meet (fun ρ s => s = s2 ∧ ρ = [some (.loc n), some (.lst (ls.map liD)), some (.int c), some (.int (a : Nat)), some (.int ch), none, none]) ?_ ?_
  · walk_at "g"
    refine ⟨fun _ => ?_, fun _ => ?_⟩
    · walk_at "g"
      refine ⟨fun hlt => ?_, fun _ => ?_⟩
      · have lt : a + 1 < ls.length := by
          have := of_decide_eq_true hlt
          omega
        have ix1 : oIx (.lst (ls.map liD)) (.int ((a : Int) + 1)) = some (liD ls[a + 1]) := by
          rw [show ((a : Int) + 1) = ((a + 1 : Nat) : Int) by omega]
          exact oIx_lst.trans ((at_nat (by rw [List.length_map]; omega)).trans (by rw [List.getElem_map]))
        have ix0 : oIx (.lst (ls.map liD)) (.int (a : Nat)) = some (liD (ls[a]'(by omega))) := by
          exact oIx_lst.trans ((at_nat (by rw [List.length_map]; omega)).trans (by rw [List.getElem_map]))
        have o1 : oAdd (.lst (DL.cutD (ls.map liD) none (some (a : Int)))) (.lst [liD ls[a + 1], liD (ls[a]'(by omega))]) = some (.lst ((ls.take a ++ [ls[a + 1], ls[a]'(by omega)]).map liD)) := by
          rw [t1]
          exact add (y := [ls[a + 1], ls[a]'(by omega)]) (by rw [List.length_take]; show _ + 2 ≤ _; omega)
        have o2 : oAdd (.lst ((ls.take a ++ [ls[a + 1], ls[a]'(by omega)]).map liD)) (.lst (DL.cutD (ls.map liD) (some ((a : Int) + 2)) none)) = some (.lst ((ls.take a ++ [ls[a + 1], ls[a]'(by omega)] ++ ls.drop (a + 2)).map liD)) := by
          have := t2 (i := a + 2)
          rw [show ((a + 2 : Nat) : Int) = (a : Int) + 2 by omega] at this
          rw [this]
          exact add (by rw [List.length_append, List.length_take, List.length_drop]; show (_ + 2) + _ ≤ _; omega)
        walk_at "g"
        rw [gcF_len sl]
        refine k _ _ b2.p (fun q hq => ?_) (by simp only [List.length_append, List.length_take, List.length_drop, List.length_cons, List.length_nil]; omega)
        rcases List.mem_append.mp hq with hq | hq
        · rcases List.mem_append.mp hq with hq | hq
          · exact mem_take q hq
          · simp only [List.mem_cons, List.not_mem_nil, or_false] at hq
            rcases hq with rfl | rfl
            · exact h _ (List.getElem_mem _)
            · exact h _ (List.getElem_mem _)
        · exact mem_drop q hq
      · walk_at "g"
        exact ⟨rfl, rfl⟩
    · walk_at "g"
      exact ⟨rfl, rfl⟩
  · rintro ρ s ⟨rfl, rfl⟩
    refine wp_seq ?_
    refine wp_meet (fun ρ s' => s' = s ∧ ρ = [some (.loc n), some (.lst (ls.map liD)), some (.int c), some (.int (a : Nat)), some (.int ch), none, none]) ?_ ?_
    · walk_at "g"
      refine ⟨fun _ => ?_, fun _ => ?_⟩
      · walk_at "g"
        refine drawP b2.p (by decide) (by decide) fun x s3 b3 x0 x2 => ?_
        walk_at "g"
        refine rlinesP b3.p x0 (by omega) (by omega) (by omega) fun L s4 b4 hL lL => ?_
        have o3 : oAdd (.lst (DL.cutD (ls.map liD) none (some (a : Int)))) (.lst (L.map liD)) = some (.lst ((ls.take a ++ L).map liD)) := by
          rw [t1]
          exact add (by rw [List.length_take]; omega)
        have o4 : oAdd (.lst ((ls.take a ++ L).map liD)) (.lst (DL.cutD (ls.map liD) (some ((a : Int) + 1)) none)) = some (.lst ((ls.take a ++ L ++ ls.drop (a + 1)).map liD)) := by
          have := t2 (i := a + 1)
          rw [show ((a + 1 : Nat) : Int) = (a : Int) + 1 by omega] at this
          rw [this]
          exact add (by rw [List.length_append, List.length_take, List.length_drop]; omega)
        walk_at "g"
        rw [gcF_len (b4.l.trans (b3.l.trans sl))]
        refine k _ _ b4.p (fun q hq => ?_) (by simp only [List.length_append, List.length_take, List.length_drop]; omega)
        rcases List.mem_append.mp hq with hq | hq
        · rcases List.mem_append.mp hq with hq | hq
          · exact mem_take q hq
          · have := hL q hq
            exact ⟨this.1, by omega⟩
        · exact mem_drop q hq
      · walk_at "g"
        exact ⟨rfl, rfl⟩
    · rintro ρ s' ⟨rfl, rfl⟩
      walk_at "g"
      refine ⟨_, _, rfl, ?_⟩
      walk_at "g"
      refine wp_while ?_
      have es : s' ++ [some (DO.lst (ls.map liD))] ++ [some (DO.lst [])] = s' ++ [some (DO.lst (ls.map liD)), some (DO.lst (([] : List Li).map liD))] := by
        rw [List.append_assoc]
        rfl
      have el : (s' ++ [some (DO.lst (ls.map liD))]).length = s'.length + 1 := by rw [List.length_append]; rfl
      rw [es, el]
      refine loop_wp (n := n) (m := s'.length) rfl rfl rfl ls.length 1000000 ls [] s' rfl (by omega) (by show ls.length + 0 ≤ 100; omega) rfl b2.p h (fun q hq => (List.not_mem_nil hq).elim) fun f' S' h1 h2 h3 h4 => ?_
      have a6 : (S' ++ [some (DO.lst []), some (DO.lst (f'.map liD))])[s'.length + 1]? = some (some (DO.lst (f'.map liD))) := by
        rw [← h1, ap_at]
        rfl
      have s6 : (S' ++ [some (DO.lst []), some (DO.lst (f'.map liD))]).set (s'.length + 1) none = S' ++ [some (DO.lst []), none] := by
        rw [← h1]
        exact ap_set
      walk_at "g"
      refine ⟨_, _, rfl, a6, ?_⟩
      rw [s6]
      have e3 : gcF st.length (noLoc (DO.lst (f'.map liD)).tree) (S' ++ [some (DO.lst []), none]) = S' := by
        rw [show noLoc (DO.lst (f'.map liD)).tree = true from nl, ← sl, ← h1]
        exact gcF_clean h2.cl
      rw [e3]
      exact k f' S' h2 h3 (by have z : ([] : List Li).length = 0 := rfl; omega)
end K09

set_option Elab.async false
set_option linter.all false
set_option maxRecDepth 100000
set_option maxHeartbeats 8000000
namespace K09
open PySem PySem.Spec PyProof.Rows L2 DL FL PD PE PA TP TR TQ TV TU TX
local macro_rules | `(tactic| walk_at "g1") => `(tactic| first
  | with_reducible refine wp_dget ?_
  | with_reducible refine wp_din ?_
  | with_reducible refine wp_dput ?_
  | with_reducible refine wp_daug ?_
  | with_reducible refine wp_tru ?_
  | with_reducible refine wp_pop ?_
  | with_reducible refine wp_pop0 ?_
  | ((with_reducible apply wp_augN); (exact rfl))
  | with_reducible refine wp_disp ?_
  | with_reducible refine wp_pairs0 ?_
  | with_reducible refine wp_pairs ?_
  | with_reducible refine wp_call0 ?_ ?_
  | with_reducible refine wp_frz ?_
  | with_reducible refine wp_app ?_
  | with_reducible refine wp_make0 rfl ?_)
local macro_rules | `(tactic| walk_at "g1") => `(tactic| first
  | with_reducible refine wp_cmeth ?_
  | ((with_reducible apply wp_makeL); (exact rfl))
  | with_reducible refine wp_star ?_
  | with_reducible refine wp_lenO ?_
  | with_reducible refine gw_starT ?_
  | with_reducible refine gw_starL ?_)
local macro_rules | `(tactic| walk_at "g1") => `(tactic| first
  | with_reducible refine wp_neI ?_
  | with_reducible refine wp_eqO ?_
  | with_reducible refine wp_callV ?_
  | with_reducible refine wp_callV0 ?_
  | with_reducible refine wp_tryO ?_
  | with_reducible refine wp_bits ?_
  | with_reducible refine wp_iRv ?_
  | with_reducible refine wp_lrg ?_
  | with_reducible refine wp_cmethK ?_
  | with_reducible refine wp_popI ?_
  | with_reducible refine wp_lstC ?_)
variable {st : FL.St}
theorem feq_x {ls : List Li} {ds : List D} : e_Frame_eq_ [frD ls, .lst ds] st = .ok (.bl false) st := by
  refine Res.eq_wp (wp_body0 ?_)
  unfold p_Frame_eq_
  walk_at "g"
  exact ⟨rfl, rfl, rfl⟩
theorem law_m : ∀ ns : List Int, ns.length ≤ 63 → ∃ s1, e_law [.frz (ns.map D.int)] [] = .ok (.bl true) s1 := by
  intro ns _
  have fin : (e_law [.frz (ns.map D.int)] []).wp (fun d s => d = .bl true) noX → ∃ s1, e_law [.frz (ns.map D.int)] [] = .ok (.bl true) s1 := fun h => by
    obtain ⟨a, s, e, rfl⟩ := Res.ok_wp h
    exact ⟨s, e⟩
  refine fin (wp_body ?_)
  unfold p_law
  have hl : lLen [.frz (ns.map D.int)] = some (.int ((ns.length : Nat) : Int)) := by
    show some (D.int (((ns.map D.int).length : Nat) : Int)) = _
    rw [List.length_map]
  obtain ⟨m, hm, m8⟩ : ∃ m : Int, lMin [.int ((ns.length : Nat) : Int), .int 8] = some (.int m) ∧ m ≤ 8 := by
    refine ⟨_, rfl, ?_⟩
    split <;> omega
  obtain ⟨j, hj, j1, j8⟩ : ∃ j : Int, lMax [.int 1, .int m] = some (.int j) ∧ 1 ≤ j ∧ j ≤ 8 := by
    refine ⟨_, rfl, ?_⟩
    split <;> omega
  walk_at "g"
  refine wp_for_inv (enc := fun i : Nat => D.int (0 + i)) (xs := List.range j.toNat) (fun pre ρ s => Clean s ∧ ∃ a1 a2 a3 a4 a5 a6 a7 a8 a9, ρ = [some (.frz (ns.map D.int)), a1, a2, a3, a4, a5, a6, a7, a8, a9]) ⟨fun _ => rfl, _, _, _, _, _, _, _, _, _, rfl⟩ ?_ ?_
  · rintro pre i post ρ s0 e ⟨hc0, a1, a2, a3, a4, a5, a6, a7, a8, a9, rfl⟩
    have hi : i < j.toNat := List.mem_range.mp (by rw [e]; simp)
    refine ⟨_, _, rfl, ?_⟩
    walk_at "g"
    refine poolP hc0 (by omega) (by omega) fun s1 hp1 _ => ?_
    generalize s0.length = n at hp1 ⊢
    walk_at "g"
    refine drawP hp1 (by decide) (by decide) fun c s2 b2 c0 c3 => ?_
    walk_at "g"
    refine drawP b2.p (by decide) (by decide) fun r s3 b3 r0 r11 => ?_
    walk_at "g"
    refine rlinesP b3.p r0 (by omega) (by omega) (by omega) fun L s4 b4 hL lL => ?_
    have hL0 : ∀ q ∈ L, 0 ≤ q.2 := fun q hq => (hL q hq).1
    have hc := b4.p.cl
    have lL10 : L.length ≤ 10 := by omega
    walk_at "g"
    refine Res.wp_eq (fmk_e (t := false) hL0 (by omega) (clean_low hc)) ?_
    have tr := TW.leastO_tr (ls := L)
    have ll : (leastO L).length = L.length := tr.len.symm
    have hZ : ∀ q ∈ leastO L, 0 ≤ q.2 ∧ q.2 < 1000 := fun q hq => by
      have := hL q (tr.mem.mpr hq)
      exact ⟨this.1, by omega⟩
    have sZ : sh (leastO L) = sh L := sh_least
    walk_at "g"
    refine Res.wp_eq forder_e ?_
    walk_at "g"
    refine Res.wp_eq (shown_e (fun q hq => (hZ q hq).1) (by omega)) ?_
    rw [sZ]
    walk_at "g"
    refine Res.wp_eq (shown_e hL0 (by omega)) ?_
    have n0 : oNe (lG (sh L)) (lG (sh L)) = some (.bl false) := oNe_self pl_lG2
    walk_at "g"
    obtain ⟨y, hy, ly, oy⟩ := lines_repr hZ (by omega)
    have l1 : (Str.ofString "Frame(").length = 6 := by decide +kernel
    have l2 : (Str.ofString ")").length = 1 := by decide +kernel
    have sz : sizeLine = 16777216 := rfl
    refine Res.wp_eq (frepr_e hy ly) ?_
    refine ⟨_, rfl, ?_⟩
    have rp : lRepr [.lst ((leastO L).map liD)] = some (.str y) := by
      show (shown? _).map D.str = _
      rw [hy]
      rfl
    have p1 : oAdd (.str (Str.ofString "Frame(")) (.str y) = some (.str (Str.ofString "Frame(" ++ y)) := by
      show (if (Str.ofString "Frame(").length + y.length ≤ sizeLine then _ else _) = _
      rw [if_pos (by rw [l1, sz]; omega)]
    have p2 : oAdd (.str (Str.ofString "Frame(" ++ y)) (.str (Str.ofString ")")) = some (.str ((Str.ofString "Frame(" ++ y) ++ Str.ofString ")")) := by
      show (if (Str.ofString "Frame(" ++ y).length + (Str.ofString ")").length ≤ sizeLine then _ else _) = _
      rw [if_pos (by rw [Str.length_append, l1, l2, sz]; omega)]
    have okA : PyData.strOk ((Str.ofString "Frame(" ++ y) ++ Str.ofString ")") = true := strOk_app (strOk_app (by decide +kernel) oy) (by decide +kernel)
    have n1 : oNe (.str ((Str.ofString "Frame(" ++ y) ++ Str.ofString ")")) (.str ((Str.ofString "Frame(" ++ y) ++ Str.ofString ")")) = some (.bl false) := oNe_self (show FL.plD 20 (.str _) = true from okA)
    walk_at "g"
    refine Res.wp_eq forder_e ?_
    walk_at "g"
    refine Res.wp_eq (fmk_e (t := true) hL0 (by omega) (clean_low hc)) ?_
    walk_at "g"
    try refine ⟨_, _, rfl, eqok_ins, ?_⟩
    try refine ⟨eqok_ins, ?_⟩
    refine Res.wp_eq feq_e ?_
    refine ⟨_, rfl, ?_⟩
    rw [decide_eq_true rfl]
    walk_at "g"
    refine ⟨rfl, ?_⟩
    refine Res.wp_eq feq_x ?_
    refine ⟨_, rfl, ?_⟩
    have lL2 : lLen [.lst (L.map liD)] = some (.int ((L.length : Nat) : Int)) := by
      show some (D.int (((L.map liD).length : Nat) : Int)) = _
      rw [List.length_map]
    walk_at "g"
    refine wp_lenI ?_
    walk_at "g"
    try refine ⟨_, _, rfl, ?_⟩
    refine Res.wp_eq flen_e ?_
    refine ⟨_, rfl, ⟨by omega, by omega⟩, ?_⟩
    rw [ll]
    have n2 : oNe (.int ((L.length : Nat) : Int)) (.int ((L.length : Nat) : Int)) = some (.bl false) := oNe_self rfl
    walk_at "g"
    refine wp_for_inv (enc := fun i : Nat => D.int (0 + i)) (xs := List.range (Int.toNat 8)) (fun pre ρ s => PoolAt n s ∧ ∃ (M : List Li) (a6 a7 a8 a9 : Option D), (∀ q ∈ M, 0 ≤ q.2 ∧ q.2 < 1000) ∧ M.length ≤ 10 + pre.length ∧ leastO M = leastO L ∧ ρ = [some (.frz (ns.map D.int)), some (.int (0 + (i : Int))), some (.loc n), some (.int (1 + c)), some (.lst (M.map liD)), some (frD (leastO L)), a6, a7, a8, a9]) ⟨b4.p, L, _, _, _, _, fun q hq => ⟨(hL q hq).1, by have := (hL q hq).2; omega⟩, lL10, rfl, rfl⟩ ?_ ?_
    · rintro pre i2 post ρ s e2 ⟨hp, M, a6, a7, a8, a9, hM, lM, eM, rfl⟩
      have lb : pre.length < 8 := by
        have := congrArg List.length e2
        rw [List.length_range, List.length_append, List.length_cons] at this
        have z : Int.toNat 8 = 8 := rfl
        omega
      refine ⟨_, _, rfl, ?_⟩
      walk_at "g"
      refine changed_wp hp hM (by omega) (by omega) (by omega) fun C s5 hp5 hC lC => ?_
      have hc5 := hp5.cl
      have hC0 : ∀ q ∈ C, 0 ≤ q.2 := fun q hq => (hC q hq).1
      have hM0 : ∀ q ∈ M, 0 ≤ q.2 := fun q hq => (hM q hq).1
      walk_at "g"
      refine Res.wp_eq (fmk_e (t := false) hC0 (by omega) (clean_low hc5)) ?_
      walk_at "g"
      refine Res.wp_eq (shown_e hC0 (by omega)) ?_
      walk_at "g"
      refine Res.wp_eq (shown_e hM0 (by omega)) ?_
      have eq0 : oEq (lG (sh C)) (lG (sh M)) = some (.bl (decide (leastO L = leastO C))) := by
        rw [oEq_lG]
        congr 2
        exact decide_eq_decide.mpr ⟨fun h => by rw [← eM]; exact (sh_iff.mp h).symm, fun h => sh_iff.mpr (by rw [eM, h])⟩
      walk_at "g"
      refine ⟨_, _, rfl, ?_⟩
      walk_at "g"
      refine ⟨eqok_ins, ?_⟩
      refine Res.wp_eq feq_e ?_
      refine ⟨_, rfl, ?_⟩
      have plq : ∀ {A : List Li}, FL.plD 20 (.lst (A.map liD)) = true := fun {A} => by
        show FL.plL 19 (A.map liD) = true
        exact plL_map fun q _ => by
          obtain ⟨s, c⟩ := q
          cases s <;> simp [liD, FL.plD, FL.plL] <;> decide +kernel
      have eq1 : oEq (.lst ((leastO L).map liD)) (.lst ((leastO C).map liD)) = some (.bl (decide (leastO L = leastO C))) := by
        rw [oEq_pl plq plq, ← lis_deq]
        simp only [deq]
      have le1 : (pre ++ [i2]).length = pre.length + 1 := by simp
      have same_C : decide (leastO L = leastO C) = true → leastO C = leastO L := fun h => (of_decide_eq_true h).symm
      generalize decide (leastO L = leastO C) = same at eq1 same_C ⊢
      have n3 : oNe (.bl same) (.bl same) = some (.bl false) := oNe_self rfl
      walk_at "g"
      refine Res.wp_eq forder_e ?_
      walk_at "g"
      refine Res.wp_eq forder_e ?_
      walk_at "g"
      rw [le1]
      cases same with
      | true =>
        walk_at "g"
        exact ⟨hp5, C, _, _, _, _, hC, by omega, same_C rfl, rfl⟩
      | false =>
        walk_at "g"
        exact ⟨hp5, M, _, _, _, _, hM, by omega, eM, rfl⟩
    · rintro ρ s ⟨hp, M, a6, a7, a8, a9, hM, lM, eM, rfl⟩
      walk_at "g"
      exact ⟨hp.cl, _, _, _, _, _, _, _, _, _, rfl⟩
  · rintro ρ s ⟨hc, a1, a2, a3, a4, a5, a6, a7, a8, a9, rfl⟩
    walk_at "g"
    rfl
end K09

set_option Elab.async false
set_option linter.all false
set_option maxRecDepth 100000
set_option maxHeartbeats 4000000
namespace K09
open PySem PySem.Spec PyProof.Rows L2 DL FL PD PE PA
set_option maxHeartbeats 8000000 in
theorem all_mk {l : PySem.W.OpenLaw} {w : World} {K : HK} {h : Heap} {mg : Str → Option Value} {fa : Addr} (X : K.In h) (G : h.Ns mainGlobals mg) (hfa : mg "law" = some (.ref fa)) (c : Told fs dfs tabs w K)
    : ∃ fd : FuncData, (∀ (s : Shared) (v : Value), BindsTo s fd ⟨[v], []⟩ [("script", v)]) ∧ ∀ base : Heap, K.In base → base.Ns mainGlobals mg → (∃ mm, base.Ns sysModules mm) → FnS l.prog w K mg base 14 fa fd ["script"] (spLawD K) := by
  have e := hfa.symm.trans (glo_of X G (c.fact 0 (f := fun K => gloB K "law") rfl))
  cases e
  obtain ⟨fd_InvalidFrame_init_, G_InvalidFrame_init_, t_InvalidFrame_init_⟩ := c.def_ 0 (d := ⟨fun K => He.ma K (He.ga K "InvalidFrame") "__init__", "__init__", "InvalidFrame.__init__", s_InvalidFrame_init_, []⟩) rfl
  have F_InvalidFrame_init_ : Fun K "__init__" "InvalidFrame.__init__" s_InvalidFrame_init_ (He.ma K (He.ga K "InvalidFrame") "__init__") fd_InvalidFrame_init_ := funD_fun G_InvalidFrame_init_
  have B_InvalidFrame_init_ := F_InvalidFrame_init_.binds (ps := ["self", "index"]) fun _ _ _ _ _ _ us hl => match us, hl with | [_, _], _ => rfl
  obtain ⟨fd_is_whole, G_is_whole, t_is_whole⟩ := c.def_ 1 (d := ⟨fun K => He.ga K "is_whole", "is_whole", "is_whole", s_is_whole, []⟩) rfl
  have F_is_whole : Fun K "is_whole" "is_whole" s_is_whole (He.ga K "is_whole") fd_is_whole := funD_fun G_is_whole
  have B_is_whole := F_is_whole.binds (ps := ["value"]) fun _ _ _ _ _ _ us hl => match us, hl with | [_], _ => rfl
  obtain ⟨fd_is_count, G_is_count, t_is_count⟩ := c.def_ 2 (d := ⟨fun K => He.ga K "is_count", "is_count", "is_count", s_is_count, []⟩) rfl
  have F_is_count : Fun K "is_count" "is_count" s_is_count (He.ga K "is_count") fd_is_count := funD_fun G_is_count
  have B_is_count := F_is_count.binds (ps := ["value"]) fun _ _ _ _ _ _ us hl => match us, hl with | [_], _ => rfl
  obtain ⟨fd_is_colour, G_is_colour, t_is_colour⟩ := c.def_ 3 (d := ⟨fun K => He.ga K "is_colour", "is_colour", "is_colour", s_is_colour, []⟩) rfl
  have F_is_colour : Fun K "is_colour" "is_colour" s_is_colour (He.ga K "is_colour") fd_is_colour := funD_fun G_is_colour
  have B_is_colour := F_is_colour.binds (ps := ["value"]) fun _ _ _ _ _ _ us hl => match us, hl with | [_], _ => rfl
  obtain ⟨fd_is_side, G_is_side, t_is_side⟩ := c.def_ 4 (d := ⟨fun K => He.ga K "is_side", "is_side", "is_side", s_is_side, []⟩) rfl
  have F_is_side : Fun K "is_side" "is_side" s_is_side (He.ga K "is_side") fd_is_side := funD_fun G_is_side
  have B_is_side := F_is_side.binds (ps := ["value"]) fun _ _ _ _ _ _ us hl => match us, hl with | [_], _ => rfl
  obtain ⟨fd_is_line, G_is_line, t_is_line⟩ := c.def_ 5 (d := ⟨fun K => He.ga K "_is_line", "_is_line", "_is_line", s_is_line, []⟩) rfl
  have F_is_line : Fun K "_is_line" "_is_line" s_is_line (He.ga K "_is_line") fd_is_line := funD_fun G_is_line
  have B_is_line := F_is_line.binds (ps := ["value"]) fun _ _ _ _ _ _ us hl => match us, hl with | [_], _ => rfl
  obtain ⟨fd_check_lines, G_check_lines, t_check_lines⟩ := c.def_ 6 (d := ⟨fun K => He.ga K "_check_lines", "_check_lines", "_check_lines", s_check_lines, []⟩) rfl
  have F_check_lines : Fun K "_check_lines" "_check_lines" s_check_lines (He.ga K "_check_lines") fd_check_lines := funD_fun G_check_lines
  have B_check_lines := F_check_lines.binds (ps := ["lines"]) fun _ _ _ _ _ _ us hl => match us, hl with | [_], _ => rfl
  obtain ⟨fd_number_of_last_unlike, G_number_of_last_unlike, t_number_of_last_unlike⟩ := c.def_ 7 (d := ⟨fun K => He.ga K "_number_of_last_unlike", "_number_of_last_unlike", "_number_of_last_unlike", s_number_of_last_unlike, []⟩) rfl
  have F_number_of_last_unlike : Fun K "_number_of_last_unlike" "_number_of_last_unlike" s_number_of_last_unlike (He.ga K "_number_of_last_unlike") fd_number_of_last_unlike := funD_fun G_number_of_last_unlike
  have B_number_of_last_unlike := F_number_of_last_unlike.binds (ps := ["colours", "colour"]) fun _ _ _ _ _ _ us hl => match us, hl with | [_, _], _ => rfl
  obtain ⟨fd_waiting_lines, G_waiting_lines, t_waiting_lines⟩ := c.def_ 8 (d := ⟨fun K => He.ga K "_waiting_lines", "_waiting_lines", "_waiting_lines", s_waiting_lines, []⟩) rfl
  have F_waiting_lines : Fun K "_waiting_lines" "_waiting_lines" s_waiting_lines (He.ga K "_waiting_lines") fd_waiting_lines := funD_fun G_waiting_lines
  have B_waiting_lines := F_waiting_lines.binds (ps := ["lines"]) fun _ _ _ _ _ _ us hl => match us, hl with | [_], _ => rfl
  obtain ⟨fd_next_lines, G_next_lines, t_next_lines⟩ := c.def_ 9 (d := ⟨fun K => He.ga K "_next_lines", "_next_lines", "_next_lines", s_next_lines, []⟩) rfl
  have F_next_lines : Fun K "_next_lines" "_next_lines" s_next_lines (He.ga K "_next_lines") fd_next_lines := funD_fun G_next_lines
  have B_next_lines := F_next_lines.binds (ps := ["waiting", "placed"]) fun _ _ _ _ _ _ us hl => match us, hl with | [_, _], _ => rfl
  obtain ⟨fd_least_order, G_least_order, t_least_order⟩ := c.def_ 10 (d := ⟨fun K => He.ga K "_least_order", "_least_order", "_least_order", s_least_order, []⟩) rfl
  have F_least_order : Fun K "_least_order" "_least_order" s_least_order (He.ga K "_least_order") fd_least_order := funD_fun G_least_order
  have B_least_order := F_least_order.binds (ps := ["lines"]) fun _ _ _ _ _ _ us hl => match us, hl with | [_], _ => rfl
  obtain ⟨fd_Frame_init_, G_Frame_init_, t_Frame_init_⟩ := c.def_ 11 (d := ⟨fun K => He.ma K (He.ga K "Frame") "__init__", "__init__", "Frame.__init__", s_Frame_init_, []⟩) rfl
  have F_Frame_init_ : Fun K "__init__" "Frame.__init__" s_Frame_init_ (He.ma K (He.ga K "Frame") "__init__") fd_Frame_init_ := funD_fun G_Frame_init_
  have B_Frame_init_ := F_Frame_init_.binds (ps := ["self", "lines"]) fun _ _ _ _ _ _ us hl => match us, hl with | [_, _], _ => rfl
  obtain ⟨fd_Frame_order, G_Frame_order, t_Frame_order⟩ := c.def_ 12 (d := ⟨fun K => He.ma K (He.ga K "Frame") "order", "order", "Frame.order", s_Frame_order, []⟩) rfl
  have F_Frame_order : Fun K "order" "Frame.order" s_Frame_order (He.ma K (He.ga K "Frame") "order") fd_Frame_order := funD_fun G_Frame_order
  have B_Frame_order := F_Frame_order.binds (ps := ["self"]) fun _ _ _ _ _ _ us hl => match us, hl with | [_], _ => rfl
  obtain ⟨fd_Frame_eq_, G_Frame_eq_, t_Frame_eq_⟩ := c.def_ 13 (d := ⟨fun K => He.ma K (He.ga K "Frame") "__eq__", "__eq__", "Frame.__eq__", s_Frame_eq_, []⟩) rfl
  have F_Frame_eq_ : Fun K "__eq__" "Frame.__eq__" s_Frame_eq_ (He.ma K (He.ga K "Frame") "__eq__") fd_Frame_eq_ := funD_fun G_Frame_eq_
  have B_Frame_eq_ := F_Frame_eq_.binds (ps := ["self", "other"]) fun _ _ _ _ _ _ us hl => match us, hl with | [_, _], _ => rfl
  obtain ⟨fd_Frame_len_, G_Frame_len_, t_Frame_len_⟩ := c.def_ 14 (d := ⟨fun K => He.ma K (He.ga K "Frame") "__len__", "__len__", "Frame.__len__", s_Frame_len_, []⟩) rfl
  have F_Frame_len_ : Fun K "__len__" "Frame.__len__" s_Frame_len_ (He.ma K (He.ga K "Frame") "__len__") fd_Frame_len_ := funD_fun G_Frame_len_
  have B_Frame_len_ := F_Frame_len_.binds (ps := ["self"]) fun _ _ _ _ _ _ us hl => match us, hl with | [_], _ => rfl
  obtain ⟨fd_Frame_repr_, G_Frame_repr_, t_Frame_repr_⟩ := c.def_ 15 (d := ⟨fun K => He.ma K (He.ga K "Frame") "__repr__", "__repr__", "Frame.__repr__", s_Frame_repr_, []⟩) rfl
  have F_Frame_repr_ : Fun K "__repr__" "Frame.__repr__" s_Frame_repr_ (He.ma K (He.ga K "Frame") "__repr__") fd_Frame_repr_ := funD_fun G_Frame_repr_
  have B_Frame_repr_ := F_Frame_repr_.binds (ps := ["self"]) fun _ _ _ _ _ _ us hl => match us, hl with | [_], _ => rfl
  obtain ⟨fd_l_pool, G_l_pool, t_l_pool⟩ := c.def_ 16 (d := ⟨fun K => He.ga K "_law_pool", "_law_pool", "_law_pool", s_l_pool, []⟩) rfl
  have F_l_pool : Fun K "_law_pool" "_law_pool" s_l_pool (He.ga K "_law_pool") fd_l_pool := funD_fun G_l_pool
  have B_l_pool := F_l_pool.binds (ps := ["script", "k"]) fun _ _ _ _ _ _ us hl => match us, hl with | [_, _], _ => rfl
  obtain ⟨fd_l_draw, G_l_draw, t_l_draw⟩ := c.def_ 17 (d := ⟨fun K => He.ga K "_law_draw", "_law_draw", "_law_draw", s_l_draw, []⟩) rfl
  have F_l_draw : Fun K "_law_draw" "_law_draw" s_l_draw (He.ga K "_law_draw") fd_l_draw := funD_fun G_l_draw
  have B_l_draw := F_l_draw.binds (ps := ["pool", "many"]) fun _ _ _ _ _ _ us hl => match us, hl with | [_, _], _ => rfl
  obtain ⟨fd_l_numbered, G_l_numbered, t_l_numbered⟩ := c.def_ 18 (d := ⟨fun K => He.ga K "_law_numbered", "_law_numbered", "_law_numbered", s_l_numbered, []⟩) rfl
  have F_l_numbered : Fun K "_law_numbered" "_law_numbered" s_l_numbered (He.ga K "_law_numbered") fd_l_numbered := funD_fun G_l_numbered
  have B_l_numbered := F_l_numbered.binds (ps := ["height", "width", "start"]) fun _ _ _ _ _ _ us hl => match us, hl with | [_, _, _], _ => rfl
  obtain ⟨fd_l_random_lines, G_l_random_lines, t_l_random_lines⟩ := c.def_ 19 (d := ⟨fun K => He.ga K "_law_random_lines", "_law_random_lines", "_law_random_lines", s_l_random_lines, []⟩) rfl
  have F_l_random_lines : Fun K "_law_random_lines" "_law_random_lines" s_l_random_lines (He.ga K "_law_random_lines") fd_l_random_lines := funD_fun G_l_random_lines
  have B_l_random_lines := F_l_random_lines.binds (ps := ["pool", "many", "colours"]) fun _ _ _ _ _ _ us hl => match us, hl with | [_, _, _], _ => rfl
  obtain ⟨fd_l_after, G_l_after, t_l_after⟩ := c.def_ 20 (d := ⟨fun K => He.ga K "_law_after", "_law_after", "_law_after", s_l_after, []⟩) rfl
  have F_l_after : Fun K "_law_after" "_law_after" s_l_after (He.ga K "_law_after") fd_l_after := funD_fun G_l_after
  have B_l_after := F_l_after.binds (ps := ["rows", "step"]) fun _ _ _ _ _ _ us hl => match us, hl with | [_, _], _ => rfl
  obtain ⟨fd_l_run, G_l_run, t_l_run⟩ := c.def_ 21 (d := ⟨fun K => He.ga K "_law_run", "_law_run", "_law_run", s_l_run, []⟩) rfl
  have F_l_run : Fun K "_law_run" "_law_run" s_l_run (He.ga K "_law_run") fd_l_run := funD_fun G_l_run
  have B_l_run := F_l_run.binds (ps := ["rows", "steps"]) fun _ _ _ _ _ _ us hl => match us, hl with | [_, _], _ => rfl
  obtain ⟨fd_l_shown, G_l_shown, t_l_shown⟩ := c.def_ 22 (d := ⟨fun K => He.ga K "_law_shown", "_law_shown", "_law_shown", s_l_shown, []⟩) rfl
  have F_l_shown : Fun K "_law_shown" "_law_shown" s_l_shown (He.ga K "_law_shown") fd_l_shown := funD_fun G_l_shown
  have B_l_shown := F_l_shown.binds (ps := ["lines"]) fun _ _ _ _ _ _ us hl => match us, hl with | [_], _ => rfl
  obtain ⟨fd_l_changed, G_l_changed, t_l_changed⟩ := c.def_ 23 (d := ⟨fun K => He.ga K "_law_changed", "_law_changed", "_law_changed", s_l_changed, []⟩) rfl
  have F_l_changed : Fun K "_law_changed" "_law_changed" s_l_changed (He.ga K "_law_changed") fd_l_changed := funD_fun G_l_changed
  have B_l_changed := F_l_changed.binds (ps := ["pool", "lines", "colours"]) fun _ _ _ _ _ _ us hl => match us, hl with | [_, _, _], _ => rfl
  obtain ⟨fd_law, G_law, t_law⟩ := c.def_ 24 (d := ⟨fun K => He.ga K "law", "law", "law", s_law, []⟩) rfl
  have F_law : Fun K "law" "law" s_law (He.ga K "law") fd_law := funD_fun G_law
  have C_Picture := own_of X G (c.fact 1 (f := fun K => ownB K "Picture") rfl)
  have C_InvalidFrame := exc_of X G base_ValueError (c.fact 2 (f := fun K => excB K "InvalidFrame" "index" [.type "ValueError", .type "Exception", .type "BaseException", .type "object"] "ValueError.__new__") rfl)
  have C_Frame := own_of X G (c.fact 3 (f := fun K => ownB K "Frame") rfl)
  obtain ⟨o_SIDES, l_SIDES, lc_SIDES, ld_SIDES, q_SIDES⟩ := tup_of (c.fact 4 (f := fun K => tupB K "SIDES" [.str "top", .str "right", .str "bottom", .str "left"]) rfl)
  have is_Frame : IsiC K mg (He.ga K "Frame") (isC isc_Frame) := by
    refine isC_mk2 (Cn := "Frame") C_Frame.is_ C_Frame.ty C_Frame.nt fun n b hn => ?_
    simp only [isc_Frame, List.lookup] at hn
    split at hn
    · rename_i e
      cases hn
      have e := beq_iff_eq.mp e
      subst e
      exact .inl ⟨He.ga K "Picture", C_Picture.cf, sub_of (c.fact 7 (f := fun K => subB K "Picture" "Frame" false) rfl), fun z => absurd ((sub_of (c.fact 7 (f := fun K => subB K "Picture" "Frame" false) rfl)).symm.trans ((congrArg (fun y => PySem.W.subIn K (.ref y) (.ref (He.ga K "Frame"))) z).trans (sub_of (c.fact 8 (f := fun K => subB K "Frame" "Frame" true) rfl)))) (by decide)⟩
    split at hn
    · rename_i e
      cases hn
      have e := beq_iff_eq.mp e
      subst e
      exact .inr (fre_of X G (c.fact 5 (f := fun K => freB K "Symmetry") rfl))
    split at hn
    · rename_i e
      cases hn
      have e := beq_iff_eq.mp e
      subst e
      exact .inl ⟨He.ga K "Frame", C_Frame.cf, sub_of (c.fact 8 (f := fun K => subB K "Frame" "Frame" true) rfl), fun _ => rfl⟩
    split at hn
    · rename_i e
      cases hn
      have e := beq_iff_eq.mp e
      subst e
      exact .inr (fre_of X G (c.fact 6 (f := fun K => freB K "Effect") rfl))
    · cases hn
  have hb : ∀ (s : Shared) (v : Value), BindsTo s fd_law ⟨[v], []⟩ [("script", v)] := by
    obtain ⟨_, _, _, _, _, _, _, _, _, e, _, _⟩ := F_law.ex
    rw [e]
    exact fun s v => .of_eq rfl
  let A : Ad := { a_InvalidFrame_init_ := He.ma K (He.ga K "InvalidFrame") "__init__", fd_InvalidFrame_init_ := fd_InvalidFrame_init_, a_is_whole := He.ga K "is_whole", fd_is_whole := fd_is_whole, a_is_count := He.ga K "is_count", fd_is_count := fd_is_count, a_is_colour := He.ga K "is_colour", fd_is_colour := fd_is_colour, a_is_side := He.ga K "is_side", fd_is_side := fd_is_side, a_is_line := He.ga K "_is_line", fd_is_line := fd_is_line, a_check_lines := He.ga K "_check_lines", fd_check_lines := fd_check_lines, a_number_of_last_unlike := He.ga K "_number_of_last_unlike", fd_number_of_last_unlike := fd_number_of_last_unlike, a_waiting_lines := He.ga K "_waiting_lines", fd_waiting_lines := fd_waiting_lines, a_next_lines := He.ga K "_next_lines", fd_next_lines := fd_next_lines, a_least_order := He.ga K "_least_order", fd_least_order := fd_least_order, a_Frame_init_ := He.ma K (He.ga K "Frame") "__init__", fd_Frame_init_ := fd_Frame_init_, a_Frame_order := He.ma K (He.ga K "Frame") "order", fd_Frame_order := fd_Frame_order, a_Frame_eq_ := He.ma K (He.ga K "Frame") "__eq__", fd_Frame_eq_ := fd_Frame_eq_, a_Frame_len_ := He.ma K (He.ga K "Frame") "__len__", fd_Frame_len_ := fd_Frame_len_, a_Frame_repr_ := He.ma K (He.ga K "Frame") "__repr__", fd_Frame_repr_ := fd_Frame_repr_, a_l_pool := He.ga K "_law_pool", fd_l_pool := fd_l_pool, a_l_draw := He.ga K "_law_draw", fd_l_draw := fd_l_draw, a_l_numbered := He.ga K "_law_numbered", fd_l_numbered := fd_l_numbered, a_l_random_lines := He.ga K "_law_random_lines", fd_l_random_lines := fd_l_random_lines, a_l_after := He.ga K "_law_after", fd_l_after := fd_l_after, a_l_run := He.ga K "_law_run", fd_l_run := fd_l_run, a_l_shown := He.ga K "_law_shown", fd_l_shown := fd_l_shown, a_l_changed := He.ga K "_law_changed", fd_l_changed := fd_l_changed, a_law := He.ga K "law", fd_law := fd_law, c_Picture := He.ga K "Picture", c_InvalidFrame := He.ga K "InvalidFrame", c_Frame := He.ga K "Frame", k_SIDES := He.ga K "SIDES", o_SIDES := o_SIDES }
  have Tt : ∀ base : Heap, (∃ mm, base.Ns sysModules mm) → Tx w K mg base A := fun base sm => { mods := sm, F_InvalidFrame_init_ := F_InvalidFrame_init_, b_InvalidFrame_init_ := B_InvalidFrame_init_, F_is_whole := F_is_whole, b_is_whole := B_is_whole, g_is_whole := glo_of X G (c.fact 9 (f := fun K => gloB K "is_whole") rfl), F_is_count := F_is_count, b_is_count := B_is_count, g_is_count := glo_of X G (c.fact 10 (f := fun K => gloB K "is_count") rfl), F_is_colour := F_is_colour, b_is_colour := B_is_colour, g_is_colour := glo_of X G (c.fact 11 (f := fun K => gloB K "is_colour") rfl), F_is_side := F_is_side, b_is_side := B_is_side, g_is_side := glo_of X G (c.fact 12 (f := fun K => gloB K "is_side") rfl), F_is_line := F_is_line, b_is_line := B_is_line, g_is_line := glo_of X G (c.fact 13 (f := fun K => gloB K "_is_line") rfl), F_check_lines := F_check_lines, b_check_lines := B_check_lines, g_check_lines := glo_of X G (c.fact 14 (f := fun K => gloB K "_check_lines") rfl), F_number_of_last_unlike := F_number_of_last_unlike, b_number_of_last_unlike := B_number_of_last_unlike, g_number_of_last_unlike := glo_of X G (c.fact 15 (f := fun K => gloB K "_number_of_last_unlike") rfl), F_waiting_lines := F_waiting_lines, b_waiting_lines := B_waiting_lines, g_waiting_lines := glo_of X G (c.fact 16 (f := fun K => gloB K "_waiting_lines") rfl), F_next_lines := F_next_lines, b_next_lines := B_next_lines, g_next_lines := glo_of X G (c.fact 17 (f := fun K => gloB K "_next_lines") rfl), F_least_order := F_least_order, b_least_order := B_least_order, g_least_order := glo_of X G (c.fact 18 (f := fun K => gloB K "_least_order") rfl), F_Frame_init_ := F_Frame_init_, b_Frame_init_ := B_Frame_init_, F_Frame_order := F_Frame_order, b_Frame_order := B_Frame_order, F_Frame_eq_ := F_Frame_eq_, b_Frame_eq_ := B_Frame_eq_, F_Frame_len_ := F_Frame_len_, b_Frame_len_ := B_Frame_len_, F_Frame_repr_ := F_Frame_repr_, b_Frame_repr_ := B_Frame_repr_, F_l_pool := F_l_pool, b_l_pool := B_l_pool, g_l_pool := glo_of X G (c.fact 19 (f := fun K => gloB K "_law_pool") rfl), F_l_draw := F_l_draw, b_l_draw := B_l_draw, g_l_draw := glo_of X G (c.fact 20 (f := fun K => gloB K "_law_draw") rfl), F_l_numbered := F_l_numbered, b_l_numbered := B_l_numbered, g_l_numbered := glo_of X G (c.fact 21 (f := fun K => gloB K "_law_numbered") rfl), F_l_random_lines := F_l_random_lines, b_l_random_lines := B_l_random_lines, g_l_random_lines := glo_of X G (c.fact 22 (f := fun K => gloB K "_law_random_lines") rfl), F_l_after := F_l_after, b_l_after := B_l_after, g_l_after := glo_of X G (c.fact 23 (f := fun K => gloB K "_law_after") rfl), F_l_run := F_l_run, b_l_run := B_l_run, g_l_run := glo_of X G (c.fact 24 (f := fun K => gloB K "_law_run") rfl), F_l_shown := F_l_shown, b_l_shown := B_l_shown, g_l_shown := glo_of X G (c.fact 25 (f := fun K => gloB K "_law_shown") rfl), F_l_changed := F_l_changed, b_l_changed := B_l_changed, g_l_changed := glo_of X G (c.fact 26 (f := fun K => gloB K "_law_changed") rfl), F_law := F_law, g_SIDES := ⟨_, .ref (He.ga K "SIDES"), glo_of X G (c.fact 27 (f := fun K => gloB K "SIDES") rfl), rfl, fun G => .tup (q_SIDES G) (.cons (.str "top") (.cons (.str "right") (.cons (.str "bottom") (.cons (.str "left") .nil)))), rfl⟩, h_SIDES := glo_of X G (c.fact 27 (f := fun K => gloB K "SIDES") rfl), q_SIDES := q_SIDES, l_SIDES := l_SIDES, lc_SIDES := lc_SIDES, ld_SIDES := ld_SIDES, g_MOST_LINES := int_of X G (c.fact 28 (f := fun K => intB K "MOST_LINES" (200)) rfl), mg_InvalidFrame := C_InvalidFrame.m, ox_InvalidFrame := C_InvalidFrame.ox, oi_InvalidFrame := mth_of (c.fact 29 (f := fun K => mthB K "InvalidFrame" "__init__") rfl), ot_InvalidFrame := t_InvalidFrame_init_, no_InvalidFrame := C_InvalidFrame.no, mg_Frame := C_Frame.m, cl_Frame := C_Frame.cl, mk_Frame := ⟨C_Frame.mks, mth_of (c.fact 30 (f := fun K => mthB K "Frame" "__init__") rfl), isFn_of t_Frame_init_, C_Frame.kp⟩, is_Frame := is_Frame, na_Frame_lines := lack_of (c.fact 31 (f := fun K => lackB K "Frame" "_lines") rfl), mt_Frame_order := ⟨mth_of (c.fact 32 (f := fun K => mthB K "Frame" "order") rfl), isFn_of t_Frame_order, F_Frame_order.kp⟩, fn_Frame_eq_ := isFn_of t_Frame_eq_, eq_Frame := mth_of (c.fact 33 (f := fun K => mthB K "Frame" "__eq__") rfl), ty_Frame := eqT_mk C_Frame.cf C_Frame.nt, op_Frame_len_ := mth_of (c.fact 34 (f := fun K => mthB K "Frame" "__len__") rfl), fn_Frame_len_ := isFn_of t_Frame_len_, fn_Frame_repr_ := isFn_of t_Frame_repr_, re_Frame := mth_of (c.fact 35 (f := fun K => mthB K "Frame" "__repr__") rfl), n_abs := fre_of X G (c.fact 36 (f := fun K => freB K "abs") rfl), n_all := fre_of X G (c.fact 37 (f := fun K => freB K "all") rfl), n_bool := fre_of X G (c.fact 38 (f := fun K => freB K "bool") rfl), n_enumerate := fre_of X G (c.fact 39 (f := fun K => freB K "enumerate") rfl), n_int := fre_of X G (c.fact 40 (f := fun K => freB K "int") rfl), n_isinstance := fre_of X G (c.fact 41 (f := fun K => freB K "isinstance") rfl), n_len := fre_of X G (c.fact 42 (f := fun K => freB K "len") rfl), n_list := fre_of X G (c.fact 43 (f := fun K => freB K "list") rfl), n_max := fre_of X G (c.fact 44 (f := fun K => freB K "max") rfl), n_min := fre_of X G (c.fact 45 (f := fun K => freB K "min") rfl), n_range := fre_of X G (c.fact 46 (f := fun K => freB K "range") rfl), n_repr := fre_of X G (c.fact 47 (f := fun K => freB K "repr") rfl), n_str := fre_of X G (c.fact 48 (f := fun K => freB K "str") rfl), n_sum := fre_of X G (c.fact 49 (f := fun K => freB K "sum") rfl), n_tuple := fre_of X G (c.fact 50 (f := fun K => freB K "tuple") rfl), n_zip := fre_of X G (c.fact 51 (f := fun K => freB K "zip") rfl) }
  exact ⟨_, hb, fun base _ _ sm => ok_law (P := l.prog) (w := w) (base := base) (Tt base sm) law_m⟩
end K09

open PySem PySem.W PySem.Calls PyProof.Rows in
set_option maxRecDepth 100000 in
set_option maxHeartbeats 0 in
theorem PySem.Challenge.cw_pictureframes_k09_whole_equal_frames_holds : PySem.Challenge.rw_pictureframes_k09_whole_equal_frames.Holds := by
  refine K09.lawTop fun said => ?_
  refine HandSHeadRun.head_any (r := K09.Rw) (q := K09.qv) (H := FL.hookW K09.fs K09.dfs K09.tabs) (ob := fun s => FL.eyeG K09.fs K09.dfs K09.tabs (HandSHeadRun.getT s)) (M := 20000) (loose := K09.names) (d := HandSHeadRun.topDef K09.Rw.prog 49) (kwd := []) FL.eyeG_eq
    (by kernel_rfl) (fun s => by kernel_rfl) K09.run (by kernel_rfl) (by kernel_rfl) (by kernel_rfl) (by rfl) (by first | assumption | decide +kernel) (by decide +kernel) ⟨rfl, rfl, rfl, rfl, rfl, by decide +kernel⟩ ?hw ?hc
  case hw => w_witness2
  case hc =>
    refine FL.walk_W (l := PySem.Challenge.rw_pictureframes_k09_whole_equal_frames) (k := 14) (x := "script") rfl (by decide +kernel) (by kernel_rfl) ⟨rfl, by decide, by decide⟩ ?F
    intro w mg fa h Y G g0
    obtain ⟨K, KX, c⟩ := Y
    have g1 : mg ("law" : PySem.Str) = some (.ref fa) := by
      rw [← show (HandSHeadRun.topDef K09.Rw.prog 49).name = ("law" : PySem.Str) by kernel_rfl]
      exact g0
    obtain ⟨fd, hb, hF⟩ := K09.all_mk (l := PySem.Challenge.rw_pictureframes_k09_whole_equal_frames) KX G g1 c
    exact ⟨K, fd, KX, hb, hF⟩
-- level of the law: 14

