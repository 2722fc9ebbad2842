import PyProof.Rows.All
import Wide.All
import OpenK.AllK
import Wide.FinOn
import HandS.HeadWalk
import KE.KStateDown
import HandS.ForMost
import HandS.Exc
import HandS.TryOnly
import HandS.ExcOwn
import HandS.WordsExc
import HandS.Defaults
import HandS.Property
import HandS.Lambda
import HandS.Nested
import HandS.Head0
import HandS.Head1
import HandS.Head2
import HandS.HeadEnd
import HandS.HeadHook1
import HandS.HeadHook2
import HandS.Wide
import HandS.TupAny
import HandS.TupMul
import HandS.Deep
import HandS.IsInst
import HandS.FStr
import HandS.Star
import HandS.SortInts
import HandS.Conv
import HandS.Zip
import HandS.Style
import KE.GoesMore
import KE.GoesEnum
import HandS.Walk
import HandS.CallRecv
import HandS.SortOrd
import HandS.Strs
import HandS.Text
import HandS.ExcValue
import KE.KFmtOwn
import KE.KeyNested
import HandS.TupSets
import KE.KIndexOf
import HandS.IterVal
import KE.KOwnIter
import PySem.Challenge.RW_rootshared_k07_whole_roots_of_pools
set_option Elab.async false
set_option linter.all false
section
set_option maxRecDepth 100000
set_option maxHeartbeats 4000000
/-! The head of a law by facts: each fact is a Bool over the written part; each def stands at a path of its own. -/
namespace RS
open PySem PySem.Spec PyProof.Rows L2

abbrev Fr := PySem.W.Frag
/-- a def: its path, its names, its text -/
structure DefP where
  ad : Fr → Addr
  name : Str
  qual : Str
  params : Arguments
  body : List Stmt
  scope : Scope
  dfl : List He.Dv := []
  kwd : List (Str × He.Dv) := []
/-- the address of a module's name -/
def gA (x : Str) : Fr → Addr := fun K => He.ga K x
/-- the address of a class's method -/
def mA (C m : Str) : Fr → Addr := fun K => He.ma K (He.ga K C) m
/-- the getter of a class's property -/
def pA (C m : Str) : Fr → Addr := fun K =>
  match PySem.W.recIn K (He.ma K (He.ga K C) m) "property" with
  | some (.ref g :: _) => g
  | _ => 0
def DefP.dvs (K : Fr) (d : DefP) : List V := d.dfl.map fun z => z.v K
def DefP.kws (K : Fr) (d : DefP) : List (Str × V) := d.kwd.map fun z => (z.1, z.2.v K)
/-- what is seen of the object there -/
def seen (K : Fr) (a : Addr) : He.FnW :=
  match K.lookup a with
  | some ob => (match ob.data with
    | .func z => some (z.name, z.qualname, z.params, z.body, z.scope, z.globals, z.closure, z.builtins)
    | _ => none)
  | none => none
def DefP.want (d : DefP) : He.FnW :=
  some (d.name, d.qual, d.params, .stmts d.body, d.scope, mainGlobals, [], builtinsNs)
def DefP.good (K : Fr) (d : DefP) : Bool :=
  PySem.W.keepIn K (.ref (d.ad K)) &&
  match K.lookup (d.ad K) with
  | some ob => (match ob.data with
    | .func z => PySem.W.codeIn K z.code d.qual && (He.dflB K z.defaults (d.dvs K) && He.kwdB K z.kwdefaults (d.kws K))
    | _ => false)
  | none => false
/-- the def as the layer takes it -/
abbrev FnAt (K : Fr) (d : DefP) (fd : FuncData) : Prop :=
  FunD K d.name d.qual d.params d.body d.scope (d.dvs K) (d.kws K) (d.ad K) fd
theorem DefP.at_ {K : Fr} {d : DefP} (e : seen K (d.ad K) = d.want) (c : d.good K = true) : ∃ fd, FnAt K d fd := by
  obtain ⟨kp, c2⟩ := He.ba c
  unfold seen at e
  cases q : K.lookup (d.ad K) with
  | none => rw [q] at c2; cases c2
  | some o =>
    obtain ⟨oc, od, dt, osl⟩ := o
    rw [q] at c2 e
    cases dt with
    | func fd =>
      obtain ⟨n1, n2, n3, n4, n5, n6, n7, n8, n9, n10, n11, n12, n13, n14, n15⟩ := fd
      have e2 : (some (n1, n2, n3, n4, n5, n6, n7, n15) : He.FnW) = d.want := e
      unfold DefP.want at e2
      simp only [Option.some.injEq, Prod.mk.injEq] at e2
      obtain ⟨rfl, rfl, rfl, rfl, rfl, rfl, rfl, rfl⟩ := e2
      have c3 : (PySem.W.codeIn K n13 d.qual && (He.dflB K n8 (d.dvs K) && He.kwdB K n9 (d.kws K))) = true := c2
      obtain ⟨k1, k2⟩ := He.ba c3
      obtain ⟨k3, k4⟩ := He.ba k2
      exact ⟨_, ⟨oc, od, n8, n9, n10, n11, n12, n13, n14, osl, rfl, q, k1, He.dflB_ok k3, He.kwdB_ok k4⟩, kp⟩
    | _ => cases c2

/-- facts and defs, seen at once -/
def sees (fs : List (Fr → Bool)) (ds : List DefP) (K : Fr) : He.AlD :=
  ((fs.all fun f => f K) && ds.all fun d => d.good K, ds.map fun d => seen K (d.ad K))
def wants (ds : List DefP) : He.AlD := (true, ds.map DefP.want)
def Told (fs : List (Fr → Bool)) (ds : List DefP) (K : Fr) : Prop := sees fs ds K = wants ds
def seesG (n : Nat) (fs : List (Fr → Bool)) (ds : List DefP) (g : Addr → Option Obj) : He.AlD := sees fs ds (He.frG g (He.asD g n))
def hook (n : Nat) (fs : List (Fr → Bool)) (ds : List DefP) : PySem.W.Hook where
  α := He.AlD
  obs := fun s => seesG n fs ds s.heap.get?
  val := fun _ => wants ds
  says := fun _ h => ∃ K : Fr, K.In h ∧ Told fs ds K
  of := fun _ _ e => ⟨_, He.frG_in, e⟩
  keeps := fun _ _ _ ⟨K, hK, c⟩ k => ⟨K, PySem.W.Frag.In.keeps hK k, c⟩
theorem seesG_eq {n : Nat} {fs : List (Fr → Bool)} {ds : List DefP} {g : Addr → Option Obj} {s : Shared} (h : ∀ a, g a = s.heap.get? a) : seesG n fs ds g = (hook n fs ds).obs s := by
  have e : g = s.heap.get? := funext h
  subst e
  rfl
section
variable {fs : List (Fr → Bool)} {ds : List DefP} {K : Fr}
theorem Told.fact (c : Told fs ds K) (i : Nat) {f : Fr → Bool} (h : fs[i]? = some f) : f K = true := by
  have c1 : ((fs.all fun f => f K) && ds.all fun d => d.good K) = true := congrArg Prod.fst c
  exact List.all_eq_true.mp (He.ba c1).1 f (List.mem_of_getElem? h)
theorem Told.facts (c : Told fs ds K) : ∀ f ∈ fs, f K = true := by
  have c1 : ((fs.all fun f => f K) && ds.all fun d => d.good K) = true := congrArg Prod.fst c
  exact List.all_eq_true.mp (He.ba c1).1
theorem Told.fn (c : Told fs ds K) (i : Nat) {d : DefP} (h : ds[i]? = some d) : ∃ fd, FnAt K d fd := by
  have c1 : ((fs.all fun f => f K) && ds.all fun d => d.good K) = true := congrArg Prod.fst c
  have e : ds.map (fun d => seen K (d.ad K)) = ds.map DefP.want := congrArg Prod.snd c
  have e2 : (ds.map fun d => seen K (d.ad K))[i]? = (ds.map DefP.want)[i]? := by rw [e]
  rw [List.getElem?_map, List.getElem?_map, h] at e2
  exact DefP.at_ (Option.some.inj e2) (List.all_eq_true.mp (He.ba c1).2 d (List.mem_of_getElem? h))
end
/-! ### facts -/
def fGlo (x : Str) : Fr → Bool := fun K => (He.Fa.glo x).ok K
def fFree (x : Str) : Fr → Bool := fun K => (He.Fa.free x).ok K
def fInt (x : Str) (i : Int) : Fr → Bool := fun K => (He.Fa.int x i).ok K
def fCls (x : Str) : Fr → Bool := fun K => (He.Fa.cls x).ok K
def fNoat (x f : Str) : Fr → Bool := fun K => (He.Fa.noat x f).ok K
def fMeth (x m : Str) : Fr → Bool := fun K => (He.Fa.meth x m).ok K
def fMkr (x : Str) : Fr → Bool := fun K => (He.Fa.mkr x).ok K
def fExc (x : Str) : Fr → Bool := fun K => (He.Fa.exc x).ok K
def fProp (C m : Str) : Fr → Bool := fun K =>
  He.eqO (PySem.W.findIn K (.ref (gA C K)) m) (some (some (.ref (mA C m K)))) &&
  (He.eqO (PySem.W.specialIn K (.ref (mA C m K)) "__get__") (some (some (.builtin "property.__get__"))) &&
  (decide (PySem.W.takesIn K (.ref (mA C m K)) = some true) &&
  (match PySem.W.recIn K (mA C m K) "property" with
    | some (.ref g :: _) => decide (g = pA C m K)
    | _ => false)))
theorem prop_ok {K : Fr} {C m : Str} (c : fProp C m K = true) : PropOf K (gA C K) m (mA C m K) (pA C m K) := by
  obtain ⟨c1, c⟩ := He.ba c
  obtain ⟨c2, c⟩ := He.ba c
  obtain ⟨c3, c4⟩ := He.ba c
  refine ⟨He.eqO_ok c1, He.eqO_ok c2, of_decide_eq_true c3, ?_⟩
  split at c4
  · rename_i g r e
    exact ⟨r, by rw [e, of_decide_eq_true c4]⟩
  · cases c4
/-- a class's other attribute is just this -/
def fHas (C m : Str) (v : Value) : Fr → Bool := fun K => He.eqO (PySem.W.findIn K (.ref (gA C K)) m) (some (some v))
end RS
end

section
set_option maxRecDepth 100000
set_option maxHeartbeats 4000000
/-! Plain data for values, a store of cells for what changes; what the layer's heap must hold for them. -/
namespace RS
open PySem PySem.Spec PyProof.Rows L2 NdefX LamX

/-- plain data: fl a list that is never changed any more, rl one that is only read, ob is an instance that never changes, by its class's name, its attributes -/
inductive D where
  | non | bl (b : Bool) | int (i : Int) | str (x : Str)
  | fn (k : Nat) | tup (xs : List D) | fl (xs : List D) | rl (xs : List D) | ob (c : Str) (ks : List Str) (xs : List D) | tq (xs : List D)
  deriving Inhabited
/-- a value: plain data, or a cell of the store, or the k-th lambda that captures names, with what they hold -/
inductive A where
  | d (x : D) | ref (n : Nat) | fnc (k : Nat) (cs : List D)
  deriving Inhabited
/-- a cell: a list, an instance -/
inductive Cell where
  | lst (xs : List D) | ins (c : Str) (fs : List (Str × A))
  deriving Inhabited
abbrev Store := List Cell
inductive Exn where
  | x0 (c : Str) | x1 (c f : Str) (x : D)
  deriving Inhabited
/-- how a part ends -/
inductive R (α : Type) where
  | ok (a : α) (S : Store) | exc (e : Exn) (S : Store) | bad
  deriving Inhabited
def R.bind {α β : Type} (r : R α) (f : α → Store → R β) : R β :=
  match r with
  | .ok a S => f a S
  | .exc e S => .exc e S
  | .bad => .bad
abbrev Env := List (Option A)
/-- an expression's meaning -/
abbrev M (α : Type) := Env → Store → R α

/-- a function of an expression: F tells all but its body -/
def LamO (f : Addr) (F : NF) (b : Expr) : HO := .ext fun h => ∃ od sl pm ctv, h.get? f = some ⟨.type "function", od, .func (PySem.W.kla_fn F.name F.qual F.params b F.scope F.cl pm (.ref F.c) ctv), sl⟩
/-- a lambda that captures names: the function by its captured cells and its code's address; its body; the captured names -/
structure FC where
  nf : List (Str × Addr) → Addr → NF
  b : Expr
  fr : List Str
/-- a captured name's cell, which stays as it is -/
def PinO (c : Addr) (o : Obj) : HO := .ext fun h => h.get? c = some o
/-- the written part; the classes' addresses; what is written by the layer itself (a comprehension's list); the tables of code; the lambdas that are told by a number -/
structure Cc where
  K : Fr
  ca : Str → Addr
  z : List (Addr × List V) := []
  tb : List NTab := []
  fn : Nat → (Addr → NF) × Expr := fun _ => (fun c => ⟨"", "", ⟨[], [], none, [], [], none, []⟩, [], ⟨.function, [], false, false, []⟩, [], c⟩, .Constant .none 0 ⟨0, 0, 0, 0⟩)
  fc : Nat → FC := fun _ => ⟨fun _ c => ⟨"", "", ⟨[], [], none, [], [], none, []⟩, [], ⟨.function, [], false, false, []⟩, [], c⟩, .Constant .none 0 ⟨0, 0, 0, 0⟩, []⟩
def Cc.rows (C : Cc) : List Addr := C.z.map Prod.fst ++ C.tb.map Prod.fst
abbrev Cc.wz (C : Cc) (z : List (Addr × List V)) : Cc := { C with z := z }
/-- no cell, and not the layer's own -/
abbrev Off (C : Cc) (m : List Addr) (p : Addr) : Prop := p ∉ m ∧ p ∉ C.rows

/-- a tuple | a list that nothing changes -/
def TupAt (C : Cc) (m : List Addr) (H : Hp) (p : Addr) (vs : List V) : Prop :=
  (Rd H p (.tup vs) ∧ Off C m p) ∨ SqT C.K (fun _ => none) p vs
def LstAt (C : Cc) (m : List Addr) (H : Hp) (p : Addr) (vs : List V) : Prop :=
  (Rd H p (.lst vs) ∧ Off C m p) ∨ SqL C.K (fun _ => none) p vs
theorem TupAt.sq {C : Cc} {m : List Addr} {H : Hp} {p : Addr} {vs : List V} (h : TupAt C m H p vs) : SqT C.K H p vs := by
  rcases h with h | h
  · exact .inl h.1
  · rcases h with h | h
    · rcases h with h | ⟨o, h⟩ <;> cases h
    · exact .inr h
theorem LstAt.sq {C : Cc} {m : List Addr} {H : Hp} {p : Addr} {vs : List V} (h : LstAt C m H p vs) : SqL C.K H p vs := by
  rcases h with h | h
  · exact .inl h.1
  · rcases h with h | h
    · rcases h with h | ⟨o, h⟩ <;> cases h
    · exact .inr h

/-- from one state to a later one: what is not a cell stays -/
structure Ext (C : Cc) (m : List Addr) (H : Hp) (m' : List Addr) (H' : Hp) : Prop where
  pre : ∃ r, m' = m ++ r
  stay : ∀ p o, H p = some o → Off C m p → H' p = some o ∧ Off C m' p
theorem Ext.refl (C : Cc) (m : List Addr) (H : Hp) : Ext C m H m H := ⟨⟨[], by simp⟩, fun _ _ h n => ⟨h, n⟩⟩
theorem Ext.trans {C : Cc} {m m1 m2 : List Addr} {H H1 H2 : Hp} (a : Ext C m H m1 H1) (b : Ext C m1 H1 m2 H2) : Ext C m H m2 H2 := by
  obtain ⟨⟨r, rfl⟩, s⟩ := a
  obtain ⟨⟨r2, rfl⟩, s2⟩ := b
  exact ⟨⟨r ++ r2, by simp⟩, fun p o h n => s2 p o (s p o h n).1 (s p o h n).2⟩
theorem Ext.rd {C : Cc} {m m' : List Addr} {H H' : Hp} (e : Ext C m H m' H') {p : Addr} {u : HO} (h : Rd H p u ∧ Off C m p) : Rd H' p u ∧ Off C m' p := by
  obtain ⟨h | ⟨o, h⟩, n⟩ := h
  · exact ⟨.inl (e.stay _ _ h n).1, (e.stay _ _ h n).2⟩
  · exact ⟨.inr ⟨o, (e.stay _ _ h n).1⟩, (e.stay _ _ h n).2⟩
theorem TupAt.ext {C : Cc} {m m' : List Addr} {H H' : Hp} {p : Addr} {vs : List V} (e : Ext C m H m' H') (h : TupAt C m H p vs) : TupAt C m' H' p vs :=
  h.imp e.rd id
theorem LstAt.ext {C : Cc} {m m' : List Addr} {H H' : Hp} {p : Addr} {vs : List V} (e : Ext C m H m' H') (h : LstAt C m H p vs) : LstAt C m' H' p vs :=
  h.imp e.rd id

mutual
/-- the value v is the data d -/
def RD (C : Cc) (m : List Addr) (H : Hp) : D → V → Prop
  | .non, v => v = .non
  | .bl b, v => v = .bl b
  | .int i, v => v = .int i
  | .str x, v => v = .str x
  | .fn k, v => ∃ f c', v = .ref f ∧ H f = some (LamO f ((C.fn k).1 c') (C.fn k).2) ∧ Off C m f ∧ H ((C.fn k).1 c').c = some (CodeO ((C.fn k).1 c').c ((C.fn k).1 c').qual) ∧ Off C m ((C.fn k).1 c').c
  | .tup ds, v => ∃ p vs, v = .ref p ∧ TupAt C m H p vs ∧ RDs C m H ds vs
  | .fl ds, v => ∃ p vs, v = .ref p ∧ H p = some (.lst vs) ∧ Off C m p ∧ RDs C m H ds vs
  | .rl ds, v => ∃ p vs, v = .ref p ∧ LstAt C m H p vs ∧ RDs C m H ds vs
  | .ob c ks ds, v => ∃ p dx fs, v = .ref p ∧ H p = some (.ins (C.ca c) dx fs) ∧ Off C m p ∧ fs.map Prod.fst = ks ∧ RDs C m H ds (fs.map Prod.snd)
  | .tq ds, v => ∃ p o vs, v = .ref p ∧ H p = some (.frz o (.tup vs)) ∧ (o.cls = .type "tuple" ∧ o.dict = none) ∧ Off C m p ∧ RDs C m H ds vs
def RDs (C : Cc) (m : List Addr) (H : Hp) : List D → List V → Prop
  | [], vs => vs = []
  | d :: ds, vs => ∃ v r, vs = v :: r ∧ RD C m H d v ∧ RDs C m H ds r
end
mutual
theorem RD.ext {C : Cc} {m m' : List Addr} {H H' : Hp} (e : Ext C m H m' H') : ∀ {d : D} {v : V}, RD C m H d v → RD C m' H' d v
  | .non, _, h => h
  | .bl _, _, h => h
  | .int _, _, h => h
  | .str _, _, h => h
  | .fn k, _, h => by
    unfold RD at h ⊢
    obtain ⟨f, c', e1, h1, n1, h2, n2⟩ := h
    exact ⟨f, c', e1, (e.stay _ _ h1 n1).1, (e.stay _ _ h1 n1).2, (e.stay _ _ h2 n2).1, (e.stay _ _ h2 n2).2⟩
  | .tup ds, _, h => by
    unfold RD at h ⊢
    obtain ⟨p, vs, e1, h1, h2⟩ := h
    exact ⟨p, vs, e1, h1.ext e, RDs.ext e h2⟩
  | .fl ds, _, h => by
    unfold RD at h ⊢
    obtain ⟨p, vs, e1, h1, n, h2⟩ := h
    exact ⟨p, vs, e1, (e.stay _ _ h1 n).1, (e.stay _ _ h1 n).2, RDs.ext e h2⟩
  | .rl ds, _, h => by
    unfold RD at h ⊢
    obtain ⟨p, vs, e1, h1, h2⟩ := h
    exact ⟨p, vs, e1, h1.ext e, RDs.ext e h2⟩
  | .ob c ks ds, _, h => by
    unfold RD at h ⊢
    obtain ⟨p, dx, fs, e1, h1, n, h2, h3⟩ := h
    exact ⟨p, dx, fs, e1, (e.stay _ _ h1 n).1, (e.stay _ _ h1 n).2, h2, RDs.ext e h3⟩
  | .tq ds, _, h => by
    unfold RD at h ⊢
    obtain ⟨p, o, vs, e1, h1, k, n, h2⟩ := h
    exact ⟨p, o, vs, e1, (e.stay _ _ h1 n).1, k, (e.stay _ _ h1 n).2, RDs.ext e h2⟩
theorem RDs.ext {C : Cc} {m m' : List Addr} {H H' : Hp} (e : Ext C m H m' H') : ∀ {ds : List D} {vs : List V}, RDs C m H ds vs → RDs C m' H' ds vs
  | [], _, h => h
  | d :: ds, _, h => by
    unfold RDs at h ⊢
    obtain ⟨v, r, e1, h1, h2⟩ := h
    exact ⟨v, r, e1, RD.ext e h1, RDs.ext e h2⟩
end
section
variable {C : Cc} {m m' : List Addr} {H H' : Hp}
theorem RDs.len : ∀ {ds : List D} {vs : List V}, RDs C m H ds vs → ds.length = vs.length
  | [], _, h => by unfold RDs at h; subst h; rfl
  | d :: ds, _, h => by
    unfold RDs at h
    obtain ⟨v, r, rfl, _, h2⟩ := h
    simp [RDs.len h2]
theorem RDs.nil : RDs C m H [] [] := by unfold RDs; rfl
theorem RDs.cons {d : D} {v : V} {ds : List D} {vs : List V} (h : RD C m H d v) (t : RDs C m H ds vs) : RDs C m H (d :: ds) (v :: vs) := by
  unfold RDs; exact ⟨v, vs, rfl, h, t⟩
theorem RDs.get : ∀ {ds : List D} {vs : List V} {i : Nat} {d : D}, RDs C m H ds vs → ds[i]? = some d → ∃ v, vs[i]? = some v ∧ RD C m H d v
  | [], _, _, _, _, e => by simp at e
  | d :: ds, _, 0, _, h, e => by
    unfold RDs at h
    obtain ⟨v, r, rfl, h1, h2⟩ := h
    simp at e; subst e
    exact ⟨v, rfl, h1⟩
  | d :: ds, _, i + 1, _, h, e => by
    unfold RDs at h
    obtain ⟨v, r, rfl, h1, h2⟩ := h
    obtain ⟨w, h3, h4⟩ := RDs.get h2 (show ds[i]? = _ by simpa using e)
    exact ⟨w, by simpa using h3, h4⟩
theorem RDs.append : ∀ {ds es : List D} {vs ws : List V}, RDs C m H ds vs → RDs C m H es ws → RDs C m H (ds ++ es) (vs ++ ws)
  | [], _, _, _, h, t => by unfold RDs at h; subst h; exact t
  | d :: ds, _, _, _, h, t => by
    unfold RDs at h
    obtain ⟨v, r, rfl, h1, h2⟩ := h
    exact RDs.cons h1 (RDs.append h2 t)
theorem RDs.take : ∀ {ds : List D} {vs : List V} (n : Nat), RDs C m H ds vs → RDs C m H (ds.take n) (vs.take n)
  | _, _, 0, h => RDs.nil
  | [], _, n + 1, h => by unfold RDs at h; subst h; exact RDs.nil
  | d :: ds, _, n + 1, h => by
    unfold RDs at h
    obtain ⟨v, r, rfl, h1, h2⟩ := h
    exact RDs.cons h1 (RDs.take n h2)
theorem RDs.drop : ∀ {ds : List D} {vs : List V} (n : Nat), RDs C m H ds vs → RDs C m H (ds.drop n) (vs.drop n)
  | _, _, 0, h => h
  | [], _, n + 1, h => by unfold RDs at h; subst h; exact RDs.nil
  | d :: ds, _, n + 1, h => by
    unfold RDs at h
    obtain ⟨v, r, rfl, h1, h2⟩ := h
    exact RDs.drop n h2
theorem RDs.set {d : D} {v : V} (hd : RD C m H d v) : ∀ {ds : List D} {vs : List V} (i : Nat), RDs C m H ds vs → RDs C m H (ds.set i d) (vs.set i v)
  | [], _, _, h => by unfold RDs at h; subst h; exact RDs.nil
  | e :: ds, _, 0, h => by
    unfold RDs at h
    obtain ⟨w, r, rfl, h1, h2⟩ := h
    exact RDs.cons hd h2
  | e :: ds, _, i + 1, h => by
    unfold RDs at h
    obtain ⟨w, r, rfl, h1, h2⟩ := h
    exact RDs.cons h1 (RDs.set hd i h2)
theorem RDs.eraseIdx : ∀ {ds : List D} {vs : List V} (i : Nat), RDs C m H ds vs → RDs C m H (ds.eraseIdx i) (vs.eraseIdx i)
  | [], _, _, h => by unfold RDs at h; subst h; exact RDs.nil
  | e :: ds, _, 0, h => by
    unfold RDs at h
    obtain ⟨w, r, rfl, h1, h2⟩ := h
    exact h2
  | e :: ds, _, i + 1, h => by
    unfold RDs at h
    obtain ⟨w, r, rfl, h1, h2⟩ := h
    exact RDs.cons h1 (RDs.eraseIdx i h2)
theorem RDs.reverse : ∀ {ds : List D} {vs : List V}, RDs C m H ds vs → RDs C m H ds.reverse vs.reverse
  | [], _, h => by unfold RDs at h; subst h; exact RDs.nil
  | d :: ds, _, h => by
    unfold RDs at h
    obtain ⟨v, r, rfl, h1, h2⟩ := h
    rw [List.reverse_cons, List.reverse_cons]
    exact (RDs.reverse h2).append (RDs.cons h1 RDs.nil)
theorem RDs.rep : ∀ {ds : List D} {vs : List V} (k : Nat), RDs C m H ds vs → RDs C m H (List.replicate k ds).flatten (List.replicate k vs).flatten
  | _, _, 0, _ => RDs.nil
  | _, _, k + 1, h => by
    rw [List.replicate_succ, List.replicate_succ, List.flatten_cons, List.flatten_cons]
    exact h.append (RDs.rep k h)

/-- what the captured cells hold -/
structure Cap (C : Cc) (m : List Addr) (H : Hp) (fr : List Str) (cl : List (Str × Addr)) (cs : List D) (ws : List V) : Prop where
  len : ws.length = fr.length
  rd : RDs C m H cs ws
  all : ∀ y c, cl.lookup y = some c → ∃ o v, H c = some (PinO c o) ∧ Off C m c ∧ o.data = .cell v
  inj : ∀ x y c, cl.lookup x = some c → cl.lookup y = some c → x = y
  has : ∀ (i : Nat) (y : Str) (v : V), fr[i]? = some y → ws[i]? = some v → ∃ c o u, cl.lookup y = some c ∧ H c = some (PinO c o) ∧ o.data = .cell (some u) ∧ RelV v u
  hal : ∀ y ∈ fr, ∃ c, cl.lookup y = some c
theorem Cap.ext {fr : List Str} {cl : List (Str × Addr)} {cs : List D} {ws : List V} (e : Ext C m H m' H') (h : Cap C m H fr cl cs ws) : Cap C m' H' fr cl cs ws :=
  ⟨h.len, h.rd.ext e, fun y c k => by
    obtain ⟨o, v, h1, h2, h3⟩ := h.all y c k
    exact ⟨o, v, (e.stay _ _ h1 h2).1, (e.stay _ _ h1 h2).2, h3⟩, h.inj, fun i y d k1 k2 => by
    obtain ⟨c, o, u, h1, h2, h3, h4⟩ := h.has i y d k1 k2
    obtain ⟨o', v', g1, g2, _⟩ := h.all y c h1
    exact ⟨c, o, u, h1, (e.stay _ _ h2 g2).1, h3, h4⟩, h.hal⟩
def RA (C : Cc) (m : List Addr) (H : Hp) : A → V → Prop
  | .d x, v => RD C m H x v
  | .ref n, v => ∃ p, m[n]? = some p ∧ v = .ref p
  | .fnc k cs, v => ∃ f c' cl ws, v = .ref f ∧ H f = some (LamO f ((C.fc k).nf cl c') (C.fc k).b) ∧ Off C m f ∧ H ((C.fc k).nf cl c').c = some (CodeO ((C.fc k).nf cl c').c ((C.fc k).nf cl c').qual) ∧ Off C m ((C.fc k).nf cl c').c ∧ Cap C m H (C.fc k).fr cl cs ws
theorem Ext.at_ (e : Ext C m H m' H') {n : Nat} {p : Addr} (h : m[n]? = some p) : m'[n]? = some p := by
  obtain ⟨r, rfl⟩ := e.pre
  rw [List.getElem?_append_left (List.getElem?_eq_some_iff.mp h).1]
  exact h
theorem RA.ext (e : Ext C m H m' H') {a : A} {v : V} (h : RA C m H a v) : RA C m' H' a v := by
  cases a with
  | d x => exact RD.ext e h
  | ref n =>
    obtain ⟨p, h1, h2⟩ := h
    exact ⟨p, e.at_ h1, h2⟩
  | fnc k cs =>
    obtain ⟨f, c', cl, ws, h1, h2, h3, h4, h5, h6⟩ := h
    exact ⟨f, c', cl, ws, h1, (e.stay _ _ h2 h3).1, (e.stay _ _ h2 h3).2, (e.stay _ _ h4 h5).1, (e.stay _ _ h4 h5).2, h6.ext e⟩
/-- attributes, values | lists of them, one by one -/
abbrev RAs (C : Cc) (m : List Addr) (H : Hp) : List A → List V → Prop := Paired (RA C m H)
theorem RAs.ext (e : Ext C m H m' H') : ∀ {as : List A} {vs : List V}, RAs C m H as vs → RAs C m' H' as vs
  | _, _, .nil => .nil
  | _, _, .cons h t => .cons (RA.ext e h) (RAs.ext e t)
def RF (C : Cc) (m : List Addr) (H : Hp) (fs : List (Str × A)) (gs : List (Str × V)) : Prop :=
  Paired (fun (p : Str × A) (q : Str × V) => p.1 = q.1 ∧ RA C m H p.2 q.2) fs gs
theorem RF.ext (e : Ext C m H m' H') : ∀ {fs : List (Str × A)} {gs : List (Str × V)}, RF C m H fs gs → RF C m' H' fs gs
  | _, _, .nil => .nil
  | _, _, .cons h t => .cons ⟨h.1, RA.ext e h.2⟩ (RF.ext e t)
/-- what stands for a cell -/
def RC (C : Cc) (m : List Addr) (H : Hp) (p : Addr) : Cell → Prop
  | .lst ds => ∃ vs, H p = some (.lst vs) ∧ RDs C m H ds vs
  | .ins c fs => ∃ dx gs, H p = some (.ins (C.ca c) dx gs) ∧ RF C m H fs gs
/-- the store stands at m -/
structure RS (C : Cc) (m : List Addr) (S : Store) (H : Hp) : Prop where
  len : m.length = S.length
  nd : m.Nodup
  own : ∀ q ∈ C.z, q.1 ∉ m ∧ H q.1 = some (.lst q.2)
  cell : ∀ (n : Nat) (o : Cell) (p : Addr), S[n]? = some o → m[n]? = some p → RC C m H p o
  tab : ∀ q ∈ C.tb, q.1 ∉ m ∧ TabN H q.1 q.2
/-- the slots -/
structure RE (C : Cc) (m : List Addr) (H : Hp) (ρ : Env) (σ : L2.St) : Prop where
  len : ρ.length = σ.length
  at_ : ∀ (i : Nat) (a : A), ρ[i]? = some (some a) → ∃ v, σ[i]? = some (some v) ∧ RA C m H a v
theorem RE.ext {ρ : Env} {σ : L2.St} (e : Ext C m H m' H') (r : RE C m H ρ σ) : RE C m' H' ρ σ :=
  ⟨r.len, fun i a h => let ⟨v, h1, h2⟩ := r.at_ i a h; ⟨v, h1, h2.ext e⟩⟩
theorem RE.set {ρ : Env} {σ : L2.St} (r : RE C m H ρ σ) (i : Nat) {a : A} {v : V} (h : RA C m H a v) : RE C m H (ρ.set i (some a)) (σ.set i (some v)) := by
  refine ⟨by rw [List.length_set, List.length_set, r.len], fun j b hb => ?_⟩
  by_cases hj : i = j
  · subst hj
    have hl : i < ρ.length := by
      have := (List.getElem?_eq_some_iff.mp hb).1
      rwa [List.length_set] at this
    rw [List.getElem?_set_self hl] at hb
    have hb : a = b := by simpa using hb
    subst hb
    exact ⟨v, by rw [List.getElem?_set_self (by rw [← r.len]; exact hl)], h⟩
  · rw [List.getElem?_set_ne hj] at hb
    obtain ⟨w, h1, h2⟩ := r.at_ j b hb
    exact ⟨w, by rw [List.getElem?_set_ne hj]; exact h1, h2⟩
end
end RS
end

section
set_option maxRecDepth 100000
set_option maxHeartbeats 4000000
/-! What a meaning asks of the layer: readings of expressions, tests, argument lists, statements by their meanings. -/
namespace RS
open PySem PySem.Spec PyProof.Rows L2 NdefX LamX

/-! ### the store's steps -/
section
variable {C : Cc} {m m' : List Addr} {S S' : Store} {H H' : Hp}
theorem RS.get (r : RS C m S H) {n : Nat} {o : Cell} (h : S[n]? = some o) : ∃ p, m[n]? = some p ∧ RC C m H p o := by
  have hl : n < m.length := by rw [r.len]; exact (List.getElem?_eq_some_iff.mp h).1
  exact ⟨m[n], List.getElem?_eq_getElem hl, r.cell n o _ h (List.getElem?_eq_getElem hl)⟩
theorem RC.alive {p : Addr} {o : Cell} (h : RC C m H p o) : ∃ u, H p = some u ∧ Mut (some u) := by
  cases o with
  | lst ds => obtain ⟨vs, h, _⟩ := h; exact ⟨_, h, trivial⟩
  | ins c fs => obtain ⟨dx, gs, h, _⟩ := h; exact ⟨_, h, trivial⟩
theorem RS.live (r : RS C m S H) {p : Addr} (h : p ∈ m) : ∃ u, H p = some u ∧ Mut (some u) := by
  obtain ⟨n, hn⟩ := List.getElem?_of_mem h
  have hl : n < S.length := by rw [← r.len]; exact (List.getElem?_eq_some_iff.mp hn).1
  exact (r.cell n _ p (List.getElem?_eq_getElem hl) hn).alive
theorem RS.out (r : RS C m S H) {p : Addr} (h : H p = none) : Off C m p := by
  constructor
  · intro q
    obtain ⟨u, e, _⟩ := r.live q
    rw [h] at e
    cases e
  · intro q
    rcases List.mem_append.mp q with q | q
    · obtain ⟨⟨a, vs⟩, h1, h2⟩ := List.mem_map.mp q
      obtain ⟨_, e⟩ := r.own _ h1
      have h2 : a = p := h2
      subst h2
      rw [h] at e
      cases e
    · obtain ⟨⟨a, nm⟩, h1, h2⟩ := List.mem_map.mp q
      obtain ⟨_, ps, e, _⟩ := r.tab _ h1
      have h2 : a = p := h2
      subst h2
      rw [h] at e
      cases e
theorem RC.ext (e : Ext C m H m' H') {p : Addr} {o : Cell} (h : RC C m H p o) (k : H' p = H p) : RC C m' H' p o := by
  cases o with
  | lst ds => obtain ⟨vs, h, r⟩ := h; exact ⟨vs, k.trans h, RDs.ext e r⟩
  | ins c fs => obtain ⟨dx, gs, h, r⟩ := h; exact ⟨dx, gs, k.trans h, RF.ext e r⟩
/-- something new, that is no cell -/
theorem Ext.new (r : RS C m S H) {p : Addr} {o : HO} (h : H p = none) : Ext C m H m (upd H p o) :=
  ⟨⟨[], by simp⟩, fun q u e n => ⟨by rw [upd_ne (ne_of_none e h)]; exact e, n⟩⟩
theorem tab_new {p P : Addr} {o : HO} {nm : Nat → Nat → Str} (h : H p = none) (t : TabN H P nm) : TabN (upd H p o) P nm := t.ext fun b u e => by rw [upd_ne (ne_of_none e h)]; exact e
theorem tab_put {p P : Addr} {o : HO} {nm : Nat → Nat → Str} (h : ∀ φ, H p ≠ some (.ext φ)) (n : P ≠ p) (t : TabN H P nm) : TabN (upd H p o) P nm := by
  obtain ⟨ps, h1, h2, h3⟩ := t
  refine ⟨ps, by rw [upd_ne n]; exact h1, h2, fun pos cv e => ?_⟩
  obtain ⟨c, e1, e2⟩ := h3 pos cv e
  exact ⟨c, e1, by rw [upd_ne (fun z => h _ (z ▸ e2))]; exact e2⟩
theorem RC.noext {p : Addr} {o : Cell} (h : RC C m H p o) : ∀ φ, H p ≠ some (.ext φ) := by
  cases o with
  | lst ds => obtain ⟨vs, h, _⟩ := h; intro φ e; rw [h] at e; cases e
  | ins c fs => obtain ⟨dx, gs, h, _⟩ := h; intro φ e; rw [h] at e; cases e
theorem RS.new (r : RS C m S H) {p : Addr} {o : HO} (h : H p = none) : RS C m S (upd H p o) :=
  ⟨r.len, r.nd, fun q hq => by
    obtain ⟨n, e⟩ := r.own q hq
    exact ⟨n, by rw [upd_ne (ne_of_none e h)]; exact e⟩, fun n c q h1 h2 => (r.cell n c q h1 h2).ext (Ext.new r h) (by
    rw [upd_ne]
    exact fun e => (r.out h).1 (e ▸ List.mem_of_getElem? h2)), fun q hq => ⟨(r.tab q hq).1, tab_new h (r.tab q hq).2⟩⟩
/-- a new cell -/
theorem Ext.cell (r : RS C m S H) {p : Addr} {o : HO} (h : H p = none) : Ext C m H (m ++ [p]) (upd H p o) :=
  ⟨⟨[p], rfl⟩, fun q u e n => ⟨by rw [upd_ne (ne_of_none e h)]; exact e, by
    refine ⟨?_, n.2⟩
    rw [List.mem_append, List.mem_singleton]
    rintro (z | z)
    · exact n.1 z
    · subst z; rw [h] at e; cases e⟩⟩
theorem RS.more (r : RS C m S H) {p : Addr} {o : HO} {c : Cell} (h : H p = none) (hc : RC C (m ++ [p]) (upd H p o) p c) : RS C (m ++ [p]) (S ++ [c]) (upd H p o) := by
  have nm := r.out h
  refine ⟨by rw [List.length_append, List.length_append, r.len]; rfl, ?_, fun q hq => ?_, fun n d q h1 h2 => ?_, fun q hq => ?_⟩
  rotate_left 3
  · obtain ⟨a, b⟩ := r.tab q hq
    refine ⟨?_, tab_new h b⟩
    obtain ⟨ps, e, _⟩ := b
    have hne := ne_of_none e h
    simp [a, hne]
  · rw [List.nodup_append]
    exact ⟨r.nd, by simp, fun a ha b hb => by
      have e : b = p := by simpa using hb
      subst e
      exact fun z => nm.1 (z ▸ ha)⟩
  · obtain ⟨n, e⟩ := r.own q hq
    have hne := ne_of_none e h
    exact ⟨by simp [n, hne], by rw [upd_ne hne]; exact e⟩
  · by_cases hn : n < S.length
    · rw [List.getElem?_append_left hn] at h1
      rw [List.getElem?_append_left (by rw [r.len]; exact hn)] at h2
      exact (r.cell n d q h1 h2).ext (Ext.cell r h) (by
        rw [upd_ne]
        exact fun e => nm.1 (e ▸ List.mem_of_getElem? h2))
    · have hn' : n = S.length := by
        have := (List.getElem?_eq_some_iff.mp h1).1
        rw [List.length_append, List.length_singleton] at this
        omega
      subst hn'
      rw [List.getElem?_append_right (Nat.le_refl _), Nat.sub_self] at h1
      rw [List.getElem?_append_right (by rw [r.len]; exact Nat.le_refl _), r.len, Nat.sub_self] at h2
      have e1 : c = d := by simpa using h1
      have e2 : p = q := by simpa using h2
      subst e1; subst e2
      exact hc
/-- a cell changes -/
theorem Ext.put (r : RS C m S H) {n : Nat} {p : Addr} {o : HO} (h : m[n]? = some p) : Ext C m H m (upd H p o) :=
  ⟨⟨[], by simp⟩, fun q u e k => ⟨by rw [upd_ne]; exact e; exact fun z => k.1 (z ▸ List.mem_of_getElem? h), k⟩⟩
theorem RS.put (r : RS C m S H) {n : Nat} {p : Addr} {o : HO} {c : Cell} (h : m[n]? = some p) (hc : RC C m (upd H p o) p c) : RS C m (S.set n c) (upd H p o) := by
  have hlS : n < S.length := by rw [← r.len]; exact (List.getElem?_eq_some_iff.mp h).1
  have nx := (r.cell n _ p (List.getElem?_eq_getElem hlS) h).noext
  refine ⟨by rw [List.length_set, r.len], r.nd, fun q hq => ?_, fun k d q h1 h2 => ?_, fun q hq => ⟨(r.tab q hq).1, tab_put nx (fun z => (r.tab q hq).1 (z ▸ List.mem_of_getElem? h)) (r.tab q hq).2⟩⟩
  · obtain ⟨k, e⟩ := r.own q hq
    have hne : q.1 ≠ p := fun z => by
      rw [z] at k
      exact k (List.mem_of_getElem? h)
    exact ⟨k, by rw [upd_ne hne]; exact e⟩
  · by_cases hk : n = k
    · subst hk
      rw [h] at h2
      cases h2
      have hl : n < S.length := by rw [← r.len]; exact (List.getElem?_eq_some_iff.mp h).1
      rw [List.getElem?_set_self hl] at h1
      cases h1
      exact hc
    · rw [List.getElem?_set_ne hk] at h1
      refine (r.cell k d q h1 h2).ext (Ext.put r h) ?_
      rw [upd_ne]
      intro z
      subst z
      exact hk ((List.getElem?_inj (List.getElem?_eq_some_iff.mp h).1 r.nd).mp (h.trans h2.symm))
/-- fewer cells are looked at -/
theorem RS.cut (r : RS C m S H) (n : Nat) (h : ∀ k o, k < n → S[k]? = some o → ∀ p, RC C m H p o → RC C (m.take n) H p o) : RS C (m.take n) (S.take n) H := by
  refine ⟨by rw [List.length_take, List.length_take, r.len], r.nd.sublist (List.take_sublist _ _), fun q hq => ?_, fun k o p h1 h2 => ?_, fun q hq => ⟨fun z => (r.tab q hq).1 (List.mem_of_mem_take z), (r.tab q hq).2⟩⟩
  · exact ⟨fun z => (r.own q hq).1 (List.mem_of_mem_take z), (r.own q hq).2⟩
  · rw [List.getElem?_take] at h1 h2
    split at h1
    · rename_i hk
      rw [if_pos hk] at h2
      exact h k o hk h1 p (r.cell k o p h1 h2)
    · cases h1
end

/-! ### what a result asks -/
section
variable (C : Cc) (E : XK)
def WpX (m : List Addr) (H : Hp) (S : Store) : Exn → Prop
  | .x0 c => ∀ m' H', Ext C m H m' H' → RS C m' S H' → E (.ref (C.ca c)) none H'
  | .x1 c f d => ∀ m' H' dx v, Ext C m H m' H' → RS C m' S H' → H' dx = some (.xd [(f, v)]) → RD C m' H' d v → E (.ref (C.ca c)) (some dx) H'
def WpG {α β : Type} (rel : List Addr → Hp → α → β → Prop) (m : List Addr) (H : Hp) (r : R α) (Q : β → Hp → Prop) : Prop :=
  match r with
  | .ok a S => ∀ m' H' b, Ext C m H m' H' → RS C m' S H' → rel m' H' a b → Q b H'
  | .exc e S => WpX C E m H S e
  | .bad => False
end
section
variable {C : Cc} {E : XK} {α β γ δ : Type} {rel : List Addr → Hp → α → β → Prop} {rel2 : List Addr → Hp → γ → δ → Prop} {m m1 : List Addr} {H H1 : Hp}
theorem WpX.ext (e : Ext C m H m1 H1) {S : Store} {x : Exn} (h : WpX C E m H S x) : WpX C E m1 H1 S x := by
  cases x with
  | x0 c => exact fun m' H' e' r => h m' H' (e.trans e') r
  | x1 c f d => exact fun m' H' dx v e' r => h m' H' dx v (e.trans e') r
theorem WpG.ext (e : Ext C m H m1 H1) {r : R α} {Q : β → Hp → Prop} (h : WpG C E rel m H r Q) : WpG C E rel m1 H1 r Q := by
  cases r with
  | ok a S => exact fun m' H' b e' r => h m' H' b (e.trans e') r
  | exc x S => exact WpX.ext e h
  | bad => exact h
theorem WpG.imp {r : R α} {Q Q' : β → Hp → Prop} (h : WpG C E rel m H r Q) (k : ∀ b H', Q b H' → Q' b H') : WpG C E rel m H r Q' := by
  cases r with
  | ok a S => exact fun m' H' b e' r q => k _ _ (h m' H' b e' r q)
  | exc x S => exact h
  | bad => exact h
theorem WpG.bind {r : R α} {f : α → Store → R γ} {Q : δ → Hp → Prop} (h : WpG C E rel2 m H (r.bind f) Q) :
    WpG C E rel m H r fun b H1 => ∃ m1 S1 a, Ext C m H m1 H1 ∧ RS C m1 S1 H1 ∧ rel m1 H1 a b ∧ WpG C E rel2 m1 H1 (f a S1) Q := by
  cases r with
  | ok a S => exact fun m' H' b e r q => ⟨m', S, a, e, r, q, WpG.ext e h⟩
  | exc x S => exact h
  | bad => exact h
end

/-! ### readings -/
section
variable (C : Cc) (E : XK)
abbrev Wp := WpG C E (RA C)
abbrev RB : List Addr → Hp → Bool → Bool → Prop := fun _ _ a b => a = b
def tE (f : M A) : TE := fun σ H Q => ∃ m S ρ, RS C m S H ∧ RE C m H ρ σ ∧ WpG C E (RA C) m H (f ρ S) Q
def tT (f : M Bool) : TT := fun σ H Q => ∃ m S ρ, RS C m S H ∧ RE C m H ρ σ ∧ WpG C E RB m H (f ρ S) Q
def tA (f : M (List A)) : TA := fun σ H Q => ∃ m S ρ, RS C m S H ∧ RE C m H ρ σ ∧ WpG C E (RAs C) m H (f ρ S) Q
/-- where a statement goes -/
inductive Fl where
  | nx (ρ : Env) | rt (a : A) | bk (ρ : Env) | ct (ρ : Env)
  deriving Inhabited
/-- .. in the layer's words -/
inductive Out where
  | nx (σ : L2.St) | rt (v : V) | bk (σ : L2.St) | ct (σ : L2.St)
def RFl (m : List Addr) (H : Hp) : Fl → Out → Prop
  | .nx ρ, .nx σ => RE C m H ρ σ
  | .bk ρ, .bk σ => RE C m H ρ σ
  | .ct ρ, .ct σ => RE C m H ρ σ
  | .rt a, .rt v => RA C m H a v
  | _, _ => False
def outs (Dn : Ends) : Out → Hp → Prop
  | .nx σ, H => Dn.nx σ H
  | .rt v, H => Dn.rt v H
  | .bk σ, H => Dn.bk σ H
  | .ct σ, H => Dn.ct σ H
def tSt (f : M Fl) : TS := fun Dn σ H => ∃ m S ρ, RS C m S H ∧ RE C m H ρ σ ∧ WpG C E (RFl C) m H (f ρ S) (outs Dn)
/-- a target -/
def tG (g : A → M Env) : TG := fun v σ H Q => ∃ m S ρ a, RS C m S H ∧ RE C m H ρ σ ∧ RA C m H a v ∧
  WpG C E (fun m' H' ρ' σ' => RE C m' H' ρ' σ') m H (g a ρ S) Q
end

/-! ### judgements -/
section
variable (C : Cc) (E : XK) (X : Cx)
abbrev SE (e : Expr) (f : M A) : Prop := PE X e (tE C E f)
abbrev ST (e : Expr) (f : M Bool) : Prop := PT X e (tT C E f)
abbrev SW (e : Expr) (f : M Bool) : Prop := PW X e (tT C E f)
abbrev SA (es : List Expr) (f : M (List A)) : Prop := PA X es (tA C E f)
abbrev SS (s : Stmt) (f : M Fl) : Prop := PS X s (tSt C E f)
abbrev SSs (ss : List Stmt) (f : M Fl) : Prop := PSs X ss (tSt C E f)
abbrev SG (t : Expr) (g : A → M Env) : Prop := PG X t (tG C E g)
end
theorem pe_imp {X : Cx} {e : Expr} {t t' : TE} (h : PE X e t) (k : ∀ σ H Q, t' σ H Q → t σ H Q) : PE X e t' :=
  ⟨fun pins s σ H Q I q => h.run pins s σ H Q I (k _ _ _ q)⟩
theorem pt_imp {X : Cx} {e : Expr} {t t' : TT} (h : PT X e t) (k : ∀ σ H Q, t' σ H Q → t σ H Q) : PT X e t' :=
  ⟨fun pins s σ H Q I q => h.run pins s σ H Q I (k _ _ _ q)⟩
theorem pw_imp {X : Cx} {e : Expr} {t t' : TT} (h : PW X e t) (k : ∀ σ H Q, t' σ H Q → t σ H Q) : PW X e t' :=
  ⟨fun wh pins s σ H Q I q => h.run wh pins s σ H Q I (k _ _ _ q)⟩
theorem pa_imp {X : Cx} {es : List Expr} {t t' : TA} (h : PA X es t) (k : ∀ σ H Q, t' σ H Q → t σ H Q) : PA X es t' :=
  ⟨fun pos pins s σ H Q I q => h.run pos pins s σ H Q I (k _ _ _ q)⟩
theorem ps_imp {X : Cx} {st : Stmt} {t t' : TS} (h : PS X st t) (k : ∀ Dn σ H, t' Dn σ H → t Dn σ H) : PS X st t' :=
  ⟨fun pins s σ H Dn I q => h.run pins s σ H Dn I (k _ _ _ q)⟩
theorem pss_imp {X : Cx} {st : List Stmt} {t t' : TS} (h : PSs X st t) (k : ∀ Dn σ H, t' Dn σ H → t Dn σ H) : PSs X st t' :=
  ⟨fun pins s σ H Dn I q => h.run pins s σ H Dn I (k _ _ _ q)⟩
theorem pg_imp {X : Cx} {e : Expr} {t t' : TG} (h : PG X e t) (k : ∀ v σ H Q, t' v σ H Q → t v σ H Q) : PG X e t' :=
  ⟨fun pins s σ H v u Q I r q => h.run pins s σ H v u Q I r (k _ _ _ _ q)⟩

/-! ### one behind another -/
section
variable {C : Cc} {E : XK} {σ : L2.St} {H : Hp}
theorem tE_of {f : M A} {m : List Addr} {S : Store} {ρ : Env} {Q : VK} (r : RS C m S H) (e : RE C m H ρ σ) (w : WpG C E (RA C) m H (f ρ S) Q) : tE C E f σ H Q := ⟨m, S, ρ, r, e, w⟩
theorem tE_then {γ δ : Type} {rel2 : List Addr → Hp → γ → δ → Prop} {f : M A} {g : A → M γ} {m : List Addr} {S : Store} {ρ : Env} {Q : δ → Hp → Prop} {K : VK} (r : RS C m S H) (e : RE C m H ρ σ) (w : WpG C E rel2 m H ((f ρ S).bind fun a S1 => g a ρ S1) Q)
    (k : ∀ m1 S1 a v H1, Ext C m H m1 H1 → RS C m1 S1 H1 → RE C m1 H1 ρ σ → RA C m1 H1 a v → WpG C E rel2 m1 H1 (g a ρ S1) Q → K v H1) : tE C E f σ H K :=
  ⟨m, S, ρ, r, e, w.bind.imp fun v H1 ⟨m1, S1, a, x, r1, q, w1⟩ => k m1 S1 a v H1 x r1 (e.ext x) q w1⟩
theorem tA_then {γ δ : Type} {rel2 : List Addr → Hp → γ → δ → Prop} {f : M (List A)} {g : List A → M γ} {m : List Addr} {S : Store} {ρ : Env} {Q : δ → Hp → Prop} {K : List V → Hp → Prop} (r : RS C m S H) (e : RE C m H ρ σ) (w : WpG C E rel2 m H ((f ρ S).bind fun a S1 => g a ρ S1) Q)
    (k : ∀ m1 S1 a v H1, Ext C m H m1 H1 → RS C m1 S1 H1 → RE C m1 H1 ρ σ → RAs C m1 H1 a v → WpG C E rel2 m1 H1 (g a ρ S1) Q → K v H1) : tA C E f σ H K :=
  ⟨m, S, ρ, r, e, w.bind.imp fun v H1 ⟨m1, S1, a, x, r1, q, w1⟩ => k m1 S1 a v H1 x r1 (e.ext x) q w1⟩
theorem tT_then {γ δ : Type} {rel2 : List Addr → Hp → γ → δ → Prop} {f : M Bool} {g : Bool → M γ} {m : List Addr} {S : Store} {ρ : Env} {Q : δ → Hp → Prop} {K : Bool → Hp → Prop} (r : RS C m S H) (e : RE C m H ρ σ) (w : WpG C E rel2 m H ((f ρ S).bind fun a S1 => g a ρ S1) Q)
    (k : ∀ m1 S1 b H1, Ext C m H m1 H1 → RS C m1 S1 H1 → RE C m1 H1 ρ σ → WpG C E rel2 m1 H1 (g b ρ S1) Q → K b H1) : tT C E f σ H K :=
  ⟨m, S, ρ, r, e, w.bind.imp fun v H1 ⟨m1, S1, a, x, r1, q, w1⟩ => by
    have q : a = v := q
    subst q
    exact k m1 S1 a H1 x r1 (e.ext x) w1⟩
end
end RS
end

section
set_option maxRecDepth 100000
set_option maxHeartbeats 4000000
/-! Expressions by their meanings. -/
namespace RS
open PySem PySem.Spec PyProof.Rows L2

variable {C : Cc} {E : XK} {X : Cx}

/-! ### shapes -/
def bin (p : A → A → Store → R A) (fa fb : M A) : M A := fun ρ S => (fa ρ S).bind fun a S1 => (fb ρ S1).bind fun b S2 => p a b S2
def una (p : A → Store → R A) (fa : M A) : M A := fun ρ S => (fa ρ S).bind fun a S1 => p a S1
/-- what a rule of two values must show -/
def Bin2 (C : Cc) (E : XK) (r : R2) (p : A → A → Store → R A) : Prop :=
  ∀ m S H a b x y Q, RS C m S H → RA C m H a x → RA C m H b y → WpG C E (RA C) m H (p a b S) Q → r x y H Q
def Una1 (C : Cc) (E : XK) (r : V → Hp → VK → Prop) (p : A → Store → R A) : Prop :=
  ∀ m S H a x Q, RS C m S H → RA C m H a x → WpG C E (RA C) m H (p a S) Q → r x H Q
theorem t_bin {r : R2} {p : A → A → Store → R A} {fa fb : M A} (hp : Bin2 C E r p) {σ : L2.St} {H : Hp} {Q : VK} (h : tE C E (bin p fa fb) σ H Q) : tOp r (tE C E fa) (tE C E fb) σ H Q := by
  obtain ⟨m, S, ρ, hs, he, w⟩ := h
  refine tE_then (g := fun a ρ S1 => (fb ρ S1).bind fun b S2 => p a b S2) hs he w fun m1 S1 a v H1 x1 r1 e1 q1 w1 => ?_
  exact tE_then (g := fun b ρ S2 => p a b S2) r1 e1 w1 fun m2 S2 b u H2 x2 r2 e2 q2 w2 => hp m2 S2 H2 a b v u Q r2 (q1.ext x2) q2 w2
theorem t_una {r : V → Hp → VK → Prop} {p : A → Store → R A} {fa : M A} (hp : Una1 C E r p) {σ : L2.St} {H : Hp} {Q : VK} (h : tE C E (una p fa) σ H Q) : tUn r (tE C E fa) σ H Q := by
  obtain ⟨m, S, ρ, hs, he, w⟩ := h
  exact tE_then (g := fun a ρ S1 => p a S1) hs he w fun m1 S1 a v H1 x1 r1 e1 q1 w1 => hp m1 S1 H1 a v Q r1 q1 w1

/-! ### names, constants -/
def cVar (i : Nat) : M A := fun ρ S => match ρ[i]? with
  | some (some a) => .ok a S
  | _ => .bad
def cK (d : D) : M A := fun _ S => .ok (.d d) S
theorem wp_ok {m : List Addr} {S : Store} {H : Hp} {a : A} {v : V} {Q : VK} (r : RS C m S H) (q : RA C m H a v) (w : WpG C E (RA C) m H (.ok a S) Q) : Q v H := w m H v (Ext.refl C m H) r q
theorem se_var (i : Nat) {x : Str} {pos : Pos} (hN : X.N[i]? = some x) (hv : Vis X.env.scope x) (hd : (x == ("__debug__" : Str)) = false := by decide)
    (hcd : (x == ("__classdict__" : Str)) = false := by decide) : SE C E X (.Name x pos) (cVar i) := by
  refine pe_imp (pe_var hN hv hd hcd) fun σ H Q ⟨m, S, ρ, hs, he, w⟩ => ?_
  unfold cVar at w
  split at w
  · rename_i a ha
    obtain ⟨v, h1, h2⟩ := he.at_ i a ha
    exact ⟨v, h1, wp_ok hs h2 w⟩
  · exact False.elim w
theorem t_k {d : D} {v : V} (h : ∀ m H, RD C m H d v) {σ : L2.St} {H : Hp} {Q : VK} (t : tE C E (cK d) σ H Q) : tC v σ H Q := by
  obtain ⟨m, S, ρ, hs, he, w⟩ := t
  exact wp_ok (a := .d d) hs (h m H) w
theorem se_int {i : Int} {j pos} : SE C E X (.Constant (.int i) j pos) (cK (.int i)) := pe_imp pe_int fun _ _ _ t => t_k (fun _ _ => by simp [RD]) t
theorem se_bl {b : Bool} {j pos} : SE C E X (.Constant (.bool b) j pos) (cK (.bl b)) := pe_imp pe_bl fun _ _ _ t => t_k (fun _ _ => by simp [RD]) t
theorem se_non {j pos} : SE C E X (.Constant .none j pos) (cK .non) := pe_imp pe_non fun _ _ _ t => t_k (fun _ _ => by simp [RD]) t
theorem se_str {x : Str} {j pos} : SE C E X (.Constant (.str x) j pos) (cK (.str x)) := pe_imp pe_str fun _ _ _ t => t_k (fun _ _ => by simp [RD]) t
/-- a module's whole number -/
theorem se_gint {x : Str} {i : Int} {pos : Pos} (hg : Gl X x) (hm : ∃ t, X.mg x = some (.int i t)) (hd : (x == ("__debug__" : Str)) = false := by decide) : SE C E X (.Name x pos) (cK (.int i)) := by
  obtain ⟨t, hm⟩ := hm
  exact pe_imp (pe_glob hg hm (v := .int i) ⟨t, rfl⟩ hd) fun _ _ _ z => t_k (fun _ _ => by simp [RD]) z

/-! ### what a value is -/
section
variable {m : List Addr} {H : Hp} {v : V}
theorem RA.int {i : Int} (h : RA C m H (.d (.int i)) v) : v = .int i := by simpa [RA, RD] using h
theorem RA.bl {b : Bool} (h : RA C m H (.d (.bl b)) v) : v = .bl b := by simpa [RA, RD] using h
theorem RA.str {x : Str} (h : RA C m H (.d (.str x)) v) : v = .str x := by simpa [RA, RD] using h
theorem RA.non (h : RA C m H (.d .non) v) : v = .non := by simpa [RA, RD] using h
theorem RA.tq {ds : List D} (h : RA C m H (.d (.tq ds)) v) : ∃ p o vs, v = .ref p ∧ H p = some (.frz o (.tup vs)) ∧ (o.cls = .type "tuple" ∧ o.dict = none) ∧ Off C m p ∧ RDs C m H ds vs := by
  have h : RD C m H (.tq ds) v := h
  unfold RD at h
  exact h
theorem RA.tup {ds : List D} (h : RA C m H (.d (.tup ds)) v) : ∃ p vs, v = .ref p ∧ TupAt C m H p vs ∧ RDs C m H ds vs := by
  simpa [RA, RD] using h
theorem RA.fl {ds : List D} (h : RA C m H (.d (.fl ds)) v) : ∃ p vs, v = .ref p ∧ H p = some (.lst vs) ∧ Off C m p ∧ RDs C m H ds vs := by
  simpa [RA, RD] using h
theorem RA.rl {ds : List D} (h : RA C m H (.d (.rl ds)) v) : ∃ p vs, v = .ref p ∧ LstAt C m H p vs ∧ RDs C m H ds vs := by
  simpa [RA, RD] using h
theorem RA.ob {c : Str} {ks : List Str} {ds : List D} (h : RA C m H (.d (.ob c ks ds)) v) :
    ∃ p dx fs, v = .ref p ∧ H p = some (.ins (C.ca c) dx fs) ∧ Off C m p ∧ fs.map Prod.fst = ks ∧ RDs C m H ds (fs.map Prod.snd) := by
  simpa [RA, RD] using h
theorem RA.fn {k : Nat} (h : RA C m H (.d (.fn k)) v) : ∃ f c', v = .ref f ∧ H f = some (LamO f ((C.fn k).1 c') (C.fn k).2) ∧ Off C m f ∧ H ((C.fn k).1 c').c = some (LamX.CodeO ((C.fn k).1 c').c ((C.fn k).1 c').qual) ∧ Off C m ((C.fn k).1 c').c := by
  simpa [RA, RD] using h
theorem RA.ref {n : Nat} (h : RA C m H (.ref n) v) : ∃ p, m[n]? = some p ∧ v = .ref p := h
theorem RA.mkInt (i : Int) : RA C m H (.d (.int i)) (.int i) := by simp [RA, RD]
theorem RA.mkBl (b : Bool) : RA C m H (.d (.bl b)) (.bl b) := by simp [RA, RD]
theorem RA.mkStr (x : Str) : RA C m H (.d (.str x)) (.str x) := by simp [RA, RD]
theorem RA.mkNon : RA C m H (.d .non) .non := by simp [RA, RD]
/-- a list that is read: its content -/
def lstOf (S : Store) : A → Option (List D)
  | .d (.fl ds) => some ds
  | .d (.rl ds) => some ds
  | .ref n => (match S[n]? with
    | some (.lst ds) => some ds
    | _ => none)
  | _ => none
def tupOf : A → Option (List D)
  | .d (.tup ds) => some ds
  | _ => none
theorem lst_at {S : Store} {a : A} {ds : List D} (hs : RS C m S H) (h : RA C m H a v) (e : lstOf S a = some ds) : ∃ p vs, v = .ref p ∧ SqL C.K H p vs ∧ RDs C m H ds vs := by
  cases a with
  | d x =>
    cases x with
    | fl es =>
      cases e
      obtain ⟨p, vs, rfl, h1, _, h2⟩ := h.fl
      exact ⟨p, vs, rfl, SqL.of h1, h2⟩
    | rl es =>
      cases e
      obtain ⟨p, vs, rfl, h1, h2⟩ := h.rl
      exact ⟨p, vs, rfl, h1.sq, h2⟩
    | _ => cases e
  | ref n =>
    obtain ⟨p, h1, rfl⟩ := h.ref
    simp only [lstOf] at e
    split at e
    · rename_i es hc
      cases e
      obtain ⟨vs, h2, h3⟩ := hs.cell n _ p hc h1
      exact ⟨p, vs, rfl, SqL.of h2, h3⟩
    · cases e
  | fnc k cs => cases e
theorem tup_at {a : A} {ds : List D} (h : RA C m H a v) (e : tupOf a = some ds) : ∃ p vs, v = .ref p ∧ SqT C.K H p vs ∧ RDs C m H ds vs := by
  cases a with
  | d x =>
    cases x with
    | tup es =>
      cases e
      obtain ⟨p, vs, rfl, h1, h2⟩ := h.tup
      exact ⟨p, vs, rfl, h1.sq, h2⟩
    | _ => cases e
  | ref n => cases e
  | fnc k cs => cases e
/-- a new tuple, a new list -/
theorem tup_new {S : Store} {ds : List D} {vs : List V} {Q : VK} (hs : RS C m S H) (h : RDs C m H ds vs) (w : WpG C E (RA C) m H (.ok (.d (.tup ds)) S) Q) : ∀ p, H p = none → Q (.ref p) (upd H p (.tup vs)) := fun p hp => by
  have x := Ext.new hs (o := .tup vs) hp
  refine w m (upd H p (.tup vs)) (.ref p) x (hs.new hp) ?_
  simp only [RA, RD]
  exact ⟨p, vs, rfl, .inl ⟨.inl upd_same, hs.out hp⟩, h.ext x⟩
theorem fl_new {S : Store} {ds : List D} {vs : List V} {Q : VK} (hs : RS C m S H) (h : RDs C m H ds vs) (w : WpG C E (RA C) m H (.ok (.d (.fl ds)) S) Q) : ∀ p, H p = none → Q (.ref p) (upd H p (.lst vs)) := fun p hp => by
  have x := Ext.new hs (o := .lst vs) hp
  refine w m (upd H p (.lst vs)) (.ref p) x (hs.new hp) ?_
  simp only [RA, RD]
  exact ⟨p, vs, rfl, upd_same, hs.out hp, h.ext x⟩
/-- a new list that will change -/
theorem cell_new {S : Store} {ds : List D} {vs : List V} {Q : VK} (hs : RS C m S H) (h : RDs C m H ds vs) (w : WpG C E (RA C) m H (.ok (.ref S.length) (S ++ [.lst ds])) Q) : ∀ p, H p = none → Q (.ref p) (upd H p (.lst vs)) := fun p hp => by
  have x := Ext.cell hs (o := .lst vs) hp
  refine w (m ++ [p]) (upd H p (.lst vs)) (.ref p) x (hs.more hp ⟨vs, upd_same, h.ext x⟩) ⟨p, ?_, rfl⟩
  rw [← hs.len, List.getElem?_append_right (Nat.le_refl _), Nat.sub_self]
  rfl
end

/-! ### whole numbers -/
def int2 (p : Int → Int → Option D) : A → A → Store → R A := fun a b S => match a, b with
  | .d (.int i), .d (.int j) => (match p i j with
    | some d => .ok (.d d) S
    | none => .bad)
  | _, _ => .bad
theorem int2_of {r : R2} {p : Int → Int → Option D} (h : ∀ (i j : Int) (d : D) (H : Hp) (Q : VK), p i j = some d → (∀ v, (∀ m, RD C m H d v) → Q v H) → r (.int i) (.int j) H Q) : Bin2 C E r (int2 p) := by
  intro m S H a b x y Q hs ha hb w
  unfold int2 at w
  split at w
  · rename_i i j
    cases ha.int
    cases hb.int
    split at w
    · rename_i d e
      refine h i j d H Q e fun v hv => wp_ok hs (a := .d d) (hv m) w
    · exact False.elim w
  · exact False.elim w
/-- sums: numbers, texts, tuples, lists -/
def addP : A → A → Store → R A := fun a b S => match a, b with
  | .d (.int i), .d (.int j) => .ok (.d (.int (i + j))) S
  | .d (.str i), .d (.str j) => if i.length + j.length ≤ sizeLine then .ok (.d (.str (i ++ j))) S else .bad
  | .d (.tup xs), .d (.tup ys) => if xs.length + ys.length ≤ sizeLine then .ok (.d (.tup (xs ++ ys))) S else .bad
  | .d (.fl xs), .d (.fl ys) => if xs.length + ys.length ≤ sizeLine then .ok (.d (.fl (xs ++ ys))) S else .bad
  | _, _ => .bad
def rAddAll (K : Fr) : R2 := fun x y H Q => (rI0 fun i j => .int (i + j)) x y H Q ∨ ((fun x y H Q => ∃ i j, x = V.str i ∧ y = V.str j ∧ i.length + j.length ≤ sizeLine ∧ Q (V.str (i ++ j)) H) : R2) x y H Q ∨ rCatA K x y H Q ∨ rCat x y H Q
theorem op_addAll : OpR X (binaryOp .Add) (rAddAll X.K) := op_add.or (op_add_str.or (op_catA.or op_cat))
theorem b_add : Bin2 C E (rAddAll C.K) addP := by
  intro m S H a b x y Q hs ha hb w
  unfold addP at w
  split at w
  · cases ha.int; cases hb.int
    exact .inl ⟨_, _, rfl, rfl, wp_ok hs (RA.mkInt _) w⟩
  · cases ha.str; cases hb.str
    split at w
    · rename_i hl
      exact .inr (.inl ⟨_, _, rfl, rfl, hl, wp_ok hs (RA.mkStr _) w⟩)
    · exact False.elim w
  · obtain ⟨p, vs, rfl, h1, h2⟩ := tup_at ha rfl
    obtain ⟨q, us, rfl, h3, h4⟩ := tup_at hb rfl
    split at w
    · rename_i xs ys hl
      refine .inr (.inr (.inl ⟨p, q, vs, us, rfl, rfl, h1, h3, by rw [← h2.len, ← h4.len]; exact hl, fun z => ?_, fun _ z => ?_, fun _ _ => tup_new hs (h2.append h4) w⟩))
      · subst z
        have e : xs = [] := List.eq_nil_of_length_eq_zero h2.len
        subst e
        exact wp_ok hs hb w
      · subst z
        have e : ys = [] := List.eq_nil_of_length_eq_zero h4.len
        subst e
        rw [List.append_nil] at w
        exact wp_ok hs ha w
    · exact False.elim w
  · obtain ⟨p, vs, rfl, h1, _, h2⟩ := ha.fl
    obtain ⟨q, us, rfl, h3, _, h4⟩ := hb.fl
    split at w
    · rename_i xs ys hl
      exact .inr (.inr (.inr ⟨p, q, vs, us, rfl, rfl, h1, h3, by rw [← h2.len, ← h4.len]; exact hl, fl_new hs (h2.append h4) w⟩))
    · exact False.elim w
  · exact False.elim w
section
variable {a b : Expr} {fa fb : M A} {pos : Pos} (hK : C.K = X.K)
include hK
theorem se_add (ha : SE C E X a fa) (hb : SE C E X b fb) : SE C E X (.BinOp a .Add b pos) (bin addP fa fb) :=
  pe_imp (pe_op (op_addAll (X := X)) ha hb) fun σ H Q t => t_bin (hK ▸ b_add) t
omit hK
def mulP : A → A → Store → R A := int2 fun i j => if i.natAbs.log2 + j.natAbs.log2 < 1000000 then some (.int (i * j)) else none
theorem se_mul (ha : SE C E X a fa) (hb : SE C E X b fb) : SE C E X (.BinOp a .Mult b pos) (bin mulP fa fb) := by
  refine pe_imp (pe_op op_mulW ha hb) fun σ H Q t => t_bin (int2_of fun i j d H Q e k => ?_) t
  split at e
  · rename_i h; cases e
    exact ⟨i, j, rfl, rfl, h, k _ fun _ => by simp [RD]⟩
  · cases e
def subP : A → A → Store → R A := int2 fun i j => some (.int (i - j))
theorem se_sub (ha : SE C E X a fa) (hb : SE C E X b fb) : SE C E X (.BinOp a .Sub b pos) (bin subP fa fb) := by
  refine pe_imp (pe_op op_sub ha hb) fun σ H Q t => t_bin (int2_of fun i j d H Q e k => ?_) t
  cases e
  exact ⟨i, j, rfl, rfl, k _ fun _ => by simp [RD]⟩
def modP : A → A → Store → R A := int2 fun i j => if 0 < j then some (.int (i % j)) else none
theorem se_mod (ha : SE C E X a fa) (hb : SE C E X b fb) : SE C E X (.BinOp a .Mod b pos) (bin modP fa fb) := by
  refine pe_imp (pe_op op_mod ha hb) fun σ H Q t => t_bin (int2_of fun i j d H Q e k => ?_) t
  split at e
  · rename_i h; cases e
    exact ⟨i, j, rfl, rfl, h, k _ fun _ => by simp [RD]⟩
  · cases e
def fdivP : A → A → Store → R A := int2 fun i j => if 0 < j ∧ j.natAbs.log2 < 9000 then some (.int (i / j)) else none
theorem se_fdiv (ha : SE C E X a fa) (hb : SE C E X b fb) : SE C E X (.BinOp a .FloorDiv b pos) (bin fdivP fa fb) := by
  refine pe_imp (pe_op op_fdivW ha hb) fun σ H Q t => t_bin (int2_of fun i j d H Q e k => ?_) t
  split at e
  · rename_i h; cases e
    exact ⟨i, j, rfl, rfl, h, k _ fun _ => by simp [RD]⟩
  · cases e
def powP : A → A → Store → R A := int2 fun i j => if 0 ≤ j ∧ (Builtin.Int.intBits i : Int) * j ≤ 2 ^ 27 then some (.int (i ^ j.toNat)) else none
theorem op_powW : OpR X (binaryOp .Pow) (rI (fun i j => 0 ≤ j ∧ (Builtin.Int.intBits i : Int) * j ≤ 2 ^ 27) fun i j => .int (i ^ j.toNat)) :=
  opI fun _ _ _ _ _ _ _ hc q => pow_int hc.1 hc.2 q
theorem se_pow (ha : SE C E X a fa) (hb : SE C E X b fb) : SE C E X (.BinOp a .Pow b pos) (bin powP fa fb) := by
  refine pe_imp (pe_op op_powW ha hb) fun σ H Q t => t_bin (int2_of fun i j d H Q e k => ?_) t
  split at e
  · rename_i h; cases e
    exact ⟨i, j, rfl, rfl, h, k _ fun _ => by simp [RD]⟩
  · cases e
def negP : A → Store → R A := fun a S => match a with
  | .d (.int i) => .ok (.d (.int (-i))) S
  | _ => .bad
theorem se_neg (ha : SE C E X a fa) : SE C E X (.UnaryOp .USub a pos) (una negP fa) := by
  refine pe_imp (pe_un un_neg ha) fun σ H Q t => t_una (fun m S H a x Q hs h w => ?_) t
  unfold negP at w
  split at w
  · cases h.int
    exact ⟨_, rfl, wp_ok hs (RA.mkInt _) w⟩
  · exact False.elim w
end
end RS
end

section
set_option maxRecDepth 100000
set_option maxHeartbeats 4000000
/-! Comparisons, tests, truth. -/
namespace RS
open PySem PySem.Spec PyProof.Rows L2
variable {C : Cc} {E : XK} {X : Cx}

/-! ### plain data as the library's data, for == -/
mutual
def pd : D → Option PyData
  | .non => some .none
  | .bl b => some (.bool b)
  | .int i => some (.int i)
  | .str x => some (.str x)
  | .tup ds => (pds ds).map .tuple
  | .fl ds => (pds ds).map .list
  | .rl ds => (pds ds).map .list
  | .ob _ _ _ => none
  | .fn _ => none
  | .tq _ => none
def pds : List D → Option (List PyData)
  | [] => some []
  | d :: ds => (match pd d, pds ds with
    | some p, some ps => some (p :: ps)
    | _, _ => none)
end
section
variable {m : List Addr} {H : Hp}
mutual
theorem RD.dp : ∀ {d : D} {v : V} {p : PyData}, RD C m H d v → pd d = some p → Dp C.K H v p
  | .non, _, _, h, e => by simp only [pd] at e; cases e; simp only [RD] at h; subst h; exact .non
  | .bl b, _, _, h, e => by simp only [pd] at e; cases e; simp only [RD] at h; subst h; exact .bl b
  | .int b, _, _, h, e => by simp only [pd] at e; cases e; simp only [RD] at h; subst h; exact .int b
  | .str b, _, _, h, e => by simp only [pd] at e; cases e; simp only [RD] at h; subst h; exact .str b
  | .tup ds, _, _, h, e => by
    simp only [pd, Option.map_eq_some_iff] at e
    obtain ⟨ps, e, rfl⟩ := e
    simp only [RD] at h
    obtain ⟨p, vs, rfl, h1, h2⟩ := h
    exact .tup h1.sq (RDs.dp h2 e)
  | .fl ds, _, _, h, e => by
    simp only [pd, Option.map_eq_some_iff] at e
    obtain ⟨ps, e, rfl⟩ := e
    simp only [RD] at h
    obtain ⟨p, vs, rfl, h1, _, h2⟩ := h
    exact .lst (SqL.of h1) (RDs.dp h2 e)
  | .rl ds, _, _, h, e => by
    simp only [pd, Option.map_eq_some_iff] at e
    obtain ⟨ps, e, rfl⟩ := e
    simp only [RD] at h
    obtain ⟨p, vs, rfl, h1, h2⟩ := h
    exact .lst h1.sq (RDs.dp h2 e)
  | .ob _ _ _, _, _, _, e => by simp only [pd] at e; cases e
  | .fn _, _, _, _, e => by simp only [pd] at e; cases e
  | .tq _, _, _, _, e => by simp only [pd] at e; cases e
theorem RDs.dp : ∀ {ds : List D} {vs : List V} {ps : List PyData}, RDs C m H ds vs → pds ds = some ps → DpAll C.K H vs ps
  | [], _, _, h, e => by
    simp only [pds] at e; cases e
    simp only [RDs] at h; subst h
    exact .nil
  | d :: ds, _, _, h, e => by
    simp only [RDs] at h
    obtain ⟨v, r, rfl, h1, h2⟩ := h
    simp only [pds] at e
    split at e
    · rename_i p ps e1 e2
      cases e
      exact .cons (RD.dp h1 e1) (RDs.dp h2 e2)
    · cases e
end
end
/-- a value's data, cells too -/
def pdA (S : Store) : A → Option PyData
  | .d x => pd x
  | .ref n => (match S[n]? with
    | some (.lst ds) => (pds ds).map .list
    | _ => none)
  | .fnc _ _ => none
theorem RA.dp {m : List Addr} {H : Hp} {S : Store} {a : A} {v : V} {p : PyData} (hs : RS C m S H) (h : RA C m H a v) (e : pdA S a = some p) : Dp C.K H v p := by
  cases a with
  | fnc k cs => cases e
  | d x => exact RD.dp h e
  | ref n =>
    obtain ⟨p', h1, rfl⟩ := h.ref
    simp only [pdA] at e
    split at e
    · rename_i ds hc
      simp only [Option.map_eq_some_iff] at e
      obtain ⟨ps, e, rfl⟩ := e
      obtain ⟨vs, h2, h3⟩ := hs.cell n _ _ hc h1
      exact .lst (SqL.of h2) (RDs.dp h3 e)
    · cases e
/-- equality of data -/
def eqD (S : Store) (a b : A) : Option Bool := match pdA S a, pdA S b with
  | some p, some q => if SeqAt.shaped p = true ∧ SeqAt.shaped q = true then some (PyData.eqv p q) else none
  | _, _ => none
theorem eqD_of {S : Store} {a b : A} {k : Bool} (e : eqD S a b = some k) : ∃ p q, pdA S a = some p ∧ pdA S b = some q ∧ SeqAt.shaped p = true ∧ SeqAt.shaped q = true ∧ PyData.eqv p q = k := by
  unfold eqD at e
  split at e
  · rename_i p q e1 e2
    split at e
    · rename_i h
      exact ⟨p, q, e1, e2, h.1, h.2, Option.some.inj e⟩
    · cases e
  · cases e
def eqP (neg : Bool) : A → A → Store → R A := fun a b S => match eqD S a b with
  | some k => .ok (.d (.bl (k ^^ neg))) S
  | none => .bad
section
variable {a b : Expr} {fa fb : M A} {pos : Pos} (hK : C.K = X.K)
include hK
theorem b_eq : Bin2 C E (rEqD X.K) (eqP false) := by
  intro m S H a b x y Q hs ha hb w
  unfold eqP at w
  split at w
  · rename_i k e
    obtain ⟨p, q, e1, e2, s1, s2, rfl⟩ := eqD_of e
    refine ⟨p, q, hK ▸ ha.dp hs e1, hK ▸ hb.dp hs e2, s1, s2, ?_⟩
    exact wp_ok (C := C) (E := E) hs (RA.mkBl _) (by simpa using w)
  · exact False.elim w
theorem b_ne : Bin2 C E (rNeD X.K) (eqP true) := by
  intro m S H a b x y Q hs ha hb w
  unfold eqP at w
  split at w
  · rename_i k e
    obtain ⟨p, q, e1, e2, s1, s2, rfl⟩ := eqD_of e
    refine ⟨p, q, hK ▸ ha.dp hs e1, hK ▸ hb.dp hs e2, s1, s2, ?_⟩
    exact wp_ok (C := C) (E := E) hs (RA.mkBl _) (by simpa using w)
  · exact False.elim w
theorem se_eq (hu : X.A.units + 64 < cLine) (ha : SE C E X a fa) (hb : SE C E X b fb) : SE C E X (.Compare a [.Eq] [b] pos) (bin (eqP false) fa fb) :=
  pe_imp (pe_cmpR (op_eqD hu) ha hb (nomark _)) fun σ H Q t => t_bin (b_eq hK) t
theorem se_ne (hu : X.A.units + 64 < cLine) (ha : SE C E X a fa) (hb : SE C E X b fb) : SE C E X (.Compare a [.NotEq] [b] pos) (bin (eqP true) fa fb) :=
  pe_imp (pe_cmpR (op_neD hu) ha hb (nomark _)) fun σ H Q t => t_bin (b_ne hK) t
omit hK
end
/-! ### order of whole numbers -/
def ordP (f : Int → Int → Bool) : A → A → Store → R A := int2 fun i j => some (.bl (f i j))
theorem b_ord (f : Int → Int → Bool) : Bin2 C E (rI0 fun i j => .bl (f i j)) (ordP f) := int2_of fun i j d H Q e k => by
  cases e
  exact ⟨i, j, rfl, rfl, k _ fun _ => by simp [RD]⟩
def ltB (i j : Int) : Bool := decide (i < j)
def leB (i j : Int) : Bool := decide (i ≤ j)
def gtB (i j : Int) : Bool := decide (j < i)
def geB (i j : Int) : Bool := decide (j ≤ i)
section
variable {a b c : Expr} {fa fb fc : M A} {pos : Pos}
theorem se_lt (ha : SE C E X a fa) (hb : SE C E X b fb) : SE C E X (.Compare a [.Lt] [b] pos) (bin (ordP ltB) fa fb) :=
  pe_imp (pe_cmpR op_lt ha hb (nomark _)) fun σ H Q t => t_bin (b_ord ltB) t
theorem se_le (ha : SE C E X a fa) (hb : SE C E X b fb) : SE C E X (.Compare a [.LtE] [b] pos) (bin (ordP leB) fa fb) :=
  pe_imp (pe_cmpR op_le ha hb (nomark _)) fun σ H Q t => t_bin (b_ord leB) t
theorem se_gt (ha : SE C E X a fa) (hb : SE C E X b fb) : SE C E X (.Compare a [.Gt] [b] pos) (bin (ordP gtB) fa fb) :=
  pe_imp (pe_cmpR op_gt ha hb (nomark _)) fun σ H Q t => t_bin (b_ord gtB) t
theorem se_ge (ha : SE C E X a fa) (hb : SE C E X b fb) : SE C E X (.Compare a [.GtE] [b] pos) (bin (ordP geB) fa fb) :=
  pe_imp (pe_cmpR op_ge ha hb (nomark _)) fun σ H Q t => t_bin (b_ord geB) t
/-! ### is None -/
def isNonA : A → Bool
  | .d .non => true
  | _ => false
def isNP (neg : Bool) : A → A → Store → R A := fun a b S => match b with
  | .d .non => .ok (.d (.bl (isNonA a ^^ neg))) S
  | _ => .bad
theorem ra_non {m : List Addr} {H : Hp} {a : A} {v : V} (h : RA C m H a v) : decide (v = .non) = isNonA a := by
  cases a with
  | fnc k cs => obtain ⟨f, c', cl, ws, rfl, _⟩ := h; rfl
  | ref n => obtain ⟨p, _, rfl⟩ := h.ref; rfl
  | d x =>
    cases x with
    | non => rw [h.non]; rfl
    | bl b => rw [h.bl]; rfl
    | int b => rw [h.int]; rfl
    | str b => rw [h.str]; rfl
    | fn k => obtain ⟨f, c', rfl, _⟩ := h.fn; rfl
    | tup b => obtain ⟨p, vs, rfl, _⟩ := h.tup; rfl
    | fl b => obtain ⟨p, vs, rfl, _⟩ := h.fl; rfl
    | rl b => obtain ⟨p, vs, rfl, _⟩ := h.rl; rfl
    | ob c ks b => obtain ⟨p, dx, fs, rfl, _⟩ := h.ob; rfl
    | tq b => obtain ⟨p, o, vs, rfl, _⟩ := h.tq; rfl
theorem se_isN (ha : SE C E X a fa) (hb : SE C E X b fb) : SE C E X (.Compare a [.Is] [b] pos) (bin (isNP false) fa fb) := by
  refine pe_imp (pe_cmpR op_isN ha hb (nomark _)) fun σ H Q t => t_bin (fun m S H a b x y Q hs h1 h2 w => ?_) t
  unfold isNP at w
  split at w
  · refine ⟨h2.non, ?_⟩
    rw [ra_non h1]
    exact wp_ok (C := C) (E := E) hs (RA.mkBl _) (by simpa using w)
  · exact False.elim w
theorem se_notN (ha : SE C E X a fa) (hb : SE C E X b fb) : SE C E X (.Compare a [.IsNot] [b] pos) (bin (isNP true) fa fb) := by
  refine pe_imp (pe_cmpR op_notN ha hb (nomark _)) fun σ H Q t => t_bin (fun m S H a b x y Q hs h1 h2 w => ?_) t
  unfold isNP at w
  split at w
  · refine ⟨h2.non, ?_⟩
    rw [ra_non h1]
    exact wp_ok (C := C) (E := E) hs (RA.mkBl _) (by simpa using w)
  · exact False.elim w
/-! ### a < b < c -/
def chn (p q : A → A → Store → R A) (fa fb fc : M A) : M A := fun ρ S => (fa ρ S).bind fun a S1 => (fb ρ S1).bind fun b S2 => (p a b S2).bind fun k S3 => match k with
  | .d (.bl true) => (fc ρ S3).bind fun c S4 => q b c S4
  | .d (.bl false) => .ok (.d (.bl false)) S3
  | _ => .bad
theorem t_chn {r r' : R2} {p q : A → A → Store → R A} (hp : Bin2 C E r p) (hq : Bin2 C E r' q) {σ : L2.St} {H : Hp} {Q : VK} (h : tE C E (chn p q fa fb fc) σ H Q) : tChain r r' (tE C E fa) (tE C E fb) (tE C E fc) σ H Q := by
  obtain ⟨m, S, ρ, hs, he, w⟩ := h
  refine tE_then (g := fun a ρ S1 => (fb ρ S1).bind fun b S2 => (p a b S2).bind fun k S3 => match k with
    | .d (.bl true) => (fc ρ S3).bind fun c S4 => q b c S4
    | .d (.bl false) => .ok (.d (.bl false)) S3
    | _ => .bad) hs he w fun m1 S1 a x H1 x1 r1 e1 q1 w1 => ?_
  refine tE_then (g := fun b ρ S2 => (p a b S2).bind fun k S3 => match k with
    | .d (.bl true) => (fc ρ S3).bind fun c S4 => q b c S4
    | .d (.bl false) => .ok (.d (.bl false)) S3
    | _ => .bad) r1 e1 w1 fun m2 S2 b y H2 x2 r2 e2 q2 w2 => ?_
  refine hp m2 S2 H2 a b x y _ r2 (q1.ext x2) q2 (w2.bind.imp fun z H3 ⟨m3, S3, k, x3, r3, q3, w3⟩ => ?_)
  split at w3
  · refine ⟨true, q3.bl, ?_⟩
    rw [if_pos rfl]
    exact tE_then (g := fun c ρ S4 => q b c S4) r3 (e2.ext x3) w3 fun m4 S4 c u H4 x4 r4 e4 q4 w4 => hq m4 S4 H4 b c y u Q r4 (q2.ext (x3.trans x4)) q4 w4
  · refine ⟨false, q3.bl, ?_⟩
    rw [if_neg Bool.false_ne_true]
    exact wp_ok r3 (RA.mkBl _) w3
  · exact False.elim w3
theorem se_chn {o1 o2 : CmpOp} {r r' : R2} {p q : A → A → Store → R A} (h1 : OpR X (compareOp o1) r) (h2 : OpR X (compareOp o2) r') (hp : Bin2 C E r p) (hq : Bin2 C E r' q) (ha : SE C E X a fa) (hb : SE C E X b fb) (hc : SE C E X c fc)
    (hl : lastMarks [o1, o2] [b, c] = false := by with_unfolding_all rfl) : SE C E X (.Compare a [o1, o2] [b, c] pos) (chn p q fa fb fc) :=
  pe_imp (pe_chain h1 h2 ha hb hc (hm := hl)) fun σ H Q t => t_chn hp hq t
end
/-! ### tests -/
def asB (f : M A) : M Bool := fun ρ S => (f ρ S).bind fun a S1 => match a with
  | .d (.bl b) => .ok b S1
  | _ => .bad
theorem wpB {m : List Addr} {S : Store} {H : Hp} {b : Bool} {Q : Bool → Hp → Prop} (r : RS C m S H) (w : WpG C E RB m H (.ok b S) Q) : Q b H := w m H b (Ext.refl C m H) r rfl
section
variable {a b : Expr} {fa : M A} {f g : M Bool} {pos : Pos} {rest : List Expr}
theorem t_asB {σ : L2.St} {H : Hp} {Q : Bool → Hp → Prop} (h : tT C E (asB fa) σ H Q) : tE C E fa σ H fun x H1 => ∃ k, x = .bl k ∧ Q k H1 := by
  obtain ⟨m, S, ρ, hs, he, w⟩ := h
  refine tE_then (g := fun a ρ S1 => match a with
    | .d (.bl b) => .ok b S1
    | _ => .bad) hs he w fun m1 S1 a x H1 x1 r1 e1 q1 w1 => ?_
  split at w1
  · exact ⟨_, q1.bl, wpB r1 w1⟩
  · exact False.elim w1
/-- a value that is True or False, as a test -/
theorem st_val (h : SE C E X a fa) (he : ∀ whole, isTrue a X.env whole = (do let v ← whole; standAt a.pos; holding [v] (truthy v))) : ST C E X a (asB fa) :=
  pt_imp (pt_val h he) fun σ H Q t => t_asB t
/-- a comparison as a test, from the comparison as a value -/
theorem st_cmp {op : CmpOp} {r : R2} {p : A → A → Store → R A} {fb : M A} (ho : OpR X (compareOp op) r) (hp : Bin2 C E r p) (ha : SE C E X a fa) (hb : SE C E X b fb) (hm : behindInMarks op b = false) : ST C E X (.Compare a [op] [b] pos) (asB (bin p fa fb)) := by
  refine pt_imp (pt_cmpR ho ha hb hm) fun σ H Q t => ?_
  have t2 := t_asB t
  obtain ⟨m, S, ρ, hs, he, w⟩ := t2
  exact t_bin hp ⟨m, S, ρ, hs, he, w⟩
theorem st_chn {c : Expr} {fb fc : M A} {o1 o2 : CmpOp} {r r' : R2} {p q : A → A → Store → R A} (h1 : OpR X (compareOp o1) r) (h2 : OpR X (compareOp o2) r') (hp : Bin2 C E r p) (hq : Bin2 C E r' q) (ha : SE C E X a fa) (hb : SE C E X b fb) (hc : SE C E X c fc)
    (hl : lastMarks [o1, o2] [b, c] = false := by with_unfolding_all rfl) : ST C E X (.Compare a [o1, o2] [b, c] pos) (asB (chn p q fa fb fc)) := by
  refine pt_imp (pt_chain h1 h2 ha hb hc (hm := hl)) fun σ H Q t => ?_
  have t2 := t_asB t
  obtain ⟨m, S, ρ, hs, he, w⟩ := t2
  exact t_chn hp hq ⟨m, S, ρ, hs, he, w⟩
/-! ### truth of any value -/
def truA (S : Store) : A → Option Bool
  | .d .non => some false
  | .d (.bl b) => some b
  | .d (.int i) => some (i != 0)
  | .d (.str x) => if x.length ≤ sizeLine then some ((x.length : Int) != 0) else none
  | .d (.tup ds) => some (!ds.isEmpty)
  | .d (.fl ds) => some (!ds.isEmpty)
  | .d (.rl ds) => some (!ds.isEmpty)
  | .d (.ob _ _ _) => none
  | .d (.fn _) => none
  | .d (.tq _) => none
  | .fnc _ _ => none
  | .ref n => (match S[n]? with
    | some (.lst ds) => some (!ds.isEmpty)
    | _ => none)
def tru (f : M A) : M Bool := fun ρ S => (f ρ S).bind fun a S1 => match truA S1 a with
  | some b => .ok b S1
  | none => .bad
theorem RDs.empty {m : List Addr} {H : Hp} {ds : List D} {vs : List V} (h : RDs C m H ds vs) : ds.isEmpty = vs.isEmpty := by
  have := h.len
  cases ds <;> cases vs <;> first | rfl | (simp at this)
theorem truA_of {m : List Addr} {H : Hp} {S : Store} {a : A} {v : V} {k : Bool} (hs : RS C m S H) (h : RA C m H a v) (e : truA S a = some k) : TruV C.K v H k := by
  cases a with
  | fnc k cs => cases e
  | ref n =>
    simp only [truA] at e
    split at e
    · rename_i ds hc
      cases e
      obtain ⟨p, vs, rfl, h1, h2⟩ := lst_at (ds := ds) hs h (by simp [lstOf, hc])
      exact .inl ⟨vs, h1, by rw [h2.empty]⟩
    · cases e
  | d x =>
    cases x with
    | non => cases e; rw [h.non]; rfl
    | bl b => cases e; rw [h.bl]; rfl
    | int b => cases e; rw [h.int]; rfl
    | str b =>
      simp only [truA] at e
      split at e
      · rename_i hl
        cases e; rw [h.str]; exact ⟨hl, rfl⟩
      · cases e
    | tup b =>
      cases e
      obtain ⟨p, vs, rfl, h1, h2⟩ := tup_at h rfl
      exact .inr (.inl ⟨vs, h1, by rw [h2.empty]⟩)
    | fl b =>
      cases e
      obtain ⟨p, vs, rfl, h1, h2⟩ := lst_at (ds := b) hs h rfl
      exact .inl ⟨vs, h1, by rw [h2.empty]⟩
    | rl b =>
      cases e
      obtain ⟨p, vs, rfl, h1, h2⟩ := lst_at (ds := b) hs h rfl
      exact .inl ⟨vs, h1, by rw [h2.empty]⟩
    | ob c ks b => cases e
    | fn k => cases e
    | tq b => cases e
theorem st_truth (hK : C.K = X.K) (h : SE C E X a fa) (he : ∀ whole, isTrue a X.env whole = (do let v ← whole; standAt a.pos; holding [v] (truthy v))) : ST C E X a (tru fa) := by
  refine pt_imp (pt_truth h he) fun σ H Q ⟨m, S, ρ, hs, he, w⟩ => ?_
  refine tE_then (g := fun a ρ S1 => match truA S1 a with
    | some b => .ok b S1
    | none => .bad) hs he w fun m1 S1 a x H1 x1 r1 e1 q1 w1 => ?_
  split at w1
  · rename_i k e
    exact ⟨k, hK ▸ truA_of r1 q1 e, wpB r1 w1⟩
  · exact False.elim w1
/-! ### and, or, not -/
def andT (f g : M Bool) : M Bool := fun ρ S => (f ρ S).bind fun b S1 => if b = true then g ρ S1 else .ok false S1
def orT (f g : M Bool) : M Bool := fun ρ S => (f ρ S).bind fun b S1 => if b = true then .ok true S1 else g ρ S1
def notT (f : M Bool) : M Bool := fun ρ S => (f ρ S).bind fun b S1 => .ok (!b) S1
theorem sw_and1 (ha : ST C E X a f) : SW C E X (.BoolOp .And [a] pos) f := pw_and1 ha
theorem sw_or1 (ha : ST C E X a f) : SW C E X (.BoolOp .Or [a] pos) f := pw_or1 ha
theorem sw_and (ha : ST C E X a f) (hb : SW C E X (.BoolOp .And (b :: rest) pos) g) : SW C E X (.BoolOp .And (a :: b :: rest) pos) (andT f g) := by
  refine pw_imp (pw_and ha hb) fun σ H Q ⟨m, S, ρ, hs, he, w⟩ => ?_
  refine tT_then (g := fun b ρ S1 => if b = true then g ρ S1 else .ok false S1) hs he w fun m1 S1 b H1 x1 r1 e1 w1 => ?_
  cases b with
  | true => exact ⟨m1, S1, ρ, r1, e1, w1⟩
  | false => exact wpB r1 w1
theorem sw_or (ha : ST C E X a f) (hb : SW C E X (.BoolOp .Or (b :: rest) pos) g) : SW C E X (.BoolOp .Or (a :: b :: rest) pos) (orT f g) := by
  refine pw_imp (pw_or ha hb) fun σ H Q ⟨m, S, ρ, hs, he, w⟩ => ?_
  refine tT_then (g := fun b ρ S1 => if b = true then .ok true S1 else g ρ S1) hs he w fun m1 S1 b H1 x1 r1 e1 w1 => ?_
  cases b with
  | false => exact ⟨m1, S1, ρ, r1, e1, w1⟩
  | true => exact wpB r1 w1
theorem st_not (ha : ST C E X a f) : ST C E X (.UnaryOp .Not a pos) (notT f) := by
  refine pt_imp (pt_not ha) fun σ H Q ⟨m, S, ρ, hs, he, w⟩ => ?_
  exact tT_then (g := fun b ρ S1 => .ok (!b) S1) hs he w fun m1 S1 b H1 x1 r1 e1 w1 => wpB r1 w1
/-- .. as values: all but the last are True or False -/
def andV (f g : M A) : M A := fun ρ S => (f ρ S).bind fun a S1 => match a with
  | .d (.bl true) => g ρ S1
  | .d (.bl false) => .ok (.d (.bl false)) S1
  | _ => .bad
def orV (f g : M A) : M A := fun ρ S => (f ρ S).bind fun a S1 => match a with
  | .d (.bl false) => g ρ S1
  | .d (.bl true) => .ok (.d (.bl true)) S1
  | _ => .bad
def notP : A → Store → R A := fun a S => match a with
  | .d (.bl b) => .ok (.d (.bl (!b))) S
  | _ => .bad
def notV (f : M A) : M A := una notP f
variable {fb : M A}
theorem se_one {op} (ha : SE C E X a fa) : SE C E X (.BoolOp op [a] pos) fa := pe_one ha
theorem se_and (ha : SE C E X a fa) (hb : SE C E X (.BoolOp .And (b :: rest) pos) fb) : SE C E X (.BoolOp .And (a :: b :: rest) pos) (andV fa fb) := by
  refine pe_imp (pe_and ha hb) fun σ H Q ⟨m, S, ρ, hs, he, w⟩ => ?_
  refine tE_then (g := fun a ρ S1 => match a with
    | .d (.bl true) => fb ρ S1
    | .d (.bl false) => .ok (.d (.bl false)) S1
    | _ => .bad) hs he w fun m1 S1 a x H1 x1 r1 e1 q1 w1 => ?_
  split at w1
  · exact ⟨true, q1.bl, iteT ⟨m1, S1, ρ, r1, e1, w1⟩⟩
  · exact ⟨false, q1.bl, iteF (wp_ok r1 (RA.mkBl _) w1)⟩
  · exact False.elim w1
theorem se_or (ha : SE C E X a fa) (hb : SE C E X (.BoolOp .Or (b :: rest) pos) fb) : SE C E X (.BoolOp .Or (a :: b :: rest) pos) (orV fa fb) := by
  refine pe_imp (pe_or ha hb) fun σ H Q ⟨m, S, ρ, hs, he, w⟩ => ?_
  refine tE_then (g := fun a ρ S1 => match a with
    | .d (.bl false) => fb ρ S1
    | .d (.bl true) => .ok (.d (.bl true)) S1
    | _ => .bad) hs he w fun m1 S1 a x H1 x1 r1 e1 q1 w1 => ?_
  split at w1
  · exact ⟨false, q1.bl, iteF ⟨m1, S1, ρ, r1, e1, w1⟩⟩
  · exact ⟨true, q1.bl, iteT (wp_ok r1 (RA.mkBl _) w1)⟩
  · exact False.elim w1
theorem se_not (ha : SE C E X a fa) : SE C E X (.UnaryOp .Not a pos) (notV fa) := by
  refine pe_imp (pe_not ha) fun σ H Q ⟨m, S, ρ, hs, he, w⟩ => ?_
  refine tE_then (g := fun a _ S1 => notP a S1) hs he w fun m1 S1 a x H1 x1 r1 e1 q1 w1 => ?_
  unfold notP at w1
  split at w1
  · exact ⟨_, q1.bl, wp_ok r1 (RA.mkBl _) w1⟩
  · exact False.elim w1
def ifV (c : M Bool) (f g : M A) : M A := fun ρ S => (c ρ S).bind fun b S1 => if b = true then f ρ S1 else g ρ S1
theorem se_if {c : Expr} (hc : ST C E X c f) (ha : SE C E X a fa) (hb : SE C E X b fb) : SE C E X (.IfExp c a b pos) (ifV f fa fb) := by
  refine pe_imp (pe_ifExp hc ha hb) fun σ H Q ⟨m, S, ρ, hs, he, w⟩ => ?_
  refine tT_then (g := fun b ρ S1 => if b = true then fa ρ S1 else fb ρ S1) hs he w fun m1 S1 b H1 x1 r1 e1 w1 => ?_
  cases b with
  | true => exact iteT ⟨m1, S1, ρ, r1, e1, w1⟩
  | false => exact iteF ⟨m1, S1, ρ, r1, e1, w1⟩
end
end RS
end

section
set_option maxRecDepth 100000
set_option maxHeartbeats 4000000
/-! Arguments, displays, subscripts, slices, built-in calls. -/
namespace RS
open PySem PySem.Spec PyProof.Rows L2
variable {C : Cc} {E : XK} {X : Cx}

/-! ### arguments -/
def aNil : M (List A) := fun _ S => .ok [] S
def aCons (f : M A) (g : M (List A)) : M (List A) := fun ρ S => (f ρ S).bind fun a S1 => (g ρ S1).bind fun as S2 => .ok (a :: as) S2
theorem wpL {m : List Addr} {S : Store} {H : Hp} {as : List A} {vs : List V} {Q : List V → Hp → Prop} (r : RS C m S H) (q : RAs C m H as vs) (w : WpG C E (RAs C) m H (.ok as S) Q) : Q vs H := w m H vs (Ext.refl C m H) r q
theorem sa_nil : SA C E X [] aNil := pa_imp pa_nil fun σ H Q ⟨m, S, ρ, hs, he, w⟩ => wpL hs .nil w
theorem sa_cons {e : Expr} {es : List Expr} {f : M A} {g : M (List A)} (ha : SE C E X e f) (hr : SA C E X es g) (hs : starEach (e :: es) X.env = (false, eval e X.env) :: starEach es X.env := by rfl) : SA C E X (e :: es) (aCons f g) := by
  refine pa_imp (pa_cons ha hr hs) fun σ H Q ⟨m, S, ρ, hs, he, w⟩ => ?_
  refine tE_then (g := fun a ρ S1 => (g ρ S1).bind fun as S2 => .ok (a :: as) S2) hs he w fun m1 S1 a x H1 x1 r1 e1 q1 w1 => ?_
  exact tA_then (g := fun as ρ S2 => .ok (a :: as) S2) r1 e1 w1 fun m2 S2 as vs H2 x2 r2 e2 q2 w2 => wpL r2 (.cons (q1.ext x2) q2) w2
/-- *xs among the arguments: a list, a tuple -/
def seqOf (S : Store) (a : A) : Option (List D) := match tupOf a with
  | some ds => some ds
  | none => lstOf S a
theorem seq_at {m : List Addr} {H : Hp} {S : Store} {a : A} {v : V} {ds : List D} (hs : RS C m S H) (h : RA C m H a v) (e : seqOf S a = some ds) :
    ∃ p vs, v = .ref p ∧ (SqL C.K H p vs ∨ SqT C.K H p vs) ∧ RDs C m H ds vs := by
  unfold seqOf at e
  split at e
  · rename_i es e1
    cases e
    obtain ⟨p, vs, rfl, h1, h2⟩ := tup_at h e1
    exact ⟨p, vs, rfl, .inr h1, h2⟩
  · obtain ⟨p, vs, rfl, h1, h2⟩ := lst_at hs h e
    exact ⟨p, vs, rfl, .inl h1, h2⟩
theorem RDs.as {m : List Addr} {H : Hp} : ∀ {ds : List D} {vs : List V}, RDs C m H ds vs → RAs C m H (ds.map A.d) vs
  | [], _, h => by simp only [RDs] at h; subst h; exact .nil
  | d :: ds, _, h => by
    simp only [RDs] at h
    obtain ⟨v, r, rfl, h1, h2⟩ := h
    exact .cons h1 (RDs.as h2)
theorem RAs.app {m : List Addr} {H : Hp} : ∀ {as bs : List A} {vs ws : List V}, RAs C m H as vs → RAs C m H bs ws → RAs C m H (as ++ bs) (vs ++ ws)
  | _, _, _, _, .nil, h => h
  | _, _, _, _, .cons a t, h => .cons a (RAs.app t h)
/-! ### displays -/
def pureA : A → Option D
  | .d x => some x
  | .ref _ => none
  | .fnc _ _ => none
def pures : List A → Option (List D)
  | [] => some []
  | a :: as => (match pureA a, pures as with
    | some d, some ds => some (d :: ds)
    | _, _ => none)
theorem pures_of {m : List Addr} {H : Hp} : ∀ {as : List A} {vs : List V} {ds : List D}, RAs C m H as vs → pures as = some ds → RDs C m H ds vs
  | [], _, _, .nil, e => by cases e; exact RDs.nil
  | a :: as, _, _, .cons h t, e => by
    simp only [pures] at e
    split at e
    · rename_i d ds e1 e2
      cases e
      cases a with
      | d x => cases e1; exact RDs.cons h (pures_of t e2)
      | ref n => cases e1
      | fnc k cs => cases e1
    · cases e
def tupP (as : List A) (S1 : Store) : R A := match pures as with
  | some ds => if ds.length ≤ sizeLine then .ok (.d (.tup ds)) S1 else .bad
  | none => .bad
def tupM (f : M (List A)) : M A := fun ρ S => (f ρ S).bind fun as S1 => tupP as S1
def flP (as : List A) (S1 : Store) : R A := match pures as with
  | some ds => if ds.length ≤ sizeLine then .ok (.d (.fl ds)) S1 else .bad
  | none => .bad
def flM (f : M (List A)) : M A := fun ρ S => (f ρ S).bind fun as S1 => flP as S1
def celP (as : List A) (S1 : Store) : R A := match pures as with
  | some ds => if ds.length ≤ sizeLine then .ok (.ref S1.length) (S1 ++ [.lst ds]) else .bad
  | none => .bad
def celM (f : M (List A)) : M A := fun ρ S => (f ρ S).bind fun as S1 => celP as S1
theorem se_tup {es : List Expr} {f : M (List A)} {k : Nat} {pos : Pos} (h : SA C E X es f) : SE C E X (.Tuple es k pos) (tupM f) := by
  refine pe_imp (pe_tup h) fun σ H Q ⟨m, S, ρ, hs, he, w⟩ => ?_
  refine tA_then (g := fun as _ S1 => tupP as S1) hs he w fun m1 S1 as vs H1 x1 r1 e1 q1 w1 => ?_
  unfold tupP at w1
  split at w1
  · rename_i ds e
    have hd := pures_of q1 e
    split at w1
    · rename_i hl
      exact ⟨by rw [← hd.len]; exact hl, tup_new r1 hd w1⟩
    · exact False.elim w1
  · exact False.elim w1
theorem se_fl {es : List Expr} {f : M (List A)} {pos : Pos} (h : SA C E X es f) : SE C E X (.List es pos) (flM f) := by
  refine pe_imp (pe_lst h) fun σ H Q ⟨m, S, ρ, hs, he, w⟩ => ?_
  refine tA_then (g := fun as _ S1 => flP as S1) hs he w fun m1 S1 as vs H1 x1 r1 e1 q1 w1 => ?_
  unfold flP at w1
  split at w1
  · rename_i ds e
    have hd := pures_of q1 e
    split at w1
    · rename_i hl
      exact ⟨by rw [← hd.len]; exact hl, fl_new r1 hd w1⟩
    · exact False.elim w1
  · exact False.elim w1
/-- a list that will change -/
theorem se_cel {es : List Expr} {f : M (List A)} {pos : Pos} (h : SA C E X es f) : SE C E X (.List es pos) (celM f) := by
  refine pe_imp (pe_lst h) fun σ H Q ⟨m, S, ρ, hs, he, w⟩ => ?_
  refine tA_then (g := fun as _ S1 => celP as S1) hs he w fun m1 S1 as vs H1 x1 r1 e1 q1 w1 => ?_
  unfold celP at w1
  split at w1
  · rename_i ds e
    have hd := pures_of q1 e
    split at w1
    · rename_i hl
      exact ⟨by rw [← hd.len]; exact hl, cell_new r1 hd w1⟩
    · exact False.elim w1
  · exact False.elim w1
/-! ### subscripts -/
def ixP : A → A → Store → R A := fun a b S => match b with
  | .d (.int i) => (match a with
    | .d (.str z) => if z.length ≤ sizeLine then (match atI z.cps.toList i with
      | some c => .ok (.d (.str ⟨#[c]⟩)) S
      | none => .bad) else .bad
    | a => (match seqOf S a with
      | some ds => (match atI ds i with
        | some d => .ok (.d d) S
        | none => .bad)
      | none => .bad))
  | _ => .bad
theorem RDs.atI {m : List Addr} {H : Hp} {ds : List D} {vs : List V} (h : RDs C m H ds vs) {i : Int} {d : D} (e : atI ds i = some d) : ∃ v, L2.atI vs i = some v ∧ RD C m H d v := by
  unfold L2.atI at e ⊢
  rw [← h.len]
  cases q : ixN ds.length i with
  | none => rw [q] at e; cases e
  | some j =>
    rw [q] at e
    exact h.get (show ds[j]? = some d from e)
theorem b_ix : Bin2 C E (rIx C.K) ixP := by
  intro m S H a b x y Q hs ha hb w
  unfold ixP at w
  split at w
  · rename_i i
    cases hb.int
    split at w
    · cases ha.str
      split at w
      · rename_i z hl
        split at w
        · rename_i c e
          exact .inr (.inr ⟨_, _, c, rfl, rfl, hl, e, wp_ok hs (RA.mkStr _) w⟩)
        · exact False.elim w
      · exact False.elim w
    · split at w
      · rename_i ds e
        split at w
        · rename_i d e2
          obtain ⟨p, vs, rfl, h1, h2⟩ := seq_at hs ha e
          obtain ⟨v, e3, h3⟩ := h2.atI e2
          have q := wp_ok hs (a := .d d) h3 w
          rcases h1 with h1 | h1
          · exact .inl ⟨p, vs, i, v, rfl, rfl, h1, e3, q⟩
          · exact .inr (.inl ⟨p, vs, i, v, rfl, rfl, h1, e3, q⟩)
        · exact False.elim w
      · exact False.elim w
  · exact False.elim w
theorem se_ix {a b : Expr} {fa fb : M A} {pos : Pos} (hK : C.K = X.K) (ha : SE C E X a fa) (hb : SE C E X b fb) (hp : PlainIx b) : SE C E X (.Subscript a b pos) (bin ixP fa fb) :=
  pe_imp (pe_ix (ix_seq (X := X)) ha hb hp) fun σ H Q t => t_bin (hK ▸ b_ix) t
/-! ### slices -/
def cutD {α : Type} (xs : List α) (lo hi : Option Int) : List α := (xs.drop (HT.sIx xs.length 0 lo)).take (HT.sIx xs.length xs.length hi - HT.sIx xs.length 0 lo)
theorem RDs.cut {m : List Addr} {H : Hp} {ds : List D} {vs : List V} (h : RDs C m H ds vs) (lo hi : Option Int) : RDs C m H (cutD ds lo hi) (cutV vs lo hi) := by
  have e : cutV vs lo hi = cutD vs lo hi := rfl
  rw [e]
  unfold cutD
  rw [← h.len]
  exact (h.drop _).take _
abbrev MO := Env → Store → R (Option Int)
def oNone : MO := fun _ S => .ok none S
def oSome (f : M A) : MO := fun ρ S => (f ρ S).bind fun a S1 => match a with
  | .d (.int i) => .ok (some i) S1
  | _ => .bad
def tO (C : Cc) (E : XK) (f : MO) : TO := fun σ H Q => ∃ m S ρ, RS C m S H ∧ RE C m H ρ σ ∧ WpG C E (fun _ _ a b => a = b) m H (f ρ S) Q
abbrev SO (C : Cc) (E : XK) (X : Cx) (e : Option Expr) (f : MO) : Prop := PO X e (tO C E f)
theorem po_imp {e : Option Expr} {t t' : TO} (h : PO X e t) (k : ∀ σ H Q, t' σ H Q → t σ H Q) : PO X e t' :=
  ⟨fun pins s σ H Q I q => h.run pins s σ H Q I (k _ _ _ q)⟩
theorem wpO {m : List Addr} {S : Store} {H : Hp} {b : Option Int} {Q : Option Int → Hp → Prop} (r : RS C m S H) (w : WpG C E (fun _ _ a b => a = b) m H (.ok b S) Q) : Q b H := w m H b (Ext.refl C m H) r rfl
theorem so_none : SO C E X none oNone := po_imp po_none fun σ H Q ⟨m, S, ρ, hs, he, w⟩ => wpO hs w
theorem so_some {e : Expr} {f : M A} (h : SE C E X e f) : SO C E X (some e) (oSome f) := by
  refine po_imp (po_some h) fun σ H Q ⟨m, S, ρ, hs, he, w⟩ => ?_
  refine tE_then (g := fun a _ S1 => match a with
    | .d (.int i) => .ok (some i) S1
    | _ => .bad) hs he w fun m1 S1 a x H1 x1 r1 e1 q1 w1 => ?_
  split at w1
  · exact ⟨_, q1.int, wpO r1 w1⟩
  · exact False.elim w1
def slP : A → Option Int → Option Int → Store → R A := fun a lo hi S => match a with
  | .d (.tup ds) => .ok (.d (.tup (cutD ds lo hi))) S
  | a => (match lstOf S a with
    | some ds => .ok (.d (.fl (cutD ds lo hi))) S
    | none => .bad)
def slM (f : M A) (g h : MO) : M A := fun ρ S => (f ρ S).bind fun a S1 => (g ρ S1).bind fun lo S2 => (h ρ S2).bind fun hi S3 => slP a lo hi S3
theorem sl_all : SlR X (fun x lo hi H Q => rSlL X.K x lo hi H Q ∨ rSlA X.K x lo hi H Q) := sl_list.or sl_tupA
theorem sl_of {m : List Addr} {S : Store} {H : Hp} {a : A} {x : V} {lo hi : Option Int} {Q : VK} (hs : RS C m S H) (ha : RA C m H a x) (w : WpG C E (RA C) m H (slP a lo hi S) Q) : rSlL C.K x lo hi H Q ∨ rSlA C.K x lo hi H Q := by
  unfold slP at w
  split at w
  · rename_i ds
    obtain ⟨p, vs, rfl, h1, h2⟩ := tup_at ha rfl
    refine .inr ⟨p, vs, rfl, h1, fun z => ?_, fun _ => tup_new hs (h2.cut _ _) w⟩
    have e : cutD ds lo hi = ds := by
      have z1 : HT.sIx ds.length 0 lo = 0 := by rw [h2.len]; exact z.1
      have z2 : HT.sIx ds.length ds.length hi = ds.length := by rw [h2.len]; exact z.2
      unfold cutD
      rw [z1, z2]
      simp
    rw [e] at w
    exact wp_ok hs ha w
  · split at w
    · rename_i ds e
      obtain ⟨p, vs, rfl, h1, h2⟩ := lst_at hs ha e
      exact .inl ⟨p, vs, rfl, h1, fl_new hs (h2.cut _ _) w⟩
    · exact False.elim w
theorem se_slice {e : Expr} {lo hi : Option Expr} {f : M A} {g h : MO} {p2 pos : Pos} (hK : C.K = X.K) (he : SE C E X e f) (hl : SO C E X lo g) (hu : SO C E X hi h) : SE C E X (.Subscript e (.Slice lo hi none p2) pos) (slM f g h) := by
  refine pe_imp (pe_slice (sl_all (X := X)) he hl hu) fun σ H Q ⟨m, S, ρ, hs, he, w⟩ => ?_
  refine tE_then (g := fun a ρ S1 => (g ρ S1).bind fun lo S2 => (h ρ S2).bind fun hi S3 => slP a lo hi S3) hs he w fun m1 S1 a x H1 x1 r1 e1 q1 w1 => ?_
  refine ⟨m1, S1, ρ, r1, e1, w1.bind.imp fun l H2 ⟨m2, S2, l', x2, r2, q2, w2⟩ => ?_⟩
  have q2 : l' = l := q2
  subst q2
  refine ⟨m2, S2, ρ, r2, e1.ext x2, w2.bind.imp fun u H3 ⟨m3, S3, u', x3, r3, q3, w3⟩ => ?_⟩
  have q3 : u' = u := q3
  subst q3
  have z := sl_of r3 (q1.ext (x2.trans x3)) w3
  rw [hK] at z
  exact z
end RS
end

section
set_option maxRecDepth 100000
set_option maxHeartbeats 4000000
/-! in, built-in calls, isinstance. -/
namespace RS
open PySem PySem.Spec PyProof.Rows L2
variable {C : Cc} {E : XK} {X : Cx}

/-! ### x in xs, over data -/
def itemsP : PyData → Option (List PyData)
  | .list ds => some ds
  | .tuple ds => some ds
  | _ => none
def inP (neg : Bool) : A → A → Store → R A := fun a b S => match pdA S a, pdA S b with
  | some d, some c => (match itemsP c with
    | some ds => if SeqAt.shaped d = true ∧ SeqAt.shaped c = true then .ok (.d (.bl ((ds.any fun z => PyData.eqv z d) ^^ neg))) S else .bad
    | none => .bad)
  | _, _ => .bad
def rInAny (K : Fr) (neg : Bool) : R2 := fun x y H Q => ∃ d c ds, Dp K H x d ∧ Dp K H y c ∧ itemsP c = some ds ∧ SeqAt.shaped d = true ∧ SeqAt.shaped c = true ∧ Q (.bl ((ds.any fun z => PyData.eqv z d) ^^ neg)) H
theorem shaped_tl {ds : List PyData} (h : SeqAt.shaped (.tuple ds) = true) : SeqAt.shaped (.list ds) = true := by
  unfold SeqAt.shaped at h ⊢
  simpa [PyData.canLay0, PyData.depth] using h
theorem op_inAny (hu : X.A.units + 65 < cLine) : OpR X (compareOp .In) (rInAny X.K false) := by
  intro pins s σ H x y v u Q I rx ry h
  obtain ⟨d, c, ds, hd, hc, e, sd, sc, q⟩ := h
  rw [Bool.xor_false] at q
  cases c with
  | list zs =>
    cases e
    exact op_inD hu pins s σ H x y v u Q I rx ry ⟨d, ds, hd, hc, sd, sc, q⟩
  | tuple zs =>
    cases e
    obtain ⟨as, r1⟩ := Dp.reads I d x v hd rx
    obtain ⟨bs, r2⟩ := Dp.reads I (.tuple ds) y u hc ry
    have sl := shaped_tl sc
    exact SeqAt.in_tuple_reads r2 r1 (SeqAt.canLay_of_shaped sl) (SeqAt.canLay_of_shaped sd) (room_in_shaped sd hu) ⟨.bl _, H, I, rfl, q⟩
  | _ => cases e
theorem op_notInAny (hu : X.A.units + 65 < cLine) : OpR X (compareOp .NotIn) (rInAny X.K true) := by
  intro pins s σ H x y v u Q I rx ry h
  obtain ⟨d, c, ds, hd, hc, e, sd, sc, q⟩ := h
  rw [Bool.xor_true] at q
  cases c with
  | list zs =>
    cases e
    exact op_notInD hu pins s σ H x y v u Q I rx ry ⟨d, ds, hd, hc, sd, sc, q⟩
  | tuple zs =>
    cases e
    obtain ⟨as, r1⟩ := Dp.reads I d x v hd rx
    obtain ⟨bs, r2⟩ := Dp.reads I (.tuple ds) y u hc ry
    have sl := shaped_tl sc
    exact SeqAt.notIn_tuple_reads r2 r1 (SeqAt.canLay_of_shaped sl) (SeqAt.canLay_of_shaped sd) (room_in_shaped sd hu) ⟨.bl _, H, I, rfl, q⟩
  | _ => cases e
theorem b_in {neg : Bool} : Bin2 C E (rInAny C.K neg) (inP neg) := by
  intro m S H a b x y Q hs ha hb w
  unfold inP at w
  split at w
  · rename_i d c e1 e2
    split at w
    · rename_i ds e3
      split at w
      · rename_i h
        exact ⟨d, c, ds, ha.dp hs e1, hb.dp hs e2, e3, h.1, h.2, wp_ok hs (RA.mkBl _) w⟩
      · exact False.elim w
    · exact False.elim w
  · exact False.elim w
section
variable {a b : Expr} {fa fb : M A} {pos : Pos} (hK : C.K = X.K) (hu : X.A.units + 65 < cLine)
include hK hu
theorem se_in (ha : SE C E X a fa) (hb : SE C E X b fb) (hm : behindInMarks .In b = false := by rfl) : SE C E X (.Compare a [.In] [b] pos) (bin (inP false) fa fb) :=
  pe_imp (pe_cmpR (op_inAny hu) ha hb hm) fun σ H Q t => t_bin (hK ▸ b_in) t
theorem se_notIn (ha : SE C E X a fa) (hb : SE C E X b fb) (hm : behindInMarks .NotIn b = false := by rfl) : SE C E X (.Compare a [.NotIn] [b] pos) (bin (inP true) fa fb) :=
  pe_imp (pe_cmpR (op_notInAny hu) ha hb hm) fun σ H Q t => t_bin (hK ▸ b_in) t
theorem st_in (ha : SE C E X a fa) (hb : SE C E X b fb) (hm : behindInMarks .In b = false := by rfl) : ST C E X (.Compare a [.In] [b] pos) (asB (bin (inP false) fa fb)) :=
  st_cmp (op_inAny hu) (hK ▸ b_in) ha hb hm
theorem st_notIn (ha : SE C E X a fa) (hb : SE C E X b fb) (hm : behindInMarks .NotIn b = false := by rfl) : ST C E X (.Compare a [.NotIn] [b] pos) (asB (bin (inP true) fa fb)) :=
  st_cmp (op_notInAny hu) (hK ▸ b_in) ha hb hm
end
section
variable {a b : Expr} {fa fb : M A} {pos : Pos}
theorem st_eq (hK : C.K = X.K) (hu : X.A.units + 64 < cLine) (ha : SE C E X a fa) (hb : SE C E X b fb) : ST C E X (.Compare a [.Eq] [b] pos) (asB (bin (eqP false) fa fb)) :=
  st_cmp (op_eqD hu) (b_eq hK) ha hb (nomark _)
theorem st_ne (hK : C.K = X.K) (hu : X.A.units + 64 < cLine) (ha : SE C E X a fa) (hb : SE C E X b fb) : ST C E X (.Compare a [.NotEq] [b] pos) (asB (bin (eqP true) fa fb)) :=
  st_cmp (op_neD hu) (b_ne hK) ha hb (nomark _)
theorem st_lt (ha : SE C E X a fa) (hb : SE C E X b fb) : ST C E X (.Compare a [.Lt] [b] pos) (asB (bin (ordP ltB) fa fb)) := st_cmp op_lt (b_ord ltB) ha hb (nomark _)
theorem st_le (ha : SE C E X a fa) (hb : SE C E X b fb) : ST C E X (.Compare a [.LtE] [b] pos) (asB (bin (ordP leB) fa fb)) := st_cmp op_le (b_ord leB) ha hb (nomark _)
theorem st_gt (ha : SE C E X a fa) (hb : SE C E X b fb) : ST C E X (.Compare a [.Gt] [b] pos) (asB (bin (ordP gtB) fa fb)) := st_cmp op_gt (b_ord gtB) ha hb (nomark _)
theorem st_ge (ha : SE C E X a fa) (hb : SE C E X b fb) : ST C E X (.Compare a [.GtE] [b] pos) (asB (bin (ordP geB) fa fb)) := st_cmp op_ge (b_ord geB) ha hb (nomark _)
theorem b_isN {neg : Bool} : Bin2 C E (fun x y H Q => y = .non ∧ Q (.bl (decide (x = .non) ^^ neg)) H) (isNP neg) := by
  intro m S H a b x y Q hs h1 h2 w
  unfold isNP at w
  split at w
  · refine ⟨h2.non, ?_⟩
    rw [ra_non h1]
    exact wp_ok (C := C) (E := E) hs (RA.mkBl _) w
  · exact False.elim w
theorem st_isN (ha : SE C E X a fa) (hb : SE C E X b fb) : ST C E X (.Compare a [.Is] [b] pos) (asB (bin (isNP false) fa fb)) := by
  refine st_cmp (r := fun x y H Q => y = .non ∧ Q (.bl (decide (x = .non) ^^ false)) H) ?_ b_isN ha hb (nomark _)
  simpa using op_isN (X := X)
theorem st_notN (ha : SE C E X a fa) (hb : SE C E X b fb) : ST C E X (.Compare a [.IsNot] [b] pos) (asB (bin (isNP true) fa fb)) := by
  refine st_cmp (r := fun x y H Q => y = .non ∧ Q (.bl (decide (x = .non) ^^ true)) H) ?_ b_isN ha hb (nomark _)
  simpa using op_notN (X := X)
end

/-! ### built-in functions -/
/-- the shape of a call of a built-in: by values -/
def bcall (p : List A → Store → R A) (f : M (List A)) : M A := fun ρ S => (f ρ S).bind fun as S1 => p as S1
def Bcl (C : Cc) (E : XK) (r : List V → Hp → VK → Prop) (p : List A → Store → R A) : Prop :=
  ∀ m S H as vs Q, RS C m S H → RAs C m H as vs → WpG C E (RA C) m H (p as S) Q → r vs H Q
theorem t_bcall {r : List V → Hp → VK → Prop} {p : List A → Store → R A} {f : M (List A)} (hp : Bcl C E r p) {σ : L2.St} {H : Hp} {Q : VK} (h : tE C E (bcall p f) σ H Q) : tCB r (tA C E f) σ H Q := by
  obtain ⟨m, S, ρ, hs, he, w⟩ := h
  exact tA_then (g := fun as _ S1 => p as S1) hs he w fun m1 S1 as vs H1 x1 r1 e1 q1 w1 => hp m1 S1 H1 as vs Q r1 q1 w1
section
variable {x : Str} {p pos : Pos} {e : Expr} {es : List Expr} {f : M (List A)} {id T : String} {r : List V → Hp → VK → Prop} {pp : List A → Store → R A}
theorem se_blt (hp : Bcl C E r pp) (hc : CallR X (.builtin id) r) (hg : Gl X x) (hm : X.mg x = none) (hv : bootBuiltins x = some (.builtin id)) (ha : SA C E X (e :: es) f) (hn : x ≠ "__name__" := by decide) (hdb : (x == ("__debug__" : Str)) = false := by decide)
    (he : starEach (e :: es) X.env = (false, eval e X.env) :: starEach es X.env := by rfl) (hpl : (backTo pos (starEach es X.env)).any (·.1) = false := by rfl) : SE C E X (.Call (.Name x p) (e :: es) [] pos) (bcall pp f) :=
  pe_imp (pe_callB hc hg hm hv ha hn hdb he hpl) fun σ H Q t => t_bcall hp t
theorem se_bty (hp : Bcl C E r pp) (hc : CallR X (.type T) r) (hg : Gl X x) (hm : X.mg x = none) (hv : bootBuiltins x = some (.type T)) (ha : SA C E X (e :: es) f) (hn : x ≠ "__name__" := by decide) (hdb : (x == ("__debug__" : Str)) = false := by decide)
    (he : starEach (e :: es) X.env = (false, eval e X.env) :: starEach es X.env := by rfl) (hpl : (backTo pos (starEach es X.env)).any (·.1) = false := by rfl) : SE C E X (.Call (.Name x p) (e :: es) [] pos) (bcall pp f) :=
  pe_imp (pe_callTy hc hg hm hv ha hn hdb he hpl) fun σ H Q t => t_bcall hp t
end
theorem ras1 {m : List Addr} {H : Hp} {a : A} {vs : List V} (h : RAs C m H [a] vs) : ∃ v, vs = [v] ∧ RA C m H a v := by
  cases h with
  | cons h t => cases t; exact ⟨_, rfl, h⟩
theorem ras2 {m : List Addr} {H : Hp} {a b : A} {vs : List V} (h : RAs C m H [a, b] vs) : ∃ v u, vs = [v, u] ∧ RA C m H a v ∧ RA C m H b u := by
  cases h with
  | cons h t => cases t with
    | cons h2 t => cases t; exact ⟨_, _, rfl, h, h2⟩
/-- len -/
def lenP : List A → Store → R A := fun as S => match as with
  | [.d (.str z)] => if z.length ≤ sizeLine then .ok (.d (.int z.length)) S else .bad
  | [a] => (match seqOf S a with
    | some ds => .ok (.d (.int ds.length)) S
    | none => .bad)
  | _ => .bad
theorem c_len : Bcl C E (fun xs H Q => ∃ x n, xs = [x] ∧ LenV C.K x H n ∧ Q (.int n) H) lenP := by
  intro m S H as vs Q hs ha w
  unfold lenP at w
  split at w
  · obtain ⟨v, rfl, h⟩ := ras1 ha
    cases h.str
    split at w
    · rename_i z hl
      exact ⟨.str z, z.length, rfl, ⟨hl, rfl⟩, wp_ok hs (RA.mkInt _) w⟩
    · exact False.elim w
  · obtain ⟨v, rfl, h⟩ := ras1 ha
    split at w
    · rename_i ds e
      obtain ⟨p, vs, rfl, h1, h2⟩ := seq_at hs h e
      refine ⟨.ref p, vs.length, rfl, ?_, ?_⟩
      · rcases h1 with h1 | h1
        · exact .inl ⟨vs, h1, rfl⟩
        · exact .inr ⟨vs, h1, rfl⟩
      · rw [← h2.len]
        exact wp_ok hs (RA.mkInt _) w
    · exact False.elim w
  · exact False.elim w
/-- abs, int, min, max of whole numbers -/
def absP : List A → Store → R A := fun as S => match as with
  | [.d (.int i)] => .ok (.d (.int (if i < 0 then -i else i))) S
  | _ => .bad
theorem c_abs : Bcl C E (fun xs H Q => ∃ i, xs = [.int i] ∧ Q (.int (if i < 0 then -i else i)) H) absP := by
  intro m S H as vs Q hs ha w
  unfold absP at w
  split at w
  · obtain ⟨v, rfl, h⟩ := ras1 ha
    cases h.int
    exact ⟨_, rfl, wp_ok hs (RA.mkInt _) w⟩
  · exact False.elim w
def intP : List A → Store → R A := fun as S => match as with
  | [.d (.int i)] => .ok (.d (.int i)) S
  | [.d (.bl k)] => .ok (.d (.int (if k then 1 else 0))) S
  | _ => .bad
theorem c_int : Bcl C E (fun xs H Q => (∃ i, xs = [V.int i] ∧ Q (.int i) H) ∨ ∃ k, xs = [V.bl k] ∧ Q (.int (if k then 1 else 0)) H) intP := by
  intro m S H as vs Q hs ha w
  unfold intP at w
  split at w
  · obtain ⟨v, rfl, h⟩ := ras1 ha
    cases h.int
    exact .inl ⟨_, rfl, wp_ok hs (RA.mkInt _) w⟩
  · obtain ⟨v, rfl, h⟩ := ras1 ha
    cases h.bl
    exact .inr ⟨_, rfl, wp_ok hs (RA.mkInt _) w⟩
  · exact False.elim w
def two (g : Int → Int → Int) : List A → Store → R A := fun as S => match as with
  | [.d (.int i), .d (.int j)] => .ok (.d (.int (g i j))) S
  | _ => .bad
theorem c_two {g : Int → Int → Int} : Bcl C E (fun xs H Q => ∃ i j, xs = [V.int i, V.int j] ∧ Q (.int (g i j)) H) (two g) := by
  intro m S H as vs Q hs ha w
  unfold two at w
  split at w
  · obtain ⟨v, u, rfl, h, h2⟩ := ras2 ha
    cases h.int; cases h2.int
    exact ⟨_, _, rfl, wp_ok hs (RA.mkInt _) w⟩
  · exact False.elim w
def max2 (i j : Int) : Int := if j > i then j else i
def min2 (i j : Int) : Int := if j < i then j else i
/-- tuple(xs), list(xs) -/
def tupleP : List A → Store → R A := fun as S => match as with
  | [.d (.tup ds)] => .ok (.d (.tup ds)) S
  | [a] => (match lstOf S a with
    | some ds => .ok (.d (.tup ds)) S
    | none => .bad)
  | _ => .bad
theorem c_tuple : Bcl C E (fun xs H Q => ∃ p ys, xs = [V.ref p] ∧ ((SqL C.K H p ys ∧ ∀ l, H l = none → Q (.ref l) (upd H l (.tup ys))) ∨ (SqT C.K H p ys ∧ Q (.ref p) H))) tupleP := by
  intro m S H as vs Q hs ha w
  unfold tupleP at w
  split at w
  · obtain ⟨v, rfl, h⟩ := ras1 ha
    obtain ⟨p, vs, rfl, h1, h2⟩ := tup_at h rfl
    exact ⟨p, vs, rfl, .inr ⟨h1, wp_ok hs h w⟩⟩
  · obtain ⟨v, rfl, h⟩ := ras1 ha
    split at w
    · rename_i ds e
      obtain ⟨p, vs, rfl, h1, h2⟩ := lst_at hs h e
      exact ⟨p, vs, rfl, .inl ⟨h1, tup_new hs h2 w⟩⟩
    · exact False.elim w
  · exact False.elim w
def listP : List A → Store → R A := fun as S => match as with
  | [a] => (match seqOf S a with
    | some ds => .ok (.d (.fl ds)) S
    | none => .bad)
  | _ => .bad
def listC : List A → Store → R A := fun as S => match as with
  | [a] => (match seqOf S a with
    | some ds => .ok (.ref S.length) (S ++ [.lst ds])
    | none => .bad)
  | _ => .bad
theorem c_list : Bcl C E (fun xs H Q => ∃ p ys, xs = [V.ref p] ∧ (SqL C.K H p ys ∨ SqT C.K H p ys) ∧ ∀ l, H l = none → Q (.ref l) (upd H l (.lst ys))) listP := by
  intro m S H as vs Q hs ha w
  unfold listP at w
  split at w
  · obtain ⟨v, rfl, h⟩ := ras1 ha
    split at w
    · rename_i ds e
      obtain ⟨p, vs, rfl, h1, h2⟩ := seq_at hs h e
      exact ⟨p, vs, rfl, h1, fl_new hs h2 w⟩
    · exact False.elim w
  · exact False.elim w
theorem c_listC : Bcl C E (fun xs H Q => ∃ p ys, xs = [V.ref p] ∧ (SqL C.K H p ys ∨ SqT C.K H p ys) ∧ ∀ l, H l = none → Q (.ref l) (upd H l (.lst ys))) listC := by
  intro m S H as vs Q hs ha w
  unfold listC at w
  split at w
  · obtain ⟨v, rfl, h⟩ := ras1 ha
    split at w
    · rename_i ds e
      obtain ⟨p, vs, rfl, h1, h2⟩ := seq_at hs h e
      exact ⟨p, vs, rfl, h1, cell_new hs h2 w⟩
    · exact False.elim w
  · exact False.elim w
/-- lists of whole numbers | truths -/
def intsD : List D → Option (List Int)
  | [] => some []
  | .int i :: ds => (intsD ds).map (i :: ·)
  | _ :: _ => none
def blsD : List D → Option (List Bool)
  | [] => some []
  | .bl i :: ds => (blsD ds).map (i :: ·)
  | _ :: _ => none
theorem ints_of {m : List Addr} {H : Hp} : ∀ {ds : List D} {vs : List V} {ns : List Int}, RDs C m H ds vs → intsD ds = some ns → vs = ns.map V.int
  | [], _, _, h, e => by simp only [intsD] at e; cases e; simp only [RDs] at h; subst h; rfl
  | .int i :: ds, _, _, h, e => by
    simp only [intsD, Option.map_eq_some_iff] at e
    obtain ⟨ns, e, rfl⟩ := e
    simp only [RDs, RD] at h
    obtain ⟨v, r, rfl, rfl, h2⟩ := h
    rw [ints_of h2 e]
    rfl
  | .non :: _, _, _, _, e => by simp [intsD] at e
  | .bl _ :: _, _, _, _, e => by simp [intsD] at e
  | .str _ :: _, _, _, _, e => by simp [intsD] at e
  | .tup _ :: _, _, _, _, e => by simp [intsD] at e
  | .tq _ :: _, _, _, _, e => by simp [intsD] at e
  | .fl _ :: _, _, _, _, e => by simp [intsD] at e
  | .rl _ :: _, _, _, _, e => by simp [intsD] at e
  | .ob _ _ _ :: _, _, _, _, e => by simp [intsD] at e
  | .fn _ :: _, _, _, _, e => by simp [intsD] at e
theorem bls_of {m : List Addr} {H : Hp} : ∀ {ds : List D} {vs : List V} {ns : List Bool}, RDs C m H ds vs → blsD ds = some ns → vs = ns.map V.bl
  | [], _, _, h, e => by simp only [blsD] at e; cases e; simp only [RDs] at h; subst h; rfl
  | .bl i :: ds, _, _, h, e => by
    simp only [blsD, Option.map_eq_some_iff] at e
    obtain ⟨ns, e, rfl⟩ := e
    simp only [RDs, RD] at h
    obtain ⟨v, r, rfl, rfl, h2⟩ := h
    rw [bls_of h2 e]
    rfl
  | .non :: _, _, _, _, e => by simp [blsD] at e
  | .int _ :: _, _, _, _, e => by simp [blsD] at e
  | .str _ :: _, _, _, _, e => by simp [blsD] at e
  | .tup _ :: _, _, _, _, e => by simp [blsD] at e
  | .tq _ :: _, _, _, _, e => by simp [blsD] at e
  | .fl _ :: _, _, _, _, e => by simp [blsD] at e
  | .rl _ :: _, _, _, _, e => by simp [blsD] at e
  | .ob _ _ _ :: _, _, _, _, e => by simp [blsD] at e
  | .fn _ :: _, _, _, _, e => by simp [blsD] at e
theorem rds_ints {m : List Addr} {H : Hp} : ∀ ns : List Int, RDs C m H (ns.map D.int) (ns.map V.int)
  | [] => RDs.nil
  | n :: ns => RDs.cons (by simp [RD]) (rds_ints ns)
/-- the rising order of whole numbers -/
def sortI (ns : List Int) : List Int := ns.mergeSort (fun a b => decide (a ≤ b))
theorem sortI_perm (ns : List Int) : (sortI ns).Perm ns := List.mergeSort_perm ns _
theorem sortI_pw (ns : List Int) : (sortI ns).Pairwise (· ≤ ·) := by
  have h := List.pairwise_mergeSort (le := fun a b : Int => decide (a ≤ b)) (fun a b c h1 h2 => by simp at *; omega) (fun a b => by simp; omega) ns
  exact h.imp fun h => by simpa using h
theorem sorted_eq : ∀ {xs ys : List Int}, xs.Perm ys → xs.Pairwise (· ≤ ·) → ys.Pairwise (· ≤ ·) → xs = ys := fun h1 h2 h3 =>
  h1.eq_of_pairwise (fun a b _ _ h4 h5 => Int.le_antisymm h4 h5) h2 h3
def sortP (cell : Bool) : List A → Store → R A := fun as S => match as with
  | [a] => (match lstOf S a with
    | some ds => (match intsD ds with
      | some ns => if cell then .ok (.ref S.length) (S ++ [.lst ((sortI ns).map D.int)]) else .ok (.d (.fl ((sortI ns).map D.int))) S
      | none => .bad)
    | none => .bad)
  | _ => .bad
theorem c_sort {cell : Bool} : Bcl C E (rSortedI C.K) (sortP cell) := by
  intro m S H as vs Q hs ha w
  unfold sortP at w
  split at w
  · obtain ⟨v, rfl, h⟩ := ras1 ha
    split at w
    · rename_i ds e
      split at w
      · rename_i ns e2
        obtain ⟨p, vs, rfl, h1, h2⟩ := lst_at hs h e
        have e3 := ints_of h2 e2
        subst e3
        refine ⟨p, ns, rfl, h1, fun ns' q h3 h4 h5 => ?_⟩
        have e4 : ns' = sortI ns := sorted_eq (h3.trans (sortI_perm ns).symm) h4 (sortI_pw ns)
        subst e4
        split at w
        · exact cell_new hs (rds_ints _) w q h5
        · exact fl_new hs (rds_ints _) w q h5
      · exact False.elim w
    · exact False.elim w
  · exact False.elim w
def allP (any : Bool) : List A → Store → R A := fun as S => match as with
  | [a] => (match lstOf S a with
    | some ds => (match blsD ds with
      | some bs => .ok (.d (.bl (if any then bs.any id else bs.all id))) S
      | none => .bad)
    | none => .bad)
  | _ => .bad
theorem c_all : Bcl C E (rAll C.K) (allP false) := by
  intro m S H as vs Q hs ha w
  unfold allP at w
  split at w
  · obtain ⟨v, rfl, h⟩ := ras1 ha
    split at w
    · rename_i ds e
      split at w
      · rename_i bs e2
        obtain ⟨p, vs, rfl, h1, h2⟩ := lst_at hs h e
        have e3 := bls_of h2 e2
        subst e3
        exact ⟨p, bs, rfl, h1, wp_ok hs (RA.mkBl _) w⟩
      · exact False.elim w
    · exact False.elim w
  · exact False.elim w
theorem c_any : Bcl C E (rAny C.K) (allP true) := by
  intro m S H as vs Q hs ha w
  unfold allP at w
  split at w
  · obtain ⟨v, rfl, h⟩ := ras1 ha
    split at w
    · rename_i ds e
      split at w
      · rename_i bs e2
        obtain ⟨p, vs, rfl, h1, h2⟩ := lst_at hs h e
        have e3 := bls_of h2 e2
        subst e3
        exact ⟨p, bs, rfl, h1, wp_ok hs (RA.mkBl _) w⟩
      · exact False.elim w
    · exact False.elim w
  · exact False.elim w
/-! ### isinstance -/
/-- the name of a built-in type -/
def tyA (S : Store) : A → Option String
  | .d .non => some "NoneType"
  | .d (.bl _) => some "bool"
  | .d (.int _) => some "int"
  | .d (.str _) => some "str"
  | .d (.tup _) => some "tuple"
  | .d (.fl _) => some "list"
  | .d (.rl _) => none
  | .d (.ob _ _ _) => none
  | .d (.fn _) => none
  | .d (.tq _) => none
  | .fnc _ _ => none
  | .ref n => (match S[n]? with
    | some (.lst _) => some "list"
    | _ => none)
theorem tyA_of {m : List Addr} {H : Hp} {S : Store} {a : A} {v : V} {T : String} (hs : RS C m S H) (h : RA C m H a v) (e : tyA S a = some T) : TyX C.K H v (.type T) := by
  cases a with
  | fnc k cs => cases e
  | ref n =>
    obtain ⟨p, h1, rfl⟩ := h.ref
    simp only [tyA] at e
    split at e
    · rename_i ds hc
      cases e
      obtain ⟨vs, h2, _⟩ := hs.cell n _ p hc h1
      exact .base (.lst h2)
    · cases e
  | d x =>
    cases x with
    | non => cases e; rw [h.non]; exact .base .non
    | bl b => cases e; rw [h.bl]; exact .base (.bl b)
    | int b => cases e; rw [h.int]; exact .base (.int b)
    | str b => cases e; rw [h.str]; exact .base (.str b)
    | tup b =>
      cases e
      obtain ⟨p, vs, rfl, h1, _⟩ := h.tup
      rcases h1 with ⟨h1 | ⟨o, h1⟩, _⟩ | h1
      · exact .base (.tup h1)
      · exact .fTuple h1
      · rcases h1 with (h1 | ⟨o, h1⟩) | ⟨o, its, n, h1, h2, _⟩
        · cases h1
        · cases h1
        · exact .kTuple h1 h2
    | fl b =>
      cases e
      obtain ⟨p, vs, rfl, h1, _⟩ := h.fl
      exact .base (.lst h1)
    | rl b => cases e
    | ob c ks b => cases e
    | fn k => cases e
    | tq b => cases e
end RS
end

section
set_option maxRecDepth 100000
set_option maxHeartbeats 4000000
/-! enumerate over a tuple. -/
namespace PySem
open Sem (wp)
open AutoSeq1 (wpAny_loadPart')
theorem rs_meets_enumT (tp : Addr) (zs : Array Value) :
    Meets (Builtin.«enumerate.__new__» ⟨[.type "enumerate", .ref tp], []⟩) (fun _ Rr sh => sh.heap.IsTuple tp zs ∧
      Rr (.ok (.ret (.ref (sh.heap.objs.size + 1))))
        { sh with heap := (sh.heap.push { cls := .type "tuple_iterator", data := .fields #[.ref tp, .int 0 0] }).push { cls := .type "enumerate", data := .fields #[.none, .bool false, .ref sh.heap.objs.size, rawInt 0, .none, .none] } }) :=
  .of_wp fun pr wd Ar Rr sh hh => by
    obtain ⟨hx, gx, dx, tx, ox⟩ := sh
    obtain ⟨ht, hR⟩ := hh
    have hs := sub_enumerate
    have hz : (hx.push { cls := .type "tuple_iterator", data := .fields #[.ref tp, .int 0 0] }).objs.size = hx.objs.size + 1 := Heap.size_push ..
    have q1 : ∀ {A' : Around} {E' : Value → Shared → Prop} {Q' : Value → Shared → Prop}, Q' (.ref hx.objs.size) ⟨hx.push { cls := .type "tuple_iterator", data := .fields #[.ref tp, .int 0 0] }, gx, dx, tx, ox⟩ →
        wpAny (model pr wd) A' (pyIter (.ref tp)) Q' E' ⟨hx, gx, dx, tx, ox⟩ := fun q => wpAny_pyIter_tuple (s := ⟨hx, gx, dx, tx, ox⟩) ht q
    wp_walk using q1
    refine wpAny_stack_any fun stk => wpAny_pure ?_
    split
    · rename_i cc _ _ _ _ _
      cases (cc == Value.type "enumerate")
      · wp_walk using q1
        exact ⟨_, rfl, by rw [hz]; exact hR⟩
      · wp_walk using q1
        exact ⟨_, rfl, by rw [hz]; exact hR⟩
    · wp_walk using q1
      exact ⟨_, rfl, by rw [hz]; exact hR⟩
theorem rs_call_enumT {prog : Program} {w : World} {A : Around} {E : Value → Shared → Prop} {s : Shared} {tp : Addr} {zs : Array Value} {Q : Value → Shared → Prop} (hT : s.heap.IsTuple tp zs)
    (h : ∀ h', IsEnum h' (s.heap.objs.size + 1) s.heap.objs.size 0 .none → h'.IsTupleIter s.heap.objs.size tp 0 → h'.objs.size = s.heap.objs.size + 2 →
      (∀ b o, s.heap.get? b = some o → h'.get? b = some o) → Q (.ref (s.heap.objs.size + 1)) { s with heap := h' }) :
    wpAny (model prog w) A (call (.type "enumerate") [.ref tp]) Q E s := by
  refine callType_new F.called_enumerate (by decide) (F.typeCall_enumerate_1 _) (F.newCall_enumerate_1 _) (fun ob => F.args_object_init_2 ob _) F.entry_enumerate_new
    (rs_meets_enumT tp zs) ⟨hT, ?_⟩
  have hz : (s.heap.push { cls := .type "tuple_iterator", data := .fields #[.ref tp, .int 0 0] }).objs.size = s.heap.objs.size + 1 := Heap.size_push ..
  show _ ∧ _
  have he : IsEnum ((s.heap.push { cls := .type "tuple_iterator", data := .fields #[.ref tp, .int 0 0] }).push
      { cls := .type "enumerate", data := .fields #[.none, .bool false, .ref s.heap.objs.size, rawInt 0, .none, .none] }) (s.heap.objs.size + 1) s.heap.objs.size 0 .none := by
    have z := Heap.get?_push_size (s.heap.push { cls := .type "tuple_iterator", data := .fields #[.ref tp, .int 0 0] })
      (o := { cls := .type "enumerate", data := .fields #[.none, .bool false, .ref s.heap.objs.size, rawInt 0, .none, .none] }) rfl
    rw [hz] at z; exact z
  refine ⟨⟨_, he, rfl⟩, h _ he ?_ ?_ ?_⟩
  · exact ⟨_, Heap.get?_push_of_some _ (Heap.get?_push_size _ rfl), rfl, rfl⟩
  · rw [Heap.size_push, hz]
  · exact fun b o x => Heap.get?_push_of_some _ (Heap.get?_push_of_some _ x)
end PySem
namespace RS
open PySem PySem.Spec PyProof.Rows L2
/-- the tuple at a, its items in new pairs with their places -/
def IteT (K : Fr) (a : Addr) : It :=
  ⟨fun i H => ∃ (xs : List V) (x : V), SqT K H a xs ∧ xs[i]? = some x,
   fun i H v H' => ∃ T x, v = .ref T ∧ H T = none ∧ H' = upd H T (.tup [.int (i : Nat), x]) ∧ ∀ xs, SqT K H a xs → xs[i]? = some x,
   fun i H => ∃ xs : List V, SqT K H a xs ∧ xs.length ≤ i⟩
theorem turn_enumT {P : Program} {w : World} {K : Fr} {elts : List Expr} {kk : Nat} {tpos : Pos} (a e it : Addr) :
    Turn P w K (.Tuple elts kk tpos) (IteT K a) [e, it] e (fun i h => (∃ old, IsEnum h e it ((i : Nat) : Int) old) ∧ h.IsTupleIter it a i ∧ e ≠ it ∧ a ≠ it) where
  mem := by simp
  obj := fun i h st b hb => by
    obtain ⟨⟨old, he⟩, ⟨o, ho, hc, hd⟩, _⟩ := st
    have e' : b = e ∨ b = it := by simpa using hb
    rcases e' with rfl | rfl
    · exact ⟨_, he, fun v q => nomatch q⟩
    · exact ⟨o, ho, fun v q => by rw [hd] at q; cases q⟩
  keep := fun i h h' st k => let ⟨⟨old, he⟩, hi, hn⟩ := st; ⟨⟨old, k e (by simp) _ he⟩, hi.at fun o q => k it (by simp) o q, hn⟩
  item := by
    intro X hP hw hK hc i pins s σ H E I hf st hg
    subst hP hw hK
    obtain ⟨⟨old, he⟩, hit, hne, hne2⟩ := st
    obtain ⟨xs, x, hq, hx⟩ := hg
    obtain ⟨its, rv, p, hz⟩ := I.tuple hq
    obtain ⟨u, hu, ru⟩ := rv.get hx
    have hel : e < s.heap.objs.size := Heap.lt_size he
    have hil : it < s.heap.objs.size := by obtain ⟨_, q, _⟩ := hit; exact Heap.lt_size q
    have hlt : i < its.toArray.size := by
      have := (List.getElem?_eq_some_iff.mp hu).1
      simpa using this
    have nea : e ≠ a := fun z => by
      obtain ⟨ob, h1, h2, _⟩ := p
      rw [← z, he] at h1
      cases h1
      exact absurd (show Value.type "enumerate" = Value.type "tuple" from h2) (by decide)
    refine wpAny_pyNext_enum_itemD (Draws.tuple (A := X.A.in1) (I.ok.hd hc) it a hne2 its.toArray) he ⟨hit, p⟩ hlt hne (by simp [hne, nea]) fun y h' tk hy ho hst hT hsz hk => ?_
    have hy : y = u := by
      have h2 : its.toArray[i]? = some u := by simpa using hu
      have hy : its.toArray[i]? = some y := hy
      rw [h2] at hy
      exact (Option.some.inj hy).symm
    subst hy
    refine ⟨_, rfl, wpAny_letOwnedTupleGo_enum (s := { s with heap := h', toks := tk + 1 }) ho fun h'' he' sb => ?_⟩
    have hT2 : h''.get? s.heap.objs.size = some { cls := .type "tuple", data := .seq #[.int i tk, y] } := (sb.2 _ (Nat.ne_of_gt hel)).trans hT
    have new : ObjOk X.prog X.w (upd H s.heap.objs.size (.tup [.int (i : Nat), x])) h'' s.heap.objs.size (.tup [.int (i : Nat), x]) :=
      ⟨by show 2 ≤ sizeLine; decide, [.int i tk, y], .cons ⟨_, rfl⟩ (.cons ru .nil), ⟨_, hT2, rfl, _, rfl⟩⟩
    have I1 : Inv X pins σ (upd H s.heap.objs.size (.tup [.int (i : Nat), x])) { s with heap := h'', toks := tk + 1 } :=
      I.turnedNew (ch := [e, it]) (fun b ob hb q => (sb.2 b (fun z => hb (by simp [z]))).trans (hk b ob (fun z => hb (by simp [z])) (fun z => hb (by simp [z])) q)) hf (Nat.le_refl _) new
    refine ⟨.ref s.heap.objs.size, _, I1, rfl, ⟨_, x, rfl, I.hok.fresh (Nat.le_refl _), rfl, fun ys hy => by rw [I.tuple_inj hy hq]; exact hx⟩, ⟨⟨y, ?_⟩, hst.1.at fun o q => (sb.2 it (Ne.symm hne)).trans q, hne, hne2⟩, fun b hb => ?_⟩
    · have e1 : ((i + 1 : Nat) : Int) = (i : Int) + 1 := by omega
      rw [e1]; exact he'
    · have hb' : b < s.heap.objs.size := by
        have e' : b = e ∨ b = it := by simpa using hb
        rcases e' with rfl | rfl
        · exact hel
        · exact hil
      rw [upd_ne (Nat.ne_of_lt hb')]
      exact (hf b hb).1
  done := by
    intro X hP hw hK hc i pins s σ H E I hf st hg
    subst hP hw hK
    obtain ⟨⟨old, he⟩, hit, hne, hne2⟩ := st
    obtain ⟨xs, hq, hx⟩ := hg
    obtain ⟨its, rv, p, hz⟩ := I.tuple hq
    obtain ⟨f0, f1, f2, f3, f4, f5⟩ := hf it (by simp)
    have hl := rv.length
    have hi : i = its.toArray.size ∨ its.toArray.size < i := by simp; omega
    unfold pyNext
    have hT : s.TypeIs (.ref e) "enumerate" := ⟨_, he, rfl⟩
    refine wpAny_bind (wpAny_attempt (wpAny_callSpecial?_slot (name := Str.ofString "__next__") hT F.slot_enumerate_next
      (wpAny_call_entry F.slot_enumerate_next hT F.entry_enumerate_next ?_ (F.args_enumerate_next_1 _))))
    show wpAny _ _ (field (.ref e) 2 >>= _) _ _ _
    refine wpAny_bind (wpAny_field he rfl (x := .ref it) rfl ?_)
    refine wpAny_bind (wpAny_nextOf_tuple_end (I.ok.hd hc) hit p (by simp; omega) fun h' x he' hx' => ?_)
    obtain ⟨o, ho, hc'⟩ := hx'
    refine wpAny_bind (wpAny_isInstance (T := "StopIteration") (b := true) ⟨o, ho, hc'⟩ isSubtype_stop ?_)
    exact wpAny_pure ⟨rfl, I.turned (t' := s.toks) (fun b o hb q => he' b o hb q) f0 f1 f3 f4 f5⟩
  self := fun A i s Q E st h => let ⟨⟨_, he⟩, _⟩ := st; wpAny_pyIter_enum he h
def iEnumT (K : Fr) (ta : TA) : TI := fun σ H R => ta σ H fun vs H1 => ∃ a xs, vs = [.ref a] ∧ SqT K H1 a xs ∧ R (IteT K a) H1
theorem pi_enumT {X : Cx} {e : Expr} {ta : TA} {p pos tpos : Pos} {elts : List Expr} {kk : Nat} (hg : Gl X "enumerate") (hm : X.mg "enumerate" = none) (ha : PA X [e] ta) (hs : starEach [e] X.env = [(false, eval e X.env)] := by rfl) :
    PI X (.Tuple elts kk tpos) (.Call (.Name "enumerate" p) [e] [] pos) (iEnumT X.K ta) := by
  refine ⟨fun pins s σ H R I h => ?_⟩
  refine Call_ (ld_blt I hg hm boot_enumerate (PyProof.Rows.callWith_type1 (thn (ha.run pos pins s σ H _ I h) fun us s1 ⟨vs, H1, I1, r1, q1⟩ => ?_) hs rfl))
  obtain ⟨a, xs, rfl, hq, q⟩ := q1
  rw [Vals.ref1 r1]
  obtain ⟨its, rv, p', hz⟩ := I1.tuple hq
  refine rs_call_enumT (show s1.heap.IsTuple a its.toArray from p') fun h' he hit hsz hk => wpAny_pyIter_enum he ?_
  have I2 : Inv X pins σ H1 { s1 with heap := h' } := I1.kept (t' := s1.toks) hk
  have hal : a < s1.heap.objs.size := by obtain ⟨ob, h1, _⟩ := p'; exact Heap.lt_size h1
  refine ⟨s1.heap.objs.size + 1, [s1.heap.objs.size + 1, s1.heap.objs.size], _, _, H1, rfl, I2, turn_enumT a (s1.heap.objs.size + 1) s1.heap.objs.size, ⟨⟨.none, he⟩, hit, Nat.succ_ne_self _, Nat.ne_of_lt hal⟩, fun b hb => ?_, q⟩
  have e' : b = s1.heap.objs.size + 1 ∨ b = s1.heap.objs.size := by simpa using hb
  have hle : s1.heap.objs.size ≤ b := by
    rcases e' with rfl | rfl
    · exact Nat.le_add_right _ _
    · exact Nat.le_refl _
  exact I1.fpOk hle (I1.hok.fresh hle)
end RS
end

section
set_option maxRecDepth 100000
set_option maxHeartbeats 4000000
/-! What is walked; statements; for, while; comprehensions. -/
namespace RS
open PySem PySem.Spec PyProof.Rows L2
variable {C : Cc} {E : XK} {X : Cx}

/-! ### other rows of the layer's own -/
section
variable {z z' : List (Addr × List V)} {m m' : List Addr} {H : Hp}
theorem TupAt.off (h : ∀ p, Off (C.wz z) m p → Off (C.wz z') m' p) {p : Addr} {vs : List V} (t : TupAt (C.wz z) m H p vs) : TupAt (C.wz z') m' H p vs :=
  t.imp (fun t => ⟨t.1, h _ t.2⟩) id
theorem LstAt.off (h : ∀ p, Off (C.wz z) m p → Off (C.wz z') m' p) {p : Addr} {vs : List V} (t : LstAt (C.wz z) m H p vs) : LstAt (C.wz z') m' H p vs :=
  t.imp (fun t => ⟨t.1, h _ t.2⟩) id
mutual
theorem RD.off (h : ∀ p, Off (C.wz z) m p → Off (C.wz z') m' p) : ∀ {d : D} {v : V}, RD (C.wz z) m H d v → RD (C.wz z') m' H d v
  | .non, _, q => by simpa [RD] using q
  | .bl _, _, q => by simpa [RD] using q
  | .int _, _, q => by simpa [RD] using q
  | .str _, _, q => by simpa [RD] using q
  | .fn k, _, q => by
    unfold RD at q ⊢
    obtain ⟨f, c', e1, h1, n1, h2, n2⟩ := q
    exact ⟨f, c', e1, h1, h _ n1, h2, h _ n2⟩
  | .tup ds, _, q => by
    unfold RD at q ⊢
    obtain ⟨p, vs, e1, h1, h2⟩ := q
    exact ⟨p, vs, e1, h1.off h, RDs.off h h2⟩
  | .fl ds, _, q => by
    unfold RD at q ⊢
    obtain ⟨p, vs, e1, h1, n, h2⟩ := q
    exact ⟨p, vs, e1, h1, h _ n, RDs.off h h2⟩
  | .rl ds, _, q => by
    unfold RD at q ⊢
    obtain ⟨p, vs, e1, h1, h2⟩ := q
    exact ⟨p, vs, e1, h1.off h, RDs.off h h2⟩
  | .ob c ks ds, _, q => by
    unfold RD at q ⊢
    obtain ⟨p, dx, fs, e1, h1, n, h2, h3⟩ := q
    exact ⟨p, dx, fs, e1, h1, h _ n, h2, RDs.off h h3⟩
  | .tq ds, _, q => by
    unfold RD at q ⊢
    obtain ⟨p, o, vs, e1, h1, k, n, h2⟩ := q
    exact ⟨p, o, vs, e1, h1, k, h _ n, RDs.off h h2⟩
theorem RDs.off (h : ∀ p, Off (C.wz z) m p → Off (C.wz z') m' p) : ∀ {ds : List D} {vs : List V}, RDs (C.wz z) m H ds vs → RDs (C.wz z') m' H ds vs
  | [], _, q => by simpa [RDs] using q
  | d :: ds, _, q => by
    unfold RDs at q ⊢
    obtain ⟨v, r, e1, h1, h2⟩ := q
    exact ⟨v, r, e1, RD.off h h1, RDs.off h h2⟩
end
theorem Cap.off (h : ∀ p, Off (C.wz z) m p → Off (C.wz z') m' p) {fr : List Str} {cl : List (Str × Addr)} {cs : List D} {ws : List V} (q : Cap (C.wz z) m H fr cl cs ws) : Cap (C.wz z') m' H fr cl cs ws :=
  ⟨q.len, RDs.off h q.rd, fun y c e => let ⟨o, v, h1, h2, h3⟩ := q.all y c e; ⟨o, v, h1, h _ h2, h3⟩, q.inj, q.has, q.hal⟩
theorem RA.off (h : ∀ p, Off (C.wz z) m p → Off (C.wz z') m' p) (k : ∀ (n : Nat) (p : Addr), m[n]? = some p → m'[n]? = some p) {a : A} {v : V} (q : RA (C.wz z) m H a v) : RA (C.wz z') m' H a v := by
  cases a with
  | d x => exact RD.off h q
  | ref n =>
    obtain ⟨p, h1, h2⟩ := q
    exact ⟨p, k n p h1, h2⟩
  | fnc j cs =>
    obtain ⟨f, c', cl, ws, h1, h2, h3, h4, h5, h6⟩ := q
    exact ⟨f, c', cl, ws, h1, h2, h _ h3, h4, h _ h5, h6.off h⟩
theorem RF.off (h : ∀ p, Off (C.wz z) m p → Off (C.wz z') m' p) (k : ∀ (n : Nat) (p : Addr), m[n]? = some p → m'[n]? = some p) : ∀ {fs : List (Str × A)} {gs : List (Str × V)}, RF (C.wz z) m H fs gs → RF (C.wz z') m' H fs gs
  | _, _, .nil => .nil
  | _, _, .cons q t => .cons ⟨q.1, q.2.off h k⟩ (RF.off h k t)
theorem RC.off (h : ∀ p, Off (C.wz z) m p → Off (C.wz z') m' p) (k : ∀ (n : Nat) (p : Addr), m[n]? = some p → m'[n]? = some p) {p : Addr} {o : Cell} (q : RC (C.wz z) m H p o) : RC (C.wz z') m' H p o := by
  cases o with
  | lst ds => obtain ⟨vs, h1, h2⟩ := q; exact ⟨vs, h1, RDs.off h h2⟩
  | ins c fs => obtain ⟨dx, gs, h1, h2⟩ := q; exact ⟨dx, gs, h1, RF.off h k h2⟩
theorem RE.off (h : ∀ p, Off (C.wz z) m p → Off (C.wz z') m' p) (k : ∀ (n : Nat) (p : Addr), m[n]? = some p → m'[n]? = some p) {ρ : Env} {σ : L2.St} (q : RE (C.wz z) m H ρ σ) : RE (C.wz z') m' H ρ σ :=
  ⟨q.len, fun i a e => let ⟨v, h1, h2⟩ := q.at_ i a e; ⟨v, h1, h2.off h k⟩⟩
theorem rows_more (h : ∀ q ∈ z, q.1 ∈ C.z.map Prod.fst ∨ H q.1 = none) {p : Addr} {o : HO} (e : H p = some o) (n : p ∉ C.rows) : p ∉ (C.wz z).rows := fun hp => by
  rcases List.mem_append.mp hp with k | k
  · obtain ⟨q, h1, rfl⟩ := List.mem_map.mp k
    rcases h q h1 with k | k
    · exact n (List.mem_append_left _ k)
    · rw [e] at k; cases k
  · exact n (List.mem_append_right _ k)
theorem more_at (h : ∀ q ∈ z, q.1 ∈ C.z.map Prod.fst ∨ H q.1 = none) {p : Addr} (hp : p ∈ z.map Prod.fst) : p ∈ C.z.map Prod.fst ∨ H p = none := by
  obtain ⟨q, h1, rfl⟩ := List.mem_map.mp hp
  exact h q h1
-- what is related stands
mutual
theorem RD.more (h : ∀ q ∈ z, q.1 ∈ C.z.map Prod.fst ∨ H q.1 = none) : ∀ {d : D} {v : V}, RD C m H d v → RD (C.wz z) m H d v
  | .non, _, q => by simpa [RD] using q
  | .bl _, _, q => by simpa [RD] using q
  | .int _, _, q => by simpa [RD] using q
  | .str _, _, q => by simpa [RD] using q
  | .fn k, _, q => by
    unfold RD at q ⊢
    obtain ⟨f, c', e1, h1, n1, h2, n2⟩ := q
    exact ⟨f, c', e1, h1, ⟨n1.1, rows_more h h1 n1.2⟩, h2, ⟨n2.1, rows_more h h2 n2.2⟩⟩
  | .tup ds, _, q => by
    unfold RD at q ⊢
    obtain ⟨p, vs, e1, h1, h2⟩ := q
    exact ⟨p, vs, e1, TupAt.more h h1, RDs.more h h2⟩
  | .fl ds, _, q => by
    unfold RD at q ⊢
    obtain ⟨p, vs, e1, h1, n, h2⟩ := q
    exact ⟨p, vs, e1, h1, ⟨n.1, rows_more h h1 n.2⟩, RDs.more h h2⟩
  | .rl ds, _, q => by
    unfold RD at q ⊢
    obtain ⟨p, vs, e1, h1, h2⟩ := q
    exact ⟨p, vs, e1, LstAt.more h h1, RDs.more h h2⟩
  | .ob c ks ds, _, q => by
    unfold RD at q ⊢
    obtain ⟨p, dx, fs, e1, h1, n, h2, h3⟩ := q
    exact ⟨p, dx, fs, e1, h1, ⟨n.1, rows_more h h1 n.2⟩, h2, RDs.more h h3⟩
  | .tq ds, _, q => by
    unfold RD at q ⊢
    obtain ⟨p, o, vs, e1, h1, k, n, h2⟩ := q
    exact ⟨p, o, vs, e1, h1, k, ⟨n.1, rows_more h h1 n.2⟩, RDs.more h h2⟩
theorem RDs.more (h : ∀ q ∈ z, q.1 ∈ C.z.map Prod.fst ∨ H q.1 = none) : ∀ {ds : List D} {vs : List V}, RDs C m H ds vs → RDs (C.wz z) m H ds vs
  | [], _, q => by simpa [RDs] using q
  | d :: ds, _, q => by
    unfold RDs at q ⊢
    obtain ⟨v, r, e1, h1, h2⟩ := q
    exact ⟨v, r, e1, RD.more h h1, RDs.more h h2⟩
theorem TupAt.more (h : ∀ q ∈ z, q.1 ∈ C.z.map Prod.fst ∨ H q.1 = none) {p : Addr} {vs : List V} (t : TupAt C m H p vs) : TupAt (C.wz z) m H p vs := by
  refine t.imp (fun t => ⟨t.1, t.2.1, ?_⟩) id
  rcases t.1 with e | ⟨o, e⟩
  · exact rows_more h e t.2.2
  · exact rows_more h e t.2.2
theorem LstAt.more (h : ∀ q ∈ z, q.1 ∈ C.z.map Prod.fst ∨ H q.1 = none) {p : Addr} {vs : List V} (t : LstAt C m H p vs) : LstAt (C.wz z) m H p vs := by
  refine t.imp (fun t => ⟨t.1, t.2.1, ?_⟩) id
  rcases t.1 with e | ⟨o, e⟩
  · exact rows_more h e t.2.2
  · exact rows_more h e t.2.2
end
theorem RA.more (h : ∀ q ∈ z, q.1 ∈ C.z.map Prod.fst ∨ H q.1 = none) {a : A} {v : V} (q : RA C m H a v) : RA (C.wz z) m H a v := by
  cases a with
  | d x => exact RD.more h q
  | ref n => exact q
  | fnc j cs =>
    obtain ⟨f, c', cl, ws, h1, h2, h3, h4, h5, h6⟩ := q
    refine ⟨f, c', cl, ws, h1, h2, ⟨h3.1, rows_more h h2 h3.2⟩, h4, ⟨h5.1, rows_more h h4 h5.2⟩, h6.len, RDs.more h h6.rd, fun y c e => ?_, h6.inj, h6.has, h6.hal⟩
    obtain ⟨o, v, g1, g2, g3⟩ := h6.all y c e
    exact ⟨o, v, g1, ⟨g2.1, rows_more h g1 g2.2⟩, g3⟩
end
/-! ### what is walked: plain items -/
structure Yields (C : Cc) (m0 : List Addr) (H0 : Hp) (q : List D) (J : It) : Prop where
  go : ∀ i m H z, (∀ q ∈ z, q.1 ∈ C.z.map Prod.fst ∨ H0 q.1 = none) → Ext (C.wz z) m0 H0 m H → i < q.length → J.go i H
  yld : ∀ i m H S d x H' z, (∀ q ∈ z, q.1 ∈ C.z.map Prod.fst ∨ H0 q.1 = none) → Ext (C.wz z) m0 H0 m H → RS (C.wz z) m S H → q[i]? = some d → J.yld i H x H' → Ext (C.wz z) m H m H' ∧ RS (C.wz z) m S H' ∧ RD (C.wz z) m H' d x
  stop : ∀ m H z, (∀ q ∈ z, q.1 ∈ C.z.map Prod.fst ∨ H0 q.1 = none) → Ext (C.wz z) m0 H0 m H → J.stop q.length H
abbrev MI := M (List D)
def tI (C : Cc) (E : XK) (f : MI) : TI := fun σ H Q => ∃ m S ρ, RS C m S H ∧ RE C m H ρ σ ∧ WpG C E (Yields C) m H (f ρ S) Q
abbrev SI (C : Cc) (E : XK) (X : Cx) (tg e : Expr) (f : MI) : Prop := PI X tg e (tI C E f)
theorem pi_imp {tg e : Expr} {t t' : TI} (h : PI X tg e t) (k : ∀ σ H R, t' σ H R → t σ H R) : PI X tg e t' :=
  ⟨fun pins s σ H R I q => h.run pins s σ H R I (k _ _ _ q)⟩
theorem wpI {m : List Addr} {S : Store} {H : Hp} {q : List D} {J : It} {Q : It → Hp → Prop} (r : RS C m S H) (y : Yields C m H q J) (w : WpG C E (Yields C) m H (.ok q S) Q) : Q J H := w m H J (Ext.refl C m H) r y
/-- items of a tuple, of a list that stays -/
theorem y_tup {m : List Addr} {H : Hp} {a : Addr} {vs : List V} {ds : List D} (h : TupAt C m H a vs) (r : RDs C m H ds vs) : Yields C m H ds (Itt C.K a) where
  go := fun i m' H' z hz x hi => ⟨vs, vs[i]'(by rw [← r.len]; exact hi), ((h.more hz).ext x).sq, by simp [← r.len, hi]⟩
  yld := fun i m' H' S d v H'' z hz x hs hd y => by
    obtain ⟨rfl, y⟩ := y
    obtain ⟨u, e1, e2⟩ := (RDs.ext x (r.more hz)).get hd
    have e3 := y vs ((h.more hz).ext x).sq
    rw [e1] at e3
    cases e3
    exact ⟨Ext.refl _ _ _, hs, e2⟩
  stop := fun m' H' z hz x => ⟨vs, ((h.more hz).ext x).sq, by rw [r.len]; exact Nat.le_refl _⟩
theorem y_lst {m : List Addr} {H : Hp} {a : Addr} {vs : List V} {ds : List D} (h : LstAt C m H a vs) (r : RDs C m H ds vs) : Yields C m H ds (Itl C.K a) where
  go := fun i m' H' z hz x hi => ⟨vs, vs[i]'(by rw [← r.len]; exact hi), ((h.more hz).ext x).sq, by simp [← r.len, hi]⟩
  yld := fun i m' H' S d v H'' z hz x hs hd y => by
    obtain ⟨rfl, y⟩ := y
    obtain ⟨u, e1, e2⟩ := (RDs.ext x (r.more hz)).get hd
    have e3 := y vs ((h.more hz).ext x).sq
    rw [e1] at e3
    cases e3
    exact ⟨Ext.refl _ _ _, hs, e2⟩
  stop := fun m' H' z hz x => ⟨vs, ((h.more hz).ext x).sq, by rw [r.len]; exact Nat.le_refl _⟩
def rngD (lo : Int) (n : Nat) : List D := (List.range n).map fun i => D.int (lo + (i : Nat))
theorem rngD_len (lo : Int) (n : Nat) : (rngD lo n).length = n := by simp [rngD]
theorem y_rng {m : List Addr} {H : Hp} (lo : Int) (n : Nat) : Yields C m H (rngD lo n) (Itr lo n) where
  go := fun i m' H' z hz x hi => by rw [rngD_len] at hi; exact hi
  yld := fun i m' H' S d v H'' z hz x hs hd y => by
    obtain ⟨rfl, rfl⟩ := y
    have hi := (List.getElem?_eq_some_iff.mp hd).1
    rw [rngD_len] at hi
    simp [rngD, hi] at hd
    subst hd
    exact ⟨Ext.refl _ _ _, hs, by simp [RD]⟩
  stop := fun m' H' z hz x => by rw [rngD_len]; exact Nat.le_refl _
/-- pairs: places and items -/
def enumD (ds : List D) : List D := ds.zipIdx.map fun p => D.tup [.int (p.2 : Nat), p.1]
theorem enumD_len (ds : List D) : (enumD ds).length = ds.length := by simp [enumD]
theorem enumD_get {ds : List D} {i : Nat} {d : D} (h : (enumD ds)[i]? = some d) : ∃ e, ds[i]? = some e ∧ d = .tup [.int (i : Nat), e] := by
  simp only [enumD, List.getElem?_map, List.getElem?_zipIdx, Option.map_eq_some_iff] at h
  obtain ⟨p, ⟨e, h1, rfl⟩, rfl⟩ := h
  exact ⟨e, h1, by simp⟩
theorem pair_new {m : List Addr} {S : Store} {H : Hp} {T : Addr} {d e : D} {x y : V} (hs : RS C m S H) (hT : H T = none) (h1 : RD C m H d x) (h2 : RD C m H e y) :
    Ext C m H m (upd H T (.tup [x, y])) ∧ RS C m S (upd H T (.tup [x, y])) ∧ RD C m (upd H T (.tup [x, y])) (.tup [d, e]) (.ref T) := by
  have x1 := Ext.new hs (o := .tup [x, y]) hT
  refine ⟨x1, hs.new hT, ?_⟩
  simp only [RD]
  exact ⟨T, [x, y], rfl, .inl ⟨.inl upd_same, hs.out hT⟩, RDs.cons (RD.ext x1 h1) (RDs.cons (RD.ext x1 h2) RDs.nil)⟩
theorem y_enumT {m : List Addr} {H : Hp} {a : Addr} {vs : List V} {ds : List D} (h : TupAt C m H a vs) (r : RDs C m H ds vs) : Yields C m H (enumD ds) (IteT C.K a) where
  go := fun i m' H' z hz x hi => by
    rw [enumD_len] at hi
    exact ⟨vs, vs[i]'(by rw [← r.len]; exact hi), ((h.more hz).ext x).sq, by simp [← r.len, hi]⟩
  yld := fun i m' H' S d v H'' z hz x hs hd y => by
    obtain ⟨e, he, rfl⟩ := enumD_get hd
    obtain ⟨T, w, rfl, hT, rfl, y⟩ := y
    obtain ⟨u, e1, e2⟩ := (RDs.ext x (r.more hz)).get he
    have e3 := y vs ((h.more hz).ext x).sq
    rw [e1] at e3
    cases e3
    exact pair_new hs hT (by simp [RD]) e2
  stop := fun m' H' z hz x => ⟨vs, ((h.more hz).ext x).sq, by rw [enumD_len, r.len]; exact Nat.le_refl _⟩
theorem y_enumL {m : List Addr} {H : Hp} {a : Addr} {vs : List V} {ds : List D} (h : LstAt C m H a vs) (r : RDs C m H ds vs) : Yields C m H (enumD ds) (Ite C.K a) where
  go := fun i m' H' z hz x hi => by
    rw [enumD_len] at hi
    exact ⟨vs, vs[i]'(by rw [← r.len]; exact hi), ((h.more hz).ext x).sq, by simp [← r.len, hi]⟩
  yld := fun i m' H' S d v H'' z hz x hs hd y => by
    obtain ⟨e, he, rfl⟩ := enumD_get hd
    obtain ⟨T, w, rfl, hT, rfl, y⟩ := y
    obtain ⟨u, e1, e2⟩ := (RDs.ext x (r.more hz)).get he
    have e3 := y vs ((h.more hz).ext x).sq
    rw [e1] at e3
    cases e3
    exact pair_new hs hT (by simp [RD]) e2
  stop := fun m' H' z hz x => ⟨vs, ((h.more hz).ext x).sq, by rw [enumD_len, r.len]; exact Nat.le_refl _⟩
/-- pairs of two rows -/
def zipD (ds es : List D) : List D := (ds.zip es).map fun p => D.tup [p.1, p.2]
theorem zipD_len (ds es : List D) : (zipD ds es).length = min ds.length es.length := by simp [zipD]
theorem zipD_get {ds es : List D} {i : Nat} {d : D} (h : (zipD ds es)[i]? = some d) : ∃ a b, ds[i]? = some a ∧ es[i]? = some b ∧ d = .tup [a, b] := by
  simp only [zipD, List.getElem?_map, Option.map_eq_some_iff] at h
  obtain ⟨⟨a, b⟩, h1, rfl⟩ := h
  rw [List.getElem?_zip_eq_some] at h1
  exact ⟨a, b, h1.1, h1.2, rfl⟩
theorem y_zipT {m : List Addr} {H : Hp} {a b : Addr} {vs us : List V} {ds es : List D} (h : TupAt C m H a vs) (r : RDs C m H ds vs) (h2 : TupAt C m H b us) (r2 : RDs C m H es us) : Yields C m H (zipD ds es) (RZ.ItzT C.K a b) where
  go := fun i m' H' z hz x hi => by
    rw [zipD_len] at hi
    have k1 : i < vs.length := by rw [← r.len]; omega
    have k2 : i < us.length := by rw [← r2.len]; omega
    exact ⟨vs, us, vs[i], us[i], ((h.more hz).ext x).sq, ((h2.more hz).ext x).sq, by simp [k1], by simp [k2]⟩
  yld := fun i m' H' S d v H'' z hz x hs hd y => by
    obtain ⟨e1, e2, g1, g2, rfl⟩ := zipD_get hd
    obtain ⟨T, z1, z2, rfl, hT, rfl, y1, y2⟩ := y
    obtain ⟨u1, k1, l1⟩ := (RDs.ext x (r.more hz)).get g1
    obtain ⟨u2, k2, l2⟩ := (RDs.ext x (r2.more hz)).get g2
    have n1 := y1 vs ((h.more hz).ext x).sq
    have n2 := y2 us ((h2.more hz).ext x).sq
    rw [k1] at n1; cases n1
    rw [k2] at n2; cases n2
    exact pair_new hs hT l1 l2
  stop := fun m' H' z hz x => by
    refine ⟨vs, us, ((h.more hz).ext x).sq, ((h2.more hz).ext x).sq, ?_⟩
    rw [zipD_len, ← r.len, ← r2.len]
    omega
theorem y_zipL {m : List Addr} {H : Hp} {a b : Addr} {vs us : List V} {ds es : List D} (h : LstAt C m H a vs) (r : RDs C m H ds vs) (h2 : LstAt C m H b us) (r2 : RDs C m H es us) : Yields C m H (zipD ds es) (Itz C.K a b) where
  go := fun i m' H' z hz x hi => by
    rw [zipD_len] at hi
    have k1 : i < vs.length := by rw [← r.len]; omega
    have k2 : i < us.length := by rw [← r2.len]; omega
    exact ⟨vs, us, vs[i], us[i], ((h.more hz).ext x).sq, ((h2.more hz).ext x).sq, by simp [k1], by simp [k2]⟩
  yld := fun i m' H' S d v H'' z hz x hs hd y => by
    obtain ⟨e1, e2, g1, g2, rfl⟩ := zipD_get hd
    obtain ⟨T, z1, z2, rfl, hT, rfl, y1, y2⟩ := y
    obtain ⟨u1, k1, l1⟩ := (RDs.ext x (r.more hz)).get g1
    obtain ⟨u2, k2, l2⟩ := (RDs.ext x (r2.more hz)).get g2
    have n1 := y1 vs ((h.more hz).ext x).sq
    have n2 := y2 us ((h2.more hz).ext x).sq
    rw [k1] at n1; cases n1
    rw [k2] at n2; cases n2
    exact pair_new hs hT l1 l2
  stop := fun m' H' z hz x => by
    refine ⟨vs, us, ((h.more hz).ext x).sq, ((h2.more hz).ext x).sq, ?_⟩
    rw [zipD_len, ← r.len, ← r2.len]
    omega
/-! ### the iterables -/
theorem fl_lst {m : List Addr} {H : Hp} {v : V} {ds : List D} {a : A} (h : RA C m H a v) (e : a = .d (.fl ds) ∨ a = .d (.rl ds)) : ∃ p vs, v = .ref p ∧ LstAt C m H p vs ∧ RDs C m H ds vs := by
  rcases e with rfl | rfl
  · obtain ⟨p, vs, rfl, h1, n, h2⟩ := h.fl
    exact ⟨p, vs, rfl, .inl ⟨.inl h1, n⟩, h2⟩
  · exact h.rl
/-- which walk -/
inductive Kd where
  | tup (ds : List D) | lst (ds : List D) | no
def kd : A → Kd
  | .d (.tup ds) => .tup ds
  | .d (.fl ds) => .lst ds
  | .d (.rl ds) => .lst ds
  | _ => .no
def seqI (f : M A) : MI := fun ρ S => (f ρ S).bind fun a S1 => match kd a with
  | .tup ds => .ok ds S1
  | .lst ds => .ok ds S1
  | .no => .bad
theorem kd_tup {a : A} {ds : List D} (e : kd a = .tup ds) : a = .d (.tup ds) := by
  unfold kd at e
  split at e <;> cases e
  rfl
theorem kd_lst {a : A} {ds : List D} (e : kd a = .lst ds) : a = .d (.fl ds) ∨ a = .d (.rl ds) := by
  unfold kd at e
  split at e <;> cases e
  · exact .inl rfl
  · exact .inr rfl
theorem si_seq {tg e : Expr} {f : M A} (hK : C.K = X.K) (h : SE C E X e f) : SI C E X tg e (seqI f) := by
  refine ⟨fun pins s σ H R I ⟨m, S, ρ, hs, he, w⟩ => ?_⟩
  unfold seqI at w
  cases hf : f ρ S with
  | bad => rw [hf] at w; exact False.elim w
  | exc x S1 =>
    rw [hf] at w
    exact (pi_list h).run pins s σ H R I ⟨m, S, ρ, hs, he, by rw [hf]; exact w⟩
  | ok a S1 =>
    rw [hf] at w
    simp only [RS.R.bind] at w
    split at w
    · rename_i ds hk
      refine (pi_tup h).run pins s σ H R I ⟨m, S, ρ, hs, he, ?_⟩
      rw [hf]
      intro m' H' v x r q
      rw [kd_tup hk] at q
      obtain ⟨p, vs, rfl, h1, h2⟩ := q.tup
      refine ⟨p, rfl, ⟨vs, hK ▸ h1.sq⟩, ?_⟩
      rw [← hK]
      exact w m' H' _ x r (y_tup h1 h2)
    · rename_i ds hk
      refine (pi_list h).run pins s σ H R I ⟨m, S, ρ, hs, he, ?_⟩
      rw [hf]
      intro m' H' v x r q
      obtain ⟨p, vs, rfl, h1, h2⟩ := fl_lst q (kd_lst hk)
      refine ⟨p, rfl, ⟨vs, hK ▸ h1.sq⟩, ?_⟩
      rw [← hK]
      exact w m' H' _ x r (y_lst h1 h2)
    · exact False.elim w
/-- one argument, two arguments -/
def arg1 {α : Type} (g : A → Store → R α) (as : List A) (S : Store) : R α := match as with
  | [a] => g a S
  | _ => .bad
def arg2 {α : Type} (g : A → A → Store → R α) (as : List A) (S : Store) : R α := match as with
  | [a, b] => g a b S
  | _ => .bad
theorem arg1_eq {α : Type} (f : M A) (g : A → Store → R α) (ρ : Env) (S : Store) : ((f ρ S).bind g) = ((aCons f aNil) ρ S).bind (arg1 g) := by
  unfold aCons aNil
  cases f ρ S <;> rfl
theorem arg2_eq {α : Type} (f f2 : M A) (g : A → A → Store → R α) (ρ : Env) (S : Store) : ((f ρ S).bind fun a S1 => (f2 ρ S1).bind fun b S2 => g a b S2) = ((aCons f (aCons f2 aNil)) ρ S).bind (arg2 g) := by
  unfold aCons aNil
  cases f ρ S with
  | ok a S1 =>
    simp only [RS.R.bind]
    cases f2 ρ S1 <;> rfl
  | _ => rfl
def rng1P (a : A) (S : Store) : R (List D) := match a with
  | .d (.int j) => if -(2 ^ 62) ≤ j ∧ j < 2 ^ 62 then .ok (rngD 0 j.toNat) S else .bad
  | _ => .bad
def rng2P (a b : A) (S : Store) : R (List D) := match a, b with
  | .d (.int i), .d (.int j) => if -(2 ^ 62) ≤ i ∧ i < 2 ^ 62 ∧ -(2 ^ 62) ≤ j ∧ j < 2 ^ 62 then .ok (rngD i (j - i).toNat) S else .bad
  | _, _ => .bad
def rng1 (f : M A) : MI := fun ρ S => (f ρ S).bind rng1P
def rng2 (f g : M A) : MI := fun ρ S => (f ρ S).bind fun a S1 => (g ρ S1).bind fun b S2 => rng2P a b S2
section
variable {tg a b : Expr} {f g : M A} {p pos : Pos}
theorem si_range1 (hg : Gl X "range") (hm : X.mg "range" = none) (ha : SE C E X a f) (h1 : starEach [a] X.env = (false, eval a X.env) :: starEach [] X.env := by rfl) (hs : starEach [a] X.env = [(false, eval a X.env)] := by rfl) : SI C E X tg (.Call (.Name "range" p) [a] [] pos) (rng1 f) := by
  refine pi_imp (pi_range1 hg hm (sa_cons ha sa_nil h1) hs) fun σ H R ⟨m, S, ρ, hs, he, w⟩ => ?_
  unfold rng1 at w
  rw [arg1_eq] at w
  refine ⟨m, S, ρ, hs, he, (WpG.bind (rel := RAs C) w).imp fun vs H1 ⟨m1, S1, as, x1, r1, q1, w1⟩ => ?_⟩
  unfold arg1 at w1
  split at w1
  · obtain ⟨v, rfl, h⟩ := ras1 q1
    unfold rng1P at w1
    split at w1
    · cases h.int
      split at w1
      · rename_i hl
        exact ⟨_, rfl, hl.1, hl.2, wpI r1 (y_rng 0 _) w1⟩
      · exact False.elim w1
    · exact False.elim w1
  · exact False.elim w1
theorem si_range2 (hg : Gl X "range") (hm : X.mg "range" = none) (ha : SE C E X a f) (hb : SE C E X b g) (h1 : starEach [a, b] X.env = (false, eval a X.env) :: starEach [b] X.env := by rfl) (h2 : starEach [b] X.env = (false, eval b X.env) :: starEach [] X.env := by rfl)
    (hs : starEach [a, b] X.env = [(false, eval a X.env), (false, eval b X.env)] := by rfl) (hs2 : starEach [b] X.env = [(false, eval b X.env)] := by rfl) : SI C E X tg (.Call (.Name "range" p) [a, b] [] pos) (rng2 f g) := by
  refine pi_imp (pi_range2 hg hm (sa_cons ha (sa_cons hb sa_nil h2) h1) hs hs2) fun σ H R ⟨m, S, ρ, hs, he, w⟩ => ?_
  unfold rng2 at w
  rw [arg2_eq] at w
  refine ⟨m, S, ρ, hs, he, (WpG.bind (rel := RAs C) w).imp fun vs H1 ⟨m1, S1, as, x1, r1, q1, w1⟩ => ?_⟩
  unfold arg2 at w1
  split at w1
  · obtain ⟨v, u, rfl, h, h2⟩ := ras2 q1
    unfold rng2P at w1
    split at w1
    · cases h.int; cases h2.int
      split at w1
      · rename_i hl
        exact ⟨_, _, rfl, hl, wpI r1 (y_rng _ _) w1⟩
      · exact False.elim w1
    · exact False.elim w1
  · exact False.elim w1
def enumP (a : A) (S : Store) : R (List D) := match kd a with
  | .tup ds => .ok (enumD ds) S
  | .lst ds => .ok (enumD ds) S
  | .no => .bad
def enumI (f : M A) : MI := fun ρ S => (f ρ S).bind enumP
theorem si_enum {elts : List Expr} {kk : Nat} {tpos : Pos} (hK : C.K = X.K) (hg : Gl X "enumerate") (hm : X.mg "enumerate" = none) (ha : SE C E X a f) (h1 : starEach [a] X.env = (false, eval a X.env) :: starEach [] X.env := by rfl) (hs : starEach [a] X.env = [(false, eval a X.env)] := by rfl) :
    SI C E X (.Tuple elts kk tpos) (.Call (.Name "enumerate" p) [a] [] pos) (enumI f) := by
  refine ⟨fun pins s σ H R I ⟨m, S, ρ, hr, he, w⟩ => ?_⟩
  unfold enumI at w
  rw [arg1_eq] at w
  have sa := sa_cons ha (sa_nil (C := C) (E := E) (X := X)) h1
  cases hf : (aCons f aNil) ρ S with
  | bad => rw [hf] at w; exact False.elim w
  | exc x S1 =>
    rw [hf] at w
    exact (pi_enum hg hm sa hs).run pins s σ H R I ⟨m, S, ρ, hr, he, by rw [hf]; exact w⟩
  | ok as S1 =>
    rw [hf] at w
    simp only [RS.R.bind] at w
    unfold arg1 at w
    split at w
    · rename_i a0
      unfold enumP at w
      split at w
      · rename_i ds hk
        refine (pi_enumT hg hm sa hs).run pins s σ H R I ⟨m, S, ρ, hr, he, ?_⟩
        rw [hf]
        intro m' H' vs x r q
        obtain ⟨v, rfl, q2⟩ := ras1 q
        rw [kd_tup hk] at q2
        obtain ⟨p, vs, rfl, h1, h2⟩ := q2.tup
        refine ⟨p, vs, rfl, hK ▸ h1.sq, ?_⟩
        rw [← hK]
        exact w m' H' _ x r (y_enumT h1 h2)
      · rename_i ds hk
        refine (pi_enum hg hm sa hs).run pins s σ H R I ⟨m, S, ρ, hr, he, ?_⟩
        rw [hf]
        intro m' H' vs x r q
        obtain ⟨v, rfl, q2⟩ := ras1 q
        obtain ⟨p, vs, rfl, h1, h2⟩ := fl_lst q2 (kd_lst hk)
        refine ⟨p, vs, rfl, hK ▸ h1.sq, ?_⟩
        rw [← hK]
        exact w m' H' _ x r (y_enumL h1 h2)
      · exact False.elim w
    · exact False.elim w
def zipP (a b : A) (S : Store) : R (List D) := match kd a, kd b with
  | .tup ds, .tup es => .ok (zipD ds es) S
  | .lst ds, .lst es => .ok (zipD ds es) S
  | _, _ => .bad
def zipI (f g : M A) : MI := fun ρ S => (f ρ S).bind fun a S1 => (g ρ S1).bind fun b S2 => zipP a b S2
theorem si_zip {elts : List Expr} {kk : Nat} {tpos : Pos} (hK : C.K = X.K) (hg : Gl X "zip") (hm : X.mg "zip" = none) (ha : SE C E X a f) (hb : SE C E X b g) (h1 : starEach [a, b] X.env = (false, eval a X.env) :: starEach [b] X.env := by rfl) (h2 : starEach [b] X.env = (false, eval b X.env) :: starEach [] X.env := by rfl)
    (hpl : (backTo pos (starEach [b] X.env)).any (·.1) = false := by rfl) : SI C E X (.Tuple elts kk tpos) (.Call (.Name "zip" p) [a, b] [] pos) (zipI f g) := by
  refine pi_imp (RZ.pi_zipA hg hm (sa_cons ha (sa_cons hb sa_nil h2) h1) h1 hpl) fun σ H R ⟨m, S, ρ, hs, he, w⟩ => ?_
  unfold zipI at w
  rw [arg2_eq] at w
  refine ⟨m, S, ρ, hs, he, (WpG.bind (rel := RAs C) w).imp fun vs H1 ⟨m1, S1, as, x1, r1, q1, w1⟩ => ?_⟩
  unfold arg2 at w1
  split at w1
  · obtain ⟨v, u, rfl, q2, q3⟩ := ras2 q1
    unfold zipP at w1
    split at w1
    · rename_i ds es k1 k2
      rw [kd_tup k1] at q2
      rw [kd_tup k2] at q3
      obtain ⟨p, vs, rfl, h1, h2⟩ := q2.tup
      obtain ⟨p', vs', rfl, h3, h4⟩ := q3.tup
      refine ⟨p, p', vs, vs', rfl, .inr ⟨hK ▸ h1.sq, hK ▸ h3.sq, ?_⟩⟩
      rw [← hK]
      exact wpI r1 (y_zipT h1 h2 h3 h4) w1
    · rename_i ds es k1 k2
      obtain ⟨p, vs, rfl, h1, h2⟩ := fl_lst q2 (kd_lst k1)
      obtain ⟨p', vs', rfl, h3, h4⟩ := fl_lst q3 (kd_lst k2)
      refine ⟨p, p', vs, vs', rfl, .inl ⟨hK ▸ h1.sq, hK ▸ h3.sq, ?_⟩⟩
      rw [← hK]
      exact wpI r1 (y_zipL h1 h2 h3 h4) w1
    · exact False.elim w1
  · exact False.elim w1
end

/-! ### targets -/
def gSet (i : Nat) : A → M Env := fun a ρ S => .ok (ρ.set i (some a)) S
theorem wpE {m : List Addr} {S : Store} {H : Hp} {ρ : Env} {σ : L2.St} {Q : L2.St → Hp → Prop} (r : RS C m S H) (e : RE C m H ρ σ) (w : WpG C E (fun m' H' ρ' σ' => RE C m' H' ρ' σ') m H (.ok ρ S) Q) : Q σ H := w m H σ (Ext.refl C m H) r e
theorem sg_name {i : Nat} {x : Str} {pos : Pos} (hN : X.N.Nodup) (hi : X.N[i]? = some x) (hx : Loc X.env.scope x) (hf : X.fn x = true ∨ X.env.scope.names.lookup x = some .local) : SG C E X (.Name x pos) (gSet i) :=
  pg_imp (pg_name hN hi hx hf) fun v σ H Q ⟨m, S, ρ, a, hs, he, ha, w⟩ => wpE hs (he.set i ha) w
/-- several, from a tuple -/
def gMany : List (A → M Env) → List D → M Env
  | [], [] => fun ρ S => .ok ρ S
  | g :: gs, d :: ds => fun ρ S => (g (.d d) ρ S).bind fun ρ1 S1 => gMany gs ds ρ1 S1
  | _, _ => fun _ _ => .bad
def gTupM (gs : List (A → M Env)) : A → M Env := fun a ρ S => match a with
  | .d (.tup ds) => if ds.length = gs.length then gMany gs ds ρ S else .bad
  | _ => .bad
def tGs (C : Cc) (E : XK) (gs : List (A → M Env)) : TGs := fun vs σ H Q => ∃ m S ρ ds, RS C m S H ∧ RE C m H ρ σ ∧ RDs C m H ds vs ∧ WpG C E (fun m' H' ρ' σ' => RE C m' H' ρ' σ') m H (gMany gs ds ρ S) Q
abbrev SGs (C : Cc) (E : XK) (X : Cx) (ts : List Expr) (gs : List (A → M Env)) : Prop := PGs X ts (tGs C E gs)
theorem pgs_imp {ts : List Expr} {t t' : TGs} (h : PGs X ts t) (k : ∀ vs σ H Q, t' vs σ H Q → t vs σ H Q) : PGs X ts t' :=
  ⟨fun pins s σ H vs us Q I r q => h.run pins s σ H vs us Q I r (k _ _ _ _ q)⟩
theorem sgs_nil : SGs C E X [] [] := pgs_imp pgs_nil fun vs σ H Q ⟨m, S, ρ, ds, hs, he, hd, w⟩ => by
  cases ds with
  | nil =>
    simp only [RDs] at hd
    subst hd
    exact ⟨rfl, wpE hs he w⟩
  | cons d ds => exact False.elim w
theorem sgs_cons {e : Expr} {es : List Expr} {g : A → M Env} {gs : List (A → M Env)} (h1 : SG C E X e g) (h2 : SGs C E X es gs)
    (hs : (assignEach (e :: es) X.env).map (·.2) = assign e X.env :: (assignEach es X.env).map (·.2) := by rfl) : SGs C E X (e :: es) (g :: gs) :=
  pgs_imp (pgs_cons h1 h2 hs) fun vs σ H Q ⟨m, S, ρ, ds, hs, he, hd, w⟩ => by
    cases ds with
    | nil => exact False.elim w
    | cons d ds =>
      simp only [RDs] at hd
      obtain ⟨v, r, rfl, k1, k2⟩ := hd
      refine ⟨v, r, rfl, m, S, ρ, .d d, hs, he, k1, ?_⟩
      refine (WpG.bind (rel := fun m' H' ρ' σ' => RE C m' H' ρ' σ') w).imp fun σ1 H1 ⟨m1, S1, ρ1, x1, r1, q1, w1⟩ => ?_
      exact ⟨m1, S1, ρ1, ds, r1, q1, RDs.ext x1 k2, w1⟩
theorem sg_tup {es : List Expr} {k : Nat} {pos : Pos} {gs : List (A → M Env)} (hK : C.K = X.K) (hc : X.calm = true) (h : SGs C E X es gs)
    (hn : (assignEach es X.env).length = gs.length := by rfl) (hst : (assignEach es X.env).findIdx? (·.1) = none := by rfl) : SG C E X (.Tuple es k pos) (gTupM gs) := by
  refine pg_imp (pg_tup hc h hn hst) fun v σ H Q ⟨m, S, ρ, a, hs, he, ha, w⟩ => ?_
  unfold gTupM at w
  split at w
  · split at w
    · rename_i ds hl
      obtain ⟨p, vs, rfl, h1, h2⟩ := ha.tup
      exact ⟨p, vs, rfl, hK ▸ h1.sq, by rw [← h2.len]; exact hl, m, S, ρ, ds, hs, he, h2, w⟩
    · exact False.elim w
  · exact False.elim w
/-! ### statements -/
theorem wpS {m : List Addr} {S : Store} {H : Hp} {fl : Fl} {o : Out} {Dn : Ends} (r : RS C m S H) (q : RFl C m H fl o) (w : WpG C E (RFl C) m H (.ok fl S) (outs Dn)) : outs Dn o H := w m H o (Ext.refl C m H) r q
section
variable {m : List Addr} {S : Store} {H : Hp} {ρ : Env} {σ : L2.St} {Dn : Ends}
theorem wp_nx (r : RS C m S H) (e : RE C m H ρ σ) (w : WpG C E (RFl C) m H (.ok (.nx ρ) S) (outs Dn)) : Dn.nx σ H := w m H (.nx σ) (Ext.refl C m H) r e
theorem wp_bk (r : RS C m S H) (e : RE C m H ρ σ) (w : WpG C E (RFl C) m H (.ok (.bk ρ) S) (outs Dn)) : Dn.bk σ H := w m H (.bk σ) (Ext.refl C m H) r e
theorem wp_ct (r : RS C m S H) (e : RE C m H ρ σ) (w : WpG C E (RFl C) m H (.ok (.ct ρ) S) (outs Dn)) : Dn.ct σ H := w m H (.ct σ) (Ext.refl C m H) r e
theorem wp_rt {a : A} {v : V} (r : RS C m S H) (e : RA C m H a v) (w : WpG C E (RFl C) m H (.ok (.rt a) S) (outs Dn)) : Dn.rt v H := w m H (.rt v) (Ext.refl C m H) r e
end
def sNil : M Fl := fun ρ S => .ok (.nx ρ) S
def sSeq (f g : M Fl) : M Fl := fun ρ S => (f ρ S).bind fun fl S1 => match fl with
  | .nx ρ1 => g ρ1 S1
  | fl => .ok fl S1
theorem sss_nil : SSs C E X [] sNil := pss_imp pss_nil fun Dn σ H ⟨m, S, ρ, hs, he, w⟩ => wp_nx hs he w
theorem sss_one {st : Stmt} {f : M Fl} (h : SS C E X st f) : SSs C E X [st] f := pss_one h
theorem seq_out {g : M Fl} {m : List Addr} {H : Hp} {r : R Fl} {Dn : Ends} (w : WpG C E (RFl C) m H (r.bind fun fl S1 => match fl with
    | .nx ρ1 => g ρ1 S1
    | fl => .ok fl S1) (outs Dn)) : WpG C E (RFl C) m H r (outs { Dn with nx := tSt C E g Dn }) := by
  refine (WpG.bind (rel := RFl C) w).imp fun o H1 ⟨m1, S1, fl, x1, r1, q1, w1⟩ => ?_
  cases fl <;> cases o <;> first
    | exact False.elim q1
    | exact ⟨m1, S1, _, r1, q1, w1⟩
    | exact wp_rt (Dn := Dn) r1 q1 w1
    | exact wp_bk (Dn := Dn) r1 q1 w1
    | exact wp_ct (Dn := Dn) r1 q1 w1
theorem sss_cons {st : Stmt} {rest : List Stmt} {f g : M Fl} (h1 : SS C E X st f) (h2 : SSs C E X rest g) : SSs C E X (st :: rest) (sSeq f g) :=
  pss_imp (pss_cons h1 h2) fun Dn σ H ⟨m, S, ρ, hs, he, w⟩ => ⟨m, S, ρ, hs, he, seq_out w⟩
def sRet (f : M A) : M Fl := fun ρ S => (f ρ S).bind fun a S1 => .ok (.rt a) S1
def sAsg (f : M A) (g : A → M Env) : M Fl := fun ρ S => (f ρ S).bind fun a S1 => (g a ρ S1).bind fun ρ1 S2 => .ok (.nx ρ1) S2
def sExp (f : M A) : M Fl := fun ρ S => (f ρ S).bind fun _ S1 => .ok (.nx ρ) S1
def sIf (c : M Bool) (f g : M Fl) : M Fl := fun ρ S => (c ρ S).bind fun b S1 => if b = true then f ρ S1 else g ρ S1
def sBad : M Fl := fun _ _ => .bad
section
variable {e c : Expr} {f : M A} {fc : M Bool} {g h : M Fl} {pos : Pos} {a b : List Stmt}
theorem ss_ret (he : SE C E X e f) : SS C E X (.Return (some e) pos) (sRet f) :=
  ps_imp (ps_ret he) fun Dn σ H ⟨m, S, ρ, hs, he, w⟩ =>
    ⟨m, S, ρ, hs, he, (WpG.bind (rel := RA C) w).imp fun v H1 ⟨m1, S1, a, x1, r1, q1, w1⟩ => wp_rt r1 q1 w1⟩
theorem ss_retN : SS C E X (.Return none pos) (fun _ S => .ok (.rt (.d .non)) S) :=
  ps_imp ps_retN fun Dn σ H ⟨m, S, ρ, hs, he, w⟩ => wp_rt hs RA.mkNon w
theorem ss_exp (he : SE C E X e f) (hs : swapsWith e none pos.line X.env = pure false := by rfl) : SS C E X (.Expr e pos) (sExp f) :=
  ps_imp (ps_expr he hs) fun Dn σ H ⟨m, S, ρ, hs, he, w⟩ =>
    ⟨m, S, ρ, hs, he, (WpG.bind (rel := RA C) w).imp fun v H1 ⟨m1, S1, a, x1, r1, q1, w1⟩ => wp_nx r1 (he.ext x1) w1⟩
theorem ss_if (hc : ST C E X c fc) (ha : SSs C E X a g) (hb : SSs C E X b h) : SS C E X (.If c a b pos) (sIf fc g h) := by
  refine ps_imp (ps_if hc ha hb) fun Dn σ H ⟨m, S, ρ, hs, he, w⟩ => ?_
  refine tT_then (g := fun b ρ S1 => if b = true then g ρ S1 else h ρ S1) hs he w fun m1 S1 b H1 x1 r1 e1 w1 => ?_
  cases b with
  | true => exact iteT ⟨m1, S1, ρ, r1, e1, w1⟩
  | false => exact iteF ⟨m1, S1, ρ, r1, e1, w1⟩
theorem ss_pass : SS C E X (.Pass pos) sNil := ps_imp ps_pass fun Dn σ H ⟨m, S, ρ, hs, he, w⟩ => wp_nx hs he w
theorem ss_break : SS C E X (.Break pos) (fun ρ S => .ok (.bk ρ) S) := ps_imp ps_break fun Dn σ H ⟨m, S, ρ, hs, he, w⟩ => wp_bk hs he w
theorem ss_cont : SS C E X (.Continue pos) (fun ρ S => .ok (.ct ρ) S) := ps_imp ps_continue fun Dn σ H ⟨m, S, ρ, hs, he, w⟩ => wp_ct hs he w
theorem ss_never {st : Stmt} : SS C E X st sBad := ps_imp ps_never fun Dn σ H ⟨m, S, ρ, hs, he, w⟩ => w
theorem sss_never {sts : List Stmt} : SSs C E X sts sBad := pss_imp pss_never fun Dn σ H ⟨m, S, ρ, hs, he, w⟩ => w
theorem ss_asg {tg : Expr} {gg : A → M Env} (he : SE C E X e f) (hg : SG C E X tg gg) (hs : swapsWithSole [tg] e pos.line X.env = pure false := by rfl) (hw : swappedStores [tg] e X.env = pure none := by rfl)
    (h1 : (assignEach [tg] X.env).map (·.2) = [assign tg X.env] := by rfl) : SS C E X (.Assign [tg] e pos) (sAsg f gg) := by
  refine ps_imp (ps_asg he hg hs hw h1) fun Dn σ H ⟨m, S, ρ, hs, he, w⟩ => ?_
  refine tE_then (g := fun a ρ S1 => (gg a ρ S1).bind fun ρ1 S2 => (.ok (Fl.nx ρ1) S2 : RS.R Fl)) hs he w fun m1 S1 a x H1 x1 r1 e1 q1 w1 => ?_
  refine ⟨m1, S1, ρ, a, r1, e1, q1, (WpG.bind (rel := fun m' H' ρ' σ' => RE C m' H' ρ' σ') w1).imp fun σ2 H2 ⟨m2, S2, ρ2, x2, r2, q2, w2⟩ => ?_⟩
  exact wp_nx r2 q2 w2
theorem int2_cases {p : Int → Int → Option D} {a b : A} {S : Store} : int2 p a b S = .bad ∨ ∃ i j d, a = .d (.int i) ∧ b = .d (.int j) ∧ p i j = some d ∧ int2 p a b S = .ok (.d d) S := by
  unfold int2
  split
  · rename_i i j
    cases e : p i j with
    | none => exact .inl rfl
    | some d => exact .inr ⟨i, j, d, rfl, rfl, e, rfl⟩
  · exact .inl rfl
/-- x += e, whole numbers -/
def augP : A → A → Store → R A := int2 fun i j => some (.int (i + j))
def sAug (i : Nat) (f : M A) : M Fl := sAsg (bin augP (cVar i) f) (gSet i)
theorem ss_augAdd {i : Nat} {x : Str} {pos' : Pos} (hN : X.N.Nodup) (hi : X.N[i]? = some x) (hx : Loc X.env.scope x) (he : SE C E X e f) (hf : X.fn x = true ∨ X.env.scope.names.lookup x = some .local) :
    SS C E X (.AugAssign (.Name x pos') .Add e pos) (sAug i f) := by
  refine ps_imp (ps_aug hN hi hx he ip_add hf) fun Dn σ H ⟨m, S, ρ, hs, he, w⟩ => ?_
  unfold sAug sAsg bin at w
  unfold cVar at w
  cases hv : ρ[i]? with
  | none => simp only [hv] at w; exact False.elim w
  | some o =>
    cases o with
    | none => simp only [hv] at w; exact False.elim w
    | some a =>
      simp only [hv, RS.R.bind] at w
      obtain ⟨v, h1, h2⟩ := he.at_ i a hv
      refine ⟨v, h1, m, S, ρ, hs, he, ?_⟩
      cases hf : f ρ S with
      | bad => rw [hf] at w; exact False.elim w
      | exc x1 S1 => rw [hf] at w; exact w
      | ok b S1 =>
        rw [hf] at w
        intro m1 H1 u x1 r1 q1
        simp only at w
        rcases int2_cases (p := fun i j => some (.int (i + j))) (a := a) (b := b) (S := S1) with e | ⟨k, l, d, rfl, rfl, e, e2⟩
        · unfold augP at w
          rw [e] at w
          exact False.elim w
        · cases e
          unfold augP at w
          rw [e2] at w
          have z := RA.ext x1 h2
          cases z.int
          cases q1.int
          exact ⟨_, _, rfl, rfl, wp_nx r1 ((he.ext x1).set i (RA.mkInt _)) (WpG.ext x1 w)⟩
end
/-! ### for -/
def forL (g : A → M Env) (b : M Fl) : List D → M Fl
  | [], ρ, S => .ok (.nx ρ) S
  | d :: ds, ρ, S => (g (.d d) ρ S).bind fun ρ1 S1 => (b ρ1 S1).bind fun fl S2 => match fl with
    | .nx ρ2 => forL g b ds ρ2 S2
    | .ct ρ2 => forL g b ds ρ2 S2
    | .bk ρ2 => .ok (.nx ρ2) S2
    | .rt a => .ok (.rt a) S2
def sFor (q : MI) (g : A → M Env) (b : M Fl) : M Fl := fun ρ S => (q ρ S).bind fun ds S1 => forL g b ds ρ S1
theorem ss_for {tg iter : Expr} {body : List Stmt} {pos : Pos} {q : MI} {g : A → M Env} {b : M Fl} (hp : PassesOwn (model X.prog X.w) X.A X.env X.xe) (hc : X.calm = true) (hi : SI C E X tg iter q) (hg : SG C E X tg g) (hb : SSs C E X body b)
    (hs : ∀ x, foldedSetIterable iter X.env x = pure x := by intro _; rfl) : SS C E X (.For tg iter body [] pos) (sFor q g b) := by
  refine ps_imp (ps_for hp hc hi hg hb hs) fun Dn σ H ⟨m, S, ρ, hs, he, w⟩ => ?_
  refine ⟨m, S, ρ, hs, he, (WpG.bind (rel := Yields C) w).imp fun J H1 ⟨m1, S1, ds, x1, r1, y1, w1⟩ => ?_⟩
  refine ⟨fun i k σ' H' => k = ds.length - i ∧ i ≤ ds.length ∧ ∃ m' S' ρ', Ext C m1 H1 m' H' ∧ RS C m' S' H' ∧ RE C m' H' ρ' σ' ∧ WpG C E (RFl C) m' H' (forL g b (ds.drop i) ρ' S') (outs Dn),
    ⟨ds.length, rfl, Nat.zero_le _, m1, S1, ρ, Ext.refl _ _ _, r1, he.ext x1, by simpa using w1⟩, ?_⟩
  rintro i k σ' H' ⟨rfl, hi, m', S', ρ', x', r', e', w'⟩
  by_cases hlt : i < ds.length
  · refine .inr ⟨y1.go i m' H' C.z (fun q hq => .inl (List.mem_map_of_mem hq)) x' hlt, fun σ2 H2 => ∃ m2 S2 ρ2, Ext C m1 H1 m2 H2 ∧ RS C m2 S2 H2 ∧ RE C m2 H2 ρ2 σ2 ∧ WpG C E (RFl C) m2 H2 (forL g b (ds.drop (i + 1)) ρ2 S2) (outs Dn),
      fun σ2 H2 h2 => ⟨ds.length - (i + 1), by omega, rfl, hlt, h2⟩, fun v H2 hy => ?_⟩
    have hd : ds[i]? = some ds[i] := List.getElem?_eq_getElem hlt
    obtain ⟨x2, r2, q2⟩ := y1.yld i m' H' S' _ v H2 C.z (fun q hq => .inl (List.mem_map_of_mem hq)) x' r' hd hy
    rw [List.drop_eq_getElem_cons hlt] at w'
    refine ⟨m', S', ρ', .d ds[i], r2, e'.ext x2, q2, (WpG.bind (rel := fun m' H' ρ' σ' => RE C m' H' ρ' σ') (WpG.ext x2 w')).imp fun σ3 H3 ⟨m3, S3, ρ3, x3, r3, e3, w3⟩ => ?_⟩
    refine ⟨m3, S3, ρ3, r3, e3, (WpG.bind (rel := RFl C) w3).imp fun o H4 ⟨m4, S4, fl, x4, r4, q4, w4⟩ => ?_⟩
    have xx := ((x'.trans x2).trans x3).trans x4
    cases fl <;> cases o <;> first
      | exact False.elim q4
      | exact ⟨m4, S4, _, xx, r4, q4, w4⟩
      | exact wp_nx r4 q4 w4
      | exact wp_rt (Dn := Dn) r4 q4 w4
  · have e : i = ds.length := by omega
    subst e
    refine .inl ⟨y1.stop m' H' C.z (fun q hq => .inl (List.mem_map_of_mem hq)) x', ?_⟩
    rw [List.drop_length] at w'
    exact wp_nx r' e' w'
/-! ### while -/
def whileL (c : M Bool) (b : M Fl) : Nat → M Fl
  | 0, _, _ => .bad
  | k + 1, ρ, S => (c ρ S).bind fun t S1 => if t = true then (b ρ S1).bind fun fl S2 => match fl with
    | .nx ρ2 => whileL c b k ρ2 S2
    | .ct ρ2 => whileL c b k ρ2 S2
    | .bk ρ2 => .ok (.nx ρ2) S2
    | .rt a => .ok (.rt a) S2
    else .ok (.nx ρ) S1
theorem ss_while (k : Nat) {t : Expr} {body : List Stmt} {pos : Pos} {c : M Bool} {b : M Fl} (hp : PassesOwn (model X.prog X.w) X.A X.env X.xe) (hc : ST C E X t c) (hb : SSs C E X body b) : SS C E X (.While t body [] pos) (whileL c b k) := by
  refine ps_imp (ps_while hp hc hb) fun Dn σ H ⟨m, S, ρ, hs, he, w⟩ => ?_
  refine ⟨fun n σ' H' => ∃ m' S' ρ', RS C m' S' H' ∧ RE C m' H' ρ' σ' ∧ WpG C E (RFl C) m' H' (whileL c b n ρ' S') (outs Dn), ⟨k, m, S, ρ, hs, he, w⟩, ?_⟩
  rintro n σ' H' ⟨m', S', ρ', r', e', w'⟩
  cases n with
  | zero => exact ⟨m', S', ρ', r', e', False.elim w'⟩
  | succ n =>
    refine tT_then (g := fun t ρ S1 => if t = true then (b ρ S1).bind fun fl S2 => match fl with
      | .nx ρ2 => whileL c b n ρ2 S2
      | .ct ρ2 => whileL c b n ρ2 S2
      | .bk ρ2 => .ok (.nx ρ2) S2
      | .rt a => .ok (.rt a) S2
      else .ok (.nx ρ) S1) r' e' w' fun m1 S1 t H1 x1 r1 e1 w1 => ?_
    cases t with
    | false => exact iteF (wp_nx r1 e1 w1)
    | true =>
      refine iteT ⟨fun σ2 H2 => ∃ m2 S2 ρ2, RS C m2 S2 H2 ∧ RE C m2 H2 ρ2 σ2 ∧ WpG C E (RFl C) m2 H2 (whileL c b n ρ2 S2) (outs Dn), fun σ2 H2 h2 => ⟨n, Nat.lt_succ_self n, h2⟩, m1, S1, ρ', r1, e1, ?_⟩
      refine (WpG.bind (rel := RFl C) w1).imp fun o H4 ⟨m4, S4, fl, x4, r4, q4, w4⟩ => ?_
      cases fl <;> cases o <;> first
        | exact False.elim q4
        | exact ⟨m4, S4, _, r4, q4, w4⟩
        | exact wp_nx r4 q4 w4
        | exact wp_rt (Dn := Dn) r4 q4 w4
end RS
end

section
set_option maxRecDepth 100000
set_option maxHeartbeats 4000000
/-! List comprehensions. -/
namespace RS
open PySem PySem.Spec PyProof.Rows L2 NdefX LamX
variable {C : Cc} {E : XK} {X : Cx}

/-- a comprehension's target -/
inductive Tg where
  | one (i : Nat) | two (i j : Nat)
def Tg.ixs : Tg → List Nat
  | .one i => [i]
  | .two i j => [i, j]
def Tg.put : Tg → D → Env → Option Env
  | .one i, d, ρ => some (ρ.set i (some (.d d)))
  | .two i j, .tup [a, b], ρ => some ((ρ.set i (some (.d a))).set j (some (.d b)))
  | .two _ _, _, _ => none
def Tg.rd (K : Fr) : Tg → TG
  | .one i => gName i
  | .two i j => gTup K 2 (gCons (gName i) (gCons (gName j) gNil))
def wipeE (ρ : Env) : List Nat → Env
  | [] => ρ
  | v :: vs => (wipeE ρ vs).set v none
theorem RE.unset {m : List Addr} {H : Hp} {ρ : Env} {σ : L2.St} (r : RE C m H ρ σ) (i : Nat) : RE C m H (ρ.set i none) (σ.set i none) := by
  refine ⟨by rw [List.length_set, List.length_set, r.len], fun j b hb => ?_⟩
  by_cases hj : i = j
  · subst hj
    have hl : i < ρ.length := by
      have := (List.getElem?_eq_some_iff.mp hb).1
      rwa [List.length_set] at this
    rw [List.getElem?_set_self hl] at hb
    cases hb
  · rw [List.getElem?_set_ne hj] at hb
    obtain ⟨w, h1, h2⟩ := r.at_ j b hb
    exact ⟨w, by rw [List.getElem?_set_ne hj]; exact h1, h2⟩
theorem RE.wipe {m : List Addr} {H : Hp} {ρ : Env} {σ : L2.St} (r : RE C m H ρ σ) : ∀ vs : List Nat, RE C m H (wipeE ρ vs) (L2.wipe σ vs)
  | [] => r
  | v :: vs => by
    unfold wipeE L2.wipe
    exact (RE.wipe r vs).unset v
theorem wipe_in {σ : L2.St} {i : Nat} : ∀ {vs : List Nat}, i ∈ vs → i < σ.length → (L2.wipe σ vs)[i]? = some none
  | v :: vs, h, hl => by
    unfold L2.wipe
    by_cases hv : v = i
    · subst hv
      rw [List.getElem?_set_self (by rw [wipe_length]; exact hl)]
    · rw [List.getElem?_set_ne hv]
      rcases List.mem_cons.mp h with e | h
      · exact absurd e.symm hv
      · exact wipe_in h hl
theorem wipe_eq {σ τ : L2.St} {vs : List Nat} (hl : σ.length = τ.length) (h : ∀ i, i ∉ vs → σ[i]? = τ[i]?) : L2.wipe σ vs = L2.wipe τ vs := by
  apply List.ext_getElem?
  intro i
  by_cases hi : i ∈ vs
  · by_cases hb : i < σ.length
    · rw [wipe_in hi hb, wipe_in hi (by rw [← hl]; exact hb)]
    · have h1 : (L2.wipe σ vs).length ≤ i := by rw [wipe_length]; omega
      have h2 : (L2.wipe τ vs).length ≤ i := by rw [wipe_length, ← hl]; omega
      rw [List.getElem?_eq_none h1, List.getElem?_eq_none h2]
  · rw [wipe_out hi, wipe_out hi, h i hi]
theorem wipe_set {σ : L2.St} {vs : List Nat} {i : Nat} {x : Option V} (h : i ∈ vs) : L2.wipe (σ.set i x) vs = L2.wipe σ vs :=
  wipe_eq (by rw [List.length_set]) fun j hj => by
    rw [List.getElem?_set_ne]
    intro e
    exact hj (e ▸ h)
theorem wipe_wipe (σ : L2.St) (vs : List Nat) : L2.wipe (L2.wipe σ vs) vs = L2.wipe σ vs :=
  wipe_eq (wipe_length σ vs) fun j hj => by rw [wipe_out hj]
/-- the target's reading, at an item -/
theorem tg_read {tg : Tg} {vs : List Nat} (hv : ∀ i ∈ tg.ixs, i ∈ vs) {m : List Addr} {H : Hp} {ρ ρ1 : Env} {σ : L2.St} {d : D} {x : V} {Q : L2.St → Hp → Prop} (he : RE C m H ρ (L2.wipe σ vs)) (hx : RD C m H d x) (hp : tg.put d ρ = some ρ1)
    (h : ∀ σ2, RE C m H ρ1 σ2 → L2.wipe σ2 vs = L2.wipe σ vs → Q σ2 H) : tg.rd C.K x (L2.wipe σ vs) H Q := by
  cases tg with
  | one i =>
    cases hp
    exact h _ (he.set i (a := .d d) hx) ((wipe_set (hv i (by simp [Tg.ixs]))).trans (wipe_wipe σ vs))
  | two i j =>
    unfold Tg.put at hp
    split at hp
    · rename_i h0
      cases h0
    · rename_i a b h0
      cases h0
      cases hp
      unfold RD at hx
      obtain ⟨p, us, rfl, h1, h2⟩ := hx
      unfold RDs at h2
      obtain ⟨u, r, rfl, k1, h2⟩ := h2
      unfold RDs at h2
      obtain ⟨u2, r2, rfl, k2, h2⟩ := h2
      unfold RDs at h2
      subst h2
      refine ⟨p, _, rfl, h1.sq, rfl, u, [u2], rfl, u2, [], rfl, rfl, ?_⟩
      refine h _ ((he.set i (a := .d a) k1).set j (a := .d b) k2) ?_
      rw [wipe_set (hv j (by simp [Tg.ixs])), wipe_set (hv i (by simp [Tg.ixs])), wipe_wipe]
    · cases hp
/-- nothing may be raised -/
def nextX {α β : Type} (r : R α) (f : α → Store → R β) : R β := match r with
  | .ok a S => f a S
  | _ => .bad
/-- the turns of a comprehension -/
def lcL (tg : Tg) (t : M Bool) (e : M A) : List D → Env → Store → List D → R (List D)
  | [], _, S, acc => .ok acc S
  | d :: ds, ρ, S, acc => match tg.put d ρ with
    | none => .bad
    | some ρ1 => nextX (t ρ1 S) fun b S1 => if b = true then nextX (e ρ1 S1) fun a S2 => match a with
        | .d y => lcL tg t e ds ρ S2 (acc ++ [y])
        | _ => .bad
      else lcL tg t e ds ρ S1 acc
def lcE (cell : Bool) (acc : List D) (S2 : Store) : R A := if cell then .ok (.ref S2.length) (S2 ++ [.lst acc]) else .ok (.d (.fl acc)) S2
def lcM (cell : Bool) (vs : List Nat) (q : MI) (tg : Tg) (t : M Bool) (e : M A) : M A := fun ρ S => (q ρ S).bind fun ds S1 =>
  if ds.length ≤ sizeLine then (lcL tg t e ds (wipeE ρ vs) S1 []).bind (lcE cell) else .bad
/-- a part's reading, whatever is the layer's own -/
def tEz (C : Cc) (f : M A) : TE := fun σ H Q => ∃ z, tE (C.wz z) E0 f σ H Q
def tTz (C : Cc) (f : M Bool) : TT := fun σ H Q => ∃ z, tT (C.wz z) E0 f σ H Q
theorem se_z {e : Expr} {f : M A} (h : ∀ z, SE (C.wz z) E0 X e f) : PE X e (tEz C f) := ⟨fun pins s σ H Q I ⟨z, q⟩ => (h z).run pins s σ H Q I q⟩
theorem pts_z {ifs : List Expr} {f : M Bool} (h : ∀ z, PTs X ifs (tT (C.wz z) E0 f)) : PTs X ifs (tTz C f) := ⟨fun pins s σ H Q I ⟨z, q⟩ => (h z).run pins s σ H Q I q⟩
abbrev SPT (C : Cc) (E : XK) (X : Cx) (ifs : List Expr) (f : M Bool) : Prop := PTs X ifs (tT C E f)
def tYesM : M Bool := fun _ S => .ok true S
theorem spt_nil : SPT C E X [] tYesM := ⟨fun pins s σ H Q I ⟨m, S, ρ, hs, he, w⟩ => pts_nil.run pins s σ H Q I (wpB hs w)⟩
theorem spt_one {c : Expr} {f : M Bool} (h : ST C E X c f) : SPT C E X [c] f := pts_one h
theorem RDs.snoc {m : List Addr} {H : Hp} {ds : List D} {vs : List V} {d : D} {v : V} (h : RDs C m H ds vs) (k : RD C m H d v) : RDs C m H (ds ++ [d]) (vs ++ [v]) := h.append (RDs.cons k RDs.nil)
/-- all of a comprehension's turns -/
theorem lc_read {vs : List Nat} {q : MI} {tg : Tg} {t : M Bool} {e : M A} {cell : Bool} (hv : ∀ i ∈ tg.ixs, i ∈ vs) {σ : L2.St} {H : Hp} {Q : VK} (h : tE C E (lcM cell vs q tg t e) σ H Q) :
    tLc (tI C E q) (tg.rd C.K) (tTz C t) (tEz C e) vs σ H Q := by
  obtain ⟨m, S, ρ, hs, he, w⟩ := h
  refine ⟨m, S, ρ, hs, he, (WpG.bind (rel := Yields C) w).imp fun J H1 ⟨m1, S1, ds, x1, r1, y1, w1⟩ => ?_⟩
  split at w1
  rotate_left
  · exact False.elim w1
  rename_i hlen
  intro D hD
  have e1 := he.ext x1
  have nD := r1.out hD
  -- the layer's own row with the new list, whatever it holds
  have hz : ∀ us : List V, ∀ q ∈ (D, us) :: C.z, q.1 ∈ C.z.map Prod.fst ∨ H1 q.1 = none := fun us q hq => by
    rcases List.mem_cons.mp hq with rfl | hq
    · exact .inr hD
    · exact .inl (List.mem_map_of_mem hq)
  have off1 : ∀ {us us2 : List V} {m' : List Addr} (p : Addr), Off (C.wz ((D, us) :: C.z)) m' p → Off (C.wz ((D, us2) :: C.z)) m' p := fun {us us2 m'} p h => ⟨h.1, h.2⟩
  have offM : ∀ {us : List V} {m' : List Addr} (p : Addr), Off (C.wz ((D, us) :: C.z)) m' p → Off C m' p := fun {us m'} p h => ⟨h.1, fun k => h.2 (List.mem_cons_of_mem _ k)⟩
  have offD : ∀ {us : List V} {m' : List Addr} (p : Addr), Off (C.wz ((D, us) :: C.z)) m' p → p ≠ D := fun {us m'} p h z => h.2 (by rw [z]; exact List.mem_cons_self)
  have liveD : ∀ (k : Nat) (o : Cell) (p : Addr), S1[k]? = some o → m1[k]? = some p → p ≠ D := fun k o p h1 h2 z => nD.1 (z ▸ List.mem_of_getElem? h2)
  have moA : ∀ {a : A} {v : V}, RA C m1 H1 a v → RA (C.wz ((D, []) :: C.z)) m1 H1 a v := fun {a v} h => by
    exact RA.more (hz []) h
  have moF : ∀ {fs : List (Str × A)} {gs : List (Str × V)}, RF C m1 H1 fs gs → RF (C.wz ((D, []) :: C.z)) m1 H1 fs gs := fun h => by
    induction h with
    | nil => exact .nil
    | cons a t ih => exact .cons ⟨a.1, moA a.2⟩ ih
  have x0 : Ext (C.wz ((D, []) :: C.z)) m1 H1 m1 (upd H1 D (.lst [])) :=
    ⟨⟨[], by simp⟩, fun p o h n => ⟨by rw [upd_ne (offD p n)]; exact h, n⟩⟩
  have r0 : RS (C.wz ((D, []) :: C.z)) m1 S1 (upd H1 D (.lst [])) := by
    refine ⟨r1.len, r1.nd, fun q hq => ?_, fun k o p h1 h2 => ?_, fun q hq => ⟨(r1.tab q hq).1, tab_new hD (r1.tab q hq).2⟩⟩
    · rcases List.mem_cons.mp hq with rfl | hq
      · exact ⟨nD.1, upd_same⟩
      · obtain ⟨k1, k2⟩ := r1.own q hq
        exact ⟨k1, by rw [upd_ne (ne_of_none k2 hD)]; exact k2⟩
    · have c := r1.cell k o p h1 h2
      have c2 : RC (C.wz ((D, []) :: C.z)) m1 H1 p o := by
        cases o with
        | lst es => obtain ⟨us, a1, a2⟩ := c; exact ⟨us, a1, RDs.more (hz []) a2⟩
        | ins cc fs => obtain ⟨dx, gs, a1, a2⟩ := c; exact ⟨dx, gs, a1, moF a2⟩
      exact c2.ext x0 (by rw [upd_ne (liveD k o p h1 h2)])
  have e0 : RE (C.wz ((D, []) :: C.z)) m1 (upd H1 D (.lst [])) (wipeE ρ vs) (L2.wipe σ vs) := by
    have z : RE (C.wz ((D, []) :: C.z)) m1 H1 (wipeE ρ vs) (L2.wipe σ vs) := by
      have w2 := e1.wipe vs
      exact ⟨w2.len, fun i a h => let ⟨v, k1, k2⟩ := w2.at_ i a h; ⟨v, k1, moA k2⟩⟩
    exact z.ext x0
  -- the state at turn i
  let P : Nat → Hp → Prop := fun i H' => ∃ m' S' acc us, Ext (C.wz ((D, us) :: C.z)) m1 H1 m' H' ∧ RS (C.wz ((D, us) :: C.z)) m' S' H' ∧ RE (C.wz ((D, us) :: C.z)) m' H' (wipeE ρ vs) (L2.wipe σ vs) ∧
      RDs (C.wz ((D, us) :: C.z)) m' H' acc us ∧ acc.length ≤ i ∧
      WpG C E (RA C) m1 H1 ((lcL tg t e (ds.drop i) (wipeE ρ vs) S' acc).bind (lcE cell)) Q
  refine ⟨fun i k H' => k = ds.length - i ∧ i ≤ ds.length ∧ P i H',
    ⟨ds.length, rfl, Nat.zero_le _, m1, S1, [], [], x0, r0, e0, RDs.nil, Nat.le_refl _, by simpa using w1⟩, ?_⟩
  rintro i k H' ⟨rfl, hi, m', S', acc, us, x', r', e', ha, hal, w'⟩
  by_cases hlt : i < ds.length
  · refine .inr ⟨y1.go i m' H' _ (hz us) x' hlt, P (i + 1), fun H2 h2 => ⟨ds.length - (i + 1), by omega, rfl, hlt, h2⟩, fun v H2 hy => ?_⟩
    obtain ⟨x2, r2, q2⟩ := y1.yld i m' H' S' _ v H2 _ (hz us) x' r' (List.getElem?_eq_getElem hlt) hy
    rw [List.drop_eq_getElem_cons hlt] at w'
    simp only [lcL] at w'
    cases hput : tg.put ds[i] (wipeE ρ vs) with
    | none => rw [hput] at w'; exact False.elim w'
    | some ρ1 =>
      rw [hput] at w'
      simp only at w'
      have e2 := e'.ext x2
      refine tg_read (C := C.wz ((D, us) :: C.z)) hv e2 q2 hput fun σ2 e3 hw => ⟨hw, (D, us) :: C.z, m', S', ρ1, r2, e3, ?_⟩
      cases ht : t ρ1 S' with
      | bad => rw [ht] at w'; exact False.elim w'
      | exc a S2 => rw [ht] at w'; exact False.elim w'
      | ok b S2 =>
        rw [ht] at w'
        simp only [nextX] at w'
        intro m3 H3 b' x3 r3 hb
        have hb : b = b' := hb
        subst hb
        cases b with
        | false =>
          rw [if_neg Bool.false_ne_true] at w' ⊢
          exact ⟨m3, S2, acc, us, (x'.trans x2).trans x3, r3, e2.ext x3, (ha.ext x2).ext x3, by omega, w'⟩
        | true =>
          rw [if_pos rfl] at w' ⊢
          refine ⟨(D, us) :: C.z, m3, S2, ρ1, r3, e3.ext x3, ?_⟩
          cases hE : e ρ1 S2 with
          | bad => rw [hE] at w'; exact False.elim w'
          | exc a S3 => rw [hE] at w'; exact False.elim w'
          | ok a S3 =>
            rw [hE] at w'
            simp only at w'
            intro m4 H4 y x4 r4 hy4
            cases a with
            | ref n => exact False.elim w'
            | fnc _ _ => exact False.elim w'
            | d yd =>
              simp only at w'
              have ha4 := ((ha.ext x2).ext x3).ext x4
              have hlen4 : us.length < sizeLine := by rw [← ha.len]; omega
              obtain ⟨kD, hDat⟩ := r4.own (D, us) List.mem_cons_self
              refine ⟨us, hDat, hlen4, m4, S3, acc ++ [yd], us ++ [y], ?_, ?_, ?_, ?_, by simp; omega, w'⟩
              all_goals
                have x5 : Ext (C.wz ((D, us) :: C.z)) m4 H4 m4 (upd H4 D (.lst (us ++ [y]))) :=
                  ⟨⟨[], by simp⟩, fun p o h n => ⟨by rw [upd_ne (offD p n)]; exact h, n⟩⟩
              · have z := (((x'.trans x2).trans x3).trans x4).trans x5
                exact ⟨z.pre, fun p o h n => z.stay p o h (off1 p n)⟩
              · refine ⟨r4.len, r4.nd, fun q hq => ?_, fun k o p h1 h2 => ?_, fun q hq => ⟨(r4.tab q hq).1, tab_put (fun φ e => by rw [hDat] at e; cases e) (fun z => nD.2 (List.mem_append_right _ (z ▸ List.mem_map_of_mem hq))) (r4.tab q hq).2⟩⟩
                · rcases List.mem_cons.mp hq with rfl | hq
                  · exact ⟨kD, upd_same⟩
                  · obtain ⟨k1, k2⟩ := r4.own q (List.mem_cons_of_mem _ hq)
                    refine ⟨k1, ?_⟩
                    have nq : q.1 ≠ D := fun z => nD.2 (List.mem_append_left _ (z ▸ List.mem_map_of_mem hq))
                    rw [upd_ne nq]
                    exact k2
                · have c := (r4.cell k o p h1 h2).ext x5 (by
                    rw [upd_ne]
                    exact fun z => kD (z ▸ List.mem_of_getElem? h2))
                  exact RC.off (C := C) off1 (fun _ _ h => h) c
              · exact RE.off (C := C) off1 (fun _ _ h => h) (((e2.ext x3).ext x4).ext x5)
              · refine RDs.snoc (RDs.off (C := C) off1 (ha4.ext x5)) (RD.off (C := C) off1 (RD.ext x5 hy4))
  · have e : i = ds.length := by omega
    subst e
    refine .inl ⟨y1.stop m' H' _ (hz us) x', ?_⟩
    rw [List.drop_length] at w'
    have keepX : Ext C m1 H1 m' H' := ⟨x'.pre, fun p o h n => by
      have hp : p ≠ D := ne_of_none h hD
      have n' : Off (C.wz ((D, us) :: C.z)) m1 p := ⟨n.1, fun z => by
        rcases List.mem_cons.mp (show p ∈ D :: C.rows from z) with z | z
        · exact hp z
        · exact n.2 z⟩
      exact ⟨(x'.stay p o h n').1, offM p (x'.stay p o h n').2⟩⟩
    obtain ⟨kD, hDat⟩ := r'.own (D, us) List.mem_cons_self
    have rC : RS C m' S' H' := ⟨r'.len, r'.nd, fun q hq => r'.own q (List.mem_cons_of_mem _ hq), fun k o p h1 h2 => RC.off (C := C) (z' := C.z) offM (fun _ _ h => h) (r'.cell k o p h1 h2), fun q hq => r'.tab q hq⟩
    have w2 : WpG C E (RA C) m1 H1 (lcE cell acc S') Q := w'
    unfold lcE at w2
    cases cell with
    | false =>
      refine w2 m' H' (.ref D) keepX rC ?_
      simp only [RA, RD]
      exact ⟨D, us, rfl, hDat, ⟨kD, nD.2⟩, RDs.off (C := C) (z' := C.z) offM ha⟩
    | true =>
      have offN : ∀ p, Off (C.wz ((D, us) :: C.z)) m' p → Off (C.wz C.z) (m' ++ [D]) p := fun p h => ⟨by
        rw [List.mem_append, List.mem_singleton]
        rintro (z | z)
        · exact h.1 z
        · exact offD p h z, (offM p h).2⟩
      have pre : ∀ (n : Nat) (p : Addr), m'[n]? = some p → (m' ++ [D])[n]? = some p := fun n p h => by
        rw [List.getElem?_append_left (List.getElem?_eq_some_iff.mp h).1]
        exact h
      refine w2 (m' ++ [D]) H' (.ref D) ⟨?_, fun p o h n => ?_⟩ ⟨?_, ?_, fun q hq => ?_, fun k o p h1 h2 => ?_, fun q hq => ?_⟩ ⟨D, ?_, rfl⟩
      · obtain ⟨r, er⟩ := keepX.pre
        exact ⟨r ++ [D], by rw [er, List.append_assoc]⟩
      · have hp : p ≠ D := ne_of_none h hD
        obtain ⟨k1, k2⟩ := keepX.stay p o h n
        refine ⟨k1, ?_, k2.2⟩
        rw [List.mem_append, List.mem_singleton]
        rintro (z | z)
        · exact k2.1 z
        · exact hp z
      · rw [List.length_append, List.length_append, r'.len]; rfl
      · rw [List.nodup_append]
        exact ⟨r'.nd, by simp, fun a hm b hb => by
          have e : b = D := by simpa using hb
          subst e
          exact fun z => kD (z ▸ hm)⟩
      · obtain ⟨k1, k2⟩ := r'.own q (List.mem_cons_of_mem _ hq)
        refine ⟨?_, k2⟩
        rw [List.mem_append, List.mem_singleton]
        rintro (z | z)
        · exact k1 z
        · exact nD.2 (List.mem_append_left _ (z ▸ List.mem_map_of_mem hq))
      · by_cases hk : k < S'.length
        · rw [List.getElem?_append_left hk] at h1
          rw [List.getElem?_append_left (by rw [r'.len]; exact hk)] at h2
          exact RC.off (C := C) (z' := C.z) offN pre (r'.cell k o p h1 h2)
        · have hk' : k = S'.length := by
            have := (List.getElem?_eq_some_iff.mp h1).1
            rw [List.length_append, List.length_singleton] at this
            omega
          subst hk'
          rw [List.getElem?_append_right (Nat.le_refl _), Nat.sub_self] at h1
          rw [List.getElem?_append_right (by rw [r'.len]; exact Nat.le_refl _), r'.len, Nat.sub_self] at h2
          have e1 : Cell.lst acc = o := by simpa using h1
          have e2 : D = p := by simpa using h2
          subst e1; subst e2
          exact ⟨us, hDat, RDs.off (C := C) (z' := C.z) offN ha⟩
      · obtain ⟨k1, k2⟩ := r'.tab q hq
        refine ⟨?_, k2⟩
        rw [List.mem_append, List.mem_singleton]
        rintro (z | z)
        · exact k1 z
        · exact nD.2 (List.mem_append_right _ (z ▸ List.mem_map_of_mem hq))
      · rw [← r'.len, List.getElem?_append_right (Nat.le_refl _), Nat.sub_self]
        rfl
/-! ### comprehensions as values and as stored -/
section
variable {elt tgE iter : Expr} {ifs : List Expr} {scope : Scope} {own : List (Str × Nat)} {pos : Pos} {q : MI} {tg : Tg} {t : M Bool} {e : M A} {cell : Bool}
theorem se_lc (cell : Bool) (hK : C.K = X.K) (hc : X.calm = true) (hN : X.N.Nodup) (hi : SI C E X tgE iter q) (ok : BlkOk X.N X.env.scope scope own) (hv : ∀ i ∈ tg.ixs, i ∈ own.map (·.2))
    (hg : ∀ (s : Shared) (H : Hp) (Ca : Addr) (cl : List (Str × Addr)) (fp : List Addr), PG (X.blk s H scope (compEnvC scope cl Ca X.env) fp) tgE (tg.rd X.K))
    (ht : ∀ (s : Shared) (H : Hp) (Ca : Addr) (cl : List (Str × Addr)) (fp : List Addr) (z : List (Addr × List V)), SPT (C.wz z) E0 (X.blk s H scope (compEnvC scope cl Ca X.env) fp) ifs t)
    (he : ∀ (s : Shared) (H : Hp) (Ca : Addr) (cl : List (Str × Addr)) (fp : List Addr) (z : List (Addr × List V)), SE (C.wz z) E0 (X.blk s H scope (compEnvC scope cl Ca X.env) fp) elt e)
    (hs : ∀ x, foldedSetIterable iter X.env x = pure x := by intro _; rfl) : SE C E X (.ListComp elt [⟨tgE, iter, ifs, 0⟩] scope pos) (lcM cell (own.map (·.2)) q tg t e) := by
  refine pe_imp (pe_lc hc hN hi ok hg (fun s H Ca cl fp => pts_z (C := C) (ht s H Ca cl fp)) (fun s H Ca cl fp => se_z (C := C) (he s H Ca cl fp)) hs) fun σ H Q h => ?_
  have z := lc_read hv h
  rw [hK] at z
  exact z
theorem ss_setLc (cell : Bool) {i : Nat} {y : Str} {py spos : Pos} (hK : C.K = X.K) (hc : X.calm = true) (hN : X.N.Nodup) (hy : X.N[i]? = some y) (hyl : X.env.scope.names.lookup y = some .local)
    (hsw : swapsWith (.ListComp elt [⟨tgE, iter, ifs, 0⟩] scope pos) (some (.Name y py)) spos.line X.env = pure true) (hi : SI C E X tgE iter q) (ok : BlkOk X.N X.env.scope scope own) (hv : ∀ i ∈ tg.ixs, i ∈ own.map (·.2))
    (hg : ∀ (s : Shared) (H : Hp) (Ca : Addr) (cl : List (Str × Addr)) (fp : List Addr), PG (X.blk s H scope (compEnvC scope cl Ca X.env) fp) tgE (tg.rd X.K))
    (ht : ∀ (s : Shared) (H : Hp) (Ca : Addr) (cl : List (Str × Addr)) (fp : List Addr) (z : List (Addr × List V)), SPT (C.wz z) E0 (X.blk s H scope (compEnvC scope cl Ca X.env) fp) ifs t)
    (he : ∀ (s : Shared) (H : Hp) (Ca : Addr) (cl : List (Str × Addr)) (fp : List Addr) (z : List (Addr × List V)), SE (C.wz z) E0 (X.blk s H scope (compEnvC scope cl Ca X.env) fp) elt e)
    (hs : ∀ x, foldedSetIterable iter X.env x = pure x := by intro _; rfl) : SS C E X (.Assign [.Name y py] (.ListComp elt [⟨tgE, iter, ifs, 0⟩] scope pos) spos) (sAsg (lcM cell (own.map (·.2)) q tg t e) (gSet i)) := by
  refine ps_imp (ps_setLc hc hN hy hyl hsw hi ok hg (fun s H Ca cl fp => pts_z (C := C) (ht s H Ca cl fp)) (fun s H Ca cl fp => se_z (C := C) (he s H Ca cl fp)) hs) fun Dn σ H ⟨m, S, ρ, hs, he, w⟩ => ?_
  have z : tE C E (lcM cell (own.map (·.2)) q tg t e) σ H fun x H1 => gName i x σ H1 Dn.nx :=
    ⟨m, S, ρ, hs, he, (WpG.bind (rel := RA C) w).imp fun v H1 ⟨m1, S1, a, x1, r1, q1, w1⟩ => wp_nx r1 ((he.ext x1).set i q1) w1⟩
  have z := lc_read hv z
  rw [hK] at z
  exact z
end
end RS
end

section
set_option maxRecDepth 100000
set_option maxHeartbeats 4000000
/-! Defs by their meanings; calls. -/
namespace RS
open PySem PySem.Spec PyProof.Rows L2
variable {C : Cc} {E : XK} {X : Cx}

/-- a def's promise: its meaning F on n arguments -/
def spF (C : Cc) (n : Nat) (F : List A → Store → R A) : Sp := fun vs H Q E => ∃ z m S as, RS (C.wz z) m S H ∧ RAs (C.wz z) m H as vs ∧ as.length = n ∧ WpG (C.wz z) E (RA (C.wz z)) m H (F as S) Q
/-- how a result leaves: a new list is frozen, or is handed on as a cell -/
def pureF : List (Str × A) → Option (List D)
  | [] => some []
  | (_, .d x) :: r => (pureF r).map (x :: ·)
  | _ :: _ => none
def cellOk (n : Nat) : Cell → Bool
  | .lst _ => true
  | .ins _ fs => fs.all fun p => match p.2 with
    | .d _ => true
    | .ref k => decide (k < n)
    | .fnc _ _ => false
def storeOk (n : Nat) (S : Store) : Bool := (S.take n).all (cellOk n)
def retA (keep : Bool) (n : Nat) (a : A) (S : Store) : R A :=
  if storeOk n S = true then match a with
    | .d x => .ok (.d x) (S.take n)
    | .ref k => if k < n then .ok (.ref k) (S.take n) else match S[k]? with
      | some (.lst ds) => if keep then .ok (.ref n) (S.take n ++ [.lst ds]) else .ok (.d (.fl ds)) (S.take n)
      | some (.ins c fs) => (match pureF fs with
        | some ds => if keep then .ok (.ref n) (S.take n ++ [.ins c fs]) else .ok (.d (.ob c (fs.map Prod.fst) ds)) (S.take n)
        | none => .bad)
      | none => .bad
    | .fnc _ _ => .bad
  else .bad
def fnEnd (keep : Bool) (n : Nat) : Fl → Store → R A
  | .rt a, S => retA keep n a S
  | .nx _, S => retA keep n (.d .non) S
  | _, _ => .bad
def startE (N : Nat) (as : List A) : Env := as.map some ++ List.replicate (N - as.length) none
def fnF (N n : Nat) (keep : Bool) (body : M Fl) : List A → Store → R A := fun as S =>
  if as.length = n then (body (startE N as) S).bind (fnEnd keep S.length) else .bad
section
variable {m m' : List Addr} {H H' : Hp} {S S' : Store}
theorem pureF_of : ∀ {fs : List (Str × A)} {gs : List (Str × V)} {ds : List D}, RF C m H fs gs → pureF fs = some ds → gs.map Prod.fst = fs.map Prod.fst ∧ RDs C m H ds (gs.map Prod.snd)
  | [], _, _, .nil, e => by cases e; exact ⟨rfl, RDs.nil⟩
  | (x, .d y) :: fs, _, _, .cons q t, e => by
    simp only [pureF, Option.map_eq_some_iff] at e
    obtain ⟨ds, e, rfl⟩ := e
    obtain ⟨h1, h2⟩ := pureF_of t e
    exact ⟨by simp only [List.map_cons, h1]; rw [← q.1], RDs.cons q.2 h2⟩
  | (x, .ref n) :: fs, _, _, .cons q t, e => by cases e
  | (x, .fnc n cs) :: fs, _, _, .cons q t, e => by cases e
/-- what is left when the new cells are given up -/
theorem take_pre (hs : RS C m S H) (x : Ext C m H m' H') : m'.take S.length = m := by
  obtain ⟨r, rfl⟩ := x.pre
  rw [← hs.len, List.take_left]
section
variable {m2 : List Addr} (hsub : ∀ q ∈ m2, q ∈ m')
include hsub
theorem off_sub (p : Addr) (h : Off C m' p) : Off C m2 p := ⟨fun z => h.1 (hsub _ z), h.2⟩
theorem rd_sub {d : D} {v : V} (h : RD C m' H' d v) : RD C m2 H' d v := RD.off (C := C) (z := C.z) (z' := C.z) (fun p h => off_sub hsub p h) h
theorem rds_sub {d : List D} {v : List V} (h : RDs C m' H' d v) : RDs C m2 H' d v := RDs.off (C := C) (z := C.z) (z' := C.z) (fun p h => off_sub hsub p h) h
theorem rf_sub {n : Nat} (hpre : ∀ (j : Nat) (q : Addr), j < n → m'[j]? = some q → m2[j]? = some q) : ∀ {fs : List (Str × A)} {gs : List (Str × V)}, RF C m' H' fs gs → (∀ p ∈ fs, ∀ k, p.2 = .ref k → k < n) → RF C m2 H' fs gs
  | (x, .fnc j cs) :: fs, _, .cons q t, k => .cons ⟨q.1, by
      obtain ⟨f, c', cl, ws, h1, h2, h3, h4, h5, h6⟩ := q.2
      exact ⟨f, c', cl, ws, h1, h2, off_sub hsub _ h3, h4, off_sub hsub _ h5, Cap.off (C := C) (z := C.z) (z' := C.z) (fun p h => off_sub hsub p h) h6⟩⟩ (rf_sub hpre t fun p hp => k p (List.mem_cons_of_mem _ hp))
  | _, _, .nil, _ => .nil
  | (x, .d y) :: fs, _, .cons q t, k => .cons ⟨q.1, rd_sub hsub q.2⟩ (rf_sub hpre t fun p hp => k p (List.mem_cons_of_mem _ hp))
  | (x, .ref j) :: fs, _, .cons q t, k => .cons ⟨q.1, by
      obtain ⟨p, h1, h2⟩ := q.2
      exact ⟨p, hpre j p (k (x, .ref j) List.mem_cons_self j rfl) h1, h2⟩⟩ (rf_sub hpre t fun p hp => k p (List.mem_cons_of_mem _ hp))
theorem rc_sub {n : Nat} (hpre : ∀ (j : Nat) (q : Addr), j < n → m'[j]? = some q → m2[j]? = some q) {o : Cell} {p : Addr} (h : RC C m' H' p o) (k : cellOk n o = true) : RC C m2 H' p o := by
  cases o with
  | lst ds => obtain ⟨vs, h1, h2⟩ := h; exact ⟨vs, h1, rds_sub hsub h2⟩
  | ins c fs =>
    obtain ⟨dx, gs, h1, h2⟩ := h
    refine ⟨dx, gs, h1, rf_sub hsub hpre h2 fun q hq j hj => ?_⟩
    have z := List.all_eq_true.mp (show (fs.all fun p => match p.2 with
      | .d _ => true
      | .ref k => decide (k < n)
      | .fnc _ _ => false) = true from k) q hq
    rw [hj] at z
    exact of_decide_eq_true z
end
theorem rs_take {n : Nat} (hs : RS C m' S' H') (k : storeOk n S' = true) : RS C (m'.take n) (S'.take n) H' := by
  refine hs.cut n fun j o hj ho p h => rc_sub (fun q hq => List.mem_of_mem_take hq) (n := n) (fun i q hi hq => by rw [List.getElem?_take, if_pos hi]; exact hq) h ?_
  have k := List.all_eq_true.mp (show ((S'.take n).all (cellOk n)) = true from k)
  exact k o (List.mem_of_getElem? (show (S'.take n)[j]? = some o by rw [List.getElem?_take, if_pos hj]; exact ho))
theorem ext_take (hs : RS C m S H) (x : Ext C m H m' H') : Ext C m H (m'.take S.length) H' :=
  ⟨⟨[], by rw [take_pre hs x, List.append_nil]⟩, fun p o h n => ⟨(x.stay p o h n).1, off_sub (fun q hq => List.mem_of_mem_take hq) p (x.stay p o h n).2⟩⟩
/-- one new cell is handed on -/
theorem keep_of {k : Nat} {p : Addr} {c : Cell} (hs : RS C m S H) (x : Ext C m H m' H') (hs' : RS C m' S' H') (hok : storeOk S.length S' = true) (hk : S.length ≤ k) (hp : m'[k]? = some p) (hc : S'[k]? = some c) (hc2 : cellOk S.length c = true) :
    Ext C m H (m'.take S.length ++ [p]) H' ∧ RS C (m'.take S.length ++ [p]) (S'.take S.length ++ [c]) H' ∧ (m'.take S.length ++ [p])[S.length]? = some p := by
  have hmem : p ∈ m' := List.mem_of_getElem? hp
  have hnt : p ∉ m'.take S.length := fun z => by
    obtain ⟨j, hj⟩ := List.getElem?_of_mem z
    rw [List.getElem?_take] at hj
    split at hj
    · rename_i hjl
      have := (List.getElem?_inj (List.getElem?_eq_some_iff.mp hj).1 hs'.nd).mp (hj.trans hp.symm)
      omega
    · cases hj
  have hl : (m'.take S.length).length = S.length := by rw [take_pre hs x]; exact hs.len
  have hl2 : (S'.take S.length).length = S.length := by rw [← (rs_take hs' hok).len]; exact hl
  have hsub : ∀ q ∈ m'.take S.length ++ [p], q ∈ m' := fun q hq => by
    rcases List.mem_append.mp hq with z | z
    · exact List.mem_of_mem_take z
    · rw [List.mem_singleton.mp z]; exact hmem
  have hpre : ∀ (j : Nat) (q : Addr), j < S.length → m'[j]? = some q → (m'.take S.length ++ [p])[j]? = some q := fun j q hj hq => by
    rw [List.getElem?_append_left (by rw [hl]; exact hj), List.getElem?_take, if_pos hj]
    exact hq
  refine ⟨⟨⟨[p], by rw [take_pre hs x]⟩, fun q o h n => ⟨(x.stay q o h n).1, off_sub hsub q (x.stay q o h n).2⟩⟩, ⟨?_, ?_, fun q hq => ?_, fun j o q h1 h2 => ?_, fun q hq => ⟨fun z => (hs'.tab q hq).1 (hsub _ z), (hs'.tab q hq).2⟩⟩, ?_⟩
  · rw [List.length_append, List.length_append, hl, hl2]; rfl
  · rw [List.nodup_append]
    exact ⟨hs'.nd.sublist (List.take_sublist _ _), by simp, fun a ha b hb => by
      have e : b = p := by simpa using hb
      subst e
      exact fun z => hnt (z ▸ ha)⟩
  · exact ⟨fun z => (hs'.own q hq).1 (hsub _ z), (hs'.own q hq).2⟩
  · by_cases hj : j < S.length
    · rw [List.getElem?_append_left (by rw [hl2]; exact hj), List.getElem?_take, if_pos hj] at h1
      rw [List.getElem?_append_left (by rw [hl]; exact hj), List.getElem?_take, if_pos hj] at h2
      refine rc_sub hsub hpre (hs'.cell j o q h1 h2) ?_
      have k := List.all_eq_true.mp (show ((S'.take S.length).all (cellOk S.length)) = true from hok)
      exact k o (List.mem_of_getElem? (show (S'.take S.length)[j]? = some o by rw [List.getElem?_take, if_pos hj]; exact h1))
    · have hj' : j = S.length := by
        have := (List.getElem?_eq_some_iff.mp h1).1
        rw [List.length_append, List.length_singleton, hl2] at this
        omega
      subst hj'
      rw [List.getElem?_append_right (by rw [hl2]; exact Nat.le_refl _), hl2, Nat.sub_self] at h1
      rw [List.getElem?_append_right (by rw [hl]; exact Nat.le_refl _), hl, Nat.sub_self] at h2
      have e1 : c = o := by simpa using h1
      have e2 : p = q := by simpa using h2
      subst e1; subst e2
      exact rc_sub hsub hpre (hs'.cell k c p hc hp) hc2
  · rw [List.getElem?_append_right (by rw [hl]; exact Nat.le_refl _), hl, Nat.sub_self]
    rfl
theorem pureF_ok {n : Nat} {c : Str} : ∀ {fs : List (Str × A)} {ds : List D}, pureF fs = some ds → cellOk n (.ins c fs) = true
  | [], _, _ => rfl
  | (x, .d y) :: fs, _, e => by
    simp only [pureF, Option.map_eq_some_iff] at e
    obtain ⟨ds, e, rfl⟩ := e
    have z := pureF_ok (n := n) (c := c) e
    simpa [cellOk] using z
  | (x, .ref j) :: fs, _, e => by cases e
/-- a result leaves -/
theorem ret_of {keep : Bool} {a : A} {v : V} {Q : VK} (hs : RS C m S H) (x : Ext C m H m' H') (hs' : RS C m' S' H') (ha : RA C m' H' a v) (w : WpG C E (RA C) m H (retA keep S.length a S') Q) : Q v H' := by
  unfold retA at w
  split at w
  rotate_left
  · exact False.elim w
  rename_i hok
  have x2 := ext_take hs x
  have r2 := rs_take hs' hok
  have hsubT : ∀ q ∈ m'.take S.length, q ∈ m' := fun q hq => List.mem_of_mem_take hq
  cases a with
  | fnc k cs => exact False.elim w
  | d y => exact w _ H' v x2 r2 (rd_sub hsubT ha)
  | ref k =>
    obtain ⟨p, hp, rfl⟩ := ha
    simp only at w
    split at w
    · rename_i hk
      exact w _ H' _ x2 r2 ⟨p, by rw [List.getElem?_take, if_pos hk]; exact hp, rfl⟩
    · rename_i hk
      have hk' : S.length ≤ k := by omega
      have hmem : p ∈ m' := List.mem_of_getElem? hp
      have hz : p ∉ C.rows := fun z => by
        rcases List.mem_append.mp z with z | z
        · obtain ⟨q, h1, rfl⟩ := List.mem_map.mp z
          exact (hs'.own q h1).1 hmem
        · obtain ⟨q, h1, rfl⟩ := List.mem_map.mp z
          exact (hs'.tab q h1).1 hmem
      have hnt : p ∉ m'.take S.length := fun z => by
        obtain ⟨j, hj⟩ := List.getElem?_of_mem z
        rw [List.getElem?_take] at hj
        split at hj
        · rename_i hjl
          have := (List.getElem?_inj (List.getElem?_eq_some_iff.mp hj).1 hs'.nd).mp (hj.trans hp.symm)
          omega
        · cases hj
      split at w
      · rename_i ds hc
        obtain ⟨vs, h1, h2⟩ := hs'.cell k _ p hc hp
        split at w
        · obtain ⟨a1, a2, a3⟩ := keep_of hs x hs' hok hk' hp hc rfl
          exact w _ H' _ a1 a2 ⟨p, a3, rfl⟩
        · refine w _ H' _ x2 r2 ?_
          simp only [RA, RD]
          exact ⟨p, vs, rfl, h1, ⟨hnt, hz⟩, rds_sub hsubT h2⟩
      · rename_i c fs hc
        obtain ⟨dx, gs, h1, h2⟩ := hs'.cell k _ p hc hp
        split at w
        · rename_i ds hds
          obtain ⟨k1, k2⟩ := pureF_of h2 hds
          split at w
          · obtain ⟨a1, a2, a3⟩ := keep_of hs x hs' hok hk' hp hc (pureF_ok hds)
            exact w _ H' _ a1 a2 ⟨p, a3, rfl⟩
          · refine w _ H' _ x2 r2 ?_
            simp only [RA, RD]
            exact ⟨p, dx, gs, rfl, h1, ⟨hnt, hz⟩, k1, rds_sub hsubT k2⟩
        · exact False.elim w
      · exact False.elim w
end
/-! ### a def's contract -/
theorem re_start {m : List Addr} {H : Hp} {N : List Str} {as : List A} {vs : List V} (h : RAs C m H as vs) : RE C m H (startE N.length as) (L2.start N vs) := by
  have hl : as.length = vs.length := Paired.length h
  have get : ∀ {as : List A} {vs : List V}, RAs C m H as vs → ∀ (i : Nat) (a : A), as[i]? = some a → ∃ v, vs[i]? = some v ∧ RA C m H a v := by
    intro as vs h
    induction h with
    | nil => intro i a e; simp at e
    | cons q t ih =>
      intro i a e
      cases i with
      | zero => simp at e; subst e; exact ⟨_, rfl, q⟩
      | succ i => obtain ⟨v, h1, h2⟩ := ih i a (by simpa using e); exact ⟨v, by simpa using h1, h2⟩
  refine ⟨by unfold startE L2.start; simp [hl], fun i a e => ?_⟩
  unfold startE at e
  by_cases hi : i < as.length
  · rw [List.getElem?_append_left (by simpa using hi), List.getElem?_map] at e
    cases ha : as[i]? with
    | none => rw [ha] at e; cases e
    | some b =>
      rw [ha] at e
      have e : b = a := by simpa using e
      subst e
      obtain ⟨v, h1, h2⟩ := get h i b ha
      refine ⟨v, ?_, h2⟩
      unfold L2.start
      rw [List.getElem?_append_left (by simpa [← hl] using hi), List.getElem?_map, h1]
      rfl
  · rw [List.getElem?_append_right (by simpa using hi), List.getElem?_replicate] at e
    split at e <;> cases e
/-- an exception of a callee passes a def's body -/
theorem pass_cx {P : Program} {w : World} {K : Fr} {mg : Str → Option Value} {base : Heap} {N : List Str} {qual : Str} {scope : Scope} {f : Addr} {cd : Value} {A' : Around} {outer : List PySem.Env} {s : Shared} {H : Hp} {E : XK} :
    Passes (L2.CX P w) (cxOf (L2.CX P w) P w K mg base N qual scope f cd A' outer s H E) E :=
  passes_call (X := cxOf (L2.CX P w) P w K mg base N qual scope f cd A' outer s H E) (W := fun cls d _ H => E cls d H) (takes_of rfl rfl rfl rfl) fun _ _ _ _ h => h
theorem own_cx {P : Program} {w : World} {K : Fr} {mg : Str → Option Value} {base : Heap} {N : List Str} {qual : Str} {scope : Scope} {f : Addr} {cd : Value} {A' : Around} {outer : List PySem.Env} {s : Shared} {H : Hp} {E : XK} :
    PassesOwn (model P w) (cxOf (L2.CX P w) P w K mg base N qual scope f cd A' outer s H E).A (cxOf (L2.CX P w) P w K mg base N qual scope f cd A' outer s H E).env (cxOf (L2.CX P w) P w K mg base N qual scope f cd A' outer s H E).xe :=
  passes_of (X := cxOf (L2.CX P w) P w K mg base N qual scope f cd A' outer s H E) rfl
theorem fn_make {P : Program} {w : World} {K : Fr} {mg : Str → Option Value} {base : Heap} {d : DefP} {fd : FuncData} {N ps : List Str} {k : Nat} {body : M Fl} (keep : Bool) (F : FnAt K d fd) (S : FnScope N ps d.scope)
    (hb : ∀ (cdv : Value) (A' : Around) (outer : List PySem.Env) (s : Shared) (H : Hp) (E : XK) (z : List (Addr × List V)), Room k (A'.deeper (envOfC d.qual d.scope s.heap.objs.size (d.ad K) cdv)) →
      SSs (C.wz z) E (cxOf (L2.CX P w) P w K mg base N d.qual d.scope (d.ad K) cdv A' outer s H E) d.body body) :
    FnOk P w K mg base (L2.CX P w) (k + 1) (d.ad K) fd ps (spF C ps.length (fnF N.length ps.length keep body)) := by
  refine FunD.ok F S (fun vs H Q E h => ?_) fun cdv A' outer s H vs Q E hr h => ?_
  · obtain ⟨z, m, St, as, hs, ha, hl, _⟩ := h
    rw [← Paired.length ha]; exact hl
  · obtain ⟨z, m, St, as, hs, ha, hl, w'⟩ := h
    refine ⟨_, hb cdv A' outer s H E z hr, m, St, startE N.length as, hs, re_start ha, ?_⟩
    unfold fnF at w'
    rw [if_pos hl] at w'
    cases hB : body (startE N.length as) St with
    | bad => rw [hB] at w'; exact False.elim w'
    | exc x S1 => rw [hB] at w'; exact w'
    | ok fl S1 =>
      rw [hB] at w'
      simp only [RS.R.bind] at w'
      intro m' H' o x r q
      cases fl <;> cases o <;> first
        | exact False.elim q
        | exact False.elim w'
        | exact ret_of (keep := keep) hs x r q w'
        | exact ret_of (keep := keep) (a := .d .non) hs x r RA.mkNon w'
/-! ### calls -/
def callM (n : Nat) (F : List A → Store → R A) (das : List A) (f : M (List A)) : M A := fun ρ S => (f ρ S).bind fun as S1 => if (as ++ das).length = n then F (as ++ das) S1 else .bad
theorem sp_of {n : Nat} {F : List A → Store → R A} {m : List Addr} {S : Store} {H : Hp} {as : List A} {vs : List V} {Q : VK} (hs : RS C m S H) (ha : RAs C m H as vs) (hl : as.length = n) (w : WpG C E (RA C) m H (F as S) Q) : spF C n F vs H Q E := ⟨C.z, m, S, as, hs, ha, hl, w⟩
theorem t_call {n : Nat} {F : List A → Store → R A} {das : List A} {dvs : List V} {f : M (List A)} (hd : ∀ m H, RAs C m H das dvs) {σ : L2.St} {H : Hp} {Q : VK} (h : tE C E (callM n F das f) σ H Q) : tCall (spF C n F) dvs E (tA C E f) σ H Q := by
  obtain ⟨m, S, ρ, hs, he, w⟩ := h
  refine tA_then (g := fun as _ S1 => if (as ++ das).length = n then F (as ++ das) S1 else .bad) hs he w fun m1 S1 as vs H1 x1 r1 e1 q1 w1 => ?_
  split at w1
  · rename_i hl
    exact sp_of r1 (q1.app (hd m1 H1)) hl w1
  · exact False.elim w1
section
variable {k n : Nat} {f Cl : Addr} {fd : FuncData} {ps : List Str} {F : List A → Store → R A} {das : List A} {dvs : List V} {ds : List Value} {x mth : Str} {p pos apos : Pos} {e o : Expr} {es : List Expr} {fs : M (List A)} {fo : M A}
theorem se_call (G : FnOk X.prog X.w X.K X.mg X.base (L2.CX X.prog X.w) k f fd ps (spF C n F)) (hr : Room k X.A) (hg : Gl X x) (hm : X.mg x = some (.ref f)) (hk : PySem.W.keepIn X.K (.ref f) = true) (hb : Binds X.K fd ps ds) (hd : Vals dvs ds) (hda : ∀ m H, RAs C m H das dvs) (hx : Passes (L2.CX X.prog X.w) X E)
    (ha : SA C E X (e :: es) fs) (hdb : (x == ("__debug__" : Str)) = false := by decide) (he : starEach (e :: es) X.env = (false, eval e X.env) :: starEach es X.env := by rfl) (hpl : (backTo pos (starEach es X.env)).any (·.1) = false := by rfl) :
    SE C E X (.Call (.Name x p) (e :: es) [] pos) (callM n F das fs) :=
  pe_imp (pe_call G hr hg hm hk hb hd hx ha hdb he hpl) fun σ H Q t => t_call hda t
theorem se_call0 (G : FnOk X.prog X.w X.K X.mg X.base (L2.CX X.prog X.w) k f fd ps (spF C n F)) (hr : Room k X.A) (hg : Gl X x) (hm : X.mg x = some (.ref f)) (hk : PySem.W.keepIn X.K (.ref f) = true) (hb : Binds X.K fd ps ds) (hd : Vals dvs ds) (hda : ∀ m H, RAs C m H das dvs) (hx : Passes (L2.CX X.prog X.w) X E)
    (hdb : (x == ("__debug__" : Str)) = false := by decide) : SE C E X (.Call (.Name x p) [] [] pos) (callM n F das aNil) := by
  refine pe_imp (pe_call0 G hr hg hm hk hb hd hx hdb) fun σ H Q t => ?_
  obtain ⟨m, S, ρ, hs, he, w⟩ := t
  show spF C n F ([] ++ dvs) H Q E
  unfold callM aNil at w
  simp only [RS.R.bind] at w
  split at w
  · rename_i hl
    exact sp_of hs (RAs.app .nil (hda m H)) hl w
  · exact False.elim w
end
end RS
end

section
set_option maxRecDepth 100000
set_option maxHeartbeats 4000000
/-! Instances: attributes, properties, methods, making; lists that change. -/
namespace RS
open PySem PySem.Spec PyProof.Rows L2
variable {C : Cc} {E : XK} {X : Cx}

/-! ### what an instance holds -/
def zipA (ks : List Str) (xs : List D) : List (Str × A) := (ks.zip xs).map fun p => (p.1, A.d p.2)
def insOf (S : Store) (c : Str) : A → Option (List (Str × A))
  | .d (.ob c' ks xs) => if c' = c then some (zipA ks xs) else none
  | .ref n => (match S[n]? with
    | some (.ins c' fs) => if c' = c then some fs else none
    | _ => none)
  | _ => none
section
variable {m m' : List Addr} {H H' : Hp} {S S' : Store}
theorem rf_zip : ∀ {gs : List (Str × V)} {xs : List D}, RDs C m H xs (gs.map Prod.snd) → RF C m H (zipA (gs.map Prod.fst) xs) gs
  | [], xs, h => by
    have e := h.len
    have e : xs = [] := List.eq_nil_of_length_eq_zero e
    subst e
    exact .nil
  | g :: gs, [], h => by
    have e := h.len
    simp at e
  | g :: gs, x :: xs, h => by
    simp only [List.map_cons, RDs] at h
    obtain ⟨v, r, e, h1, h2⟩ := h
    simp only [List.cons.injEq] at e
    obtain ⟨rfl, rfl⟩ := e
    exact .cons ⟨rfl, h1⟩ (rf_zip h2)
theorem ins_at {a : A} {v : V} {c : Str} {fs : List (Str × A)} (hs : RS C m S H) (h : RA C m H a v) (e : insOf S c a = some fs) : ∃ p dx gs, v = .ref p ∧ H p = some (.ins (C.ca c) dx gs) ∧ RF C m H fs gs := by
  unfold insOf at e
  split at e
  · split at e
    · rename_i ks xs hc
      cases e
      subst hc
      obtain ⟨p, dx, gs, rfl, h1, _, h2, h3⟩ := h.ob
      subst h2
      exact ⟨p, dx, gs, rfl, h1, rf_zip h3⟩
    · cases e
  · rename_i n
    split at e
    · rename_i c' fs' hc
      split at e
      · rename_i hcc
        cases e
        subst hcc
        obtain ⟨p, h1, rfl⟩ := h.ref
        obtain ⟨dx, gs, h2, h3⟩ := hs.cell n _ p hc h1
        exact ⟨p, dx, gs, rfl, h2, h3⟩
      · cases e
    · cases e
  · cases e
theorem rf_get {f : Str} : ∀ {fs : List (Str × A)} {gs : List (Str × V)} {a : A}, RF C m H fs gs → fs.lookup f = some a → ∃ v, gs.lookup f = some v ∧ RA C m H a v
  | _, _, _, .nil, e => by cases e
  | (x, b) :: fs, (y, w) :: gs, a, .cons h t, e => by
    obtain ⟨h1, h2⟩ := h
    have h1 : x = y := h1
    subst h1
    rw [List.lookup_cons] at e ⊢
    cases k : (f == x) with
    | true =>
      rw [k] at e
      cases e
      exact ⟨w, rfl, h2⟩
    | false =>
      rw [k] at e
      exact rf_get t e
theorem rf_none {f : Str} : ∀ {fs : List (Str × A)} {gs : List (Str × V)}, RF C m H fs gs → fs.lookup f = none → gs.lookup f = none
  | _, _, .nil, e => rfl
  | (x, b) :: fs, (y, w) :: gs, .cons h t, e => by
    obtain ⟨h1, h2⟩ := h
    have h1 : x = y := h1
    subst h1
    rw [List.lookup_cons] at e ⊢
    cases k : (f == x) with
    | true => rw [k] at e; cases e
    | false =>
      rw [k] at e
      exact rf_none t e
theorem rf_len : ∀ {fs : List (Str × A)} {gs : List (Str × V)}, RF C m H fs gs → fs.length = gs.length
  | _, _, .nil => rfl
  | _, _, .cons h t => by simp [rf_len t]
end
/-! ### a.f -/
def fldP (c f : Str) : A → Store → R A := fun a S => match insOf S c a with
  | some fs => (match fs.lookup f with
    | some x => .ok x S
    | none => .bad)
  | none => .bad
section
variable {c f : Str} {e : Expr} {fa : M A} {pos : Pos}
theorem se_fld (hK : C.K = X.K) (hc : Cls X.K (C.ca c)) (hf : NoAttr X.K (C.ca c) f) (ha : SE C E X e fa) (hb : attributeBase e f X.env (eval e X.env) = eval e X.env := by rfl) : SE C E X (.Attribute e f pos) (una (fldP c f) fa) := by
  refine pe_imp (pe_fld ha hb) fun σ H Q ⟨m, S, ρ, hs, he, w⟩ => ?_
  refine tE_then (g := fun a _ S1 => fldP c f a S1) hs he w fun m1 S1 a x H1 x1 r1 e1 q1 w1 => ?_
  unfold fldP at w1
  split at w1
  · rename_i fs hi
    obtain ⟨p, dx, gs, rfl, h1, h2⟩ := ins_at r1 q1 hi
    split at w1
    · rename_i y hl
      obtain ⟨v, h3, h4⟩ := rf_get h2 hl
      exact ⟨p, _, dx, gs, v, rfl, h1, hc, hf, h3, wp_ok r1 h4 w1⟩
    · exact False.elim w1
  · exact False.elim w1
end
/-! ### properties -/
/-- no exceptions -/
def noX {α : Type} : R α → R α
  | .exc _ _ => .bad
  | r => r
theorem noX_wp {α β : Type} {rel : List Addr → Hp → α → β → Prop} {m : List Addr} {H : Hp} {r : R α} {Q : β → Hp → Prop} {E' : XK} (w : WpG C E rel m H (noX r) Q) : WpG C E' rel m H r Q := by
  cases r with
  | ok a S => exact w
  | exc x S => exact False.elim w
  | bad => exact w
def proP (c : Str) (n : Nat) (F : List A → Store → R A) (das : List A) : A → Store → R A := fun a S => match insOf S c a with
  | some _ => if (a :: das).length = n then noX (F (a :: das) S) else .bad
  | none => .bad
def noE : XK := fun _ _ _ => False
theorem pass_nox : Passes (L2.CX X.prog X.w) X.nox noE := by
  rintro pins σ H s e s' I ⟨_, _, _, _, _, _, _, _, _, _, _, _, h⟩
  exact h
section
variable {c f : Str} {k n : Nat} {p g : Addr} {fd : FuncData} {ps : List Str} {F : List A → Store → R A} {das : List A} {dvs : List V} {ds : List Value} {e : Expr} {fa : M A} {pos : Pos}
theorem se_prop (hK : C.K = X.K) (hc : Cls X.K (C.ca c)) (hp : PropOf X.K (C.ca c) f p g) (G : FnOk X.prog X.w X.K X.mg X.base (L2.CX X.prog X.w) k g fd ps (spF C n F)) (hr : Room (k + 1) X.A) (hb : Binds X.K fd ps ds) (hd : Vals dvs ds) (hda : ∀ m H, RAs C m H das dvs)
    (ha : SE C E X e fa) (hab : attributeBase e f X.env (eval e X.env) = eval e X.env := by rfl) : SE C E X (.Attribute e f pos) (una (proP c n F das) fa) := by
  refine pe_imp (pe_prop (E := noE) ha hc hp G hr hb hd pass_nox hab) fun σ H Q ⟨m, S, ρ, hs, he, w⟩ => ?_
  refine tE_then (g := fun a _ S1 => proP c n F das a S1) hs he w fun m1 S1 a x H1 x1 r1 e1 q1 w1 => ?_
  unfold proP at w1
  split at w1
  · rename_i fs hi
    obtain ⟨p, dx, gs, rfl, h1, h2⟩ := ins_at r1 q1 hi
    split at w1
    · rename_i hl
      exact ⟨p, dx, gs, rfl, h1, sp_of r1 (.cons q1 (hda m1 H1)) hl (noX_wp w1)⟩
    · exact False.elim w1
  · exact False.elim w1
end
/-! ### methods -/
def methM (c mth : Str) (n : Nat) (F : List A → Store → R A) (das : List A) (fo : M A) (fs : M (List A)) : M A := fun ρ S => (fo ρ S).bind fun a S1 => match insOf S1 c a with
  | some gs => (match gs.lookup mth with
    | none => (fs ρ S1).bind fun as S2 => if (a :: (as ++ das)).length = n then F (a :: (as ++ das)) S2 else .bad
    | some _ => .bad)
  | none => .bad
section
variable {c mth : Str} {k n : Nat} {g : Addr} {fd : FuncData} {ps : List Str} {F : List A → Store → R A} {das : List A} {dvs : List V} {ds : List Value} {o e : Expr} {es : List Expr} {fo : M A} {fs : M (List A)} {pos apos : Pos} {pl : Sem Bool}
theorem t_meth {tA' : TA} (hda : ∀ m H, RAs C m H das dvs) (hA : ∀ σ H Q, tA C E fs σ H Q → tA' σ H Q) {σ : L2.St} {H : Hp} {Q : VK} (t : tE C E (methM c mth n F das fo fs) σ H Q) : tMeth (C.ca c) mth (spF C n F) dvs E (tE C E fo) tA' σ H Q := by
  obtain ⟨m, S, ρ, hs, he, w⟩ := t
  refine tE_then (g := fun a ρ S1 => match insOf S1 c a with
    | some gs => (match gs.lookup mth with
      | none => (fs ρ S1).bind fun as S2 => if (a :: (as ++ das)).length = n then F (a :: (as ++ das)) S2 else .bad
      | some _ => .bad)
    | none => .bad) hs he w fun m1 S1 a x H1 x1 r1 e1 q1 w1 => ?_
  split at w1
  · rename_i fs' hi
    obtain ⟨p, dx, gs, rfl, h1, h2⟩ := ins_at r1 q1 hi
    split at w1
    · rename_i hl
      refine ⟨p, dx, gs, rfl, h1, rf_none h2 hl, hA _ _ _ ?_⟩
      refine tA_then (g := fun as _ S2 => if (a :: (as ++ das)).length = n then F (a :: (as ++ das)) S2 else .bad) r1 e1 w1 fun m2 S2 as vs H2 x2 r2 e2 q2 w2 => ?_
      split at w2
      · rename_i hl2
        exact sp_of r2 (.cons (q1.ext x2) (q2.app (hda m2 H2))) hl2 w2
      · exact False.elim w2
    · exact False.elim w1
  · exact False.elim w1
theorem se_meth (hc : Cls X.K (C.ca c)) (hm : Meth X.K (C.ca c) mth g) (G : FnOk X.prog X.w X.K X.mg X.base (L2.CX X.prog X.w) k g fd ps (spF C n F)) (hr : Room k X.A) (hb : Binds X.K fd ps ds) (hd : Vals dvs ds) (hda : ∀ m H, RAs C m H das dvs) (hx : Passes (L2.CX X.prog X.w) X E)
    (ho : SE C E X o fo) (ha : SA C E X (e :: es) fs) (hs : starEach (e :: es) X.env = (false, eval e X.env) :: starEach es X.env := by rfl) (hpl : (backTo pos (starEach es X.env)).any (·.1) = false := by rfl)
    (he : eval (.Call (.Attribute o mth apos) (e :: es) [] pos) X.env = (do let ov ← eval o X.env; standAt apos.atName; let (f, first) ← holding [ov] (getMethod ov mth pl); callWith pos f first (backTo pos (starEach (e :: es) X.env)) (backToKw pos (keywordEach [] X.env))) := by rfl) :
    SE C E X (.Call (.Attribute o mth apos) (e :: es) [] pos) (methM c mth n F das fo fs) :=
  pe_imp (pe_meth ho hc hm G hr hb hd hx ha hs hpl he) fun σ H Q t => t_meth hda (fun _ _ _ h => h) t
theorem se_meth0 (hc : Cls X.K (C.ca c)) (hm : Meth X.K (C.ca c) mth g) (G : FnOk X.prog X.w X.K X.mg X.base (L2.CX X.prog X.w) k g fd ps (spF C n F)) (hr : Room k X.A) (hb : Binds X.K fd ps ds) (hd : Vals dvs ds) (hda : ∀ m H, RAs C m H das dvs) (hx : Passes (L2.CX X.prog X.w) X E)
    (ho : SE C E X o fo)
    (he : eval (.Call (.Attribute o mth apos) [] [] pos) X.env = (do let ov ← eval o X.env; standAt apos.atName; let (f, first) ← holding [ov] (getMethod ov mth pl); callWith pos f first (backTo pos (starEach [] X.env)) (backToKw pos (keywordEach [] X.env))) := by rfl) :
    SE C E X (.Call (.Attribute o mth apos) [] [] pos) (methM c mth n F das fo aNil) :=
  pe_imp (pe_meth0 ho hc hm G hr hb hd hx he) fun σ H Q t => t_meth hda (fun _ H Q ⟨m, S, ρ, hs, he, w⟩ => wpL hs .nil w) t
end
/-! ### a new instance -/
def makeE (keep : Bool) (n0 : Nat) (r : A) (S : Store) : R A := match r with
  | .d .non => retA keep n0 (.ref n0) S
  | _ => .bad
def makeM (keep : Bool) (c : Str) (n : Nat) (F : List A → Store → R A) (das : List A) (fs : M (List A)) : M A := fun ρ S => (fs ρ S).bind fun as S1 =>
  if (A.ref S1.length :: (as ++ das)).length = n then (F (A.ref S1.length :: (as ++ das)) (S1 ++ [.ins c []])).bind (makeE keep S1.length) else .bad
section
variable {c x : Str} {k n : Nat} {g : Addr} {fd : FuncData} {ps : List Str} {F : List A → Store → R A} {das : List A} {dvs : List V} {ds : List Value} {e : Expr} {es : List Expr} {fs : M (List A)} {pos p : Pos}
theorem t_make (keep : Bool) (hda : ∀ m H, RAs C m H das dvs) {σ : L2.St} {H : Hp} {Q : VK} (t : tE C E (makeM keep c n F das fs) σ H Q) : tMake (C.ca c) (spF C n F) dvs E (tA C E fs) σ H Q := by
  obtain ⟨m, S, ρ, hs, he, w⟩ := t
  refine tA_then (g := fun as _ S1 => if (A.ref S1.length :: (as ++ das)).length = n then (F (A.ref S1.length :: (as ++ das)) (S1 ++ [.ins c []])).bind (makeE keep S1.length) else .bad) hs he w fun m1 S1 as vs H1 x1 r1 e1 q1 w1 => ?_
  intro a dx ha hdx hne
  split at w1
  · rename_i hl
    have y1 := Ext.new r1 (o := .own a) hdx
    have z1 := r1.new (o := .own a) hdx
    have ha2 : upd H1 dx (.own a) a = none := by rw [upd_ne (Ne.symm hne)]; exact ha
    have y2 := Ext.cell z1 (o := .ins (C.ca c) dx []) ha2
    have z2 := z1.more (c := .ins c []) (o := .ins (C.ca c) dx []) ha2 ⟨dx, [], upd_same, .nil⟩
    have yy := y1.trans y2
    have hat : (m1 ++ [a])[S1.length]? = some a := by
      rw [← r1.len, List.getElem?_append_right (Nat.le_refl _), Nat.sub_self]; rfl
    refine sp_of z2 (.cons (show RA C (m1 ++ [a]) _ (.ref S1.length) (.ref a) from ⟨a, hat, rfl⟩) ((q1.ext yy).app (hda _ _))) hl ?_
    cases hB : F (A.ref S1.length :: (as ++ das)) (S1 ++ [.ins c []]) with
    | bad => rw [hB] at w1; exact False.elim w1
    | exc x S2 => rw [hB] at w1; exact WpX.ext yy w1
    | ok r S2 =>
      rw [hB] at w1
      simp only [RS.R.bind] at w1
      intro m3 H3 v x3 r3 q3
      unfold makeE at w1
      split at w1
      · exact ⟨q3.non, ret_of (keep := keep) (a := .ref S1.length) r1 (yy.trans x3) r3 (show RA C m3 H3 (.ref S1.length) (.ref a) from ⟨a, x3.at_ hat, rfl⟩) w1⟩
      · exact False.elim w1
  · exact False.elim w1
theorem se_make (keep : Bool) (M : Mk X.K (C.ca c) g) (G : FnOk X.prog X.w X.K X.mg X.base (L2.CX X.prog X.w) k g fd ps (spF C n F)) (hr : Room (k + 1) X.A) (hg : Gl X x) (hm : X.mg x = some (.ref (C.ca c))) (hb : Binds X.K fd ps ds) (hd : Vals dvs ds) (hda : ∀ m H, RAs C m H das dvs) (hx : Passes (L2.CX X.prog X.w) X E)
    (ha : SA C E X (e :: es) fs) (hdb : (x == ("__debug__" : Str)) = false := by decide) (hs : starEach (e :: es) X.env = (false, eval e X.env) :: starEach es X.env := by rfl) (hpl : (backTo pos (starEach es X.env)).any (·.1) = false := by rfl) :
    SE C E X (.Call (.Name x p) (e :: es) [] pos) (makeM keep c n F das fs) :=
  pe_imp (pe_make M G hr hg hm hb hd hx ha hdb hs hpl) fun σ H Q t => t_make keep hda t
end
end RS
end

section
set_option maxRecDepth 100000
set_option maxHeartbeats 4000000
/-! What changes: attributes stored, lists' methods, items stored, two names at once; isinstance. -/
namespace RS
open PySem PySem.Spec PyProof.Rows L2
variable {C : Cc} {E : XK} {X : Cx}

/-! ### self.f = e -/
def putA (f : Str) (v : A) : List (Str × A) → List (Str × A)
  | [] => [(f, v)]
  | (g, x) :: r => if g = f then (g, v) :: r else (g, x) :: putA f v r
theorem rf_put {m : List Addr} {H : Hp} {f : Str} {a : A} {v : V} (h : RA C m H a v) : ∀ {fs : List (Str × A)} {gs : List (Str × V)}, RF C m H fs gs → RF C m H (putA f a fs) (putF f v gs)
  | _, _, .nil => .cons ⟨rfl, h⟩ .nil
  | (x, b) :: fs, (y, w) :: gs, .cons q t => by
    obtain ⟨q1, q2⟩ := q
    have q1 : x = y := q1
    subst q1
    rw [putF.eq_2]
    unfold putA
    split
    · exact .cons ⟨rfl, h⟩ t
    · exact .cons ⟨rfl, q2⟩ (rf_put h t)
def putP (c f : Str) (v a : A) (S : Store) : R Store := match a with
  | .ref n => (match S[n]? with
    | some (.ins c' fs) => if c' = c ∧ fs.length < 1000 then .ok S (S.set n (.ins c (putA f v fs))) else .bad
    | _ => .bad)
  | _ => .bad
def sFldM (c f : Str) (fv fo : M A) : M Fl := fun ρ S => (fv ρ S).bind fun v S1 => (fo ρ S1).bind fun a S2 => (putP c f v a S2).bind fun _ S3 => .ok (.nx ρ) S3
theorem ss_fld {c f : Str} {o value : Expr} {fv fo : M A} {pos pos' : Pos} (hK : C.K = X.K) (hc : Cls X.K (C.ca c)) (hf : NoAttr X.K (C.ca c) f) (ho : SE C E X o fo) (hv : SE C E X value fv) (hs : swapsWith value (some (o.Attribute f pos')) pos.line X.env = pure false := by rfl) :
    SS C E X (.Assign [.Attribute o f pos'] value pos) (sFldM c f fv fo) := by
  refine ps_imp (ps_fld ho hv hs) fun Dn σ H ⟨m, S, ρ, hs, he, w⟩ => ?_
  refine tE_then (g := fun v ρ S1 => (fo ρ S1).bind fun a S2 => (putP c f v a S2).bind fun _ S3 => (.ok (Fl.nx ρ) S3 : RS.R Fl)) hs he w fun m1 S1 v x H1 x1 r1 e1 q1 w1 => ?_
  refine tE_then (g := fun a ρ S2 => (putP c f v a S2).bind fun _ S3 => (.ok (Fl.nx ρ) S3 : RS.R Fl)) r1 e1 w1 fun m2 S2 a y H2 x2 r2 e2 q2 w2 => ?_
  unfold putP at w2
  split at w2
  · rename_i n
    split at w2
    · rename_i c' fs hcell
      split at w2
      · rename_i hcl
        obtain ⟨rfl, hlen⟩ := hcl
        obtain ⟨p, h1, rfl⟩ := q2.ref
        obtain ⟨dx, gs, h2, h3⟩ := r2.cell n _ p hcell h1
        refine ⟨p, _, dx, gs, rfl, h2, hc, hf, by rw [← rf_len h3]; exact hlen, ?_⟩
        have xp := Ext.put r2 (o := .ins (C.ca c') dx (putF f x gs)) h1
        have rp := r2.put (c := .ins c' (putA f v fs)) h1 ⟨dx, putF f x gs, upd_same, rf_put ((q1.ext x2).ext xp) (RF.ext xp h3)⟩
        exact wp_nx rp (e2.ext xp) (WpG.ext xp w2)
      · exact False.elim w2
    · exact False.elim w2
  · exact False.elim w2
/-! ### lists' methods -/
def mthM (p : A → List A → Store → R A) (fo : M A) (fs : M (List A)) : M A := fun ρ S => (fo ρ S).bind fun a S1 => match lstOf S1 a with
  | some _ => (fs ρ S1).bind fun as S2 => p a as S2
  | none => .bad
def Mth (C : Cc) (E : XK) (r : V → List V → Hp → VK → Prop) (p : A → List A → Store → R A) : Prop :=
  ∀ m S H a x as vs Q, RS C m S H → RA C m H a x → RAs C m H as vs → WpG C E (RA C) m H (p a as S) Q → r x vs H Q
theorem t_mth {r : V → List V → Hp → VK → Prop} {p : A → List A → Store → R A} {fo : M A} {fs : M (List A)} (hK : C.K = X.K) (hp : Mth C E r p) {tA' : TA} (hA : ∀ σ H Q, tA C E fs σ H Q → tA' σ H Q) {σ : L2.St} {H : Hp} {Q : VK} (t : tE C E (mthM p fo fs) σ H Q) : tBM X.K "list" r (tE C E fo) tA' σ H Q := by
  obtain ⟨m, S, ρ, hs, he, w⟩ := t
  refine tE_then (g := fun a ρ S1 => match lstOf S1 a with
    | some _ => (fs ρ S1).bind fun as S2 => p a as S2
    | none => .bad) hs he w fun m1 S1 a x H1 x1 r1 e1 q1 w1 => ?_
  split at w1
  · rename_i ds hl
    obtain ⟨b, vs, rfl, h1, h2⟩ := lst_at r1 q1 hl
    refine ⟨.inl ⟨rfl, vs, hK ▸ h1⟩, hA _ _ _ ?_⟩
    exact tA_then (g := fun as _ S2 => p a as S2) r1 e1 w1 fun m2 S2 as us H2 x2 r2 e2 q2 w2 => hp m2 S2 H2 a _ as us Q r2 (q1.ext x2) q2 w2
  · exact False.elim w1
/-- append, extend, pop -/
def appP : A → List A → Store → R A := fun a as S => match a, as with
  | .ref n, [.d y] => (match S[n]? with
    | some (.lst ds) => if ds.length < sizeLine then .ok (.d .non) (S.set n (.lst (ds ++ [y]))) else .bad
    | _ => .bad)
  | _, _ => .bad
theorem wp_put {m : List Addr} {S : Store} {H : Hp} {n : Nat} {p : Addr} {ds : List D} {vs : List V} {a : A} {v : V} {Q : VK} (hs : RS C m S H) (h1 : m[n]? = some p) (h2 : RDs C m H ds vs) (ha : RA C m H a v) (w : WpG C E (RA C) m H (.ok a (S.set n (.lst ds))) Q) : Q v (upd H p (.lst vs)) := by
  have xp := Ext.put hs (o := .lst vs) h1
  exact w m _ v xp (hs.put (c := .lst ds) h1 ⟨vs, upd_same, h2.ext xp⟩) (ha.ext xp)
theorem m_app : Mth C E rAppend appP := by
  intro m S H a x as vs Q hs ha has w
  unfold appP at w
  split at w
  · rename_i n y
    obtain ⟨v, rfl, hv⟩ := ras1 has
    obtain ⟨p, h1, rfl⟩ := ha.ref
    split at w
    · rename_i ds hc
      obtain ⟨us, h2, h3⟩ := hs.cell n _ p hc h1
      split at w
      · rename_i hl
        exact ⟨p, us, v, rfl, rfl, h2, by rw [← h3.len]; exact hl, wp_put hs h1 (h3.append (RDs.cons hv RDs.nil)) RA.mkNon w⟩
      · exact False.elim w
    · exact False.elim w
  · exact False.elim w
/-- a list that is no def's own: its content -/
def lsT (S : Store) : A → Option (List D)
  | .d (.fl ds) => some ds
  | .ref n => (match S[n]? with
    | some (.lst ds) => some ds
    | _ => none)
  | _ => none
theorem lsT_at {m : List Addr} {H : Hp} {S : Store} {a : A} {v : V} {ds : List D} (hs : RS C m S H) (h : RA C m H a v) (e : lsT S a = some ds) : ∃ p vs, v = .ref p ∧ H p = some (.lst vs) ∧ RDs C m H ds vs := by
  unfold lsT at e
  split at e
  · cases e
    obtain ⟨p, vs, rfl, h1, _, h2⟩ := h.fl
    exact ⟨p, vs, rfl, h1, h2⟩
  · rename_i n
    split at e
    · rename_i es hc
      cases e
      obtain ⟨p, h1, rfl⟩ := h.ref
      obtain ⟨vs, h2, h3⟩ := hs.cell n _ p hc h1
      exact ⟨p, vs, rfl, h2, h3⟩
    · cases e
  · cases e
def extP : A → List A → Store → R A := fun a as S => match a, as with
  | .ref n, [b] => (match S[n]?, lsT S b with
    | some (.lst ds), some es => if ds.length + es.length ≤ sizeLine then .ok (.d .non) (S.set n (.lst (ds ++ es))) else .bad
    | _, _ => .bad)
  | _, _ => .bad
theorem m_ext : Mth C E rExtend extP := by
  intro m S H a x as vs Q hs ha has w
  unfold extP at w
  split at w
  · rename_i n b
    obtain ⟨v, rfl, hv⟩ := ras1 has
    obtain ⟨p, h1, rfl⟩ := ha.ref
    split at w
    · rename_i ds es hc hb
      obtain ⟨us, h2, h3⟩ := hs.cell n _ p hc h1
      obtain ⟨q, ws, rfl, h4, h5⟩ := lsT_at hs hv hb
      split at w
      · rename_i hl
        exact ⟨p, q, us, ws, rfl, rfl, h2, h4, by rw [← h3.len, ← h5.len]; exact hl, wp_put hs h1 (h3.append h5) RA.mkNon w⟩
      · exact False.elim w
    · exact False.elim w
  · exact False.elim w
def popP : A → List A → Store → R A := fun a as S => match a, as with
  | .ref n, [] => (match S[n]? with
    | some (.lst ds) => (match ds[ds.length - 1]? with
      | some d => .ok (.d d) (S.set n (.lst ds.dropLast))
      | none => .bad)
    | _ => .bad)
  | _, _ => .bad
theorem RDs.dropLast {m : List Addr} {H : Hp} {ds : List D} {vs : List V} (h : RDs C m H ds vs) : RDs C m H ds.dropLast vs.dropLast := by
  rw [List.dropLast_eq_take, List.dropLast_eq_take, ← h.len]
  exact h.take _
theorem m_pop : Mth C E rPop popP := by
  intro m S H a x as vs Q hs ha has w
  unfold popP at w
  split at w
  · rename_i n
    cases has
    obtain ⟨p, h1, rfl⟩ := ha.ref
    split at w
    · rename_i ds hc
      obtain ⟨us, h2, h3⟩ := hs.cell n _ p hc h1
      split at w
      · rename_i d hd
        obtain ⟨v, h4, h5⟩ := h3.get hd
        exact ⟨p, us, v, rfl, rfl, h2, by rw [← h3.len]; exact h4, wp_put hs h1 h3.dropLast (a := .d d) h5 w⟩
      · exact False.elim w
    · exact False.elim w
  · exact False.elim w
def popAt : A → List A → Store → R A := fun a as S => match a, as with
  | .ref n, [.d (.int i)] => (match S[n]? with
    | some (.lst ds) => if -(2 ^ 63) ≤ i ∧ i < 2 ^ 63 then (match seqIndex? i ds.length with
      | some k => (match ds[k]? with
        | some d => .ok (.d d) (S.set n (.lst (ds.eraseIdx k)))
        | none => .bad)
      | none => .bad) else .bad
    | _ => .bad)
  | _, _ => .bad
theorem m_popAt : Mth C E rPopAt popAt := by
  intro m S H a x as vs Q hs ha has w
  unfold popAt at w
  split at w
  · rename_i n i
    obtain ⟨v, rfl, hv⟩ := ras1 has
    cases hv.int
    obtain ⟨p, h1, rfl⟩ := ha.ref
    split at w
    · rename_i ds hc
      obtain ⟨us, h2, h3⟩ := hs.cell n _ p hc h1
      split at w
      · rename_i hi
        split at w
        · rename_i k hk
          split at w
          · rename_i d hd
            obtain ⟨v, h4, h5⟩ := h3.get hd
            exact ⟨p, us, i, k, v, rfl, rfl, h2, hi.1, hi.2, by rw [← h3.len]; exact hk, h4, wp_put hs h1 (h3.eraseIdx k) (a := .d d) h5 w⟩
          · exact False.elim w
        · exact False.elim w
      · exact False.elim w
    · exact False.elim w
  · exact False.elim w
section
variable {o e : Expr} {fo fe : M A} {apos cpos : Pos}
theorem se_mth {name : Str} {id : String} {r : V → List V → Hp → VK → Prop} {p : A → List A → Store → R A} (hK : C.K = X.K) (slot : Slot "list" name id) (hty : typeOf (.builtin id) = pure (.type "method_descriptor")) (hm : MtR X id r) (hp : Mth C E r p) (ho : SE C E X o fo) (he : SE C E X e fe)
    (h1 : attributeBase o name X.env (eval o X.env) = eval o X.env := by rfl)
    (h2 : (((backTo cpos (starEach [e] X.env)).all fun x => !x.1) && (backToKw cpos (keywordEach [] X.env)).all (fun x => x.1.isSome) && decide (([e].length + ([] : List Keyword).length + if ([] : List Keyword).isEmpty then 0 else 1) < 30)) = true := by rfl)
    (h3 : (apos.endLine == cpos.line) = true := by rfl)
    (h4 : starEach [e] X.env = (false, eval e X.env) :: starEach [] X.env := by rfl) (h6 : starEach [e] X.env = [(false, eval e X.env)] := by rfl) (h5 : (backTo cpos (starEach [] X.env)).any (·.1) = false := by rfl) :
    SE C E X (.Call (.Attribute o name apos) [e] [] cpos) (mthM p fo (aCons fe aNil)) :=
  pe_imp (pe_bm PySem.F.plainAttrs_list slot hty hm ho (sa_cons he sa_nil h4) h1 h2 h3 h4 h5) fun σ H Q t => t_mth hK hp (fun _ _ _ h => h) t
theorem se_append (hK : C.K = X.K) (ho : SE C E X o fo) (he : SE C E X e fe)
    (h1 : attributeBase o "append" X.env (eval o X.env) = eval o X.env := by rfl)
    (h2 : (((backTo cpos (starEach [e] X.env)).all fun x => !x.1) && (backToKw cpos (keywordEach [] X.env)).all (fun x => x.1.isSome) && decide (([e].length + ([] : List Keyword).length + if ([] : List Keyword).isEmpty then 0 else 1) < 30)) = true := by rfl)
    (h3 : (apos.endLine == cpos.line) = true := by rfl)
    (h4 : starEach [e] X.env = (false, eval e X.env) :: starEach [] X.env := by rfl) (h6 : starEach [e] X.env = [(false, eval e X.env)] := by rfl) (h5 : (backTo cpos (starEach [] X.env)).any (·.1) = false := by rfl) :
    SE C E X (.Call (.Attribute o "append" apos) [e] [] cpos) (mthM appP fo (aCons fe aNil)) :=
  se_mth hK PySem.F.slot_list_append PySem.F.type_list_append mt_append m_app ho he h1 h2 h3 h4 h6 h5
theorem se_extend (hK : C.K = X.K) (ho : SE C E X o fo) (he : SE C E X e fe)
    (h1 : attributeBase o "extend" X.env (eval o X.env) = eval o X.env := by rfl)
    (h2 : (((backTo cpos (starEach [e] X.env)).all fun x => !x.1) && (backToKw cpos (keywordEach [] X.env)).all (fun x => x.1.isSome) && decide (([e].length + ([] : List Keyword).length + if ([] : List Keyword).isEmpty then 0 else 1) < 30)) = true := by rfl)
    (h3 : (apos.endLine == cpos.line) = true := by rfl)
    (h4 : starEach [e] X.env = (false, eval e X.env) :: starEach [] X.env := by rfl) (h6 : starEach [e] X.env = [(false, eval e X.env)] := by rfl) (h5 : (backTo cpos (starEach [] X.env)).any (·.1) = false := by rfl) :
    SE C E X (.Call (.Attribute o "extend" apos) [e] [] cpos) (mthM extP fo (aCons fe aNil)) :=
  se_mth hK PySem.F.slot_list_extend PySem.F.type_list_extend mt_extend m_ext ho he h1 h2 h3 h4 h6 h5
theorem se_popAt (hK : C.K = X.K) (ho : SE C E X o fo) (he : SE C E X e fe)
    (h1 : attributeBase o "pop" X.env (eval o X.env) = eval o X.env := by rfl)
    (h2 : (((backTo cpos (starEach [e] X.env)).all fun x => !x.1) && (backToKw cpos (keywordEach [] X.env)).all (fun x => x.1.isSome) && decide (([e].length + ([] : List Keyword).length + if ([] : List Keyword).isEmpty then 0 else 1) < 30)) = true := by rfl)
    (h3 : (apos.endLine == cpos.line) = true := by rfl)
    (h4 : starEach [e] X.env = (false, eval e X.env) :: starEach [] X.env := by rfl) (h6 : starEach [e] X.env = [(false, eval e X.env)] := by rfl) (h5 : (backTo cpos (starEach [] X.env)).any (·.1) = false := by rfl) :
    SE C E X (.Call (.Attribute o "pop" apos) [e] [] cpos) (mthM popAt fo (aCons fe aNil)) :=
  se_mth hK PySem.F.slot_list_pop PySem.F.type_list_pop mt_popAt m_popAt ho he h1 h2 h3 h4 h6 h5
end
/-! ### xs[i] = e -/
def ixSt (v a b : A) : M Env := fun ρ S2 => match a, b, v with
  | .ref n, .d (.int k), .d y => (match S2[n]? with
    | some (.lst ds) => (match ixN ds.length k with
      | some j => .ok ρ (S2.set n (.lst (ds.set j y)))
      | none => .bad)
    | _ => .bad)
  | _, _, _ => .bad
def gIx (fo fi : M A) : A → M Env := fun v ρ S => (fo ρ S).bind fun a S1 => (fi ρ S1).bind fun b S2 => ixSt v a b ρ S2
theorem sg_ix {o i : Expr} {fo fi : M A} {pos : Pos} (ho : SE C E X o fo) (hi : SE C E X i fi) (h : ∀ (v : Value), assign (o.Subscript i pos) X.env v = (do let ov ← holding [v] (eval o X.env); let iv ← holding [v, ov] (eval i X.env); standAt pos; holding [v, ov, iv] (setItem ov iv v); release [v, ov, iv] []) := by intro v; rfl) : SG C E X (.Subscript o i pos) (gIx fo fi) := by
  refine pg_imp (pg_sub ho hi set_list h) fun v σ H Q ⟨m, S, ρ, y, hs, he, hy, w⟩ => ?_
  refine tE_then (rel2 := fun m' H' ρ' σ' => RE C m' H' ρ' σ') (g := fun a ρ S1 => (fi ρ S1).bind fun b S2 => ixSt y a b ρ S2) hs he w fun m1 S1 a x H1 x1 r1 e1 q1 w1 => ?_
  refine tE_then (rel2 := fun m' H' ρ' σ' => RE C m' H' ρ' σ') (g := fun b ρ S2 => ixSt y a b ρ S2) r1 e1 w1 fun m2 S2 b z H2 x2 r2 e2 q2 w2 => ?_
  unfold ixSt at w2
  split at w2
  · rename_i n k d
    cases q2.int
    obtain ⟨p, h1, rfl⟩ := (q1.ext x2).ref
    split at w2
    · rename_i ds hc
      obtain ⟨us, h2, h3⟩ := r2.cell n _ p hc h1
      split at w2
      · rename_i j hj
        have hd : RD C m2 H2 d v := (hy.ext x1).ext x2
        have xp := Ext.put r2 (o := .lst (us.set j v)) h1
        refine ⟨p, us, k, j, rfl, rfl, h2, by rw [← h3.len]; exact hj, ?_⟩
        exact wpE (r2.put (c := .lst (ds.set j d)) h1 ⟨us.set j v, upd_same, (RDs.set hd j h3).ext xp⟩) (e2.ext xp) (WpG.ext xp w2)
      · exact False.elim w2
    · exact False.elim w2
  · exact False.elim w2
/-! ### a, b = e, f -/
def sPar (i j : Nat) (f : M (List A)) : M Fl := fun ρ S => (f ρ S).bind fun as S1 => match as with
  | [a, b] => .ok (.nx ((ρ.set i (some a)).set j (some b))) S1
  | _ => .bad
theorem ss_par {i j : Nat} {x y : Str} {a b : Expr} {f : M (List A)} {pos px py pt pt2 : Pos} {kt k2 : Nat} (hc : X.calm = true) (hN : X.N.Nodup) (hi : X.N[i]? = some x) (hj : X.N[j]? = some y) (hij : i ≠ j) (hx : X.env.scope.names.lookup x = some .local) (hy : X.env.scope.names.lookup y = some .local) (ha : SA C E X [a, b] f)
    (hw : swappedStores [.Tuple [.Name x px, .Name y py] kt pt] (.Tuple [a, b] k2 pt2) X.env = pure (some [x, y]))
    (hs : swapsWithSole [.Tuple [.Name x px, .Name y py] kt pt] (.Tuple [a, b] k2 pt2) pos.line X.env = pure false := by rfl) :
    SS C E X (.Assign [.Tuple [.Name x px, .Name y py] kt pt] (.Tuple [a, b] k2 pt2) pos) (sPar i j f) := by
  refine ps_imp (ps_par hc hN hi hj hij hx hy ha hw hs) fun Dn σ H ⟨m, S, ρ, hs, he, w⟩ => ?_
  refine tA_then (g := fun as ρ S1 => match as with
    | [a, b] => (.ok (.nx ((ρ.set i (some a)).set j (some b))) S1 : RS.R Fl)
    | _ => .bad) hs he w fun m1 S1 as vs H1 x1 r1 e1 q1 w1 => ?_
  split at w1
  · obtain ⟨v, u, rfl, h1, h2⟩ := ras2 q1
    exact ⟨v, u, rfl, wp_nx r1 ((e1.set i h1).set j h2) w1⟩
  · exact False.elim w1
def sPar3 (i j l : Nat) (f : M (List A)) : M Fl := fun ρ S => (f ρ S).bind fun as S1 => match as with
  | [a, b, c] => .ok (.nx (((ρ.set i (some a)).set j (some b)).set l (some c))) S1
  | _ => .bad
theorem ss_par3 {i j l : Nat} {x y z : Str} {a b c : Expr} {f : M (List A)} {pos px py pz pt pt2 : Pos} {kt k2 : Nat} (hc : X.calm = true) (hN : X.N.Nodup) (hi : X.N[i]? = some x) (hj : X.N[j]? = some y) (hl : X.N[l]? = some z) (hij : i ≠ j) (hil : i ≠ l) (hjl : j ≠ l)
    (hx : X.env.scope.names.lookup x = some .local) (hy : X.env.scope.names.lookup y = some .local) (hz : X.env.scope.names.lookup z = some .local) (ha : SA C E X [a, b, c] f)
    (hw : swappedStores [.Tuple [.Name x px, .Name y py, .Name z pz] kt pt] (.Tuple [a, b, c] k2 pt2) X.env = pure (some [x, y, z]))
    (hs : swapsWithSole [.Tuple [.Name x px, .Name y py, .Name z pz] kt pt] (.Tuple [a, b, c] k2 pt2) pos.line X.env = pure false := by rfl) :
    SS C E X (.Assign [.Tuple [.Name x px, .Name y py, .Name z pz] kt pt] (.Tuple [a, b, c] k2 pt2) pos) (sPar3 i j l f) := by
  refine ps_imp (ps_par3 hc hN hi hj hl hij hil hjl hx hy hz ha hw hs) fun Dn σ H ⟨m, S, ρ, hs, he, w⟩ => ?_
  refine tA_then (g := fun as ρ S1 => match as with
    | [a, b, c] => (.ok (.nx (((ρ.set i (some a)).set j (some b)).set l (some c))) S1 : RS.R Fl)
    | _ => .bad) hs he w fun m1 S1 as vs H1 x1 r1 e1 q1 w1 => ?_
  split at w1
  · cases q1 with
    | cons h1 t =>
      obtain ⟨v, u, rfl, h2, h3⟩ := ras2 t
      exact ⟨_, v, u, rfl, wp_nx r1 (((e1.set i h1).set j h2).set l h3) w1⟩
  · exact False.elim w1
end RS
end

section
set_option maxRecDepth 100000
set_option maxHeartbeats 4000000
/-! isinstance, *xs in displays, xs * k. -/
namespace RS
open PySem PySem.Spec PyProof.Rows L2
variable {C : Cc} {E : XK} {X : Cx}

/-! ### isinstance -/
/-- what an object's class must tell to be asked for -/
structure ClsI (K : Fr) (c : Addr) : Prop where
  cl : Cls K c
  at_ : PySem.W.findIn K (.ref c) "__class__" = some (some (.builtin "object.__class__"))
  gt : PySem.W.specialIn K (.builtin "object.__class__") "__get__" = some (some (.builtin "getset_descriptor.__get__"))
  tk : PySem.W.takesIn K (.builtin "object.__class__") = some true
  mr : PySem.W.mroIn K c (.type "object") = some true
/-- the kind of a value: a built-in type's name or an own class's -/
inductive Kn where
  | ty (T : String) | own (c : Str)
  deriving DecidableEq
def kindA (S : Store) : A → Option Kn
  | .d (.ob c _ _) => some (.own c)
  | .ref n => (match S[n]? with
    | some (.lst _) => some (.ty "list")
    | some (.ins c _) => some (.own c)
    | none => none)
  | a => (tyA S a).map .ty
def Kn.v (C : Cc) : Kn → Value
  | .ty T => .type T
  | .own c => .ref (C.ca c)
theorem kindA_of {m : List Addr} {H : Hp} {S : Store} {a : A} {v : V} {k : Kn} {os : List Str} (hos : ∀ c ∈ os, ClsI C.K (C.ca c)) (hs : RS C m S H) (h : RA C m H a v) (e : kindA S a = some k) (hk : ∀ c, k = .own c → c ∈ os) : TyX C.K H v (k.v C) := by
  have own : ∀ (c : Str) (p dx : Addr) (fs : List (Str × V)), H p = some (.ins (C.ca c) dx fs) → c ∈ os → TyX C.K H (.ref p) (.ref (C.ca c)) := fun c p dx fs h1 h2 => by
    have z := hos c h2
    exact .base (.ins h1 z.cl z.at_ z.gt z.tk z.mr)
  have ty : ∀ T, (tyA S a).map Kn.ty = some k → k = .ty T ∨ True := fun _ _ => .inr trivial
  have plain : (tyA S a).map Kn.ty = some k → TyX C.K H v (k.v C) := fun e => by
    rw [Option.map_eq_some_iff] at e
    obtain ⟨T, e1, rfl⟩ := e
    exact tyA_of hs h e1
  cases a with
  | fnc k cs => cases e
  | ref n =>
    obtain ⟨p, h1, rfl⟩ := h.ref
    simp only [kindA] at e
    split at e
    · rename_i ds hc
      cases e
      obtain ⟨vs, h2, _⟩ := hs.cell n _ p hc h1
      exact .base (.lst h2)
    · rename_i c fs hc
      cases e
      obtain ⟨dx, gs, h2, _⟩ := hs.cell n _ p hc h1
      exact own c p dx gs h2 (hk c rfl)
    · cases e
  | d x =>
    cases x with
    | ob c ks xs =>
      cases e
      obtain ⟨p, dx, fs, rfl, h1, _⟩ := h.ob
      exact own c p dx fs h1 (hk c rfl)
    | non => exact plain e
    | bl b => exact plain e
    | int b => exact plain e
    | str b => exact plain e
    | tup b => exact plain e
    | fl b => exact plain e
    | rl b => exact plain e
    | fn b => exact plain e
    | tq b => exact plain e
theorem look_mem {k : Kn} {b : Bool} : ∀ {tb : List (Kn × Bool)}, tb.lookup k = some b → (k, b) ∈ tb
  | (k2, b2) :: r, hb => by
    rw [List.lookup_cons] at hb
    cases hkk : (k == k2) with
    | true =>
      rw [hkk] at hb
      have e1 : k = k2 := by simpa using hkk
      cases hb
      subst e1
      exact List.mem_cons_self
    | false =>
      rw [hkk] at hb
      exact List.mem_cons_of_mem _ (look_mem hb)
/-- tb: a table of answers for the kinds that may come -/
def isiP (tb : List (Kn × Bool)) : A → Store → R A := fun a S => match kindA S a with
  | some k => (match tb.lookup k with
    | some b => .ok (.d (.bl b)) S
    | none => .bad)
  | none => .bad
theorem se_isi {tb : List (Kn × Bool)} {os : List Str} {e t : Expr} {f : M A} {p pos : Pos} {cv : V} {cu : Value} (hK : C.K = X.K) (hos : ∀ c ∈ os, ClsI C.K (C.ca c)) (htb : ∀ q ∈ tb, PySem.W.kitOne C.K (q.1.v C) cu = some q.2 ∧ ∀ c, q.1 = .own c → c ∈ os)
    (hg : Gl X "isinstance") (hm : X.mg "isinstance" = none) (ha : SE C E X e f) (ht : PE X t (tC cv)) (hcv : ClsV cv cu)
    (h1 : starEach [e, t] X.env = (false, eval e X.env) :: starEach [t] X.env := by rfl) (h2 : starEach [t] X.env = (false, eval t X.env) :: starEach [] X.env := by rfl) (hpl : (backTo pos (starEach [t] X.env)).any (·.1) = false := by rfl) :
    SE C E X (.Call (.Name "isinstance" p) [e, t] [] pos) (una (isiP tb) f) := by
  refine pe_imp (pe_callB call_isi hg hm rfl (pa_cons ha (pa_cons ht pa_nil h2) h1) (by decide) (by decide) h1 hpl) fun σ H Q ⟨m, S, ρ, hs, he, w⟩ => ?_
  refine tE_then (g := fun a _ S1 => isiP tb a S1) hs he w fun m1 S1 a x H1 x1 r1 e1 q1 w1 => ?_
  unfold isiP at w1
  split at w1
  · rename_i k hk
    split at w1
    · rename_i b hb
      have hin := look_mem hb
      obtain ⟨z1, z2⟩ := htb _ hin
      exact ⟨x, cv, _, cu, b, rfl, hcv, hK ▸ kindA_of hos r1 q1 hk z2, hK ▸ z1, wp_ok r1 (RA.mkBl _) w1⟩
    · exact False.elim w1
  · exact False.elim w1
/-! ### *xs -/
def aStar (f : M A) (g : M (List A)) : M (List A) := fun ρ S => (f ρ S).bind fun a S1 => match seqOf S1 a with
  | some ds => (g ρ S1).bind fun as S2 => .ok (ds.map A.d ++ as) S2
  | none => .bad
theorem sa_star {e : Expr} {es : List Expr} {f : M A} {g : M (List A)} {p : Pos} (hK : C.K = X.K) (ha : SE C E X e f) (hr : SA C E X es g) : SA C E X (.Starred e p :: es) (aStar f g) := by
  refine pa_imp (StX.pa_star ha hr) fun σ H Q ⟨m, S, ρ, hs, he, w⟩ => ?_
  refine tE_then (g := fun a ρ S1 => match seqOf S1 a with
    | some ds => (g ρ S1).bind fun as S2 => .ok (ds.map A.d ++ as) S2
    | none => .bad) hs he w fun m1 S1 a x H1 x1 r1 e1 q1 w1 => ?_
  split at w1
  · rename_i ds hd
    obtain ⟨b, vs, rfl, h1, h2⟩ := seq_at r1 q1 hd
    refine ⟨b, vs, rfl, hK ▸ h1.symm, ?_⟩
    exact tA_then (g := fun as ρ S2 => .ok (ds.map A.d ++ as) S2) r1 e1 w1 fun m2 S2 as us H2 x2 r2 e2 q2 w2 => wpL r2 ((RDs.as (h2.ext x2)).app q2) w2
  · exact False.elim w1
/-! ### xs * k -/
def repP : A → A → Store → R A := fun a b S => match b with
  | .d (.int k) => (match lsT S a with
    | some ds => if -(2 ^ 63) ≤ k ∧ k < 2 ^ 63 ∧ ds.length * k.toNat ≤ sizeLine then .ok (.d (.fl (List.replicate k.toNat ds).flatten)) S else .bad
    | none => .bad)
  | _ => .bad
theorem b_rep : Bin2 C E rRep repP := by
  intro m S H a b x y Q hs ha hb w
  unfold repP at w
  split at w
  · rename_i k
    cases hb.int
    split at w
    · rename_i ds hd
      obtain ⟨p, vs, rfl, h1, h2⟩ := lsT_at hs ha hd
      split at w
      · rename_i hl
        exact ⟨p, k, vs, rfl, rfl, h1, hl.1, hl.2.1, by rw [← h2.len]; exact hl.2.2, fl_new hs (h2.rep _) w⟩
      · exact False.elim w
    · exact False.elim w
  · exact False.elim w
theorem se_rep {a b : Expr} {fa fb : M A} {pos : Pos} (ha : SE C E X a fa) (hb : SE C E X b fb) : SE C E X (.BinOp a .Mult b pos) (bin repP fa fb) :=
  pe_imp (pe_op op_rep ha hb) fun σ H Q t => t_bin b_rep t
end RS
end

section
set_option maxRecDepth 100000
set_option maxHeartbeats 4000000
/-! Comprehensions with two for clauses. -/
namespace RS
open PySem PySem.Spec PyProof.Rows L2 NdefX LamX
variable {C : Cc} {E : XK} {X : Cx}

/-- the turns of the second clause; what comes behind them -/
def lcI (tg1 : Tg) (t1 : M Bool) (e : M A) (k : Store → List D → R (List D)) : List D → Env → Store → List D → R (List D)
  | [], _, S, acc => k S acc
  | d :: ds, ρ, S, acc => match tg1.put d ρ with
    | none => .bad
    | some ρ1 => nextX (t1 ρ1 S) fun b S1 => if b = true then nextX (e ρ1 S1) fun a S2 => match a with
        | .d y => lcI tg1 t1 e k ds ρ S2 (acc ++ [y])
        | _ => .bad
      else lcI tg1 t1 e k ds ρ S1 acc
/-- the turns of the first clause -/
def lcO (tg : Tg) (t : M Bool) (q1 : MI) (vs1 : List Nat) (tg1 : Tg) (t1 : M Bool) (e : M A) : List D → Env → Store → List D → R (List D)
  | [], _, S, acc => .ok acc S
  | d :: ds, ρ, S, acc => match tg.put d ρ with
    | none => .bad
    | some ρ1 => nextX (t ρ1 S) fun b S1 => if b = true then nextX (q1 ρ1 S1) fun ds1 S2 =>
        if acc.length + ds1.length ≤ sizeLine then lcI tg1 t1 e (fun S3 acc3 => lcO tg t q1 vs1 tg1 t1 e ds ρ S3 acc3) ds1 (wipeE ρ1 vs1) S2 acc else .bad
      else lcO tg t q1 vs1 tg1 t1 e ds ρ S1 acc
def lcM2 (cell : Bool) (vs : List Nat) (q : MI) (tg : Tg) (t : M Bool) (q1 : MI) (vs1 : List Nat) (tg1 : Tg) (t1 : M Bool) (e : M A) : M A := fun ρ S => (q ρ S).bind fun ds S1 =>
  (lcO tg t q1 vs1 tg1 t1 e ds (wipeE ρ vs) S1 []).bind (lcE cell)
def tIz (C : Cc) (f : MI) : TI := fun σ H Q => ∃ z, tI (C.wz z) E0 f σ H Q
theorem si_z {tg e : Expr} {f : MI} (h : ∀ z, SI (C.wz z) E0 X tg e f) : PI X tg e (tIz C f) := ⟨fun pins s σ H Q I ⟨z, q⟩ => (h z).run pins s σ H Q I q⟩
theorem Ext.us {z : List (Addr × List V)} {D : Addr} {us us2 : List V} {m m' : List Addr} {H H' : Hp} (x : Ext (C.wz ((D, us) :: z)) m H m' H') : Ext (C.wz ((D, us2) :: z)) m H m' H' := ⟨x.pre, x.stay⟩
theorem lc_read2 {vs vs1 : List Nat} {q q1 : MI} {tg tg1 : Tg} {t t1 : M Bool} {e : M A} {cell : Bool} (hv : ∀ i ∈ tg.ixs, i ∈ vs) (hv1 : ∀ i ∈ tg1.ixs, i ∈ vs1) {σ : L2.St} {H : Hp} {Q : VK} (h : tE C E (lcM2 cell vs q tg t q1 vs1 tg1 t1 e) σ H Q) :
    tLc2 (tI C E q) (tg.rd C.K) (tTz C t) (tIz C q1) (tg1.rd C.K) (tTz C t1) (tEz C e) vs vs1 σ H Q := by
  obtain ⟨m, S, ρ, hs, he, w⟩ := h
  refine ⟨m, S, ρ, hs, he, (WpG.bind (rel := Yields C) w).imp fun J H1 ⟨m1, S1, ds, x1, r1, y1, w1⟩ => ?_⟩
  intro D hD
  have e1 := he.ext x1
  have nD := r1.out hD
  -- the layer's own row with the new list, whatever it holds
  have hz : ∀ us : List V, ∀ q ∈ (D, us) :: C.z, q.1 ∈ C.z.map Prod.fst ∨ H1 q.1 = none := fun us q hq => by
    rcases List.mem_cons.mp hq with rfl | hq
    · exact .inr hD
    · exact .inl (List.mem_map_of_mem hq)
  have off1 : ∀ {us us2 : List V} {m' : List Addr} (p : Addr), Off (C.wz ((D, us) :: C.z)) m' p → Off (C.wz ((D, us2) :: C.z)) m' p := fun {us us2 m'} p h => ⟨h.1, h.2⟩
  have offM : ∀ {us : List V} {m' : List Addr} (p : Addr), Off (C.wz ((D, us) :: C.z)) m' p → Off C m' p := fun {us m'} p h => ⟨h.1, fun k => h.2 (List.mem_cons_of_mem _ k)⟩
  have offD : ∀ {us : List V} {m' : List Addr} (p : Addr), Off (C.wz ((D, us) :: C.z)) m' p → p ≠ D := fun {us m'} p h z => h.2 (by rw [z]; exact List.mem_cons_self)
  have liveD : ∀ (k : Nat) (o : Cell) (p : Addr), S1[k]? = some o → m1[k]? = some p → p ≠ D := fun k o p h1 h2 z => nD.1 (z ▸ List.mem_of_getElem? h2)
  have moA : ∀ {a : A} {v : V}, RA C m1 H1 a v → RA (C.wz ((D, []) :: C.z)) m1 H1 a v := fun {a v} h => by
    exact RA.more (hz []) h
  have moF : ∀ {fs : List (Str × A)} {gs : List (Str × V)}, RF C m1 H1 fs gs → RF (C.wz ((D, []) :: C.z)) m1 H1 fs gs := fun h => by
    induction h with
    | nil => exact .nil
    | cons a t ih => exact .cons ⟨a.1, moA a.2⟩ ih
  have x0 : Ext (C.wz ((D, []) :: C.z)) m1 H1 m1 (upd H1 D (.lst [])) :=
    ⟨⟨[], by simp⟩, fun p o h n => ⟨by rw [upd_ne (offD p n)]; exact h, n⟩⟩
  have r0 : RS (C.wz ((D, []) :: C.z)) m1 S1 (upd H1 D (.lst [])) := by
    refine ⟨r1.len, r1.nd, fun q hq => ?_, fun k o p h1 h2 => ?_, fun q hq => ⟨(r1.tab q hq).1, tab_new hD (r1.tab q hq).2⟩⟩
    · rcases List.mem_cons.mp hq with rfl | hq
      · exact ⟨nD.1, upd_same⟩
      · obtain ⟨k1, k2⟩ := r1.own q hq
        exact ⟨k1, by rw [upd_ne (ne_of_none k2 hD)]; exact k2⟩
    · have c := r1.cell k o p h1 h2
      have c2 : RC (C.wz ((D, []) :: C.z)) m1 H1 p o := by
        cases o with
        | lst es => obtain ⟨us, a1, a2⟩ := c; exact ⟨us, a1, RDs.more (hz []) a2⟩
        | ins cc fs => obtain ⟨dx, gs, a1, a2⟩ := c; exact ⟨dx, gs, a1, moF a2⟩
      exact c2.ext x0 (by rw [upd_ne (liveD k o p h1 h2)])
  have e0 : RE (C.wz ((D, []) :: C.z)) m1 (upd H1 D (.lst [])) (wipeE ρ vs) (L2.wipe σ vs) := by
    have z : RE (C.wz ((D, []) :: C.z)) m1 H1 (wipeE ρ vs) (L2.wipe σ vs) := by
      have w2 := e1.wipe vs
      exact ⟨w2.len, fun i a h => let ⟨v, k1, k2⟩ := w2.at_ i a h; ⟨v, k1, moA k2⟩⟩
    exact z.ext x0
  -- the state at turn i
  let P : Nat → Hp → Prop := fun i H' => ∃ m' S' acc us, Ext (C.wz ((D, us) :: C.z)) m1 H1 m' H' ∧ RS (C.wz ((D, us) :: C.z)) m' S' H' ∧ RE (C.wz ((D, us) :: C.z)) m' H' (wipeE ρ vs) (L2.wipe σ vs) ∧
      RDs (C.wz ((D, us) :: C.z)) m' H' acc us ∧
      WpG C E (RA C) m1 H1 ((lcO tg t q1 vs1 tg1 t1 e (ds.drop i) (wipeE ρ vs) S' acc).bind (lcE cell)) Q
  refine ⟨fun i k H' => k = ds.length - i ∧ i ≤ ds.length ∧ P i H',
    ⟨ds.length, rfl, Nat.zero_le _, m1, S1, [], [], x0, r0, e0, RDs.nil, by simpa using w1⟩, ?_⟩
  rintro i k H' ⟨rfl, hi, m', S', acc, us, x', r', e', ha, w'⟩
  by_cases hlt : i < ds.length
  · refine .inr ⟨y1.go i m' H' _ (hz us) x' hlt, P (i + 1), fun H2 h2 => ⟨ds.length - (i + 1), by omega, rfl, hlt, h2⟩, fun v H2 hy => ?_⟩
    obtain ⟨x2, r2, q2⟩ := y1.yld i m' H' S' _ v H2 _ (hz us) x' r' (List.getElem?_eq_getElem hlt) hy
    rw [List.drop_eq_getElem_cons hlt] at w'
    simp only [lcO] at w'
    cases hput : tg.put ds[i] (wipeE ρ vs) with
    | none => rw [hput] at w'; exact False.elim w'
    | some ρ1 =>
      rw [hput] at w'
      simp only at w'
      have e2 := e'.ext x2
      refine tg_read (C := C.wz ((D, us) :: C.z)) hv e2 q2 hput fun σ2 e3 hw => ⟨hw, (D, us) :: C.z, m', S', ρ1, r2, e3, ?_⟩
      cases ht : t ρ1 S' with
      | bad => rw [ht] at w'; exact False.elim w'
      | exc a S2 => rw [ht] at w'; exact False.elim w'
      | ok b S2 =>
        rw [ht] at w'
        simp only [nextX] at w'
        intro m3 H3 b' x3 r3 hb
        have hb : b = b' := hb
        subst hb
        cases b with
        | false =>
          rw [if_neg Bool.false_ne_true] at w' ⊢
          exact ⟨m3, S2, acc, us, (x'.trans x2).trans x3, r3, e2.ext x3, (ha.ext x2).ext x3, w'⟩
        | true =>
          rw [if_pos rfl] at w' ⊢
          refine ⟨(D, us) :: C.z, m3, S2, ρ1, r3, e3.ext x3, ?_⟩
          cases hq : q1 ρ1 S2 with
          | bad => rw [hq] at w'; exact False.elim w'
          | exc a S3 => rw [hq] at w'; exact False.elim w'
          | ok ds1 S3 =>
            rw [hq] at w'
            simp only at w'
            intro m4 H4 J1 x4 r4 y4
            split at w'
            rotate_left
            · exact False.elim w'
            rename_i hlen
            have x14 := ((x'.trans x2).trans x3).trans x4
            have e34 := (e3.ext x3).ext x4
            have e24 := (e2.ext x3).ext x4
            let P1 : Nat → Hp → Prop := fun j H' => ∃ m' S' acc us', Ext (C.wz ((D, us') :: C.z)) m4 H4 m' H' ∧ RS (C.wz ((D, us') :: C.z)) m' S' H' ∧
                RDs (C.wz ((D, us') :: C.z)) m' H' acc us' ∧ acc.length + (ds1.length - j) ≤ sizeLine ∧
                WpG C E (RA C) m1 H1 ((lcI tg1 t1 e (fun S3 acc3 => lcO tg t q1 vs1 tg1 t1 e (ds.drop (i + 1)) (wipeE ρ vs) S3 acc3) (ds1.drop j) (wipeE ρ1 vs1) S' acc).bind (lcE cell)) Q
            refine ⟨fun j k H' => k = ds1.length - j ∧ j ≤ ds1.length ∧ P1 j H',
              ⟨ds1.length, rfl, Nat.zero_le _, m4, S3, acc, us, Ext.refl _ _ _, r4, ((ha.ext x2).ext x3).ext x4, by simpa using hlen, by simpa using w'⟩, ?_⟩
            rintro j k H5 ⟨rfl, hj, m5, S5, acc5, us5, x5, r5, ha5, hl5, w5⟩
            have reW : RE (C.wz ((D, us5) :: C.z)) m5 H5 (wipeE ρ vs) (L2.wipe σ vs) := RE.ext x5 (RE.off (C := C) (z := (D, us) :: C.z) (z' := (D, us5) :: C.z) (fun p h => off1 p h) (fun _ _ h => h) e24)
            have reI : RE (C.wz ((D, us5) :: C.z)) m5 H5 (wipeE ρ1 vs1) (L2.wipe σ2 vs1) := RE.ext x5 (RE.off (C := C) (z := (D, us) :: C.z) (z' := (D, us5) :: C.z) (fun p h => off1 p h) (fun _ _ h => h) (e34.wipe vs1))
            have x15 : Ext (C.wz ((D, us5) :: C.z)) m1 H1 m5 H5 := (Ext.us x14).trans x5
            by_cases hlj : j < ds1.length
            · have hz5 : ∀ q ∈ (D, us5) :: C.z, q.1 ∈ ((D, us) :: C.z).map Prod.fst ∨ H4 q.1 = none := fun q hq => by
                rcases List.mem_cons.mp hq with rfl | hq
                · exact .inl List.mem_cons_self
                · exact .inl (List.mem_cons_of_mem _ (List.mem_map_of_mem hq))
              refine .inr ⟨y4.go j m5 H5 ((D, us5) :: C.z) hz5 x5 hlj, P1 (j + 1), fun H6 h6 => ⟨ds1.length - (j + 1), by omega, rfl, hlj, h6⟩, fun v6 H6 hy6 => ?_⟩
              obtain ⟨x6, r6, q6⟩ := y4.yld j m5 H5 S5 _ v6 H6 ((D, us5) :: C.z) hz5 x5 r5 (List.getElem?_eq_getElem hlj) hy6
              rw [List.drop_eq_getElem_cons hlj] at w5
              simp only [lcI] at w5
              cases hput1 : tg1.put ds1[j] (wipeE ρ1 vs1) with
              | none => rw [hput1] at w5; exact False.elim w5
              | some ρ6 =>
                rw [hput1] at w5
                simp only at w5
                refine tg_read (C := C.wz ((D, us5) :: C.z)) hv1 (RE.ext x6 reI) q6 hput1 fun σ6 e6 hw6 => ⟨hw6, (D, us5) :: C.z, m5, S5, ρ6, r6, e6, ?_⟩
                cases ht6 : t1 ρ6 S5 with
                | bad => rw [ht6] at w5; exact False.elim w5
                | exc a S7 => rw [ht6] at w5; exact False.elim w5
                | ok b S7 =>
                  rw [ht6] at w5
                  simp only [nextX] at w5
                  intro m7 H7 b' x7 r7 hb
                  have hb : b = b' := hb
                  subst hb
                  cases b with
                  | false =>
                    rw [if_neg Bool.false_ne_true] at w5 ⊢
                    exact ⟨m7, S7, acc5, us5, (x5.trans x6).trans x7, r7, (ha5.ext x6).ext x7, by omega, w5⟩
                  | true =>
                    rw [if_pos rfl] at w5 ⊢
                    refine ⟨(D, us5) :: C.z, m7, S7, ρ6, r7, e6.ext x7, ?_⟩
                    cases hE : e ρ6 S7 with
                    | bad => rw [hE] at w5; exact False.elim w5
                    | exc a S8 => rw [hE] at w5; exact False.elim w5
                    | ok a S8 =>
                      rw [hE] at w5
                      simp only at w5
                      intro m8 H8 y x8 r8 hy8
                      cases a with
                      | ref n => exact False.elim w5
                      | fnc _ _ => exact False.elim w5
                      | d yd =>
                        simp only at w5
                        have ha8 := ((ha5.ext x6).ext x7).ext x8
                        have hlen8 : us5.length < sizeLine := by rw [← ha5.len]; omega
                        obtain ⟨kD, hDat⟩ := r8.own (D, us5) List.mem_cons_self
                        have x9 : Ext (C.wz ((D, us5) :: C.z)) m8 H8 m8 (upd H8 D (.lst (us5 ++ [y]))) :=
                          ⟨⟨[], by simp⟩, fun p o h n => ⟨by rw [upd_ne (offD p n)]; exact h, n⟩⟩
                        refine ⟨us5, hDat, hlen8, m8, S8, acc5 ++ [yd], us5 ++ [y], Ext.us ((((x5.trans x6).trans x7).trans x8).trans x9), ?_, ?_, by simp; omega, w5⟩
                        · refine ⟨r8.len, r8.nd, fun q hq => ?_, fun k o p h1 h2 => ?_, fun q hq => ⟨(r8.tab q hq).1, tab_put (fun φ e => by rw [hDat] at e; cases e) (fun z => nD.2 (List.mem_append_right _ (z ▸ List.mem_map_of_mem hq))) (r8.tab q hq).2⟩⟩
                          · rcases List.mem_cons.mp hq with rfl | hq
                            · exact ⟨kD, upd_same⟩
                            · obtain ⟨k1, k2⟩ := r8.own q (List.mem_cons_of_mem _ hq)
                              refine ⟨k1, ?_⟩
                              have nq : q.1 ≠ D := fun z => nD.2 (List.mem_append_left _ (z ▸ List.mem_map_of_mem hq))
                              rw [upd_ne nq]
                              exact k2
                          · have c := (r8.cell k o p h1 h2).ext x9 (by
                              rw [upd_ne]
                              exact fun z => kD (z ▸ List.mem_of_getElem? h2))
                            exact RC.off (C := C) off1 (fun _ _ h => h) c
                        · refine RDs.snoc (RDs.off (C := C) off1 (ha8.ext x9)) (RD.off (C := C) off1 (RD.ext x9 hy8))
            · have ej : j = ds1.length := by omega
              subst ej
              refine .inl ⟨y4.stop m5 H5 ((D, us5) :: C.z) (fun q hq => by
                rcases List.mem_cons.mp hq with rfl | hq
                · exact .inl List.mem_cons_self
                · exact .inl (List.mem_cons_of_mem _ (List.mem_map_of_mem hq))) x5, ?_⟩
              rw [List.drop_length] at w5
              exact ⟨m5, S5, acc5, us5, x15, r5, reW, ha5, w5⟩
  · have e : i = ds.length := by omega
    subst e
    refine .inl ⟨y1.stop m' H' _ (hz us) x', ?_⟩
    rw [List.drop_length] at w'
    have keepX : Ext C m1 H1 m' H' := ⟨x'.pre, fun p o h n => by
      have hp : p ≠ D := ne_of_none h hD
      have n' : Off (C.wz ((D, us) :: C.z)) m1 p := ⟨n.1, fun z => by
        rcases List.mem_cons.mp (show p ∈ D :: C.rows from z) with z | z
        · exact hp z
        · exact n.2 z⟩
      exact ⟨(x'.stay p o h n').1, offM p (x'.stay p o h n').2⟩⟩
    obtain ⟨kD, hDat⟩ := r'.own (D, us) List.mem_cons_self
    have rC : RS C m' S' H' := ⟨r'.len, r'.nd, fun q hq => r'.own q (List.mem_cons_of_mem _ hq), fun k o p h1 h2 => RC.off (C := C) (z' := C.z) offM (fun _ _ h => h) (r'.cell k o p h1 h2), fun q hq => r'.tab q hq⟩
    have w2 : WpG C E (RA C) m1 H1 (lcE cell acc S') Q := w'
    unfold lcE at w2
    cases cell with
    | false =>
      refine w2 m' H' (.ref D) keepX rC ?_
      simp only [RA, RD]
      exact ⟨D, us, rfl, hDat, ⟨kD, nD.2⟩, RDs.off (C := C) (z' := C.z) offM ha⟩
    | true =>
      have offN : ∀ p, Off (C.wz ((D, us) :: C.z)) m' p → Off (C.wz C.z) (m' ++ [D]) p := fun p h => ⟨by
        rw [List.mem_append, List.mem_singleton]
        rintro (z | z)
        · exact h.1 z
        · exact offD p h z, (offM p h).2⟩
      have pre : ∀ (n : Nat) (p : Addr), m'[n]? = some p → (m' ++ [D])[n]? = some p := fun n p h => by
        rw [List.getElem?_append_left (List.getElem?_eq_some_iff.mp h).1]
        exact h
      refine w2 (m' ++ [D]) H' (.ref D) ⟨?_, fun p o h n => ?_⟩ ⟨?_, ?_, fun q hq => ?_, fun k o p h1 h2 => ?_, fun q hq => ?_⟩ ⟨D, ?_, rfl⟩
      · obtain ⟨r, er⟩ := keepX.pre
        exact ⟨r ++ [D], by rw [er, List.append_assoc]⟩
      · have hp : p ≠ D := ne_of_none h hD
        obtain ⟨k1, k2⟩ := keepX.stay p o h n
        refine ⟨k1, ?_, k2.2⟩
        rw [List.mem_append, List.mem_singleton]
        rintro (z | z)
        · exact k2.1 z
        · exact hp z
      · rw [List.length_append, List.length_append, r'.len]; rfl
      · rw [List.nodup_append]
        exact ⟨r'.nd, by simp, fun a hm b hb => by
          have e : b = D := by simpa using hb
          subst e
          exact fun z => kD (z ▸ hm)⟩
      · obtain ⟨k1, k2⟩ := r'.own q (List.mem_cons_of_mem _ hq)
        refine ⟨?_, k2⟩
        rw [List.mem_append, List.mem_singleton]
        rintro (z | z)
        · exact k1 z
        · exact nD.2 (List.mem_append_left _ (z ▸ List.mem_map_of_mem hq))
      · by_cases hk : k < S'.length
        · rw [List.getElem?_append_left hk] at h1
          rw [List.getElem?_append_left (by rw [r'.len]; exact hk)] at h2
          exact RC.off (C := C) (z' := C.z) offN pre (r'.cell k o p h1 h2)
        · have hk' : k = S'.length := by
            have := (List.getElem?_eq_some_iff.mp h1).1
            rw [List.length_append, List.length_singleton] at this
            omega
          subst hk'
          rw [List.getElem?_append_right (Nat.le_refl _), Nat.sub_self] at h1
          rw [List.getElem?_append_right (by rw [r'.len]; exact Nat.le_refl _), r'.len, Nat.sub_self] at h2
          have e1 : Cell.lst acc = o := by simpa using h1
          have e2 : D = p := by simpa using h2
          subst e1; subst e2
          exact ⟨us, hDat, RDs.off (C := C) (z' := C.z) offN ha⟩
      · obtain ⟨k1, k2⟩ := r'.tab q hq
        refine ⟨?_, k2⟩
        rw [List.mem_append, List.mem_singleton]
        rintro (z | z)
        · exact k1 z
        · exact nD.2 (List.mem_append_right _ (z ▸ List.mem_map_of_mem hq))
      · rw [← r'.len, List.getElem?_append_right (Nat.le_refl _), Nat.sub_self]
        rfl
section
variable {elt tgE iter tgE1 iter1 : Expr} {ifs ifs1 : List Expr} {scope : Scope} {own : List (Str × Nat)} {pos : Pos} {q q1 : MI} {tg tg1 : Tg} {t t1 : M Bool} {e : M A} {vs1 : List Nat}
theorem se_lc2 (cell : Bool) (hK : C.K = X.K) (hc : X.calm = true) (hN : X.N.Nodup) (hi : SI C E X tgE iter q) (ok : BlkOk X.N X.env.scope scope own) (hv : ∀ i ∈ tg.ixs, i ∈ own.map (·.2)) (hv1 : ∀ i ∈ tg1.ixs, i ∈ vs1) (hvv : ∀ i ∈ vs1, i ∈ own.map (·.2))
    (hg : ∀ (s : Shared) (H : Hp) (Ca : Addr) (cl : List (Str × Addr)) (fp : List Addr), PG (X.blk s H scope (compEnvC scope cl Ca X.env) fp) tgE (tg.rd X.K))
    (ht : ∀ (s : Shared) (H : Hp) (Ca : Addr) (cl : List (Str × Addr)) (fp : List Addr) (z : List (Addr × List V)), SPT (C.wz z) E0 (X.blk s H scope (compEnvC scope cl Ca X.env) fp) ifs t)
    (hi1 : ∀ (s : Shared) (H : Hp) (Ca : Addr) (cl : List (Str × Addr)) (fp : List Addr) (z : List (Addr × List V)), SI (C.wz z) E0 (X.blk s H scope (compEnvC scope cl Ca X.env) fp) tgE1 iter1 q1)
    (hg1 : ∀ (s : Shared) (H : Hp) (Ca : Addr) (cl : List (Str × Addr)) (fp : List Addr), PG (X.blk s H scope (compEnvC scope cl Ca X.env) fp) tgE1 (tg1.rd X.K))
    (ht1 : ∀ (s : Shared) (H : Hp) (Ca : Addr) (cl : List (Str × Addr)) (fp : List Addr) (z : List (Addr × List V)), SPT (C.wz z) E0 (X.blk s H scope (compEnvC scope cl Ca X.env) fp) ifs1 t1)
    (he : ∀ (s : Shared) (H : Hp) (Ca : Addr) (cl : List (Str × Addr)) (fp : List Addr) (z : List (Addr × List V)), SE (C.wz z) E0 (X.blk s H scope (compEnvC scope cl Ca X.env) fp) elt e)
    (hs : ∀ x, foldedSetIterable iter X.env x = pure x := by intro _; rfl) (hs1 : ∀ (env : PySem.Env) (x : Value), foldedSetIterable iter1 env x = pure x := by intro _ _; rfl) :
    SE C E X (.ListComp elt [⟨tgE, iter, ifs, 0⟩, ⟨tgE1, iter1, ifs1, 0⟩] scope pos) (lcM2 cell (own.map (·.2)) q tg t q1 vs1 tg1 t1 e) := by
  refine pe_imp (pe_lc2 hc hN hi ok hvv hg (fun s H Ca cl fp => pts_z (C := C) (ht s H Ca cl fp)) (fun s H Ca cl fp => si_z (C := C) (hi1 s H Ca cl fp)) hg1 (fun s H Ca cl fp => pts_z (C := C) (ht1 s H Ca cl fp)) (fun s H Ca cl fp => se_z (C := C) (he s H Ca cl fp)) hs hs1) fun σ H Q h => ?_
  have z := lc_read2 hv hv1 h
  rw [hK] at z
  exact z
end
end RS
end

section
set_option maxRecDepth 100000
set_option maxHeartbeats 4000000
/-! == and != of own classes, by their own `__eq__`. -/
namespace RS
open PySem PySem.Spec PyProof.Rows L2
variable {C : Cc} {E : XK} {X : Cx}
section
variable {prog : Program} {w : World} {A : Around} {Er : Value → Shared → Prop} {s : Shared} {K : PySem.W.Frag} {x c f : Addr} {ox : Obj} {od : Option Obj}
theorem ifBound_objNe {args : List Value} {Q : Option Value → Shared → Prop} (hX : K.In s.heap) (I : PySem.W.InstAt s.heap x ox c od) (hs : PySem.W.findIn K (.ref c) "__ne__" = some (some (.builtin "object.__ne__")))
    (h : wpAny (model prog w) A (call (.builtin "object.__ne__") (.ref x :: args)) (fun v => Q (some v)) Er s) : wpAny (model prog w) A (callSpecialIfBound? (.ref x) "__ne__" args) Q Er s := by
  unfold callSpecialIfBound?
  have fin : ∀ {g : Value × List Value}, g = (.builtin "object.__ne__", [.ref x]) → wpAny (model prog w) A (do let l ← call g.1 (g.2 ++ args); pure (some l)) Q Er s := fun e => by
    subst e
    exact wpAny_bind (wpAny_mono h (fun v s' h' => wpAny_pure h') fun _ _ h' => h')
  refine wpAny_holding (wpAny_bind (wpAny_bind (wpAny_bind (PySem.W.Looks.here I.type (PySem.W.Looks.here (PySem.W.looks_findIn hX hs) (wpAny_bind (wpAny_askSetting (wpAny_ite ?_))))))))
  have fin2 := wpAny_bind (M := model prog w) (A := A) (E := Er) (s := s) (wpAny_mono h (fun v s' h' => wpAny_pure (M := model prog w) (A := A) (E := Er) (a := some v) (Q := Q) h') fun _ _ h' => h')
  split
  · exact wpAny_bind (wpAny_of_eq (F.cmp_object.ne.bind (.ref x)) (wpAny_pure fin2))
  · exact wpAny_tryCatch (wpAny_bind (wpAny_of_eq (F.cmp_object.ne.bind (.ref x)) (wpAny_pure fin2)))
theorem ne_entry {b : Value} {Q : PySem.Fin → Shared → Prop} (hX : K.In s.heap) (I : PySem.W.InstAt s.heap x ox c od) (hs : PySem.W.findIn K (.ref c) "__eq__" = some (some (.ref f))) (hf : PySem.W.isFn K (.ref f) = true) (hu : A.units < cLine)
    (h : wpAny (model prog w) A (call (.ref f) [.ref x, b]) (fun v s' => ∃ r, v = .bool r ∧ Q (.done (.ret (.bool !r))) s') Er s) : wpAny (model prog w) A (Builtin.«object.__ne__» { pos := [.ref x, b] }) Q Er s := by
  unfold Builtin.«object.__ne__»
  refine wpAny_bind ?_
  unfold slotArgs
  refine wpAny_ite_false rfl (wpAny_ite_false rfl (wpAny_pure (wpAny_bind (wpAny_cRoomFor hu (wpAny_bind (PySem.W.ifBound_K hX I hs hf (wpAny_mono h (fun v s' q => ?_) fun _ _ e => e)))))))
  obtain ⟨r, rfl, q⟩ := q
  exact wpAny_bind (wpAny_pure (wpAny_pure q))
theorem rc_eq {y : Addr} {oy : Obj} {od2 : Option Obj} {Q : Value → Shared → Prop} (hX : K.In s.heap) (I : PySem.W.InstAt s.heap x ox c od) (J : PySem.W.InstAt s.heap y oy c od2)
    (hs : PySem.W.findIn K (.ref c) "__eq__" = some (some (.ref f))) (hf : PySem.W.isFn K (.ref f) = true) (hu : A.units < cLine)
    (h : wpAny (model prog w) A (call (.ref f) [.ref x, .ref y]) (fun v s' => ∃ r, v = .bool r ∧ Q (.bool r) s') Er s) : wpAny (model prog w) A (richCompare .Eq (.ref x) (.ref y)) Q Er s := by
  have one : wpAny (model prog w) A (tryCompare (.ref x) "__eq__" (.ref y)) (fun r s' => ∃ v, r = some v ∧ Q v s') Er s := by
    unfold tryCompare
    refine wpAny_bind (PySem.W.ifBound_K hX I hs hf (wpAny_mono h (fun v s' q => ?_) fun _ _ e => e))
    obtain ⟨r, rfl, q⟩ := q
    exact wpAny_pure ⟨_, rfl, q⟩
  unfold richCompare
  refine wpAny_holding (wpAny_bind (wpAny_cRoomFor hu ?_))
  refine wpAny_bind (PySem.W.Looks.here I.type (wpAny_bind (PySem.W.Looks.here J.type ?_)))
  refine wpAny_ite_false (by simp) ?_
  refine wpAny_bind (wpAny_pure (wpAny_ite_false rfl (wpAny_bind (wpAny_mono one (fun r s' z => ?_) fun _ _ e => e))))
  obtain ⟨v, rfl, q⟩ := z
  exact wpAny_pure q
theorem rc_ne {y : Addr} {oy : Obj} {od2 : Option Obj} {Q : Value → Shared → Prop} (hX : K.In s.heap) (I : PySem.W.InstAt s.heap x ox c od) (J : PySem.W.InstAt s.heap y oy c od2)
    (hn : PySem.W.findIn K (.ref c) "__ne__" = some (some (.builtin "object.__ne__"))) (hs : PySem.W.findIn K (.ref c) "__eq__" = some (some (.ref f))) (hf : PySem.W.isFn K (.ref f) = true) (hm : PySem.W.mroIn K c (.type "object") = some true) (hu : A.units + 1 < cLine)
    (h : wpAny (model prog w) A.in1 (call (.ref f) [.ref x, .ref y]) (fun v s' => ∃ r, v = .bool r ∧ Q (.bool !r) s') Er s) : wpAny (model prog w) A (richCompare .NotEq (.ref x) (.ref y)) Q Er s := by
  have one : wpAny (model prog w) A (tryCompare (.ref x) "__ne__" (.ref y)) (fun r s' => ∃ v, r = some v ∧ Q v s') Er s := by
    unfold tryCompare
    refine wpAny_bind (ifBound_objNe hX I hn ?_)
    refine wpAny_call (codeAny_call_builtin F.cmp_object.ne.plain F.cmpEntry_ne (PySem.W.check_slot F.cmpKind_ne F.cmpSplit_ne (PySem.W.Looks.andThen I.type (PySem.W.looks_mroIn hX hm)) (F.cmpArgs_ne (.ref x) (.ref y)) ?_))
    refine ne_entry hX I hs hf hu (wpAny_mono h (fun v s' q => ?_) fun _ _ e => e)
    obtain ⟨r, rfl, q⟩ := q
    exact ⟨r, rfl, wpAny_pure ⟨_, rfl, q⟩⟩
  unfold richCompare
  refine wpAny_holding (wpAny_bind (wpAny_cRoomFor (by omega) ?_))
  refine wpAny_bind (PySem.W.Looks.here I.type (wpAny_bind (PySem.W.Looks.here J.type ?_)))
  refine wpAny_ite_false (by simp) ?_
  refine wpAny_bind (wpAny_pure (wpAny_ite_false rfl (wpAny_bind (wpAny_mono one (fun r s' z => ?_) fun _ _ e => e))))
  obtain ⟨v, rfl, q⟩ := z
  exact wpAny_pure q
end
/-- what the class tells -/
structure EqCls (K : Fr) (c g : Addr) : Prop where
  at_ : PySem.W.findIn K (.ref c) "__eq__" = some (some (.ref g))
  fn : PySem.W.isFn K (.ref g) = true
  ne : PySem.W.findIn K (.ref c) "__ne__" = some (some (.builtin "object.__ne__"))
  mr : PySem.W.mroIn K c (.type "object") = some true
def owEqP (neg : Bool) (c : Str) (F : List A → Store → R A) : A → A → Store → R A := fun a b S => match insOf S c a, insOf S c b with
  | some _, some _ => (match F [a, b] S with
    | .ok (.d (.bl r)) S2 => .ok (.d (.bl (r ^^ neg))) S2
    | _ => .bad)
  | _, _ => .bad
theorem pass_noe {X : Cx} : Passes (L2.CX X.prog X.w) X noE := by
  rintro pins σ H s e s' I ⟨_, _, _, _, _, _, _, _, _, _, _, _, h⟩
  exact h.elim
def deep (X : Cx) : Cx := { X with A := X.A.in1 }
theorem deep_ok (h : X.Ok) : (deep X).Ok :=
  ⟨h.mod, h.kind, h.glob, h.blt, h.above, h.inj, h.has, h.cab, h.hd, h.frames, h.stk, h.exf, h.bs, h.bsz, h.noex, h.exfs, h.funs, h.frf⟩
theorem deep_in {pins : List (Addr × Obj)} {σ : L2.St} {H : Hp} {s : Shared} (h : L2.Inv X pins σ H s) : L2.Inv (deep X) pins σ H s :=
  ⟨deep_ok h.ok, h.os, h.bare, h.base, h.loc, h.cell, h.free, h.freeC, h.pin, h.hok, h.len⟩
theorem deep_out {pins : List (Addr × Obj)} {σ : L2.St} {H : Hp} {s : Shared} (o : X.Ok) (h : L2.Inv (deep X) pins σ H s) : L2.Inv X pins σ H s :=
  ⟨o, h.os, h.bare, h.base, h.loc, h.cell, h.free, h.freeC, h.pin, h.hok, h.len⟩
section
variable {c : Str} {k : Nat} {g : Addr} {fd : FuncData} {ps : List Str} {F : List A → Store → R A}
def rOwEq (C : Cc) (E : XK) (neg : Bool) (c : Str) (F : List A → Store → R A) : R2 := fun x y H Q => ∃ m S a b, RS C m S H ∧ RA C m H a x ∧ RA C m H b y ∧ WpG C noE (RA C) m H (owEqP neg c F a b S) Q
theorem b_owEq {neg : Bool} : Bin2 C E (rOwEq C E neg c F) (owEqP neg c F) := by
  intro m S H a b x y Q hs ha hb w
  refine ⟨m, S, a, b, hs, ha, hb, ?_⟩
  unfold owEqP at w ⊢
  split at w
  · split at w
    · exact w
    · exact w
  · exact w
theorem owEq_run {neg : Bool} {m : List Addr} {S : Store} {H : Hp} {a b : A} {x y : V} {Q : VK} (hs : RS C m S H) (ha : RA C m H a x) (hb : RA C m H b y) (w : WpG C noE (RA C) m H (owEqP neg c F a b S) Q) :
    (∃ p dx gs q dy gs', x = .ref p ∧ y = .ref q ∧ H p = some (.ins (C.ca c) dx gs) ∧ H q = some (.ins (C.ca c) dy gs')) ∧ spF C 2 F [x, y] H (fun v H' => ∃ r, v = .bl r ∧ Q (.bl (r ^^ neg)) H') noE := by
  unfold owEqP at w
  split at w
  · rename_i fs gs h1 h2
    obtain ⟨p, dx, hp, rfl, hp1, _⟩ := ins_at hs ha h1
    obtain ⟨q, dy, hq, rfl, hq1, _⟩ := ins_at hs hb h2
    refine ⟨⟨p, dx, hp, q, dy, hq, rfl, rfl, hp1, hq1⟩, sp_of hs (.cons ha (.cons hb .nil)) rfl ?_⟩
    cases hF : F [a, b] S with
    | bad => rw [hF] at w; exact w
    | exc e S2 => rw [hF] at w; exact False.elim w
    | ok r S2 =>
      rw [hF] at w
      intro m' H' v x' r' q'
      split at w
      · rename_i b' S3 e
        cases e
        exact ⟨_, q'.bl, w m' H' _ x' r' (RA.mkBl _)⟩
      · exact False.elim w
  · exact False.elim w
theorem inst_of {pins : List (Addr × Obj)} {σ : L2.St} {H : Hp} {s : Shared} {p dx : Addr} {gs : List (Str × V)} {c : Addr} (I : L2.Inv X pins σ H s) (h : H p = some (.ins c dx gs)) : ∃ ox od, PySem.W.InstAt s.heap p ox c od := by
  obtain ⟨ox, od, h, _⟩ := StX.insC_at I (.inr ⟨dx, gs, h⟩)
  exact ⟨ox, od, h⟩
theorem op_owEq (hK : C.K = X.K) (B : EqCls X.K (C.ca c) g) (G : FnOk X.prog X.w X.K X.mg X.base (L2.CX X.prog X.w) k g fd ps (spF C 2 F)) (hr : Room (k + 1) X.A) (hb : Binds X.K fd ps []) : OpR X (compareOp .Eq) (rOwEq C E false c F) := by
  intro pins s σ H x y v u Q I rx ry ⟨m, S, a, b, hs, ha, hb', w⟩
  obtain ⟨⟨p, dx, gs, q, dy, gs', rfl, rfl, h1, h2⟩, sp⟩ := owEq_run hs ha hb' w
  have rx : v = .ref p := rx
  have ry : u = .ref q := ry
  subst rx; subst ry
  obtain ⟨ox, od, i1⟩ := inst_of I h1
  obtain ⟨oy, od2, i2⟩ := inst_of I h2
  have hX : X.K.In s.heap := I.kIn
  have hun := hr.un
  have run := run_fn (us := [.ref p, .ref q]) (vs := [.ref p, .ref q]) G (hr.mono (Nat.le_succ k)) hb .nil pass_noe I (.cons (show L2.RelV (.ref p) (.ref p) from rfl) (.cons (show L2.RelV (.ref q) (.ref q) from rfl) .nil)) sp
  refine rc_eq hX i1 i2 B.at_ B.fn (by omega) (wpAny_mono run (fun v' s' z => ?_) fun _ _ e => e)
  obtain ⟨vv, H', I', rv, r, rfl, hq⟩ := z
  have rv : v' = .bool r := rv
  exact ⟨r, rv, .bl r, H', I', rfl, by simpa using hq⟩
theorem op_owNe (hK : C.K = X.K) (B : EqCls X.K (C.ca c) g) (G : FnOk X.prog X.w X.K X.mg X.base (L2.CX X.prog X.w) k g fd ps (spF C 2 F)) (hr : Room (k + 1) X.A) (hb : Binds X.K fd ps []) : OpR X (compareOp .NotEq) (rOwEq C E true c F) := by
  intro pins s σ H x y v u Q I rx ry ⟨m, S, a, b, hs, ha, hb', w⟩
  obtain ⟨⟨p, dx, gs, q, dy, gs', rfl, rfl, h1, h2⟩, sp⟩ := owEq_run hs ha hb' w
  have rx : v = .ref p := rx
  have ry : u = .ref q := ry
  subst rx; subst ry
  obtain ⟨ox, od, i1⟩ := inst_of I h1
  obtain ⟨oy, od2, i2⟩ := inst_of I h2
  have hX : X.K.In s.heap := I.kIn
  have hun := hr.un
  have run := run_fn (X := deep X) (us := [.ref p, .ref q]) (vs := [.ref p, .ref q]) G hr.in1 hb .nil (pass_noe (X := deep X)) (deep_in I) (.cons (show L2.RelV (.ref p) (.ref p) from rfl) (.cons (show L2.RelV (.ref q) (.ref q) from rfl) .nil)) sp
  refine rc_ne hX i1 i2 B.ne B.at_ B.fn B.mr (by omega) (wpAny_mono run (fun v' s' z => ?_) fun _ _ e => e)
  obtain ⟨vv, H', I', rv, r, rfl, hq⟩ := z
  have rv : v' = .bool r := rv
  exact ⟨r, rv, .bl !r, H', deep_out I.ok I', rfl, by simpa using hq⟩
/-- a == b, a != b of one own class -/
theorem se_owEq {a b : Expr} {fa fb : M A} {pos : Pos} (hK : C.K = X.K) (B : EqCls X.K (C.ca c) g) (G : FnOk X.prog X.w X.K X.mg X.base (L2.CX X.prog X.w) k g fd ps (spF C 2 F)) (hr : Room (k + 1) X.A) (hb : Binds X.K fd ps []) (ha : SE C E X a fa) (hb' : SE C E X b fb) : SE C E X (.Compare a [.Eq] [b] pos) (bin (owEqP false c F) fa fb) :=
  pe_imp (pe_cmpR (op_owEq (E := E) hK B G hr hb) ha hb' (nomark _)) fun σ H Q t => t_bin b_owEq t
theorem st_owEq {a b : Expr} {fa fb : M A} {pos : Pos} (hK : C.K = X.K) (B : EqCls X.K (C.ca c) g) (G : FnOk X.prog X.w X.K X.mg X.base (L2.CX X.prog X.w) k g fd ps (spF C 2 F)) (hr : Room (k + 1) X.A) (hb : Binds X.K fd ps []) (ha : SE C E X a fa) (hb' : SE C E X b fb) : ST C E X (.Compare a [.Eq] [b] pos) (asB (bin (owEqP false c F) fa fb)) :=
  st_cmp (op_owEq (E := E) hK B G hr hb) b_owEq ha hb' (nomark _)
theorem se_owNe {a b : Expr} {fa fb : M A} {pos : Pos} (hK : C.K = X.K) (B : EqCls X.K (C.ca c) g) (G : FnOk X.prog X.w X.K X.mg X.base (L2.CX X.prog X.w) k g fd ps (spF C 2 F)) (hr : Room (k + 1) X.A) (hb : Binds X.K fd ps []) (ha : SE C E X a fa) (hb' : SE C E X b fb) : SE C E X (.Compare a [.NotEq] [b] pos) (bin (owEqP true c F) fa fb) :=
  pe_imp (pe_cmpR (op_owNe (E := E) hK B G hr hb) ha hb' (nomark _)) fun σ H Q t => t_bin b_owEq t
theorem st_owNe {a b : Expr} {fa fb : M A} {pos : Pos} (hK : C.K = X.K) (B : EqCls X.K (C.ca c) g) (G : FnOk X.prog X.w X.K X.mg X.base (L2.CX X.prog X.w) k g fd ps (spF C 2 F)) (hr : Room (k + 1) X.A) (hb : Binds X.K fd ps []) (ha : SE C E X a fa) (hb' : SE C E X b fb) : ST C E X (.Compare a [.NotEq] [b] pos) (asB (bin (owEqP true c F) fa fb)) :=
  st_cmp (op_owNe (E := E) hK B G hr hb) b_owEq ha hb' (nomark _)
end
end RS
end

section
set_option maxRecDepth 100000
set_option maxHeartbeats 4000000
/-! Defs with their contracts, bundled; what a law's derivations take. -/
namespace RS
open PySem PySem.Spec PyProof.Rows L2
variable {E : XK} {X : Cx}

/-- a law's tables of code and its lambdas -/
structure Lm where
  tb : Fr → List NdefX.NTab
  fn : Nat → (Addr → NdefX.NF) × Expr
  fc : Nat → FC
/-- the layer over a written part -/
def cc (L : Lm) (K : Fr) : Cc := ⟨K, fun c => gA c K, [], L.tb K, L.fn, L.fc⟩
/-- a def, with what it does -/
structure Ok (L : Lm) (P : Program) (w : World) (K : Fr) (mg : Str → Option Value) (base : Heap) (d : DefP) (k : Nat) (ps : List Str) (F : List A → Store → R A) : Prop where
  ex : ∃ fd, FnAt K d fd ∧ FnOk P w K mg base (L2.CX P w) k (d.ad K) fd ps (spF (cc L K) ps.length F) ∧ L2.Binds K fd ps []
theorem pass_e0 : Passes (L2.CX X.prog X.w) X E0 := by
  rintro pins σ H s e s' I ⟨_, _, _, _, _, _, _, _, _, _, _, _, h⟩
  exact h.elim
section
variable {d : DefP} {k : Nat} {ps : List Str} {F : List A → Store → R A} {z : List (Addr × List V)} {L : Lm}
abbrev OkX (L : Lm) (X : Cx) (d : DefP) (k : Nat) (ps : List Str) (F : List A → Store → R A) : Prop := Ok L X.prog X.w X.K X.mg X.base d k ps F
section
variable {x mth f : Str} {p pos apos : Pos} {e o : Expr} {es : List Expr} {fs : M (List A)} {fo fa : M A} {c : Str}
theorem so_call {K : Fr} {n : Nat} (hK : X.K = K) (G : OkX L X d k ps F) (hn : ps.length = n) (hr : Room k X.A) (hg : Gl X x) (hm : X.mg x = some (.ref (d.ad X.K))) (hx : Passes (L2.CX X.prog X.w) X E)
    (ha : SA ((cc L K).wz z) E X (e :: es) fs) (hdb : (x == ("__debug__" : Str)) = false := by decide) (he : starEach (e :: es) X.env = (false, eval e X.env) :: starEach es X.env := by rfl) (hpl : (backTo pos (starEach es X.env)).any (·.1) = false := by rfl) :
    SE ((cc L K).wz z) E X (.Call (.Name x p) (e :: es) [] pos) (callM n F [] fs) := by
  subst hK
  subst hn
  obtain ⟨fd, h1, h2, h3⟩ := G.ex
  exact se_call (C := (cc L X.K).wz z) (ds := []) (dvs := []) h2 hr hg hm h1.kp h3 .nil (fun _ _ => .nil) hx ha hdb he hpl
theorem so_meth {K : Fr} {pl : Sem Bool} {n : Nat} (hK : X.K = K) (G : OkX L X d k ps F) (hn : ps.length = n) (hr : Room k X.A) (hc : Cls X.K (gA c X.K)) (hm : Meth X.K (gA c X.K) mth (d.ad X.K)) (hx : Passes (L2.CX X.prog X.w) X E)
    (ho : SE ((cc L K).wz z) E X o fo) (ha : SA ((cc L K).wz z) E X (e :: es) fs) (hs : starEach (e :: es) X.env = (false, eval e X.env) :: starEach es X.env := by rfl) (hpl : (backTo pos (starEach es X.env)).any (·.1) = false := by rfl)
    (he : eval (.Call (.Attribute o mth apos) (e :: es) [] pos) X.env = (do let ov ← eval o X.env; standAt apos.atName; let (f, first) ← holding [ov] (getMethod ov mth pl); callWith pos f first (backTo pos (starEach (e :: es) X.env)) (backToKw pos (keywordEach [] X.env))) := by rfl) :
    SE ((cc L K).wz z) E X (.Call (.Attribute o mth apos) (e :: es) [] pos) (methM c mth n F [] fo fs) := by
  subst hK
  subst hn
  obtain ⟨fd, h1, h2, h3⟩ := G.ex
  exact se_meth (C := (cc L X.K).wz z) (ds := []) (dvs := []) hc hm h2 hr h3 .nil (fun _ _ => .nil) hx ho ha hs hpl he
theorem so_meth0 {K : Fr} {pl : Sem Bool} {n : Nat} (hK : X.K = K) (G : OkX L X d k ps F) (hn : ps.length = n) (hr : Room k X.A) (hc : Cls X.K (gA c X.K)) (hm : Meth X.K (gA c X.K) mth (d.ad X.K)) (hx : Passes (L2.CX X.prog X.w) X E)
    (ho : SE ((cc L K).wz z) E X o fo)
    (he : eval (.Call (.Attribute o mth apos) [] [] pos) X.env = (do let ov ← eval o X.env; standAt apos.atName; let (f, first) ← holding [ov] (getMethod ov mth pl); callWith pos f first (backTo pos (starEach [] X.env)) (backToKw pos (keywordEach [] X.env))) := by rfl) :
    SE ((cc L K).wz z) E X (.Call (.Attribute o mth apos) [] [] pos) (methM c mth n F [] fo aNil) := by
  subst hK
  subst hn
  obtain ⟨fd, h1, h2, h3⟩ := G.ex
  exact se_meth0 (C := (cc L X.K).wz z) (ds := []) (dvs := []) hc hm h2 hr h3 .nil (fun _ _ => .nil) hx ho he
theorem so_prop {K : Fr} {q : Addr} {n : Nat} (hK : X.K = K) (G : OkX L X d k ps F) (hn : ps.length = n) (hr : Room (k + 1) X.A) (hc : Cls X.K (gA c X.K)) (hp : PropOf X.K (gA c X.K) f q (d.ad X.K))
    (ha : SE ((cc L K).wz z) E X e fa) (hab : attributeBase e f X.env (eval e X.env) = eval e X.env := by rfl) : SE ((cc L K).wz z) E X (.Attribute e f pos) (una (proP c n F []) fa) := by
  subst hK
  subst hn
  obtain ⟨fd, h1, h2, h3⟩ := G.ex
  exact se_prop (C := (cc L X.K).wz z) (ds := []) (dvs := []) rfl hc hp h2 hr h3 .nil (fun _ _ => .nil) ha hab
theorem so_make {K : Fr} (keep : Bool) {n : Nat} (hK : X.K = K) (G : OkX L X d k ps F) (hn : ps.length = n) (hr : Room (k + 1) X.A) (M : Mk X.K (gA c X.K) (d.ad X.K)) (hg : Gl X x) (hm : X.mg x = some (.ref (gA c X.K))) (hx : Passes (L2.CX X.prog X.w) X E)
    (ha : SA ((cc L K).wz z) E X (e :: es) fs) (hdb : (x == ("__debug__" : Str)) = false := by decide) (hs : starEach (e :: es) X.env = (false, eval e X.env) :: starEach es X.env := by rfl) (hpl : (backTo pos (starEach es X.env)).any (·.1) = false := by rfl) :
    SE ((cc L K).wz z) E X (.Call (.Name x p) (e :: es) [] pos) (makeM keep c n F [] fs) := by
  subst hK
  subst hn
  obtain ⟨fd, h1, h2, h3⟩ := G.ex
  exact se_make (C := (cc L X.K).wz z) (ds := []) (dvs := []) keep M h2 hr hg hm h3 .nil (fun _ _ => .nil) hx ha hdb hs hpl
end
theorem so_eq {K : Fr} (hK : X.K = K) (G : OkX L X d k ["self", "other"] F) (hr : Room (k + 1) X.A) {c : Str} (B : EqCls X.K (gA c X.K) (d.ad X.K)) {a b : Expr} {fa fb : M A} {pos : Pos} (ha : SE ((cc L K).wz z) E X a fa) (hb' : SE ((cc L K).wz z) E X b fb) : SE ((cc L K).wz z) E X (.Compare a [.Eq] [b] pos) (bin (owEqP false c F) fa fb) := by
  subst hK
  obtain ⟨fd, h1, h2, h3⟩ := G.ex
  exact se_owEq (C := (cc L X.K).wz z) rfl B h2 hr h3 ha hb'
theorem so_ne {K : Fr} (hK : X.K = K) (G : OkX L X d k ["self", "other"] F) (hr : Room (k + 1) X.A) {c : Str} (B : EqCls X.K (gA c X.K) (d.ad X.K)) {a b : Expr} {fa fb : M A} {pos : Pos} (ha : SE ((cc L K).wz z) E X a fa) (hb' : SE ((cc L K).wz z) E X b fb) : SE ((cc L K).wz z) E X (.Compare a [.NotEq] [b] pos) (bin (owEqP true c F) fa fb) := by
  subst hK
  obtain ⟨fd, h1, h2, h3⟩ := G.ex
  exact se_owNe (C := (cc L X.K).wz z) rfl B h2 hr h3 ha hb'
theorem to_eq {K : Fr} (hK : X.K = K) (G : OkX L X d k ["self", "other"] F) (hr : Room (k + 1) X.A) {c : Str} (B : EqCls X.K (gA c X.K) (d.ad X.K)) {a b : Expr} {fa fb : M A} {pos : Pos} (ha : SE ((cc L K).wz z) E X a fa) (hb' : SE ((cc L K).wz z) E X b fb) : ST ((cc L K).wz z) E X (.Compare a [.Eq] [b] pos) (asB (bin (owEqP false c F) fa fb)) := by
  subst hK
  obtain ⟨fd, h1, h2, h3⟩ := G.ex
  exact st_owEq (C := (cc L X.K).wz z) rfl B h2 hr h3 ha hb'
theorem to_ne {K : Fr} (hK : X.K = K) (G : OkX L X d k ["self", "other"] F) (hr : Room (k + 1) X.A) {c : Str} (B : EqCls X.K (gA c X.K) (d.ad X.K)) {a b : Expr} {fa fb : M A} {pos : Pos} (ha : SE ((cc L K).wz z) E X a fa) (hb' : SE ((cc L K).wz z) E X b fb) : ST ((cc L K).wz z) E X (.Compare a [.NotEq] [b] pos) (asB (bin (owEqP true c F) fa fb)) := by
  subst hK
  obtain ⟨fd, h1, h2, h3⟩ := G.ex
  exact st_owNe (C := (cc L X.K).wz z) rfl B h2 hr h3 ha hb'
end
theorem hu65 {k : Nat} {A : Around} (h : Room k A) : A.units + 65 < cLine := by have := h.un; omega
theorem hu64 {k : Nat} {A : Around} (h : Room k A) : A.units + 64 < cLine := by have := h.un; omega
/-- a comprehension's scope -/
def blkB (N : List Str) (sc scope : PySem.Scope) (own : List (Str × Nat)) : Bool :=
  (match scope.kind with
    | .function => true
    | _ => false) && (scope.names.all fun y => decide (scope.names.lookup y.1 = some y.2)) && (own.all fun p => decide (N[p.2]? = some p.1)) &&
    (scope.names.all fun y => decide (y.2 ≠ .free) || decide (sc.names.lookup y.1 = some .cell) || decide (sc.names.lookup y.1 = some .free)) &&
    (scope.names.all fun y => !(decide (y.2 = .local) || decide (y.2 = .cell)) || decide (y.1 ∈ own.map (·.1)) || decide (y.1 ∉ N))
theorem blkB_ok {N : List Str} {sc scope : PySem.Scope} {own : List (Str × Nat)} (h : blkB N sc scope own = true) : BlkOk N sc scope own := by
  unfold blkB at h
  simp only [Bool.and_eq_true, List.all_eq_true, Bool.or_eq_true, decide_eq_true_eq, Bool.not_eq_true', Bool.or_eq_false_iff, decide_eq_false_iff_not] at h
  obtain ⟨⟨⟨⟨h1, h2⟩, h3⟩, h4⟩, h5⟩ := h
  refine ⟨?_, h2, h3, fun y hy hf => ?_, fun y hy hl => ?_⟩
  · split at h1
    · assumption
    · cases h1
  · rcases h4 y hy with (h | h) | h
    · exact absurd hf h
    · exact .inl h
    · exact .inr h
  · rcases h5 y hy with (h | h) | h
    · rcases hl with hl | hl
      · exact absurd hl h.1
      · exact absurd hl h.2
    · exact .inl h
    · exact .inr h
/-- a def from its body -/
theorem Ok.make {L : Lm} {P : Program} {w : World} {K : Fr} {mg : Str → Option Value} {base : Heap} {d : DefP} {N ps : List Str} {k : Nat} {body : M Fl} (keep : Bool) (h : ∃ fd, FnAt K d fd) (S : FnScope N ps d.scope) (hd : d.dfl = [] := by rfl)
    (hb : ∀ (kV doc pm : Value) (an : Option Addr) (cdv ct : Value) (us : List Value), us.length = ps.length → bindArgs (PySem.W.fnOf d.name d.qual d.params d.body d.scope .none kV doc pm an cdv ct) ⟨us, []⟩ = pure (ps.zip us))
    (run : ∀ (cdv : Value) (A' : Around) (outer : List PySem.Env) (s : Shared) (H : Hp) (E : XK) (z : List (Addr × List V)), Room k (A'.deeper (envOfC d.qual d.scope s.heap.objs.size (d.ad K) cdv)) →
      SSs ((cc L K).wz z) E (cxOf (L2.CX P w) P w K mg base N d.qual d.scope (d.ad K) cdv A' outer s H E) d.body body) :
    Ok L P w K mg base d (k + 1) ps (fnF N.length ps.length keep body) := by
  obtain ⟨fd, h⟩ := h
  have h2 := h
  have e : d.dvs K = [] := by unfold DefP.dvs; rw [hd]; rfl
  refine ⟨fd, h2, fn_make (C := cc L K) keep h S run, ?_⟩
  unfold FnAt at h
  rw [e] at h
  exact h.bindsN hb
end RS
end

section
set_option maxRecDepth 100000
set_option maxHeartbeats 4000000
/-! The head's further facts; the end of a law. -/
namespace RS
open PySem PySem.Spec PyProof.Rows L2

def fKitT (T : String) (c : Str) (b : Bool) : Fr → Bool := fun K => decide (PySem.W.kitOne K (.type T) (.ref (gA c K)) = some b)
def fKitO (c : Str) (T : String) (b : Bool) : Fr → Bool := fun K => decide (PySem.W.kitOne K (.ref (gA c K)) (.type T) = some b)
def fKitC (c c' : Str) (b : Bool) : Fr → Bool := fun K => decide (PySem.W.kitOne K (.ref (gA c K)) (.ref (gA c' K)) = some b)
theorem kitT_ok {K : Fr} {T : String} {c : Str} {b : Bool} (h : fKitT T c b K = true) : PySem.W.kitOne K (.type T) (.ref (gA c K)) = some b := of_decide_eq_true h
theorem kitO_ok {K : Fr} {T : String} {c : Str} {b : Bool} (h : fKitO c T b K = true) : PySem.W.kitOne K (.ref (gA c K)) (.type T) = some b := of_decide_eq_true h
theorem kitC_ok {K : Fr} {c c' : Str} {b : Bool} (h : fKitC c c' b K = true) : PySem.W.kitOne K (.ref (gA c K)) (.ref (gA c' K)) = some b := of_decide_eq_true h
def fClsI (c : Str) : Fr → Bool := fun K => fCls c K && (He.eqO (PySem.W.findIn K (.ref (gA c K)) "__class__") (some (some (.builtin "object.__class__"))) &&
  (He.eqO (PySem.W.specialIn K (.builtin "object.__class__") "__get__") (some (some (.builtin "getset_descriptor.__get__"))) &&
  (decide (PySem.W.takesIn K (.builtin "object.__class__") = some true) && decide (PySem.W.mroIn K (gA c K) (.type "object") = some true))))
theorem clsI_ok {K : Fr} {c : Str} (h : fClsI c K = true) : ClsI K (gA c K) := by
  obtain ⟨h1, h⟩ := He.ba h
  obtain ⟨h2, h⟩ := He.ba h
  obtain ⟨h3, h⟩ := He.ba h
  obtain ⟨h4, h5⟩ := He.ba h
  exact ⟨He.cls_ok h1, He.eqO_ok h2, He.eqO_ok h3, of_decide_eq_true h4, of_decide_eq_true h5⟩
def fEqC (c : Str) : Fr → Bool := fun K => He.eqO (PySem.W.findIn K (.ref (gA c K)) "__eq__") (some (some (.ref (mA c "__eq__" K)))) && (PySem.W.isFn K (.ref (mA c "__eq__" K)) &&
  (He.eqO (PySem.W.findIn K (.ref (gA c K)) "__ne__") (some (some (.builtin "object.__ne__"))) && decide (PySem.W.mroIn K (gA c K) (.type "object") = some true)))
theorem eqC_ok {K : Fr} {c : Str} (h : fEqC c K = true) : EqCls K (gA c K) (mA c "__eq__" K) := by
  obtain ⟨h1, h⟩ := He.ba h
  obtain ⟨h2, h⟩ := He.ba h
  obtain ⟨h3, h4⟩ := He.ba h
  exact ⟨He.eqO_ok h1, h2, He.eqO_ok h3, of_decide_eq_true h4⟩
theorem SqL.lstAt {L : Lm} {K : Fr} {H : Hp} {a : Addr} {vs : List V} (ht : ∀ q ∈ L.tb K, ∃ ps, H q.1 = some (.tbl ps)) (h : SqL K H a vs) : LstAt (cc L K) [] H a vs := by
  rcases h with h | h
  · refine .inl ⟨h, by simp, fun z => ?_⟩
    have z : a ∈ (L.tb K).map Prod.fst := by simpa [Cc.rows, cc] using z
    obtain ⟨q, h1, rfl⟩ := List.mem_map.mp z
    obtain ⟨ps, e⟩ := ht q h1
    rcases h with h | ⟨o, h⟩ <;> rw [h] at e <;> cases e
  · exact .inr (.inr h)
/-- the law's promise, from what it does -/
theorem law_sp {L : Lm} {K : Fr} {F : List A → Store → R A} {H : Hp} {a : Addr} {ns : List Int} {S : Store} {E : XK} (ht : ∀ q ∈ L.tb K, H q.1 = some (.tbl #[])) (h : SqL K H a (ns.map V.int)) (e : F [.d (.rl (ns.map D.int))] [] = .ok (.d (.bl true)) S) : spF (cc L K) 1 F [.ref a] H (fun v _ => v = .bl true) E := by
  refine ⟨[], [], [], [.d (.rl (ns.map D.int))], ⟨rfl, .nil, (fun q hq => nomatch hq), (fun n o p h1 h2 => nomatch h1), (fun q hq => ⟨(fun h => nomatch h), NdefX.TabN.nil (ht q hq)⟩)⟩, .cons ?_ .nil, rfl, ?_⟩
  · show RD (cc L K) [] H (.rl (ns.map D.int)) (.ref a)
    unfold RD
    exact ⟨a, _, rfl, SqL.lstAt (fun q hq => ⟨_, ht q hq⟩) h, rds_ints ns⟩
  · rw [e]
    intro m' H' v x r q
    exact q.bl
theorem fnAt_inj {K : Fr} {d : DefP} {f1 f2 : FuncData} (h1 : FnAt K d f1) (h2 : FnAt K d f2) : f1 = f2 := by
  obtain ⟨oc, od, a1, a2, a3, a4, a5, a6, a7, osl, rfl, q, _⟩ := h1.ex
  obtain ⟨oc2, od2, b1, b2, b3, b4, b5, b6, b7, osl2, rfl, q2, _⟩ := h2.ex
  rw [q] at q2
  have e := Option.some.inj q2
  injection e with _ _ e _
  injection e
theorem law_binds {L : Lm} {P : Program} {w : World} {K : Fr} {mg : Str → Option Value} {base : Heap} {d : DefP} {k : Nat} {F : List A → Store → R A} {x : Str} (hd : d.dfl = []) (G : Ok L P w K mg base d k [x] F)
    (hb : ∀ (kV doc pm : Value) (an : Option Addr) (cdv ct : Value) (us : List Value), us.length = [x].length → bindArgs (PySem.W.fnOf d.name d.qual d.params d.body d.scope .none kV doc pm an cdv ct) ⟨us, []⟩ = pure ([x].zip us)) :
    ∃ fd, FnAt K d fd ∧ FnOk P w K mg base (L2.CX P w) k (d.ad K) fd [x] (spF (cc L K) 1 F) ∧ ∀ (s : Shared) (u : Value), BindsTo s fd ⟨[u], []⟩ [(x, u)] := by
  obtain ⟨fd, h1, h2, h3⟩ := G.ex
  refine ⟨fd, h1, h2, ?_⟩
  have e : d.dvs K = [] := by unfold DefP.dvs; rw [hd]; rfl
  have h4 := h1
  unfold FnAt at h4
  rw [e] at h4
  have b := FunD.bindsA (ps := [x]) h4 hb
  exact fun s u => b s [u] rfl
theorem law_bind1 {K : Fr} {d : DefP} {x : Str} {fd : FuncData} (hd : d.dfl = []) (h1 : FnAt K d fd)
    (hb : ∀ (kV doc pm : Value) (an : Option Addr) (cdv ct : Value) (us : List Value), us.length = [x].length → bindArgs (PySem.W.fnOf d.name d.qual d.params d.body d.scope .none kV doc pm an cdv ct) ⟨us, []⟩ = pure ([x].zip us)) :
    ∀ (s : Shared) (u : Value), BindsTo s fd ⟨[u], []⟩ [(x, u)] := by
  have e : d.dvs K = [] := by unfold DefP.dvs; rw [hd]; rfl
  unfold FnAt at h1
  rw [e] at h1
  have b := FunD.bindsA (ps := [x]) h1 hb
  exact fun s u => b s [u] rfl
end RS
end

section
set_option maxRecDepth 100000
set_option maxHeartbeats 4000000
/-! Lambdas with parameters: made, called. -/
namespace RS
open PySem PySem.Spec PyProof.Rows L2 NdefX LamX

theorem lamO_ok {P : Program} {w : World} {H : Hp} {h : Heap} {f : Addr} {F : NF} {b : Expr} (e : ∃ od sl pm ctv, h.get? f = some ⟨.type "function", od, .func (PySem.W.kla_fn F.name F.qual F.params b F.scope F.cl pm (.ref F.c) ctv), sl⟩) : ObjOk P w H h f (LamO f F b) := by
  unfold LamO ObjOk
  refine ⟨e, ?_, ?_⟩
  · obtain ⟨_, _, _, _, e⟩ := e
    exact ⟨_, e⟩
  · rintro h1 h2 ⟨a, b', c, d, e⟩ st
    exact ⟨a, b', c, d, st _ e⟩
theorem lamO_at {P : Program} {w : World} {H : Hp} {h : Heap} {f : Addr} {F : NF} {b : Expr} (k : HOk P w H h) (e : H f = some (LamO f F b)) : ∃ od sl pm ctv, h.get? f = some ⟨.type "function", od, .func (PySem.W.kla_fn F.name F.qual F.params b F.scope F.cl pm (.ref F.c) ctv), sl⟩ := by
  have z := k f _ e
  unfold LamO ObjOk at z
  exact z.1
section
variable {X : Cx} {pins : List (Addr × Obj)} {σ : L2.St} {H : Hp} {s : Shared}
/-- the new function object -/
theorem inv_lam {h' : Heap} {F : NF} {b : Expr} {pm ctv : Value} {t t' : Nat} (I : L2.Inv X pins σ H { heap := h', gens := s.gens, drawn := s.drawn, toks := t, os := s.os }) :
    L2.Inv X pins σ (upd H h'.objs.size (LamO h'.objs.size F b)) { heap := h'.push ⟨.type "function", none, .func (PySem.W.kla_fn F.name F.qual F.params b F.scope F.cl pm (.ref F.c) ctv), #[]⟩, gens := s.gens, drawn := s.drawn, toks := t', os := s.os } :=
  Inv.laid (s := { heap := h', gens := s.gens, drawn := s.drawn, toks := t, os := s.os }) I (fun b u e => Heap.get?_push_of_some _ e) (Nat.le_refl _) (lamO_ok ⟨none, #[], pm, ctv, Heap.get?_push_size h' rfl⟩)
/-- a lambda is made -/
theorem lam_make {T : List NTab} {nm : Nat → Nat → Str} {c P : Addr} {params : Arguments} {body : Expr} {scope : Scope} {pos : Pos} {E Q : Value → Shared → Prop} (I : L2.Inv X pins σ H s) (TB : TabB X.base X.mg c P) (hcode : X.env.code = .ref c) (hm : (P, nm) ∈ T)
    (hn : nm pos.line pos.col = X.env.qual ++ "<lambda>") (hu : ∀ p ∈ T, p.1 = P → p.2 = nm) (hT : TabsN T H) (hdef : defaultsOf params X.env = ([], []))
    (hfree : ∀ y ∈ scope.names, y.2 = NameKind.free → ∃ c, X.env.cells.lookup y.1 = some c)
    (h : ∀ (f c' : Addr) (H1 : Hp) (s' : Shared), L2.Inv X pins σ H1 s' → (∀ b o, H b = some o → b ≠ P → H1 b = some o) → (∀ b, H1 b = none → H b = none) → TabsN T H1 → H f = none →
      H1 f = some (LamO f ⟨"<lambda>", X.env.qual ++ "<lambda>", params, [], scope, cloFrom X.env.cells scope.names [], c'⟩ body) → H1 c' = some (CodeO c' (X.env.qual ++ "<lambda>")) → Q (.ref f) s') :
    wpAny (model X.prog X.w) X.A (eval (.Lambda params body scope pos) X.env) Q E s := by
  obtain ⟨ps, hP, ht, ha⟩ := hT (P, nm) hm
  refine PySem.W.kla_eval hdef ?_
  have bP := Heap.BuiltinsAt.keeps TB.bm (Inv.bk I)
  have hP' : s.heap.get? P = some (PySem.W.tabObj ps) := by
    have z := I.hok P (.tbl ps) hP
    unfold ObjOk at z
    exact z
  cases hc : codeAmong pos ps.toList with
  | none =>
    refine PySem.W.kla_makeFunction (closure_ok hfree) I.ok.glob (Heap.Ns.keeps (Inv.mod I).glob (Inv.bk I)) hcode (PySem.W.CodeHd.keeps TB.code (Inv.bk I)) hP' ht hc TB.gP bP fun c' ctv h' tk hx hge hlt hrec htb => ?_
    obtain ⟨c2, oc, vs, t, e2, hoc, hd, hv⟩ := hrec
    cases e2
    have nC := HOk.fresh I.hok hge
    have I1 := inv_table (t' := tk) I hP (fun b o hb e => hx b o hb e) htb hge ⟨oc, vs, t, hoc, hd, hv⟩
    have I2 := inv_lam (F := ⟨"<lambda>", X.env.qual ++ "<lambda>", params, [], scope, cloFrom X.env.cells scope.names [], c'⟩) (b := body) (pm := (X.mg "__name__").getD .none) (ctv := ctv) (t' := tk) I1
    have nF : upd (upd H P (.tbl (ps ++ #[rawInt ↑pos.line, rawInt ↑pos.col, .ref c']))) c' (CodeO c' (X.env.qual ++ "<lambda>")) h'.objs.size = none := HOk.fresh I1.hok (Nat.le_refl _)
    have nF2 : h'.objs.size ≠ c' := fun z => by rw [z, upd_same] at nF; cases nF
    have nFP : h'.objs.size ≠ P := fun z => by
      rw [z, upd_ne (ne_of_none hP nC), upd_same] at nF
      cases nF
    have nFH : H h'.objs.size = none := by rw [upd_ne nF2, upd_ne nFP] at nF; exact nF
    have hE : ∀ (b : Addr) (o : HO), H b = some o → b ≠ P → upd (upd (upd H P (.tbl (ps ++ #[rawInt ↑pos.line, rawInt ↑pos.col, .ref c']))) c' (CodeO c' (X.env.qual ++ "<lambda>"))) h'.objs.size (LamO h'.objs.size ⟨"<lambda>", X.env.qual ++ "<lambda>", params, [], scope, cloFrom X.env.cells scope.names [], c'⟩ body) b = some o := fun b o e n => by
      rw [upd_ne (ne_of_none e nFH), upd_ne (ne_of_none e nC), upd_ne]
      · exact e
      · exact n
    refine h h'.objs.size c' _ _ I2 hE (fun b e => ?_) (fun p hp => ?_) nFH upd_same ?_
    · by_cases z1 : b = h'.objs.size
      · rw [z1]; exact nFH
      · rw [upd_ne z1] at e
        by_cases z2 : b = c'
        · rw [z2]; exact nC
        · rw [upd_ne z2] at e
          by_cases z3 : b = P
          · rw [z3, upd_same] at e; cases e
          · rw [upd_ne z3] at e; exact e
    · by_cases hb : p.1 = P
      · rw [hu p hp hb, hb]
        refine ⟨ps ++ #[rawInt ↑pos.line, rawInt ↑pos.col, .ref c'], ?_, ?_, fun p' cv hcv => ?_⟩
        · rw [upd_ne (Ne.symm nFP), upd_ne (ne_of_none hP nC), upd_same]
        · rw [Array.toList_append]
          exact TriplesOk_snoc _ _ _ _ ht
        · rw [Array.toList_append] at hcv
          rcases among_app2 ps.toList ht hcv with z | ⟨z, z1, z2⟩
          · obtain ⟨c0, e1, e2⟩ := ha p' cv z
            exact ⟨c0, e1, hE c0 _ e2 (fun z => by rw [z, hP] at e2; exact codeO_ne ps (Option.some.inj e2).symm)⟩
          · refine ⟨c', z, ?_⟩
            rw [upd_ne (Ne.symm nF2), upd_same, ← z1, ← z2, hn]
      · obtain ⟨ps', a1, a2, a3⟩ := hT p hp
        refine ⟨ps', ?_, a2, fun p' cv hcv => ?_⟩
        · rw [upd_ne (ne_of_none a1 nFH), upd_ne (ne_of_none a1 nC), upd_ne hb]
          exact a1
        · obtain ⟨c0, e1, e2⟩ := a3 p' cv hcv
          exact ⟨c0, e1, hE c0 _ e2 (fun z => by rw [z, hP] at e2; exact codeO_ne ps (Option.some.inj e2).symm)⟩
    · rw [upd_ne (Ne.symm nF2), upd_same]
  | some cv =>
    obtain ⟨c', e1, hC⟩ := ha pos cv hc
    subst e1
    refine PySem.W.kla_makeFunctionHit (closure_ok hfree) I.ok.glob (Heap.Ns.keeps (Inv.mod I).glob (Inv.bk I)) hcode (PySem.W.CodeHd.keeps TB.code (Inv.bk I)) hP' ht hc bP fun ctv h' tk hx hge => ?_
    have nFH : H h'.objs.size = none := HOk.fresh I.hok hge
    have hE : ∀ (b : Addr) (o : HO), H b = some o → upd H h'.objs.size (LamO h'.objs.size ⟨"<lambda>", X.env.qual ++ "<lambda>", params, [], scope, cloFrom X.env.cells scope.names [], c'⟩ body) b = some o := fun b o e => by
      rw [upd_ne (ne_of_none e nFH)]; exact e
    have I2 : L2.Inv X pins σ (upd H h'.objs.size (LamO h'.objs.size ⟨"<lambda>", X.env.qual ++ "<lambda>", params, [], scope, cloFrom X.env.cells scope.names [], c'⟩ body)) { heap := h'.push ⟨.type "function", none, .func (PySem.W.kla_fn "<lambda>" (X.env.qual ++ "<lambda>") params body scope (cloFrom X.env.cells scope.names []) ((X.mg "__name__").getD .none) (.ref c') ctv), #[]⟩, gens := s.gens, drawn := s.drawn, toks := tk, os := s.os } :=
      Inv.laid I (fun b u e => Heap.get?_push_of_some _ (hx b u e)) hge (lamO_ok ⟨none, #[], _, ctv, Heap.get?_push_size h' rfl⟩)
    refine h h'.objs.size c' _ _ I2 (fun b o e _ => hE b o e) (fun b e => ?_) (fun p hp => TabN.ext (hT p hp) hE) nFH upd_same ?_
    · by_cases z1 : b = h'.objs.size
      · rw [z1]; exact nFH
      · rw [upd_ne z1] at e; exact e
    · have z := hE _ _ hC
      rw [show (P, nm).2 pos.line pos.col = X.env.qual ++ "<lambda>" from hn] at z
      exact z
end
/-- what a lambda does when called -/
structure LOk (P : Program) (w : World) (K : PySem.W.Frag) (mg : Str → Option Value) (base : Heap) (CX : CXT) (k : Nat) (f : Addr) (F : NF) (b : Expr) (ps fr : List Str) (sp : List (Option V) → Sp) : Prop where
  len : ∀ (ws : List (Option V)) (vs : List V) (H : Hp) (Q : VK) (E : XK), sp ws vs H Q E → vs.length = ps.length
  run : ∀ (A : Around) (outer : List PySem.Env) (s : Shared) (H : Hp) (us : List Value) (vs : List V) (ws : List (Option V)) (Q : VK) (E : XK), Room k A → Env0 P w K mg base A outer s H →
    H f = some (LamO f F b) → H F.c = some (CodeO F.c F.qual) → CellsAt F.cl fr ws s.heap H → Vals vs us → sp ws vs H Q E → codeAny (model P w) A (Code.call (.ref f) { pos := us }) (CR CX outer P w H s Q E) s
theorem lok_of {CX : CXT} {P : Program} {w : World} {K : PySem.W.Frag} {mg : Str → Option Value} {base : Heap} {N ps fr : List Str} {F : NF} {b : Expr} {f : Addr} {k : Nat} {sp : List (Option V) → Sp} (S : NScope N ps fr F.scope)
    (hb : ∀ (pm ctv : Value) (us : List Value), us.length = ps.length → bindArgs (PySem.W.kla_fn F.name F.qual F.params b F.scope F.cl pm (.ref F.c) ctv) { pos := us } = pure (ps.zip us))
    (len : ∀ (ws : List (Option V)) (vs : List V) (H : Hp) (Q : VK) (E : XK), sp ws vs H Q E → vs.length = ps.length)
    (hbody : ∀ (A : Around) (outer : List PySem.Env) (s : Shared) (H : Hp) (vs : List V) (ws : List (Option V)) (Q : VK) (E : XK), Room k (A.deeper (envF F f s.heap.objs.size)) → H f = some (LamO f F b) → H F.c = some (CodeO F.c F.qual) → ws.length = fr.length → sp ws vs H Q E →
      ∃ t, PE (ncx CX P w K mg base N F f A outer s H E) b t ∧ t (startF N vs ws) H Q) : LOk P w K mg base CX (k + 1) f F b ps fr sp := by
  refine ⟨len, fun A outer s H us vs ws Q E hr e0 hf hc C r hsp => ?_⟩
  have hl := len ws vs H Q E hsp
  have lim := Heap.NoLimit.keeps e0.mod.nolimit fun b o e => (e0.bs b o e).1
  obtain ⟨od, sl, pm, ctv, ho⟩ := lamO_at e0.hok hf
  refine PySem.W.kla_callFunE (Room.depth hr) ho rfl S.co S.gen rfl (codeO_at e0.hok hc) ?_
  rw [hb pm ctv us (by rw [← Vals.length r]; exact hl)]
  refine wpAny_pure ?_
  refine wpAny_newFunctionEnv S.nocell (fun ⟨n, _⟩ hy => S.par n (List.of_mem_zip hy).1) (fun h₁ hns hsb => ⟨Heap.NoLimit.fresh lim _ hsb, ?_⟩) S.kind
  refine PySem.W.kla_codeExpr ?_
  have kp : ∀ b o, s.heap.get? b = some o → h₁.get? b = some o := fun b o e => Heap.SameBut.extBut hsb b o (Nat.ne_of_lt (Heap.lt_size e)) (Heap.get?_push_of_some _ e)
  obtain ⟨t, ht, hq⟩ := hbody A outer s H vs ws Q E (Room.deeper hr _) hf hc C.len hsp
  have I := inv_startN (CX := CX) (E := E) (f := f) (tk := s.toks + (ps.zip us).length) S hr.hd e0 hl r C hns kp
  refine wpAny_mono (ht.run [] _ (startF N vs ws) H Q I hq) (fun v s' ⟨v', H', J, rv, q⟩ => ⟨v', H', J.os, J.bare, J.base, J.hok, rv, q⟩) fun e s' hs => hs
section
variable {X : Cx} {CX : CXT} {F : NF} {b : Expr} {ps fr : List Str} {j k : Nat} {sp : List (Option V) → Sp} {E : XK} {pins : List (Addr × Obj)} {σ : L2.St} {H : Hp} {s : Shared} {Q : VK} {f : Addr}
theorem run_l {us : List Value} {vs : List V} {ws : List (Option V)} (Fn : LOk X.prog X.w X.K X.mg X.base CX k f F b ps fr sp) (hr : Room j X.A) (hk : k ≤ j) (hx : Passes CX X E) (I : L2.Inv X pins σ H s) (hf : H f = some (LamO f F b)) (hc : H F.c = some (CodeO F.c F.qual))
    (C : CellsAt F.cl fr ws s.heap H) (r : Vals vs us) (q : sp ws vs H Q E) : wpAny (model X.prog X.w) X.A (call (.ref f) us) (EP X pins σ Q) X.xe s := by
  refine wpAny_call (codeAny_mono (Fn.run X.A X.stack s H us vs ws Q E (hr.mono hk) (Inv.env0 I) hf hc C r q) fun r s' hq => ?_)
  cases r with
  | error e => exact hx pins σ H s e s' I hq
  | ok fl =>
    cases fl with
    | ret u => exact Inv.after I hq
    | _ => exact False.elim hq
theorem lam_fnAt (I : L2.Inv X pins σ H s) (hf : H f = some (LamO f F b)) : PySem.W.FnAt f s.heap := by
  obtain ⟨od, sl, pm, ctv, ho⟩ := lamO_at I.hok hf
  exact ⟨_, _, _, _, ho⟩
/-- a lambda without captured names -/
theorem cells_nil {h : Heap} {H : Hp} : CellsAt [] [] [] h H := ⟨rfl, fun _ _ e => (nomatch e), fun _ _ _ e => (nomatch e), fun _ _ e => (nomatch e)⟩
def tCallLam (mk : Addr → NF) (b : Expr) (i : Nat) (sp : Sp) (E : XK) (t : TA) : TE := fun σ H Q => ∃ f c', σ[i]? = some (some (.ref f)) ∧ H f = some (LamO f (mk c') b) ∧ t σ H fun vs H1 =>
  H1 f = some (LamO f (mk c') b) ∧ H1 (mk c').c = some (CodeO (mk c').c (mk c').qual) ∧ sp vs H1 Q E
theorem pe_callLam {mk : Addr → NF} {i : Nat} {x : Str} {sp : Sp} {t : TA} {e : Expr} {es : List Expr} {p pos : Pos} (Fn : ∀ (f c' : Addr), LOk X.prog X.w X.K X.mg X.base CX k f (mk c') b ps [] fun _ => sp) (hcl : ∀ c', (mk c').cl = []) (hr : Room j X.A) (hk : k ≤ j) (hx : Passes CX X E)
    (hN : X.N[i]? = some x) (hv : Vis X.env.scope x) (ha : PA X (e :: es) t) (hd : (x == ("__debug__" : Str)) = false := by decide) (hcd : (x == ("__classdict__" : Str)) = false := by decide)
    (he : starEach (e :: es) X.env = (false, eval e X.env) :: starEach es X.env := by rfl) (hpl : (backTo pos (starEach es X.env)).any (·.1) = false := by rfl) : PE X (.Call (.Name x p) (e :: es) [] pos) (tCallLam mk b i sp E t) := by
  refine ⟨fun pins s σ H Q I h => ?_⟩
  obtain ⟨f, c', hs, hf, ht⟩ := h
  refine wpAny_Call_Name_kw (thn ((pe_var hN hv hd hcd).run pins s σ H (fun v H1 => v = .ref f ∧ H1 = H) I ⟨.ref f, hs, rfl, rfl⟩) fun u s1 ⟨v, H1, I1, r1, ev, eH⟩ => ?_)
  subst ev
  subst eH
  have r1 : u = .ref f := r1
  subst r1
  refine PySem.W.callWith_F (lam_fnAt I1 hf) (thn (ha.run pos pins s1 σ H1 _ I1 ht) fun us s2 ⟨vs, H2, I2, r, h1, h2, q⟩ => ⟨lam_fnAt I2 h1, ?_⟩) he hpl
  exact run_l (ws := []) (Fn f c') hr hk hx I2 h1 h2 (by rw [hcl]; exact cells_nil) r q
def tLamO (T : List NTab) (P : Addr) (mk : Addr → NF) (b : Expr) : TE := fun σ H Q => TabsN T H ∧ ∀ (f c' : Addr) (H1 : Hp), (∀ b o, H b = some o → b ≠ P → H1 b = some o) → (∀ b, H1 b = none → H b = none) → TabsN T H1 → H f = none → H1 f = some (LamO f (mk c') b) → H1 c' = some (CodeO c' (mk c').qual) → Q (.ref f) H1
theorem pe_lam {T : List NTab} {nm : Nat → Nat → Str} {c P : Addr} {params : Arguments} {body : Expr} {scope : Scope} {pos : Pos} (TB : TabB X.base X.mg c P) (hcode : X.env.code = .ref c) (hm : (P, nm) ∈ T)
    (hn : nm pos.line pos.col = X.env.qual ++ "<lambda>") (hu : ∀ p ∈ T, p.1 = P → p.2 = nm) (hdef : defaultsOf params X.env = ([], []))
    (hfree : ∀ y ∈ scope.names, y.2 = NameKind.free → X.env.scope.names.lookup y.1 = some .cell ∨ X.env.scope.names.lookup y.1 = some .free) :
    PE X (.Lambda params body scope pos) (tLamO T P (fun c' => ⟨"<lambda>", X.env.qual ++ "<lambda>", params, [], scope, cloFrom X.env.cells scope.names [], c'⟩) body) := by
  refine ⟨fun pins s σ H Q I ⟨hT, h⟩ => ?_⟩
  refine lam_make I TB hcode hm hn hu hT hdef (fun y hy hf => I.ok.has y.1 (hfree y hy hf)) fun f c' H1 s' I1 h1 h2 h3 h4 h5 h6 => ?_
  exact ⟨.ref f, H1, I1, rfl, h f c' H1 h1 h2 h3 h4 h5 h6⟩
end
/-! ### in the layer -/
section
variable {C : Cc} {E : XK} {X : Cx}
theorem RS.outx {m : List Addr} {S : Store} {H : Hp} (r : RS C m S H) {p : Addr} {φ : Heap → Prop} (h : H p = some (.ext φ)) : Off C m p := by
  constructor
  · intro q
    obtain ⟨n, hn⟩ := List.getElem?_of_mem q
    have hl : n < S.length := by rw [← r.len]; exact (List.getElem?_eq_some_iff.mp hn).1
    exact (r.cell n _ p (List.getElem?_eq_getElem hl) hn).noext φ h
  · intro q
    rcases List.mem_append.mp q with q | q
    · obtain ⟨⟨a, vs⟩, h1, h2⟩ := List.mem_map.mp q
      obtain ⟨_, e⟩ := r.own _ h1
      have h2 : a = p := h2
      subst h2
      rw [h] at e
      cases e
    · obtain ⟨⟨a, nm⟩, h1, h2⟩ := List.mem_map.mp q
      obtain ⟨_, ps, e, _⟩ := r.tab _ h1
      have h2 : a = p := h2
      subst h2
      rw [h] at e
      cases e
/-- lambda .. -/
theorem se_lam (k : Nat) {nm : Nat → Nat → Str} {c P : Addr} {params : Arguments} {body : Expr} {scope : Scope} {pos : Pos} (TB : TabB X.base X.mg c P) (hcode : X.env.code = .ref c) (hm : (P, nm) ∈ C.tb)
    (hn : nm pos.line pos.col = X.env.qual ++ "<lambda>") (hu : ∀ p ∈ C.tb, p.1 = P → p.2 = nm) (hfn : C.fn k = ((fun c' => ⟨"<lambda>", X.env.qual ++ "<lambda>", params, [], scope, [], c'⟩), body)) (hcl : cloFrom X.env.cells scope.names [] = [] := by rfl) (hdef : defaultsOf params X.env = ([], []) := by rfl)
    (hnf : (scope.names.all fun y => decide (y.2 ≠ NameKind.free)) = true) : SE C E X (.Lambda params body scope pos) (cK (.fn k)) := by
  have hfree : ∀ y ∈ scope.names, y.2 = NameKind.free → X.env.scope.names.lookup y.1 = some .cell ∨ X.env.scope.names.lookup y.1 = some .free := fun y hy hf => absurd hf (of_decide_eq_true (List.all_eq_true.mp hnf y hy))
  refine pe_imp (pe_lam TB hcode hm hn hu hdef hfree) fun σ H Q ⟨m, S, ρ, hs, he, w⟩ => ?_
  refine ⟨fun q hq => (hs.tab q hq).2, fun f c' H1 h1 h2 h3 h4 h5 h6 => ?_⟩
  have hPm : P ∉ m := (hs.tab _ hm).1
  have hPr : ∀ p, Off C m p → p ≠ P := fun p n z => n.2 (List.mem_append_right _ (z ▸ List.mem_map_of_mem hm))
  have x : Ext C m H m H1 := ⟨⟨[], by simp⟩, fun p o e n => ⟨h1 p o e (hPr p n), n⟩⟩
  have r : RS C m S H1 := by
    refine ⟨hs.len, hs.nd, fun q hq => ?_, fun n o p k1 k2 => ?_, fun q hq => ⟨(hs.tab q hq).1, h3 q hq⟩⟩
    · obtain ⟨k1, k2⟩ := hs.own q hq
      refine ⟨k1, h1 _ _ k2 fun z => ?_⟩
      obtain ⟨_, ps, e, _⟩ := hs.tab _ hm
      rw [z] at k2
      rw [k2] at e
      cases e
    · have z := hs.cell n o p k1 k2
      refine z.ext x ?_
      obtain ⟨u, e, _⟩ := z.alive
      rw [e]
      exact h1 p u e fun z => hPm (z ▸ List.mem_of_getElem? k2)
  rw [hcl] at h5
  refine w m H1 (.ref f) x r ?_
  show RD C m H1 (.fn k) (.ref f)
  unfold RD
  rw [hfn]
  exact ⟨f, c', rfl, h5, r.outx h5, h6, r.outx h6⟩
/-- what a lambda gives -/
def lamF (N n : Nat) (b : M A) : List A → Store → R A := fun as S => if as.length = n then (b (startE N as) S).bind (retA false S.length) else .bad
theorem lam_ok {P : Program} {w : World} {K : Fr} {mg : Str → Option Value} {base : Heap} {N ps : List Str} {F : NF} {b : Expr} {f : Addr} {k : Nat} {body : M A} (S : NScope N ps [] F.scope)
    (hb : ∀ (pm ctv : Value) (us : List Value), us.length = ps.length → bindArgs (PySem.W.kla_fn F.name F.qual F.params b F.scope F.cl pm (.ref F.c) ctv) { pos := us } = pure (ps.zip us))
    (run : ∀ (A' : Around) (outer : List PySem.Env) (s : Shared) (H : Hp) (E : XK) (z : List (Addr × List V)), Room k (A'.deeper (envF F f s.heap.objs.size)) → SE (C.wz z) E (ncx (L2.CX P w) P w K mg base N F f A' outer s H E) b body) :
    LOk P w K mg base (L2.CX P w) (k + 1) f F b ps [] fun _ => spF C ps.length (lamF N.length ps.length body) := by
  refine lok_of S hb (fun ws vs H Q E h => ?_) fun A' outer s H vs ws Q E hr h1 h2 h3 h => ?_
  · obtain ⟨z, m, St, as, hs, ha, hl, _⟩ := h
    rw [← Paired.length ha]; exact hl
  · obtain ⟨z, m, St, as, hs, ha, hl, w'⟩ := h
    have ew : ws = [] := List.eq_nil_of_length_eq_zero h3
    subst ew
    refine ⟨_, run A' outer s H E z hr, m, St, startE N.length as, hs, ?_, ?_⟩
    · have e : startF N vs [] = L2.start N vs := by simp [startF, L2.start]
      rw [e]
      exact re_start ha
    · unfold lamF at w'
      rw [if_pos hl] at w'
      cases hB : body (startE N.length as) St with
      | bad => rw [hB] at w'; exact False.elim w'
      | exc x S1 => rw [hB] at w'; exact w'
      | ok a S1 =>
        rw [hB] at w'
        simp only [RS.R.bind] at w'
        intro m' H' v x r q
        exact ret_of (keep := false) hs x r q w'
theorem pass_ncx {P : Program} {w : World} {K : Fr} {mg : Str → Option Value} {base : Heap} {N : List Str} {F : NF} {f : Addr} {A' : Around} {outer : List PySem.Env} {s : Shared} {H : Hp} {E : XK} :
    Passes (L2.CX P w) (ncx (L2.CX P w) P w K mg base N F f A' outer s H E) E :=
  passes_call (X := ncx (L2.CX P w) P w K mg base N F f A' outer s H E) (W := fun cls d _ H => E cls d H) (takes_of rfl rfl rfl rfl) fun _ _ _ _ h => h
/-- f(..), f a name that holds a lambda -/
def callL (i cnt n : Nat) (G : Nat → List A → Store → R A) (fs : M (List A)) : M A := fun ρ S => match ρ[i]? with
  | some (some (.d (.fn k))) => if k < cnt then (fs ρ S).bind fun as S1 => if as.length = n then G k as S1 else .bad else .bad
  | _ => .bad
theorem pe_any {α : Type} {e : Expr} {t : α → TE} (h : ∀ a, PE X e (t a)) : PE X e (fun σ H Q => ∃ a, t a σ H Q) := ⟨fun pins s σ H Q I ⟨a, q⟩ => (h a).run pins s σ H Q I q⟩
theorem se_callL {i cnt j k : Nat} {ps : List Str} {x : Str} {G : Nat → List A → Store → R A} {fs : M (List A)} {e : Expr} {es : List Expr} {p pos : Pos} (Fn : ∀ n, n < cnt → ∀ (f c' : Addr), LOk X.prog X.w X.K X.mg X.base (L2.CX X.prog X.w) k f ((C.fn n).1 c') (C.fn n).2 ps [] fun _ => spF C ps.length (G n))
    (hcl : ∀ n, n < cnt → ∀ c', ((C.fn n).1 c').cl = []) (hr : Room j X.A) (hk : k ≤ j) (hx : Passes (L2.CX X.prog X.w) X E)
    (hN : X.N[i]? = some x) (hv : Vis X.env.scope x) (ha : SA C E X (e :: es) fs) (hd : (x == ("__debug__" : Str)) = false := by decide) (hcd : (x == ("__classdict__" : Str)) = false := by decide)
    (he : starEach (e :: es) X.env = (false, eval e X.env) :: starEach es X.env := by rfl) (hpl : (backTo pos (starEach es X.env)).any (·.1) = false := by rfl) : SE C E X (.Call (.Name x p) (e :: es) [] pos) (callL i cnt ps.length G fs) := by
  refine pe_imp (pe_any (α := { n : Nat // n < cnt }) fun n => pe_callLam (mk := (C.fn n.1).1) (b := (C.fn n.1).2) (sp := spF C ps.length (G n.1)) (fun f c' => Fn n.1 n.2 f c') (hcl n.1 n.2) hr hk hx hN hv ha hd hcd he hpl) fun σ H Q ⟨m, S, ρ, hs, he, w⟩ => ?_
  unfold callL at w
  split at w
  · rename_i n hn
    split at w
    · rename_i hlt
      obtain ⟨v, h1, h2⟩ := he.at_ i _ hn
      obtain ⟨f, c', rfl, k1, o1, k2, o2⟩ := h2.fn
      refine ⟨⟨n, hlt⟩, f, c', h1, k1, ?_⟩
      refine tA_then (g := fun as _ S1 => if as.length = ps.length then G n as S1 else .bad) hs he w fun m1 S1 as vs H1 x1 r1 e1 q1 w1 => ?_
      split at w1
      · rename_i hl
        exact ⟨(x1.stay _ _ k1 o1).1, (x1.stay _ _ k2 o2).1, sp_of r1 q1 hl w1⟩
      · exact False.elim w1
    · exact False.elim w
  · exact False.elim w
end
end RS
end

section
set_option maxRecDepth 100000
set_option maxHeartbeats 4000000
/-! Defs whose code's address is told. -/
namespace RS
open PySem PySem.Spec PyProof.Rows L2 NdefX LamX

/-- where a def's code stands; where its table stands -/
def cA (ad : Fr → Addr) : Fr → Addr := fun K => match K.lookup (ad K) with
  | some ob => (match ob.data with
    | .func z => (match z.code with
      | .ref c => c
      | _ => 0)
    | _ => 0)
  | none => 0
def tabA (ad : Fr → Addr) : Fr → Addr := fun K => match K.lookup (cA ad K) with
  | some ob => (match ob.data with
    | .fields vs => (match vs[11]? with
      | some (Value.ref P) => P
      | _ => 0)
    | _ => 0)
  | none => 0
/-- a def's code is an address -/
def fCode (ad : Fr → Addr) : Fr → Bool := fun K => match K.lookup (ad K) with
  | some ob => (match ob.data with
    | .func z => (match z.code with
      | .ref _ => true
      | _ => false)
    | _ => false)
  | none => false
theorem code_at {K : Fr} {d : DefP} {fd : FuncData} (h : FnAt K d fd) (e : fCode d.ad K = true) : fd.code = .ref (cA d.ad K) := by
  obtain ⟨oc, od, a1, a2, a3, a4, a5, a6, a7, osl, e1, q, _⟩ := h.ex
  unfold fCode at e
  unfold cA
  rw [q] at e ⊢
  simp only at e ⊢
  split at e
  · rename_i c hc
    rw [hc]
  · cases e
theorem fn_makeC {C : Cc} {P : Program} {w : World} {K : Fr} {mg : Str → Option Value} {base : Heap} {d : DefP} {fd : FuncData} {N ps : List Str} {k : Nat} {body : M Fl} (keep : Bool) (F : FnAt K d fd) (S : FnScope N ps d.scope)
    (hb : ∀ (A' : Around) (outer : List PySem.Env) (s : Shared) (H : Hp) (E : XK) (z : List (Addr × List V)), Room k (A'.deeper (envOfC d.qual d.scope s.heap.objs.size (d.ad K) fd.code)) →
      SSs (C.wz z) E (cxOf (L2.CX P w) P w K mg base N d.qual d.scope (d.ad K) fd.code A' outer s H E) d.body body) :
    FnOk P w K mg base (L2.CX P w) (k + 1) (d.ad K) fd ps (spF C ps.length (fnF N.length ps.length keep body)) := by
  have F2 := F
  obtain ⟨oc, od, dV, kV, doc, pm, an, cdv, ct, osl, e1, q, hc, _⟩ := F.ex
  have len : ∀ (vs : List V) (H : Hp) (Q : VK) (E : XK), spF C ps.length (fnF N.length ps.length keep body) vs H Q E → vs.length = ps.length := fun vs H Q E ⟨z, m, St', as, hs, ha, hl, _⟩ => by
    rw [← Paired.length ha]; exact hl
  subst e1
  refine ⟨len, fun A' outer s H args us vs Q E hr e0 hbt r h => ?_⟩
  refine run_ofS q hc S hr e0 hbt r (len _ _ _ _ h) fun hr' => ?_
  obtain ⟨z, m, S0, as, hs, ha, hl, w'⟩ := h
  refine ⟨_, hb A' outer s H E z hr', m, S0, startE N.length as, hs, re_start ha, ?_⟩
  unfold fnF at w'
  rw [if_pos hl] at w'
  cases hB : body (startE N.length as) S0 with
  | bad => rw [hB] at w'; exact False.elim w'
  | exc x S1 => rw [hB] at w'; exact w'
  | ok fl S1 =>
    rw [hB] at w'
    simp only [RS.R.bind] at w'
    intro m' H' o x r q
    cases fl <;> cases o <;> first
      | exact False.elim q
      | exact False.elim w'
      | exact ret_of (keep := keep) hs x r q w'
      | exact ret_of (keep := keep) (a := .d .non) hs x r RA.mkNon w'
/-- a def from its body, its code told -/
theorem Ok.makeC {L : Lm} {P : Program} {w : World} {K : Fr} {mg : Str → Option Value} {base : Heap} {d : DefP} {N ps : List Str} {k : Nat} {body : M Fl} (keep : Bool) (h : ∃ fd, FnAt K d fd) (hcd : fCode d.ad K = true) (S : FnScope N ps d.scope) (hd : d.dfl = [] := by rfl)
    (hb : ∀ (kV doc pm : Value) (an : Option Addr) (cdv ct : Value) (us : List Value), us.length = ps.length → bindArgs (PySem.W.fnOf d.name d.qual d.params d.body d.scope .none kV doc pm an cdv ct) ⟨us, []⟩ = pure (ps.zip us))
    (run : ∀ (cdv : Value), cdv = .ref (cA d.ad K) → ∀ (A' : Around) (outer : List PySem.Env) (s : Shared) (H : Hp) (E : XK) (z : List (Addr × List V)), Room k (A'.deeper (envOfC d.qual d.scope s.heap.objs.size (d.ad K) cdv)) →
      SSs ((cc L K).wz z) E (cxOf (L2.CX P w) P w K mg base N d.qual d.scope (d.ad K) cdv A' outer s H E) d.body body) :
    Ok L P w K mg base d (k + 1) ps (fnF N.length ps.length keep body) := by
  obtain ⟨fd, h⟩ := h
  have h2 := h
  have e : d.dvs K = [] := by unfold DefP.dvs; rw [hd]; rfl
  refine ⟨fd, h2, fn_makeC (C := cc L K) keep h S (run fd.code (code_at h hcd)), ?_⟩
  unfold FnAt at h
  rw [e] at h
  exact h.bindsN hb
end RS
end

section
set_option maxRecDepth 100000
set_option maxHeartbeats 4000000
/-! The head's Hook with the empty tables of code told. -/
namespace RS
open PySem PySem.Spec PyProof.Rows L2 NdefX LamX

/-- an empty table -/
def empT (o : Option Obj) : Bool := match o with
  | some ⟨.none, none, .fields a, sl⟩ => a.isEmpty && sl.isEmpty
  | _ => false
theorem empT_ok {o : Option Obj} (h : empT o = true) : o = some { cls := .none, data := .fields #[] } := by
  unfold empT at h
  split at h
  · rename_i a sl
    rw [Bool.and_eq_true, Array.isEmpty_iff, Array.isEmpty_iff] at h
    rw [h.1, h.2]
  · cases h
def frT (g : Addr → Option Obj) (n : Nat) : Fr := He.frG g ((He.asD g n).filter fun a => !empT (g a))
def seesT (n : Nat) (tbs : List (Fr → Addr)) (fs : List (Fr → Bool)) (ds : List DefP) (g : Addr → Option Obj) : He.AlD :=
  ((sees fs ds (frT g n)).1 && tbs.all fun ad => empT (g (tabA ad (frT g n))), (sees fs ds (frT g n)).2)
theorem frG_mem {g : Addr → Option Obj} {a : Addr} {o : Obj} : ∀ {as : List Addr}, (He.frG g as).lookup a = some o → a ∈ as
  | [], h => by cases h
  | b :: as, h => by
    unfold He.frG at h
    rw [List.filterMap_cons] at h
    split at h
    · exact List.mem_cons_of_mem _ (frG_mem h)
    · rename_i p e
      obtain ⟨o2, _, rfl⟩ := Option.map_eq_some_iff.mp e
      rw [List.lookup_cons] at h
      by_cases hab : a = b
      · rw [hab]; exact List.mem_cons_self
      · have e2 : (a == b) = false := by simpa using hab
        simp only [e2] at h
        exact List.mem_cons_of_mem _ (frG_mem h)
theorem frT_none {g : Addr → Option Obj} {n : Nat} {a : Addr} (h : empT (g a) = true) : (frT g n).lookup a = none := by
  cases e : (frT g n).lookup a with
  | none => rfl
  | some o =>
    have z := frG_mem e
    rw [List.mem_filter, h] at z
    cases z.2
def hookT (n : Nat) (tbs : List (Fr → Addr)) (fs : List (Fr → Bool)) (ds : List DefP) : PySem.W.Hook where
  α := He.AlD
  obs := fun s => seesT n tbs fs ds s.heap.get?
  val := fun _ => wants ds
  says := fun _ h => ∃ K : Fr, K.In h ∧ Told fs ds K ∧ ∀ ad ∈ tbs, h.get? (tabA ad K) = some { cls := .none, data := .fields #[] } ∧ K.lookup (tabA ad K) = none
  of := fun _ s e => by
    have e0 : seesT n tbs fs ds s.heap.get? = wants ds := e
    have e1 := congrArg (fun x : He.AlD => x.1) e0
    have e2 := congrArg (fun x : He.AlD => x.2) e0
    have e1 : ((sees fs ds (frT s.heap.get? n)).1 && tbs.all fun ad => empT (s.heap.get? (tabA ad (frT s.heap.get? n)))) = true := e1
    have e2 : (sees fs ds (frT s.heap.get? n)).2 = (wants ds).2 := e2
    obtain ⟨h1, h2⟩ := He.ba e1
    exact ⟨frT s.heap.get? n, He.frG_in, Prod.ext h1 e2, fun ad had => ⟨empT_ok (List.all_eq_true.mp h2 ad had), frT_none (List.all_eq_true.mp h2 ad had)⟩⟩
  keeps := fun _ _ _ ⟨K, hK, c, t⟩ k => ⟨K, PySem.W.Frag.In.keeps hK k, c, fun ad had => ⟨k _ _ (t ad had).1, (t ad had).2⟩⟩
theorem seesT_eq {n : Nat} {tbs : List (Fr → Addr)} {fs : List (Fr → Bool)} {ds : List DefP} {g : Addr → Option Obj} {s : Shared} (h : ∀ a, g a = s.heap.get? a) : seesT n tbs fs ds g = (hookT n tbs fs ds).obs s := by
  have e : g = s.heap.get? := funext h
  subst e
  rfl
/-- a code object with its table -/
def fHd (ad : Fr → Addr) : Fr → Bool := fun K => match K.lookup (cA ad K) with
  | some ob => (match ob.cls with
    | .type t => decide (t = "code")
    | _ => false) && (match ob.data with
    | .fields vs => (match vs[11]?, vs.getD 18 .none, vs.getD 7 .none, vs.getD 9 .none, vs.getD 10 .none with
      | some (Value.ref P), .str _ _, .int _ _, .bool _, .int _ _ => decide (cA ad K ≠ P)
      | _, _, _, _, _ => false)
    | _ => false)
  | none => false
theorem hd_ok {K : Fr} {ad : Fr → Addr} {h : Heap} (X : K.In h) (e : fHd ad K = true) : PySem.W.CodeHd h (cA ad K) (tabA ad K) := by
  unfold fHd at e
  cases q : K.lookup (cA ad K) with
  | none => rw [q] at e; cases e
  | some ob =>
    rw [q] at e
    obtain ⟨e1, e2⟩ := He.ba e
    split at e1
    · rename_i t ht
      have ht2 : t = "code" := of_decide_eq_true e1
      subst ht2
      split at e2
      · rename_i vs hvs
        split at e2
        · rename_i P file tf flags tg inF text tt h11 h18 h7 h9 h10
          have hP : tabA ad K = P := by
            unfold tabA
            rw [q]
            simp only [hvs, h11]
          have hne := of_decide_eq_true e2
          refine ⟨ob, vs, file, tf, flags, tg, inF, text, tt, X _ _ q, ht, hvs, by rw [hP]; exact h11, ?_, h18, h7, h9, h10, by rw [hP]; exact hne⟩
          rw [hP]
          simp [Array.getD_eq_getD_getElem?, h11]
        · cases e2
      · cases e2
    · cases e1
end RS
end

section
set_option maxRecDepth 100000
set_option maxHeartbeats 4000000
/-! Meanings at values: what the combinators give. -/
namespace RS
open PySem PySem.Spec

/-- a store whose instances point downwards -/
abbrev Gd (S : Store) : Prop := storeOk S.length S = true
theorem ret_d {keep : Bool} {S : Store} {x : D} (h : Gd S) : retA keep S.length (.d x) S = .ok (.d x) S := by
  unfold retA
  rw [if_pos h]
  simp
/-- .. behind new cells -/
theorem ret_d2 {keep : Bool} {S T : Store} {x : D} (h : Gd S) : retA keep S.length (.d x) (S ++ T) = .ok (.d x) S := by
  have e : storeOk S.length (S ++ T) = true := by
    unfold Gd storeOk at h
    unfold storeOk
    rw [List.take_left]
    rw [List.take_length] at h
    exact h
  unfold retA
  rw [if_pos e]
  simp
theorem gd_lst {S : Store} {ds : List D} (h : Gd S) : Gd (S ++ [.lst ds]) := by
  unfold Gd storeOk at *
  rw [List.take_length] at *
  rw [List.all_append, Bool.and_eq_true]
  refine ⟨List.all_eq_true.mpr fun c hc => ?_, rfl⟩
  have z := List.all_eq_true.mp h c hc
  cases c with
  | lst ds => rfl
  | ins c fs =>
    refine List.all_eq_true.mpr fun p hp => ?_
    have y := List.all_eq_true.mp (show (fs.all fun p => match p.2 with
      | .d _ => true
      | .ref k => decide (k < S.length)
      | .fnc _ _ => false) = true from z) p hp
    cases hq : p.2 with
    | fnc k cs => rw [hq] at y; cases y
    | d x => rfl
    | ref k =>
      rw [hq] at y
      have y : k < S.length := of_decide_eq_true y
      simp only [decide_eq_true_eq, List.length_append, List.length_singleton]
      omega
/-! ### comprehensions -/
section
variable {α : Type} {tg : Tg} {t : M Bool} {e : M A} {ρ : Env} {S : Store}
/-- each item passes the test or not, and gives f -/
theorem lc_ev (g : α → D) (p : α → Bool) (f : α → D) : ∀ {xs : List α} {acc : List D}, (∀ x ∈ xs, ∃ ρ1, tg.put (g x) ρ = some ρ1 ∧ t ρ1 S = .ok (p x) S ∧ (p x = true → e ρ1 S = .ok (.d (f x)) S)) →
    lcL tg t e (xs.map g) ρ S acc = .ok (acc ++ (xs.filter p).map f) S
  | [], acc, _ => by simp [lcL]
  | d :: ds, acc, h => by
    obtain ⟨ρ1, h1, h2, h3⟩ := h d List.mem_cons_self
    have ih := fun acc => lc_ev g p f (xs := ds) (acc := acc) fun d hd => h d (List.mem_cons_of_mem _ hd)
    cases hp : p d with
    | true => simp [lcL, h1, h2, nextX, hp, h3 hp, ih]
    | false => simp [lcL, h1, h2, nextX, hp, ih]
theorem lc_map (g f : α → D) : ∀ {xs : List α} {acc : List D}, (∀ x ∈ xs, ∃ ρ1, tg.put (g x) ρ = some ρ1 ∧ e ρ1 S = .ok (.d (f x)) S) →
    lcL tg tYesM e (xs.map g) ρ S acc = .ok (acc ++ xs.map f) S
  | [], acc, _ => by simp [lcL]
  | d :: ds, acc, h => by
    obtain ⟨ρ1, h1, h3⟩ := h d List.mem_cons_self
    have ih := fun acc => lc_map g f (xs := ds) (acc := acc) fun d hd => h d (List.mem_cons_of_mem _ hd)
    simp [lcL, h1, tYesM, nextX, h3, ih]
variable {vs : List Nat} {q : MI} {S1 S2 : Store} {ds out : List D}
theorem lcM_ev (hq : q ρ S = .ok ds S1) (hl : ds.length ≤ sizeLine) (hL : lcL tg t e ds (wipeE ρ vs) S1 [] = .ok out S2) : lcM false vs q tg t e ρ S = .ok (.d (.fl out)) S2 := by
  simp [lcM, hq, R.bind, hl, hL, lcE]
end
theorem sz {n : Nat} (h : n ≤ 1000) : n ≤ sizeLine := Nat.le_trans h (by decide)
/-- a comprehension over typed items, nothing changed -/
theorem comp_ev {α : Type} {tg : Tg} {t : M Bool} {e : M A} {ρ : Env} {S : Store} {vs : List Nat} {q : MI} (g : α → D) (p : α → Bool) (f : α → D) {xs : List α} (hq : q ρ S = .ok (xs.map g) S) (hl : xs.length ≤ 1000)
    (h : ∀ x ∈ xs, ∃ ρ1, tg.put (g x) (wipeE ρ vs) = some ρ1 ∧ t ρ1 S = .ok (p x) S ∧ (p x = true → e ρ1 S = .ok (.d (f x)) S)) : lcM false vs q tg t e ρ S = .ok (.d (.fl ((xs.filter p).map f))) S :=
  lcM_ev hq (by rw [List.length_map]; exact sz hl) (by rw [lc_ev g p f h]; rfl)
theorem comp_map {α : Type} {tg : Tg} {e : M A} {ρ : Env} {S : Store} {vs : List Nat} {q : MI} (g f : α → D) {xs : List α} (hq : q ρ S = .ok (xs.map g) S) (hl : xs.length ≤ 1000)
    (h : ∀ x ∈ xs, ∃ ρ1, tg.put (g x) (wipeE ρ vs) = some ρ1 ∧ e ρ1 S = .ok (.d (f x)) S) : lcM false vs q tg tYesM e ρ S = .ok (.d (.fl (xs.map f))) S :=
  lcM_ev hq (by rw [List.length_map]; exact sz hl) (by rw [lc_map g f h]; rfl)
/-! ### for, while -/
theorem for_ev {α : Type} {g : A → M Env} {b : M Fl} (gD : α → D) (Rl : List α → Env → Store → Prop) : ∀ {xs dn : List α} {ρ : Env} {S : Store}, Rl dn ρ S →
    (∀ d x r, d ++ x :: r = dn ++ xs → ∀ ρ S, Rl d ρ S → ∃ ρ1 S1 ρ2 S2, g (.d (gD x)) ρ S = .ok ρ1 S1 ∧ b ρ1 S1 = .ok (.nx ρ2) S2 ∧ Rl (d ++ [x]) ρ2 S2) →
    ∃ ρ' S', forL g b (xs.map gD) ρ S = .ok (.nx ρ') S' ∧ Rl (dn ++ xs) ρ' S'
  | [], dn, ρ, S, h, _ => ⟨ρ, S, rfl, by simpa using h⟩
  | x :: xs, dn, ρ, S, h, st => by
    obtain ⟨ρ1, S1, ρ2, S2, h1, h2, h3⟩ := st dn x xs rfl ρ S h
    obtain ⟨ρ', S', h4, h5⟩ := for_ev gD Rl (xs := xs) h3 fun d y r e => st d y r (by simpa using e)
    exact ⟨ρ', S', by simp [forL, h1, R.bind, h2, h4], by simpa using h5⟩
theorem while_ev {c : M Bool} {b : M Fl} (I : Nat → Env → Store → Prop) (Post : Env → Store → Prop) (st : ∀ n ρ S, I n ρ S → (c ρ S = .ok false S ∧ Post ρ S) ∨ (c ρ S = .ok true S ∧ ∃ m ρ2 S2, b ρ S = .ok (.nx ρ2) S2 ∧ m < n ∧ I m ρ2 S2)) :
    ∀ {k n : Nat} {ρ : Env} {S : Store}, I n ρ S → n < k → ∃ ρ' S', whileL c b k ρ S = .ok (.nx ρ') S' ∧ Post ρ' S'
  | 0, _, _, _, _, h => absurd h (Nat.not_lt_zero _)
  | k + 1, n, ρ, S, hI, hn => by
    rcases st n ρ S hI with ⟨h1, h2⟩ | ⟨h1, m, ρ2, S2, h2, h3, h4⟩
    · exact ⟨ρ, S, by simp [whileL, h1, R.bind], h2⟩
    · obtain ⟨ρ', S', h5, h6⟩ := while_ev I Post st (k := k) h4 (by omega)
      exact ⟨ρ', S', by simp [whileL, h1, R.bind, h2, h5], h6⟩
/-! ### data -/
theorem blsD_map {α : Type} (f : α → Bool) : ∀ xs : List α, blsD (xs.map fun x => D.bl (f x)) = some (xs.map f)
  | [] => rfl
  | x :: xs => by simp [blsD, blsD_map f xs]
theorem intsD_map : ∀ xs : List Int, intsD (xs.map D.int) = some xs
  | [] => rfl
  | x :: xs => by simp [intsD, intsD_map xs]
theorem sort_unique {xs ys : List Int} (h : xs.Perm ys) (o : ys.Pairwise (· ≤ ·)) : sortI xs = ys :=
  sorted_eq ((sortI_perm xs).trans h) (sortI_pw xs) o
theorem cut_from {α : Type} (xs : List α) (k : Nat) : cutD xs (some (k : Int)) none = xs.drop k := by
  unfold cutD HT.sIx
  have e : ¬ ((k : Int) < 0) := by omega
  simp only [if_neg e, Int.toNat_natCast]
  by_cases h : k ≤ xs.length
  · rw [Nat.min_eq_left h]
    exact List.take_of_length_le (by simp)
  · rw [Nat.min_eq_right (by omega), List.drop_length, List.drop_eq_nil_of_le (by omega)]
    simp
theorem cut_to {α : Type} (xs : List α) (k : Nat) : cutD xs none (some (k : Int)) = xs.take k := by
  unfold cutD HT.sIx
  have e : ¬ ((k : Int) < 0) := by omega
  simp only [if_neg e, Int.toNat_natCast, List.drop_zero, Nat.sub_zero]
  by_cases h : k ≤ xs.length
  · rw [Nat.min_eq_left h]
  · rw [Nat.min_eq_right (by omega), List.take_length, List.take_of_length_le (by omega)]
theorem cut_all {α : Type} (xs : List α) : cutD xs none none = xs := by
  unfold cutD HT.sIx
  simp
/-! ### == and in, over typed data -/
structure Enc (α : Type) [DecidableEq α] (g : α → D) (k : Nat) : Prop where
  ex : ∃ P : α → PyData, (∀ x, pd (g x) = some (P x)) ∧ (∀ x, (P x).canLay0 = true ∧ (P x).depth ≤ k) ∧ ∀ x y, PyData.eqv (P x) (P y) = decide (x = y)
theorem enc_int : Enc Int D.int 0 := ⟨PyData.int, fun _ => rfl, fun _ => ⟨by simp [PyData.canLay0], by simp [PyData.depth]⟩, fun i j => by
  rw [Bool.eq_iff_iff]
  simp [PyData.eqv]⟩
theorem pds_map {α : Type} {g : α → D} {P : α → PyData} (h : ∀ x, pd (g x) = some (P x)) : ∀ xs : List α, pds (xs.map g) = some (xs.map P)
  | [] => rfl
  | x :: xs => by simp [pds, h, pds_map h xs]
theorem lay_map {α : Type} {P : α → PyData} {k : Nat} (h : ∀ x, (P x).canLay0 = true ∧ (P x).depth ≤ k) : ∀ xs : List α, PyData.canLayAll0 (xs.map P) = true ∧ PyData.depthAll (xs.map P) ≤ k
  | [] => by simp [PyData.canLayAll0, PyData.depthAll]
  | x :: xs => by
    have z := lay_map h xs
    have y := h x
    simp [PyData.canLayAll0, PyData.depthAll, y.1, z.1]
    omega
theorem eqv_map {α : Type} [DecidableEq α] {P : α → PyData} (h : ∀ x y, PyData.eqv (P x) (P y) = decide (x = y)) : ∀ xs ys : List α, PyData.eqvAll (xs.map P) (ys.map P) = decide (xs = ys)
  | [], [] => by simp [PyData.eqvAll]
  | [], y :: ys => by simp [PyData.eqvAll]
  | x :: xs, [] => by simp [PyData.eqvAll]
  | x :: xs, y :: ys => by
    rw [Bool.eq_iff_iff]
    simp [PyData.eqvAll, h, eqv_map h xs ys]
theorem enc_tup {α : Type} [DecidableEq α] {g : α → D} {k : Nat} (h : Enc α g k) : Enc (List α) (fun xs => .tup (xs.map g)) (k + 1) := by
  obtain ⟨P, h1, h2, h3⟩ := h.ex
  refine ⟨fun xs => .tuple (xs.map P), fun xs => by simp [pd, pds_map h1], fun xs => ?_, fun xs ys => by simp [PyData.eqv, eqv_map h3]⟩
  have z := lay_map h2 xs
  simp [PyData.canLay0, PyData.depth, z.1]
  omega
theorem enc_fl {α : Type} [DecidableEq α] {g : α → D} {k : Nat} (h : Enc α g k) : Enc (List α) (fun xs => .fl (xs.map g)) (k + 1) := by
  obtain ⟨P, h1, h2, h3⟩ := h.ex
  refine ⟨fun xs => .list (xs.map P), fun xs => by simp [pd, pds_map h1], fun xs => ?_, fun xs ys => by simp [PyData.eqv, eqv_map h3]⟩
  have z := lay_map h2 xs
  simp [PyData.canLay0, PyData.depth, z.1]
  omega
section
variable {α : Type} [DecidableEq α] {g : α → D} {k : Nat} {S : Store} {neg : Bool}
theorem shp {p : PyData} {k : Nat} (h : p.canLay0 = true ∧ p.depth ≤ k) (hk : k ≤ 60) : SeqAt.shaped p = true := by
  unfold SeqAt.shaped
  have : p.depth ≤ 64 := by omega
  simp [h.1, this]
theorem eq_enc (h : Enc α g k) (hk : k ≤ 60) (x y : α) : eqP neg (.d (g x)) (.d (g y)) S = .ok (.d (.bl (decide (x = y) ^^ neg))) S := by
  obtain ⟨P, h1, h2, h3⟩ := h.ex
  simp [eqP, eqD, pdA, h1, shp (h2 x) hk, shp (h2 y) hk, h3]
theorem any_map {P : α → PyData} (h : ∀ x y, PyData.eqv (P x) (P y) = decide (x = y)) (x : α) (xs : List α) : ((xs.map P).any fun z => PyData.eqv z (P x)) = decide (x ∈ xs) := by
  rw [Bool.eq_iff_iff]
  simp [h]
theorem in_tup (h : Enc α g k) (hk : k ≤ 59) (x : α) (xs : List α) : inP neg (.d (g x)) (.d (.tup (xs.map g))) S = .ok (.d (.bl (decide (x ∈ xs) ^^ neg))) S := by
  obtain ⟨P, h1, h2, h3⟩ := h.ex
  have z := lay_map h2 xs
  have s2 : SeqAt.shaped (.tuple (xs.map P)) = true := shp (k := k + 1) ⟨by simp [PyData.canLay0, z.1], by simp [PyData.depth]; omega⟩ (by omega)
  simp [inP, pdA, pd, h1, pds_map h1, itemsP, shp (h2 x) (show k ≤ 60 by omega), s2, ← any_map h3, Function.comp_def]
theorem in_fl (h : Enc α g k) (hk : k ≤ 59) (x : α) (xs : List α) : inP neg (.d (g x)) (.d (.fl (xs.map g))) S = .ok (.d (.bl (decide (x ∈ xs) ^^ neg))) S := by
  obtain ⟨P, h1, h2, h3⟩ := h.ex
  have z := lay_map h2 xs
  have s2 : SeqAt.shaped (.list (xs.map P)) = true := shp (k := k + 1) ⟨by simp [PyData.canLay0, z.1], by simp [PyData.depth]; omega⟩ (by omega)
  simp [inP, pdA, pd, h1, pds_map h1, itemsP, shp (h2 x) (show k ≤ 60 by omega), s2, ← any_map h3, Function.comp_def]
theorem in_ref (h : Enc α g k) (hk : k ≤ 59) (x : α) (xs : List α) {n : Nat} (hn : S[n]? = some (.lst (xs.map g))) : inP neg (.d (g x)) (.ref n) S = .ok (.d (.bl (decide (x ∈ xs) ^^ neg))) S := by
  obtain ⟨P, h1, h2, h3⟩ := h.ex
  have z := lay_map h2 xs
  have s2 : SeqAt.shaped (.list (xs.map P)) = true := shp (k := k + 1) ⟨by simp [PyData.canLay0, z.1], by simp [PyData.depth]; omega⟩ (by omega)
  simp [inP, pdA, hn, h1, pds_map h1, itemsP, shp (h2 x) (show k ≤ 60 by omega), s2, ← any_map h3, Function.comp_def]
end
theorem enum_map {α : Type} (g : α → D) (xs : List α) : enumD (xs.map g) = xs.zipIdx.map fun p => D.tup [.int (p.2 : Nat), g p.1] := by
  simp [enumD, List.zipIdx_map, Function.comp_def]
theorem at_nat {α : Type} (xs : List α) (k : Nat) : L2.atI xs (k : Int) = xs[k]? := by
  unfold L2.atI L2.ixN
  have e : (0 : Int) ≤ k := by omega
  by_cases h : k < xs.length
  · simp [e, h]
  · simp [e, h]
/-- houses in a row -/
def encR (r : List Int) : D := .tup (r.map D.int)
def encH (h : List (List Int)) : D := .tup (h.map encR)
end RS
end

section
set_option maxRecDepth 100000
set_option maxHeartbeats 4000000
/-! One rule for each combinator: what it gives where its parts give this. -/
namespace RS
open PySem PySem.Spec
section
variable {ρ ρ1 ρ2 : Env} {S S1 S2 S3 : Store} {a b c v : A} {i n : Nat} {f g fo : M A} {d : D} {as das : List A} {r : R A} {F : List A → Store → R A}
theorem ev_var (h : ρ[i]? = some (some a)) : cVar i ρ S = .ok a S := by simp [cVar, h]
theorem ev_k : cK d ρ S = .ok (.d d) S := rfl
theorem ev_bin {p : A → A → Store → R A} (h1 : f ρ S = .ok a S1) (h2 : g ρ S1 = .ok b S2) (h3 : p a b S2 = r) : bin p f g ρ S = r := by simp [bin, h1, h2, R.bind, h3]
theorem ev_una {p : A → Store → R A} (h1 : f ρ S = .ok a S1) (h3 : p a S1 = r) : una p f ρ S = r := by simp [una, h1, R.bind, h3]
theorem ev_asB {t : Bool} (h : f ρ S = .ok (.d (.bl t)) S1) : asB f ρ S = .ok t S1 := by simp [asB, h, R.bind]
section
variable {p q : M Bool} {t u : Bool} {rb : R Bool}
theorem ev_and_t (h : p ρ S = .ok true S1) (k : q ρ S1 = rb) : andT p q ρ S = rb := by simp [andT, h, R.bind, k]
theorem ev_and_f (h : p ρ S = .ok false S1) : andT p q ρ S = .ok false S1 := by simp [andT, h, R.bind]
/-- .. both without an effect -/
theorem ev_and (h : p ρ S = .ok t S) (k : t = true → q ρ S = .ok u S) : andT p q ρ S = .ok (t && u) S := by
  cases t with
  | true => exact (ev_and_t h (k rfl)).trans (by simp)
  | false => exact (ev_and_f h).trans (by simp)
theorem ev_or_f (h : p ρ S = .ok false S1) (k : q ρ S1 = rb) : orT p q ρ S = rb := by simp [orT, h, R.bind, k]
theorem ev_or_t (h : p ρ S = .ok true S1) : orT p q ρ S = .ok true S1 := by simp [orT, h, R.bind]
theorem ev_not (h : p ρ S = .ok t S1) : notT p ρ S = .ok (!t) S1 := by simp [notT, h, R.bind]
theorem ev_ifV_t (h : p ρ S = .ok true S1) (k : f ρ S1 = r) : ifV p f g ρ S = r := by simp [ifV, h, R.bind, k]
theorem ev_ifV_f (h : p ρ S = .ok false S1) (k : g ρ S1 = r) : ifV p f g ρ S = r := by simp [ifV, h, R.bind, k]
theorem ev_tru (h : f ρ S = .ok a S1) (k : truA S1 a = some t) : tru f ρ S = .ok t S1 := by simp [tru, h, R.bind, k]
end
theorem ev_andV_t (h : f ρ S = .ok (.d (.bl true)) S1) (k : g ρ S1 = r) : andV f g ρ S = r := by simp [andV, h, R.bind, k]
theorem ev_andV_f (h : f ρ S = .ok (.d (.bl false)) S1) : andV f g ρ S = .ok (.d (.bl false)) S1 := by simp [andV, h, R.bind]
section
variable {fs gs : M (List A)} {as' : List A}
theorem ev_nil : aNil ρ S = .ok [] S := rfl
theorem ev_cons (h : f ρ S = .ok a S1) (k : fs ρ S1 = .ok as S2) : aCons f fs ρ S = .ok (a :: as) S2 := by simp [aCons, h, R.bind, k]
theorem ev_bcall {p : List A → Store → R A} (h : fs ρ S = .ok as S1) (k : p as S1 = r) : bcall p fs ρ S = r := by simp [bcall, h, R.bind, k]
theorem ev_call (h : fs ρ S = .ok as S1) (l : (as ++ das).length = n) (k : F (as ++ das) S1 = r) : callM n F das fs ρ S = r := by simp only [callM, h, R.bind, l, if_true, k]
theorem ev_call1 (h : f ρ S = .ok a S1) (k : F [a] S1 = r) : callM 1 F [] (aCons f aNil) ρ S = r := ev_call (ev_cons h ev_nil) rfl k
theorem ev_call2 {f1 f2 : M A} (h1 : f1 ρ S = .ok a S1) (h2 : f2 ρ S1 = .ok b S2) (k : F [a, b] S2 = r) : callM 2 F [] (aCons f1 (aCons f2 aNil)) ρ S = r := ev_call (ev_cons h1 (ev_cons h2 ev_nil)) rfl k
theorem ev_call3 {f1 f2 f3 : M A} (h1 : f1 ρ S = .ok a S1) (h2 : f2 ρ S1 = .ok b S2) (h3 : f3 ρ S2 = .ok c S3) (k : F [a, b, c] S3 = r) : callM 3 F [] (aCons f1 (aCons f2 (aCons f3 aNil))) ρ S = r := ev_call (ev_cons h1 (ev_cons h2 (ev_cons h3 ev_nil))) rfl k
theorem ev_b1 {p : List A → Store → R A} (h : f ρ S = .ok a S1) (k : p [a] S1 = r) : bcall p (aCons f aNil) ρ S = r := ev_bcall (ev_cons h ev_nil) k
theorem ev_b2 {p : List A → Store → R A} {f1 f2 : M A} (h1 : f1 ρ S = .ok a S1) (h2 : f2 ρ S1 = .ok b S2) (k : p [a, b] S2 = r) : bcall p (aCons f1 (aCons f2 aNil)) ρ S = r := ev_bcall (ev_cons h1 (ev_cons h2 ev_nil)) k
theorem ev_meth {cn mth : Str} {os : List (Str × A)} (h1 : fo ρ S = .ok a S1) (h2 : insOf S1 cn a = some os) (h3 : os.lookup mth = none) (h4 : fs ρ S1 = .ok as S2) (l : (a :: (as ++ das)).length = n) (k : F (a :: (as ++ das)) S2 = r) : methM cn mth n F das fo fs ρ S = r := by
  simp only [methM, h1, R.bind, h2, h3, h4, l, if_true, k]
theorem ev_make {cn : Str} {keep : Bool} (h1 : fs ρ S = .ok as S1) (l : (A.ref S1.length :: (as ++ das)).length = n) (k : F (A.ref S1.length :: (as ++ das)) (S1 ++ [.ins cn []]) = .ok (.d .non) S2) (e : retA keep S1.length (.ref S1.length) S2 = r) : makeM keep cn n F das fs ρ S = r := by
  simp only [makeM, h1, R.bind, l, if_true, k, makeE, e]
theorem ev_flM {ds : List D} (h : fs ρ S = .ok as S1) (p : pures as = some ds) (l : ds.length ≤ 1000) : flM fs ρ S = .ok (.d (.fl ds)) S1 := by simp [flM, h, R.bind, flP, p, sz l]
theorem ev_tupM {ds : List D} (h : fs ρ S = .ok as S1) (p : pures as = some ds) (l : ds.length ≤ 1000) : tupM fs ρ S = .ok (.d (.tup ds)) S1 := by simp [tupM, h, R.bind, tupP, p, sz l]
theorem ev_celM {ds : List D} (h : fs ρ S = .ok as S1) (p : pures as = some ds) (l : ds.length ≤ 1000) : celM fs ρ S = .ok (.ref S1.length) (S1 ++ [.lst ds]) := by simp [celM, h, R.bind, celP, p, sz l]
theorem ev_mth {p : A → List A → Store → R A} {ds : List D} (h1 : fo ρ S = .ok a S1) (h2 : lstOf S1 a = some ds) (h3 : fs ρ S1 = .ok as S2) (k : p a as S2 = r) : mthM p fo fs ρ S = r := by simp [mthM, h1, R.bind, h2, h3, k]
theorem ev_star {ds : List D} (h1 : f ρ S = .ok a S1) (h2 : seqOf S1 a = some ds) (h3 : fs ρ S1 = .ok as S2) : aStar f fs ρ S = .ok (ds.map A.d ++ as) S2 := by simp [aStar, h1, R.bind, h2, h3]
theorem ev_par {x y : A} {j : Nat} (h : fs ρ S = .ok [x, y] S1) : sPar i j fs ρ S = .ok (.nx ((ρ.set i (some x)).set j (some y))) S1 := by simp [sPar, h, R.bind]
end
theorem ev_pro {cn : Str} {os : List (Str × A)} (h1 : fo ρ S = .ok a S1) (h2 : insOf S1 cn a = some os) (l : (a :: das).length = n) (k : F (a :: das) S1 = .ok v S2) : una (proP cn n F das) fo ρ S = .ok v S2 :=
  ev_una h1 (by simp only [proP, h2, l, if_true, k, noX])
theorem ev_fld {cn fl : Str} {os : List (Str × A)} (h1 : fo ρ S = .ok a S1) (h2 : insOf S1 cn a = some os) (h3 : os.lookup fl = some v) : una (fldP cn fl) fo ρ S = .ok v S1 :=
  ev_una h1 (by simp only [fldP, h2, h3])
/-! ### sentences -/
section
variable {s t : M Fl} {rf : R Fl} {p : M Bool}
theorem ev_ret (h : f ρ S = .ok a S1) : sRet f ρ S = .ok (.rt a) S1 := by simp [sRet, h, R.bind]
theorem ev_asg {gg : A → M Env} (h : f ρ S = .ok a S1) (k : gg a ρ S1 = .ok ρ1 S2) : sAsg f gg ρ S = .ok (.nx ρ1) S2 := by simp [sAsg, h, R.bind, k]
theorem ev_set (h : f ρ S = .ok a S1) : sAsg f (gSet i) ρ S = .ok (.nx (ρ.set i (some a))) S1 := ev_asg h rfl
theorem ev_exp (h : f ρ S = .ok a S1) : sExp f ρ S = .ok (.nx ρ) S1 := by simp [sExp, h, R.bind]
theorem ev_seq (h : s ρ S = .ok (.nx ρ1) S1) (k : t ρ1 S1 = rf) : sSeq s t ρ S = rf := by simp [sSeq, h, R.bind, k]
theorem ev_seq_rt (h : s ρ S = .ok (.rt a) S1) : sSeq s t ρ S = .ok (.rt a) S1 := by simp [sSeq, h, R.bind]
theorem ev_if_t (h : p ρ S = .ok true S1) (k : s ρ S1 = rf) : sIf p s t ρ S = rf := by simp [sIf, h, R.bind, k]
theorem ev_if_f (h : p ρ S = .ok false S1) (k : t ρ S1 = rf) : sIf p s t ρ S = rf := by simp [sIf, h, R.bind, k]
/-- a test that says no, and nothing else -/
theorem ev_skip (h : p ρ S = .ok false S1) : sIf p s sNil ρ S = .ok (.nx ρ) S1 := ev_if_f h rfl
theorem ev_for {q : MI} {gg : A → M Env} {ds : List D} (h : q ρ S = .ok ds S1) (k : forL gg t ds ρ S1 = rf) : sFor q gg t ρ S = rf := by simp [sFor, h, R.bind, k]
theorem ev_fn {N : Nat} {keep : Bool} {body : M Fl} (l : as.length = n) (h : body (startE N as) S = .ok (.rt a) S1) (k : retA keep S.length a S1 = r) : fnF N n keep body as S = r := by
  simp only [fnF, l, if_true, h, R.bind, fnEnd, k]
theorem ev_fnN {N : Nat} {keep : Bool} {body : M Fl} (l : as.length = n) (h : body (startE N as) S = .ok (.nx ρ) S1) (k : retA keep S.length (.d .non) S1 = r) : fnF N n keep body as S = r := by
  simp only [fnF, l, if_true, h, R.bind, fnEnd, k]
end
/-! ### what is iterated over -/
theorem ev_seqI {ds : List D} (h : f ρ S = .ok a S1) (k : kd a = .tup ds ∨ kd a = .lst ds) : seqI f ρ S = .ok ds S1 := by
  rcases k with k | k <;> simp [seqI, h, R.bind, k]
theorem ev_enumI {ds : List D} (h : f ρ S = .ok a S1) (k : kd a = .tup ds ∨ kd a = .lst ds) : enumI f ρ S = .ok (enumD ds) S1 := by
  rcases k with k | k <;> simp [enumI, h, R.bind, enumP, k]
end
theorem rng_ok {n : Nat} {T : Store} (hn : n ≤ 1000) : rng1P (.d (.int (n : Nat))) T = .ok (rngD 0 n) T := by
  have h : -(2 ^ 62) ≤ ((n : Nat) : Int) ∧ ((n : Nat) : Int) < 2 ^ 62 := ⟨by omega, by omega⟩
  simp only [rng1P]
  rw [if_pos h, Int.toNat_natCast]
theorem ev_rng {ρ : Env} {S S1 : Store} {f : M A} {n : Nat} (h : f ρ S = .ok (.d (.int (n : Nat))) S1) (hn : n ≤ 1000) : rng1 f ρ S = .ok (rngD 0 n) S1 := by
  simp only [rng1, h, R.bind]
  exact rng_ok hn
/-! ### the end of a def -/
/-- a store of lists and of whole instances -/
theorem ret_take {keep : Bool} {S : Store} {n : Nat} {x : D} (h : storeOk n S = true) : retA keep n (.d x) S = .ok (.d x) (S.take n) := by simp [retA, h]
theorem ok_app {S T : Store} {n : Nat} (l : S.length = n) (h : Gd S) : storeOk n (S ++ T) = true := by
  subst l
  unfold Gd storeOk at *
  rw [List.take_left]
  rwa [List.take_length] at h
theorem ret_app {keep : Bool} {S T : Store} {n : Nat} {x : D} (l : S.length = n) (h : Gd S) : retA keep n (.d x) (S ++ T) = .ok (.d x) S := by
  rw [ret_take (ok_app l h)]
  subst l
  simp
/-- a list that is handed out -/
theorem ret_lst {S : Store} {n : Nat} {ds : List D} {T : Store} (l : S.length = n) (h : Gd S) : retA false n (.ref n) (S ++ (.lst ds :: T)) = .ok (.d (.fl ds)) S := by
  have e := ok_app (T := .lst ds :: T) l h
  subst l
  simp [retA, e]
theorem ret_ref {S : Store} {n j : Nat} {ds : List D} {T : Store} (l : S.length = n) (h : Gd S) (hj : (S ++ T)[j]? = some (.lst ds)) (hn : n ≤ j) : retA false n (.ref j) (S ++ T) = .ok (.d (.fl ds)) S := by
  have e := ok_app (T := T) l h
  subst l
  have e2 : ¬ j < S.length := by omega
  simp [retA, e, e2, hj]
theorem lists_gd {S : Store} (h : ∀ o ∈ S, ∃ ds, o = Cell.lst ds) : Gd S := by
  unfold Gd storeOk
  rw [List.take_length]
  refine List.all_eq_true.mpr fun o ho => ?_
  obtain ⟨ds, rfl⟩ := h o ho
  rfl
end RS
end

section
set_option maxRecDepth 100000
set_option maxHeartbeats 4000000
/-! Lambdas that capture names: handed on in a call, called there. -/
namespace RS
open PySem PySem.Spec PyProof.Rows L2 NdefX LamX
/-! ### pins -/
section
variable {P : Program} {w : World} {π : Addr → Option Obj} {H H' H0 : Hp} {h h' h0 : Heap} {fs : List Addr}
def pinH (π : Addr → Option Obj) (H : Hp) : Hp := fun a => match π a with
  | some o => some (PinO a o)
  | none => H a
def unpH (π : Addr → Option Obj) (H : Hp) : Hp := fun a => match π a with
  | some _ => none
  | none => H a
theorem pin_at {a : Addr} {o : Obj} (e : π a = some o) : pinH π H a = some (PinO a o) := by unfold pinH; rw [e]
theorem pin_off {a : Addr} (e : π a = none) : pinH π H a = H a := by unfold pinH; rw [e]
theorem unp_at {a : Addr} {o : Obj} (e : π a = some o) : unpH π H a = none := by unfold unpH; rw [e]
theorem unp_off {a : Addr} (e : π a = none) : unpH π H a = H a := by unfold unpH; rw [e]
/-- cells as they are in the heap h0 -/
structure PiOk (π : Addr → Option Obj) (h0 : Heap) : Prop where
  at_ : ∀ a o, π a = some o → h0.get? a = some o ∧ ∃ v, o.data = .cell v
theorem PiOk.lam (k : PiOk π h0) {f : Addr} {F : NF} {b : Expr} {o : Obj} (e : π f = some o) : PinO f o ≠ LamO f F b := fun z => by
  obtain ⟨e1, v, e2⟩ := k.at_ f o e
  unfold PinO LamO at z
  have z := HO.ext.inj z
  have q : ∃ od sl pm ctv, h0.get? f = some ⟨.type "function", od, .func (PySem.W.kla_fn F.name F.qual F.params b F.scope F.cl pm (.ref F.c) ctv), sl⟩ := (congrFun z h0) ▸ e1
  obtain ⟨od, sl, pm, ctv, q⟩ := q
  rw [e1] at q
  cases q
  cases e2
theorem PiOk.code (k : PiOk π h0) {c : Addr} {q : Str} {o : Obj} (e : π c = some o) : PinO c o ≠ CodeO c q := fun z => by
  obtain ⟨e1, v, e2⟩ := k.at_ c o e
  unfold PinO CodeO at z
  have z := HO.ext.inj z
  have y := (congrFun z h0) ▸ e1
  obtain ⟨oc, vs, t, h1, h2, h3⟩ := y
  rw [e1] at h1
  cases h1
  rw [e2] at h2
  cases h2
theorem hok_pin (k : HOk P w H h) (hp : ∀ a o, π a = some o → h.get? a = some o ∧ H a = none) : HOk P w (pinH π H) h := fun a o e => by
  have st : ∀ b u, H b = some u → pinH π H b = some u := fun b u eb => by
    cases hb : π b with
    | none => rw [pin_off hb]; exact eb
    | some ob => rw [(hp b ob hb).2] at eb; cases eb
  cases ha : π a with
  | some ob =>
    rw [pin_at ha] at e
    cases e
    exact ⟨(hp a ob ha).1, ⟨_, (hp a ob ha).1⟩, fun h1 h2 q s => s _ q⟩
  | none =>
    rw [pin_off ha] at e
    exact (k a o e).stay (fun b u _ q => q) (fun b q => st b _ q) fun b xs q => st b _ q
theorem hok_unp (k : HOk P w H h) (hp : ∀ a o, π a = some o → H a = some (PinO a o)) : HOk P w (unpH π H) h := fun a o e => by
  have st : ∀ b u, H b = some u → (∀ φ, u ≠ .ext φ) → unpH π H b = some u := fun b u eb ne => by
    cases hb : π b with
    | none => rw [unp_off hb]; exact eb
    | some ob =>
      rw [hp b ob hb] at eb
      cases eb
      exact absurd rfl (ne _)
  cases ha : π a with
  | some ob => rw [unp_at ha] at e; cases e
  | none =>
    rw [unp_off ha] at e
    exact (k a o e).stay (fun b u _ q => q) (fun b q => st b _ q fun φ z => by cases z) fun b xs q => st b _ q fun φ z => by cases z
/-- behind a call with pins: without them -/
theorem un_pin (u : Un fs [] (pinH π H) H' h h') (hp : ∀ a o, π a = some o → h.get? a = some o ∧ H a = none) (hq : ∀ a o, π a = some o → h'.get? a = some o) : Un fs [] H (unpH π H') h h' where
  keep := fun b o e n nf nx => by
    cases hb : π b with
    | some ob =>
      have e := Option.some.inj ((hp b ob hb).1.symm.trans e)
      subst e
      exact hq b ob hb
    | none => exact u.keep b o e (by rw [pin_off hb]; exact n) nf nx
  slot := fun b o e n nf nx => by
    cases hb : π b with
    | some ob =>
      have e := Option.some.inj ((hp b ob hb).1.symm.trans e)
      subst e
      exact ⟨ob.slots, hq b ob hb⟩
    | none => exact u.slot b o e (by rw [pin_off hb]; exact n) nf nx
  free := fun b o e n nx => by
    cases hb : π b with
    | some ob => exact unp_at hb
    | none => rw [unp_off hb]; exact u.free b o e (by rw [pin_off hb]; exact n) nx
  there := u.there
  tups := fun b xs e => by
    cases hb : π b with
    | some ob => rw [(hp b ob hb).2] at e; cases e
    | none => rw [unp_off hb]; exact u.tups b xs (by rw [pin_off hb]; exact e)
  frzs := fun b o x e => by
    cases hb : π b with
    | some ob => rw [(hp b ob hb).2] at e; cases e
    | none => rw [unp_off hb]; exact u.frzs b o x (by rw [pin_off hb]; exact e)
  tbls := fun b ps e => by
    cases hb : π b with
    | some ob => rw [(hp b ob hb).2] at e; cases e
    | none => rw [unp_off hb]; exact u.tbls b ps (by rw [pin_off hb]; exact e)
/-- behind a call without pins: with them -/
theorem un_unp (u : Un fs [] (unpH π H) H' h h') (hp : ∀ a o, π a = some o → H a = some (PinO a o)) : Un fs [] H (pinH π H') h h' where
  keep := fun b o e n nf nx => by
    cases hb : π b with
    | some ob => rw [hp b ob hb] at n; cases n
    | none => exact u.keep b o e (by rw [unp_off hb]; exact n) nf nx
  slot := fun b o e n nf nx => by
    cases hb : π b with
    | some ob => rw [hp b ob hb] at n; cases n
    | none => exact u.slot b o e (by rw [unp_off hb]; exact n) nf nx
  free := fun b o e n nx => by
    cases hb : π b with
    | some ob => rw [hp b ob hb] at n; cases n
    | none => rw [pin_off hb]; exact u.free b o e (by rw [unp_off hb]; exact n) nx
  there := u.there
  tups := fun b xs e => by
    cases hb : π b with
    | some ob => rw [hp b ob hb] at e; cases e
    | none => rw [pin_off hb]; exact u.tups b xs (by rw [unp_off hb]; exact e)
  frzs := fun b o x e => by
    cases hb : π b with
    | some ob => rw [hp b ob hb] at e; cases e
    | none => rw [pin_off hb]; exact u.frzs b o x (by rw [unp_off hb]; exact e)
  tbls := fun b ps e => by
    cases hb : π b with
    | some ob => rw [hp b ob hb] at e; cases e
    | none => rw [pin_off hb]; exact u.tbls b ps (by rw [unp_off hb]; exact e)
end
/-! ### what is known without pins -/
section
variable {C : Cc} {π : Addr → Option Obj} {H H' : Hp} {h0 : Heap} {m : List Addr} {S : Store}
theorem unp_ne (hp : ∀ a o, π a = some o → H a = some (PinO a o)) {p : Addr} {u : HO} (e : H p = some u) (ne : ∀ o, π p = some o → PinO p o ≠ u) : unpH π H p = some u := by
  cases hb : π p with
  | none => rw [unp_off hb]; exact e
  | some o =>
    rw [hp p o hb] at e
    exact absurd (Option.some.inj e) (ne o hb)
theorem unp_rd (hp : ∀ a o, π a = some o → H a = some (PinO a o)) {p : Addr} {u : HO} (ne : ∀ φ, u ≠ .ext φ) (e : Rd H p u ∧ Off C m p) : Rd (unpH π H) p u ∧ Off C m p := by
  obtain ⟨e | ⟨o, e⟩, n⟩ := e
  · exact ⟨.inl (unp_ne hp e fun o _ z => ne _ z.symm), n⟩
  · exact ⟨.inr ⟨o, unp_ne hp e fun o' _ z => by unfold PinO at z; cases z⟩, n⟩
mutual
theorem RD.thin (hp : ∀ a o, π a = some o → H a = some (PinO a o)) (k : PiOk π h0) : ∀ {d : D} {v : V}, RD C m H d v → RD C m (unpH π H) d v
  | .non, _, q => by simpa [RD] using q
  | .bl _, _, q => by simpa [RD] using q
  | .int _, _, q => by simpa [RD] using q
  | .str _, _, q => by simpa [RD] using q
  | .fn j, _, q => by
    unfold RD at q ⊢
    obtain ⟨f, c', e1, h1, n1, h2, n2⟩ := q
    exact ⟨f, c', e1, unp_ne hp h1 fun o e => k.lam e, n1, unp_ne hp h2 fun o e => k.code e, n2⟩
  | .tup ds, _, q => by
    unfold RD at q ⊢
    obtain ⟨p, vs, e1, h1, h2⟩ := q
    exact ⟨p, vs, e1, h1.imp (fun z => unp_rd hp (fun φ z => by cases z) z) id, RDs.thin hp k h2⟩
  | .fl ds, _, q => by
    unfold RD at q ⊢
    obtain ⟨p, vs, e1, h1, n, h2⟩ := q
    exact ⟨p, vs, e1, unp_ne hp h1 fun o e z => (by unfold PinO at z; cases z), n, RDs.thin hp k h2⟩
  | .rl ds, _, q => by
    unfold RD at q ⊢
    obtain ⟨p, vs, e1, h1, h2⟩ := q
    exact ⟨p, vs, e1, h1.imp (fun z => unp_rd hp (fun φ z => by cases z) z) id, RDs.thin hp k h2⟩
  | .ob c ks ds, _, q => by
    unfold RD at q ⊢
    obtain ⟨p, dx, fs, e1, h1, n, h2, h3⟩ := q
    exact ⟨p, dx, fs, e1, unp_ne hp h1 fun o e z => (by unfold PinO at z; cases z), n, h2, RDs.thin hp k h3⟩
  | .tq ds, _, q => by
    unfold RD at q ⊢
    obtain ⟨p, o, vs, e1, h1, kk, n, h2⟩ := q
    exact ⟨p, o, vs, e1, unp_ne hp h1 fun o e z => (by unfold PinO at z; cases z), kk, n, RDs.thin hp k h2⟩
theorem RDs.thin (hp : ∀ a o, π a = some o → H a = some (PinO a o)) (k : PiOk π h0) : ∀ {ds : List D} {vs : List V}, RDs C m H ds vs → RDs C m (unpH π H) ds vs
  | [], _, q => by simpa [RDs] using q
  | d :: ds, _, q => by
    unfold RDs at q ⊢
    obtain ⟨v, r, e1, h1, h2⟩ := q
    exact ⟨v, r, e1, RD.thin hp k h1, RDs.thin hp k h2⟩
end
theorem RA.thin (hp : ∀ a o, π a = some o → H a = some (PinO a o)) (k : PiOk π h0) {a : A} {v : V} (ne : ∀ j cs, a ≠ .fnc j cs) (q : RA C m H a v) : RA C m (unpH π H) a v := by
  cases a with
  | d x => exact RD.thin hp k q
  | ref n => exact q
  | fnc j cs => exact absurd rfl (ne j cs)
theorem RF.thin (hp : ∀ a o, π a = some o → H a = some (PinO a o)) (k : PiOk π h0) : ∀ {fs : List (Str × A)} {gs : List (Str × V)}, (∀ p ∈ fs, ∀ j cs, p.2 ≠ .fnc j cs) → RF C m H fs gs → RF C m (unpH π H) fs gs
  | _, _, _, .nil => .nil
  | _, _, ne, .cons q t => .cons ⟨q.1, RA.thin hp k (ne _ List.mem_cons_self) q.2⟩ (RF.thin hp k (fun p hp => ne p (List.mem_cons_of_mem _ hp)) t)
theorem no_fnc {n : Nat} {c : Str} {fs : List (Str × A)} (h : cellOk n (.ins c fs) = true) : ∀ p ∈ fs, ∀ j cs, p.2 ≠ .fnc j cs := fun p hp j cs e => by
  have z := List.all_eq_true.mp (show (fs.all fun p => match p.2 with
    | .d _ => true
    | .ref k => decide (k < n)
    | .fnc _ _ => false) = true from h) p hp
  rw [e] at z
  cases z
theorem RS.thin (hp : ∀ a o, π a = some o → H a = some (PinO a o)) (k : PiOk π h0) (hS : storeOk S.length S = true) (r : RS C m S H) : RS C m S (unpH π H) := by
  refine ⟨r.len, r.nd, fun q hq => ?_, fun n o p h1 h2 => ?_, fun q hq => ?_⟩
  · obtain ⟨a, b⟩ := r.own q hq
    exact ⟨a, unp_ne hp b fun o e z => by unfold PinO at z; cases z⟩
  · have z := r.cell n o p h1 h2
    cases o with
    | lst ds =>
      obtain ⟨vs, a, b⟩ := z
      exact ⟨vs, unp_ne hp a fun o e z => (by unfold PinO at z; cases z), RDs.thin hp k b⟩
    | ins c fs =>
      obtain ⟨dx, gs, a, b⟩ := z
      unfold storeOk at hS
      rw [List.take_length] at hS
      have ok := List.all_eq_true.mp hS _ (List.mem_of_getElem? h1)
      exact ⟨dx, gs, unp_ne hp a fun o e z => (by unfold PinO at z; cases z), RF.thin hp k (no_fnc ok) b⟩
  · obtain ⟨a, ps, b1, b2, b3⟩ := r.tab q hq
    refine ⟨a, ps, unp_ne hp b1 fun o e z => (by unfold PinO at z; cases z), b2, fun pos cv e => ?_⟩
    obtain ⟨c, e1, e2⟩ := b3 pos cv e
    exact ⟨c, e1, unp_ne hp e2 fun o e => k.code e⟩
/-- what stands also stands with pins -/
theorem ext_pin (r : RS C m S H) (hp : ∀ a o, π a = some o → H a = none) : Ext C m H m (pinH π H) :=
  ⟨⟨[], by simp⟩, fun p o e n => by
    refine ⟨?_, n⟩
    cases hb : π p with
    | none => rw [pin_off hb]; exact e
    | some ob => rw [hp p ob hb] at e; cases e⟩
theorem rs_pin (r : RS C m S H) (hp : ∀ a o, π a = some o → H a = none) : RS C m S (pinH π H) := by
  have st : ∀ p o, H p = some o → pinH π H p = some o := fun p o e => by
    cases hb : π p with
    | none => rw [pin_off hb]; exact e
    | some ob => rw [hp p ob hb] at e; cases e
  refine ⟨r.len, r.nd, fun q hq => ⟨(r.own q hq).1, st _ _ (r.own q hq).2⟩, fun n o p h1 h2 => ?_, fun q hq => ⟨(r.tab q hq).1, (r.tab q hq).2.ext st⟩⟩
  have z := r.cell n o p h1 h2
  refine z.ext (ext_pin r hp) ?_
  obtain ⟨u, e, _⟩ := z.alive
  rw [e]
  exact st _ _ e
end
/-! ### a lambda that captures is handed on -/
theorem pass_noc {CX0 : CXT} {X : Cx} {outer : List PySem.Env} {H : Hp} {s s' : Shared} {e : Value} (hc : CX0 = L2.CX X.prog X.w) (h : CX0 outer H s noE e s') : False := by
  subst hc
  obtain ⟨_, _, _, _, _, _, _, _, _, _, _, _, h⟩ := h
  exact h
/-- what the named slots hold -/
def capD (ρ : Env) : List Nat → Option (List D)
  | [] => some []
  | j :: js => match ρ[j]?, capD ρ js with
    | some (some (.d x)), some ds => some (x :: ds)
    | _, _ => none
/-- nothing is raised, and nothing that captures comes back -/
def noF (r : R A) : R A := match r with
  | .ok (.fnc _ _) _ => .bad
  | .ok a S => if storeOk S.length S = true then .ok a S else .bad
  | _ => .bad
theorem noF_ok {r : R A} {C : Cc} {E : XK} {m : List Addr} {H : Hp} {Q : VK} (w : WpG C E (RA C) m H (noF r) Q) : ∃ a S, r = .ok a S ∧ (∀ j cs, a ≠ .fnc j cs) ∧ storeOk S.length S = true ∧ WpG C E (RA C) m H (.ok a S) Q := by
  unfold noF at w
  cases r with
  | bad => exact False.elim w
  | exc e S => exact False.elim w
  | ok a S =>
    cases a with
    | fnc j cs => exact False.elim w
    | d x =>
      simp only at w
      split at w
      · rename_i h; exact ⟨_, _, rfl, fun j cs z => (by cases z), h, w⟩
      · exact False.elim w
    | ref n =>
      simp only at w
      split at w
      · rename_i h; exact ⟨_, _, rfl, fun j cs z => (by cases z), h, w⟩
      · exact False.elim w
section
variable {C : Cc} {E : XK} {X : Cx} {pins : List (Addr × Obj)} {σ : L2.St} {H : Hp} {s : Shared} {Q : VK} {k n : Nat} {f : Addr} {fd : FuncData} {ps : List Str} {π : Addr → Option Obj}
/-- a call with pins in the view -/
theorem run_pin {us : List Value} {vs : List V} {sp : Sp} (F : FnOk X.prog X.w X.K X.mg X.base (L2.CX X.prog X.w) k f fd ps sp) (hr : Room k X.A) (hb : Binds X.K fd ps []) (I : L2.Inv X pins σ H s) (r : Vals vs us)
    (hp : ∀ a o, π a = some o → s.heap.get? a = some o ∧ H a = none ∧ X.base.get? a = none ∧ a ∉ frs X.stack)
    (h : sp vs (pinH π H) (fun v H' => (∀ a o, π a = some o → H' a = some (PinO a o)) ∧ Q v (unpH π H')) noE) : wpAny (model X.prog X.w) X.A (call (.ref f) us) (EP X pins σ Q) X.xe s := by
  have hl : us.length = ps.length := by rw [← r.length]; exact F.len _ _ _ _ h
  have e0 := Inv.env0 I
  have e1 : Env0 X.prog X.w X.K X.mg X.base X.A X.stack s (pinH π H) := ⟨e0.frames, e0.mod, fun b o e => by
      cases hb : π b with
      | some ob => rw [(hp b ob hb).2.2.1] at e; cases e
      | none => rw [pin_off hb]; exact e0.bs b o e, e0.bsz, e0.funs, fun b e => by
      cases hb : π b with
      | some ob => exact absurd e (hp b ob hb).2.2.2
      | none => rw [pin_off hb]; exact e0.frf b e, hok_pin e0.hok fun a o e => ⟨(hp a o e).1, (hp a o e).2.1⟩, e0.bare⟩
  refine wpAny_call (codeAny_mono (F.run X.A X.stack s (pinH π H) ⟨us, []⟩ us vs _ noE hr e1 (by have z := hb s us (Inv.kIn I) (by simpa using hl); simpa using z) r h) fun r s' hq => ?_)
  cases r with
  | error e => exact (pass_noc rfl hq).elim
  | ok fl =>
    cases fl with
    | ret u =>
      obtain ⟨v, H', os, bare, un, hok, rv, q1, q2⟩ := hq
      have hk : ∀ a o, π a = some o → s'.heap.get? a = some o := fun a o e => (hok a _ (q1 a o e)).1
      exact Inv.after I ⟨v, unpH π H', os, bare, un_pin un (fun a o e => ⟨(hp a o e).1, (hp a o e).2.1⟩) hk, hok_unp hok q1, rv, q2⟩
    | _ => exact False.elim hq
/-- the captured cells as pins -/
noncomputable def piOf (cl : List (Str × Addr)) (h : Heap) : Addr → Option Obj := fun a => by
  classical
  exact if ∃ y, cl.lookup y = some a then h.get? a else none
theorem piOf_some {cl : List (Str × Addr)} {h : Heap} {a : Addr} {o : Obj} (e : piOf cl h a = some o) : (∃ y, cl.lookup y = some a) ∧ h.get? a = some o := by
  unfold piOf at e
  split at e
  · rename_i z; exact ⟨z, e⟩
  · cases e
theorem piOf_at {cl : List (Str × Addr)} {h : Heap} {y : Str} {a : Addr} (e : cl.lookup y = some a) : piOf cl h a = h.get? a := by
  unfold piOf
  rw [if_pos ⟨y, e⟩]
def callC (k : Nat) (js : List Nat) (F : List A → Store → R A) (f1 : M A) : M A := fun ρ S => (f1 ρ S).bind fun a S1 => match capD ρ js with
  | some cs => (match a with
    | .d x => noF (F [.d x, .fnc k cs] S1)
    | _ => .bad)
  | none => .bad
theorem cap_rel {m : List Addr} {ρ : Env} (he : RE C m H ρ σ) : ∀ {js : List Nat} {cs : List D}, capD ρ js = some cs → ∃ ws, RDs C m H cs ws ∧ js.map (slotAt σ) = ws.map some
  | [], _, e => by cases e; exact ⟨[], RDs.nil, rfl⟩
  | j :: js, cs, e => by
    unfold capD at e
    split at e
    · rename_i x ds e1 e2
      cases e
      obtain ⟨ws, h1, h2⟩ := cap_rel he e2
      obtain ⟨v, g1, g2⟩ := he.at_ j _ e1
      exact ⟨v :: ws, RDs.cons g2 h1, by rw [List.map_cons, List.map_cons, h2, slotAt_of g1]⟩
    · cases e
theorem cell_far (I : L2.Inv X pins σ H s) (hfn : ∀ y c, X.env.cells.lookup y = some c → X.fn y = true) {y : Str} {c : Addr} (e : X.env.cells.lookup y = some c) : X.base.get? c = none ∧ c ∉ frs X.stack := by
  have lo := I.ok.cab y c (hfn y c e) e
  refine ⟨Heap.get?_none_of_le (Nat.le_trans I.ok.bsz lo), fun hc => ?_⟩
  rcases List.mem_cons.mp (I.stkSub c hc) with e1 | hc
  · obtain ⟨m, ⟨o, es, ep, ho, hd, _⟩, _⟩ := I.loc
    obtain ⟨v, o2, ho2, hd2⟩ := I.cell y c e
    rw [e1, ho] at ho2
    cases ho2
    rw [hd] at hd2
    cases hd2
  · obtain ⟨_, o, ho, _⟩ := I.ok.funs.mem hc
    exact absurd (Heap.lt_size ho) (Nat.not_lt.mpr lo)
theorem RA.mkFnc {m : List Addr} {kk : Nat} {cs : List D} {v : V} (h : ∃ f c' cl ws, v = .ref f ∧ H f = some (LamO f ((C.fc kk).nf cl c') (C.fc kk).b) ∧ Off C m f ∧ H ((C.fc kk).nf cl c').c = some (CodeO ((C.fc kk).nf cl c').c ((C.fc kk).nf cl c').qual) ∧ Off C m ((C.fc kk).nf cl c').c ∧ Cap C m H (C.fc kk).fr cl cs ws) : RA C m H (.fnc kk cs) v := h
theorem se_callC {kk : Nat} {js : List Nat} {x : Str} {F : List A → Store → R A} {f1 : M A} {e1 : Expr} {nm : Nat → Nat → Str} {c P : Addr} {params : Arguments} {body : Expr} {scope : PySem.Scope} {p pos lpos : Pos} {fr : List Str}
    (G : FnOk X.prog X.w X.K X.mg X.base (L2.CX X.prog X.w) k f fd ps (spF C 2 F)) (hr : Room k X.A) (hg : Gl X x) (hm : X.mg x = some (.ref f)) (hk : PySem.W.keepIn X.K (.ref f) = true) (hb : Binds X.K fd ps [])
    (TB : TabB X.base X.mg c P) (hcode : X.env.code = .ref c) (hmT : (P, nm) ∈ C.tb) (hn : nm lpos.line lpos.col = X.env.qual ++ "<lambda>") (hu : ∀ p ∈ C.tb, p.1 = P → p.2 = nm)
    (hfc : C.fc kk = ⟨fun cl c' => ⟨"<lambda>", X.env.qual ++ "<lambda>", params, [], scope, cl, c'⟩, body, fr⟩) (hfr : ∀ y ∈ fr, (y, NameKind.free) ∈ scope.names) (hjs : js.map (fun j => X.N[j]?) = fr.map some)
    (hfree : ∀ y ∈ scope.names, y.2 = NameKind.free → X.env.scope.names.lookup y.1 = some .cell ∨ X.env.scope.names.lookup y.1 = some .free)
    (hfn : ∀ y c, X.env.cells.lookup y = some c → X.fn y = true) (ha : SE C E X e1 f1) (hdef : defaultsOf params X.env = ([], []) := by rfl) (hdb : (x == ("__debug__" : Str)) = false := by decide)
    (he : starEach [e1, .Lambda params body scope lpos] X.env = (false, eval e1 X.env) :: starEach [.Lambda params body scope lpos] X.env := by rfl)
    (he2 : starEach [.Lambda params body scope lpos] X.env = (false, eval (.Lambda params body scope lpos) X.env) :: starEach [] X.env := by rfl)
    (hpl : (backTo pos (starEach [.Lambda params body scope lpos] X.env)).any (·.1) = false := by rfl) : SE C E X (.Call (.Name x p) [e1, .Lambda params body scope lpos] [] pos) (callC kk js F f1) := by
  refine ⟨fun pins s σ H Q I ⟨m, S, ρ, hs, hE, w⟩ => ?_⟩
  refine wpAny_Call_Name_kw (ld_glob I hg hm ?_ hdb)
  have pa := pa_cons ha (pa_cons (pe_lam (T := C.tb) TB hcode hmT hn hu hdef hfree) pa_nil he2) he
  let R : List V → Hp → Prop := fun vs H2 => ∃ m1 S1 x v f c' cs, vs = [v, .ref f] ∧ RS C m1 S1 H2 ∧ RE C m1 H2 ρ σ ∧ RD C m1 H2 x v ∧ Off C m1 f ∧ Off C m1 c' ∧ H2 f = some (LamO f ⟨"<lambda>", X.env.qual ++ "<lambda>", params, [], scope, cloFrom X.env.cells scope.names [], c'⟩ body) ∧ H2 c' = some (CodeO c' (X.env.qual ++ "<lambda>")) ∧
    capD ρ js = some cs ∧ WpG C E (RA C) m1 H2 (noF (F [.d x, .fnc kk cs] S1)) Q
  refine PySem.W.callWith_K (h₀ := X.base) I.ok.mod.kin hk (thn (pa.run pos pins s σ H R I ?_) fun us s1 ⟨vs, H2, I2, r, q⟩ => ⟨Inv.kIn I2, ?_⟩) he hpl
  · refine tE_then (g := fun a ρ S1 => match capD ρ js with
      | some cs => (match a with
        | .d x => noF (F [.d x, .fnc kk cs] S1)
        | _ => .bad)
      | none => .bad) hs hE w fun m1 S1 a v H1 x1 r1 e1 q1 w1 => ?_
    refine ⟨fun q hq => (r1.tab q hq).2, fun f c' H2 h1 h2 h3 h4 h5 h6 => ?_⟩
    have hPm : P ∉ m1 := (r1.tab _ hmT).1
    have hPr : ∀ p, Off C m1 p → p ≠ P := fun p n z => n.2 (List.mem_append_right _ (z ▸ List.mem_map_of_mem hmT))
    have x : Ext C m1 H1 m1 H2 := ⟨⟨[], by simp⟩, fun p o e n => ⟨h1 p o e (hPr p n), n⟩⟩
    have r : RS C m1 S1 H2 := by
      refine ⟨r1.len, r1.nd, fun q hq => ?_, fun n o p k1 k2 => ?_, fun q hq => ⟨(r1.tab q hq).1, h3 q hq⟩⟩
      · obtain ⟨k1, k2⟩ := r1.own q hq
        refine ⟨k1, h1 _ _ k2 fun z => ?_⟩
        obtain ⟨_, ps, e, _⟩ := r1.tab _ hmT
        rw [z] at k2
        rw [k2] at e
        cases e
      · have z := r1.cell n o p k1 k2
        refine z.ext x ?_
        obtain ⟨u, e, _⟩ := z.alive
        rw [e]
        exact h1 p u e fun z => hPm (z ▸ List.mem_of_getElem? k2)
    split at w1
    · rename_i cs hcs
      cases a with
      | d y => exact ⟨m1, S1, y, v, f, c', cs, rfl, r, e1.ext x, RD.ext x q1, r.outx h5, r.outx h6, h5, h6, hcs, w1.ext x⟩
      | ref n => exact False.elim w1
      | fnc j ds => exact False.elim w1
    · exact False.elim w1
  · obtain ⟨m1, S1, x, v, lf, c', cs, rfl, r2, e2, q2, nf, nc, h5, h6, hcs, w2⟩ := q
    obtain ⟨a', S', eF, nfn, hS', w3⟩ := noF_ok w2
    let cl := cloFrom X.env.cells scope.names []
    have caps : Caps X cl fr js := Caps.made I2.ok hfree hfr hjs
    have ca := cells_of I2 caps
    obtain ⟨ws, rdw, hws⟩ := cap_rel e2 hcs
    let π := piOf cl s1.heap
    have hp : ∀ a o, π a = some o → s1.heap.get? a = some o ∧ H2 a = none ∧ X.base.get? a = none ∧ a ∉ frs X.stack := fun a o e => by
      obtain ⟨⟨y, hy⟩, z⟩ := piOf_some e
      have far := cell_far I2 hfn (caps.sub y a hy)
      exact ⟨z, (ca.all y a hy).1, far.1, far.2⟩
    have hn2 : ∀ a o, π a = some o → H2 a = none := fun a o e => (hp a o e).2.1
    have xp := ext_pin r2 hn2
    have rp := rs_pin r2 hn2
    refine run_pin (π := π) G hr hb I2 r hp ⟨C.z, m1, S1, [.d x, .fnc kk cs], rp, .cons (RD.ext xp q2) (.cons ?_ .nil), rfl, ?_⟩
    · have a1 := xp.stay _ _ h5 nf
      have a2 := xp.stay _ _ h6 nc
      refine RA.mkFnc ?_
      rw [hfc]
      have at1 : ∀ y c, cl.lookup y = some c → ∀ v, s1.heap.IsCell c v → ∃ o, π c = some o ∧ o.data = .cell v := fun y c e v ⟨o, ho, hd⟩ => ⟨o, by show piOf cl s1.heap c = _; rw [piOf_at e]; exact ho, hd⟩
      refine ⟨lf, c', cl, ws, rfl, a1.1, a1.2, a2.1, a2.2, ?_, RDs.ext xp rdw, fun y c e => ?_, ca.inj, fun i y v k1 k2 => ?_, fun y hy => ?_⟩
      · have q := ca.len
        rw [hws, List.length_map] at q
        exact q
      · obtain ⟨n1, v, z⟩ := ca.all y c e
        obtain ⟨o, g1, g2⟩ := at1 y c e v z
        exact ⟨o, v, pin_at g1, r2.out n1, g2⟩
      · obtain ⟨c, g1, g2⟩ := ca.has i y k1
        obtain ⟨u, g3, g4⟩ := g2 v (by rw [hws, List.getElem?_map, k2]; rfl)
        obtain ⟨o, g5, g6⟩ := at1 y c g1 _ g4
        exact ⟨c, o, u, g1, pin_at g5, g6, g3⟩
      · obtain ⟨i, hi⟩ := List.getElem?_of_mem hy
        obtain ⟨c, g1, _⟩ := ca.has i y hi
        exact ⟨c, g1⟩
    · show WpG C noE (RA C) m1 (pinH π H2) (F [.d x, .fnc kk cs] S1) _
      rw [eF]
      intro m' H' b x' r' q'
      have hq : ∀ a o, π a = some o → H' a = some (PinO a o) := fun a o e => (x'.stay a _ (pin_at e) (r2.out (hn2 a o e))).1
      have pk : PiOk π s1.heap := ⟨fun a o e => by
        obtain ⟨⟨y, hy⟩, z⟩ := piOf_some e
        obtain ⟨_, v, o2, ho2, hd2⟩ := ca.all y a hy
        rw [z] at ho2
        cases ho2
        exact ⟨z, v, hd2⟩⟩
      refine ⟨hq, w3 m' (unpH π H') b ⟨x'.pre, fun p o e n => ?_⟩ (RS.thin hq pk hS' r') (RA.thin hq pk nfn q')⟩
      have hb : π p = none := by
        cases hb : π p with
        | none => rfl
        | some ob => rw [hn2 p ob hb] at e; cases e
      have z := x'.stay p o (by rw [pin_off hb]; exact e) n
      exact ⟨by rw [unp_off hb]; exact z.1, z.2⟩
end
/-! ### it is called -/
section
variable {C : Cc} {E : XK} {X : Cx}
def lamFc (N n nf : Nat) (b : M A) : List D → List A → Store → R A := fun cs as S => if as.length = n ∧ cs.length = nf then (b (startE N (as ++ cs.map A.d)) S).bind (retA false S.length) else .bad
def spFc (C : Cc) (n : Nat) (G : List D → List A → Store → R A) : List (Option V) → Sp := fun ws' vs H Q E => ∃ z m S as cs ws, ws' = ws.map some ∧ RS (C.wz z) m S H ∧ RAs (C.wz z) m H as vs ∧ RDs (C.wz z) m H cs ws ∧ as.length = n ∧ WpG (C.wz z) E (RA (C.wz z)) m H (G cs as S) Q
theorem ras_d {m : List Addr} {H : Hp} : ∀ {cs : List D} {ws : List V}, RDs C m H cs ws → RAs C m H (cs.map A.d) ws
  | [], _, h => by unfold RDs at h; subst h; exact .nil
  | c :: cs, _, h => by
    unfold RDs at h
    obtain ⟨v, r, rfl, h1, h2⟩ := h
    exact .cons h1 (ras_d h2)
theorem lam_okC {P : Program} {w : World} {K : Fr} {mg : Str → Option Value} {base : Heap} {N ps fr : List Str} {F : NF} {b : Expr} {f : Addr} {k : Nat} {body : M A} (S : NScope N ps fr F.scope)
    (hb : ∀ (pm ctv : Value) (us : List Value), us.length = ps.length → bindArgs (PySem.W.kla_fn F.name F.qual F.params b F.scope F.cl pm (.ref F.c) ctv) { pos := us } = pure (ps.zip us))
    (run : ∀ (A' : Around) (outer : List PySem.Env) (s : Shared) (H : Hp) (E : XK) (z : List (Addr × List V)), Room k (A'.deeper (envF F f s.heap.objs.size)) → SE (C.wz z) E (ncx (L2.CX P w) P w K mg base N F f A' outer s H E) b body) :
    LOk P w K mg base (L2.CX P w) (k + 1) f F b ps fr (spFc C ps.length (lamFc N.length ps.length fr.length body)) := by
  refine lok_of S hb (fun ws vs H Q E h => ?_) fun A' outer s H vs ws Q E hr h1 h2 h3 h => ?_
  · obtain ⟨z, m, St, as, cs, ws, _, hs, ha, _, hl, _⟩ := h
    rw [← Paired.length ha]; exact hl
  · obtain ⟨z, m, St, as, cs, ws2, e0, hs, ha, hc, hl, w'⟩ := h
    subst e0
    have ha2 := ha.app (ras_d hc)
    refine ⟨_, run A' outer s H E z hr, m, St, startE N.length (as ++ cs.map A.d), hs, ?_, ?_⟩
    · have e : startF N vs (ws2.map some) = L2.start N (vs ++ ws2) := by
        simp [startF, L2.start, Nat.sub_sub]
      rw [e]
      exact re_start ha2
    · unfold lamFc at w'
      split at w'
      · cases hB : body (startE N.length (as ++ cs.map A.d)) St with
        | bad => rw [hB] at w'; exact False.elim w'
        | exc x S1 => rw [hB] at w'; exact w'
        | ok a S1 =>
          rw [hB] at w'
          simp only [RS.R.bind] at w'
          intro m' H' v x r q
          exact ret_of (keep := false) hs x r q w'
      · exact False.elim w'
/-- f(..), f a name that holds a lambda that captures -/
def plainA : List A → Bool
  | [] => true
  | .fnc _ _ :: _ => false
  | _ :: as => plainA as
def callLc (i cnt n : Nat) (G : Nat → List D → List A → Store → R A) (fs : M (List A)) : M A := fun ρ S => match ρ[i]? with
  | some (some (.fnc k cs)) => if k < cnt then (fs ρ S).bind fun as S1 => if as.length = n ∧ plainA as = true ∧ storeOk S1.length S1 = true then noF (G k cs as S1) else .bad else .bad
  | _ => .bad
theorem ras_thin {π : Addr → Option Obj} {H : Hp} {h0 : Heap} {m : List Addr} (hp : ∀ a o, π a = some o → H a = some (PinO a o)) (k : PiOk π h0) : ∀ {as : List A} {vs : List V}, plainA as = true → RAs C m H as vs → RAs C m (unpH π H) as vs
  | _, _, _, .nil => .nil
  | a :: as, _, e, .cons q t => by
    cases a with
    | fnc j cs => cases e
    | d x => exact .cons (RA.thin hp k (fun j cs z => by cases z) q) (ras_thin hp k e t)
    | ref n => exact .cons (RA.thin hp k (fun j cs z => by cases z) q) (ras_thin hp k e t)
theorem se_callLc {i cnt j k np : Nat} {x : Str} {G : Nat → List D → List A → Store → R A} {fs : M (List A)} {e : Expr} {es : List Expr} {p pos : Pos} (Fn : ∀ n, n < cnt → ∀ (f c' : Addr) (cl : List (Str × Addr)), ∃ ps : List Str, ps.length = np ∧ LOk X.prog X.w X.K X.mg X.base (L2.CX X.prog X.w) k f ((C.fc n).nf cl c') (C.fc n).b ps (C.fc n).fr (spFc C np (G n)))
    (hcl : ∀ n, n < cnt → ∀ cl c', ((C.fc n).nf cl c').cl = cl) (hr : Room j X.A) (hk : k ≤ j)
    (hN : X.N[i]? = some x) (hv : Vis X.env.scope x) (ha : SA C E X (e :: es) fs) (hd : (x == ("__debug__" : Str)) = false := by decide) (hcd : (x == ("__classdict__" : Str)) = false := by decide)
    (he : starEach (e :: es) X.env = (false, eval e X.env) :: starEach es X.env := by rfl) (hpl : (backTo pos (starEach es X.env)).any (·.1) = false := by rfl) : SE C E X (.Call (.Name x p) (e :: es) [] pos) (callLc i cnt np G fs) := by
  refine ⟨fun pins s σ H Q I ⟨m, S, ρ, hs, hE, w⟩ => ?_⟩
  unfold callLc at w
  split at w
  rotate_left
  · exact False.elim w
  rename_i n cs hn
  split at w
  rotate_left
  · exact False.elim w
  rename_i hlt
  obtain ⟨v, g1, g2⟩ := hE.at_ i _ hn
  obtain ⟨f, c', cl, ws, rfl, k1, o1, k2, o2, cap⟩ := g2
  refine wpAny_Call_Name_kw (thn ((pe_var hN hv hd hcd).run pins s σ H (fun v H1 => v = .ref f ∧ H1 = H) I ⟨.ref f, g1, rfl, rfl⟩) fun u s1 ⟨v, H1, I1, r1, ev, eH⟩ => ?_)
  subst ev
  subst eH
  have r1 : u = .ref f := r1
  subst r1
  let R : List V → Hp → Prop := fun vs H2 => ∃ m1 S1 as, Ext C m H1 m1 H2 ∧ RS C m1 S1 H2 ∧ RAs C m1 H2 as vs ∧ WpG C E (RA C) m1 H2 (if as.length = np ∧ plainA as = true ∧ storeOk S1.length S1 = true then noF (G n cs as S1) else .bad) Q
  have hA : tA C E fs σ H1 R := tA_then (g := fun as _ S1 => if as.length = np ∧ plainA as = true ∧ storeOk S1.length S1 = true then noF (G n cs as S1) else .bad) hs hE w fun m1 S1 as vs H2 x1 r1 e1 q1 w1 => ⟨m1, S1, as, x1, r1, q1, w1⟩
  refine PySem.W.callWith_F (lam_fnAt I1 k1) (thn (ha.run pos pins s1 σ H1 R I1 hA) fun us s2 ⟨vs, H2, I2, r, q⟩ => ?_) he hpl
  obtain ⟨m1, S1, as, x1, r2, q1, w1⟩ := q
  have f1 := (x1.stay _ _ k1 o1).1
  have f2 := (x1.stay _ _ k2 o2).1
  refine ⟨lam_fnAt I2 f1, ?_⟩
  split at w1
  rotate_left
  · exact False.elim w1
  rename_i hc3
  obtain ⟨hlen, hpl2, hst⟩ := hc3
  obtain ⟨a', S', eG, nfn, hS', w3⟩ := noF_ok w1
  have cap2 := cap.ext x1
  let π := piOf cl s2.heap
  have hp : ∀ a o, π a = some o → H2 a = some (PinO a o) := fun a o e => by
    obtain ⟨⟨y, hy⟩, z⟩ := piOf_some e
    obtain ⟨o2, v2, e2, _, _⟩ := cap2.all y a hy
    have z2 := (I2.hok a _ e2).1
    have z2 : s2.heap.get? a = some o2 := z2
    rw [z] at z2
    cases z2
    exact e2
  have pat : ∀ y c, cl.lookup y = some c → ∀ o, H2 c = some (PinO c o) → π c = some o ∧ s2.heap.get? c = some o := fun y c e o eo => by
    have z : s2.heap.get? c = some o := (I2.hok c _ eo).1
    exact ⟨by show piOf cl s2.heap c = _; rw [piOf_at e]; exact z, z⟩
  have pk : PiOk π s2.heap := ⟨fun a o e => by
    obtain ⟨⟨y, hy⟩, z⟩ := piOf_some e
    obtain ⟨o2, v2, e2, _, e3⟩ := cap2.all y a hy
    have z2 : s2.heap.get? a = some o2 := (I2.hok a _ e2).1
    rw [z] at z2
    cases z2
    exact ⟨z, v2, e3⟩⟩
  have e0 := Inv.env0 I2
  have stf : ∀ b, H2 b = none → unpH π H2 b = none := fun b e => by
    cases hb : π b with
    | some ob => exact unp_at hb
    | none => rw [unp_off hb]; exact e
  have e1 : Env0 X.prog X.w X.K X.mg X.base X.A X.stack s2 (unpH π H2) := ⟨e0.frames, e0.mod, fun b o e => ⟨(e0.bs b o e).1, stf b (e0.bs b o e).2⟩, e0.bsz, e0.funs, fun b e => stf b (e0.frf b e), hok_unp e0.hok hp, e0.bare⟩
  have r3 := RS.thin hp pk hst r2
  have q3 := ras_thin hp pk hpl2 q1
  have d3 := RDs.thin hp pk cap2.rd
  have C3 : CellsAt ((C.fc n).nf cl c').cl (C.fc n).fr (ws.map some) s2.heap (unpH π H2) := by
    rw [hcl n hlt]
    refine ⟨by rw [List.length_map]; exact cap2.len, fun y c e => ?_, cap2.inj, fun i y e => ?_⟩
    · obtain ⟨o, v, e2, _, e3⟩ := cap2.all y c e
      obtain ⟨p1, p2⟩ := pat y c e o e2
      exact ⟨unp_at p1, v, o, p2, e3⟩
    · cases hw : ws[i]? with
      | none =>
        have l1 := (List.getElem?_eq_some_iff.mp e).1
        rw [List.getElem?_eq_none_iff] at hw
        rw [← cap2.len] at l1
        omega
      | some v =>
        obtain ⟨c, o, u, h1, h2, h3, h4⟩ := cap2.has i y v e hw
        obtain ⟨p1, p2⟩ := pat y c h1 o h2
        refine ⟨c, h1, fun v2 ev => ?_⟩
        rw [List.getElem?_map, hw] at ev
        cases ev
        exact ⟨u, h4, o, p2, h3⟩
  let Q0 : VK := fun v H' => ∃ m', Ext C m1 (unpH π H2) m' H' ∧ RS C m' S' H' ∧ RA C m' H' a' v
  obtain ⟨ps, hps, FN⟩ := Fn n hlt f c' cl
  have run := FN.run X.A X.stack s2 (unpH π H2) us vs (ws.map some) Q0 noE (hr.mono hk) e1 (unp_ne hp f1 fun o e => pk.lam e) (unp_ne hp f2 fun o e => pk.code e) C3 r ⟨C.z, m1, S1, as, cs, ws, rfl, r3, q3, d3, hlen, by
    show WpG C noE (RA C) m1 (unpH π H2) (G n cs as S1) Q0
    rw [eG]
    exact fun m' H' b x' r' q' => ⟨m', x', r', q'⟩⟩
  refine wpAny_call (codeAny_mono run fun r s' hq => ?_)
  cases r with
  | error e => exact (pass_noc rfl hq).elim
  | ok fl =>
    cases fl with
    | ret u =>
      obtain ⟨v, H', os, bare, un, hok, rv, m', x', r', q'⟩ := hq
      have hnf : ∀ a o, π a = some o → a ∉ frs X.stack := fun a o e z => by
        have := Inv.stkFree I2 a z
        rw [hp a o e] at this
        cases this
      have hh : ∀ a o, π a = some o → s'.heap.get? a = some o ∧ H' a = none := fun a o e => by
        have z := (pk.at_ a o e).1
        exact ⟨un.keep a o z (unp_at e) (hnf a o e) (by simp), un.free a o z (unp_at e) (by simp)⟩
      have hn' : ∀ a o, π a = some o → H' a = none := fun a o e => (hh a o e).2
      refine Inv.after I2 ⟨v, pinH π H', os, bare, un_unp un hp, hok_pin hok hh, rv, ?_⟩
      refine w3 m' (pinH π H') v ⟨x'.pre, fun p o e nO => ?_⟩ (rs_pin r' hn') (RA.ext (ext_pin r' hn') q')
      cases hb : π p with
      | some ob =>
        rw [hp p ob hb] at e
        cases e
        exact ⟨pin_at hb, r'.out (hn' p ob hb)⟩
      | none =>
        have z := x'.stay p o (by rw [unp_off hb]; exact e) nO
        exact ⟨by rw [pin_off hb]; exact z.1, z.2⟩
    | _ => exact False.elim hq
end
/-! ### tables of several defs -/
def fTabs (ads : List (Fr → Addr)) : Fr → Bool := fun K => decide ((ads.map fun ad => tabA ad K).Nodup)
theorem tabs_ok {K : Fr} {ads : List (Fr → Addr)} {l : List NTab} (e : fTabs ads K = true) (h : l.map Prod.fst = ads.map fun ad => tabA ad K := by rfl) : (l.map Prod.fst).Nodup := by
  rw [h]
  exact of_decide_eq_true e
theorem lu_of {l : List NTab} (nd : (l.map Prod.fst).Nodup) {a : Addr} {n : Nat → Nat → Str} (h : (a, n) ∈ l) : ∀ p ∈ l, p.1 = a → p.2 = n := by
  induction l with
  | nil => cases h
  | cons q l ih =>
    intro p hp e
    rw [List.map_cons, List.nodup_cons] at nd
    rcases List.mem_cons.mp h with h1 | h2
    · subst h1
      rcases List.mem_cons.mp hp with h3 | h4
      · rw [h3]
      · exact absurd (show (a, n).1 ∈ l.map Prod.fst by rw [show (a, n).1 = p.1 from e.symm]; exact List.mem_map_of_mem h4) nd.1
    · rcases List.mem_cons.mp hp with h3 | h4
      · subst h3
        have z : (a, n).1 ∈ l.map Prod.fst := List.mem_map_of_mem h2
        exact absurd (show p.1 ∈ l.map Prod.fst by rw [e]; exact z) nd.1
      · exact ih nd.2 h2 p h4 e
theorem so_callC {L : Lm} {X : Cx} {K : Fr} {z : List (Addr × List V)} {E : XK} {k : Nat} {d : DefP} {ps : List Str} {kk : Nat} {js : List Nat} {x : Str} {F : List A → Store → R A} {f1 : M A} {e1 : Expr} {nm : Nat → Nat → Str} {c P : Addr} {params : Arguments} {body : Expr} {scope : PySem.Scope} {p pos lpos : Pos} {fr : List Str}
    (hK : X.K = K) (G : OkX L X d k ps F) (hn2 : ps.length = 2) (hr : Room k X.A) (hg : Gl X x) (hm : X.mg x = some (.ref (d.ad X.K)))
    (TB : TabB X.base X.mg c P) (hcode : X.env.code = .ref c) (hmT : (P, nm) ∈ ((cc L K).wz z).tb) (hn : nm lpos.line lpos.col = X.env.qual ++ "<lambda>") (hu : ∀ p ∈ ((cc L K).wz z).tb, p.1 = P → p.2 = nm)
    (hfc : ((cc L K).wz z).fc kk = ⟨fun cl c' => ⟨"<lambda>", X.env.qual ++ "<lambda>", params, [], scope, cl, c'⟩, body, fr⟩) (hfrB : (fr.all fun y => decide ((y, NameKind.free) ∈ scope.names)) = true) (hjs : js.map (fun j => X.N[j]?) = fr.map some)
    (hfreeB : (scope.names.all fun y => decide (y.2 ≠ NameKind.free) || (decide (X.env.scope.names.lookup y.1 = some .cell) || decide (X.env.scope.names.lookup y.1 = some .free))) = true)
    (hfn : ∀ y c, X.env.cells.lookup y = some c → X.fn y = true) (ha : SE ((cc L K).wz z) E X e1 f1) (hdef : defaultsOf params X.env = ([], []) := by rfl) (hdb : (x == ("__debug__" : Str)) = false := by decide)
    (he : starEach [e1, .Lambda params body scope lpos] X.env = (false, eval e1 X.env) :: starEach [.Lambda params body scope lpos] X.env := by rfl)
    (he2 : starEach [.Lambda params body scope lpos] X.env = (false, eval (.Lambda params body scope lpos) X.env) :: starEach [] X.env := by rfl)
    (hpl : (backTo pos (starEach [.Lambda params body scope lpos] X.env)).any (·.1) = false := by rfl) : SE ((cc L K).wz z) E X (.Call (.Name x p) [e1, .Lambda params body scope lpos] [] pos) (callC kk js F f1) := by
  subst hK
  have hfr : ∀ y ∈ fr, (y, NameKind.free) ∈ scope.names := fun y hy => of_decide_eq_true (List.all_eq_true.mp hfrB y hy)
  have hfree : ∀ y ∈ scope.names, y.2 = NameKind.free → X.env.scope.names.lookup y.1 = some .cell ∨ X.env.scope.names.lookup y.1 = some .free := fun y hy e => by
    have z := List.all_eq_true.mp hfreeB y hy
    simp only [Bool.or_eq_true, decide_eq_true_eq] at z
    rcases z with z | z | z
    · exact absurd e z
    · exact .inl z
    · exact .inr z
  obtain ⟨fd, h1, h2, h3⟩ := G.ex
  rw [hn2] at h2
  exact se_callC (C := (cc L X.K).wz z) h2 hr hg hm h1.kp h3 TB hcode hmT hn hu hfc hfr hjs hfree hfn ha hdef hdb he he2 hpl
end RS
end

section
set_option maxRecDepth 100000
set_option maxHeartbeats 4000000
/-! len, in, .. of own classes, by their own methods. -/
namespace RS
open PySem PySem.Spec PyProof.Rows L2
/-- a class's own special method -/
structure SpC (K : Fr) (c g : Addr) (name : Str) : Prop where
  at_ : PySem.W.findIn K (.ref c) name = some (some (.ref g))
  fn : PySem.W.isFn K (.ref g) = true
def fSpC (c name : Str) : Fr → Bool := fun K => He.eqO (PySem.W.findIn K (.ref (gA c K)) name) (some (some (.ref (mA c name K)))) && PySem.W.isFn K (.ref (mA c name K))
theorem spC_ok {K : Fr} {c name : Str} (h : fSpC c name K = true) : SpC K (gA c K) (mA c name K) name := by
  obtain ⟨h1, h2⟩ := He.ba h
  exact ⟨He.eqO_ok h1, h2⟩
section
variable {C : Cc} {E : XK} {X : Cx} {c : Str} {k : Nat} {g : Addr} {fd : FuncData} {ps : List Str} {F : List A → Store → R A}
/-! ### len -/
def lenOwP (c : Str) (F : List A → Store → R A) : List A → Store → R A := fun as S => match as with
  | [a] => (match insOf S c a with
    | some _ => (match F [a] S with
      | .ok (.d (.int n)) S2 => if 0 ≤ n ∧ n < 2 ^ 63 then .ok (.d (.int n)) S2 else .bad
      | _ => .bad)
    | none => .bad)
  | _ => .bad
def rLenOw (C : Cc) (c : Str) (F : List A → Store → R A) : List V → Hp → VK → Prop := fun xs H Q => ∃ m S as, RS C m S H ∧ RAs C m H as xs ∧ WpG C noE (RA C) m H (lenOwP c F as S) Q
theorem noexc {m : List Addr} {H : Hp} {r : R A} {Q : VK} (h : (∃ a S, r = .ok a S) ∨ r = .bad) (w : WpG C E (RA C) m H r Q) : WpG C noE (RA C) m H r Q := by
  rcases h with ⟨a, S, rfl⟩ | rfl
  · exact w
  · exact w
theorem lenOw_r {as : List A} {S : Store} : (∃ a S', lenOwP c F as S = .ok a S') ∨ lenOwP c F as S = .bad := by
  unfold lenOwP
  split
  · split
    · split
      · split
        · exact .inl ⟨_, _, rfl⟩
        · exact .inr rfl
      · exact .inr rfl
    · exact .inr rfl
  · exact .inr rfl
theorem c_lenOw : Bcl C E (rLenOw C c F) (lenOwP c F) := fun m S H as vs Q hs ha w => ⟨m, S, as, hs, ha, noexc lenOw_r w⟩
theorem call_lenOw (B : SpC X.K (C.ca c) g "__len__") (G : FnOk X.prog X.w X.K X.mg X.base (L2.CX X.prog X.w) k g fd ps (spF C 1 F)) (hr : Room (k + 1) X.A) (hb : Binds X.K fd ps []) : CallR X (.builtin "len") (rLenOw C c F) := by
  intro pins s σ H xs us Q I r ⟨m, S, as, hs, ha, w⟩
  unfold lenOwP at w
  split at w
  · rename_i a
    split at w
    · rename_i fs h1
      obtain ⟨v, rfl, ha1⟩ := ras1 ha
      obtain ⟨p, dx, hp, rfl, hp1, _⟩ := ins_at hs ha1 h1
      cases r with
      | cons r t =>
        cases t
        rename_i u
        have r : u = .ref p := r
        subst r
        obtain ⟨ox, od, i1⟩ := inst_of I hp1
        obtain ⟨mf, fr⟩ := Inv.fr I
        let Q' : VK := fun v H' => ∃ n, v = .int n ∧ (0 ≤ n ∧ n < 2 ^ 63) ∧ Q (.int n) H'
        have sp : spF C 1 F [.ref p] H Q' noE := by
          refine sp_of hs ha rfl ?_
          cases hF : F [a] S with
          | bad => rw [hF] at w; exact w
          | exc e S2 => rw [hF] at w; exact False.elim w
          | ok r S2 =>
            rw [hF] at w
            intro m' H' v x' r' q'
            split at w
            · rename_i n S3 e
              cases e
              split at w
              · rename_i hn
                refine ⟨n, q'.int, hn, ?_⟩
                exact w m' H' _ x' r' (RA.mkInt _)
              · exact False.elim w
            · exact False.elim w
        have run := run_fn (X := deep X) (us := [.ref p]) (vs := [.ref p]) G hr.in1 hb .nil (pass_noe (X := deep X)) (deep_in I) (.cons (show L2.RelV (.ref p) (.ref p) from rfl) .nil) sp
        refine PySem.W.len_K fr I.ok.mod.kin i1 B.at_ B.fn (wpAny_mono run (fun v' s' z => ?_) fun _ _ e => e)
        obtain ⟨vv, H', I', rv, n, rfl, hn, hq⟩ := z
        obtain ⟨t, rfl⟩ := rv
        exact ⟨hn, .int n, H', Inv.tok (deep_out I.ok I') _, ⟨_, rfl⟩, hq⟩
    · exact False.elim w
  · exact False.elim w
/-! ### in -/
def inOwP (neg : Bool) (c : Str) (F : List A → Store → R A) : A → A → Store → R A := fun a b S => match insOf S c b with
  | some _ => (match F [b, a] S with
    | .ok (.d (.bl r)) S2 => .ok (.d (.bl (r ^^ neg))) S2
    | _ => .bad)
  | none => .bad
def rInOw (C : Cc) (neg : Bool) (c : Str) (F : List A → Store → R A) : R2 := fun x y H Q => ∃ m S a b, RS C m S H ∧ RA C m H a x ∧ RA C m H b y ∧ WpG C noE (RA C) m H (inOwP neg c F a b S) Q
theorem inOw_r {neg : Bool} {a b : A} {S : Store} : (∃ r S', inOwP neg c F a b S = .ok r S') ∨ inOwP neg c F a b S = .bad := by
  unfold inOwP
  split
  · split
    · exact .inl ⟨_, _, rfl⟩
    · exact .inr rfl
  · exact .inr rfl
theorem b_inOw {neg : Bool} : Bin2 C E (rInOw C neg c F) (inOwP neg c F) := fun m S H a b x y Q hs ha hb w => ⟨m, S, a, b, hs, ha, hb, noexc inOw_r w⟩
theorem inOw_run {neg : Bool} {m : List Addr} {S : Store} {H : Hp} {a b : A} {x y : V} {Q : VK} (hs : RS C m S H) (ha : RA C m H a x) (hb : RA C m H b y) (w : WpG C noE (RA C) m H (inOwP neg c F a b S) Q) :
    (∃ q dy gs', y = .ref q ∧ H q = some (.ins (C.ca c) dy gs')) ∧ spF C 2 F [y, x] H (fun v H' => ∃ r, v = .bl r ∧ Q (.bl (r ^^ neg)) H') noE := by
  unfold inOwP at w
  split at w
  · rename_i gs h2
    obtain ⟨q, dy, hq, rfl, hq1, _⟩ := ins_at hs hb h2
    refine ⟨⟨q, dy, hq, rfl, hq1⟩, sp_of hs (.cons hb (.cons ha .nil)) rfl ?_⟩
    cases hF : F [b, a] S with
    | bad => rw [hF] at w; exact w
    | exc e S2 => rw [hF] at w; exact False.elim w
    | ok r S2 =>
      rw [hF] at w
      intro m' H' v x' r' q'
      split at w
      · rename_i b' S3 e
        cases e
        exact ⟨_, q'.bl, w m' H' _ x' r' (RA.mkBl _)⟩
      · exact False.elim w
  · exact False.elim w
theorem truthy_bool {M : Model} {A : Around} {Er : Value → Shared → Prop} {b : Bool} {Q : Bool → Shared → Prop} {s : Shared} (h : Q b s) : wpAny M A (truthy (.bool b)) Q Er s := by
  unfold truthy
  exact wpAny_pure h
theorem op_inOw (B : SpC X.K (C.ca c) g "__contains__") (G : FnOk X.prog X.w X.K X.mg X.base (L2.CX X.prog X.w) k g fd ps (spF C 2 F)) (hr : Room (k + 1) X.A) (hb : Binds X.K fd ps []) : OpR X (compareOp .In) (rInOw C false c F) := by
  intro pins s σ H x y v u Q I rx ry ⟨m, S, a, b, hs, ha, hb', w⟩
  obtain ⟨⟨q, dy, gs', rfl, h2⟩, sp⟩ := inOw_run hs ha hb' w
  have ry : u = .ref q := ry
  subst ry
  obtain ⟨oy, od2, i2⟩ := inst_of I h2
  obtain ⟨mf, fr⟩ := Inv.fr I
  have run := run_fn (us := [.ref q, v]) (vs := [.ref q, x]) G (hr.mono (Nat.le_succ k)) hb .nil pass_noe I (.cons (show L2.RelV (.ref q) (.ref q) from rfl) (.cons rx .nil)) sp
  refine PySem.W.in_K fr I.ok.mod.kin i2 B.at_ B.fn (wpAny_mono run (fun v' s' z => ?_) fun _ _ e => e)
  obtain ⟨vv, H', I', rv, r, rfl, hq⟩ := z
  have rv : v' = .bool r := rv
  subst rv
  exact truthy_bool ⟨.bl r, H', I', rfl, by simpa using hq⟩
theorem op_notInOw (B : SpC X.K (C.ca c) g "__contains__") (G : FnOk X.prog X.w X.K X.mg X.base (L2.CX X.prog X.w) k g fd ps (spF C 2 F)) (hr : Room (k + 1) X.A) (hb : Binds X.K fd ps []) : OpR X (compareOp .NotIn) (rInOw C true c F) := by
  intro pins s σ H x y v u Q I rx ry ⟨m, S, a, b, hs, ha, hb', w⟩
  obtain ⟨⟨q, dy, gs', rfl, h2⟩, sp⟩ := inOw_run hs ha hb' w
  have ry : u = .ref q := ry
  subst ry
  obtain ⟨oy, od2, i2⟩ := inst_of I h2
  obtain ⟨mf, fr⟩ := Inv.fr I
  have run := run_fn (us := [.ref q, v]) (vs := [.ref q, x]) G (hr.mono (Nat.le_succ k)) hb .nil pass_noe I (.cons (show L2.RelV (.ref q) (.ref q) from rfl) (.cons rx .nil)) sp
  refine PySem.W.notIn_K fr I.ok.mod.kin i2 B.at_ B.fn (wpAny_mono run (fun v' s' z => ?_) fun _ _ e => e)
  obtain ⟨vv, H', I', rv, r, rfl, hq⟩ := z
  have rv : v' = .bool r := rv
  subst rv
  exact truthy_bool ⟨.bl (!r), H', I', rfl, by simpa using hq⟩
/-! ### o[i] -/
def ixOwP (c : Str) (F : List A → Store → R A) : A → A → Store → R A := fun a b S => match insOf S c a with
  | some _ => (match F [a, b] S with
    | .ok r S2 => .ok r S2
    | _ => .bad)
  | none => .bad
def rIxOw (C : Cc) (c : Str) (F : List A → Store → R A) : R2 := fun x y H Q => ∃ m S a b, RS C m S H ∧ RA C m H a x ∧ RA C m H b y ∧ WpG C noE (RA C) m H (ixOwP c F a b S) Q
theorem ixOw_r {a b : A} {S : Store} : (∃ r S', ixOwP c F a b S = .ok r S') ∨ ixOwP c F a b S = .bad := by
  unfold ixOwP
  split
  · split
    · exact .inl ⟨_, _, rfl⟩
    · exact .inr rfl
  · exact .inr rfl
theorem b_ixOw : Bin2 C E (rIxOw C c F) (ixOwP c F) := fun m S H a b x y Q hs ha hb w => ⟨m, S, a, b, hs, ha, hb, noexc ixOw_r w⟩
theorem op_ixOw (B : SpC X.K (C.ca c) g "__getitem__") (hq : PySem.W.noSeq X.K (C.ca c) = true) (G : FnOk X.prog X.w X.K X.mg X.base (L2.CX X.prog X.w) k g fd ps (spF C 2 F)) (hr : Room (k + 1) X.A) (hb : Binds X.K fd ps []) : OpR X getItem (rIxOw C c F) := by
  intro pins s σ H x y v u Q I rx ry ⟨m, S, a, b, hs, ha, hb', w⟩
  unfold ixOwP at w
  split at w
  · rename_i gs h2
    obtain ⟨q, dy, hq', rfl, hq1, _⟩ := ins_at hs ha h2
    have rx : v = .ref q := rx
    subst rx
    obtain ⟨oy, od2, i2⟩ := inst_of I hq1
    obtain ⟨mf, fr⟩ := Inv.fr I
    have sp : spF C 2 F [.ref q, y] H Q noE := by
      refine sp_of hs (.cons ha (.cons hb' .nil)) rfl ?_
      cases hF : F [a, b] S with
      | bad => rw [hF] at w; exact w
      | exc e S2 => rw [hF] at w; exact False.elim w
      | ok r S2 => rw [hF] at w; exact w
    have run := run_fn (us := [.ref q, u]) (vs := [.ref q, y]) G (hr.mono (Nat.le_succ k)) hb .nil pass_noe I (.cons (show L2.RelV (.ref q) (.ref q) from rfl) (.cons ry .nil)) sp
    exact PySem.W.getItem_K fr I.ok.mod.kin i2 hq B.at_ B.fn run
  · exact False.elim w
end
end RS
end

section
set_option maxRecDepth 100000
set_option maxHeartbeats 4000000
/-! sorted of a tuple, the place of an item in a tuple; texts. -/
namespace RS
open PySem PySem.Spec PyProof.Rows L2
section
variable {C : Cc} {E : XK} {X : Cx}
/-! ### texts -/
def fmtP : A → Store → R A := fun a S => match a with
  | .d (.str y) => if y.length ≤ sizeLine then .ok (.d (.str y)) S else .bad
  | .d (.int i) => if i.natAbs.log2 < 1920 then .ok (.d (.str (toString i))) S else .bad
  | _ => .bad
theorem se_fmt {e : Expr} {f : M A} {pos : Pos} (he : SE C E X e f) : SE C E X (.FormattedValue e (-1) none pos) (una fmtP f) := by
  refine pe_imp (pe_fmt he) fun σ H Q ⟨m, S, ρ, hs, hE, w⟩ => ?_
  refine tE_then (g := fun a _ S1 => fmtP a S1) hs hE w fun m1 S1 a v H1 x1 r1 e1 q1 w1 => ?_
  unfold fmtP at w1
  split at w1
  · split at w1
    · rename_i y hl
      exact .inl ⟨y, q1.str, hl, wp_ok r1 (RA.mkStr _) w1⟩
    · exact False.elim w1
  · split at w1
    · rename_i i hl
      exact .inr ⟨i, q1.int, hl, wp_ok r1 (RA.mkStr _) w1⟩
    · exact False.elim w1
  · exact False.elim w1
inductive SJ (C : Cc) (E : XK) (X : Cx) : List Expr → List (M A) → Prop where
  | nil : SJ C E X [] []
  | cons {e : Expr} {f : M A} {es : List Expr} {fs : List (M A)} (h : SE C E X e f) (r : SJ C E X es fs) : SJ C E X (e :: es) (f :: fs)
def fsP : List (M A) → Str → M A
  | [], acc => fun _ S => .ok (.d (.str acc)) S
  | f :: fs, acc => fun ρ S => (f ρ S).bind fun a S1 => match a with
    | .d (.str y) => if (acc ++ y).length ≤ sizeLine then fsP fs (acc ++ y) ρ S1 else .bad
    | _ => .bad
theorem sj_pj {es : List Expr} {fs : List (M A)} (h : SJ C E X es fs) : PJ X es (fs.map (tE C E)) := by
  induction h with
  | nil => exact .nil
  | cons h r ih => exact .cons h ih
theorem t_fs {σ : L2.St} {Q : VK} : ∀ {fs : List (M A)} {acc : Str} {m : List Addr} {S : Store} {ρ : Env} {H : Hp}, RS C m S H → RE C m H ρ σ → WpG C E (RA C) m H (fsP fs acc ρ S) Q → tJs (fs.map (tE C E)) acc σ H fun out H1 => Q (.str out) H1
  | [], acc, m, S, ρ, H, hs, hE, w => wp_ok hs (RA.mkStr _) w
  | f :: fs, acc, m, S, ρ, H, hs, hE, w => by
    refine tE_then (g := fun a ρ S1 => match a with
      | .d (.str y) => if (acc ++ y).length ≤ sizeLine then fsP fs (acc ++ y) ρ S1 else .bad
      | _ => .bad) hs hE w fun m1 S1 a v H1 x1 r1 e1 q1 w1 => ?_
    split at w1
    · split at w1
      · rename_i y hl
        exact ⟨y, q1.str, hl, t_fs r1 e1 w1⟩
      · exact False.elim w1
    · exact False.elim w1
/-- f'..' of two parts or more -/
theorem se_fs {v1 v2 : Expr} {rest : List Expr} {fs : List (M A)} {pos : Pos} (h : SJ C E X (v1 :: v2 :: rest) fs) : SE C E X (.JoinedStr (v1 :: v2 :: rest) pos) (fsP fs Str.empty) :=
  pe_imp (pe_joined (sj_pj h)) fun σ H Q ⟨m, S, ρ, hs, hE, w⟩ => t_fs hs hE w
theorem se_fs1 {e : Expr} {f : M A} {pos : Pos} (h : SE C E X e f) : SE C E X (.JoinedStr [e] pos) f := pe_joined1 h
def strsD : List D → Option (List Str)
  | [] => some []
  | .str i :: ds => (strsD ds).map (i :: ·)
  | _ :: _ => none
theorem strs_of {m : List Addr} {H : Hp} : ∀ {ds : List D} {vs : List V} {ys : List Str}, RDs C m H ds vs → strsD ds = some ys → vs = ys.map V.str
  | [], vs, ys, h, e => by unfold RDs at h; subst h; cases e; rfl
  | d :: ds, vs, ys, h, e => by
    unfold RDs at h
    obtain ⟨v, r, rfl, h1, h2⟩ := h
    cases d with
    | str i =>
      simp only [strsD, Option.map_eq_some_iff] at e
      obtain ⟨ys', e, rfl⟩ := e
      have h1 : v = .str i := by simpa [RD] using h1
      rw [h1, strs_of h2 e]
      rfl
    | _ => cases e
def joinP (s : Str) : A → Store → R A := fun b S => match lstOf S b with
  | some ds => (match strsD ds with
    | some ys => if (ys.map (·.length)).sum + ys.length * s.length ≤ 16777216 then .ok (.d (.str (Txt.join s ys))) S else .bad
    | none => .bad)
  | none => .bad
/-- s.join(xs), s written, xs a list of texts -/
theorem se_join {o e : Expr} {s : Str} {fe : M A} {apos pos : Pos} (hK : C.K = X.K) (ho : SE C E X o (cK (.str s))) (he : SE C E X e fe) (hs : starEach [e] X.env = [(false, eval e X.env)] := by rfl) (hbase : attributeBase o "join" X.env (eval o X.env) = eval o X.env := by rfl) (hline : (apos.endLine == pos.line) = true := by rfl) :
    SE C E X (.Call (.Attribute o "join" apos) [e] [] pos) (una (joinP s) fe) := by
  refine pe_imp (pe_join ho he hs hbase hline) fun σ H Q ⟨m, S, ρ, hs, hE, w⟩ => ?_
  refine ⟨m, S, ρ, hs, hE, ?_⟩
  intro m0 H0 v x0 r0 q0
  refine ⟨⟨s, RA.str q0⟩, ?_⟩
  have q0 : v = .str s := RA.str q0
  subst q0
  refine tE_then (g := fun b _ S2 => joinP s b S2) r0 (hE.ext x0) (w.ext x0) fun m2 S2 b u H2 x2 r2 e2 q2 w2 => ?_
  unfold joinP at w2
  split at w2
  · rename_i ds hd
    split at w2
    · rename_i ys hy
      split at w2
      · rename_i hl
        obtain ⟨p, vs, rfl, h1, h2⟩ := lst_at r2 q2 hd
        have e3 := strs_of h2 hy
        subst e3
        exact ⟨s, p, ys, rfl, rfl, .inl (hK ▸ h1), hl, wp_ok r2 (RA.mkStr _) w2⟩
      · exact False.elim w2
    · exact False.elim w2
  · exact False.elim w2
def strP : List A → Store → R A := fun as S => match as with
  | [.d (.int i)] => if i.natAbs.log2 < 1920 then .ok (.d (.str (toString i))) S else .bad
  | _ => .bad
theorem c_str : Bcl C E (fun xs H Q => ∃ i, xs = [V.int i] ∧ i.natAbs.log2 < 1920 ∧ Q (.str (toString i)) H) strP := by
  intro m S H as vs Q hs ha w
  unfold strP at w
  split at w
  · split at w
    · rename_i i hl
      obtain ⟨v, rfl, h⟩ := ras1 ha
      cases h.int
      exact ⟨i, rfl, hl, wp_ok hs (RA.mkStr _) w⟩
    · exact False.elim w
  · exact False.elim w
/-! ### sorted of a tuple -/
theorem collect_tup {prog : Program} {w : World} {A : Around} {Er : Value → Shared → Prop} {s : Shared} {l : Addr} {vs : List Value} {Q : List Value → Shared → Prop} (hl : IsTup s.heap l vs.toArray)
    (h : ∀ h', (∀ b o', s.heap.get? b = some o' → h'.get? b = some o') → Q vs { s with heap := h' }) (hsz : vs.length ≤ sizeLine) : wpAny (model prog w) A (collect (.ref l)) Q Er s := by
  obtain ⟨o, ho, hc, n, hd⟩ := hl
  exact wpAny_collect_seq l (.inr rfl) ho hc hd (fun h' k => by simpa using h h' k) (by simpa using hsz)
/-- a new object, at an address that nothing had -/
theorem inv_new {pins : List (Addr × Obj)} {σ : L2.St} {H : Hp} {s : Shared} {h' h'' : Heap} {o : HO} {t' : Nat} (I : L2.Inv X pins σ H s) (k : ∀ b u, s.heap.get? b = some u → h'.get? b = some u) (k2 : ∀ b u, s.heap.get? b = some u → h''.get? b = some u)
    (new : ObjOk X.prog X.w (upd H h'.objs.size o) h'' h'.objs.size o) : L2.Inv X pins σ (upd H h'.objs.size o) { s with heap := h'', toks := t' } ∧ H h'.objs.size = none := by
  have far : ∀ b u, s.heap.get? b = some u → b ≠ h'.objs.size := fun b u e => Nat.ne_of_lt (Heap.lt_size (k b u e))
  have hn : H h'.objs.size = none := by
    cases e : H h'.objs.size with
    | none => rfl
    | some u =>
      exfalso
      have z := I.hok _ _ e
      have alive : ∃ ob, s.heap.get? h'.objs.size = some ob := by
        cases u with
        | lst xs => obtain ⟨_, _, _, _, e⟩ := z; exact ⟨_, e⟩
        | tup xs => obtain ⟨_, _, _, ob, e, _⟩ := z; exact ⟨_, e⟩
        | dK kvs => obtain ⟨_, _, _, _, o, _, _, e, _⟩ := z; exact ⟨_, e⟩
        | dT kvs => obtain ⟨_, _, _, _, o, _, _, e, _⟩ := z; exact ⟨_, e⟩
        | set S n => obtain ⟨o, _, _, _, e, _⟩ := z; exact ⟨_, e⟩
        | ins C dx fs => obtain ⟨_, _, _, e, _⟩ := z; exact ⟨_, e⟩
        | own y => obtain ⟨_, e⟩ := z; exact ⟨_, e⟩
        | xd fs => obtain ⟨_, ⟨_, _, _, e, _⟩, _⟩ := z; exact ⟨_, e⟩
        | rng lo hi => obtain ⟨_, _, _, e⟩ := z; exact ⟨_, e⟩
        | frz ob u => obtain ⟨e, _⟩ := z; exact ⟨_, e⟩
        | tbl ps => exact ⟨_, z⟩
        | met f y => exact ⟨_, z⟩
        | ext φ => obtain ⟨_, ⟨_, e⟩, _⟩ := z; exact ⟨_, e⟩
      obtain ⟨ob, e2⟩ := alive
      exact far _ _ e2 rfl
  refine ⟨I.un ⟨fun b o e n _ _ => k2 b o e, fun b o e n _ _ => ⟨o.slots, k2 b o e⟩, fun b o e n _ => by rw [upd_ne (far b o e)]; exact n, fun b o e _ => ⟨o, k2 b o e⟩, fun b xs e => by rw [upd_ne (ne_of_none e hn)]; exact e, fun b o u e => by rw [upd_ne (ne_of_none e hn)]; exact e, fun b ps e => ⟨#[], by rw [upd_ne (ne_of_none e hn)]; simpa using e⟩⟩ (HOk.laidN I.hok k2 hn new), hn⟩
def rSortedTI (K : PySem.W.Frag) : List V → Hp → VK → Prop := fun vs H Q => ∃ (a : Addr) (ns : List Int), vs = [V.ref a] ∧ SqT K H a (ns.map V.int) ∧
  ∀ (ns' : List Int) (p : Addr), ns'.Perm ns → ns'.Pairwise (· ≤ ·) → H p = none → Q (.ref p) (upd H p (.lst (ns'.map V.int)))
theorem cr_sortedTI : CallR X (.builtin "sorted") (rSortedTI X.K) := by
  intro pins s σ H vs us Q I r h
  obtain ⟨a, ns, rfl, hs, q⟩ := h
  obtain ⟨its, rv, hl, hz⟩ := I.tuple hs
  rw [Vals.ref1 r]
  have hi := rv.ints
  have hz2 : its.length ≤ sizeLine := by rw [← rv.length]; exact hz
  refine Calls.call_function_entry PyProof.Rows.kind_sorted PyProof.Rows.plain_sorted PyProof.Rows.entry_sorted (PyProof.Rows.args_sorted1 _) ?_
  unfold Builtin.«sorted»
  refine wpAny_bind (m := checkCount "sorted" 1 1 _) (wpAny_pure ?_)
  refine wpAny_bind (collect_tup hl (fun h' k => ?_) hz2)
  refine wpAny_bind (wpAny_newList ?_ hz2)
  have hoL : (h'.push { cls := .type "list", data := .seq its.toArray }).get? h'.objs.size = some (PyProof.Rows.seqObj "list" its.toArray 0) := Heap.get?_push_size _ rfl
  refine wpAny_bind (wpAny_holding (wpAny_call_entry PyProof.Rows.slot_list_sort ⟨_, hoL, rfl⟩ PyProof.Rows.entry_list_sort (SrtO.list_sort_ord SrtO.swo_int hoL hz2 (fun h2 => SrtO.ints_sortable hi h2) fun out h1 h2 => ⟨_, rfl, ?_⟩) (PyProof.Rows.args_list_sort _)))
  obtain ⟨k1, k2', k3⟩ := SrtO.ints_out hi h1 h2
  obtain ⟨ep, he'⟩ := PyProof.Rows.sortedHeap_at (vs := its) (out := out.toArray) hoL
  have hlen : ((out.map SrtO.iv).map V.int).length ≤ sizeLine := by
    rw [List.length_map, k2'.length_eq]
    rw [List.length_map] at hz
    exact hz
  have k2 : ∀ b u, s.heap.get? b = some u → (PyProof.Rows.sortedHeap (h'.push { cls := .type "list", data := .seq its.toArray }) h'.objs.size its out.toArray).get? b = some u := fun b u hu => by
    have hb : b < h'.objs.size := Heap.lt_size (k b u hu)
    rw [PyProof.Rows.sortedHeap_old (Nat.ne_of_lt hb) (Heap.lt_size (Heap.get?_push_of_some _ (k b u hu)))]
    exact Heap.get?_push_of_some _ (k b u hu)
  obtain ⟨I2, hn⟩ := inv_new (t' := s.toks) (o := .lst ((out.map SrtO.iv).map V.int)) I k k2 ⟨hlen, out, ep, vals_of_ints k1, he'⟩
  exact wpAny_pure ⟨_, rfl, .ref _, _, I2, rfl, q _ _ k2' k3 hn⟩
def sortTP : List A → Store → R A := fun as S => match as with
  | [a] => (match tupOf a with
    | some ds => (match intsD ds with
      | some ns => .ok (.d (.fl ((sortI ns).map D.int))) S
      | none => .bad)
    | none => .bad)
  | _ => .bad
theorem c_sortT : Bcl C E (rSortedTI C.K) sortTP := by
  intro m S H as vs Q hs ha w
  unfold sortTP at w
  split at w
  · obtain ⟨v, rfl, h⟩ := ras1 ha
    split at w
    · rename_i ds e
      split at w
      · rename_i ns e2
        obtain ⟨p, vs, rfl, h1, h2⟩ := tup_at h e
        have e3 := ints_of h2 e2
        subst e3
        refine ⟨p, ns, rfl, h1, fun ns' q h3 h4 h5 => ?_⟩
        have e4 : ns' = sortI ns := sorted_eq (h3.trans (sortI_perm ns).symm) h4 (sortI_pw ns)
        subst e4
        exact fl_new hs (rds_ints _) w q h5
      · exact False.elim w
    · exact False.elim w
  · exact False.elim w
end
end RS
end

section
set_option maxRecDepth 100000
set_option maxHeartbeats 4000000
/-! A tuple some times; tuples and lists of ranges. -/
namespace RS
open PySem PySem.Spec PyProof.Rows L2
theorem tuple_mul1 (l : Addr) (items : Array Value) (n : Nat) (dd : Option Addr) (sl : Array (Option Value)) (u : Tok) :
    Meets (Builtin.«tuple.__mul__» ⟨[.ref l, .int 1 u], []⟩) (fun _ R s => s.heap.get? l = some { cls := .type "tuple", dict := dd, data := .seq items n, slots := sl } ∧ R (.ok (.ret (Value.ref l))) s) :=
  .of_wp fun prog w A R s h => by
    obtain ⟨hp, g, d, tk, os⟩ := s
    obtain ⟨hl, h⟩ := h
    have f1 := AutoSeq1.idx_int
    have c1 : (items.isEmpty || (1 : Int) == 1) = true := by simp
    wp_walk using wpAny_loadPart' hl
    repeat (first
      | (refine wpAny_ite_true (by rw [c1]) ?_; wp_walk using wpAny_loadPart' hl)
      | (refine wpAny_ite_true (by decide) ?_; wp_walk using wpAny_loadPart' hl)
      | (refine wpAny_ite_false (by decide) ?_; wp_walk using wpAny_loadPart' hl))
    exact ⟨_, rfl, h⟩
section
variable {C : Cc} {E : XK} {X : Cx}
def rRep1 (K : PySem.W.Frag) : R2 := fun x y H Q => ∃ l xs, x = .ref l ∧ y = .int 1 ∧ SqT K H l xs ∧ Q (.ref l) H
theorem op_rep1 : OpR X (binaryOp .Mult) (rRep1 X.K) := by
  intro pins s σ H x y v u Q I rx ry h
  obtain ⟨l, xs, rfl, rfl, hT, q⟩ := h
  cases rx
  obtain ⟨t, rfl⟩ := ry
  obtain ⟨its, r, ⟨⟨cls, dd, data, sl⟩, ho, hc, n, hd⟩, hs⟩ := I.tuple hT
  simp only at hc hd
  subst hc hd
  exact wpAny_binaryOp_repeat_ref (T := "tuple") (U := "int") (by decide) ⟨_, ho, rfl⟩ (fun s' => typeIs_int s' 1 t) noFill_tuple_mul F.fills_int_mul F.slot_int_rmul repeat_tuple F.slot_int_index.lookup
    (call_meets F.slot_int_rmul (typeIs_int s 1 t) F.entry_int_rmul (F.args_int_rmul_2 _ _) (int_rmul_tuple 1 t l its.toArray n dd sl)
      ⟨ho, rfl, ⟨_, ho, rfl⟩, call_meets F.slot_tuple_mul ⟨_, ho, rfl⟩ F.entry_tuple_mul (F.args_tuple_mul_2 _ _) (tuple_mul1 l its.toArray n dd sl t) ⟨ho, .ref l, H, I, rfl, q⟩⟩)
def rRepTU (K : PySem.W.Frag) : R2 := fun x y H Q => rRep1 K x y H Q ∨ rRepT K x y H Q
theorem op_repTU : OpR X (binaryOp .Mult) (rRepTU X.K) := by
  intro pins s σ H x y v u Q I rx ry h
  rcases h with h | h
  · exact op_rep1 pins s σ H x y v u Q I rx ry h
  · exact op_repT pins s σ H x y v u Q I rx ry h
def repTP : A → A → Store → R A := fun a b S => match b with
  | .d (.int k) => (match tupOf a with
    | some ds => if k = 1 then .ok (.d (.tup ds)) S else if ds ≠ [] ∧ 2 ≤ k ∧ k ≤ 1000 ∧ ds.length ≤ 1000 then .ok (.d (.tup (List.replicate k.toNat ds).flatten)) S else .bad
    | none => .bad)
  | _ => .bad
theorem tup_self {m : List Addr} {H : Hp} {a : A} {v : V} {ds : List D} (h : RA C m H a v) (e : tupOf a = some ds) : RA C m H (.d (.tup ds)) v := by
  cases a with
  | d x =>
    cases x with
    | tup es => cases e; exact h
    | _ => cases e
  | ref n => cases e
  | fnc k cs => cases e
theorem b_repT : Bin2 C E (rRepTU C.K) repTP := by
  intro m S H a b x y Q hs ha hb w
  unfold repTP at w
  split at w
  · rename_i k
    cases hb.int
    split at w
    · rename_i ds hd
      obtain ⟨p, vs, rfl, h1, h2⟩ := tup_at ha hd
      split at w
      · rename_i hk
        subst hk
        exact .inl ⟨p, vs, rfl, rfl, h1, wp_ok hs (tup_self ha hd) w⟩
      · split at w
        · rename_i hl
          have hne : vs ≠ [] := fun e => hl.1 (List.eq_nil_of_length_eq_zero (by rw [h2.len, e]; rfl))
          exact .inr ⟨p, k, vs, rfl, rfl, h1, hne, hl.2.1, hl.2.2.1, by rw [← h2.len]; exact hl.2.2.2, tup_new hs (h2.rep _) w⟩
        · exact False.elim w
    · exact False.elim w
  · exact False.elim w
theorem se_repT {a b : Expr} {fa fb : M A} {pos : Pos} (hK : C.K = X.K) (ha : SE C E X a fa) (hb : SE C E X b fb) : SE C E X (.BinOp a .Mult b pos) (bin repTP fa fb) :=
  pe_imp (pe_op op_repTU ha hb) fun σ H Q t => t_bin (hK ▸ b_repT) t
/-! ### tuple(range(n)), list(range(n)) -/
theorem rds_rg {m : List Addr} {H : Hp} (a : Int) (n : Nat) : RDs C m H (rngD a n) ((List.range n).map fun i : Nat => V.int (a + (i : Nat))) := by
  unfold rngD
  have gen : ∀ l : List Nat, RDs C m H (l.map fun i => D.int (a + (i : Nat))) (l.map fun i : Nat => V.int (a + (i : Nat))) := by
    intro l
    induction l with
    | nil => exact RDs.nil
    | cons i l ih => exact RDs.cons (by simp [RD]) ih
  exact gen _
def rgTP (tup : Bool) : A → Store → R A := fun a S => match a with
  | .d (.int n) => if 0 ≤ n ∧ n ≤ 1000000 then (if tup then .ok (.d (.tup (rngD 0 n.toNat))) S else .ok (.d (.fl (rngD 0 n.toNat))) S) else .bad
  | _ => .bad
theorem se_tupRg {a : Expr} {fa : M A} {p p2 pos pos2 : Pos} (hc : X.calm = true) (hg : Gl X "tuple") (hm : X.mg "tuple" = none) (hg2 : Gl X "range") (hm2 : X.mg "range" = none) (ha : SE C E X a fa)
    (n1 : starEach [a] X.env = (false, eval a X.env) :: starEach [] X.env := by rfl) (n2 : starEach [.Call (.Name "range" p2) [a] [] pos2] X.env = (false, eval (.Call (.Name "range" p2) [a] [] pos2) X.env) :: starEach [] X.env := by rfl) :
    SE C E X (.Call (.Name "tuple" p) [.Call (.Name "range" p2) [a] [] pos2] [] pos) (una (rgTP true) fa) := by
  refine pe_imp (pe_tupRg hc hg hm (prg_1 hg2 hm2 ha n1) n2) fun σ H Q ⟨m, S, ρ, hs, hE, w⟩ => ?_
  refine tE_then (g := fun a _ S1 => rgTP true a S1) hs hE w fun m1 S1 a v H1 x1 r1 e1 q1 w1 => ?_
  unfold rgTP at w1
  split at w1
  · rename_i n
    split at w1
    · rename_i hn
      refine ⟨n, q1.int, RgOk.of_le (by omega) (by omega) (by omega) (by omega), ?_⟩
      have z := rds_rg (C := C) (m := m1) (H := H1) 0 n.toNat
      have e : rgV 0 n = (List.range n.toNat).map fun i : Nat => V.int (0 + (i : Nat)) := by unfold rgV; rw [Int.sub_zero]
      rw [e]
      exact tup_new r1 z w1
    · exact False.elim w1
  · exact False.elim w1
theorem se_listRg {a : Expr} {fa : M A} {p p2 pos pos2 : Pos} (hc : X.calm = true) (hg : Gl X "list") (hm : X.mg "list" = none) (hg2 : Gl X "range") (hm2 : X.mg "range" = none) (ha : SE C E X a fa)
    (n1 : starEach [a] X.env = (false, eval a X.env) :: starEach [] X.env := by rfl) (n2 : starEach [.Call (.Name "range" p2) [a] [] pos2] X.env = (false, eval (.Call (.Name "range" p2) [a] [] pos2) X.env) :: starEach [] X.env := by rfl) :
    SE C E X (.Call (.Name "list" p) [.Call (.Name "range" p2) [a] [] pos2] [] pos) (una (rgTP false) fa) := by
  refine pe_imp (pe_listRg hc hg hm (prg_1 hg2 hm2 ha n1) n2) fun σ H Q ⟨m, S, ρ, hs, hE, w⟩ => ?_
  refine tE_then (g := fun a _ S1 => rgTP false a S1) hs hE w fun m1 S1 a v H1 x1 r1 e1 q1 w1 => ?_
  unfold rgTP at w1
  split at w1
  · rename_i n
    split at w1
    · rename_i hn
      refine ⟨n, q1.int, RgOk.of_le (by omega) (by omega) (by omega) (by omega), ?_⟩
      have z := rds_rg (C := C) (m := m1) (H := H1) 0 n.toNat
      have e : rgV 0 n = (List.range n.toNat).map fun i : Nat => V.int (0 + (i : Nat)) := by unfold rgV; rw [Int.sub_zero]
      rw [e]
      exact fl_new r1 z w1
    · exact False.elim w1
  · exact False.elim w1
end
end RS
end

section
set_option maxRecDepth 100000
set_option maxHeartbeats 4000000
/-! Sets of nested tuples of numbers: what the table's search asks of such keys. -/
namespace RS
open PySem PySem.Spec PyProof.Rows L2
mutual
/-- without texts -/
def noTx : NestedKey → Bool
  | .none => true
  | .num _ => true
  | .text _ => false
  | .tup ks => noTxs ks
def noTxs : List NestedKey → Bool
  | [] => true
  | k :: ks => noTx k && noTxs ks
end
section
variable {P : Program} {w : World} {A : Around} {E : Value → Shared → Prop} {s : Shared}
/-- the question f answers b of the value v, whoever asks -/
def Says (P : Program) (w : World) (s : Shared) (f : Sem Bool) (b : Bool) : Prop := ∀ (A : Around) (E : Value → Shared → Prop) (Q : Bool → Shared → Prop), Q b s → wpAny (model P w) A f Q E s
theorem says_pure {b : Bool} {f : Sem Bool} (e : f = pure b) : Says P w s f b := fun A E Q h => by
  subst e
  exact wpAny_pure h
theorem class_tup {n m : Nat} {a : Addr} {o : Obj} {vs : Array Value} (ho : s.heap.get? a = some o) (hc : o.cls = .type "tuple") (hd : o.data = .seq vs m) (hv : ∀ v ∈ vs.toList, Says P w s (ofAClassStatement n v) false) : Says P w s (ofAClassStatement (n + 1) (.ref a)) false := fun A E Q h => by
  have ty : s.TypeIs (.ref a) "tuple" := ⟨o, ho, hc⟩
  unfold ofAClassStatement
  refine wpAny_bind (wpAny_typeOf ty ?_)
  have te : (("tuple" : String) == "tuple") = true := by decide
  dsimp only
  simp only [te, if_true, Bool.not_true, Bool.false_eq_true, if_false]
  try refine wpAny_bind (wpAny_pure ?_)
  try simp only [Bool.not_true, Bool.false_eq_true, if_false]
  refine wpAny_bind (m := seqItems? (.ref a)) (wpAny_seqItems ho hd ?_)
  dsimp only
  refine wpAny_bind (m := forIn vs _ _) ?_
  rw [← Array.forIn_toList]
  refine wpAny_forIn_list _ (fun more r s' => r.1 = none ∧ s' = s ∧ ∀ v ∈ more, Says P w s (ofAClassStatement n v) false) _ ?_ ?_ _ _ ⟨rfl, rfl, hv⟩
  · rintro v more r s' ⟨hr, rfl, all⟩
    refine wpAny_bind (all v List.mem_cons_self _ _ _ ?_)
    simp only [Bool.false_eq_true, if_false]
    exact wpAny_pure ⟨rfl, rfl, fun u hu => all u (List.mem_cons_of_mem _ hu)⟩
  · rintro ⟨r1, r2⟩ s' ⟨hr, rfl, _⟩
    have hr' : r1 = none := hr
    subst hr'
    exact wpAny_pure h
theorem hash_tup {n m : Nat} {a : Addr} {o : Obj} {vs : Array Value} (ho : s.heap.get? a = some o) (hc : o.cls = .type "tuple") (hd : o.data = .seq vs m) (hv : ∀ v ∈ vs.toList, Says P w s (hashByValue n v) true) : Says P w s (hashByValue (n + 1) (.ref a)) true := fun A E Q h => by
  have ty : s.TypeIs (.ref a) "tuple" := ⟨o, ho, hc⟩
  unfold hashByValue
  refine wpAny_bind (wpAny_specialOf ty F.slot_tuple_hash.lookup ?_)
  refine wpAny_bind (m := seqItems? (.ref a)) (wpAny_seqItems ho hd ?_)
  refine wpAny_bind (m := forIn vs _ _) ?_
  rw [← Array.forIn_toList]
  refine wpAny_forIn_list _ (fun more r s' => r.1 = none ∧ s' = s ∧ ∀ v ∈ more, Says P w s (hashByValue n v) true) _ ?_ ?_ _ _ ⟨rfl, rfl, hv⟩
  · rintro v more r s' ⟨hr, rfl, all⟩
    refine wpAny_bind (all v List.mem_cons_self _ _ _ ?_)
    simp only [Bool.not_true, Bool.false_eq_true, if_false]
    exact wpAny_pure ⟨rfl, rfl, fun u hu => all u (List.mem_cons_of_mem _ hu)⟩
  · rintro ⟨r1, r2⟩ s' ⟨hr, rfl, _⟩
    have hr' : r1 = none := hr
    subst hr'
    exact wpAny_pure h
mutual
theorem class_key : ∀ (k : NestedKey) (v : Value) (n : Nat), NestedIs s.heap k v → k.depth ≤ n → Says P w s (ofAClassStatement n v) false
  | .none, _, n, x, _ => by cases x; exact says_pure (by cases n <;> rfl)
  | .num i, _, n, x, _ => by cases x <;> exact says_pure (by cases n <;> rfl)
  | .text y, _, n, x, _ => by cases x; exact says_pure (by cases n <;> rfl)
  | .tup ks, _, n, x, hn => by
    cases x with
    | tup ho hc hd hk =>
      simp only [NestedKey.depth] at hn
      cases n with
      | zero => omega
      | succ n => exact class_tup ho hc hd (class_keys ks _ n hk (by omega))
theorem class_keys : ∀ (ks : List NestedKey) (vs : List Value) (n : Nat), NestedAll s.heap ks vs → NestedKey.depthAll ks ≤ n → ∀ v ∈ vs, Says P w s (ofAClassStatement n v) false
  | [], _, n, x, _, v, hv => by cases x; cases hv
  | k :: ks, _, n, x, hn, v, hv => by
    cases x with
    | cons x1 x2 =>
      simp only [NestedKey.depthAll] at hn
      rcases List.mem_cons.mp hv with e | hv
      · exact e ▸ class_key k _ n x1 (by omega)
      · exact class_keys ks _ n x2 (by omega) v hv
end
mutual
theorem hash_key : ∀ (k : NestedKey) (v : Value) (n : Nat), NestedIs s.heap k v → k.depth ≤ n → noTx k = true → Says P w s (hashByValue n v) true
  | .none, _, n, x, _, _ => by cases x; exact says_pure (by cases n <;> rfl)
  | .num i, _, n, x, _, _ => by cases x <;> exact says_pure (by cases n <;> rfl)
  | .text y, _, n, x, _, h => by cases h
  | .tup ks, _, n, x, hn, h => by
    cases x with
    | tup ho hc hd hk =>
      simp only [NestedKey.depth] at hn
      cases n with
      | zero => omega
      | succ n => exact hash_tup ho hc hd (hash_keys ks _ n hk (by omega) h)
theorem hash_keys : ∀ (ks : List NestedKey) (vs : List Value) (n : Nat), NestedAll s.heap ks vs → NestedKey.depthAll ks ≤ n → noTxs ks = true → ∀ v ∈ vs, Says P w s (hashByValue n v) true
  | [], _, n, x, _, _, v, hv => by cases x; cases hv
  | k :: ks, _, n, x, hn, h, v, hv => by
    cases x with
    | cons x1 x2 =>
      simp only [NestedKey.depthAll] at hn
      simp only [noTxs, Bool.and_eq_true] at h
      rcases List.mem_cons.mp hv with e | hv
      · exact e ▸ hash_key k _ n x1 (by omega) h.1
      · exact hash_keys ks _ n x2 (by omega) h.2 v hv
end
/-- an element: where its tuple stands, and the key -/
abbrev El := Addr × NestedKey
/-- the element stands in the heap -/
def ElIn (h : Heap) (p : El) : Prop := NestedIs h p.2 (.ref p.1) ∧ p.2.depth ≤ 8 ∧ noTx p.2 = true
theorem ElIn.keep {h h' : Heap} {p : El} (x : ElIn h p) (k : ∀ c o, h.get? c = some o → h'.get? c = some o) : ElIn h' p :=
  ⟨NestedIs.at (fun a o vs n e _ => k a o e) _ _ x.1, x.2⟩
theorem ElIn.same {h h' : Heap} {a : Addr} {p : El} {o : Obj} {es : Array (Int × Value)} {ep : Nat} {t : SetTable} (x : ElIn h p) (ho : h.get? a = some o) (hd : o.data = .set es ep t) (hs : Heap.SameBut a h h') : ElIn h' p :=
  ⟨NestedIs.at (fun b ob vs n e e2 => (hs.2 b fun z => by
    subst z
    rw [ho] at e
    cases e
    rw [hd] at e2
    cases e2).trans e) _ _ x.1, x.2⟩
/-- the search shows nobody anything -/
theorem seen_els {p : El} (hp : ElIn s.heap p) {ys : List Value} (hy : ∀ y ∈ ys, ∃ q, y = Value.ref q.1 ∧ ElIn s.heap q) : Says P w s (searchCouldBeSeen (.ref p.1) ys) false := fun A E Q h => by
  unfold searchCouldBeSeen
  refine wpAny_bind ?_
  refine wpAny_forIn_list _ (fun more r s' => r.1 = none ∧ s' = s ∧ ∀ y ∈ more, ∃ q, y = Value.ref q.1 ∧ ElIn s.heap q) _ ?_ ?_ _ _ ⟨rfl, rfl, hy⟩
  · rintro v more r s' ⟨hr, rfl, all⟩
    obtain ⟨q, rfl, hq⟩ := all v List.mem_cons_self
    have tl : ∀ y ∈ more, ∃ q, y = Value.ref q.1 ∧ ElIn s'.heap q := fun u hu => all u (List.mem_cons_of_mem _ hu)
    dsimp only
    by_cases hv : (p.1 == q.1 || (carriedByValue (.ref p.1) && carriedByValue (.ref q.1))) = true
    · exact wp_if_pos hv (wpAny_pure ⟨rfl, rfl, tl⟩)
    · refine wp_if_neg hv (wpAny_bind (quiet_key p.2 _ 8 s' hp.1 hp.2.1 _ _ _ ?_))
      simp only [Bool.not_true, Bool.false_eq_true, if_false]
      refine wpAny_bind (quiet_key q.2 _ 8 s' hq.1 hq.2.1 _ _ _ ?_)
      simp only [Bool.not_true, Bool.false_eq_true, if_false]
      refine wpAny_bind (class_key p.2 _ 8 hp.1 hp.2.1 _ _ _ ?_)
      simp only [Bool.false_eq_true, if_false]
      refine wpAny_bind (class_key q.2 _ 8 hq.1 hq.2.1 _ _ _ ?_)
      simp only [Bool.false_eq_true, if_false]
      exact wpAny_pure ⟨rfl, rfl, tl⟩
  · rintro ⟨r1, r2⟩ s' ⟨hr, rfl, _⟩
    have hr' : r1 = none := hr
    subst hr'
    exact wpAny_pure h
end
end RS
end

section
set_option maxRecDepth 100000
set_option maxHeartbeats 4000000
/-! Sets of nested tuples of numbers: the search in the table. -/
namespace RS
open PySem PySem.Spec PyProof.Rows L2
/-- the c-th step of a hash's way -/
def stp (m : Nat) (H : Int) (c : Nat) : SetTable.Probe := nth m (runAt m (SetTable.bits H % (m + 1)) (SetTable.bits H)) c
theorem stp_add (m : Nat) (H : Int) (c q : Nat) : nth m (stp m H c) q = stp m H (c + q) := (nth_add m c _ q).symm
theorem stp_way (m : Nat) (H : Int) (c : Nat) : (stp m H c).j = way m H c := rfl
theorem nth_clean (m : Nat) : ∀ (n : Nat) (p : SetTable.Probe), p.dummy = none → (nth m p n).dummy = none
  | 0, _, h => h
  | n + 1, p, h => nth_clean m n (adv m p) (by unfold adv; split <;> exact h)
theorem stp_clean (m : Nat) (H : Int) (c : Nat) : (stp m H c).dummy = none := nth_clean m c _ rfl
/-- what a table's probe meets from the c-th step on, the first empty place being at step K -/
theorem met_from {t : SetTable} {hs : List Int} (T : TabOk t hs) (hashAt : Nat → Int) (H : Int) {c K : Nat} (hc : c ≤ K) (hf : K < 10 * SetTable.turns t.mask) (hK : way t.mask H K ∉ t.place.toList) (hb : ∀ d, d < K → way t.mask H d ∈ t.place.toList) :
    (∃ d i, c ≤ d ∧ d < K ∧ t.place.toList[i]? = some (way t.mask H d) ∧ (∀ d' i', c ≤ d' → d' < d → t.place.toList[i']? = some (way t.mask H d') → hashAt i' ≠ H) ∧ t.probe hashAt H (stp t.mask H c) = some (.candidate (way t.mask H d) i (stp t.mask H (d + 1)))) ∨
    ((∀ d' i', c ≤ d' → d' < K → t.place.toList[i']? = some (way t.mask H d') → hashAt i' ≠ H) ∧ t.probe hashAt H (stp t.mask H c) = some (.empty (way t.mask H K) none)) := by
  have jj : ∀ q, (nth t.mask (stp t.mask H c) q).j = way t.mask H (c + q) := fun q => by rw [stp_add, stp_way]
  have eK : c + (K - c) = K := by omega
  rcases go_spec t T.ris T.dm hashAt H (10 * SetTable.turns t.mask) (K - c) (stp t.mask H c) (stp_clean _ _ _) (by omega) (fun q hq => by rw [jj]; exact hb _ (by omega)) (by rw [jj, eK]; exact hK) with ⟨q, i, h1, h2, _, h4, h5⟩ | ⟨h1, h2⟩
  · refine .inl ⟨c + q, i, by omega, by omega, by rw [← jj]; exact h2, fun d' i' a b e => h4 (d' - c) i' (by omega) ?_, ?_⟩
    · rw [jj, show c + (d' - c) = d' by omega]
      exact e
    · rw [jj, stp_add] at h5
      exact h5
  · refine .inr ⟨fun d' i' a b e => h1 (d' - c) i' (by omega) ?_, ?_⟩
    · rw [jj, show c + (d' - c) = d' by omega]
      exact e
    · rw [jj, eK] at h2
      exact h2
def rowE (w : World) (p : El) : Int × Value := (p.2.hash w, Value.ref p.1)
/-- at a stands a set of these elements -/
structure SetK (w : World) (h : Heap) (a : Addr) (L : List El) (es : Array (Int × Value)) (ep : Nat) (t : SetTable) : Prop where
  ob : ∃ o, h.get? a = some o ∧ o.ExactSet ∧ o.data = .set es ep t
  rows : es.toList = L.map (rowE w)
  tab : TabOk t (L.map fun p => p.2.hash w)
  nd : (L.map Prod.snd).Nodup
  els : ∀ p ∈ L, ElIn h p
  room : L.length * 5 < t.mask * 3
theorem len_rows {w : World} {L : List El} {es : Array (Int × Value)} (e : es.toList = L.map (rowE w)) : es.size = L.length := by
  rw [← Array.length_toList, e, List.length_map]
theorem tab_fits {t : SetTable} {hs : List Int} (T : TabOk t hs) {n : Nat} (hn : n = hs.length) (hm : n ≤ t.mask) : t.fits n = true := by
  have hz := T.sz
  have hg : (t.place.size == n && decide (t.place.size + t.dummies.size ≤ t.mask)) = true := by
    rw [T.dm, Bool.and_eq_true, beq_iff_eq, decide_eq_true_eq]
    exact ⟨hz.trans hn.symm, by show t.place.size + 0 ≤ t.mask; omega⟩
  exact hg
section
variable {P : Program} {w : World} {A : Around} {E : Value → Shared → Prop} {s : Shared}
variable {a : Addr} {L : List El} {es : Array (Int × Value)} {ep : Nat} {t : SetTable}
theorem SetK.size (R : SetK w s.heap a L es ep t) : es.size = L.length := len_rows R.rows
theorem SetK.fits (R : SetK w s.heap a L es ep t) : t.fits es.size = true := by
  have hr := R.room
  exact tab_fits R.tab (by rw [R.size, List.length_map]) (by rw [R.size]; omega)
theorem SetK.at (R : SetK w s.heap a L es ep t) {i : Nat} {p : El} (h : L[i]? = some p) : es[i]? = some (p.2.hash w, Value.ref p.1) := by
  rw [← Array.getElem?_toList, R.rows, List.getElem?_map, h]
  rfl
theorem SetK.stays (R : SetK w s.heap a L es ep t) : ¬ t.gaveWay = true := by
  have e := mask_odd R.tab.mok
  unfold SetTable.gaveWay
  rw [e]
  decide
theorem same_mem (t : SetTable) : t.sameMemory t.moves t.mask = some true := by
  have e : (t.moves == t.moves) = true := beq_self_eq_true _
  unfold SetTable.sameMemory
  exact if_pos e
theorem seek (R : SetK w s.heap a L es ep t) {x : El} (hx : ElIn s.heap x) (hu : A.units + 8 < cLine) {K : Nat} (hf : K < 10 * SetTable.turns t.mask) (hK : way t.mask (x.2.hash w) K ∉ t.place.toList)
    (hb : ∀ d, d < K → way t.mask (x.2.hash w) d ∈ t.place.toList) {Q : SetFound → Shared → Prop} (hin : x.2 ∈ L.map Prod.snd → Q (.there none) s) (hout : x.2 ∉ L.map Prod.snd → Q (.free (way t.mask (x.2.hash w) K) false) s) :
    ∀ (f c : Nat) (stand : Option SetTable.Probe), stand.getD (t.probeStart (x.2.hash w)) = stp t.mask (x.2.hash w) c → c ≤ K → K - c < f →
      (∀ (i : Nat) q, L[i]? = some q → q.2 = x.2 → ∃ d, c ≤ d ∧ d < K ∧ t.place.toList[i]? = some (way t.mask (x.2.hash w) d)) →
      wpAny (model P w) A (setSearchFrom a (.ref x.1) (x.2.hash w) true f stand) Q E s
  | 0, _, _, _, _, z, _ => absurd z (Nat.not_lt_zero _)
  | f + 1, c, stand, hst, hc, hlt, hre => by
    obtain ⟨o, ho, hex, hd⟩ := R.ob
    have again : ∀ {Q' : (Array (Int × Value) × Nat × SetTable) → Shared → Prop}, Q' (es, ep, t) s → wpAny (model P w) A (setState a) Q' E s := fun q => wpAny_setState_of ho hd R.fits q
    have hAt : ∀ (i : Nat) q, L[i]? = some q → (es[i]?.map (·.1)).getD 0 = q.2.hash w := fun i q e => by
      rw [R.at e]
      rfl
    rw [setSearchFrom_succ]
    refine wpAny_bind (again ?_)
    dsimp only
    refine wp_if_neg R.stays ?_
    try refine wpAny_bind (wpAny_pure ?_)
    rw [hst]
    rcases met_from R.tab (fun i => (es[i]?.map (·.1)).getD 0) (x.2.hash w) hc hf hK hb with ⟨d, i, h1, h2, h3, h4, h5⟩ | ⟨h1, h2⟩
    · rw [h5]
      dsimp only
      have il : i < L.length := by
        have e1 : i < t.place.toList.length := (List.getElem?_eq_some_iff.mp h3).1
        have e2 := R.tab.sz
        rw [Array.length_toList] at e1
        rw [List.length_map] at e2
        omega
      obtain ⟨y, hy⟩ : ∃ y, L[i]? = some y := ⟨_, List.getElem?_eq_getElem il⟩
      have hm : y ∈ L := List.mem_of_getElem? hy
      have hyE := R.els y hm
      have live : t.slot (way t.mask (x.2.hash w) d) = .live i := slot_live R.tab.ris h3
      have go : wpAny (model P w) A (searchRest a (.ref x.1) (x.2.hash w) true f es t (way t.mask (x.2.hash w) d) i (stp t.mask (x.2.hash w) (d + 1))) Q E s := by
        unfold searchRest
        rw [R.at hy]
        dsimp only
        refine wpAny_bind (wpAny_holding (eqAt_key y.2 x.2 A s _ _ hyE.1 hx.1 (by have := hx.2.1; omega) _ _ _ _ ?_))
        rw [← NestedKey.decide_eq]
        refine wpAny_bind (again ?_)
        dsimp only
        by_cases same : y.2 = x.2
        · exact wp_if_pos (by simp [same]) (wpAny_pure (hin (List.mem_map.mpr ⟨y, hm, same⟩)))
        · refine wp_if_neg (by simp [same]) ?_
          try refine wpAny_bind (wpAny_pure ?_)
          rw [same_mem]
          dsimp only
          simp only [if_true, live, R.at hy]
          refine wpAny_bind (wpAny_isSame_ref_self (wpAny_bind (wpAny_pure ?_)))
          simp only [if_true]
          refine wp_if_neg (by simp [same]) ?_
          refine seek R hx hu hf hK hb hin hout f (d + 1) _ rfl (by omega) (by omega) fun i' q e1 e2 => ?_
          obtain ⟨d', g1, g2, g3⟩ := hre i' q e1 e2
          refine ⟨d', ?_, g2, g3⟩
          rcases Nat.lt_trichotomy d' d with lt | eq | gt
          · exact absurd ((hAt i' q e1).trans (congrArg (NestedKey.hash w) e2)) (h4 d' i' g1 lt g3)
          · subst eq
            have s1 := slot_live R.tab.ris g3
            rw [live] at s1
            injection s1 with s1
            rw [← s1, hy] at e1
            cases e1
            exact absurd e2 same
          · exact gt
      by_cases led : t.led = true
      · refine wp_if_neg (by simp [led]) ?_
        try refine wpAny_bind (wpAny_pure ?_)
        exact go
      · refine wp_if_pos (by simp [led]) ?_
        refine wpAny_bind (seen_els hx (fun v hv => ?_) _ _ _ ?_)
        · obtain ⟨e, he, rfl⟩ := List.mem_map.mp hv
          have he2 : e ∈ es := by
            have z := Array.mem_toList_iff.mp he
            exact (Array.mem_filter.mp z).1
          have he3 : e ∈ L.map (rowE w) := by rw [← R.rows]; exact Array.mem_toList_iff.mpr he2
          obtain ⟨q, hq, rfl⟩ := List.mem_map.mp he3
          exact ⟨q, rfl, R.els q hq⟩
        · refine wp_if_neg (by decide) ?_
          try refine wpAny_bind (wpAny_pure ?_)
          exact go
    · rw [h2]
      dsimp only
      refine wpAny_pure (hout fun hm => ?_)
      obtain ⟨q, hq, e2⟩ := List.mem_map.mp hm
      obtain ⟨i, hi, e3⟩ := List.getElem_of_mem hq
      have e1 : L[i]? = some q := by rw [List.getElem?_eq_getElem hi, e3]
      obtain ⟨d, g1, g2, g3⟩ := hre i q e1 e2
      exact h1 d i g1 g2 g3 ((hAt i q e1).trans (congrArg (NestedKey.hash w) e2))
theorem seek_all (R : SetK w s.heap a L es ep t) {x : El} (hx : ElIn s.heap x) (hu : A.units + 8 < cLine) {Q : SetFound → Shared → Prop} (hin : x.2 ∈ L.map Prod.snd → Q (.there none) s)
    (hout : ∀ K, x.2 ∉ L.map Prod.snd → way t.mask (x.2.hash w) K ∉ t.place.toList → (∀ d, d < K → way t.mask (x.2.hash w) d ∈ t.place.toList) → Q (.free (way t.mask (x.2.hash w) K) false) s) :
    wpAny (model P w) A (setSearch a (.ref x.1) (x.2.hash w) true) Q E s := by
  have hr := R.room
  obtain ⟨K, hf, hK, hb⟩ := R.tab.first (by rw [List.length_map]; omega) (x.2.hash w)
  have small : K < 100000 := by
    have top : 10 * SetTable.turns t.mask ≤ 1420 := by
      unfold SetTable.turns
      rcases R.tab.mok with e | e | e <;> rw [e] <;> decide
    omega
  refine seek R hx hu hf hK hb hin (fun n => hout K n hK hb) 100000 0 none (start_run t _) (Nat.zero_le _) (by omega) fun i q e1 e2 => ?_
  have hi : (L.map fun p => p.2.hash w)[i]? = some (x.2.hash w) := by
    rw [List.getElem?_map, e1, ← e2]
    rfl
  have il : i < t.place.toList.length := by
    have e3 := (List.getElem?_eq_some_iff.mp e1).1
    have e4 := R.tab.sz
    rw [List.length_map] at e4
    rw [Array.length_toList]
    omega
  obtain ⟨d, g1, g2⟩ := R.tab.before hK hi (List.getElem?_eq_getElem il)
  exact ⟨d, Nat.zero_le _, g1, by rw [List.getElem?_eq_getElem il, g2]⟩
end
end RS
end

section
set_option maxRecDepth 100000
set_option maxHeartbeats 4000000
/-! Sets of nested tuples of numbers: one more element. -/
namespace RS
open PySem PySem.Spec PyProof.Rows L2
theorem put_perm' {α : Type} (L : List α) (n : Nat) (x : α) : (L.take n ++ x :: L.drop n).Perm (x :: L) := by
  have z := List.perm_middle (a := x) (l₁ := L.take n) (l₂ := L.drop n)
  rwa [List.take_append_drop] at z
theorem picks_rows {w : World} {L : List El} {es : Array (Int × Value)} (hr : es.toList = L.map (rowE w)) (i : Nat) : es[i]? = (L[i]?).map (rowE w) := by
  rw [← Array.getElem?_toList, hr, List.getElem?_map]
theorem picks_hash {w : World} {L : List El} {es : Array (Int × Value)} (hr : es.toList = L.map (rowE w)) : ∀ l : List Nat, (∀ i ∈ l, i < L.length) → (l.map fun i => (es.map (·.1)).getD i 0) = (l.filterMap fun i => L[i]?).map fun p => p.2.hash w
  | [], _ => rfl
  | i :: l, hl => by
    have hi := hl i List.mem_cons_self
    have e0 : L[i]? = some L[i] := List.getElem?_eq_getElem hi
    have e1 : (es.map (·.1)).getD i 0 = (L[i]).2.hash w := by
      rw [Array.getD_eq_getD_getElem?, Array.getElem?_map, picks_rows hr, e0]
      rfl
    rw [List.filterMap_cons_some e0, List.map_cons, List.map_cons, e1, picks_hash hr l fun j hj => hl j (List.mem_cons_of_mem _ hj)]
theorem picks {w : World} {L : List El} {es : Array (Int × Value)} {order : Array Nat} (hr : es.toList = L.map (rowE w)) (hp : order.toList.Perm (List.range L.length)) :
    ∃ L2 : List El, (order.filterMap (es[·]?)).toList = L2.map (rowE w) ∧ L2.Perm L ∧ (order.toList.map fun i => (es.map (·.1)).getD i 0) = L2.map fun p => p.2.hash w := by
  refine ⟨order.toList.filterMap fun i => L[i]?, ?_, ?_, picks_hash hr _ fun i hi => List.mem_range.mp (hp.mem_iff.mp hi)⟩
  · rw [Array.toList_filterMap, List.map_filterMap]
    exact congrArg (fun f => List.filterMap f order.toList) (funext fun i => picks_rows hr i)
  · have z := hp.filterMap fun i => L[i]?
    rw [List.filterMap_getElem?_range_length] at z
    exact z
section
variable {P : Program} {w : World} {A : Around} {E : Value → Shared → Prop} {s : Shared}
variable {a : Addr} {L : List El} {es : Array (Int × Value)} {ep : Nat} {t : SetTable}
/-- the table is laid anew -/
theorem relay_el {o : Obj} (ho : s.heap.get? a = some o) (hex : o.ExactSet) (hd : o.data = .set es ep t) (hr : es.toList = L.map (rowE w)) (T : TabOk t (L.map fun p => p.2.hash w)) (hle : L.length ≤ t.mask)
    (nd : (L.map Prod.snd).Nodup) (els : ∀ p ∈ L, ElIn s.heap p) {wanted M : Nat} (hw : SetTable.sizeAbove wanted - 1 = M) (hM : MaskOk M) (hw2 : SetTable.sizeAbove wanted ≤ 128) (hn : L.length * 5 < M * 3) {Q : Unit → Shared → Prop}
    (hQ : ∀ h' L' es' ep' t', Heap.SameBut a s.heap h' → SetK w h' a L' es' ep' t' → L'.Perm L → Q () { s with heap := h' }) : wpAny (model P w) A (setRelay a wanted) Q E s := by
  have hz := len_rows hr
  obtain ⟨t', order, e, hp, T', em, _, _, _⟩ := relaid_ok t (hs := es.map (·.1)) (wanted := wanted) hw hM (by rw [Array.size_map, hz]; omega)
  rw [Array.size_map, hz] at hp
  obtain ⟨L2, r1, r2, r3⟩ := picks hr hp
  rw [r3] at T'
  have hz2 : (order.filterMap (es[·]?)).size = es.size := by rw [len_rows r1, r2.length_eq, hz]
  rw [setRelay_eq]
  refine wpAny_bind (wpAny_setState_of ho hd (tab_fits T (by rw [hz, List.length_map]) (by rw [hz]; exact hle)) ?_)
  dsimp only
  refine wp_if_neg (by rw [sizeLine_eq]; omega) ?_
  try refine wpAny_bind (wpAny_pure ?_)
  rw [e]
  dsimp only
  refine wpAny_bind (wp_if_neg (by rw [hz2]; simp) ?_)
  try refine wpAny_bind (wpAny_pure ?_)
  refine wpAny_pure ?_
  dsimp only
  refine wpAny_storeSet_of ho hd ?_ (by rw [hz2, hz, sizeLine_eq]; omega)
  have sb : Heap.SameBut a s.heap (s.heap.update a (Obj.putSet (order.filterMap (es[·]?)) t')) := Heap.SameBut.update ..
  refine hQ _ L2 (order.filterMap (es[·]?)) (ep + 1) t' sb ⟨⟨_, store_at ho hd, ⟨hex.1, hex.2.1, hex.2.2⟩, rfl⟩, r1, T', (r2.map Prod.snd).nodup_iff.mpr nd, fun p hpm => (els p (r2.mem_iff.mp hpm)).same ho hd sb, by rw [r2.length_eq, em]; exact hn⟩ r2
/-- one more element, or it is there -/
theorem add_el (R : SetK w s.heap a L es ep t) {x : El} (hx : ElIn s.heap x) (hu : A.units + 8 < cLine) (few : L.length + 1 < 64) {Q : Bool → Shared → Prop}
    (hQ : ∀ b h' L' es' ep' t', Heap.SameBut a s.heap h' → SetK w h' a L' es' ep' t' → (x.2 ∈ L.map Prod.snd → L' = L) → (x.2 ∉ L.map Prod.snd → L'.Perm (x :: L)) → Q b { s with heap := h' }) :
    wpAny (model P w) A (setAddHashed a (.ref x.1) (x.2.hash w)) Q E s := by
  obtain ⟨o, ho, hex, hd⟩ := R.ob
  have hz := R.size
  have room := R.room
  unfold setAddHashed
  refine wpAny_holding ?_
  rw [show (100000 : Nat) = 99999 + 1 from rfl, setAddHashedIn_succ]
  refine wpAny_bind (wpAny_setState_of ho hd R.fits ?_)
  dsimp only
  refine wp_if_neg (by simp [byScan, Value.scannable]) ?_
  try refine wpAny_bind (wpAny_pure ?_)
  refine wpAny_bind (seek_all R hx hu (fun hm => ?_) fun K hm hK hb => ?_)
  · dsimp only
    exact wpAny_pure (hQ false s.heap L es ep t (Heap.SameBut.refl a s.heap) R (fun _ => rfl) fun z => absurd hm z)
  dsimp only
  refine wpAny_bind (wpAny_setState_of ho hd R.fits ?_)
  dsimp only
  obtain ⟨q1, q2, q3, q4, _, _, _, _, q9⟩ := R.tab.put hK hb
  generalize t.put (way t.mask (x.2.hash w) K) = tp at q1 q3 q4 q9 ⊢
  obtain ⟨t1, n⟩ := tp
  dsimp only at q1 q3 q4 q9 ⊢
  subst q1
  generalize hn : SetTable.below t.place (way t.mask (x.2.hash w) K) = n at q2 q3 ⊢
  have pm : (L.take n ++ x :: L.drop n).Perm (x :: L) := put_perm' L n x
  have rows1 : (SetTable.insertAt es n (x.2.hash w, Value.ref x.1)).toList = (L.take n ++ x :: L.drop n).map (rowE w) := by
    rw [SetTable.toList_insertAt, R.rows, List.map_append, List.map_cons, List.map_take, List.map_drop]
    rfl
  have T1 : TabOk t1 ((L.take n ++ x :: L.drop n).map fun p => p.2.hash w) := by
    rw [List.map_append, List.map_cons, List.map_take, List.map_drop]
    exact q3
  have nd1 : ((L.take n ++ x :: L.drop n).map Prod.snd).Nodup := (pm.map Prod.snd).nodup_iff.mpr (List.nodup_cons.mpr ⟨hm, R.nd⟩)
  generalize SetTable.insertAt es n (x.2.hash w, Value.ref x.1) = es1 at rows1 ⊢
  generalize L.take n ++ x :: L.drop n = L1 at pm rows1 T1 nd1
  have len1 : L1.length = L.length + 1 := pm.length_eq
  have sz1 : es1.size = L.length + 1 := (len_rows rows1).trans len1
  -- behind the question whether the hash is carried by value
  have rest : ∀ t2 : SetTable, t2.mask = t1.mask → t2.fill = t1.fill → t2.tooFull = t1.tooFull → TabOk t2 (L1.map fun p => p.2.hash w) → wpAny (model P w) A (do
      storeSet a es1 t2
      if !false && t2.tooFull then setRelay a (SetTable.grown (es.size + 1))
      return true) Q E s := fun t2 m2 f2 full2 T2 => by
    refine wpAny_bind (wpAny_storeSet_of ho hd ?_ (by rw [sz1, sizeLine_eq]; omega))
    have sb : Heap.SameBut a s.heap (s.heap.update a (Obj.putSet es1 t2)) := Heap.SameBut.update ..
    have ho1 := store_at (es' := es1) (t' := t2) ho hd
    generalize s.heap.update a (Obj.putSet es1 t2) = h1 at sb ho1 ⊢
    have els1 : ∀ p ∈ L1, ElIn h1 p := fun p hp => by
      rcases List.mem_cons.mp (pm.mem_iff.mp hp) with e | hp
      · exact e ▸ hx.same ho hd sb
      · exact (R.els p hp).same ho hd sb
    have fillAt : ∀ b, t2.tooFull = b → decide ((L.length + 1) * 5 ≥ t.mask * 3) = b := fun b e => by
      unfold SetTable.tooFull at e
      rw [f2, m2, q9, q4, List.length_map] at e
      exact e
    by_cases full : t2.tooFull = true
    · have big := of_decide_eq_true (fillAt _ full)
      have two : (t.mask = 7 ∧ L.length = 4) ∨ (t.mask = 31 ∧ L.length = 18) := by
        rcases R.tab.mok with e | e | e
        · exact .inl ⟨e, by omega⟩
        · exact .inr ⟨e, by omega⟩
        · omega
      have anew : ∀ M, SetTable.sizeAbove (SetTable.grown (L.length + 1)) - 1 = M → MaskOk M → SetTable.sizeAbove (SetTable.grown (L.length + 1)) ≤ 128 → (L.length + 1) * 5 < M * 3 →
          wpAny (model P w) A (setRelay a (SetTable.grown (es.size + 1))) (fun _ s' => wpAny (model P w) A (pure true) Q E s') E { s with heap := h1 } := fun M g1 g2 g3 g4 => by
        rw [hz]
        refine relay_el (s := { s with heap := h1 }) ho1 ⟨hex.1, hex.2.1, hex.2.2⟩ rfl rows1 T2 (by rw [len1, m2, q4]; rcases two with ⟨e, e'⟩ | ⟨e, e'⟩ <;> omega) nd1 els1 g1 g2 g3 (by rw [len1]; exact g4) ?_
        intro h2 L2 es2 ep2 t3 sb2 R2 pm2
        exact wpAny_pure (hQ true h2 L2 es2 ep2 t3 (sb.trans sb2) R2 (fun z => absurd z hm) fun _ => pm2.trans pm)
      have all : wpAny (model P w) A (setRelay a (SetTable.grown (es.size + 1))) (fun _ s' => wpAny (model P w) A (pure true) Q E s') E { s with heap := h1 } := by
        rcases two with ⟨_, e⟩ | ⟨_, e⟩
        · exact anew 31 (by rw [e, size_20]) (.inr (.inl rfl)) (by rw [e, size_20]; decide) (by omega)
        · exact anew 127 (by rw [e, size_76]) (.inr (.inr rfl)) (by rw [e, size_76]; decide) (by omega)
      first
        | exact wpAny_bind (wp_if_pos (by simp [full]) all)
        | exact wp_if_pos (by simp [full]) (wpAny_bind all)
    · have less : ¬ (L.length + 1) * 5 ≥ t.mask * 3 := of_decide_eq_false (fillAt _ (by simpa using full))
      have all : Q true { s with heap := h1 } := hQ true h1 L1 es1 (ep + 1) t2 sb ⟨⟨_, ho1, ⟨hex.1, hex.2.1, hex.2.2⟩, rfl⟩, rows1, T2, nd1, els1, by rw [len1, m2, q4]; omega⟩ (fun z => absurd z hm) fun _ => pm
      first
        | exact wp_if_neg (by simp [full]) (wpAny_pure all)
        | exact wpAny_bind (wp_if_neg (by simp [full]) (wpAny_pure (wpAny_pure all)))
  by_cases pl : t1.plain = true
  · first
      | (refine wpAny_bind ?_
         refine wp_if_pos pl ?_
         refine hash_key x.2 _ 8 hx.1 hx.2.1 hx.2.2 _ _ _ ?_)
      | refine wp_if_pos pl (wpAny_bind (hash_key x.2 _ 8 hx.1 hx.2.1 hx.2.2 _ _ _ ?_))
    simp only [if_true]
    exact rest t1 rfl rfl rfl T1
  · first
      | (refine wpAny_bind ?_
         refine wp_if_neg pl ?_
         refine wpAny_pure ?_)
      | refine wp_if_neg pl (wpAny_bind (wpAny_pure ?_))
    simp only [if_true]
    exact rest t1 rfl rfl rfl T1
end
end RS
end

section
set_option maxRecDepth 100000
set_option maxHeartbeats 4000000
/-! Sets of nested tuples of numbers: set(xs), len(set(xs)). -/
namespace RS
open PySem PySem.Spec PyProof.Rows L2
/-- the keys that are met, each once -/
def metK (acc : List NestedKey) : List NestedKey → List NestedKey
  | [] => acc
  | k :: ks => metK (if k ∈ acc then acc else k :: acc) ks
theorem metK_len : ∀ (ks acc : List NestedKey), (metK acc ks).length ≤ acc.length + ks.length
  | [], acc => Nat.le_refl _
  | k :: ks, acc => by
    have z := metK_len ks (if k ∈ acc then acc else k :: acc)
    unfold metK
    rw [List.length_cons]
    split at z <;> split <;> simp_all <;> omega
/-- a set in the heap that has these keys -/
def HasK (w : World) (h : Heap) (a : Addr) (L : List El) : Prop := ∃ es ep t, SetK w h a L es ep t
theorem HasK.keep {w : World} {h h' : Heap} {a : Addr} {L : List El} (x : HasK w h a L) (k : ∀ o, h.get? a = some o → h'.get? a = some o) (el : ∀ p ∈ L, ElIn h' p) : HasK w h' a L := by
  obtain ⟨es, ep, t, R⟩ := x
  obtain ⟨o, ho, r⟩ := R.ob
  exact ⟨es, ep, t, ⟨o, k o ho, r⟩, R.rows, R.tab, R.nd, el, R.room⟩
/-- what a new set's object is -/
abbrev newSetO (w : World) : Obj := { cls := .type "set", dict := none, data := .set #[] 0 (.fresh 0 0 (!w.params.followText "set-order")) }
theorem HasK.new {w : World} {h : Heap} {a : Addr} (ho : h.get? a = some (newSetO w)) : HasK w h a [] :=
  ⟨#[], 0, _, ⟨_, ho, ⟨rfl, rfl, rfl⟩, rfl⟩, rfl, ⟨List.Pairwise.nil, rfl, rfl, .inl rfl, (fun _ z => nomatch z), (fun _ _ _ z => by simp at z)⟩, List.nodup_nil, (fun _ z => nomatch z), by show 0 * 5 < 7 * 3; decide⟩
section
variable {P : Program} {w : World} {A : Around} {E : Value → Shared → Prop} {s : Shared}
/-- set.update's loop, when acc are the keys so far -/
theorem fill_loop {I : Addr} {fp wr : List Addr} {G : Array GenState → Array GenState → Prop} {n : Nat} {Pv : Nat → Value → Prop} {St : Nat → Shared → Prop} {R : Result → Shared → Prop}
    (W : WalksS P w A.in1 I fp wr G n Pv St) (a : Addr) (hfp : a ∉ fp) (xs : List El) (hn : n = xs.length) (few : xs.length < 64) (hv : ∀ i v, Pv i v → ∃ p, xs[i]? = some p ∧ v = .ref p.1)
    (h0 : Heap) (hx : ∀ p ∈ xs, ElIn h0 p) (ha0 : h0.get? a = none) (hw0 : ∀ b ∈ wr, h0.get? b = none) (hu : A.in1.units + 8 < cLine) (out : List NestedKey) :
    ∀ (k i : Nat) (acc : List NestedKey) (L : List El) (s : Shared), n - i = k → i ≤ n → St i s → (∀ b o, h0.get? b = some o → s.heap.get? b = some o) → HasK w s.heap a L → (L.map Prod.snd).Perm acc → (∀ p ∈ L, p ∈ xs) → L.length ≤ i →
      metK acc ((xs.drop i).map Prod.snd) = out →
      (∀ s' L', Moved (a :: wr) G s s' → HasK w s'.heap a L' → (L'.map Prod.snd).Perm out → (∀ b o, h0.get? b = some o → s'.heap.get? b = some o) → R (.ok (.ret .none)) s') →
      codeAny (model P w) A (.builtin "set.update.loop" ⟨[.ref a, .ref I], []⟩) R s := by
  have aw : a ∉ wr := fun z => hfp (W.sub _ z)
  have up : ∀ b ∈ wr, b ∈ a :: wr := fun b hb => List.mem_cons_of_mem _ hb
  have old : ∀ {s s' : Shared}, Moved wr G s s' → (∀ b o, h0.get? b = some o → s.heap.get? b = some o) → ∀ b o, h0.get? b = some o → s'.heap.get? b = some o := fun hm kp b o e =>
    hm.heap b o (fun hb => by rw [hw0 b hb] at e; cases e) (kp b o e)
  intro k
  induction k with
  | zero =>
    intro i acc L s hk hi st kp hS pm sub ll fin hR
    have hin : i = n := by omega
    subst hin
    rw [hn, List.drop_length] at fin
    refine codeAny_builtin F.entry_set_update_loop ?_
    rw [Around.under_plainId F.plain_set_update_loop _]
    refine wpAny_bind (m := pyNext (.ref I)) (W.done s _ _ st fun s' hm => ?_)
    have kp2 := old hm kp
    show wpAny _ A.in1 (ret Value.none) _ _ s'
    have fin' : acc = out := fin
    exact wpAny_pure (hR s' L (hm.mono up) (hS.keep (fun o e => hm.heap a o aw e) fun p hp => (hx p (sub p hp)).keep kp2) (fin' ▸ pm) kp2)
  | succ k ih =>
    intro i acc L s hk hi st kp hS pm sub ll fin hR
    have lt : i < n := by omega
    refine codeAny_builtin F.entry_set_update_loop ?_
    rw [Around.under_plainId F.plain_set_update_loop _]
    refine wpAny_bind (m := pyNext (.ref I)) (W.item i s _ _ lt st fun v s' hP st' hm => ?_)
    obtain ⟨p, hp, rfl⟩ := hv i v hP
    have kp2 := old hm kp
    have hpe : ElIn s'.heap p := (hx p (List.mem_of_getElem? hp)).keep kp2
    obtain ⟨es, ep, t, hS2⟩ : HasK w s'.heap a L := hS.keep (fun o e => hm.heap a o aw e) fun q hq => (hx q (sub q hq)).keep kp2
    have il : i < xs.length := (List.getElem?_eq_some_iff.mp hp).1
    have ed : xs.drop i = p :: xs.drop (i + 1) := by
      rw [List.drop_eq_getElem_cons il]
      rw [List.getElem?_eq_getElem il] at hp
      rw [Option.some.inj hp]
    rw [ed, List.map_cons] at fin
    refine wpAny_bind (m := holding [Value.ref p.1] (setAdd a (.ref p.1))) (wpAny_holding ?_)
    unfold setAdd
    refine wpAny_holding (wpAny_bind (pyHash_key p.2 _ A.in1 s' _ hpe.1 (by have := hpe.2.1; omega) ?_))
    refine add_el (s := { s' with toks := s'.toks + p.2.draws }) hS2 hpe hu (by omega) fun b h' L' es' ep' t' sb R' c1 c2 => ?_
    have kp3 : ∀ b o, h0.get? b = some o → h'.get? b = some o := fun b o e => (sb.2 b (fun z => by rw [z, ha0] at e; cases e)).trans (kp2 b o e)
    have st3 : St (i + 1) { s' with heap := h', toks := s'.toks + p.2.draws } := W.frame _ s' _ _ st' (Nat.le_add_right _ _) fun b hb o e => by
      rw [sb.2 b (fun z : b = a => hfp (by rw [← z]; exact hb))]
      exact e
    have far : ∀ s'' L2, Moved (a :: wr) G { s' with heap := h', toks := s'.toks + p.2.draws } s'' → HasK w s''.heap a L2 → (L2.map Prod.snd).Perm out → (∀ b o, h0.get? b = some o → s''.heap.get? b = some o) → R (.ok (.ret .none)) s'' := fun s'' L2 m2 z1 z2 z3 => by
      refine hR s'' L2 (Moved.trans W.gtrans ((hm.mono up).then_heap (Nat.le_add_right _ _) fun b o hb e => ?_) m2) z1 z2 z3
      rw [sb.2 b (fun z : b = a => hb (by rw [z]; exact List.mem_cons_self))]
      exact e
    refine wpAny_pure ⟨plainId_quiet F.plain_set_update_loop _, ?_⟩
    rcases Classical.em (p.2 ∈ acc) with c | c
    · have c' := c1 (pm.mem_iff.mpr c)
      subst c'
      exact ih (i + 1) acc L' _ (by omega) lt st3 kp3 ⟨es', ep', t', R'⟩ pm sub (by omega) (by unfold metK at fin; rwa [if_pos c] at fin) far
    · have c' := c2 fun z => c (pm.mem_iff.mp z)
      exact ih (i + 1) (p.2 :: acc) L' _ (by omega) lt st3 kp3 ⟨es', ep', t', R'⟩ ((c'.map Prod.snd).trans (by rw [List.map_cons]; exact pm.cons _))
        (fun q hq => by
          rcases List.mem_cons.mp (c'.mem_iff.mp hq) with e | hq
          · rw [e]; exact List.mem_of_getElem? hp
          · exact sub q hq)
        (by rw [c'.length_eq, List.length_cons]; omega) (by unfold metK at fin; rwa [if_neg c] at fin) far
end
end RS
end

section
set_option maxRecDepth 100000
set_option maxHeartbeats 4000000
/-! Sets of nested tuples of numbers: set(xs). -/
namespace RS
open PySem PySem.Spec PyProof.Rows L2
section
variable {P : Program} {w : World} {A : Around} {E : Value → Shared → Prop} {s : Shared}
/-- how the set stands that was made of these elements -/
def Full (w : World) (s : Shared) (xs : List El) (s2 : Shared) : Prop := ∃ (h' : Heap) (tk : Nat) (L : List El), s2 = { s with heap := h', toks := tk } ∧ HasK w h' s.heap.objs.size L ∧ (L.map Prod.snd).Perm (metK [] (xs.map Prod.snd)) ∧ ∀ b o, s.heap.get? b = some o → h'.get? b = some o
theorem set_init_els {B : Around} {q : Addr} {items : Array Value} (xs : List El) (hh : B.handled = none) (hl : s.heap.IsList q items) (hit : items.toList = xs.map fun p => Value.ref p.1)
    (hx : ∀ p ∈ xs, ElIn s.heap p) (few : xs.length < 64) (hu : B.units + 2 + 8 < cLine) :
    codeAny (model P w) B (.call (.builtin "set.__init__") ⟨[.ref s.heap.objs.size, .ref q], []⟩) (PySem.wants (fun r s2 => r = Value.none ∧ Full w s xs s2) E) { s with heap := s.heap.push (newSetO w) } := by
  have nn : items.size = xs.length := by
    rw [← Array.length_toList, hit, List.length_map]
  have atS : (s.heap.push (newSetO w)).get? s.heap.objs.size = some (newSetO w) := Heap.get?_push_size _ rfl
  have tyS : Shared.TypeIs { s with heap := s.heap.push (newSetO w) } (.ref s.heap.objs.size) "set" := ⟨_, atS, rfl⟩
  refine codeAny_call_builtin F.called_set.init.plain F.entry_set_init (check_set_init_1 tyS ?_)
  obtain ⟨⟨ocls, odict, odata, oslots⟩, hol, hcl, nl, hdl⟩ := hl
  dsimp only at hcl hdl
  subst hcl hdl
  have atL : (s.heap.push (newSetO w)).get? q = some { cls := .type "list", dict := odict, data := .seq items nl, slots := oslots } := Heap.get?_push_of_some _ hol
  have f1 := F.sub_list_set
  have f2 := F.sub_list_frozenset
  have f3 : (Value.type "list" == Value.type "dict") = false := by decide
  have isL : (s.heap.push (newSetO w)).IsList q items := ⟨_, atL, rfl, nl, rfl⟩
  unfold Builtin.«set.__init__» noKeywords
  unfold Builtin.Frozenset.updateFrom
  generalize hit' : pyIter = asked
  wp_walk
  subst hit'
  refine wpAny_pyIter_list isL (wpAny_bind (wpAny_runValue ?_))
  have ql : q < s.heap.objs.size := Heap.lt_size hol
  have zz : (s.heap.push (newSetO w)).objs.size = s.heap.objs.size + 1 := Heap.size_push ..
  have hb3 : B.in1.in1.handled = none := by simp [hh]
  have qI : q ≠ (s.heap.push (newSetO w)).objs.size := by
    rw [zz]
    exact Nat.ne_of_lt (Nat.lt_succ_of_lt ql)
  have apart : s.heap.objs.size ∉ [(s.heap.push (newSetO w)).objs.size, q] := fun z => by
    rw [zz] at z
    rcases List.mem_cons.mp z with e | z
    · exact Nat.ne_of_lt (Nat.lt_succ_self _) e
    · exact Nat.ne_of_gt ql (List.mem_singleton.mp z)
  have none_at : ∀ b, s.heap.objs.size ≤ b → s.heap.get? b = none := fun b hb => by
    cases e : s.heap.get? b with
    | none => rfl
    | some o => exact absurd (Heap.lt_size e) (Nat.not_lt.mpr hb)
  have vals : ∀ (i : Nat) (v : Value), items[i]? = some v → ∃ p, xs[i]? = some p ∧ v = .ref p.1 := fun i v hv => by
    rw [← Array.getElem?_toList, hit, List.getElem?_map] at hv
    obtain ⟨p, e1, e2⟩ := Option.map_eq_some_iff.mp hv
    exact ⟨p, e1, e2.symm⟩
  refine fill_loop ((Walks.list hb3 _ q qI items).toS) s.heap.objs.size apart xs nn few vals s.heap hx (none_at _ (Nat.le_refl _)) (fun b hb => none_at b (by rw [List.mem_singleton.mp hb, zz]; omega)) hu (metK [] (xs.map Prod.snd))
    (items.size - 0) 0 [] [] _ (by omega) (Nat.zero_le _) ⟨⟨_, Heap.get?_push_size _ rfl, rfl, rfl⟩, (isL.push _)⟩ (fun b o e => Heap.get?_push_of_some _ (Heap.get?_push_of_some _ e)) ?_ (List.Perm.refl _) (fun _ z => nomatch z) (Nat.le_refl _) rfl ?_
  · exact HasK.new (Heap.get?_push_of_some _ atS)
  · intro s3 L hm hS pm kp
    obtain ⟨h3, g3, d3, t3, o3⟩ := s3
    obtain rfl : g3 = s.gens := hm.gens
    obtain rfl : d3 = s.drawn := hm.drawn
    obtain rfl : o3 = s.os := hm.os
    show wpAny _ _ _ _ _ _
    refine wpAny_pure ?_
    show wpAny _ _ (ret Value.none) _ _ _
    exact wpAny_pure ⟨rfl, h3, t3, L, rfl, hS, pm, kp⟩
theorem call_set_els {q : Addr} {items : Array Value} (xs : List El) {Q : Value → Shared → Prop} (hh : A.handled = none) (hl : s.heap.IsList q items) (hit : items.toList = xs.map fun p => Value.ref p.1)
    (hx : ∀ p ∈ xs, ElIn s.heap p) (few : xs.length < 64) (hu : A.units + 3 + 8 < cLine) (h : ∀ s2, Full w s xs s2 → Q (.ref s.heap.objs.size) s2) : wpAny (model P w) A (call (.type "set") [.ref q]) Q E s := by
  obtain ⟨c, more, m1⟩ := F.called_set.mro
  have m2 := F.called_set.made
  have m3 := F.called_set.sub
  have m4 := F.called_set.notType
  have m5 := F.called_set.canCreate
  have m6 := F.typeCall_set_1 (.ref q)
  refine wpAny_call (codeAny_of_tree ?_)
  show wpAny _ _ (callAny (.type "set") ⟨[.ref q], []⟩) _ _ _
  refine wpAny_pure ⟨Code.quiet_builtin _ (by decide +kernel), codeAny_builtin F.entry_type_call ?_⟩
  rw [Around.under_plain (weight_type_call_type "set" [.ref q] []) rfl]
  repeat any_goals first | assumption | wp_step
  refine codeAny_mono (code_set_led1 (.ref q) (E := E) (Q₁ := fun v s1 => v = .ref s.heap.objs.size ∧ s1 = { s with heap := s.heap.push (newSetO w) }) ⟨rfl, rfl⟩) fun r s1 hr => ?_
  rcases r with e | fl
  · exact hr
  cases fl with
  | ret v =>
    obtain ⟨rfl, rfl⟩ := hr
    have tyS : Shared.TypeIs { s with heap := s.heap.push (newSetO w) } (.ref s.heap.objs.size) "set" := ⟨_, Heap.get?_push_size _ rfl, rfl⟩
    have m7 := F.called_set.init.lookup
    have m8 := F.called_set.init.bind (.ref s.heap.objs.size)
    repeat any_goals first | assumption | wp_step
    refine codeAny_mono (set_init_els (E := E) xs (by simp [hh]) hl hit hx few ?_) fun r2 s2 hr2 => ?_
    · exact hu
    · rcases r2 with e | fl2
      · exact hr2
      cases fl2 with
      | ret r3 =>
        obtain ⟨rfl, full⟩ := hr2
        have keep := full
        obtain ⟨h', tk, L, rfl, _⟩ := full
        repeat any_goals first | assumption | wp_step
        exact h _ keep
      | _ => exact hr2.elim
  | _ => exact hr.elim
end
end RS
end

section
set_option maxRecDepth 100000
set_option maxHeartbeats 4000000
/-! len(set(xs)), xs a list of nested tuples of numbers. -/
namespace RS
open PySem PySem.Spec PyProof.Rows L2
mutual
/-- the key that a datum is -/
def keyOf : D → Option NestedKey
  | .non => some .none
  | .bl b => some (.num (if b = true then 1 else 0))
  | .int i => some (.num i)
  | .tup ds => (keysOf ds).map .tup
  | _ => none
def keysOf : List D → Option (List NestedKey)
  | [] => some []
  | d :: ds => match keyOf d, keysOf ds with
    | some k, some ks => some (k :: ks)
    | _, _ => none
end
mutual
theorem key_noTx : ∀ (d : D) (k : NestedKey), keyOf d = some k → noTx k = true
  | .non, k, e => by unfold keyOf at e; cases e; rfl
  | .bl b, k, e => by unfold keyOf at e; cases e; rfl
  | .int i, k, e => by unfold keyOf at e; cases e; rfl
  | .tup ds, k, e => by
    unfold keyOf at e
    obtain ⟨ks, e1, rfl⟩ := Option.map_eq_some_iff.mp e
    exact keys_noTx ds ks e1
  | .str x, k, e => by unfold keyOf at e; cases e
  | .fn n, k, e => by unfold keyOf at e; cases e
  | .fl xs, k, e => by unfold keyOf at e; cases e
  | .rl xs, k, e => by unfold keyOf at e; cases e
  | .tq xs, k, e => by unfold keyOf at e; cases e
  | .ob c ks xs, k, e => by unfold keyOf at e; cases e
theorem keys_noTx : ∀ (ds : List D) (ks : List NestedKey), keysOf ds = some ks → noTxs ks = true
  | [], ks, e => by unfold keysOf at e; cases e; rfl
  | d :: ds, ks, e => by
    unfold keysOf at e
    split at e
    · rename_i k ks' e1 e2
      cases e
      unfold noTxs
      rw [key_noTx d k e1, keys_noTx ds ks' e2]
      rfl
    · cases e
end
section
variable {C : Cc} {E : XK} {X : Cx}
mutual
theorem key_is {pins : List (Addr × Obj)} {σ : L2.St} {H : Hp} {s : Shared} {m : List Addr} (hK : C.K = X.K) (I : L2.Inv X pins σ H s) : ∀ (d : D) (k : NestedKey) (v : V) (u : Value), RD C m H d v → RelV v u → keyOf d = some k → NestedIs s.heap k u
  | .non, k, v, u, h, r, e => by
    unfold keyOf at e
    unfold RD at h
    cases e
    subst h
    cases r
    exact .none
  | .bl b, k, v, u, h, r, e => by
    unfold keyOf at e
    unfold RD at h
    cases e
    subst h
    cases r
    exact .bool rfl
  | .int i, k, v, u, h, r, e => by
    unfold keyOf at e
    unfold RD at h
    cases e
    subst h
    obtain ⟨t, rfl⟩ := r
    exact .int i t
  | .tup ds, k, v, u, h, r, e => by
    unfold keyOf at e
    obtain ⟨ks, e1, rfl⟩ := Option.map_eq_some_iff.mp e
    unfold RD at h
    obtain ⟨p, vs, rfl, h1, h2⟩ := h
    cases r
    obtain ⟨its, rv, ⟨o, ho, hc, n, hd⟩, _⟩ := I.tuple (hK ▸ h1.sq)
    exact .tup ho hc hd (by simpa using keys_is hK I ds ks vs its h2 rv e1)
  | .str x, k, _, _, _, _, e => by unfold keyOf at e; cases e
  | .fn n, k, _, _, _, _, e => by unfold keyOf at e; cases e
  | .fl xs, k, _, _, _, _, e => by unfold keyOf at e; cases e
  | .rl xs, k, _, _, _, _, e => by unfold keyOf at e; cases e
  | .tq xs, k, _, _, _, _, e => by unfold keyOf at e; cases e
  | .ob c ks xs, k, _, _, _, _, e => by unfold keyOf at e; cases e
theorem keys_is {pins : List (Addr × Obj)} {σ : L2.St} {H : Hp} {s : Shared} {m : List Addr} (hK : C.K = X.K) (I : L2.Inv X pins σ H s) : ∀ (ds : List D) (ks : List NestedKey) (vs : List V) (us : List Value), RDs C m H ds vs → Vals vs us → keysOf ds = some ks → NestedAll s.heap ks us
  | [], ks, vs, us, h, r, e => by
    unfold keysOf at e
    unfold RDs at h
    cases e
    subst h
    cases r
    exact .nil
  | d :: ds, ks, vs, us, h, r, e => by
    unfold keysOf at e
    split at e
    · rename_i k ks' e1 e2
      cases e
      unfold RDs at h
      obtain ⟨v, vr, rfl, h1, h2⟩ := h
      cases r with
      | cons r1 r2 => exact .cons (key_is hK I d k _ _ h1 r1 e1) (keys_is hK I ds ks' _ _ h2 r2 e2)
    · cases e
end
/-- the data are all tuples -/
def tups : List D → Bool
  | [] => true
  | .tup _ :: ds => tups ds
  | _ :: _ => false
def lenSetP : A → Store → R A := fun a S => match lstOf S a with
  | some ds => (match keysOf ds with
    | some ks => if tups ds = true ∧ ks.length < 64 ∧ (ks.all fun k => decide (k.depth ≤ 8)) = true then .ok (.d (.int (metK [] ks).length)) S else .bad
    | none => .bad)
  | none => .bad
theorem els_of {pins : List (Addr × Obj)} {σ : L2.St} {H : Hp} {s : Shared} {m : List Addr} (hK : C.K = X.K) (I : L2.Inv X pins σ H s) : ∀ (ds : List D) (ks : List NestedKey) (vs : List V) (us : List Value), RDs C m H ds vs → Vals vs us → keysOf ds = some ks → tups ds = true → (∀ k ∈ ks, k.depth ≤ 8) →
    ∃ xs : List El, us = xs.map (fun p => Value.ref p.1) ∧ xs.map Prod.snd = ks ∧ ∀ p ∈ xs, ElIn s.heap p
  | [], ks, vs, us, h, r, e, _, _ => by
    unfold keysOf at e
    unfold RDs at h
    cases e
    subst h
    cases r
    exact ⟨[], rfl, rfl, fun _ z => nomatch z⟩
  | d :: ds, ks, vs, us, h, r, e, ht, hd => by
    unfold keysOf at e
    split at e
    · rename_i k ks' e1 e2
      cases e
      cases d with
      | tup es =>
        unfold RDs at h
        obtain ⟨v, vr, rfl, h1, h2⟩ := h
        cases r with
        | cons r1 r2 =>
          obtain ⟨xs, g1, g2, g3⟩ := els_of hK I ds ks' _ _ h2 r2 e2 ht fun k' hk' => hd k' (List.mem_cons_of_mem _ hk')
          have h3 := key_is hK I _ _ _ _ h1 r1 e1
          unfold RD at h1
          obtain ⟨p, ws, rfl, _, _⟩ := h1
          cases r1
          refine ⟨(p, k) :: xs, by rw [List.map_cons, g1], by rw [List.map_cons, g2], fun q hq => ?_⟩
          rcases List.mem_cons.mp hq with rfl | hq
          · exact ⟨h3, hd k List.mem_cons_self, key_noTx _ _ e1⟩
          · exact g3 q hq
      | _ => cases ht
    · cases e
theorem se_lenSet {a : Expr} {fa : M A} {p p2 q pos : Pos} (hK : C.K = X.K) (hc : X.calm = true) (hu : X.A.units + 64 < cLine) (hg : Gl X "len") (hm : X.mg "len" = none) (hg2 : Gl X "set") (hm2 : X.mg "set" = none) (ha : SE C E X a fa)
    (na : starEach [a] X.env = (false, eval a X.env) :: starEach [] X.env := by rfl) : SE C E X (.Call (.Name "len" p) [.Call (.Name "set" p2) [a] [] q] [] pos) (una lenSetP fa) := by
  refine ⟨fun pins s σ H Q I ⟨m, S, ρ, hs, hE, w⟩ => ?_⟩
  have t0 : tE C E fa σ H fun v H1 => ∃ m1 ds ks l vs, v = V.ref l ∧ SqL C.K H1 l vs ∧ RDs C m1 H1 ds vs ∧ keysOf ds = some ks ∧ tups ds = true ∧ ks.length < 64 ∧ (∀ k ∈ ks, k.depth ≤ 8) ∧ Q (.int (metK [] ks).length) H1 := by
    refine tE_then (g := fun a _ S1 => lenSetP a S1) hs hE w fun m1 S1 a v H1 x1 r1 e1 q1 w1 => ?_
    unfold lenSetP at w1
    split at w1
    · rename_i ds hd
      obtain ⟨l, vs, rfl, h1, h2⟩ := lst_at r1 q1 hd
      split at w1
      · rename_i ks hk
        split at w1
        · rename_i c
          exact ⟨m1, ds, ks, l, vs, rfl, h1, h2, hk, c.1, c.2.1, fun k hk => of_decide_eq_true (List.all_eq_true.mp c.2.2 k hk), wp_ok r1 (RA.mkInt _) w1⟩
        · exact False.elim w1
      · exact False.elim w1
    · exact False.elim w1
  refine Call_ (ld_blt I hg hm PySem.boot_len ?_)
  refine PyProof.Rows.callWith_builtin1 (PyProof.Rows.args_cons ?_ rfl) rfl rfl
  refine Call_ (ld_blt I hg2 hm2 PyProof.Rows.boot_set ?_)
  refine PyProof.Rows.callWith_type1 (PyProof.Rows.args_cons (thn (ha.run pins s σ H _ I t0) fun u s1 ⟨x, H1, I1, r1, m1, ds, ks, l, vs, ex, hq, hR, hk, ht, few, deep, q1⟩ => PyProof.Rows.args_nil ?_) na) na rfl
  subst ex
  cases r1
  obtain ⟨its, r, pl, hz⟩ := I1.list (hK ▸ hq)
  obtain ⟨xs, g1, g2, g3⟩ := els_of hK I1 ds ks vs its hR r hk ht deep
  refine call_set_els xs (I1.ok.hd hc) pl.isList (by simpa using g1) g3 (by rw [← g2, List.length_map] at few; exact few) (by omega) fun s2 ⟨h', tk, L, e2, ⟨es, ep, t, R⟩, pm, kp⟩ => ?_
  subst e2
  refine PyProof.Rows.args_nil ?_
  have I2 : L2.Inv X pins σ H1 { s1 with heap := h', toks := tk } := I1.kept fun b o e => kp b o e
  obtain ⟨o, ho, hex, hd⟩ := R.ob
  have hlen : es.size = (metK [] ks).length := by
    have z := pm.length_eq
    rw [List.length_map, g2] at z
    exact (len_rows R.rows).trans z
  have top := metK_len ks []
  refine call_len_set ho hex hd (R.fits (s := { s1 with heap := h', toks := tk })) (by rw [hlen]; simp at top; omega) ⟨.int (metK [] ks).length, H1, I2.tok _, ⟨_, by rw [hlen]⟩, q1⟩
end
end RS
end

section
set_option maxRecDepth 100000
set_option maxHeartbeats 4000000
/-! Own methods behind len, in, []: by bundled defs. -/
namespace RS
open PySem PySem.Spec PyProof.Rows L2
variable {E : XK} {X : Cx}
section
variable {d : DefP} {k : Nat} {F : List A → Store → R A} {z : List (Addr × List V)} {L : Lm} {c : Str} {K : Fr}
theorem so_lenO {p pos : Pos} {e : Expr} {f : M (List A)} (hK : X.K = K) (G : OkX L X d k ["self"] F) (hr : Room (k + 1) X.A) (B : SpC X.K (gA c X.K) (d.ad X.K) "__len__") (hg : Gl X "len") (hm : X.mg "len" = none) (ha : SA ((cc L K).wz z) E X [e] f)
    (he : starEach [e] X.env = (false, eval e X.env) :: starEach [] X.env := by rfl) (hpl : (backTo pos (starEach [] X.env)).any (·.1) = false := by rfl) : SE ((cc L K).wz z) E X (.Call (.Name "len" p) [e] [] pos) (bcall (lenOwP c F) f) := by
  subst hK
  obtain ⟨fd, h1, h2, h3⟩ := G.ex
  exact se_blt (C := (cc L X.K).wz z) c_lenOw (call_lenOw (C := (cc L X.K).wz z) B h2 hr h3) hg hm PySem.boot_len ha (by decide) (by decide) he hpl
theorem pe_ixOw {C : Cc} {g : Addr} {fd : FuncData} {ps : List Str} {ta tb : TE} {pos : Pos} {a b : Expr} (B : SpC X.K (C.ca c) g "__getitem__") (hf : PySem.W.fnIn X.K g = true) (G : FnOk X.prog X.w X.K X.mg X.base (L2.CX X.prog X.w) k g fd ps (spF C 2 F)) (hr : Room (k + 1) X.A) (hb : Binds X.K fd ps [])
    (h1 : PE X a ta) (h2 : PE X b tb) (hs : ∀ o i, subscripted b true o i = runValue (.builtin "lifetime.subscript" ⟨[o, i], []⟩)) : PE X (.Subscript a b pos) (tOp (rIxOw C c F) ta tb) := by
  refine ⟨fun pins s σ H Q I h => Subscript_ (binT h1 h2 I h fun v u s2 x y H2 I2 rx ry q => ?_)⟩
  obtain ⟨m, S, a, b, hs', ha, hb', w⟩ := q
  unfold ixOwP at w
  split at w
  · rename_i gs e
    obtain ⟨p, dy, hp, rfl, hp1, _⟩ := ins_at hs' ha e
    have rx : v = .ref p := rx
    subst rx
    obtain ⟨oy, od2, i2⟩ := inst_of I2 hp1
    obtain ⟨mf, fr⟩ := Inv.fr I2
    have sp : spF C 2 F [.ref p, y] H2 Q noE := by
      refine sp_of hs' (.cons ha (.cons hb' .nil)) rfl ?_
      cases hF : F [a, b] S with
      | bad => rw [hF] at w; exact w
      | exc e S2 => rw [hF] at w; exact False.elim w
      | ok r S2 => rw [hF] at w; exact w
    have run := run_fn (X := deep X) (us := [.ref p, u]) (vs := [.ref p, y]) G hr.in1 hb .nil (pass_noe (X := deep X)) (deep_in I2) (.cons (show L2.RelV (.ref p) (.ref p) from rfl) (.cons ry .nil)) sp
    refine PySem.W.sub_K fr I2.ok.mod.kin i2 B.at_ hf B.fn (wpAny_mono run (fun v' s' z => ?_) fun _ _ e => e) (hs _ _)
    obtain ⟨vv, H', I', rv, hq⟩ := z
    exact ⟨vv, H', deep_out I2.ok I', rv, hq⟩
  · exact False.elim w
theorem so_ixO {x : Str} {pos : Pos} {a b : Expr} {fa fb : M A} (hK : X.K = K) (G : OkX L X d k ["self", x] F) (hr : Room (k + 1) X.A) (B : SpC X.K (gA c X.K) (d.ad X.K) "__getitem__") (hf : PySem.W.fnIn X.K (d.ad X.K) = true) (ha : SE ((cc L K).wz z) E X a fa) (hb : SE ((cc L K).wz z) E X b fb)
    (hs : ∀ o i, subscripted b true o i = runValue (.builtin "lifetime.subscript" ⟨[o, i], []⟩) := by with_unfolding_all exact fun _ _ => rfl) : SE ((cc L K).wz z) E X (.Subscript a b pos) (bin (ixOwP c F) fa fb) := by
  subst hK
  obtain ⟨fd, h1, h2, h3⟩ := G.ex
  exact pe_imp (pe_ixOw (C := (cc L X.K).wz z) B hf h2 hr h3 ha hb hs) fun σ H Q t => t_bin b_ixOw t
section
variable {pos : Pos} {a b : Expr} {fa fb : M A} {x : Str} (hK : X.K = K) (G : OkX L X d k ["self", x] F) (hr : Room (k + 1) X.A) (B : SpC X.K (gA c X.K) (d.ad X.K) "__contains__") (ha : SE ((cc L K).wz z) E X a fa) (hb : SE ((cc L K).wz z) E X b fb)
include hK G hr B ha hb
theorem so_inO (hm : behindInMarks .In b = false := by rfl) : SE ((cc L K).wz z) E X (.Compare a [.In] [b] pos) (bin (inOwP false c F) fa fb) := by
  subst hK
  obtain ⟨fd, h1, h2, h3⟩ := G.ex
  exact pe_imp (pe_cmpR (op_inOw (C := (cc L X.K).wz z) B h2 hr h3) ha hb hm) fun σ H Q t => t_bin b_inOw t
theorem so_notInO (hm : behindInMarks .NotIn b = false := by rfl) : SE ((cc L K).wz z) E X (.Compare a [.NotIn] [b] pos) (bin (inOwP true c F) fa fb) := by
  subst hK
  obtain ⟨fd, h1, h2, h3⟩ := G.ex
  exact pe_imp (pe_cmpR (op_notInOw (C := (cc L X.K).wz z) B h2 hr h3) ha hb hm) fun σ H Q t => t_bin b_inOw t
theorem to_inO (hm : behindInMarks .In b = false := by rfl) : ST ((cc L K).wz z) E X (.Compare a [.In] [b] pos) (asB (bin (inOwP false c F) fa fb)) := by
  subst hK
  obtain ⟨fd, h1, h2, h3⟩ := G.ex
  exact st_cmp (op_inOw (C := (cc L X.K).wz z) B h2 hr h3) b_inOw ha hb hm
theorem to_notInO (hm : behindInMarks .NotIn b = false := by rfl) : ST ((cc L K).wz z) E X (.Compare a [.NotIn] [b] pos) (asB (bin (inOwP true c F) fa fb)) := by
  subst hK
  obtain ⟨fd, h1, h2, h3⟩ := G.ex
  exact st_cmp (op_notInOw (C := (cc L X.K).wz z) B h2 hr h3) b_inOw ha hb hm
end
/-- the method is a function -/
def fFnIn (c name : Str) : Fr → Bool := fun K => PySem.W.fnIn K (mA c name K)
end
end RS
end

section
set_option maxRecDepth 100000
set_option maxHeartbeats 4000000
/-! Names that are given the items of a list. -/
namespace RS
open PySem PySem.Spec PyProof.Rows L2
variable {C : Cc} {E : XK} {X : Cx}
def gLstM (gs : List (A → M Env)) : A → M Env := fun a ρ S => match lstOf S a with
  | some ds => if ds.length = gs.length then gMany gs ds ρ S else .bad
  | none => .bad
theorem sg_lst {es : List Expr} {k : Nat} {pos : Pos} {gs : List (A → M Env)} (hK : C.K = X.K) (hc : X.calm = true) (h : SGs C E X es gs)
    (hn : (assignEach es X.env).length = gs.length := by rfl) (hst : (assignEach es X.env).findIdx? (·.1) = none := by rfl) : SG C E X (.Tuple es k pos) (gLstM gs) := by
  refine pg_imp (pg_lst hc h hn hst) fun v σ H Q ⟨m, S, ρ, a, hs, he, ha, w⟩ => ?_
  unfold gLstM at w
  split at w
  · rename_i ds hd
    split at w
    · rename_i hl
      obtain ⟨p, vs, rfl, h1, h2⟩ := lst_at hs ha hd
      exact ⟨p, vs, rfl, hK ▸ h1, by rw [← h2.len]; exact hl, m, S, ρ, ds, hs, he, h2, w⟩
    · exact False.elim w
  · exact False.elim w
end RS
end

section
set_option maxRecDepth 100000
set_option maxHeartbeats 4000000
/-! What must hold ahead, so that behind it all is well: one rule for each combinator, from the outside inwards. -/
namespace RS
open PySem PySem.Spec
/-- it ends well, and so that Q -/
def WP {α : Type} (m : R α) (Q : α → Store → Prop) : Prop := ∃ a S, m = .ok a S ∧ Q a S
/-- .. a sentence: goes on, or returns -/
def WS (s : M Fl) (ρ : Env) (S : Store) (N : Env → Store → Prop) (T : A → Store → Prop) : Prop :=
  ∃ fl S1, s ρ S = .ok fl S1 ∧ (match fl with
    | .nx ρ1 => N ρ1 S1
    | .rt a => T a S1
    | _ => False)
section
variable {α β : Type} {ρ : Env} {S S1 : Store} {a b c v : A} {i j k n : Nat} {f g h fo : M A} {d : D} {r : R α} {Q : A → Store → Prop} {N : Env → Store → Prop} {T : A → Store → Prop}
theorem wp_of {m : R α} {x : α} {Q : α → Store → Prop} (e : m = .ok x S1) (k : Q x S1) : WP m Q := ⟨x, S1, e, k⟩
theorem wp_okk {x : α} {Q : α → Store → Prop} (k : Q x S) : WP (.ok x S) Q := ⟨x, S, rfl, k⟩
theorem wp_eq {m : R α} {x : α} (k : WP m fun y T => y = x ∧ T = S) : m = .ok x S := by
  obtain ⟨y, T, e, rfl, rfl⟩ := k
  exact e
theorem wp_imp {m : R α} {Q Q' : α → Store → Prop} (k : WP m Q) (i : ∀ x T, Q x T → Q' x T) : WP m Q' := by
  obtain ⟨y, T, e, q⟩ := k
  exact ⟨y, T, e, i y T q⟩
theorem wp_bind {m : R α} {f : α → Store → R β} {Q : β → Store → Prop} (k : WP m fun a S1 => WP (f a S1) Q) : WP (m.bind f) Q := by
  obtain ⟨a, S1, e, b, S2, e2, q⟩ := k
  exact ⟨b, S2, by simp [R.bind, e, e2], q⟩
/-! ### expressions -/
theorem wp_var (e : ρ[i]? = some (some a)) (k : Q a S) : WP (cVar i ρ S) Q := ⟨a, S, ev_var e, k⟩
theorem wp_k (k : Q (.d d) S) : WP (cK d ρ S) Q := ⟨_, S, rfl, k⟩
theorem wp_bin {p : A → A → Store → R A} (k : WP (f ρ S) fun a S1 => WP (g ρ S1) fun b S2 => WP (p a b S2) Q) : WP (bin p f g ρ S) Q := by
  obtain ⟨a, S1, e1, b, S2, e2, c, S3, e3, q⟩ := k
  exact ⟨c, S3, ev_bin e1 e2 e3, q⟩
theorem wp_una {p : A → Store → R A} (k : WP (f ρ S) fun a S1 => WP (p a S1) Q) : WP (una p f ρ S) Q := by
  obtain ⟨a, S1, e1, c, S3, e3, q⟩ := k
  exact ⟨c, S3, ev_una e1 e3, q⟩
/-- a truth -/
def IsB (Q : Bool → Store → Prop) (a : A) (S : Store) : Prop := ∃ t, a = .d (.bl t) ∧ Q t S
theorem isB {t : Bool} {Q : Bool → Store → Prop} (k : Q t S) : IsB Q (.d (.bl t)) S := ⟨t, rfl, k⟩
theorem wp_asB {Q : Bool → Store → Prop} (k : WP (f ρ S) (IsB Q)) : WP (asB f ρ S) Q := by
  obtain ⟨a, S1, e1, t, rfl, q⟩ := k
  exact ⟨t, S1, ev_asB e1, q⟩
/-- which way -/
def IfQ (t : Bool) (A B : Prop) : Prop := (t = true → A) ∧ (t = false → B)
section
variable {A B P : Prop} {t : Bool}
theorem ifq_t (k : A) : IfQ true A B := ⟨fun _ => k, fun h => nomatch h⟩
theorem ifq_f (k : B) : IfQ false A B := ⟨fun h => (nomatch h), fun _ => k⟩
theorem ifq_not (k : IfQ t B A) : IfQ (!t) A B := ⟨fun h => k.2 (by cases t <;> first | rfl | cases h), fun h => k.1 (by cases t <;> first | rfl | cases h)⟩
theorem ifq_x1 (k : IfQ t B A) : IfQ (t ^^ true) A B := ⟨fun h => k.2 (by cases t <;> first | rfl | cases h), fun h => k.1 (by cases t <;> first | rfl | cases h)⟩
theorem ifq_x0 (k : IfQ t A B) : IfQ (t ^^ false) A B := ⟨fun h => k.1 (by cases t <;> first | rfl | cases h), fun h => k.2 (by cases t <;> first | rfl | cases h)⟩
theorem ifq_dt {_ : Decidable P} (p : P) (k : A) : IfQ (decide P) A B := ⟨fun _ => k, fun h => absurd p (of_decide_eq_false h)⟩
theorem ifq_df {_ : Decidable P} (p : ¬ P) (k : B) : IfQ (decide P) A B := ⟨fun h => absurd (of_decide_eq_true h) p, fun _ => k⟩
theorem ifq_d {_ : Decidable P} (k : P → A) (l : ¬ P → B) : IfQ (decide P) A B := ⟨fun h => k (of_decide_eq_true h), fun h => l (of_decide_eq_false h)⟩
theorem ifq_b (k : t = true → A) (l : t = false → B) : IfQ t A B := ⟨k, l⟩
end
theorem wp_and {p q : M Bool} {Q : Bool → Store → Prop} (k : WP (p ρ S) fun t S1 => IfQ t (WP (q ρ S1) Q) (Q false S1)) : WP (andT p q ρ S) Q := by
  obtain ⟨t, S1, e, k1, k2⟩ := k
  cases t with
  | true =>
    obtain ⟨u, S2, e2, q2⟩ := k1 rfl
    exact ⟨u, S2, ev_and_t e e2, q2⟩
  | false => exact ⟨false, S1, ev_and_f e, k2 rfl⟩
theorem wp_or {p q : M Bool} {Q : Bool → Store → Prop} (k : WP (p ρ S) fun t S1 => IfQ t (Q true S1) (WP (q ρ S1) Q)) : WP (orT p q ρ S) Q := by
  obtain ⟨t, S1, e, k1, k2⟩ := k
  cases t with
  | false =>
    obtain ⟨u, S2, e2, q2⟩ := k2 rfl
    exact ⟨u, S2, ev_or_f e e2, q2⟩
  | true => exact ⟨true, S1, ev_or_t e, k1 rfl⟩
theorem wp_not {p : M Bool} {Q : Bool → Store → Prop} (k : WP (p ρ S) fun t S1 => Q (!t) S1) : WP (notT p ρ S) Q := by
  obtain ⟨t, S1, e, q⟩ := k
  exact ⟨_, S1, ev_not e, q⟩
theorem wp_notV (k : WP (f ρ S) fun a S1 => IsB (fun t S2 => Q (.d (.bl (!t))) S2) a S1) : WP (notV f ρ S) Q := by
  obtain ⟨a, S1, e, t, rfl, q⟩ := k
  exact ⟨_, S1, ev_una e rfl, q⟩
theorem wp_andV (k : WP (f ρ S) fun a S1 => IsB (fun t S2 => IfQ t (WP (g ρ S2) Q) (Q (.d (.bl false)) S2)) a S1) : WP (andV f g ρ S) Q := by
  obtain ⟨a, S1, e, t, rfl, k1, k2⟩ := k
  cases t with
  | true =>
    obtain ⟨u, S2, e2, q2⟩ := k1 rfl
    exact ⟨u, S2, ev_andV_t e e2, q2⟩
  | false => exact ⟨_, S1, ev_andV_f e, k2 rfl⟩
theorem wp_orV (k : WP (f ρ S) fun a S1 => IsB (fun t S2 => IfQ t (Q (.d (.bl true)) S2) (WP (g ρ S2) Q)) a S1) : WP (orV f g ρ S) Q := by
  obtain ⟨a, S1, e, t, rfl, k1, k2⟩ := k
  cases t with
  | false =>
    obtain ⟨u, S2, e2, q2⟩ := k2 rfl
    exact ⟨u, S2, by simp [orV, e, R.bind, e2], q2⟩
  | true => exact ⟨_, S1, by simp [orV, e, R.bind], k1 rfl⟩
theorem wp_ifV {p : M Bool} (k : WP (p ρ S) fun t S1 => IfQ t (WP (f ρ S1) Q) (WP (g ρ S1) Q)) : WP (ifV p f g ρ S) Q := by
  obtain ⟨t, S1, e, k1, k2⟩ := k
  cases t with
  | true =>
    obtain ⟨u, S2, e2, q2⟩ := k1 rfl
    exact ⟨u, S2, ev_ifV_t e e2, q2⟩
  | false =>
    obtain ⟨u, S2, e2, q2⟩ := k2 rfl
    exact ⟨u, S2, ev_ifV_f e e2, q2⟩
def TruQ (Q : Bool → Store → Prop) (a : A) (S1 : Store) : Prop := ∃ t, truA S1 a = some t ∧ Q t S1
theorem truQ {t : Bool} {Q : Bool → Store → Prop} (e : truA S1 a = some t) (k : Q t S1) : TruQ Q a S1 := ⟨t, e, k⟩
theorem wp_tru {Q : Bool → Store → Prop} (k : WP (f ρ S) (TruQ Q)) : WP (tru f ρ S) Q := by
  obtain ⟨a, S1, e, t, e2, q⟩ := k
  exact ⟨t, S1, ev_tru e e2, q⟩
theorem wp_chn {p q : A → A → Store → R A} (k : WP (f ρ S) fun a S1 => WP (g ρ S1) fun b S2 => WP (p a b S2) fun x S3 => IsB (fun t S4 => IfQ t (WP (h ρ S4) fun c S5 => WP (q b c S5) Q) (Q (.d (.bl false)) S4)) x S3) : WP (chn p q f g h ρ S) Q := by
  obtain ⟨a, S1, e1, b, S2, e2, x, S3, e3, t, rfl, k1, k2⟩ := k
  cases t with
  | true =>
    obtain ⟨c, S5, e5, y, S6, e6, q⟩ := k1 rfl
    exact ⟨y, S6, by simp [chn, e1, e2, e3, e5, e6, R.bind], q⟩
  | false => exact ⟨_, S3, by simp [chn, e1, e2, e3, R.bind], k2 rfl⟩
section
variable {fs gs : M (List A)} {Ql : List A → Store → Prop} {as das : List A} {F : List A → Store → R A}
theorem wp_nil (k : Ql [] S) : WP (aNil ρ S) Ql := ⟨[], S, rfl, k⟩
theorem wp_cons (k : WP (f ρ S) fun a S1 => WP (fs ρ S1) fun as S2 => Ql (a :: as) S2) : WP (aCons f fs ρ S) Ql := by
  obtain ⟨a, S1, e1, as, S2, e2, q⟩ := k
  exact ⟨_, S2, ev_cons e1 e2, q⟩
def StarQ (fs : M (List A)) (ρ : Env) (Ql : List A → Store → Prop) (a : A) (S1 : Store) : Prop := ∃ ds, seqOf S1 a = some ds ∧ WP (fs ρ S1) fun as S2 => Ql (ds.map A.d ++ as) S2
theorem starQ {ds : List D} (e : seqOf S1 a = some ds) (k : WP (fs ρ S1) fun as S2 => Ql (ds.map A.d ++ as) S2) : StarQ fs ρ Ql a S1 := ⟨ds, e, k⟩
theorem wp_star (k : WP (f ρ S) (StarQ fs ρ Ql)) : WP (aStar f fs ρ S) Ql := by
  obtain ⟨a, S1, e1, ds, e2, as, S2, e3, q⟩ := k
  exact ⟨_, S2, ev_star e1 e2 e3, q⟩
theorem wp_bcall {p : List A → Store → R A} (k : WP (fs ρ S) fun as S1 => WP (p as S1) Q) : WP (bcall p fs ρ S) Q := by
  obtain ⟨as, S1, e1, c, S3, e3, q⟩ := k
  exact ⟨c, S3, ev_bcall e1 e3, q⟩
/-- a call of a def without default values -/
def CallQ (n : Nat) (F : List A → Store → R A) (Q : A → Store → Prop) (as : List A) (S : Store) : Prop := as.length = n ∧ WP (F as S) Q
theorem callQ (l : as.length = n) (k : WP (F as S) Q) : CallQ n F Q as S := ⟨l, k⟩
theorem wp_call (k : WP (fs ρ S) (CallQ n F Q)) : WP (callM n F [] fs ρ S) Q := by
  obtain ⟨as, S1, e1, l, c, S3, e3, q⟩ := k
  exact ⟨c, S3, ev_call e1 (by simpa using l) (by simpa using e3), q⟩
def MethQ (cn mth : Str) (n : Nat) (F : List A → Store → R A) (fs : M (List A)) (ρ : Env) (Q : A → Store → Prop) (a : A) (S1 : Store) : Prop :=
  ∃ os, insOf S1 cn a = some os ∧ os.lookup mth = none ∧ WP (fs ρ S1) fun as S2 => CallQ n F Q (a :: as) S2
theorem methQ {cn mth : Str} {os : List (Str × A)} (e : insOf S1 cn a = some os) (l : os.lookup mth = none) (k : WP (fs ρ S1) fun as S2 => CallQ n F Q (a :: as) S2) : MethQ cn mth n F fs ρ Q a S1 := ⟨os, e, l, k⟩
theorem wp_meth {cn mth : Str} (k : WP (fo ρ S) (MethQ cn mth n F fs ρ Q)) : WP (methM cn mth n F [] fo fs ρ S) Q := by
  obtain ⟨a, S1, e1, os, e2, e3, as, S2, e4, l, c, S3, e5, q⟩ := k
  exact ⟨c, S3, ev_meth e1 e2 e3 e4 (by simpa using l) (by simpa using e5), q⟩
def TupQ (f : List D → D) (Q : A → Store → Prop) (as : List A) (S1 : Store) : Prop := ∃ ds, pures as = some ds ∧ ds.length ≤ 1000 ∧ Q (.d (f ds)) S1
theorem tupQ {ff : List D → D} {ds : List D} (e : pures as = some ds) (l : ds.length ≤ 1000) (k : Q (.d (ff ds)) S1) : TupQ ff Q as S1 := ⟨ds, e, l, k⟩
theorem wp_tupM (k : WP (fs ρ S) (TupQ .tup Q)) : WP (tupM fs ρ S) Q := by
  obtain ⟨as, S1, e1, ds, e2, l, q⟩ := k
  exact ⟨_, S1, ev_tupM e1 e2 l, q⟩
theorem wp_flM (k : WP (fs ρ S) (TupQ .fl Q)) : WP (flM fs ρ S) Q := by
  obtain ⟨as, S1, e1, ds, e2, l, q⟩ := k
  exact ⟨_, S1, ev_flM e1 e2 l, q⟩
def CelQ (Q : A → Store → Prop) (as : List A) (S1 : Store) : Prop := ∃ ds, pures as = some ds ∧ ds.length ≤ 1000 ∧ Q (.ref S1.length) (S1 ++ [.lst ds])
theorem celQ {ds : List D} (e : pures as = some ds) (l : ds.length ≤ 1000) (k : Q (.ref S1.length) (S1 ++ [.lst ds])) : CelQ Q as S1 := ⟨ds, e, l, k⟩
theorem wp_celM (k : WP (fs ρ S) (CelQ Q)) : WP (celM fs ρ S) Q := by
  obtain ⟨as, S1, e1, ds, e2, l, q⟩ := k
  exact ⟨_, _, ev_celM e1 e2 l, q⟩
def MthQ (p : A → List A → Store → R A) (fs : M (List A)) (ρ : Env) (Q : A → Store → Prop) (a : A) (S1 : Store) : Prop := ∃ ds, lstOf S1 a = some ds ∧ WP (fs ρ S1) fun as S2 => WP (p a as S2) Q
theorem mthQ {p : A → List A → Store → R A} {ds : List D} (e : lstOf S1 a = some ds) (k : WP (fs ρ S1) fun as S2 => WP (p a as S2) Q) : MthQ p fs ρ Q a S1 := ⟨ds, e, k⟩
theorem mthQr {p : A → List A → Store → R A} {ds : List D} {n : Nat} (e : S1[n]? = some (.lst ds)) (k : WP (fs ρ S1) fun as S2 => WP (p (.ref n) as S2) Q) : MthQ p fs ρ Q (.ref n) S1 := ⟨ds, by simp [lstOf, e], k⟩
theorem wp_mth {p : A → List A → Store → R A} (k : WP (fo ρ S) (MthQ p fs ρ Q)) : WP (mthM p fo fs ρ S) Q := by
  obtain ⟨a, S1, e1, ds, e2, as, S2, e3, c, S3, e4, q⟩ := k
  exact ⟨c, S3, ev_mth e1 e2 e3 e4, q⟩
def ProQ (cn : Str) (F : List A → Store → R A) (Q : A → Store → Prop) (a : A) (S1 : Store) : Prop := ∃ os, insOf S1 cn a = some os ∧ WP (F [a] S1) Q
theorem proQ {cn : Str} {os : List (Str × A)} (e : insOf S1 cn a = some os) (k : WP (F [a] S1) Q) : ProQ cn F Q a S1 := ⟨os, e, k⟩
theorem wp_pro {cn : Str} (k : WP (fo ρ S) (ProQ cn F Q)) : WP (una (proP cn 1 F []) fo ρ S) Q := by
  obtain ⟨a, S1, e1, os, e2, c, S2, e3, q⟩ := k
  exact ⟨c, S2, ev_pro e1 e2 rfl e3, q⟩
def FldQ (cn fl : Str) (Q : A → Store → Prop) (a : A) (S1 : Store) : Prop := ∃ os v, insOf S1 cn a = some os ∧ os.lookup fl = some v ∧ Q v S1
theorem fldQ {cn fl : Str} {os : List (Str × A)} (e : insOf S1 cn a = some os) (l : os.lookup fl = some v) (k : Q v S1) : FldQ cn fl Q a S1 := ⟨os, v, e, l, k⟩
theorem wp_fld {cn fl : Str} (k : WP (fo ρ S) (FldQ cn fl Q)) : WP (una (fldP cn fl) fo ρ S) Q := by
  obtain ⟨a, S1, e1, os, v, e2, e3, q⟩ := k
  exact ⟨v, S1, ev_fld e1 e2 e3, q⟩
def MakeQ (keep : Bool) (cn : Str) (n : Nat) (F : List A → Store → R A) (Q : A → Store → Prop) (as : List A) (S : Store) : Prop := WP (makeM keep cn n F [] (fun _ S => .ok as S) [] S) Q
theorem wp_make {cn : Str} {keep : Bool} (k : WP (fs ρ S) (MakeQ keep cn n F Q)) : WP (makeM keep cn n F [] fs ρ S) Q := by
  obtain ⟨as, S1, e1, c, S2, e2, q⟩ := k
  refine ⟨c, S2, ?_, q⟩
  simp only [makeM, R.bind, e1] at e2 ⊢
  exact e2
/-! ### slices -/
theorem wp_sl0 (k : WP (f ρ S) fun a S1 => ∃ ds, a = .d (.tup ds) ∧ WP (g ρ S1) fun b S2 => ∃ i : Nat, b = .d (.int (i : Nat)) ∧ Q (.d (.tup (ds.take i))) S2) : WP (slM f oNone (oSome g) ρ S) Q := by
  obtain ⟨a, S1, e1, ds, rfl, b, S2, e2, i, rfl, q⟩ := k
  have e := cut_to ds i
  exact ⟨_, S2, by simp [slM, e1, oNone, oSome, e2, R.bind, slP, e], q⟩
theorem wp_sl1 (k : WP (f ρ S) fun a S1 => ∃ ds, a = .d (.tup ds) ∧ WP (g ρ S1) fun b S2 => ∃ i : Nat, b = .d (.int (i : Nat)) ∧ Q (.d (.tup (ds.drop i))) S2) : WP (slM f (oSome g) oNone ρ S) Q := by
  obtain ⟨a, S1, e1, ds, rfl, b, S2, e2, i, rfl, q⟩ := k
  have e := cut_from ds i
  exact ⟨_, S2, by simp [slM, e1, oNone, oSome, e2, R.bind, slP, e], q⟩
end
/-! ### sentences -/
section
variable {s t : M Fl} {p : M Bool} {fs : M (List A)}
theorem ws_nil (k : N ρ S) : WS sNil ρ S N T := ⟨_, S, rfl, k⟩
theorem ws_seq (k : WS s ρ S (fun ρ1 S1 => WS t ρ1 S1 N T) T) : WS (sSeq s t) ρ S N T := by
  obtain ⟨fl, S1, e, q⟩ := k
  cases fl with
  | nx ρ1 =>
    obtain ⟨fl2, S2, e2, q2⟩ := q
    exact ⟨fl2, S2, ev_seq e e2, q2⟩
  | rt a => exact ⟨.rt a, S1, ev_seq_rt e, q⟩
  | _ => exact False.elim q
theorem ws_mid (M : Env → Store → Prop) (k : WS s ρ S M T) (l : ∀ ρ S, M ρ S → WS t ρ S N T) : WS (sSeq s t) ρ S N T := ws_seq (by
  obtain ⟨fl, S1, e, q⟩ := k
  refine ⟨fl, S1, e, ?_⟩
  cases fl with
  | nx ρ1 => exact l _ _ q
  | rt a => exact q
  | _ => exact False.elim q)
theorem ws_ret (k : WP (f ρ S) T) : WS (sRet f) ρ S N T := by
  obtain ⟨a, S1, e, q⟩ := k
  exact ⟨.rt a, S1, ev_ret e, q⟩
theorem ws_set (k : WP (f ρ S) fun a S1 => N (ρ.set i (some a)) S1) : WS (sAsg f (gSet i)) ρ S N T := by
  obtain ⟨a, S1, e, q⟩ := k
  exact ⟨.nx _, S1, ev_set e, q⟩
theorem ws_asg {gg : A → M Env} (k : WP (f ρ S) fun a S1 => WP (gg a ρ S1) N) : WS (sAsg f gg) ρ S N T := by
  obtain ⟨a, S1, e, ρ1, S2, e2, q⟩ := k
  exact ⟨.nx _, S2, ev_asg e e2, q⟩
theorem ws_exp (k : WP (f ρ S) fun _ S1 => N ρ S1) : WS (sExp f) ρ S N T := by
  obtain ⟨a, S1, e, q⟩ := k
  exact ⟨.nx _, S1, ev_exp e, q⟩
theorem ws_if (k : WP (p ρ S) fun b S1 => IfQ b (WS s ρ S1 N T) (WS t ρ S1 N T)) : WS (sIf p s t) ρ S N T := by
  obtain ⟨b, S1, e, k1, k2⟩ := k
  cases b with
  | true =>
    obtain ⟨fl, S2, e2, q⟩ := k1 rfl
    exact ⟨fl, S2, ev_if_t e e2, q⟩
  | false =>
    obtain ⟨fl, S2, e2, q⟩ := k2 rfl
    exact ⟨fl, S2, ev_if_f e e2, q⟩
def ParQ (i j : Nat) (ρ : Env) (N : Env → Store → Prop) (as : List A) (S1 : Store) : Prop := ∃ a b, as = [a, b] ∧ N ((ρ.set i (some a)).set j (some b)) S1
theorem parQ (k : N ((ρ.set i (some a)).set j (some b)) S1) : ParQ i j ρ N [a, b] S1 := ⟨a, b, rfl, k⟩
def Par3Q (i j n : Nat) (ρ : Env) (N : Env → Store → Prop) (as : List A) (S1 : Store) : Prop := ∃ a b c, as = [a, b, c] ∧ N (((ρ.set i (some a)).set j (some b)).set n (some c)) S1
theorem par3Q (k : N (((ρ.set i (some a)).set j (some b)).set n (some c)) S1) : Par3Q i j n ρ N [a, b, c] S1 := ⟨a, b, c, rfl, k⟩
/-- a test that says no -/
theorem ws_skip (k : WP (p ρ S) fun b S1 => b = false ∧ S1 = S) (l : N ρ S) : WS (sIf p s sNil) ρ S N T := by
  obtain ⟨b, S1, e, rfl, rfl⟩ := k
  exact ⟨_, _, ev_skip e, l⟩
theorem ws_par (k : WP (fs ρ S) (ParQ i j ρ N)) : WS (sPar i j fs) ρ S N T := by
  obtain ⟨as, S1, e, a, b, rfl, q⟩ := k
  exact ⟨.nx _, S1, ev_par e, q⟩
theorem ws_par3 (k : WP (fs ρ S) (Par3Q i j n ρ N)) : WS (sPar3 i j n fs) ρ S N T := by
  obtain ⟨as, S1, e, a, b, c, rfl, q⟩ := k
  exact ⟨.nx _, S1, by simp [sPar3, e, R.bind], q⟩
theorem ws_imp {N' : Env → Store → Prop} {T' : A → Store → Prop} (k : WS s ρ S N T) (i : ∀ ρ S, N ρ S → N' ρ S) (j : ∀ a S, T a S → T' a S) : WS s ρ S N' T' := by
  obtain ⟨fl, S1, e, q⟩ := k
  refine ⟨fl, S1, e, ?_⟩
  cases fl with
  | nx ρ1 => exact i _ _ q
  | rt a => exact j _ _ q
  | _ => exact False.elim q
/-- a loop: an invariant of what is done -/
theorem wf_inv {gg : A → M Env} {b : M Fl} (gD : α → D) (I : List α → Env → Store → Prop) : ∀ {xs dn : List α} {ρ : Env} {S : Store}, I dn ρ S →
    (∀ d x r, d ++ x :: r = dn ++ xs → ∀ ρ S, I d ρ S → WP (gg (.d (gD x)) ρ S) fun ρ1 S1 => WS b ρ1 S1 (I (d ++ [x])) T) →
    (∀ ρ S, I (dn ++ xs) ρ S → N ρ S) → WS (forL gg b (xs.map gD)) ρ S N T
  | [], dn, ρ, S, h, _, k => ⟨.nx ρ, S, rfl, k _ _ (by simpa using h)⟩
  | x :: xs, dn, ρ, S, h, st, k => by
    obtain ⟨ρ1, S1, h1, fl, S2, h2, h3⟩ := st dn x xs rfl ρ S h
    cases fl with
    | nx ρ2 =>
      obtain ⟨fl', S', h4, h5⟩ := wf_inv gD I (xs := xs) h3 (fun d y r e => st d y r (by simpa using e)) (by simpa using k)
      exact ⟨fl', S', by simp [forL, h1, R.bind, h2, h4], h5⟩
    | rt a => exact ⟨.rt a, S2, by simp [forL, h1, R.bind, h2], h3⟩
    | _ => exact False.elim h3
theorem ws_for {q : MI} {gg : A → M Env} {b : M Fl} (gD : α → D) (xs : List α) (I : List α → Env → Store → Prop) (hq : WP (q ρ S) fun ds S1 => ds = xs.map gD ∧ I [] ρ S1)
    (st : ∀ d x r, d ++ x :: r = xs → ∀ ρ S, I d ρ S → WP (gg (.d (gD x)) ρ S) fun ρ1 S1 => WS b ρ1 S1 (I (d ++ [x])) T)
    (k : ∀ ρ S, I xs ρ S → N ρ S) : WS (sFor q gg b) ρ S N T := by
  obtain ⟨ds, S1, e, rfl, h⟩ := hq
  obtain ⟨fl, S2, e2, q2⟩ := wf_inv (N := N) (T := T) gD I (xs := xs) h (by simpa using st) (by simpa using k)
  exact ⟨fl, S2, ev_for e e2, q2⟩
theorem ws_forE {q : MI} {gg : A → M Env} {b : M Fl} (k : WP (q ρ S) fun ds S1 => WS (forL gg b ds) ρ S1 N T) : WS (sFor q gg b) ρ S N T := by
  obtain ⟨ds, S1, e, fl, S2, e2, q2⟩ := k
  exact ⟨fl, S2, ev_for e e2, q2⟩
theorem wf {gg : A → M Env} {b : M Fl} (gD : α → D) (xs : List α) (I : List α → Env → Store → Prop) (h0 : I [] ρ S)
    (st : ∀ d x r, d ++ x :: r = xs → ∀ ρ S, I d ρ S → WP (gg (.d (gD x)) ρ S) fun ρ1 S1 => WS b ρ1 S1 (I (d ++ [x])) T)
    (k : ∀ ρ S, I xs ρ S → N ρ S) : WS (forL gg b (xs.map gD)) ρ S N T := wf_inv (N := N) (T := T) gD I (xs := xs) h0 (by simpa using st) (by simpa using k)
theorem wp_gset {Q : Env → Store → Prop} (k : Q (ρ.set i (some a)) S) : WP (gSet i a ρ S) Q := ⟨_, S, rfl, k⟩
theorem wp_gt2 {x y : D} {Q : Env → Store → Prop} (k : Q ((ρ.set i (some (.d x))).set j (some (.d y))) S) : WP (gTupM [gSet i, gSet j] (.d (.tup [x, y])) ρ S) Q := ⟨_, S, rfl, k⟩
theorem wp_gt3 {x y z : D} {Q : Env → Store → Prop} (k : Q (((ρ.set i (some (.d x))).set j (some (.d y))).set n (some (.d z))) S) : WP (gTupM [gSet i, gSet j, gSet n] (.d (.tup [x, y, z])) ρ S) Q := ⟨_, S, rfl, k⟩
theorem wp_gl2 {x y : D} {Q : Env → Store → Prop} (k : Q ((ρ.set i (some (.d x))).set j (some (.d y))) S) : WP (gLstM [gSet i, gSet j] (.d (.fl [x, y])) ρ S) Q := ⟨_, S, rfl, k⟩
end
/-! ### defs -/
theorem wp_fn {N0 : Nat} {keep : Bool} {body : M Fl} {as : List A} {ρ : Env} (l : as.length = n) (e : startE N0 as = ρ) (k : WS body ρ S (fun _ S1 => WP (retA keep S.length (.d .non) S1) Q) (fun a S1 => WP (retA keep S.length a S1) Q)) : WP (fnF N0 n keep body as S) Q := by
  subst e
  obtain ⟨fl, S1, e, q⟩ := k
  cases fl with
  | nx ρ1 =>
    obtain ⟨a, S2, e2, q2⟩ := q
    exact ⟨a, S2, ev_fnN l e e2, q2⟩
  | rt a =>
    obtain ⟨b, S2, e2, q2⟩ := q
    exact ⟨b, S2, ev_fn l e e2, q2⟩
  | _ => exact False.elim q
/-- nothing has changed -/
theorem wp_ret {keep : Bool} {x : D} (hS : Gd S) (k : Q (.d x) S) : WP (retA keep S.length (.d x) S) Q := ⟨_, S, ret_d hS, k⟩
theorem wp_ret2 {keep : Bool} {x : D} {U : Store} (hS : Gd S) (k : Q (.d x) S) : WP (retA keep S.length (.d x) (S ++ U)) Q := ⟨_, S, ret_d2 hS, k⟩
/-! ### what is iterated over -/
section
variable {Ql : List D → Store → Prop}
def SeqQ (Ql : List D → Store → Prop) (a : A) (S1 : Store) : Prop := ∃ ds, (kd a = .tup ds ∨ kd a = .lst ds) ∧ Ql ds S1
theorem seqQt {ds : List D} (k : Ql ds S1) : SeqQ Ql (.d (.tup ds)) S1 := ⟨ds, .inl rfl, k⟩
theorem seqQf {ds : List D} (k : Ql ds S1) : SeqQ Ql (.d (.fl ds)) S1 := ⟨ds, .inr rfl, k⟩
theorem seqQl {ds : List D} (k : Ql ds S1) : SeqQ Ql (.d (.rl ds)) S1 := ⟨ds, .inr rfl, k⟩
theorem seqQr {r : List Int} (k : Ql (r.map D.int) S1) : SeqQ Ql (.d (encR r)) S1 := ⟨_, .inl rfl, k⟩
theorem seqQh {r : List (List Int)} (k : Ql (r.map encR) S1) : SeqQ Ql (.d (encH r)) S1 := ⟨_, .inl rfl, k⟩
theorem wp_seqI (k : WP (f ρ S) (SeqQ Ql)) : WP (seqI f ρ S) Ql := by
  obtain ⟨a, S1, e, ds, h, q⟩ := k
  exact ⟨ds, S1, ev_seqI e h, q⟩
theorem wp_enumI (k : WP (f ρ S) (SeqQ fun ds => Ql (enumD ds))) : WP (enumI f ρ S) Ql := by
  obtain ⟨a, S1, e, ds, h, q⟩ := k
  exact ⟨_, S1, ev_enumI e h, q⟩
def RngQ (Ql : List D → Store → Prop) (a : A) (S1 : Store) : Prop := ∃ m : Nat, a = .d (.int (m : Nat)) ∧ m ≤ 1000 ∧ Ql (rngD 0 m) S1
theorem rngQ {m : Nat} {x : Int} (e : x = (m : Nat)) (l : m ≤ 1000) (k : Ql (rngD 0 m) S1) : RngQ Ql (.d (.int x)) S1 := ⟨m, by rw [e], l, k⟩
theorem wp_rng (k : WP (f ρ S) (RngQ Ql)) : WP (rng1 f ρ S) Ql := by
  obtain ⟨a, S1, e, m, rfl, l, q⟩ := k
  exact ⟨_, S1, ev_rng e l, q⟩
theorem wp_zipI (k : WP (f ρ S) fun a S1 => WP (g ρ S1) fun b S2 => WP (zipP a b S2) Ql) : WP (zipI f g ρ S) Ql := by
  obtain ⟨a, S1, e, b, S2, e2, ds, S3, e3, q⟩ := k
  exact ⟨_, S3, by simp [zipI, e, R.bind, e2, e3], q⟩
end
/-! ### comprehensions -/
section
variable {tg : Tg} {t : M Bool} {e : M A} {vs : List Nat} {q : MI}
theorem wp_comp (xs : List α) (g : α → D) (p : α → Bool) (f : α → D) (hq : WP (q ρ S) fun ds S1 => ds = xs.map g ∧ S1 = S) (hl : xs.length ≤ 1000)
    (hh : ∀ x ∈ xs, ∃ ρ1, tg.put (g x) (wipeE ρ vs) = some ρ1 ∧ WP (t ρ1 S) (fun b S1 => b = p x ∧ S1 = S) ∧ (p x = true → WP (e ρ1 S) fun a S1 => a = .d (f x) ∧ S1 = S))
    (k : Q (.d (.fl ((xs.filter p).map f))) S) : WP (lcM false vs q tg t e ρ S) Q := by
  obtain ⟨ds, S1, e1, rfl, rfl⟩ := hq
  refine ⟨_, _, comp_ev g p f e1 hl fun x hx => ?_, k⟩
  obtain ⟨ρ1, h1, h2, h3⟩ := hh x hx
  exact ⟨ρ1, h1, wp_eq h2, fun z => wp_eq (h3 z)⟩
theorem wp_map (xs : List α) (g f : α → D) (hq : WP (q ρ S) fun ds S1 => ds = xs.map g ∧ S1 = S) (hl : xs.length ≤ 1000)
    (hh : ∀ x ∈ xs, ∃ ρ1, tg.put (g x) (wipeE ρ vs) = some ρ1 ∧ WP (e ρ1 S) fun a S1 => a = .d (f x) ∧ S1 = S)
    (k : Q (.d (.fl (xs.map f))) S) : WP (lcM false vs q tg tYesM e ρ S) Q := by
  obtain ⟨ds, S1, e1, rfl, rfl⟩ := hq
  refine ⟨_, _, comp_map g f e1 hl fun x hx => ?_, k⟩
  obtain ⟨ρ1, h1, h2⟩ := hh x hx
  exact ⟨ρ1, h1, wp_eq h2⟩
end
theorem filter_ff {α : Type} (xs : List α) : xs.filter (fun _ => false) = [] := by simp
theorem dect {p : Prop} {_ : Decidable p} (h : p) : (decide p ^^ false) = true := by simp [h]
theorem decf {p : Prop} {_ : Decidable p} (h : ¬ p) : (decide p ^^ false) = false := by simp [h]
theorem dect1 {p : Prop} {_ : Decidable p} (h : p) : (decide p ^^ true) = false := by simp [h]
theorem decf1 {p : Prop} {_ : Decidable p} (h : ¬ p) : (decide p ^^ true) = true := by simp [h]
theorem dec0 {p q : Prop} {_ : Decidable p} {_ : Decidable q} (h : p ↔ q) : (decide p ^^ false) = decide q := by
  rw [Bool.xor_false]
  exact decide_eq_decide.mpr h
theorem dec1 {p q : Prop} {_ : Decidable p} {_ : Decidable q} (h : ¬ p ↔ q) : (decide p ^^ true) = decide q := by
  by_cases hp : p
  · have : ¬ q := fun hq => h.mpr hq hp
    simp [hp, this]
  · have := h.mp hp
    simp [hp, this]
/-! ### numbers -/
variable {x y : Int}
theorem wp_add (k : Q (.d (.int (x + y))) S) : WP (addP (.d (.int x)) (.d (.int y)) S) Q := ⟨_, S, rfl, k⟩
theorem wp_sub (k : Q (.d (.int (x - y))) S) : WP (subP (.d (.int x)) (.d (.int y)) S) Q := ⟨_, S, rfl, k⟩
theorem wp_neg (k : Q (.d (.int (-x))) S) : WP (negP (.d (.int x)) S) Q := ⟨_, S, rfl, k⟩
theorem wp_mod (h : 0 < y) (k : Q (.d (.int (x % y))) S) : WP (modP (.d (.int x)) (.d (.int y)) S) Q := ⟨_, S, by simp [modP, int2, h], k⟩
theorem wp_fdiv (h : 0 < y) (h2 : y.natAbs.log2 < 9000) (k : Q (.d (.int (x / y))) S) : WP (fdivP (.d (.int x)) (.d (.int y)) S) Q := ⟨_, S, by simp [fdivP, int2, h, h2], k⟩
theorem wp_mul (h : x.natAbs.log2 + y.natAbs.log2 < 1000000) (k : Q (.d (.int (x * y))) S) : WP (mulP (.d (.int x)) (.d (.int y)) S) Q := ⟨_, S, by simp [mulP, int2, h], k⟩
theorem wp_pow (h : 0 ≤ y ∧ (Builtin.Int.intBits x : Int) * y ≤ 2 ^ 27) (k : Q (.d (.int (x ^ y.toNat))) S) : WP (powP (.d (.int x)) (.d (.int y)) S) Q := ⟨_, S, by simp only [powP, int2]; rw [if_pos h], k⟩
theorem wp_int (k : Q (.d (.int x)) S) : WP (intP [.d (.int x)] S) Q := ⟨_, S, rfl, k⟩
theorem wp_intb {t : Bool} (k : Q (.d (.int (if t then 1 else 0))) S) : WP (intP [.d (.bl t)] S) Q := ⟨_, S, rfl, k⟩
theorem wp_abs (k : Q (.d (.int (if x < 0 then -x else x))) S) : WP (absP [.d (.int x)] S) Q := ⟨_, S, rfl, k⟩
theorem wp_two {g : Int → Int → Int} (k : Q (.d (.int (g x y))) S) : WP (two g [.d (.int x), .d (.int y)] S) Q := ⟨_, S, rfl, k⟩
theorem wp_lt (k : Q (.d (.bl (decide (x < y)))) S) : WP (ordP ltB (.d (.int x)) (.d (.int y)) S) Q := ⟨_, S, rfl, k⟩
theorem wp_le (k : Q (.d (.bl (decide (x ≤ y)))) S) : WP (ordP leB (.d (.int x)) (.d (.int y)) S) Q := ⟨_, S, rfl, k⟩
theorem wp_gt (k : Q (.d (.bl (decide (y < x)))) S) : WP (ordP gtB (.d (.int x)) (.d (.int y)) S) Q := ⟨_, S, rfl, k⟩
theorem wp_ge (k : Q (.d (.bl (decide (y ≤ x)))) S) : WP (ordP geB (.d (.int x)) (.d (.int y)) S) Q := ⟨_, S, rfl, k⟩
theorem wp_eqI {neg : Bool} (k : Q (.d (.bl (decide (x = y) ^^ neg))) S) : WP (eqP neg (.d (.int x)) (.d (.int y)) S) Q := ⟨_, S, eq_enc enc_int (by decide) x y, k⟩
theorem wp_eqB {p q : Bool} {neg : Bool} (k : Q (.d (.bl (decide (p = q) ^^ neg))) S) : WP (eqP neg (.d (.bl p)) (.d (.bl q)) S) Q := ⟨_, S, by cases p <;> cases q <;> cases neg <;> rfl, k⟩
theorem wp_eqE {α : Type} [DecidableEq α] {g : α → D} {kk : Nat} {neg : Bool} (he : Enc α g kk) (hk : kk ≤ 60) (x y : α) (k : Q (.d (.bl (decide (x = y) ^^ neg))) S) : WP (eqP neg (.d (g x)) (.d (g y)) S) Q := ⟨_, S, eq_enc he hk x y, k⟩
theorem wp_inT {α : Type} [DecidableEq α] {g : α → D} {kk : Nat} {neg : Bool} (he : Enc α g kk) (hk : kk ≤ 59) (x : α) (xs : List α) (k : Q (.d (.bl (decide (x ∈ xs) ^^ neg))) S) : WP (inP neg (.d (g x)) (.d (.tup (xs.map g))) S) Q := ⟨_, S, in_tup he hk x xs, k⟩
theorem wp_inF {α : Type} [DecidableEq α] {g : α → D} {kk : Nat} {neg : Bool} (he : Enc α g kk) (hk : kk ≤ 59) (x : α) (xs : List α) (k : Q (.d (.bl (decide (x ∈ xs) ^^ neg))) S) : WP (inP neg (.d (g x)) (.d (.fl (xs.map g))) S) Q := ⟨_, S, in_fl he hk x xs, k⟩
theorem wp_inRf {α : Type} [DecidableEq α] {g : α → D} {kk : Nat} {neg : Bool} (he : Enc α g kk) (hk : kk ≤ 59) (x : α) (xs : List α) {n : Nat} (hn : S[n]? = some (.lst (xs.map g))) (k : Q (.d (.bl (decide (x ∈ xs) ^^ neg))) S) : WP (inP neg (.d (g x)) (.ref n) S) Q := ⟨_, S, in_ref he hk x xs hn, k⟩
theorem wp_len {ds : List D} (e : seqOf S a = some ds) (h : ∀ z, a ≠ .d (.str z)) (k : Q (.d (.int (ds.length : Nat))) S) : WP (lenP [a] S) Q := by
  refine ⟨_, S, ?_, k⟩
  cases a with
  | d x => cases x with
    | str z => exact absurd rfl (h z)
    | _ => simp [lenP, e]
  | _ => simp [lenP, e]
theorem wp_lenT {ds : List D} (k : Q (.d (.int (ds.length : Nat))) S) : WP (lenP [.d (.tup ds)] S) Q := wp_len rfl (fun z h => by cases h) k
theorem wp_lenF {ds : List D} (k : Q (.d (.int (ds.length : Nat))) S) : WP (lenP [.d (.fl ds)] S) Q := wp_len rfl (fun z h => by cases h) k
theorem wp_lenR {ds : List D} (k : Q (.d (.int (ds.length : Nat))) S) : WP (lenP [.d (.rl ds)] S) Q := wp_len rfl (fun z h => by cases h) k
theorem wp_lenC {ds : List D} {n : Nat} (e : S[n]? = some (.lst ds)) (k : Q (.d (.int (ds.length : Nat))) S) : WP (lenP [.ref n] S) Q := wp_len (by simp [seqOf, tupOf, lstOf, e]) (fun z h => by cases h) k
theorem wp_ix {ds : List D} {y : Int} {d : D} (e : seqOf S a = some ds) (h : ∀ z, a ≠ .d (.str z)) (e2 : L2.atI ds y = some d) (k : Q (.d d) S) : WP (ixP a (.d (.int y)) S) Q := by
  refine ⟨_, S, ?_, k⟩
  cases a with
  | d x => cases x with
    | str z => exact absurd rfl (h z)
    | _ => simp [ixP, e, e2]
  | _ => simp [ixP, e, e2]
theorem wp_ixT {ds : List D} {y : Int} {d : D} (e2 : L2.atI ds y = some d) (k : Q (.d d) S) : WP (ixP (.d (.tup ds)) (.d (.int y)) S) Q := wp_ix rfl (fun z h => by cases h) e2 k
theorem wp_ixF {ds : List D} {y : Int} {d : D} (e2 : L2.atI ds y = some d) (k : Q (.d d) S) : WP (ixP (.d (.fl ds)) (.d (.int y)) S) Q := wp_ix rfl (fun z h => by cases h) e2 k
theorem wp_ixL {ds : List D} {y : Int} {d : D} (e2 : L2.atI ds y = some d) (k : Q (.d d) S) : WP (ixP (.d (.rl ds)) (.d (.int y)) S) Q := wp_ix rfl (fun z h => by cases h) e2 k
theorem wp_ixC {ds : List D} {y : Int} {d : D} {n : Nat} (e : S[n]? = some (.lst ds)) (e2 : L2.atI ds y = some d) (k : Q (.d d) S) : WP (ixP (.ref n) (.d (.int y)) S) Q := wp_ix (by simp [seqOf, tupOf, lstOf, e]) (fun z h => by cases h) e2 k
theorem wp_app {n : Nat} {ds : List D} {d : D} (e : S[n]? = some (.lst ds)) (l : ds.length < 1000) (k : Q (.d .non) (S.set n (.lst (ds ++ [d])))) : WP (appP (.ref n) [.d d] S) Q := ⟨_, _, by simp only [appP, e]; rw [if_pos (Nat.lt_of_lt_of_le l (sz (Nat.le_refl 1000)))], k⟩
theorem wp_pop {n : Nat} {ds : List D} {y : Int} {d : D} (e : S[n]? = some (.lst ds)) (h0 : 0 ≤ y) (h1 : y < ds.length) (l : ds.length ≤ 1000) (e2 : ds[y.toNat]? = some d) (k : Q (.d d) (S.set n (.lst (ds.eraseIdx y.toNat)))) : WP (popAt (.ref n) [.d (.int y)] S) Q := by
  refine ⟨_, _, ?_, k⟩
  have b : -(2 ^ 63) ≤ y ∧ y < 2 ^ 63 := ⟨by omega, by omega⟩
  have z : seqIndex? y ds.length = some y.toNat := by
    unfold seqIndex?
    have n0 : ¬ y < 0 := by omega
    have t : (decide (0 ≤ y) && decide (y < (ds.length : Int))) = true := by rw [Bool.and_eq_true]; exact ⟨decide_eq_true h0, decide_eq_true h1⟩
    simp only [if_neg n0]
    rw [if_pos t]
  simp only [popAt, e]
  rw [if_pos b, z]
  simp only [e2]
theorem wp_catT {xs ys : List D} (l : xs.length + ys.length ≤ 1000) (k : Q (.d (.tup (xs ++ ys))) S) : WP (addP (.d (.tup xs)) (.d (.tup ys)) S) Q := ⟨_, S, by simp [addP, sz l], k⟩
theorem wp_catF {xs ys : List D} (l : xs.length + ys.length ≤ 1000) (k : Q (.d (.fl (xs ++ ys))) S) : WP (addP (.d (.fl xs)) (.d (.fl ys)) S) Q := ⟨_, S, by simp [addP, sz l], k⟩
theorem wp_tupT {ds : List D} (k : Q (.d (.tup ds)) S) : WP (tupleP [.d (.tup ds)] S) Q := ⟨_, S, rfl, k⟩
theorem wp_tupF {ds : List D} (k : Q (.d (.tup ds)) S) : WP (tupleP [.d (.fl ds)] S) Q := ⟨_, S, rfl, k⟩
theorem wp_tupC {ds : List D} {n : Nat} (e : S[n]? = some (.lst ds)) (k : Q (.d (.tup ds)) S) : WP (tupleP [.ref n] S) Q := ⟨_, S, by simp [tupleP, lstOf, e], k⟩
theorem wp_sortF {r : List Int} (k : Q (.d (.fl ((sortI r).map D.int))) S) : WP (sortP false [.d (.fl (r.map D.int))] S) Q := ⟨_, S, by simp [sortP, lstOf, intsD_map], k⟩
theorem wp_isN {neg : Bool} (k : Q (.d (.bl (isNonA a ^^ neg))) S) : WP (isNP neg a (.d .non) S) Q := ⟨_, S, rfl, k⟩
theorem wp_allF {α : Type} (xs : List α) (p : α → Bool) (k : Q (.d (.bl (xs.all p))) S) : WP (allP false [.d (.fl (xs.map fun x => D.bl (p x)))] S) Q := by
  refine ⟨_, S, ?_, k⟩
  simp [allP, lstOf, blsD_map, List.all_map, Function.comp_def]
theorem wp_anyF {α : Type} (xs : List α) (p : α → Bool) (k : Q (.d (.bl (xs.any p))) S) : WP (allP true [.d (.fl (xs.map fun x => D.bl (p x)))] S) Q := by
  refine ⟨_, S, ?_, k⟩
  simp [allP, lstOf, blsD_map, List.any_map, Function.comp_def]
theorem wp_listF {ds : List D} (k : Q (.d (.fl ds)) S) : WP (listP [.d (.fl ds)] S) Q := ⟨_, S, rfl, k⟩
theorem wp_listT {ds : List D} (k : Q (.d (.fl ds)) S) : WP (listP [.d (.tup ds)] S) Q := ⟨_, S, rfl, k⟩
theorem wp_listCF {ds : List D} (k : Q (.ref S.length) (S ++ [.lst ds])) : WP (listC [.d (.fl ds)] S) Q := ⟨_, _, rfl, k⟩
theorem wp_listCT {ds : List D} (k : Q (.ref S.length) (S ++ [.lst ds])) : WP (listC [.d (.tup ds)] S) Q := ⟨_, _, rfl, k⟩
theorem rep_list {α : Type} (t : Nat) (xs : List α) (x : α) : (List.replicate t [x]).flatten = List.replicate t x := by
  induction t with
  | zero => rfl
  | succ t ih => rw [List.replicate_succ, List.flatten_cons, ih, List.replicate_succ]; rfl
/-- one item again and again -/
theorem wp_repT {d : D} {t : Nat} (h1 : 1 ≤ t) (h2 : t ≤ 1000) (k : Q (.d (.tup (List.replicate t d))) S) : WP (repTP (.d (.tup [d])) (.d (.int (t : Nat))) S) Q := by
  refine ⟨_, S, ?_, k⟩
  by_cases h : t = 1
  · subst h
    rfl
  · have a1 : ¬ ((t : Nat) : Int) = 1 := by omega
    have a2 : [d] ≠ [] ∧ (2 : Int) ≤ (t : Nat) ∧ ((t : Nat) : Int) ≤ 1000 ∧ [d].length ≤ 1000 := ⟨by simp, by omega, by omega, by simp⟩
    simp only [repTP, tupOf]
    rw [if_neg a1, if_pos a2, Int.toNat_natCast, rep_list t [d]]
end
end RS
end

section
set_option maxRecDepth 100000
set_option maxHeartbeats 4000000
/-! Tuples that are known to be plain: made by tuple(..), asked for an index. -/
namespace RS
open PySem PySem.Spec PyProof.Rows L2
variable {C : Cc} {E : XK} {X : Cx}
/-- tuple(xs) of a list, and nothing but a tuple is made -/
theorem call_tq : CallR X (.type "tuple") (fun xs H Q => ∃ b zs, xs = [V.ref b] ∧ SqL X.K H b zs ∧ ∀ l o, H l = none → (o.cls = .type "tuple" ∧ o.dict = none) → Q (.ref l) (upd H l (.frz o (.tup zs)))) := by
  intro pins s σ H xs us Q I rv hb
  obtain ⟨b, zs, e1, hq, q⟩ := hb
  subst e1
  obtain ⟨u, e2, ru⟩ := vals1 rv
  subst e2
  cases ru
  obtain ⟨ws, rw1, pl, hz⟩ := I.list hq
  have hl := rw1.length
  refine call_tuple_list pl.isList (fun g kp => ?_) (by simp only [List.size_toArray]; omega)
  have J : Inv X pins σ H { s with heap := g } := I.kept (t' := s.toks) kp
  let o : Obj := { cls := .type "tuple", data := .seq ws.toArray }
  have J2 : Inv X pins σ (upd H g.objs.size (.frz o (.tup zs))) { s with heap := g.push o } := J.laid (t' := s.toks) (fun c ob e => Heap.get?_push_of_some _ e) (Nat.le_refl _) ⟨Heap.get?_push_size _ rfl, hz, ws, rw1, IsTup.new _ _⟩
  exact ⟨.ref g.objs.size, _, J2, rfl, q _ o (J.hok.fresh (Nat.le_refl _)) ⟨rfl, rfl⟩⟩
theorem tq_new {m : List Addr} {H : Hp} {S : Store} {ds : List D} {vs : List V} {Q : VK} (hs : RS C m S H) (h : RDs C m H ds vs) (w : WpG C E (RA C) m H (.ok (.d (.tq ds)) S) Q) : ∀ p o, H p = none → (o.cls = .type "tuple" ∧ o.dict = none) → Q (.ref p) (upd H p (.frz o (.tup vs))) := fun p o hp ho => by
  have x := Ext.new hs (o := .frz o (.tup vs)) hp
  refine w m (upd H p (.frz o (.tup vs))) (.ref p) x (hs.new hp) ?_
  simp only [RA, RD]
  exact ⟨p, o, vs, rfl, upd_same, ho, hs.out hp, h.ext x⟩
def tupleQ : List A → Store → R A := fun as S => match as with
  | [a] => (match lstOf S a with
    | some ds => .ok (.d (.tq ds)) S
    | none => .bad)
  | _ => .bad
theorem c_tq : Bcl C E (fun xs H Q => ∃ b zs, xs = [V.ref b] ∧ SqL C.K H b zs ∧ ∀ l o, H l = none → (o.cls = .type "tuple" ∧ o.dict = none) → Q (.ref l) (upd H l (.frz o (.tup zs)))) tupleQ := by
  intro m S H as vs Q hs ha w
  unfold tupleQ at w
  split at w
  · obtain ⟨v, rfl, h⟩ := ras1 ha
    split at w
    · rename_i ds e
      obtain ⟨p, vs, rfl, h1, h2⟩ := lst_at hs h e
      exact ⟨p, vs, rfl, h1, tq_new hs h2 w⟩
    · exact False.elim w
  · exact False.elim w
/-- .. is a tuple like others -/
def wk (f : M A) : M A := fun ρ S => (f ρ S).bind fun a S1 => match a with
  | .d (.tq ds) => .ok (.d (.tup ds)) S1
  | a => .ok a S1
theorem tq_tup {m : List Addr} {H : Hp} {ds : List D} {v : V} (h : RA C m H (.d (.tq ds)) v) : RA C m H (.d (.tup ds)) v := by
  obtain ⟨p, o, vs, rfl, h1, _, n, h2⟩ := h.tq
  simp only [RA, RD]
  exact ⟨p, vs, rfl, .inl ⟨.inr ⟨o, h1⟩, n⟩, h2⟩
theorem se_wk {e : Expr} {f : M A} (h : SE C E X e f) : SE C E X e (wk f) :=
  pe_imp h fun σ H Q ⟨m, S, ρ, hs, he, w⟩ => ⟨m, S, ρ, hs, he, (WpG.bind (rel := RA C) w).imp fun v H1 ⟨m1, S1, a, x1, r1, q1, w1⟩ => by
    split at w1
    · exact wp_ok r1 (tq_tup q1) w1
    · exact wp_ok r1 q1 w1⟩
/-- t.index(x) of ints -/
def rTqIx : V → List V → Hp → VK → Prop := fun x xs H Q => ∃ (a : Addr) (o : Obj) (ns : List Int) (k : Int), x = .ref a ∧ xs = [.int k] ∧ H a = some (.frz o (.tup (ns.map V.int))) ∧ k ∈ ns ∧ Q (.int (ns.idxOf k : Nat)) H
theorem mt_tqIx : MtR X "tuple.index" rTqIx := by
  intro pins s σ H x xs v us Q I rx rxs h
  obtain ⟨a, o, ns, k, rfl, rfl, ha, hk, q⟩ := h
  cases rx
  obtain ⟨u, e2, ru⟩ := vals1 rxs
  subst e2
  obtain ⟨t, rfl⟩ := ru
  obtain ⟨its, rv, pl, _⟩ := I.tuple (.inl (.inr ⟨o, ha⟩) : SqT X.K H a (ns.map V.int))
  exact PySem.SeqAt.tuple_index_ints pl (Vals.ints rv) hk ⟨.int (ns.idxOf k : Nat), H, I.kept (h' := s.heap) (t' := s.toks + 1) fun _ _ e => e, ⟨_, rfl⟩, q⟩
def tTqM (r : V → List V → Hp → VK → Prop) (to : TE) (t : TA) : TE := fun σ H Q => to σ H fun x H1 => (∃ a o u, x = .ref a ∧ H1 a = some (.frz o u) ∧ o.cls = .type "tuple" ∧ o.dict = none) ∧ t σ H1 fun xs H2 => r x xs H2 Q
theorem pe_tqM {o e : Expr} {es : List Expr} {to : TE} {t : TA} {name : Str} {apos cpos : Pos} {id : String} {r : V → List V → Hp → VK → Prop} (slot : Slot "tuple" name id) (hty : typeOf (.builtin id) = pure (.type "method_descriptor")) (hm : MtR X id r) (ho : PE X o to) (ha : PA X (e :: es) t)
    (h1 : attributeBase o name X.env (eval o X.env) = eval o X.env := by rfl)
    (h2 : ((backTo cpos (starEach (e :: es) X.env)).all (fun x => !x.1) && (backToKw cpos (keywordEach [] X.env)).all (fun x => x.1.isSome) && decide ((e :: es).length + ([] : List Keyword).length + (if ([] : List Keyword).isEmpty then 0 else 1) < 30)) = true := by rfl)
    (h3 : (apos.endLine == cpos.line) = true := by rfl) (h4 : starEach (e :: es) X.env = (false, eval e X.env) :: starEach es X.env := by rfl) (h5 : (backTo cpos (starEach es X.env)).any (·.1) = false := by rfl) : PE X (.Call (.Attribute o name apos) (e :: es) [] cpos) (tTqM r to t) := by
  refine ⟨fun pins s σ H Q I h => wpAny_Call_method_late h1 h2 h3 rfl (thn (ho.run pins s σ H _ I h) fun v s1 hh => ?_)⟩
  obtain ⟨x, H1, I1, r1, ⟨a, ob, u, rfl, e1, c1, d1⟩, q1⟩ := hh
  have r2' := r1
  cases r1
  have g : s1.heap.get? a = some ob := (I1.hok a _ e1).1
  refine ⟨"tuple", id, PySem.F.plainAttrs_tuple, slot, hty, ⟨ob, g, c1⟩, fun b e => by cases e; exact ⟨ob, g, d1⟩, ?_⟩
  have hA := ha.run cpos pins s1 σ H1 _ I1 q1
  rw [h4] at hA ⊢
  refine Calls.callWith_builtin (by show (false || (backTo cpos (starEach es X.env)).any (·.1)) = false; rw [h5]; rfl) (Calls.evalArgs_plain (thn hA fun us s2 hh => ?_))
  obtain ⟨vs, H2, I2, r2, q2⟩ := hh
  exact hm pins s2 σ H2 _ vs _ us Q I2 r2' r2 q2
def idxQ (ds : List D) (b : A) (S : Store) : R A := match b with
  | .d (.int k) => (match intsD ds with
    | some ns => if k ∈ ns then .ok (.d (.int (ns.idxOf k : Nat))) S else .bad
    | none => .bad)
  | _ => .bad
def idxM (fo fe : M A) : M A := fun ρ S => (fo ρ S).bind fun a S1 => match a with
  | .d (.tq ds) => (fe ρ S1).bind fun b S2 => idxQ ds b S2
  | _ => .bad
theorem se_tqIx {o e : Expr} {fo fe : M A} {apos cpos : Pos} (hK : C.K = X.K) (ho : SE C E X o fo) (he : SE C E X e fe)
    (h1 : attributeBase o "index" X.env (eval o X.env) = eval o X.env := by rfl)
    (h2 : (((backTo cpos (starEach [e] X.env)).all fun x => !x.1) && (backToKw cpos (keywordEach [] X.env)).all (fun x => x.1.isSome) && decide (([e].length + ([] : List Keyword).length + if ([] : List Keyword).isEmpty then 0 else 1) < 30)) = true := by rfl)
    (h3 : (apos.endLine == cpos.line) = true := by rfl) (h4 : starEach [e] X.env = (false, eval e X.env) :: starEach [] X.env := by rfl) (h5 : (backTo cpos (starEach [] X.env)).any (·.1) = false := by rfl) :
    SE C E X (.Call (.Attribute o "index" apos) [e] [] cpos) (idxM fo fe) :=
  pe_imp (pe_tqM PySem.F.slot_tuple_index PySem.F.type_tuple_index mt_tqIx ho (sa_cons he sa_nil h4) h1 h2 h3 h4 h5) fun σ H Q ⟨m, S, ρ, hs, hE, w⟩ => by
    refine tE_then (g := fun a ρ S1 => match a with
      | .d (.tq ds) => (fe ρ S1).bind fun b S2 => idxQ ds b S2
      | _ => .bad) hs hE w fun m1 S1 a v H1 x1 r1 e1 q1 w1 => ?_
    split at w1
    · rename_i ds
      obtain ⟨p, o, vs, rfl, h1, k1, n1, hd⟩ := q1.tq
      refine ⟨⟨p, o, _, rfl, h1, k1⟩, ?_⟩
      refine tA_then (f := aCons fe aNil) (g := fun as _ S2 => match as with
        | [b] => idxQ ds b S2
        | _ => .bad) r1 e1 (by
          have e : ((aCons fe aNil ρ S1).bind fun as S2 => (match as with
            | [b] => idxQ ds b S2
            | _ => .bad : RS.R A)) = (fe ρ S1).bind fun b S2 => idxQ ds b S2 := by
            unfold aCons aNil
            cases fe ρ S1 <;> rfl
          rw [e]
          exact w1) fun m2 S2 as us H2 x2 r2 e2 q2 w2 => ?_
      split at w2
      · rename_i b
        obtain ⟨u, rfl, hu⟩ := ras1 q2
        unfold idxQ at w2
        split at w2
        · rename_i k
          split at w2
          · rename_i ns en
            split at w2
            · rename_i hk
              have hu2 := hu.int
              subst hu2
              have hd2 := RDs.ext x2 hd
              rw [ints_of hd2 en] at h1
              exact ⟨p, o, ns, k, rfl, rfl, (x2.stay _ _ h1 n1).1, hk, wp_ok r2 (RA.mkInt _) w2⟩
            · exact False.elim w2
          · exact False.elim w2
        · exact False.elim w2
      · exact False.elim w2
    · exact False.elim w1
end RS
end

section
set_option maxRecDepth 100000
set_option maxHeartbeats 4000000
/-! An instance is walked over: its own __iter__ hands out an iterator of a tuple that it holds. -/
namespace RS
open PySem PySem.Spec PyProof.Rows L2
section
variable {C : Cc} {E : XK} {X : Cx}
def ItoT (t it : Addr) : HO := .ext fun h => h.get? it = some { cls := .type "tuple_iterator", data := .fields #[.ref t, .int 0 0] }
/-- iter(t); what comes is younger than n -/
def rIterT (K : Fr) (n : Nat) : List V → Hp → VK → Prop := fun xs H Q => ∃ (l : Addr) (zs : List V), xs = [.ref l] ∧ SqT K H l zs ∧ ∀ it, H it = none → n ≤ it → Q (.ref it) (upd H it (ItoT l it))
theorem call_iterT : CallR X (.builtin "iter") (rIterT X.K X.s_0.heap.objs.size) := by
  intro pins s σ H xs us Q I rv hh
  obtain ⟨l, zs, e1, hq, q⟩ := hh
  subst e1
  obtain ⟨u, e2, ru⟩ := vals1 rv
  subst e2
  cases ru
  obtain ⟨its, _, pl, _⟩ := I.tuple hq
  refine Calls.call_function_entry (by decide +kernel) (by decide +kernel) PySem.W.kdk_entry_iter (PySem.W.kdk_args_iter _) ?_
  unfold Builtin.«iter»
  refine wpAny_bind (m := someArgs "iter" 1 2 _) (wpAny_of_eq (a := [Value.ref l]) (by first | rfl | kernel_rfl!) ?_)
  refine wpAny_bind (wpAny_pyIter_tuple (show s.heap.IsTuple l its.toArray from pl) (wpAny_pure ⟨_, rfl, ?_⟩))
  have ob : (s.heap.push { cls := .type "tuple_iterator", data := .fields #[.ref l, .int 0 0] }).get? s.heap.objs.size = some { cls := .type "tuple_iterator", data := .fields #[.ref l, .int 0 0] } := Heap.get?_push_size _ rfl
  have new : ObjOk X.prog X.w (upd H s.heap.objs.size (ItoT l s.heap.objs.size)) (s.heap.push { cls := .type "tuple_iterator", data := .fields #[.ref l, .int 0 0] }) s.heap.objs.size (ItoT l s.heap.objs.size) := ⟨ob, ⟨_, ob⟩, fun h1 h2 q k => k _ q⟩
  exact ⟨.ref s.heap.objs.size, _, I.laid (t' := s.toks) (fun b o e => Heap.get?_push_of_some _ e) (Nat.le_refl _) new, rfl, q _ (I.hok.fresh (Nat.le_refl _)) I.sz⟩
/-- an `__iter__` that hands out iter(self.F) -/
structure ItOk (P : Program) (w : World) (K : Fr) (mg : Str → Option Value) (base : Heap) (k : Nat) (f : Addr) (fd : FuncData) (c : Addr) (fld : Str) : Prop where
  run : ∀ (A : Around) (outer : List PySem.Env) (s : Shared) (H : Hp) (args : Args) (us : List Value) (p dx t : Addr) (gs : List (Str × V)) (zs : List V) (Q : VK) (E : XK), Room k A → Env0 P w K mg base A outer s H → BindsTo s fd args ((["self"] : List Str).zip us) →
    Vals [V.ref p] us → H p = some (.ins c dx gs) → gs.lookup fld = some (.ref t) → SqT K H t zs → (∀ it, H it = none → s.heap.objs.size ≤ it → Q (.ref it) (upd H it (ItoT t it))) → codeAny (model P w) A (.call (.ref f) args) (CR (L2.CX P w) outer P w H s Q E) s
theorem ItOk.mono {P : Program} {w : World} {K : Fr} {mg : Str → Option Value} {base : Heap} {j k : Nat} {f : Addr} {fd : FuncData} {c : Addr} {fld : Str} (F : ItOk P w K mg base j f fd c fld) (h : j ≤ k) : ItOk P w K mg base k f fd c fld :=
  ⟨fun A outer s H args us p dx t gs zs Q E hr => F.run A outer s H args us p dx t gs zs Q E (hr.mono h)⟩
theorem iter_ok {P : Program} {w : World} {K : Fr} {mg : Str → Option Value} {base : Heap} {d : DefP} {fd : FuncData} {c : Addr} {fld : Str} (F : FnAt K d fd) (S : FnScope ["self"] ["self"] d.scope) (hc : Cls K c) (hf : NoAttr K c fld)
    (hbody : ∀ (cdv : Value) (A' : Around) (outer : List PySem.Env) (s : Shared) (H : Hp) (E : XK),
      PSs (cxOf (L2.CX P w) P w K mg base ["self"] d.qual d.scope (d.ad K) cdv A' outer s H E) d.body (tRet (tCB (rIterT K s.heap.objs.size) (tCons (tFld K (tVar 0) fld) tNil)))) :
    ItOk P w K mg base 1 (d.ad K) fd c fld := by
  obtain ⟨oc, od, dV, kV, doc, pm, an, cdv, ct, osl, rfl, lk, hcd, _, _⟩ := F.ex
  refine ⟨fun A outer s H args us p dx t gs zs Q E hr e0 hb r h1 h2 h3 q => ?_⟩
  have hl : ([V.ref p] : List V).length = (["self"] : List Str).length := rfl
  have KX : K.In s.heap := e0.mod.kin.keeps fun b o e => (e0.bs b o e).1
  have lim : s.heap.NoLimit := e0.mod.nolimit.keeps fun b o e => (e0.bs b o e).1
  have hkind : ∀ y ∈ (["self"] : List Str).zip us, d.scope.names.lookup y.1 = some .local ∨ (d.scope.names.lookup y.1 = some .cell ∧ ((cellsFrom (s.heap.objs.size + 1) d.scope.names []).lookup y.1).isSome = true) := fun ⟨n, v⟩ hy => by
    rcases S.par n (List.of_mem_zip hy).1 with z | z
    · exact .inl z
    · exact .inr ⟨z, PySem.W.cellsFrom_some _ _ _ (.inl z)⟩
  refine codeAny_call_function hr.depth (KX _ _ lk) rfl S.co S.gen rfl (PySem.W.codeRec_of KX hcd) (hb _ _ _ _ ?_)
  refine wpAny_newFunctionEnv_cells S.kind hkind fun env he s1 x => ?_
  subst he
  refine ⟨lim.keeps x.toInCall.keep, codeAny_func ?_⟩
  have ht := hbody cdv A outer s H E
  have I : Inv (cxOf (L2.CX P w) P w K mg base ["self"] d.qual d.scope (d.ad K) cdv A outer s H E) [] (L2.start ["self"] [.ref p]) H s1 := inv_start S hr.hd e0 hl r x
  have hq : (tRet (tCB (rIterT K s.heap.objs.size) (tCons (tFld K (tVar 0) fld) tNil))) { nx := fun _ H' => Q .non H', rt := Q } (L2.start ["self"] [.ref p]) H := ⟨.ref p, rfl, p, c, dx, gs, .ref t, rfl, h1, hc, hf, h2, t, zs, rfl, h3, q⟩
  refine wpAny_mono (ht.run [] s1 (L2.start ["self"] [.ref p]) H _ I hq) (fun fl s' hs => ?_) fun e s' hs => hs
  have fin : ∀ {σ' : L2.St} {H' : Hp} {v : V} {u : Value}, Inv (cxOf (L2.CX P w) P w K mg base ["self"] d.qual d.scope (d.ad K) cdv A outer s H E) [] σ' H' s' → RelV v u → Q v H' → CE outer P w H s Q u s' :=
    fun {σ' H' v u} J rv q => ⟨v, H', J.os, J.bare, J.base, J.hok, rv, q⟩
  cases fl with
  | ret u =>
    obtain ⟨v, σ', H', J, rv, q⟩ := hs
    exact fin J rv q
  | next =>
    obtain ⟨σ', H', J, q⟩ := hs
    exact fin (v := V.non) (u := Value.none) J rfl q
  | brk =>
    obtain ⟨_, _, _, q⟩ := hs
    exact False.elim q
  | cont =>
    obtain ⟨_, _, _, q⟩ := hs
    exact False.elim q
/-- what is walked: the tuple in the field -/
def fldT (c fld : Str) (S : Store) (a : A) : Option (List D) := match insOf S c a with
  | some fs => (match fs.lookup fld with
    | some (.d (.tup ds)) => some ds
    | some (.d (.tq ds)) => some ds
    | _ => none)
  | none => none
def ownI (c fld : Str) (f : M A) : MI := fun ρ S => (f ρ S).bind fun a S1 => match fldT c fld S1 a with
  | some ds => .ok ds S1
  | none => .bad
theorem fldT_at {c fld : Str} {S : Store} {m : List Addr} {H : Hp} {a : A} {v : V} {ds : List D} (hs : RS C m S H) (h : RA C m H a v) (e : fldT c fld S a = some ds) :
    ∃ p dx gs t vs, v = .ref p ∧ H p = some (.ins (C.ca c) dx gs) ∧ gs.lookup fld = some (.ref t) ∧ TupAt C m H t vs ∧ RDs C m H ds vs := by
  unfold fldT at e
  split at e
  · rename_i fs h1
    obtain ⟨p, dx, gs, rfl, h2, h3⟩ := ins_at hs h h1
    split at e
    · rename_i ds' h4
      cases e
      obtain ⟨u, h5, h6⟩ := rf_get h3 h4
      obtain ⟨t, vs, rfl, h7, h8⟩ := RA.tup h6
      exact ⟨p, dx, gs, t, vs, rfl, h2, h5, h7, h8⟩
    · rename_i ds' h4
      cases e
      obtain ⟨u, h5, h6⟩ := rf_get h3 h4
      obtain ⟨t, vs, rfl, h7, h8⟩ := RA.tup (tq_tup h6)
      exact ⟨p, dx, gs, t, vs, rfl, h2, h5, h7, h8⟩
    · cases e
  · cases e
/-- the value is an instance with its own __iter__ -/
theorem si_own {k : Nat} {g : Addr} {fd : FuncData} {c fld : Str} {tg e : Expr} {f : M A} (hK : C.K = X.K) (B : SpC X.K (C.ca c) g "__iter__") (G : ItOk X.prog X.w X.K X.mg X.base k g fd (C.ca c) fld) (hr : Room k X.A) (hb : Binds X.K fd ["self"] []) (hx : Passes (L2.CX X.prog X.w) X noE)
    (h : SE C E X e f) : SI C E X tg e (ownI c fld f) := by
  refine ⟨fun pins s σ H R I ⟨m, S, ρ, hs, he, w⟩ => ?_⟩
  unfold ownI at w
  refine thn (h.run pins s σ H (fun v H1 => ∃ p dx gs t zs, v = .ref p ∧ H1 p = some (.ins (C.ca c) dx gs) ∧ gs.lookup fld = some (.ref t) ∧ SqT X.K H1 t zs ∧ R (Itt X.K t) H1) I ⟨m, S, ρ, hs, he, (WpG.bind (rel := RA C) w).imp fun v H1 ⟨m1, S1, a, x1, r1, q1, w1⟩ => ?_⟩) fun v s1 h1 => ?_
  · split at w1
    · rename_i ds hd
      obtain ⟨p, dx, gs, t, vs, rfl, h1, h2, h3, h4⟩ := fldT_at r1 q1 hd
      exact ⟨p, dx, gs, t, vs, rfl, h1, h2, hK ▸ h3.sq, hK ▸ wpI r1 (y_tup h3 h4) w1⟩
    · exact False.elim w1
  · obtain ⟨v', H1, I1, rv, p, dx, gs, t, zs, rfl, e1, e2, e3, hR⟩ := h1
    have rv : v = .ref p := rv
    subst rv
    obtain ⟨ox, od, i1⟩ := inst_of I1 e1
    obtain ⟨mf, fr⟩ := Inv.fr I1
    refine PySem.W.owit_iter fr I1.ok.mod.kin i1 B.at_ B.fn ?_
    have r2 : Vals [V.ref p] [Value.ref p] := .cons rfl .nil
    let Q' : VK := fun v H' => ∃ it, v = .ref it ∧ H' = upd H1 it (ItoT t it) ∧ H1 it = none ∧ s1.heap.objs.size ≤ it
    refine wpAny_call (codeAny_mono (G.run X.A X.stack s1 H1 ⟨[.ref p], []⟩ [.ref p] p dx t gs zs Q' noE hr I1.env0 (by
      have := hb s1 [.ref p] I1.kIn rfl
      simpa using this) r2 e1 e2 e3 fun it f0 n => ⟨it, rfl, rfl, f0, n⟩) fun r s' hq => ?_)
    cases r with
    | error e => exact hx pins σ H1 s1 e s' I1 hq
    | ok fl =>
      cases fl with
      | next => exact False.elim hq
      | brk => exact False.elim hq
      | cont => exact False.elim hq
      | ret u =>
        obtain ⟨v, H', I', rv, it, rfl, rfl, f0, n⟩ := I1.after hq
        have rv : u = .ref it := rv
        subst rv
        have hi : upd H1 it (ItoT t it) it = some (ItoT t it) := upd_same
        have st : s'.heap.IsTupleIter it t 0 := ⟨_, (I'.hok it _ hi).1, rfl, rfl⟩
        unfold PySem.W.OwitIt
        refine wpAny_specialOf (name := Str.ofString "__next__") st.typeIs PySem.F.slot_tuple_iterator_next.lookup ?_
        refine ⟨it, [it], _, Itt X.K t, H1, rfl, ?_, turn_tuple t it, st, fun b hb => ?_, hR⟩
        · have J := ItX.inv_drop I' hi
          rw [ItX.dropH_upd f0] at J
          exact J
        · have e : b = it := by simpa using hb
          subst e
          have J := ItX.inv_fp I' hi (Nat.le_trans I1.sz n)
          rw [ItX.dropH_upd f0] at J
          exact J
end
/-- such an `__iter__`, bundled -/
structure OkIt (P : Program) (w : World) (K : Fr) (mg : Str → Option Value) (base : Heap) (d : DefP) (k : Nat) (c fld : Str) : Prop where
  ex : ∃ fd, FnAt K d fd ∧ ItOk P w K mg base k (d.ad K) fd (gA c K) fld ∧ L2.Binds K fd ["self"] []
theorem OkIt.make {P : Program} {w : World} {K : Fr} {mg : Str → Option Value} {base : Heap} {d : DefP} {c fld : Str} {p1 p2 p3 p4 p5 : Pos} (h : ∃ fd, FnAt K d fd) (S : FnScope ["self"] ["self"] d.scope) (hc : Cls K (gA c K)) (hf : NoAttr K (gA c K) fld) (hm : mg "iter" = none)
    (hs : d.body = [.Return (some (.Call (.Name "iter" p1) [.Attribute (.Name "self" p2) fld p3] [] p4)) p5]) (hd : d.dfl = [] := by rfl)
    (hb : ∀ (kV doc pm : Value) (an : Option Addr) (cdv ct : Value) (us : List Value), us.length = (["self"] : List Str).length → bindArgs (PySem.W.fnOf d.name d.qual d.params d.body d.scope .none kV doc pm an cdv ct) ⟨us, []⟩ = pure ((["self"] : List Str).zip us)) 
    (hgl : ∀ (cdv : Value) (A' : Around) (outer : List PySem.Env) (s : Shared) (H : Hp) (E : XK), Gl (cxOf (L2.CX P w) P w K mg base ["self"] d.qual d.scope (d.ad K) cdv A' outer s H E) "iter")
    (hv : ∀ (cdv : Value) (A' : Around) (outer : List PySem.Env) (s : Shared) (H : Hp) (E : XK), Vis (cxOf (L2.CX P w) P w K mg base ["self"] d.qual d.scope (d.ad K) cdv A' outer s H E).env.scope "self")
    (hab : ∀ env : PySem.Env, attributeBase (.Name "self" p2) fld env (eval (.Name "self" p2) env) = eval (.Name "self" p2) env := by intro _; rfl) :
    OkIt P w K mg base d 1 c fld := by
  obtain ⟨fd, h⟩ := h
  have h2 := h
  have e : d.dvs K = [] := by unfold DefP.dvs; rw [hd]; rfl
  refine ⟨fd, h2, iter_ok h S hc hf fun cdv A' outer s H E => ?_, ?_⟩
  · rw [hs]
    refine pss_one (ps_ret (pe_callB (call_iterT (X := cxOf (L2.CX P w) P w K mg base ["self"] d.qual d.scope (d.ad K) cdv A' outer s H E)) (hgl _ _ _ _ _ _) hm (by rfl) (pa_cons (pe_fld (pe_var (i := 0) rfl (hv _ _ _ _ _ _)) (hab _)) pa_nil (by rfl)) (by decide) (by decide) (by rfl) (by rfl)))
  · unfold FnAt at h
    rw [e] at h
    exact h.bindsN hb
section
variable {E : XK} {X : Cx} {d : DefP} {k : Nat} {z : List (Addr × List V)} {L : Lm} {c fld : Str} {K : Fr} {tg e : Expr} {f : M A}
theorem so_own (hK : X.K = K) (G : OkIt X.prog X.w X.K X.mg X.base d k c fld) (hr : Room k X.A) (B : SpC X.K (gA c X.K) (d.ad X.K) "__iter__") (h : SE ((cc L K).wz z) E X e f) : SI ((cc L K).wz z) E X tg e (ownI c fld f) := by
  subst hK
  obtain ⟨fd, h1, h2, h3⟩ := G.ex
  exact si_own (C := (cc L X.K).wz z) rfl B h2 hr h3 pass_noe h
end
end RS
end

section
set_option maxRecDepth 100000
set_option maxHeartbeats 4000000
namespace RSL
open PySem PySem.Spec PyProof.Rows L2 RS
def tops (i : Nat) : Stmt := PySem.Challenge.pw_rootshared_k07_whole_roots_of_pools.main.body.getD i (.Pass ⟨0, 0, 0, 0⟩)

def retE : Stmt → Expr
  | .Return (some e) _ => e
  | _ => .Constant .none 0 ⟨0, 0, 0, 0⟩
def argN (e : Expr) (n : Nat) : Expr := match e with
  | .Call _ es _ _ => es.getD n (.Constant .none 0 ⟨0, 0, 0, 0⟩)
  | e => e
def lamP : Expr → Arguments × Expr × PySem.Scope
  | .Lambda p b sc _ => (p, b, sc)
  | e => (⟨[], [], none, [], [], none, []⟩, e, ⟨.function, [], false, false, []⟩)
def lam0 : Arguments × Expr × PySem.Scope := lamP (argN (retE ((defBody (tops 28)).getD 1 (.Pass ⟨0, 0, 0, 0⟩))) 1)
def lam0_q : Str := ("silent_web" : Str) ++ ".<locals>." ++ "<lambda>"
def lam1 : Arguments × Expr × PySem.Scope := lamP (argN (retE ((defBody (inClass (tops 20) 14)).getD 2 (.Pass ⟨0, 0, 0, 0⟩))) 1)
def lam1_q : Str := ("Web.renumbered" : Str) ++ ".<locals>." ++ "<lambda>"
def LM : Lm where
  tb := fun K => [(tabA (gA "silent_web") K, fun _ _ => lam0_q), (tabA (mA "Web" "renumbered") K, fun _ _ => lam1_q)]
  fn := fun n => ((fun c => ⟨"", "", ⟨[], [], none, [], [], none, []⟩, [], ⟨.function, [], false, false, []⟩, [], c⟩), .Constant .none 0 ⟨0, 0, 0, 0⟩)
  fc := fun n => match n with
    | 0 => ⟨fun cl c => ⟨"<lambda>", lam0_q, lam0.1, [], lam0.2.2, cl, c⟩, lam0.2.1, []⟩
    | 1 => ⟨fun cl c => ⟨"<lambda>", lam1_q, lam1.1, [], lam1.2.2, cl, c⟩, lam1.2.1, ["numbers", "heard"]⟩
    | _ => ⟨fun cl c => ⟨"", "", ⟨[], [], none, [], [], none, []⟩, [], ⟨.function, [], false, false, []⟩, cl, c⟩, .Constant .none 0 ⟨0, 0, 0, 0⟩, []⟩
def N_lam0 : List Str := ["house", "other"]
def bl_lam0 : M A := (cK (.bl false))
theorem nsc_lam0 : NdefX.NScope N_lam0 ["house", "other"] [] lam0.2.2 := ⟨rfl, rfl, rfl, by decide +kernel, rfl, by decide +kernel, by decide +kernel, by decide +kernel, by decide +kernel⟩
def N_lam1 : List Str := ["house", "source", "numbers", "heard"]
def bl_lam1 : M A := (bin (inP false) (idxM (cVar 2) (cVar 1)) (bin ixP (cVar 3) (idxM (cVar 2) (cVar 0))))
theorem nsc_lam1 : NdefX.NScope N_lam1 ["house", "source"] ["numbers", "heard"] lam1.2.2 := ⟨rfl, rfl, rfl, by decide +kernel, rfl, by decide +kernel, by decide +kernel, by decide +kernel, by decide +kernel⟩
def LF : Nat → List D → List A → Store → R A := fun n => match n with
  | 0 => lamFc N_lam0.length 2 0 bl_lam0
  | 1 => lamFc N_lam1.length 2 2 bl_lam1
  | _ => fun _ _ _ => .bad
def tb_bool : List (Kn × Bool) := [(.ty "NoneType", false), (.ty "bool", true), (.ty "int", false), (.ty "str", false), (.ty "tuple", false), (.ty "list", false), (.own "Web", false)]
def tb_int : List (Kn × Bool) := [(.ty "NoneType", false), (.ty "bool", true), (.ty "int", true), (.ty "str", false), (.ty "tuple", false), (.ty "list", false), (.own "Web", false)]
def tb_tuple : List (Kn × Bool) := [(.ty "NoneType", false), (.ty "bool", false), (.ty "int", false), (.ty "str", false), (.ty "tuple", true), (.ty "list", false), (.own "Web", false)]
def tb_Web : List (Kn × Bool) := [(.ty "NoneType", false), (.ty "bool", false), (.ty "int", false), (.ty "str", false), (.ty "tuple", false), (.ty "list", false), (.own "Web", true)]
/-! is_plain_integer -/
def d_is_plain_integer : DefP := ⟨gA "is_plain_integer", "is_plain_integer", "is_plain_integer", defArgs (tops 10), defBody (tops 10), defScope (tops 10), [], []⟩
def N_is_plain_integer : List Str := ["value"]
def b_is_plain_integer : M Fl := (sSeq (sIf (orT (asB (una (isiP tb_bool) (cVar 0))) (notT (asB (una (isiP tb_int) (cVar 0)))))
    (sRet (cK (.bl false)))
    sNil)
    (sRet (chn (ordP ltB) (ordP ltB) (una negP (cK (.int 1000000000000000000000000000000000000000000000000000000000000))) (cVar 0) (cK (.int 1000000000000000000000000000000000000000000000000000000000000)))))
abbrev F_is_plain_integer : List A → Store → R A := fnF N_is_plain_integer.length 1 false b_is_plain_integer
theorem w_is_plain_integer {a0 : A} {S : Store} {Q : A → Store → Prop} (k : WS b_is_plain_integer [some a0] S (fun _ S1 => WP (retA false S.length (.d .non) S1) Q) (fun a S1 => WP (retA false S.length a S1) Q)) : WP (F_is_plain_integer [a0] S) Q := wp_fn rfl rfl k
theorem sc_is_plain_integer : FnScope N_is_plain_integer ["value"] d_is_plain_integer.scope := ⟨rfl, rfl, rfl, by decide +kernel, rfl, by decide +kernel, by decide +kernel⟩
/-! is_between -/
def d_is_between : DefP := ⟨gA "is_between", "is_between", "is_between", defArgs (tops 11), defBody (tops 11), defScope (tops 11), [], []⟩
def N_is_between : List Str := ["value", "least", "most"]
def b_is_between : M Fl := (sRet (andV (callM 1 F_is_plain_integer [] (aCons (cVar 0) aNil)) (chn (ordP leB) (ordP leB) (cVar 1) (cVar 0) (cVar 2))))
abbrev F_is_between : List A → Store → R A := fnF N_is_between.length 3 false b_is_between
theorem w_is_between {a0 a1 a2 : A} {S : Store} {Q : A → Store → Prop} (k : WS b_is_between [some a0, some a1, some a2] S (fun _ S1 => WP (retA false S.length (.d .non) S1) Q) (fun a S1 => WP (retA false S.length a S1) Q)) : WP (F_is_between [a0, a1, a2] S) Q := wp_fn rfl rfl k
theorem sc_is_between : FnScope N_is_between ["value", "least", "most"] d_is_between.scope := ⟨rfl, rfl, rfl, by decide +kernel, rfl, by decide +kernel, by decide +kernel⟩
/-! is_index -/
def d_is_index : DefP := ⟨gA "is_index", "is_index", "is_index", defArgs (tops 12), defBody (tops 12), defScope (tops 12), [], []⟩
def N_is_index : List Str := ["value", "many"]
def b_is_index : M Fl := (sRet (callM 3 F_is_between [] (aCons (cVar 0) (aCons (cK (.int 0)) (aCons (bin subP (cVar 1) (cK (.int 1))) aNil)))))
abbrev F_is_index : List A → Store → R A := fnF N_is_index.length 2 false b_is_index
theorem w_is_index {a0 a1 : A} {S : Store} {Q : A → Store → Prop} (k : WS b_is_index [some a0, some a1] S (fun _ S1 => WP (retA false S.length (.d .non) S1) Q) (fun a S1 => WP (retA false S.length a S1) Q)) : WP (F_is_index [a0, a1] S) Q := wp_fn rfl rfl k
theorem sc_is_index : FnScope N_is_index ["value", "many"] d_is_index.scope := ⟨rfl, rfl, rfl, by decide +kernel, rfl, by decide +kernel, by decide +kernel⟩
/-! is_index_tuple -/
def d_is_index_tuple : DefP := ⟨gA "is_index_tuple", "is_index_tuple", "is_index_tuple", defArgs (tops 13), defBody (tops 13), defScope (tops 13), [], []⟩
def N_is_index_tuple : List Str := ["value", "many", "index"]
def b_is_index_tuple : M Fl := (sRet (andV (una (isiP tb_tuple) (cVar 0)) (bcall (allP false) (aCons (lcM false [2] (seqI (cVar 0)) (.one 2) tYesM (callM 2 F_is_index [] (aCons (cVar 2) (aCons (cVar 1) aNil)))) aNil))))
abbrev F_is_index_tuple : List A → Store → R A := fnF N_is_index_tuple.length 2 false b_is_index_tuple
theorem w_is_index_tuple {a0 a1 : A} {S : Store} {Q : A → Store → Prop} (k : WS b_is_index_tuple [some a0, some a1, none] S (fun _ S1 => WP (retA false S.length (.d .non) S1) Q) (fun a S1 => WP (retA false S.length a S1) Q)) : WP (F_is_index_tuple [a0, a1] S) Q := wp_fn rfl rfl k
theorem sc_is_index_tuple : FnScope N_is_index_tuple ["value", "many"] d_is_index_tuple.scope := ⟨rfl, rfl, rfl, by decide +kernel, rfl, by decide +kernel, by decide +kernel⟩
/-! is_ascending -/
def d_is_ascending : DefP := ⟨gA "is_ascending", "is_ascending", "is_ascending", defArgs (tops 14), defBody (tops 14), defScope (tops 14), [], []⟩
def N_is_ascending : List Str := ["value", "many", "low", "high"]
def b_is_ascending : M Fl := (sRet (andV (callM 2 F_is_index_tuple [] (aCons (cVar 0) (aCons (cVar 1) aNil))) (bcall (allP false) (aCons (lcM false [2, 3] (zipI (cVar 0) (slM (cVar 0) (oSome (cK (.int 1))) oNone)) (.two 2 3) tYesM (bin (ordP ltB) (cVar 2) (cVar 3))) aNil))))
abbrev F_is_ascending : List A → Store → R A := fnF N_is_ascending.length 2 false b_is_ascending
theorem w_is_ascending {a0 a1 : A} {S : Store} {Q : A → Store → Prop} (k : WS b_is_ascending [some a0, some a1, none, none] S (fun _ S1 => WP (retA false S.length (.d .non) S1) Q) (fun a S1 => WP (retA false S.length a S1) Q)) : WP (F_is_ascending [a0, a1] S) Q := wp_fn rfl rfl k
theorem sc_is_ascending : FnScope N_is_ascending ["value", "many"] d_is_ascending.scope := ⟨rfl, rfl, rfl, by decide +kernel, rfl, by decide +kernel, by decide +kernel⟩
/-! is_order -/
def d_is_order : DefP := ⟨gA "is_order", "is_order", "is_order", defArgs (tops 15), defBody (tops 15), defScope (tops 15), [], []⟩
def N_is_order : List Str := ["value", "many"]
def b_is_order : M Fl := (sRet (andV (callM 2 F_is_index_tuple [] (aCons (cVar 0) (aCons (cVar 1) aNil))) (bin (eqP false) (bcall sortTP (aCons (cVar 0) aNil)) (una (rgTP false) (cVar 1)))))
abbrev F_is_order : List A → Store → R A := fnF N_is_order.length 2 false b_is_order
theorem w_is_order {a0 a1 : A} {S : Store} {Q : A → Store → Prop} (k : WS b_is_order [some a0, some a1] S (fun _ S1 => WP (retA false S.length (.d .non) S1) Q) (fun a S1 => WP (retA false S.length a S1) Q)) : WP (F_is_order [a0, a1] S) Q := wp_fn rfl rfl k
theorem sc_is_order : FnScope N_is_order ["value", "many"] d_is_order.scope := ⟨rfl, rfl, rfl, by decide +kernel, rfl, by decide +kernel, by decide +kernel⟩
/-! check_between -/
def d_check_between : DefP := ⟨gA "check_between", "check_between", "check_between", defArgs (tops 16), defBody (tops 16), defScope (tops 16), [], []⟩
def N_check_between : List Str := ["value", "least", "most"]
def b_check_between : M Fl := (sIf (notT (asB (callM 3 F_is_between [] (aCons (cVar 0) (aCons (cVar 1) (aCons (cVar 2) aNil))))))
    sBad
    sNil)
abbrev F_check_between : List A → Store → R A := fnF N_check_between.length 3 false b_check_between
theorem w_check_between {a0 a1 a2 : A} {S : Store} {Q : A → Store → Prop} (k : WS b_check_between [some a0, some a1, some a2] S (fun _ S1 => WP (retA false S.length (.d .non) S1) Q) (fun a S1 => WP (retA false S.length a S1) Q)) : WP (F_check_between [a0, a1, a2] S) Q := wp_fn rfl rfl k
theorem sc_check_between : FnScope N_check_between ["value", "least", "most"] d_check_between.scope := ⟨rfl, rfl, rfl, by decide +kernel, rfl, by decide +kernel, by decide +kernel⟩
/-! check_index -/
def d_check_index : DefP := ⟨gA "check_index", "check_index", "check_index", defArgs (tops 17), defBody (tops 17), defScope (tops 17), [], []⟩
def N_check_index : List Str := ["value", "many"]
def b_check_index : M Fl := (sIf (notT (asB (callM 2 F_is_index [] (aCons (cVar 0) (aCons (cVar 1) aNil)))))
    sBad
    sNil)
abbrev F_check_index : List A → Store → R A := fnF N_check_index.length 2 false b_check_index
theorem w_check_index {a0 a1 : A} {S : Store} {Q : A → Store → Prop} (k : WS b_check_index [some a0, some a1] S (fun _ S1 => WP (retA false S.length (.d .non) S1) Q) (fun a S1 => WP (retA false S.length a S1) Q)) : WP (F_check_index [a0, a1] S) Q := wp_fn rfl rfl k
theorem sc_check_index : FnScope N_check_index ["value", "many"] d_check_index.scope := ⟨rfl, rfl, rfl, by decide +kernel, rfl, by decide +kernel, by decide +kernel⟩
/-! is_heard -/
def d_is_heard : DefP := ⟨gA "is_heard", "is_heard", "is_heard", defArgs (tops 21), defBody (tops 21), defScope (tops 21), [], []⟩
def N_is_heard : List Str := ["value", "house", "row"]
def b_is_heard : M Fl := (sSeq (sIf (orT (notT (asB (una (isiP tb_tuple) (cVar 0)))) (notT (asB (chn (ordP leB) (ordP leB) (cK (.int 1)) (bcall lenP (aCons (cVar 0) aNil)) (cK (.int 5))))))
    (sRet (cK (.bl false)))
    sNil)
    (sRet (bcall (allP false) (aCons (lcM false [1, 2] (enumI (cVar 0)) (.two 1 2) tYesM (andV (callM 2 F_is_ascending [] (aCons (cVar 2) (aCons (bcall lenP (aCons (cVar 0) aNil)) aNil))) (bin (inP true) (cVar 1) (cVar 2)))) aNil))))
abbrev F_is_heard : List A → Store → R A := fnF N_is_heard.length 1 false b_is_heard
theorem w_is_heard {a0 : A} {S : Store} {Q : A → Store → Prop} (k : WS b_is_heard [some a0, none, none] S (fun _ S1 => WP (retA false S.length (.d .non) S1) Q) (fun a S1 => WP (retA false S.length a S1) Q)) : WP (F_is_heard [a0] S) Q := wp_fn rfl rfl k
theorem sc_is_heard : FnScope N_is_heard ["value"] d_is_heard.scope := ⟨rfl, rfl, rfl, by decide +kernel, rfl, by decide +kernel, by decide +kernel⟩
/-! Web.size -/
def d_Web_size : DefP := ⟨pA "Web" "size", "size", "Web.size", defArgs (inClass (tops 20) 2), defBody (inClass (tops 20) 2), defScope (inClass (tops 20) 2), [], []⟩
def N_Web_size : List Str := ["self"]
def b_Web_size : M Fl := (sRet (una (fldP "Web" "_size") (cVar 0)))
abbrev F_Web_size : List A → Store → R A := fnF N_Web_size.length 1 false b_Web_size
theorem w_Web_size {a0 : A} {S : Store} {Q : A → Store → Prop} (k : WS b_Web_size [some a0] S (fun _ S1 => WP (retA false S.length (.d .non) S1) Q) (fun a S1 => WP (retA false S.length a S1) Q)) : WP (F_Web_size [a0] S) Q := wp_fn rfl rfl k
theorem sc_Web_size : FnScope N_Web_size ["self"] d_Web_size.scope := ⟨rfl, rfl, rfl, by decide +kernel, rfl, by decide +kernel, by decide +kernel⟩
/-! is_web_of -/
def d_is_web_of : DefP := ⟨gA "is_web_of", "is_web_of", "is_web_of", defArgs (tops 22), defBody (tops 22), defScope (tops 22), [], []⟩
def N_is_web_of : List Str := ["value", "size"]
def b_is_web_of : M Fl := (sRet (andV (una (isiP tb_Web) (cVar 0)) (bin (eqP false) (una (proP "Web" 1 F_Web_size []) (cVar 0)) (cVar 1))))
abbrev F_is_web_of : List A → Store → R A := fnF N_is_web_of.length 2 false b_is_web_of
theorem w_is_web_of {a0 a1 : A} {S : Store} {Q : A → Store → Prop} (k : WS b_is_web_of [some a0, some a1] S (fun _ S1 => WP (retA false S.length (.d .non) S1) Q) (fun a S1 => WP (retA false S.length a S1) Q)) : WP (F_is_web_of [a0, a1] S) Q := wp_fn rfl rfl k
theorem sc_is_web_of : FnScope N_is_web_of ["value", "size"] d_is_web_of.scope := ⟨rfl, rfl, rfl, by decide +kernel, rfl, by decide +kernel, by decide +kernel⟩
/-! check_web -/
def d_check_web : DefP := ⟨gA "check_web", "check_web", "check_web", defArgs (tops 23), defBody (tops 23), defScope (tops 23), [], []⟩
def N_check_web : List Str := ["value", "size"]
def b_check_web : M Fl := (sIf (notT (asB (callM 2 F_is_web_of [] (aCons (cVar 0) (aCons (cVar 1) aNil)))))
    sBad
    sNil)
abbrev F_check_web : List A → Store → R A := fnF N_check_web.length 2 false b_check_web
theorem w_check_web {a0 a1 : A} {S : Store} {Q : A → Store → Prop} (k : WS b_check_web [some a0, some a1] S (fun _ S1 => WP (retA false S.length (.d .non) S1) Q) (fun a S1 => WP (retA false S.length a S1) Q)) : WP (F_check_web [a0, a1] S) Q := wp_fn rfl rfl k
theorem sc_check_web : FnScope N_check_web ["value", "size"] d_check_web.scope := ⟨rfl, rfl, rfl, by decide +kernel, rfl, by decide +kernel, by decide +kernel⟩
/-! reached_from -/
def d_reached_from : DefP := ⟨gA "reached_from", "reached_from", "reached_from", defArgs (tops 24), defBody (tops 24), defScope (tops 24), [], []⟩
def N_reached_from : List Str := ["heard", "start", "found", "done", "later", "house", "row"]
def b_reached_from : M Fl := (sSeq (sAsg (celM (aCons (cVar 1) aNil)) (gSet 2))
    (sSeq (sAsg (cK (.int 0)) (gSet 3))
    (sSeq (whileL (asB (bin (ordP ltB) (cVar 3) (bcall lenP (aCons (cVar 2) aNil)))) (sSeq (sAsg (lcM false [5, 6] (enumI (cVar 0)) (.two 5 6) (andT (asB (bin (inP false) (bin ixP (cVar 2) (cVar 3)) (cVar 6))) (asB (bin (inP true) (cVar 5) (cVar 2)))) (cVar 5)) (gSet 4))
    (sSeq (sExp (mthM extP (cVar 2) (aCons (cVar 4) aNil)))
    (sAug 3 (cK (.int 1))))) 8)
    (sRet (bcall tupleP (aCons (bcall (sortP false) (aCons (cVar 2) aNil)) aNil))))))
abbrev F_reached_from : List A → Store → R A := fnF N_reached_from.length 2 false b_reached_from
theorem w_reached_from {a0 a1 : A} {S : Store} {Q : A → Store → Prop} (k : WS b_reached_from [some a0, some a1, none, none, none, none, none] S (fun _ S1 => WP (retA false S.length (.d .non) S1) Q) (fun a S1 => WP (retA false S.length a S1) Q)) : WP (F_reached_from [a0, a1] S) Q := wp_fn rfl rfl k
theorem sc_reached_from : FnScope N_reached_from ["heard", "start"] d_reached_from.scope := ⟨rfl, rfl, rfl, by decide +kernel, rfl, by decide +kernel, by decide +kernel⟩
/-! mutual_parts -/
def d_mutual_parts : DefP := ⟨gA "mutual_parts", "mutual_parts", "mutual_parts", defArgs (tops 25), defBody (tops 25), defScope (tops 25), [], []⟩
def N_mutual_parts : List Str := ["reached", "parts", "house", "far", "part", "other"]
def b_mutual_parts : M Fl := (sSeq (sAsg (celM aNil) (gSet 1))
    (sSeq (sFor (enumI (cVar 0)) (gTupM [(gSet 2), (gSet 3)])
    (sSeq (sAsg (bcall tupleP (aCons (lcM false [5] (seqI (cVar 3)) (.one 5) (asB (bin (inP false) (cVar 2) (bin ixP (cVar 0) (cVar 5)))) (cVar 5)) aNil)) (gSet 4))
    (sIf (asB (bin (eqP false) (bin ixP (cVar 4) (cK (.int 0))) (cVar 2)))
    (sExp (mthM appP (cVar 1) (aCons (cVar 4) aNil)))
    sNil)))
    (sRet (bcall tupleP (aCons (cVar 1) aNil)))))
abbrev F_mutual_parts : List A → Store → R A := fnF N_mutual_parts.length 1 false b_mutual_parts
theorem w_mutual_parts {a0 : A} {S : Store} {Q : A → Store → Prop} (k : WS b_mutual_parts [some a0, none, none, none, none, none] S (fun _ S1 => WP (retA false S.length (.d .non) S1) Q) (fun a S1 => WP (retA false S.length a S1) Q)) : WP (F_mutual_parts [a0] S) Q := wp_fn rfl rfl k
theorem sc_mutual_parts : FnScope N_mutual_parts ["reached"] d_mutual_parts.scope := ⟨rfl, rfl, rfl, by decide +kernel, rfl, by decide +kernel, by decide +kernel⟩
/-! Web.__init__ -/
def d_Web___init__ : DefP := ⟨mA "Web" "__init__", "__init__", "Web.__init__", defArgs (inClass (tops 20) 0), defBody (inClass (tops 20) 0), defScope (inClass (tops 20) 0), [], []⟩
def N_Web___init__ : List Str := ["self", "heard", "house", "far"]
def b_Web___init__ : M Fl := (sSeq (sIf (notT (asB (callM 1 F_is_heard [] (aCons (cVar 1) aNil))))
    sBad
    sNil)
    (sSeq (sFldM "Web" "_heard" (cVar 1) (cVar 0))
    (sSeq (sFldM "Web" "_size" (bcall lenP (aCons (cVar 1) aNil)) (cVar 0))
    (sSeq (sFldM "Web" "_reached" (bcall tupleP (aCons (lcM false [2] (rng1 (bcall lenP (aCons (cVar 1) aNil))) (.one 2) tYesM (callM 2 F_reached_from [] (aCons (cVar 1) (aCons (cVar 2) aNil)))) aNil)) (cVar 0))
    (sSeq (sFldM "Web" "_roots" (bcall tupleP (aCons (lcM false [2, 3] (enumI (una (fldP "Web" "_reached") (cVar 0))) (.two 2 3) (asB (bin (eqP false) (bcall lenP (aCons (cVar 3) aNil)) (bcall lenP (aCons (cVar 1) aNil)))) (cVar 2)) aNil)) (cVar 0))
    (sFldM "Web" "_parts" (callM 1 F_mutual_parts [] (aCons (una (fldP "Web" "_reached") (cVar 0)) aNil)) (cVar 0)))))))
abbrev F_Web___init__ : List A → Store → R A := fnF N_Web___init__.length 2 false b_Web___init__
theorem w_Web___init__ {a0 a1 : A} {S : Store} {Q : A → Store → Prop} (k : WS b_Web___init__ [some a0, some a1, none, none] S (fun _ S1 => WP (retA false S.length (.d .non) S1) Q) (fun a S1 => WP (retA false S.length a S1) Q)) : WP (F_Web___init__ [a0, a1] S) Q := wp_fn rfl rfl k
theorem sc_Web___init__ : FnScope N_Web___init__ ["self", "heard"] d_Web___init__.scope := ⟨rfl, rfl, rfl, by decide +kernel, rfl, by decide +kernel, by decide +kernel⟩
/-! web_where -/
def d_web_where : DefP := ⟨gA "web_where", "web_where", "web_where", defArgs (tops 27), defBody (tops 27), defScope (tops 27), [], []⟩
def N_web_where : List Str := ["size", "rule", "rows", "house", "other"]
def b_web_where : M Fl := (sSeq (sAsg (celM aNil) (gSet 2))
    (sSeq (sFor (rng1 (cVar 0)) (gSet 3)
    (sExp (mthM appP (cVar 2) (aCons (bcall tupleP (aCons (lcM false [4] (rng1 (cVar 0)) (.one 4) (andT (asB (bin (eqP true) (cVar 4) (cVar 3))) (tru (callLc 1 2 2 LF (aCons (cVar 3) (aCons (cVar 4) aNil))))) (cVar 4)) aNil)) aNil))))
    (sRet (makeM false "Web" 2 F_Web___init__ [] (aCons (bcall tupleP (aCons (cVar 2) aNil)) aNil)))))
abbrev F_web_where : List A → Store → R A := fnF N_web_where.length 2 false b_web_where
theorem w_web_where {a0 a1 : A} {S : Store} {Q : A → Store → Prop} (k : WS b_web_where [some a0, some a1, none, none, none] S (fun _ S1 => WP (retA false S.length (.d .non) S1) Q) (fun a S1 => WP (retA false S.length a S1) Q)) : WP (F_web_where [a0, a1] S) Q := wp_fn rfl rfl k
theorem sc_web_where : FnScope N_web_where ["size", "rule"] d_web_where.scope := ⟨rfl, rfl, rfl, by decide +kernel, rfl, by decide +kernel, by decide +kernel⟩
/-! silent_web -/
def d_silent_web : DefP := ⟨gA "silent_web", "silent_web", "silent_web", defArgs (tops 28), defBody (tops 28), defScope (tops 28), [], []⟩
def N_silent_web : List Str := ["size"]
def b_silent_web : M Fl := (sSeq (sExp (callM 3 F_check_between [] (aCons (cVar 0) (aCons (cK (.int 1)) (aCons (cK (.int 5)) aNil)))))
    (sRet (callC 0 [] F_web_where (cVar 0))))
abbrev F_silent_web : List A → Store → R A := fnF N_silent_web.length 1 false b_silent_web
theorem w_silent_web {a0 : A} {S : Store} {Q : A → Store → Prop} (k : WS b_silent_web [some a0] S (fun _ S1 => WP (retA false S.length (.d .non) S1) Q) (fun a S1 => WP (retA false S.length a S1) Q)) : WP (F_silent_web [a0] S) Q := wp_fn rfl rfl k
theorem sc_silent_web : FnScope N_silent_web ["size"] d_silent_web.scope := ⟨rfl, rfl, rfl, by decide +kernel, rfl, by decide +kernel, by decide +kernel⟩
/-! Web.heard -/
def d_Web_heard : DefP := ⟨pA "Web" "heard", "heard", "Web.heard", defArgs (inClass (tops 20) 1), defBody (inClass (tops 20) 1), defScope (inClass (tops 20) 1), [], []⟩
def N_Web_heard : List Str := ["self"]
def b_Web_heard : M Fl := (sRet (una (fldP "Web" "_heard") (cVar 0)))
abbrev F_Web_heard : List A → Store → R A := fnF N_Web_heard.length 1 false b_Web_heard
theorem w_Web_heard {a0 : A} {S : Store} {Q : A → Store → Prop} (k : WS b_Web_heard [some a0] S (fun _ S1 => WP (retA false S.length (.d .non) S1) Q) (fun a S1 => WP (retA false S.length a S1) Q)) : WP (F_Web_heard [a0] S) Q := wp_fn rfl rfl k
theorem sc_Web_heard : FnScope N_Web_heard ["self"] d_Web_heard.scope := ⟨rfl, rfl, rfl, by decide +kernel, rfl, by decide +kernel, by decide +kernel⟩
/-! Web.roots -/
def d_Web_roots : DefP := ⟨pA "Web" "roots", "roots", "Web.roots", defArgs (inClass (tops 20) 3), defBody (inClass (tops 20) 3), defScope (inClass (tops 20) 3), [], []⟩
def N_Web_roots : List Str := ["self"]
def b_Web_roots : M Fl := (sRet (una (fldP "Web" "_roots") (cVar 0)))
abbrev F_Web_roots : List A → Store → R A := fnF N_Web_roots.length 1 false b_Web_roots
theorem w_Web_roots {a0 : A} {S : Store} {Q : A → Store → Prop} (k : WS b_Web_roots [some a0] S (fun _ S1 => WP (retA false S.length (.d .non) S1) Q) (fun a S1 => WP (retA false S.length a S1) Q)) : WP (F_Web_roots [a0] S) Q := wp_fn rfl rfl k
theorem sc_Web_roots : FnScope N_Web_roots ["self"] d_Web_roots.scope := ⟨rfl, rfl, rfl, by decide +kernel, rfl, by decide +kernel, by decide +kernel⟩
/-! Web.hears -/
def d_Web_hears : DefP := ⟨mA "Web" "hears", "hears", "Web.hears", defArgs (inClass (tops 20) 5), defBody (inClass (tops 20) 5), defScope (inClass (tops 20) 5), [], []⟩
def N_Web_hears : List Str := ["self", "house"]
def b_Web_hears : M Fl := (sSeq (sExp (callM 2 F_check_index [] (aCons (cVar 1) (aCons (una (fldP "Web" "_size") (cVar 0)) aNil))))
    (sRet (bcall tupleP (aCons (bcall (sortP false) (aCons (flM (aStar (bin ixP (una (fldP "Web" "_heard") (cVar 0)) (cVar 1)) (aCons (cVar 1) aNil))) aNil)) aNil))))
abbrev F_Web_hears : List A → Store → R A := fnF N_Web_hears.length 2 false b_Web_hears
theorem w_Web_hears {a0 a1 : A} {S : Store} {Q : A → Store → Prop} (k : WS b_Web_hears [some a0, some a1] S (fun _ S1 => WP (retA false S.length (.d .non) S1) Q) (fun a S1 => WP (retA false S.length a S1) Q)) : WP (F_Web_hears [a0, a1] S) Q := wp_fn rfl rfl k
theorem sc_Web_hears : FnScope N_Web_hears ["self", "house"] d_Web_hears.scope := ⟨rfl, rfl, rfl, by decide +kernel, rfl, by decide +kernel, by decide +kernel⟩
/-! Web.then -/
def d_Web_then : DefP := ⟨mA "Web" "then", "then", "Web.then", defArgs (inClass (tops 20) 12), defBody (inClass (tops 20) 12), defScope (inClass (tops 20) 12), [], []⟩
def N_Web_then : List Str := ["self", "other", "rows", "house", "told", "teller", "source"]
def b_Web_then : M Fl := (sSeq (sExp (callM 2 F_check_web [] (aCons (cVar 1) (aCons (una (fldP "Web" "_size") (cVar 0)) aNil))))
    (sSeq (sAsg (celM aNil) (gSet 2))
    (sSeq (sFor (rng1 (una (fldP "Web" "_size") (cVar 0))) (gSet 3)
    (sSeq (sAsg (lcM2 false [5, 6] (seqI (methM "Web" "hears" 2 F_Web_hears [] (cVar 1) (aCons (cVar 3) aNil))) (.one 5) tYesM (seqI (methM "Web" "hears" 2 F_Web_hears [] (cVar 0) (aCons (cVar 5) aNil))) [6] (.one 6) tYesM (cVar 6)) (gSet 4))
    (sExp (mthM appP (cVar 2) (aCons (bcall tupleP (aCons (lcM false [6] (rng1 (una (fldP "Web" "_size") (cVar 0))) (.one 6) (andT (asB (bin (inP false) (cVar 6) (cVar 4))) (asB (bin (eqP true) (cVar 6) (cVar 3)))) (cVar 6)) aNil)) aNil)))))
    (sRet (makeM false "Web" 2 F_Web___init__ [] (aCons (bcall tupleP (aCons (cVar 2) aNil)) aNil))))))
abbrev F_Web_then : List A → Store → R A := fnF N_Web_then.length 2 false b_Web_then
theorem w_Web_then {a0 a1 : A} {S : Store} {Q : A → Store → Prop} (k : WS b_Web_then [some a0, some a1, none, none, none, none, none] S (fun _ S1 => WP (retA false S.length (.d .non) S1) Q) (fun a S1 => WP (retA false S.length a S1) Q)) : WP (F_Web_then [a0, a1] S) Q := wp_fn rfl rfl k
theorem sc_Web_then : FnScope N_Web_then ["self", "other"] d_Web_then.scope := ⟨rfl, rfl, rfl, by decide +kernel, rfl, by decide +kernel, by decide +kernel⟩
/-! Web.renumbered -/
def d_Web_renumbered : DefP := ⟨mA "Web" "renumbered", "renumbered", "Web.renumbered", defArgs (inClass (tops 20) 14), defBody (inClass (tops 20) 14), defScope (inClass (tops 20) 14), [], []⟩
def N_Web_renumbered : List Str := ["self", "numbers", "heard"]
def b_Web_renumbered : M Fl := (sSeq (sIf (notT (asB (callM 2 F_is_order [] (aCons (wk (cVar 1)) (aCons (una (fldP "Web" "_size") (cVar 0)) aNil)))))
    sBad
    sNil)
    (sSeq (sAsg (una (fldP "Web" "_heard") (cVar 0)) (gSet 2))
    (sRet (callC 1 [1, 2] F_web_where (una (fldP "Web" "_size") (cVar 0))))))
abbrev F_Web_renumbered : List A → Store → R A := fnF N_Web_renumbered.length 2 false b_Web_renumbered
theorem w_Web_renumbered {a0 a1 : A} {S : Store} {Q : A → Store → Prop} (k : WS b_Web_renumbered [some a0, some a1, none] S (fun _ S1 => WP (retA false S.length (.d .non) S1) Q) (fun a S1 => WP (retA false S.length a S1) Q)) : WP (F_Web_renumbered [a0, a1] S) Q := wp_fn rfl rfl k
theorem sc_Web_renumbered : FnScope N_Web_renumbered ["self", "numbers"] d_Web_renumbered.scope := ⟨rfl, rfl, rfl, by decide +kernel, rfl, by decide +kernel, by decide +kernel⟩
/-! are_pool_webs -/
def d_are_pool_webs : DefP := ⟨gA "are_pool_webs", "are_pool_webs", "are_pool_webs", defArgs (tops 32), defBody (tops 32), defScope (tops 32), [], []⟩
def N_are_pool_webs : List Str := ["value", "web"]
def b_are_pool_webs : M Fl := (sSeq (sIf (orT (notT (asB (una (isiP tb_tuple) (cVar 0)))) (notT (asB (chn (ordP leB) (ordP leB) (cK (.int 1)) (bcall lenP (aCons (cVar 0) aNil)) (cK (.int 8))))))
    (sRet (cK (.bl false)))
    sNil)
    (sSeq (sIf (notT (asB (bcall (allP false) (aCons (lcM false [1] (seqI (cVar 0)) (.one 1) tYesM (una (isiP tb_Web) (cVar 1))) aNil))))
    (sRet (cK (.bl false)))
    sNil)
    (sSeq (sIf (notT (asB (bcall (allP false) (aCons (lcM false [1] (seqI (cVar 0)) (.one 1) tYesM (bin (eqP false) (una (proP "Web" 1 F_Web_size []) (cVar 1)) (una (proP "Web" 1 F_Web_size []) (bin ixP (cVar 0) (cK (.int 0)))))) aNil))))
    (sRet (cK (.bl false)))
    sNil)
    (sRet (bin (eqP false) (una lenSetP (lcM false [1] (seqI (cVar 0)) (.one 1) tYesM (una (proP "Web" 1 F_Web_heard []) (cVar 1)))) (bcall lenP (aCons (cVar 0) aNil)))))))
abbrev F_are_pool_webs : List A → Store → R A := fnF N_are_pool_webs.length 1 false b_are_pool_webs
theorem w_are_pool_webs {a0 : A} {S : Store} {Q : A → Store → Prop} (k : WS b_are_pool_webs [some a0, none] S (fun _ S1 => WP (retA false S.length (.d .non) S1) Q) (fun a S1 => WP (retA false S.length a S1) Q)) : WP (F_are_pool_webs [a0] S) Q := wp_fn rfl rfl k
theorem sc_are_pool_webs : FnScope N_are_pool_webs ["value"] d_are_pool_webs.scope := ⟨rfl, rfl, rfl, by decide +kernel, rfl, by decide +kernel, by decide +kernel⟩
/-! houses_in_all -/
def d_houses_in_all : DefP := ⟨gA "houses_in_all", "houses_in_all", "houses_in_all", defArgs (tops 34), defBody (tops 34), defScope (tops 34), [], []⟩
def N_houses_in_all : List Str := ["size", "rows", "house", "row"]
def b_houses_in_all : M Fl := (sRet (bcall tupleP (aCons (lcM false [2] (rng1 (cVar 0)) (.one 2) (asB (bcall (allP false) (aCons (lcM false [3] (seqI (cVar 1)) (.one 3) tYesM (bin (inP false) (cVar 2) (cVar 3))) aNil))) (cVar 2)) aNil)))
abbrev F_houses_in_all : List A → Store → R A := fnF N_houses_in_all.length 2 false b_houses_in_all
theorem w_houses_in_all {a0 a1 : A} {S : Store} {Q : A → Store → Prop} (k : WS b_houses_in_all [some a0, some a1, none, none] S (fun _ S1 => WP (retA false S.length (.d .non) S1) Q) (fun a S1 => WP (retA false S.length a S1) Q)) : WP (F_houses_in_all [a0, a1] S) Q := wp_fn rfl rfl k
theorem sc_houses_in_all : FnScope N_houses_in_all ["size", "rows"] d_houses_in_all.scope := ⟨rfl, rfl, rfl, by decide +kernel, rfl, by decide +kernel, by decide +kernel⟩
/-! Pool.__init__ -/
def d_Pool___init__ : DefP := ⟨mA "Pool" "__init__", "__init__", "Pool.__init__", defArgs (inClass (tops 31) 0), defBody (inClass (tops 31) 0), defScope (inClass (tops 31) 0), [], []⟩
def N_Pool___init__ : List Str := ["self", "webs", "web"]
def b_Pool___init__ : M Fl := (sSeq (sIf (notT (asB (callM 1 F_are_pool_webs [] (aCons (cVar 1) aNil))))
    sBad
    sNil)
    (sSeq (sFldM "Pool" "_webs" (cVar 1) (cVar 0))
    (sSeq (sFldM "Pool" "_size" (una (proP "Web" 1 F_Web_size []) (bin ixP (cVar 1) (cK (.int 0)))) (cVar 0))
    (sSeq (sFldM "Pool" "_roots" (bcall tupleP (aCons (lcM false [2] (seqI (cVar 1)) (.one 2) tYesM (una (proP "Web" 1 F_Web_roots []) (cVar 2))) aNil)) (cVar 0))
    (sFldM "Pool" "_always" (callM 2 F_houses_in_all [] (aCons (una (fldP "Pool" "_size") (cVar 0)) (aCons (una (fldP "Pool" "_roots") (cVar 0)) aNil))) (cVar 0))))))
abbrev F_Pool___init__ : List A → Store → R A := fnF N_Pool___init__.length 2 false b_Pool___init__
theorem w_Pool___init__ {a0 a1 : A} {S : Store} {Q : A → Store → Prop} (k : WS b_Pool___init__ [some a0, some a1, none] S (fun _ S1 => WP (retA false S.length (.d .non) S1) Q) (fun a S1 => WP (retA false S.length a S1) Q)) : WP (F_Pool___init__ [a0, a1] S) Q := wp_fn rfl rfl k
theorem sc_Pool___init__ : FnScope N_Pool___init__ ["self", "webs"] d_Pool___init__.scope := ⟨rfl, rfl, rfl, by decide +kernel, rfl, by decide +kernel, by decide +kernel⟩
/-! Pool.size -/
def d_Pool_size : DefP := ⟨pA "Pool" "size", "size", "Pool.size", defArgs (inClass (tops 31) 2), defBody (inClass (tops 31) 2), defScope (inClass (tops 31) 2), [], []⟩
def N_Pool_size : List Str := ["self"]
def b_Pool_size : M Fl := (sRet (una (fldP "Pool" "_size") (cVar 0)))
abbrev F_Pool_size : List A → Store → R A := fnF N_Pool_size.length 1 false b_Pool_size
theorem w_Pool_size {a0 : A} {S : Store} {Q : A → Store → Prop} (k : WS b_Pool_size [some a0] S (fun _ S1 => WP (retA false S.length (.d .non) S1) Q) (fun a S1 => WP (retA false S.length a S1) Q)) : WP (F_Pool_size [a0] S) Q := wp_fn rfl rfl k
theorem sc_Pool_size : FnScope N_Pool_size ["self"] d_Pool_size.scope := ⟨rfl, rfl, rfl, by decide +kernel, rfl, by decide +kernel, by decide +kernel⟩
/-! Pool.roots -/
def d_Pool_roots : DefP := ⟨pA "Pool" "roots", "roots", "Pool.roots", defArgs (inClass (tops 31) 3), defBody (inClass (tops 31) 3), defScope (inClass (tops 31) 3), [], []⟩
def N_Pool_roots : List Str := ["self"]
def b_Pool_roots : M Fl := (sRet (una (fldP "Pool" "_roots") (cVar 0)))
abbrev F_Pool_roots : List A → Store → R A := fnF N_Pool_roots.length 1 false b_Pool_roots
theorem w_Pool_roots {a0 : A} {S : Store} {Q : A → Store → Prop} (k : WS b_Pool_roots [some a0] S (fun _ S1 => WP (retA false S.length (.d .non) S1) Q) (fun a S1 => WP (retA false S.length a S1) Q)) : WP (F_Pool_roots [a0] S) Q := wp_fn rfl rfl k
theorem sc_Pool_roots : FnScope N_Pool_roots ["self"] d_Pool_roots.scope := ⟨rfl, rfl, rfl, by decide +kernel, rfl, by decide +kernel, by decide +kernel⟩
/-! Pool.always -/
def d_Pool_always : DefP := ⟨pA "Pool" "always", "always", "Pool.always", defArgs (inClass (tops 31) 4), defBody (inClass (tops 31) 4), defScope (inClass (tops 31) 4), [], []⟩
def N_Pool_always : List Str := ["self"]
def b_Pool_always : M Fl := (sRet (una (fldP "Pool" "_always") (cVar 0)))
abbrev F_Pool_always : List A → Store → R A := fnF N_Pool_always.length 1 false b_Pool_always
theorem w_Pool_always {a0 : A} {S : Store} {Q : A → Store → Prop} (k : WS b_Pool_always [some a0] S (fun _ S1 => WP (retA false S.length (.d .non) S1) Q) (fun a S1 => WP (retA false S.length a S1) Q)) : WP (F_Pool_always [a0] S) Q := wp_fn rfl rfl k
theorem sc_Pool_always : FnScope N_Pool_always ["self"] d_Pool_always.scope := ⟨rfl, rfl, rfl, by decide +kernel, rfl, by decide +kernel, by decide +kernel⟩
/-! Pool._chosen -/
def d_Pool__chosen : DefP := ⟨mA "Pool" "_chosen", "_chosen", "Pool._chosen", defArgs (inClass (tops 31) 11), defBody (inClass (tops 31) 11), defScope (inClass (tops 31) 11), [], []⟩
def N_Pool__chosen : List Str := ["self", "indices", "index"]
def b_Pool__chosen : M Fl := (sRet (makeM false "Pool" 2 F_Pool___init__ [] (aCons (bcall tupleP (aCons (lcM false [2] (seqI (cVar 1)) (.one 2) tYesM (bin ixP (una (fldP "Pool" "_webs") (cVar 0)) (cVar 2))) aNil)) aNil)))
abbrev F_Pool__chosen : List A → Store → R A := fnF N_Pool__chosen.length 2 false b_Pool__chosen
theorem w_Pool__chosen {a0 a1 : A} {S : Store} {Q : A → Store → Prop} (k : WS b_Pool__chosen [some a0, some a1, none] S (fun _ S1 => WP (retA false S.length (.d .non) S1) Q) (fun a S1 => WP (retA false S.length a S1) Q)) : WP (F_Pool__chosen [a0, a1] S) Q := wp_fn rfl rfl k
theorem sc_Pool__chosen : FnScope N_Pool__chosen ["self", "indices"] d_Pool__chosen.scope := ⟨rfl, rfl, rfl, by decide +kernel, rfl, by decide +kernel, by decide +kernel⟩
/-! Pool.reordered -/
def d_Pool_reordered : DefP := ⟨mA "Pool" "reordered", "reordered", "Pool.reordered", defArgs (inClass (tops 31) 10), defBody (inClass (tops 31) 10), defScope (inClass (tops 31) 10), [], []⟩
def N_Pool_reordered : List Str := ["self", "indices"]
def b_Pool_reordered : M Fl := (sSeq (sIf (notT (asB (callM 2 F_is_order [] (aCons (cVar 1) (aCons (bcall lenP (aCons (una (fldP "Pool" "_webs") (cVar 0)) aNil)) aNil)))))
    sBad
    sNil)
    (sRet (methM "Pool" "_chosen" 2 F_Pool__chosen [] (cVar 0) (aCons (cVar 1) aNil))))
abbrev F_Pool_reordered : List A → Store → R A := fnF N_Pool_reordered.length 2 false b_Pool_reordered
theorem w_Pool_reordered {a0 a1 : A} {S : Store} {Q : A → Store → Prop} (k : WS b_Pool_reordered [some a0, some a1] S (fun _ S1 => WP (retA false S.length (.d .non) S1) Q) (fun a S1 => WP (retA false S.length a S1) Q)) : WP (F_Pool_reordered [a0, a1] S) Q := wp_fn rfl rfl k
theorem sc_Pool_reordered : FnScope N_Pool_reordered ["self", "indices"] d_Pool_reordered.scope := ⟨rfl, rfl, rfl, by decide +kernel, rfl, by decide +kernel, by decide +kernel⟩
/-! Pool.renumbered -/
def d_Pool_renumbered : DefP := ⟨mA "Pool" "renumbered", "renumbered", "Pool.renumbered", defArgs (inClass (tops 31) 12), defBody (inClass (tops 31) 12), defScope (inClass (tops 31) 12), [], []⟩
def N_Pool_renumbered : List Str := ["self", "numbers", "web"]
def b_Pool_renumbered : M Fl := (sRet (makeM false "Pool" 2 F_Pool___init__ [] (aCons (bcall tupleP (aCons (lcM false [2] (seqI (una (fldP "Pool" "_webs") (cVar 0))) (.one 2) tYesM (methM "Web" "renumbered" 2 F_Web_renumbered [] (cVar 2) (aCons (cVar 1) aNil))) aNil)) aNil)))
abbrev F_Pool_renumbered : List A → Store → R A := fnF N_Pool_renumbered.length 2 false b_Pool_renumbered
theorem w_Pool_renumbered {a0 a1 : A} {S : Store} {Q : A → Store → Prop} (k : WS b_Pool_renumbered [some a0, some a1, none] S (fun _ S1 => WP (retA false S.length (.d .non) S1) Q) (fun a S1 => WP (retA false S.length a S1) Q)) : WP (F_Pool_renumbered [a0, a1] S) Q := wp_fn rfl rfl k
theorem sc_Pool_renumbered : FnScope N_Pool_renumbered ["self", "numbers"] d_Pool_renumbered.scope := ⟨rfl, rfl, rfl, by decide +kernel, rfl, by decide +kernel, by decide +kernel⟩
/-! Pool.__len__ -/
def d_Pool___len__ : DefP := ⟨mA "Pool" "__len__", "__len__", "Pool.__len__", defArgs (inClass (tops 31) 16), defBody (inClass (tops 31) 16), defScope (inClass (tops 31) 16), [], []⟩
def N_Pool___len__ : List Str := ["self"]
def b_Pool___len__ : M Fl := (sRet (bcall lenP (aCons (una (fldP "Pool" "_webs") (cVar 0)) aNil)))
abbrev F_Pool___len__ : List A → Store → R A := fnF N_Pool___len__.length 1 false b_Pool___len__
theorem w_Pool___len__ {a0 : A} {S : Store} {Q : A → Store → Prop} (k : WS b_Pool___len__ [some a0] S (fun _ S1 => WP (retA false S.length (.d .non) S1) Q) (fun a S1 => WP (retA false S.length a S1) Q)) : WP (F_Pool___len__ [a0] S) Q := wp_fn rfl rfl k
theorem sc_Pool___len__ : FnScope N_Pool___len__ ["self"] d_Pool___len__.scope := ⟨rfl, rfl, rfl, by decide +kernel, rfl, by decide +kernel, by decide +kernel⟩
/-! Pool.__getitem__ -/
def d_Pool___getitem__ : DefP := ⟨mA "Pool" "__getitem__", "__getitem__", "Pool.__getitem__", defArgs (inClass (tops 31) 13), defBody (inClass (tops 31) 13), defScope (inClass (tops 31) 13), [], []⟩
def N_Pool___getitem__ : List Str := ["self", "index"]
def b_Pool___getitem__ : M Fl := (sSeq (sExp (callM 2 F_check_index [] (aCons (cVar 1) (aCons (bcall lenP (aCons (una (fldP "Pool" "_webs") (cVar 0)) aNil)) aNil))))
    (sRet (bin ixP (una (fldP "Pool" "_webs") (cVar 0)) (cVar 1))))
abbrev F_Pool___getitem__ : List A → Store → R A := fnF N_Pool___getitem__.length 2 false b_Pool___getitem__
theorem w_Pool___getitem__ {a0 a1 : A} {S : Store} {Q : A → Store → Prop} (k : WS b_Pool___getitem__ [some a0, some a1] S (fun _ S1 => WP (retA false S.length (.d .non) S1) Q) (fun a S1 => WP (retA false S.length a S1) Q)) : WP (F_Pool___getitem__ [a0, a1] S) Q := wp_fn rfl rfl k
theorem sc_Pool___getitem__ : FnScope N_Pool___getitem__ ["self", "index"] d_Pool___getitem__.scope := ⟨rfl, rfl, rfl, by decide +kernel, rfl, by decide +kernel, by decide +kernel⟩
/-! Pool.__iter__ -/
def d_Pool___iter__ : DefP := ⟨mA "Pool" "__iter__", "__iter__", "Pool.__iter__", defArgs (inClass (tops 31) 15), defBody (inClass (tops 31) 15), defScope (inClass (tops 31) 15), [], []⟩
theorem sc_Pool___iter__ : FnScope ["self"] ["self"] d_Pool___iter__.scope := ⟨rfl, rfl, rfl, by decide +kernel, rfl, by decide +kernel, by decide +kernel⟩
/-! _law_cask -/
def d__law_cask : DefP := ⟨gA "_law_cask", "_law_cask", "_law_cask", defArgs (tops 36), defBody (tops 36), defScope (tops 36), [], []⟩
def N__law_cask : List Str := ["_law_script", "_law_at", "_law_cell", "_law_great", "_law_seed"]
def b__law_cask : M Fl := (sSeq (sAsg (ifV (asB (bin (ordP ltB) (cVar 1) (bcall lenP (aCons (cVar 0) aNil)))) (bin ixP (cVar 0) (cVar 1)) (bin addP (bin mulP (cK (.int 83)) (cVar 1)) (cK (.int 29)))) (gSet 2))
    (sSeq (sAsg (bin modP (bcall intP (aCons (bcall absP (aCons (cVar 2) aNil)) aNil)) (bin powP (bin powP (cK (.int 10)) (cK (.int 60))) (cK (.int 8)))) (gSet 3))
    (sSeq (sAsg (bin modP (bcall intP (aCons (bin addP (bin addP (bin addP (cVar 3) (bin mulP (cK (.int 9576890767)) (cVar 1))) (bin mulP (cK (.int 49979687)) (bcall intP (aCons (bin (ordP ltB) (cVar 2) (cK (.int 0))) aNil)))) (cK (.int 17))) aNil)) (bin addP (bin powP (cK (.int 10)) (cK (.int 18))) (cK (.int 9)))) (gSet 4))
    (sRet (celM (aCons (ifV (asB (bin (ordP gtB) (cVar 3) (bin powP (cK (.int 10)) (cK (.int 18))))) (bin subP (cVar 3) (bin powP (cK (.int 10)) (cK (.int 18)))) (cK (.int 0))) (aCons (cVar 4) (aCons (cK (.int 0)) aNil))))))))
abbrev F__law_cask : List A → Store → R A := fnF N__law_cask.length 2 true b__law_cask
theorem w__law_cask {a0 a1 : A} {S : Store} {Q : A → Store → Prop} (k : WS b__law_cask [some a0, some a1, none, none, none] S (fun _ S1 => WP (retA true S.length (.d .non) S1) Q) (fun a S1 => WP (retA true S.length a S1) Q)) : WP (F__law_cask [a0, a1] S) Q := wp_fn rfl rfl k
theorem sc__law_cask : FnScope N__law_cask ["_law_script", "_law_at"] d__law_cask.scope := ⟨rfl, rfl, rfl, by decide +kernel, rfl, by decide +kernel, by decide +kernel⟩
/-! _law_scoop -/
def d__law_scoop : DefP := ⟨gA "_law_scoop", "_law_scoop", "_law_scoop", defArgs (tops 37), defBody (tops 37), defScope (tops 37), [], []⟩
def N__law_scoop : List Str := ["_law_cask_here", "_law_total", "_law_one", "_law_two", "_law_three", "_law_found"]
def b__law_scoop : M Fl := (sSeq (sIf (asB (bin (ordP gtB) (bin ixP (cVar 0) (cK (.int 0))) (cK (.int 0))))
    (sSeq (sAsg (bin modP (bcall intP (aCons (bin ixP (cVar 0) (cK (.int 0))) aNil)) (cVar 1)) (gSet 5))
    (sSeq (sAsg (bin fdivP (bin ixP (cVar 0) (cK (.int 0))) (cVar 1)) (gIx (cVar 0) (cK (.int 0))))
    (sRet (cVar 5))))
    sNil)
    (sSeq (sAsg (bin addP (bin ixP (cVar 0) (cK (.int 2))) (cK (.int 1))) (gIx (cVar 0) (cK (.int 2))))
    (sSeq (sAsg (bin modP (bcall intP (aCons (bin addP (bin ixP (cVar 0) (cK (.int 1))) (bin mulP (cK (.int 15487469)) (bin ixP (cVar 0) (cK (.int 2))))) aNil)) (cK (.int 2147483587))) (gSet 2))
    (sSeq (sAsg (bin modP (bcall intP (aCons (bin addP (bin addP (bin mulP (cVar 2) (cVar 2)) (bin fdivP (bin ixP (cVar 0) (cK (.int 1))) (cK (.int 1000033)))) (bin mulP (cK (.int 8209)) (bin ixP (cVar 0) (cK (.int 2))))) aNil)) (cK (.int 1000000033))) (gSet 3))
    (sSeq (sAsg (bin modP (bcall intP (aCons (bin addP (bin mulP (cVar 3) (cVar 3)) (cVar 2)) aNil)) (cK (.int 999999929))) (gSet 4))
    (sRet (bin modP (bcall intP (aCons (bin fdivP (cVar 4) (cK (.int 64))) aNil)) (cVar 1))))))))
abbrev F__law_scoop : List A → Store → R A := fnF N__law_scoop.length 2 false b__law_scoop
theorem w__law_scoop {a0 a1 : A} {S : Store} {Q : A → Store → Prop} (k : WS b__law_scoop [some a0, some a1, none, none, none, none] S (fun _ S1 => WP (retA false S.length (.d .non) S1) Q) (fun a S1 => WP (retA false S.length a S1) Q)) : WP (F__law_scoop [a0, a1] S) Q := wp_fn rfl rfl k
theorem sc__law_scoop : FnScope N__law_scoop ["_law_cask_here", "_law_total"] d__law_scoop.scope := ⟨rfl, rfl, rfl, by decide +kernel, rfl, by decide +kernel, by decide +kernel⟩
/-! _law_any_of -/
def d__law_any_of : DefP := ⟨gA "_law_any_of", "_law_any_of", "_law_any_of", defArgs (tops 39), defBody (tops 39), defScope (tops 39), [], []⟩
def N__law_any_of : List Str := ["_law_cask_here", "_law_items"]
def b__law_any_of : M Fl := (sRet (bin ixP (cVar 1) (callM 2 F__law_scoop [] (aCons (cVar 0) (aCons (bcall lenP (aCons (cVar 1) aNil)) aNil)))))
abbrev F__law_any_of : List A → Store → R A := fnF N__law_any_of.length 2 false b__law_any_of
theorem w__law_any_of {a0 a1 : A} {S : Store} {Q : A → Store → Prop} (k : WS b__law_any_of [some a0, some a1] S (fun _ S1 => WP (retA false S.length (.d .non) S1) Q) (fun a S1 => WP (retA false S.length a S1) Q)) : WP (F__law_any_of [a0, a1] S) Q := wp_fn rfl rfl k
theorem sc__law_any_of : FnScope N__law_any_of ["_law_cask_here", "_law_items"] d__law_any_of.scope := ⟨rfl, rfl, rfl, by decide +kernel, rfl, by decide +kernel, by decide +kernel⟩
/-! _law_few_of -/
def d__law_few_of : DefP := ⟨gA "_law_few_of", "_law_few_of", "_law_few_of", defArgs (tops 40), defBody (tops 40), defScope (tops 40), [], []⟩
def N__law_few_of : List Str := ["_law_cask_here", "_law_items", "_law_count", "_law_turn", "_law_left", "_law_found"]
def b__law_few_of : M Fl := (sSeq (sPar 4 5 (aCons (bcall listC (aCons (cVar 1) aNil)) (aCons (celM aNil) aNil)))
    (sSeq (sFor (rng1 (bcall (two min2) (aCons (cVar 2) (aCons (bcall lenP (aCons (cVar 1) aNil)) aNil)))) (gSet 3)
    (sExp (mthM appP (cVar 5) (aCons (mthM popAt (cVar 4) (aCons (callM 2 F__law_scoop [] (aCons (cVar 0) (aCons (bcall lenP (aCons (cVar 4) aNil)) aNil))) aNil)) aNil))))
    (sRet (cVar 5))))
abbrev F__law_few_of : List A → Store → R A := fnF N__law_few_of.length 3 false b__law_few_of
theorem w__law_few_of {a0 a1 a2 : A} {S : Store} {Q : A → Store → Prop} (k : WS b__law_few_of [some a0, some a1, some a2, none, none, none] S (fun _ S1 => WP (retA false S.length (.d .non) S1) Q) (fun a S1 => WP (retA false S.length a S1) Q)) : WP (F__law_few_of [a0, a1, a2] S) Q := wp_fn rfl rfl k
theorem sc__law_few_of : FnScope N__law_few_of ["_law_cask_here", "_law_items", "_law_count"] d__law_few_of.scope := ⟨rfl, rfl, rfl, by decide +kernel, rfl, by decide +kernel, by decide +kernel⟩
/-! _law_rows -/
def d__law_rows : DefP := ⟨gA "_law_rows", "_law_rows", "_law_rows", defArgs (tops 41), defBody (tops 41), defScope (tops 41), [], []⟩
def N__law_rows : List Str := ["_law_cask_here", "_law_size", "_law_house", "_law_way", "_law_found", "_law_others", "_law_count", "_law_one"]
def b__law_rows : M Fl := (sSeq (sPar 3 4 (aCons (callM 2 F__law_scoop [] (aCons (cVar 0) (aCons (cK (.int 5)) aNil))) (aCons (celM aNil) aNil)))
    (sSeq (sFor (rng1 (cVar 1)) (gSet 2)
    (sSeq (sAsg (lcM false [7] (rng1 (cVar 1)) (.one 7) (asB (bin (eqP true) (cVar 7) (cVar 2))) (cVar 7)) (gSet 5))
    (sSeq (sAsg (bcall (two min2) (aCons (bcall lenP (aCons (cVar 5) aNil)) (aCons (callM 2 F__law_any_of [] (aCons (cVar 0) (aCons (bin ixP (flM (aCons (flM (aCons (cK (.int 0)) (aCons (cK (.int 1)) (aCons (cK (.int 1)) (aCons (cK (.int 2)) aNil))))) (aCons (flM (aCons (cK (.int 1)) aNil)) (aCons (flM (aCons (cK (.int 0)) (aCons (cK (.int 1)) aNil))) (aCons (flM (aCons (cK (.int 1)) (aCons (cK (.int 2)) (aCons (cK (.int 3)) (aCons (cK (.int 4)) aNil))))) (aCons (flM (aCons (cK (.int 4)) aNil)) aNil)))))) (cVar 3)) aNil))) aNil))) (gSet 6))
    (sExp (mthM appP (cVar 4) (aCons (bcall tupleP (aCons (bcall (sortP false) (aCons (callM 3 F__law_few_of [] (aCons (cVar 0) (aCons (cVar 5) (aCons (cVar 6) aNil)))) aNil)) aNil)) aNil))))))
    (sRet (bcall tupleP (aCons (cVar 4) aNil)))))
abbrev F__law_rows : List A → Store → R A := fnF N__law_rows.length 2 false b__law_rows
theorem w__law_rows {a0 a1 : A} {S : Store} {Q : A → Store → Prop} (k : WS b__law_rows [some a0, some a1, none, none, none, none, none, none] S (fun _ S1 => WP (retA false S.length (.d .non) S1) Q) (fun a S1 => WP (retA false S.length a S1) Q)) : WP (F__law_rows [a0, a1] S) Q := wp_fn rfl rfl k
theorem sc__law_rows : FnScope N__law_rows ["_law_cask_here", "_law_size"] d__law_rows.scope := ⟨rfl, rfl, rfl, by decide +kernel, rfl, by decide +kernel, by decide +kernel⟩
/-! _law_pool_rows -/
def d__law_pool_rows : DefP := ⟨gA "_law_pool_rows", "_law_pool_rows", "_law_pool_rows", defArgs (tops 42), defBody (tops 42), defScope (tops 42), [], []⟩
def N__law_pool_rows : List Str := ["_law_cask_here", "_law_size", "_law_most", "_law_found", "_law_turn", "_law_rows_here", "_law_house", "_law_star", "_law_chain", "_law_full", "_law_one", "_law_far"]
def b__law_pool_rows : M Fl := (sSeq (sAsg (celM aNil) (gSet 3))
    (sSeq (sFor (rng1 (bin addP (cK (.int 1)) (callM 2 F__law_scoop [] (aCons (cVar 0) (aCons (cVar 2) aNil))))) (gSet 4)
    (sSeq (sAsg (callM 2 F__law_rows [] (aCons (cVar 0) (aCons (cVar 1) aNil))) (gSet 5))
    (sSeq (sIf (asB (bin (eqP false) (callM 2 F__law_scoop [] (aCons (cVar 0) (aCons (cK (.int 3)) aNil))) (cK (.int 0))))
    (sSeq (sAsg (callM 2 F__law_scoop [] (aCons (cVar 0) (aCons (cVar 1) aNil))) (gSet 6))
    (sSeq (sAsg (bcall tupleP (aCons (lcM false [10] (rng1 (cVar 1)) (.one 10) tYesM (ifV (asB (bin (eqP false) (cVar 10) (cVar 6))) (tupM aNil) (tupM (aCons (cVar 6) aNil)))) aNil)) (gSet 7))
    (sSeq (sAsg (bcall tupleP (aCons (lcM false [10] (rng1 (cVar 1)) (.one 10) tYesM (ifV (asB (bin (eqP false) (cVar 10) (cVar 6))) (tupM aNil) (tupM (aCons (bin modP (bin subP (bin addP (cVar 10) (cVar 1)) (cK (.int 1))) (cVar 1)) aNil)))) aNil)) (gSet 8))
    (sSeq (sAsg (bcall tupleP (aCons (lcM false [10] (rng1 (cVar 1)) (.one 10) tYesM (bcall tupleP (aCons (lcM false [11] (rng1 (cVar 1)) (.one 11) (asB (bin (eqP true) (cVar 11) (cVar 10))) (cVar 11)) aNil))) aNil)) (gSet 9))
    (sAsg (callM 2 F__law_any_of [] (aCons (cVar 0) (aCons (flM (aCons (cVar 7) (aCons (cVar 8) (aCons (cVar 9) aNil)))) aNil))) (gSet 5))))))
    sNil)
    (sIf (asB (bin (inP true) (cVar 5) (cVar 3)))
    (sExp (mthM appP (cVar 3) (aCons (cVar 5) aNil)))
    sNil))))
    (sRet (cVar 3))))
abbrev F__law_pool_rows : List A → Store → R A := fnF N__law_pool_rows.length 3 false b__law_pool_rows
theorem w__law_pool_rows {a0 a1 a2 : A} {S : Store} {Q : A → Store → Prop} (k : WS b__law_pool_rows [some a0, some a1, some a2, none, none, none, none, none, none, none, none, none] S (fun _ S1 => WP (retA false S.length (.d .non) S1) Q) (fun a S1 => WP (retA false S.length a S1) Q)) : WP (F__law_pool_rows [a0, a1, a2] S) Q := wp_fn rfl rfl k
theorem sc__law_pool_rows : FnScope N__law_pool_rows ["_law_cask_here", "_law_size", "_law_most"] d__law_pool_rows.scope := ⟨rfl, rfl, rfl, by decide +kernel, rfl, by decide +kernel, by decide +kernel⟩
/-! _law_pool_of -/
def d__law_pool_of : DefP := ⟨gA "_law_pool_of", "_law_pool_of", "_law_pool_of", defArgs (tops 38), defBody (tops 38), defScope (tops 38), [], []⟩
def N__law_pool_of : List Str := ["_law_rows_here", "_law_row"]
def b__law_pool_of : M Fl := (sRet (makeM false "Pool" 2 F_Pool___init__ [] (aCons (bcall tupleP (aCons (lcM false [1] (seqI (cVar 0)) (.one 1) tYesM (makeM false "Web" 2 F_Web___init__ [] (aCons (cVar 1) aNil))) aNil)) aNil)))
abbrev F__law_pool_of : List A → Store → R A := fnF N__law_pool_of.length 1 false b__law_pool_of
theorem w__law_pool_of {a0 : A} {S : Store} {Q : A → Store → Prop} (k : WS b__law_pool_of [some a0, none] S (fun _ S1 => WP (retA false S.length (.d .non) S1) Q) (fun a S1 => WP (retA false S.length a S1) Q)) : WP (F__law_pool_of [a0] S) Q := wp_fn rfl rfl k
theorem sc__law_pool_of : FnScope N__law_pool_of ["_law_rows_here"] d__law_pool_of.scope := ⟨rfl, rfl, rfl, by decide +kernel, rfl, by decide +kernel, by decide +kernel⟩
/-! _law_heralds -/
def d__law_heralds : DefP := ⟨gA "_law_heralds", "_law_heralds", "_law_heralds", defArgs (tops 43), defBody (tops 43), defScope (tops 43), [], []⟩
def N__law_heralds : List Str := ["_law_web", "_law_size", "_law_house", "_law_one"]
def b__law_heralds : M Fl := (sSeq (sAsg (una (proP "Web" 1 F_Web_size []) (cVar 0)) (gSet 1))
    (sRet (lcM false [2] (rng1 (cVar 1)) (.one 2) (asB (bin (eqP false) (lcM false [3] (rng1 (cVar 1)) (.one 3) (asB (bin (inP true) (cVar 2) (methM "Web" "hears" 2 F_Web_hears [] (cVar 0) (aCons (cVar 3) aNil)))) (cVar 3)) (flM aNil))) (cVar 2))))
abbrev F__law_heralds : List A → Store → R A := fnF N__law_heralds.length 1 false b__law_heralds
theorem w__law_heralds {a0 : A} {S : Store} {Q : A → Store → Prop} (k : WS b__law_heralds [some a0, none, none, none] S (fun _ S1 => WP (retA false S.length (.d .non) S1) Q) (fun a S1 => WP (retA false S.length a S1) Q)) : WP (F__law_heralds [a0] S) Q := wp_fn rfl rfl k
theorem sc__law_heralds : FnScope N__law_heralds ["_law_web"] d__law_heralds.scope := ⟨rfl, rfl, rfl, by decide +kernel, rfl, by decide +kernel, by decide +kernel⟩
/-! _law_behind -/
def d__law_behind : DefP := ⟨gA "_law_behind", "_law_behind", "_law_behind", defArgs (tops 44), defBody (tops 44), defScope (tops 44), [], []⟩
def N__law_behind : List Str := ["_law_pool", "_law_word", "_law_found", "_law_index"]
def b__law_behind : M Fl := (sSeq (sAsg (callM 1 F_silent_web [] (aCons (una (proP "Pool" 1 F_Pool_size []) (cVar 0)) aNil)) (gSet 2))
    (sSeq (sFor (seqI (cVar 1)) (gSet 3)
    (sAsg (methM "Web" "then" 2 F_Web_then [] (cVar 2) (aCons (bin (ixOwP "Pool" F_Pool___getitem__) (cVar 0) (cVar 3)) aNil)) (gSet 2)))
    (sRet (cVar 2))))
abbrev F__law_behind : List A → Store → R A := fnF N__law_behind.length 2 false b__law_behind
theorem w__law_behind {a0 a1 : A} {S : Store} {Q : A → Store → Prop} (k : WS b__law_behind [some a0, some a1, none, none] S (fun _ S1 => WP (retA false S.length (.d .non) S1) Q) (fun a S1 => WP (retA false S.length a S1) Q)) : WP (F__law_behind [a0, a1] S) Q := wp_fn rfl rfl k
theorem sc__law_behind : FnScope N__law_behind ["_law_pool", "_law_word"] d__law_behind.scope := ⟨rfl, rfl, rfl, by decide +kernel, rfl, by decide +kernel, by decide +kernel⟩
/-! _law_right -/
def d__law_right : DefP := ⟨gA "_law_right", "_law_right", "_law_right", defArgs (tops 45), defBody (tops 45), defScope (tops 45), [], []⟩
def N__law_right : List Str := ["_law_cask_here", "_law_size", "_law_pool", "_law_turn", "_law_house", "_law_indices", "_law_numbers", "_law_turned", "_law_due", "_law_word", "_law_keeps", "_law_row", "_law_again", "_law_at", "_law_web"]
def b__law_right : M Fl := (sSeq (sAsg (bin addP (cK (.int 1)) (callM 2 F__law_scoop [] (aCons (cVar 0) (aCons (cK (.int 4)) aNil)))) (gSet 1))
    (sSeq (sAsg (callM 1 F__law_pool_of [] (aCons (callM 3 F__law_pool_rows [] (aCons (cVar 0) (aCons (cVar 1) (aCons (cK (.int 5)) aNil)))) aNil)) (gSet 2))
    (sSeq (sFor (rng1 (cK (.int 6))) (gSet 3)
    (sSeq (sAsg (lcM false [12] (rng1 (bin subP (cVar 1) (cK (.int 1)))) (.one 12) tYesM (callM 2 F__law_scoop [] (aCons (cVar 0) (aCons (bcall (lenOwP "Pool" F_Pool___len__) (aCons (cVar 2) aNil)) aNil)))) (gSet 9))
    (sIf (asB (bin (eqP true) (lcM false [4] (seqI (una (proP "Pool" 1 F_Pool_always []) (cVar 2))) (.one 4) (asB (bin (inP true) (cVar 4) (callM 1 F__law_heralds [] (aCons (callM 2 F__law_behind [] (aCons (cVar 2) (aCons (cVar 9) aNil))) aNil)))) (cVar 4)) (flM aNil)))
    (sRet (cK (.bl false)))
    sNil)))
    (sSeq (sFor (rng1 (cVar 1)) (gSet 4)
    (sIf (asB (bin (inP true) (cVar 4) (una (proP "Pool" 1 F_Pool_always []) (cVar 2))))
    (sSeq (sAsg (lcM false [13] (rng1 (bcall (lenOwP "Pool" F_Pool___len__) (aCons (cVar 2) aNil))) (.one 13) (asB (bin (inP true) (cVar 4) (bin ixP (una (proP "Pool" 1 F_Pool_roots []) (cVar 2)) (cVar 13)))) (cVar 13)) (gSet 10))
    (sIf (orT (asB (bin (eqP false) (cVar 10) (flM aNil))) (asB (bin (inP false) (cVar 4) (callM 1 F__law_heralds [] (aCons (callM 2 F__law_behind [] (aCons (cVar 2) (aCons (bin repP (slM (cVar 10) oNone (oSome (cK (.int 1)))) (cK (.int 9))) aNil))) aNil)))))
    (sRet (cK (.bl false)))
    sNil))
    sNil))
    (sSeq (sAsg (bcall tupleP (aCons (callM 3 F__law_few_of [] (aCons (cVar 0) (aCons (una (rgTP false) (bcall (lenOwP "Pool" F_Pool___len__) (aCons (cVar 2) aNil))) (aCons (bcall (lenOwP "Pool" F_Pool___len__) (aCons (cVar 2) aNil)) aNil)))) aNil)) (gSet 5))
    (sSeq (sAsg (bcall tupleQ (aCons (callM 3 F__law_few_of [] (aCons (cVar 0) (aCons (una (rgTP false) (cVar 1)) (aCons (cVar 1) aNil)))) aNil)) (gSet 6))
    (sSeq (sAsg (bcall tupleP (aCons (lcM false [13] (seqI (cVar 5)) (.one 13) tYesM (bin ixP (una (proP "Pool" 1 F_Pool_roots []) (cVar 2)) (cVar 13))) aNil)) (gSet 7))
    (sSeq (sIf (orT (asB (bin (eqP true) (una (proP "Pool" 1 F_Pool_roots []) (cVar 2)) (bcall tupleP (aCons (lcM false [14] (ownI "Pool" "_webs" (cVar 2)) (.one 14) tYesM (una (proP "Web" 1 F_Web_roots []) (cVar 14))) aNil)))) (asB (bin (eqP true) (una (proP "Pool" 1 F_Pool_roots []) (methM "Pool" "reordered" 2 F_Pool_reordered [] (cVar 2) (aCons (cVar 5) aNil))) (cVar 7))))
    (sRet (cK (.bl false)))
    sNil)
    (sSeq (sAsg (lcM false [11] (seqI (una (proP "Pool" 1 F_Pool_roots []) (cVar 2))) (.one 11) tYesM (bcall tupleP (aCons (bcall (sortP false) (aCons (lcM false [4] (seqI (cVar 11)) (.one 4) tYesM (bin ixP (wk (cVar 6)) (cVar 4))) aNil)) aNil))) (gSet 8))
    (sRet (bin (eqP false) (una (proP "Pool" 1 F_Pool_roots []) (methM "Pool" "renumbered" 2 F_Pool_renumbered [] (cVar 2) (aCons (cVar 6) aNil))) (bcall tupleP (aCons (cVar 8) aNil)))))))))))))
abbrev F__law_right : List A → Store → R A := fnF N__law_right.length 1 false b__law_right
theorem w__law_right {a0 : A} {S : Store} {Q : A → Store → Prop} (k : WS b__law_right [some a0, none, none, none, none, none, none, none, none, none, none, none, none, none, none] S (fun _ S1 => WP (retA false S.length (.d .non) S1) Q) (fun a S1 => WP (retA false S.length a S1) Q)) : WP (F__law_right [a0] S) Q := wp_fn rfl rfl k
theorem sc__law_right : FnScope N__law_right ["_law_cask_here"] d__law_right.scope := ⟨rfl, rfl, rfl, by decide +kernel, rfl, by decide +kernel, by decide +kernel⟩
/-! law -/
def d_law : DefP := ⟨gA "law", "law", "law", defArgs (tops 46), defBody (tops 46), defScope (tops 46), [], []⟩
def N_law : List Str := ["_law_script", "_law_at", "_law_cask_here", "_law_turn"]
def b_law : M Fl := (sSeq (sFor (rng1 (bcall (two max2) (aCons (cK (.int 1)) (aCons (bcall (two min2) (aCons (cK (.int 4)) (aCons (bcall lenP (aCons (cVar 0) aNil)) aNil))) aNil)))) (gSet 1)
    (sSeq (sAsg (callM 2 F__law_cask [] (aCons (cVar 0) (aCons (cVar 1) aNil))) (gSet 2))
    (sFor (rng1 (cK (.int 6))) (gSet 3)
    (sIf (notT (asB (callM 1 F__law_right [] (aCons (cVar 2) aNil))))
    (sRet (cK (.bl false)))
    sNil))))
    (sRet (cK (.bl true))))
abbrev F_law : List A → Store → R A := fnF N_law.length 1 false b_law
theorem w_law {a0 : A} {S : Store} {Q : A → Store → Prop} (k : WS b_law [some a0, none, none, none] S (fun _ S1 => WP (retA false S.length (.d .non) S1) Q) (fun a S1 => WP (retA false S.length a S1) Q)) : WP (F_law [a0] S) Q := wp_fn rfl rfl k
theorem sc_law : FnScope N_law ["_law_script"] d_law.scope := ⟨rfl, rfl, rfl, by decide +kernel, rfl, by decide +kernel, by decide +kernel⟩
structure Fx (K : Fr) (mg : Str → Option Value) : Prop where
  d_is_plain_integer : ∃ fd, FnAt K d_is_plain_integer fd
  d_is_between : ∃ fd, FnAt K d_is_between fd
  d_is_index : ∃ fd, FnAt K d_is_index fd
  d_is_index_tuple : ∃ fd, FnAt K d_is_index_tuple fd
  d_is_ascending : ∃ fd, FnAt K d_is_ascending fd
  d_is_order : ∃ fd, FnAt K d_is_order fd
  d_check_between : ∃ fd, FnAt K d_check_between fd
  d_check_index : ∃ fd, FnAt K d_check_index fd
  d_is_heard : ∃ fd, FnAt K d_is_heard fd
  d_Web_size : ∃ fd, FnAt K d_Web_size fd
  d_is_web_of : ∃ fd, FnAt K d_is_web_of fd
  d_check_web : ∃ fd, FnAt K d_check_web fd
  d_reached_from : ∃ fd, FnAt K d_reached_from fd
  d_mutual_parts : ∃ fd, FnAt K d_mutual_parts fd
  d_Web___init__ : ∃ fd, FnAt K d_Web___init__ fd
  d_web_where : ∃ fd, FnAt K d_web_where fd
  d_silent_web : ∃ fd, FnAt K d_silent_web fd
  d_Web_heard : ∃ fd, FnAt K d_Web_heard fd
  d_Web_roots : ∃ fd, FnAt K d_Web_roots fd
  d_Web_hears : ∃ fd, FnAt K d_Web_hears fd
  d_Web_then : ∃ fd, FnAt K d_Web_then fd
  d_Web_renumbered : ∃ fd, FnAt K d_Web_renumbered fd
  d_are_pool_webs : ∃ fd, FnAt K d_are_pool_webs fd
  d_houses_in_all : ∃ fd, FnAt K d_houses_in_all fd
  d_Pool___init__ : ∃ fd, FnAt K d_Pool___init__ fd
  d_Pool_size : ∃ fd, FnAt K d_Pool_size fd
  d_Pool_roots : ∃ fd, FnAt K d_Pool_roots fd
  d_Pool_always : ∃ fd, FnAt K d_Pool_always fd
  d_Pool__chosen : ∃ fd, FnAt K d_Pool__chosen fd
  d_Pool_reordered : ∃ fd, FnAt K d_Pool_reordered fd
  d_Pool_renumbered : ∃ fd, FnAt K d_Pool_renumbered fd
  d_Pool___len__ : ∃ fd, FnAt K d_Pool___len__ fd
  d_Pool___getitem__ : ∃ fd, FnAt K d_Pool___getitem__ fd
  d_Pool___iter__ : ∃ fd, FnAt K d_Pool___iter__ fd
  d__law_cask : ∃ fd, FnAt K d__law_cask fd
  d__law_scoop : ∃ fd, FnAt K d__law_scoop fd
  d__law_any_of : ∃ fd, FnAt K d__law_any_of fd
  d__law_few_of : ∃ fd, FnAt K d__law_few_of fd
  d__law_rows : ∃ fd, FnAt K d__law_rows fd
  d__law_pool_rows : ∃ fd, FnAt K d__law_pool_rows fd
  d__law_pool_of : ∃ fd, FnAt K d__law_pool_of fd
  d__law_heralds : ∃ fd, FnAt K d__law_heralds fd
  d__law_behind : ∃ fd, FnAt K d__law_behind fd
  d__law_right : ∃ fd, FnAt K d__law_right fd
  d_law : ∃ fd, FnAt K d_law fd
  code_silent_web : fCode RSL.d_silent_web.ad K = true
  code_Web_renumbered : fCode RSL.d_Web_renumbered.ad K = true
  tabs_nd : ((RSL.LM.tb K).map Prod.fst).Nodup
  c_Pool : Cls K (gA "Pool" K)
  c_Web : Cls K (gA "Web" K)
  fi_Pool___getitem__ : PySem.W.fnIn K (mA "Pool" "__getitem__" K) = true
  f_abs : mg "abs" = none
  f_all : mg "all" = none
  f_bool : mg "bool" = none
  f_enumerate : mg "enumerate" = none
  f_int : mg "int" = none
  f_isinstance : mg "isinstance" = none
  f_iter : mg "iter" = none
  f_len : mg "len" = none
  f_list : mg "list" = none
  f_max : mg "max" = none
  f_min : mg "min" = none
  f_range : mg "range" = none
  f_set : mg "set" = none
  f_sorted : mg "sorted" = none
  f_tuple : mg "tuple" = none
  f_zip : mg "zip" = none
  g_Pool : mg "Pool" = some (.ref (gA "Pool" K))
  g_Web : mg "Web" = some (.ref (gA "Web" K))
  g__law_any_of : mg "_law_any_of" = some (.ref (gA "_law_any_of" K))
  g__law_behind : mg "_law_behind" = some (.ref (gA "_law_behind" K))
  g__law_cask : mg "_law_cask" = some (.ref (gA "_law_cask" K))
  g__law_few_of : mg "_law_few_of" = some (.ref (gA "_law_few_of" K))
  g__law_heralds : mg "_law_heralds" = some (.ref (gA "_law_heralds" K))
  g__law_pool_of : mg "_law_pool_of" = some (.ref (gA "_law_pool_of" K))
  g__law_pool_rows : mg "_law_pool_rows" = some (.ref (gA "_law_pool_rows" K))
  g__law_right : mg "_law_right" = some (.ref (gA "_law_right" K))
  g__law_rows : mg "_law_rows" = some (.ref (gA "_law_rows" K))
  g__law_scoop : mg "_law_scoop" = some (.ref (gA "_law_scoop" K))
  g_are_pool_webs : mg "are_pool_webs" = some (.ref (gA "are_pool_webs" K))
  g_check_between : mg "check_between" = some (.ref (gA "check_between" K))
  g_check_index : mg "check_index" = some (.ref (gA "check_index" K))
  g_check_web : mg "check_web" = some (.ref (gA "check_web" K))
  g_houses_in_all : mg "houses_in_all" = some (.ref (gA "houses_in_all" K))
  g_is_ascending : mg "is_ascending" = some (.ref (gA "is_ascending" K))
  g_is_between : mg "is_between" = some (.ref (gA "is_between" K))
  g_is_heard : mg "is_heard" = some (.ref (gA "is_heard" K))
  g_is_index : mg "is_index" = some (.ref (gA "is_index" K))
  g_is_index_tuple : mg "is_index_tuple" = some (.ref (gA "is_index_tuple" K))
  g_is_order : mg "is_order" = some (.ref (gA "is_order" K))
  g_is_plain_integer : mg "is_plain_integer" = some (.ref (gA "is_plain_integer" K))
  g_is_web_of : mg "is_web_of" = some (.ref (gA "is_web_of" K))
  g_mutual_parts : mg "mutual_parts" = some (.ref (gA "mutual_parts" K))
  g_reached_from : mg "reached_from" = some (.ref (gA "reached_from" K))
  g_silent_web : mg "silent_web" = some (.ref (gA "silent_web" K))
  g_web_where : mg "web_where" = some (.ref (gA "web_where" K))
  i_MAX_WEBS : ∃ t, mg "MAX_WEBS" = some (.int (8) t)
  i_MOST_HOUSES : ∃ t, mg "MOST_HOUSES" = some (.int (5) t)
  i_TOO_LONG : ∃ t, mg "TOO_LONG" = some (.int (1000000000000000000000000000000000000000000000000000000000000) t)
  m_Pool__chosen : Meth K (gA "Pool" K) "_chosen" (mA "Pool" "_chosen" K)
  m_Pool_renumbered : Meth K (gA "Pool" K) "renumbered" (mA "Pool" "renumbered" K)
  m_Pool_reordered : Meth K (gA "Pool" K) "reordered" (mA "Pool" "reordered" K)
  m_Web_hears : Meth K (gA "Web" K) "hears" (mA "Web" "hears" K)
  m_Web_renumbered : Meth K (gA "Web" K) "renumbered" (mA "Web" "renumbered" K)
  m_Web_then : Meth K (gA "Web" K) "then" (mA "Web" "then" K)
  mk_Pool : Mk K (gA "Pool" K) (mA "Pool" "__init__" K)
  mk_Web : Mk K (gA "Web" K) (mA "Web" "__init__" K)
  a_Pool__always : NoAttr K (gA "Pool" K) "_always"
  a_Pool__roots : NoAttr K (gA "Pool" K) "_roots"
  a_Pool__size : NoAttr K (gA "Pool" K) "_size"
  a_Pool__webs : NoAttr K (gA "Pool" K) "_webs"
  a_Web__heard : NoAttr K (gA "Web" K) "_heard"
  a_Web__parts : NoAttr K (gA "Web" K) "_parts"
  a_Web__reached : NoAttr K (gA "Web" K) "_reached"
  a_Web__roots : NoAttr K (gA "Web" K) "_roots"
  a_Web__size : NoAttr K (gA "Web" K) "_size"
  p_Pool_always : PropOf K (gA "Pool" K) "always" (mA "Pool" "always" K) (pA "Pool" "always" K)
  p_Pool_roots : PropOf K (gA "Pool" K) "roots" (mA "Pool" "roots" K) (pA "Pool" "roots" K)
  p_Pool_size : PropOf K (gA "Pool" K) "size" (mA "Pool" "size" K) (pA "Pool" "size" K)
  p_Web_heard : PropOf K (gA "Web" K) "heard" (mA "Web" "heard" K) (pA "Web" "heard" K)
  p_Web_roots : PropOf K (gA "Web" K) "roots" (mA "Web" "roots" K) (pA "Web" "roots" K)
  p_Web_size : PropOf K (gA "Web" K) "size" (mA "Web" "size" K) (pA "Web" "size" K)
  sp_Pool___getitem__ : SpC K (gA "Pool" K) (mA "Pool" "__getitem__" K) "__getitem__"
  sp_Pool___iter__ : SpC K (gA "Pool" K) (mA "Pool" "__iter__" K) "__iter__"
  sp_Pool___len__ : SpC K (gA "Pool" K) (mA "Pool" "__len__" K) "__len__"
  ci_Web : ClsI K (gA "Web" K)
  k_Web_bool : PySem.W.kitOne K (.ref (gA "Web" K)) (.type "bool") = some false
  k_Web_int : PySem.W.kitOne K (.ref (gA "Web" K)) (.type "int") = some false
  k_Web_tuple : PySem.W.kitOne K (.ref (gA "Web" K)) (.type "tuple") = some false
  k_NoneType_Web : PySem.W.kitOne K (.type "NoneType") (.ref (gA "Web" K)) = some false
  k_bool_Web : PySem.W.kitOne K (.type "bool") (.ref (gA "Web" K)) = some false
  k_int_Web : PySem.W.kitOne K (.type "int") (.ref (gA "Web" K)) = some false
  k_str_Web : PySem.W.kitOne K (.type "str") (.ref (gA "Web" K)) = some false
  k_tuple_Web : PySem.W.kitOne K (.type "tuple") (.ref (gA "Web" K)) = some false
  k_list_Web : PySem.W.kitOne K (.type "list") (.ref (gA "Web" K)) = some false
  k_Web_Web : PySem.W.kitOne K (.ref (gA "Web" K)) (.ref (gA "Web" K)) = some true
section
set_option maxHeartbeats 0
def ds : List DefP := [d_is_plain_integer, d_is_between, d_is_index, d_is_index_tuple, d_is_ascending, d_is_order, d_check_between, d_check_index, d_is_heard, d_Web_size, d_is_web_of, d_check_web, d_reached_from, d_mutual_parts, d_Web___init__, d_web_where, d_silent_web, d_Web_heard, d_Web_roots, d_Web_hears, d_Web_then, d_Web_renumbered, d_are_pool_webs, d_houses_in_all, d_Pool___init__, d_Pool_size, d_Pool_roots, d_Pool_always, d_Pool__chosen, d_Pool_reordered, d_Pool_renumbered, d_Pool___len__, d_Pool___getitem__, d_Pool___iter__, d__law_cask, d__law_scoop, d__law_any_of, d__law_few_of, d__law_rows, d__law_pool_rows, d__law_pool_of, d__law_heralds, d__law_behind, d__law_right, d_law]
def fs : List (Fr → Bool) := [
  fCls "Pool",
  fCls "Web",
  fFnIn "Pool" "__getitem__",
  fFree "abs",
  fFree "all",
  fFree "bool",
  fFree "enumerate",
  fFree "int",
  fFree "isinstance",
  fFree "iter",
  fFree "len",
  fFree "list",
  fFree "max",
  fFree "min",
  fFree "range",
  fFree "set",
  fFree "sorted",
  fFree "tuple",
  fFree "zip",
  fGlo "Pool",
  fGlo "Web",
  fGlo "_law_any_of",
  fGlo "_law_behind",
  fGlo "_law_cask",
  fGlo "_law_few_of",
  fGlo "_law_heralds",
  fGlo "_law_pool_of",
  fGlo "_law_pool_rows",
  fGlo "_law_right",
  fGlo "_law_rows",
  fGlo "_law_scoop",
  fGlo "are_pool_webs",
  fGlo "check_between",
  fGlo "check_index",
  fGlo "check_web",
  fGlo "houses_in_all",
  fGlo "is_ascending",
  fGlo "is_between",
  fGlo "is_heard",
  fGlo "is_index",
  fGlo "is_index_tuple",
  fGlo "is_order",
  fGlo "is_plain_integer",
  fGlo "is_web_of",
  fGlo "law",
  fGlo "mutual_parts",
  fGlo "reached_from",
  fGlo "silent_web",
  fGlo "web_where",
  fInt "MAX_WEBS" (8),
  fInt "MOST_HOUSES" (5),
  fInt "TOO_LONG" (1000000000000000000000000000000000000000000000000000000000000),
  fMeth "Pool" "_chosen",
  fMeth "Pool" "renumbered",
  fMeth "Pool" "reordered",
  fMeth "Web" "hears",
  fMeth "Web" "renumbered",
  fMeth "Web" "then",
  fMkr "Pool",
  fMkr "Web",
  fNoat "Pool" "_always",
  fNoat "Pool" "_roots",
  fNoat "Pool" "_size",
  fNoat "Pool" "_webs",
  fNoat "Web" "_heard",
  fNoat "Web" "_parts",
  fNoat "Web" "_reached",
  fNoat "Web" "_roots",
  fNoat "Web" "_size",
  fProp "Pool" "always",
  fProp "Pool" "roots",
  fProp "Pool" "size",
  fProp "Web" "heard",
  fProp "Web" "roots",
  fProp "Web" "size",
  fSpC "Pool" "__getitem__",
  fSpC "Pool" "__iter__",
  fSpC "Pool" "__len__",
  fCode d_silent_web.ad,
  fHd d_silent_web.ad,
  fCode d_Web_renumbered.ad,
  fHd d_Web_renumbered.ad,
  fTabs [d_silent_web.ad, d_Web_renumbered.ad],
  fClsI "Web",
  fKitO "Web" "bool" false,
  fKitO "Web" "int" false,
  fKitO "Web" "tuple" false,
  fKitT "NoneType" "Web" false,
  fKitT "bool" "Web" false,
  fKitT "int" "Web" false,
  fKitT "str" "Web" false,
  fKitT "tuple" "Web" false,
  fKitT "list" "Web" false,
  fKitC "Web" "Web" true]
abbrev RR : PySem.W.OpenRow := PySem.W.OpenLaw.row PySem.Challenge.rw_rootshared_k07_whole_roots_of_pools
def tbs : List (Fr → Addr) := [d_silent_web.ad, d_Web_renumbered.ad]
abbrev hk : PySem.W.Hook := hookT 5 tbs fs ds
def ob (s : PySem.W.SharedT) : He.AlD := seesT 5 tbs fs ds (HandSHeadRun.getT s)
theorem ob_eq (s : PySem.W.SharedT) : ob s = hk.obs s.abs := seesT_eq (HandSHeadRun.getT_eq s)
def loose : List Str := (["_wall", "RootError", "InvalidWeb", "InvalidPool", "InvalidGroup", "InvalidOperation", "InvalidNumber", "TOO_LONG", "is_plain_integer", "is_between", "is_index", "is_index_tuple", "is_ascending", "is_order", "check_between", "check_index", "MOST_HOUSES", "Web", "is_heard", "is_web_of", "check_web", "reached_from", "mutual_parts", "hearing_text", "web_where", "silent_web", "MAX_WEBS", "Pool", "are_pool_webs", "check_group"] : List Str) ++ (["houses_in_all", "_law_cask", "_law_scoop", "_law_pool_of", "_law_any_of", "_law_few_of", "_law_rows", "_law_pool_rows", "_law_heralds", "_law_behind", "_law_right"] : List Str)
theorem run (w : World) : HandSHeadRun.RunEq RR (PySem.W.view RR.prog [46]) hk ob 6000 loose w := by
  intro os
  kernel_rfl
end
section
variable {P : Program} {w : World} {K : Fr} {mg : Str → Option Value} {base : Heap}
abbrev osL : List Str := ["Web"]
theorem os_ok (T : Fx K mg) : ∀ c ∈ osL, ClsI (cc LM K).K ((cc LM K).ca c) := by
  intro c hc
  rcases List.mem_cons.mp hc with rfl | hc
  · exact T.ci_Web
  cases hc
def OL (P : Program) (w : World) (K : Fr) (mg : Str → Option Value) (base : Heap) : Prop := ∀ n, n < 2 → ∀ (f c : Addr) (cl : List (Str × Addr)), ∃ ps : List Str, ps.length = 2 ∧ LOk P w K mg base (L2.CX P w) 1 f ((LM.fc n).nf cl c) (LM.fc n).b ps (LM.fc n).fr (spFc (cc LM K) 2 (LF n))
theorem lcl_ok {z : List (Addr × List V)} : ∀ n, n < 2 → ∀ cl c, ((((cc LM K).wz z).fc n).nf cl c).cl = cl := fun n h cl c => match n, h with
  | 0, _ => rfl
  | 1, _ => rfl
theorem lm_0 {z : List (Addr × List V)} : (tabA (gA "silent_web") K, (fun _ _ => lam0_q : Nat → Nat → Str)) ∈ ((cc LM K).wz z).tb := List.mem_cons_self
theorem lu_0 (T : Fx K mg) {z : List (Addr × List V)} : ∀ p ∈ ((cc LM K).wz z).tb, p.1 = tabA (gA "silent_web") K → p.2 = (fun _ _ => lam0_q : Nat → Nat → Str) := lu_of T.tabs_nd (lm_0 (z := z))
theorem lm_1 {z : List (Addr × List V)} : (tabA (mA "Web" "renumbered") K, (fun _ _ => lam1_q : Nat → Nat → Str)) ∈ ((cc LM K).wz z).tb := (List.mem_cons_of_mem _ List.mem_cons_self)
theorem lu_1 (T : Fx K mg) {z : List (Addr × List V)} : ∀ p ∈ ((cc LM K).wz z).tb, p.1 = tabA (mA "Web" "renumbered") K → p.2 = (fun _ _ => lam1_q : Nat → Nat → Str) := lu_of T.tabs_nd (lm_1 (z := z))
theorem ok_lam0 (T : Fx K mg) (f c : Addr) (cl : List (Str × Addr)) : LOk P w K mg base (L2.CX P w) 1 f ((LM.fc 0).nf cl c) (LM.fc 0).b ["house", "other"] (LM.fc 0).fr (spFc (cc LM K) 2 (LF 0)) :=
  lam_okC (C := cc LM K) (N := N_lam0) (body := bl_lam0) (k := 0) nsc_lam0 (fun pm ctv us hl => match us, hl with | [_, _], _ => rfl) fun A outer s H E z hr =>
    by exact se_bl
theorem ok_lam1 (T : Fx K mg) (f c : Addr) (cl : List (Str × Addr)) : LOk P w K mg base (L2.CX P w) 1 f ((LM.fc 1).nf cl c) (LM.fc 1).b ["house", "source"] (LM.fc 1).fr (spFc (cc LM K) 2 (LF 1)) :=
  lam_okC (C := cc LM K) (N := N_lam1) (body := bl_lam1) (k := 0) nsc_lam1 (fun pm ctv us hl => match us, hl with | [_, _], _ => rfl) fun A outer s H E z hr =>
    by exact se_in (by exact rfl) (by exact hu65 (by exact hr)) (by exact se_tqIx (by exact rfl) (by exact se_var 2 (by exact rfl) (by exact .inr (by exact .inr (by exact rfl)))) (by exact se_var 1 (by exact rfl) (by exact .inl (by exact rfl)))) (by exact se_ix (by exact rfl) (by exact se_var 3 (by exact rfl) (by exact .inr (by exact .inr (by exact rfl)))) (by exact se_tqIx (by exact rfl) (by exact se_var 2 (by exact rfl) (by exact .inr (by exact .inr (by exact rfl)))) (by exact se_var 0 (by exact rfl) (by exact .inl (by exact rfl)))) (by exact fun _ _ => rfl))
theorem ol_ok (T : Fx K mg) : OL P w K mg base := fun n h f c cl => match n, h with
  | 0, _ => ⟨_, rfl, ok_lam0 T f c cl⟩
  | 1, _ => ⟨_, rfl, ok_lam1 T f c cl⟩
theorem tb_bool_ok (T : Fx K mg) : ∀ q ∈ tb_bool, PySem.W.kitOne (cc LM K).K (q.1.v (cc LM K)) (.type "bool") = some q.2 ∧ ∀ c, q.1 = .own c → c ∈ osL := by
  intro q hq
  rcases List.mem_cons.mp hq with rfl | hq
  · exact ⟨kit_ty (by decide +kernel), fun _ h => by cases h⟩
  rcases List.mem_cons.mp hq with rfl | hq
  · exact ⟨kit_ty (by decide +kernel), fun _ h => by cases h⟩
  rcases List.mem_cons.mp hq with rfl | hq
  · exact ⟨kit_ty (by decide +kernel), fun _ h => by cases h⟩
  rcases List.mem_cons.mp hq with rfl | hq
  · exact ⟨kit_ty (by decide +kernel), fun _ h => by cases h⟩
  rcases List.mem_cons.mp hq with rfl | hq
  · exact ⟨kit_ty (by decide +kernel), fun _ h => by cases h⟩
  rcases List.mem_cons.mp hq with rfl | hq
  · exact ⟨kit_ty (by decide +kernel), fun _ h => by cases h⟩
  rcases List.mem_cons.mp hq with rfl | hq
  · exact ⟨T.k_Web_bool, fun _ h => by cases h; decide⟩
  cases hq
theorem tb_int_ok (T : Fx K mg) : ∀ q ∈ tb_int, PySem.W.kitOne (cc LM K).K (q.1.v (cc LM K)) (.type "int") = some q.2 ∧ ∀ c, q.1 = .own c → c ∈ osL := by
  intro q hq
  rcases List.mem_cons.mp hq with rfl | hq
  · exact ⟨kit_ty (by decide +kernel), fun _ h => by cases h⟩
  rcases List.mem_cons.mp hq with rfl | hq
  · exact ⟨kit_ty (by decide +kernel), fun _ h => by cases h⟩
  rcases List.mem_cons.mp hq with rfl | hq
  · exact ⟨kit_ty (by decide +kernel), fun _ h => by cases h⟩
  rcases List.mem_cons.mp hq with rfl | hq
  · exact ⟨kit_ty (by decide +kernel), fun _ h => by cases h⟩
  rcases List.mem_cons.mp hq with rfl | hq
  · exact ⟨kit_ty (by decide +kernel), fun _ h => by cases h⟩
  rcases List.mem_cons.mp hq with rfl | hq
  · exact ⟨kit_ty (by decide +kernel), fun _ h => by cases h⟩
  rcases List.mem_cons.mp hq with rfl | hq
  · exact ⟨T.k_Web_int, fun _ h => by cases h; decide⟩
  cases hq
theorem tb_tuple_ok (T : Fx K mg) : ∀ q ∈ tb_tuple, PySem.W.kitOne (cc LM K).K (q.1.v (cc LM K)) (.type "tuple") = some q.2 ∧ ∀ c, q.1 = .own c → c ∈ osL := by
  intro q hq
  rcases List.mem_cons.mp hq with rfl | hq
  · exact ⟨kit_ty (by decide +kernel), fun _ h => by cases h⟩
  rcases List.mem_cons.mp hq with rfl | hq
  · exact ⟨kit_ty (by decide +kernel), fun _ h => by cases h⟩
  rcases List.mem_cons.mp hq with rfl | hq
  · exact ⟨kit_ty (by decide +kernel), fun _ h => by cases h⟩
  rcases List.mem_cons.mp hq with rfl | hq
  · exact ⟨kit_ty (by decide +kernel), fun _ h => by cases h⟩
  rcases List.mem_cons.mp hq with rfl | hq
  · exact ⟨kit_ty (by decide +kernel), fun _ h => by cases h⟩
  rcases List.mem_cons.mp hq with rfl | hq
  · exact ⟨kit_ty (by decide +kernel), fun _ h => by cases h⟩
  rcases List.mem_cons.mp hq with rfl | hq
  · exact ⟨T.k_Web_tuple, fun _ h => by cases h; decide⟩
  cases hq
theorem tb_Web_ok (T : Fx K mg) : ∀ q ∈ tb_Web, PySem.W.kitOne (cc LM K).K (q.1.v (cc LM K)) (.ref (gA "Web" K)) = some q.2 ∧ ∀ c, q.1 = .own c → c ∈ osL := by
  intro q hq
  rcases List.mem_cons.mp hq with rfl | hq
  · exact ⟨T.k_NoneType_Web, fun _ h => by cases h⟩
  rcases List.mem_cons.mp hq with rfl | hq
  · exact ⟨T.k_bool_Web, fun _ h => by cases h⟩
  rcases List.mem_cons.mp hq with rfl | hq
  · exact ⟨T.k_int_Web, fun _ h => by cases h⟩
  rcases List.mem_cons.mp hq with rfl | hq
  · exact ⟨T.k_str_Web, fun _ h => by cases h⟩
  rcases List.mem_cons.mp hq with rfl | hq
  · exact ⟨T.k_tuple_Web, fun _ h => by cases h⟩
  rcases List.mem_cons.mp hq with rfl | hq
  · exact ⟨T.k_list_Web, fun _ h => by cases h⟩
  rcases List.mem_cons.mp hq with rfl | hq
  · exact ⟨T.k_Web_Web, fun _ h => by cases h; decide⟩
  cases hq
theorem ok_is_plain_integer (T : Fx K mg)  : Ok LM P w K mg base d_is_plain_integer 1 ["value"] F_is_plain_integer :=
  Ok.make false T.d_is_plain_integer sc_is_plain_integer rfl (fun _ _ _ _ _ _ us hl => match us, hl with | [_], _ => rfl) fun cdv A outer s H E z hr =>
    by exact sss_cons (by exact ss_if (by exact PW.pt (by exact sw_or (by exact st_val (by exact se_isi (tb := tb_bool) (os := osL) (cv := .ty "bool") (cu := .type "bool") (by exact rfl) (by exact os_ok (by exact T)) (by exact tb_bool_ok (by exact T)) (by exact rfl) (by exact T.f_isinstance) (by exact se_var 0 (by exact rfl) (by exact .inl (by exact rfl))) (by exact pe_bltn (by exact rfl) (by exact T.f_bool) (by exact rfl) (by exact rfl)) (by exact ClsV.ty _)) (by exact fun _ => rfl)) (by exact sw_or1 (by exact st_not (by exact st_val (by exact se_isi (tb := tb_int) (os := osL) (cv := .ty "int") (cu := .type "int") (by exact rfl) (by exact os_ok (by exact T)) (by exact tb_int_ok (by exact T)) (by exact rfl) (by exact T.f_isinstance) (by exact se_var 0 (by exact rfl) (by exact .inl (by exact rfl))) (by exact pe_bltn (by exact rfl) (by exact T.f_int) (by exact rfl) (by exact rfl)) (by exact ClsV.ty _)) (by exact fun _ => rfl)))))) (by exact sss_one (by exact ss_ret (by exact se_bl))) (by exact sss_nil)) (by exact sss_one (by exact ss_ret (by exact se_chn (by exact op_lt) (by exact op_lt) (by exact b_ord (by exact ltB)) (by exact b_ord (by exact ltB)) (by exact se_neg (by exact se_gint (by exact rfl) (by exact T.i_TOO_LONG))) (by exact se_var 0 (by exact rfl) (by exact .inl (by exact rfl))) (by exact se_gint (by exact rfl) (by exact T.i_TOO_LONG)))))
theorem ok_is_between (T : Fx K mg) (o_is_plain_integer : Ok LM P w K mg base d_is_plain_integer 1 ["value"] F_is_plain_integer) : Ok LM P w K mg base d_is_between 2 ["value", "least", "most"] F_is_between :=
  Ok.make false T.d_is_between sc_is_between rfl (fun _ _ _ _ _ _ us hl => match us, hl with | [_, _, _], _ => rfl) fun cdv A outer s H E z hr =>
    by exact sss_one (by exact ss_ret (by exact se_and (by exact so_call (L := LM) (by exact rfl) (by exact o_is_plain_integer) (by exact rfl) (by exact hr.mono (by decide)) (by exact rfl) (by exact T.g_is_plain_integer) (by exact pass_cx) (by exact sa_cons (by exact se_var 0 (by exact rfl) (by exact .inl (by exact rfl))) (by exact sa_nil))) (by exact se_one (by exact se_chn (by exact op_le) (by exact op_le) (by exact b_ord (by exact leB)) (by exact b_ord (by exact leB)) (by exact se_var 1 (by exact rfl) (by exact .inl (by exact rfl))) (by exact se_var 0 (by exact rfl) (by exact .inl (by exact rfl))) (by exact se_var 2 (by exact rfl) (by exact .inl (by exact rfl)))))))
theorem ok_is_index (T : Fx K mg) (o_is_between : Ok LM P w K mg base d_is_between 2 ["value", "least", "most"] F_is_between) : Ok LM P w K mg base d_is_index 3 ["value", "many"] F_is_index :=
  Ok.make false T.d_is_index sc_is_index rfl (fun _ _ _ _ _ _ us hl => match us, hl with | [_, _], _ => rfl) fun cdv A outer s H E z hr =>
    by exact sss_one (by exact ss_ret (by exact so_call (L := LM) (by exact rfl) (by exact o_is_between) (by exact rfl) (by exact hr.mono (by decide)) (by exact rfl) (by exact T.g_is_between) (by exact pass_cx) (by exact sa_cons (by exact se_var 0 (by exact rfl) (by exact .inl (by exact rfl))) (by exact sa_cons (by exact se_int) (by exact sa_cons (by exact se_sub (by exact se_var 1 (by exact rfl) (by exact .inl (by exact rfl))) (by exact se_int)) (by exact sa_nil))))))
theorem ok_is_index_tuple (T : Fx K mg) (o_is_index : Ok LM P w K mg base d_is_index 3 ["value", "many"] F_is_index) : Ok LM P w K mg base d_is_index_tuple 4 ["value", "many"] F_is_index_tuple :=
  Ok.make false T.d_is_index_tuple sc_is_index_tuple rfl (fun _ _ _ _ _ _ us hl => match us, hl with | [_, _], _ => rfl) fun cdv A outer s H E z hr =>
    by exact sss_one (by exact ss_ret (by exact se_and (by exact se_isi (tb := tb_tuple) (os := osL) (cv := .ty "tuple") (cu := .type "tuple") (by exact rfl) (by exact os_ok (by exact T)) (by exact tb_tuple_ok (by exact T)) (by exact rfl) (by exact T.f_isinstance) (by exact se_var 0 (by exact rfl) (by exact .inl (by exact rfl))) (by exact pe_bltn (by exact rfl) (by exact T.f_tuple) (by exact rfl) (by exact rfl)) (by exact ClsV.ty _)) (by exact se_one (by exact se_blt (by exact c_all) (by exact cr_all (by exact rfl)) (by exact rfl) (by exact T.f_all) (by exact rfl) (by exact sa_cons (by exact se_lc false (by exact rfl) (by exact rfl) (by exact sc_is_index_tuple.nd) (by exact si_seq (by exact rfl) (by exact se_var 0 (by exact rfl) (by exact .inl (by exact rfl)))) (own := [("index", 2)]) (by exact blkB_ok (by exact rfl)) (by decide) (by exact fun _ _ _ _ _ => pg_name (by exact sc_is_index_tuple.nd) (by exact rfl) (by exact .inl (by exact rfl)) (by first | exact .inl rfl | exact .inr rfl)) (by exact fun _ _ _ _ _ _ => spt_nil) (by exact fun _ _ _ _ _ _ => so_call (L := LM) (by exact rfl) (by exact o_is_index) (by exact rfl) (by exact hr.mono (by decide)) (by exact rfl) (by exact T.g_is_index) (by exact pass_e0) (by exact sa_cons (by exact se_var 2 (by exact rfl) (by exact .inl (by exact rfl))) (by exact sa_cons (by exact se_var 1 (by exact rfl) (by exact .inr (by exact .inl (by exact rfl)))) (by exact sa_nil))))) (by exact sa_nil))))))
theorem ok_is_ascending (T : Fx K mg) (o_is_index_tuple : Ok LM P w K mg base d_is_index_tuple 4 ["value", "many"] F_is_index_tuple) : Ok LM P w K mg base d_is_ascending 5 ["value", "many"] F_is_ascending :=
  Ok.make false T.d_is_ascending sc_is_ascending rfl (fun _ _ _ _ _ _ us hl => match us, hl with | [_, _], _ => rfl) fun cdv A outer s H E z hr =>
    by exact sss_one (by exact ss_ret (by exact se_and (by exact so_call (L := LM) (by exact rfl) (by exact o_is_index_tuple) (by exact rfl) (by exact hr.mono (by decide)) (by exact rfl) (by exact T.g_is_index_tuple) (by exact pass_cx) (by exact sa_cons (by exact se_var 0 (by exact rfl) (by exact .inl (by exact rfl))) (by exact sa_cons (by exact se_var 1 (by exact rfl) (by exact .inl (by exact rfl))) (by exact sa_nil)))) (by exact se_one (by exact se_blt (by exact c_all) (by exact cr_all (by exact rfl)) (by exact rfl) (by exact T.f_all) (by exact rfl) (by exact sa_cons (by exact se_lc false (by exact rfl) (by exact rfl) (by exact sc_is_ascending.nd) (by exact si_zip (by exact rfl) (by exact rfl) (by exact T.f_zip) (by exact se_var 0 (by exact rfl) (by exact .inl (by exact rfl))) (by exact se_slice (by exact rfl) (by exact se_var 0 (by exact rfl) (by exact .inl (by exact rfl))) (by exact so_some (by exact se_int)) (by exact so_none))) (own := [("low", 2), ("high", 3)]) (by exact blkB_ok (by exact rfl)) (by decide) (by exact fun _ _ _ _ _ => pg_tup (by exact rfl) (by exact pgs_cons (by exact pg_name (by exact sc_is_ascending.nd) (by exact rfl) (by exact .inl (by exact rfl)) (by first | exact .inl rfl | exact .inr rfl)) (by exact pgs_cons (by exact pg_name (by exact sc_is_ascending.nd) (by exact rfl) (by exact .inl (by exact rfl)) (by first | exact .inl rfl | exact .inr rfl)) (by exact pgs_nil)))) (by exact fun _ _ _ _ _ _ => spt_nil) (by exact fun _ _ _ _ _ _ => se_lt (by exact se_var 2 (by exact rfl) (by exact .inl (by exact rfl))) (by exact se_var 3 (by exact rfl) (by exact .inl (by exact rfl))))) (by exact sa_nil))))))
theorem ok_is_order (T : Fx K mg) (o_is_index_tuple : Ok LM P w K mg base d_is_index_tuple 4 ["value", "many"] F_is_index_tuple) : Ok LM P w K mg base d_is_order 5 ["value", "many"] F_is_order :=
  Ok.make false T.d_is_order sc_is_order rfl (fun _ _ _ _ _ _ us hl => match us, hl with | [_, _], _ => rfl) fun cdv A outer s H E z hr =>
    by exact sss_one (by exact ss_ret (by exact se_and (by exact so_call (L := LM) (by exact rfl) (by exact o_is_index_tuple) (by exact rfl) (by exact hr.mono (by decide)) (by exact rfl) (by exact T.g_is_index_tuple) (by exact pass_cx) (by exact sa_cons (by exact se_var 0 (by exact rfl) (by exact .inl (by exact rfl))) (by exact sa_cons (by exact se_var 1 (by exact rfl) (by exact .inl (by exact rfl))) (by exact sa_nil)))) (by exact se_one (by exact se_eq (by exact rfl) (by exact hu64 (by exact hr)) (by exact se_blt (by exact c_sortT) (by exact cr_sortedTI) (by exact rfl) (by exact T.f_sorted) (by exact rfl) (by exact sa_cons (by exact se_var 0 (by exact rfl) (by exact .inl (by exact rfl))) (by exact sa_nil))) (by exact se_listRg (by exact rfl) (by exact rfl) (by exact T.f_list) (by exact rfl) (by exact T.f_range) (by exact se_var 1 (by exact rfl) (by exact .inl (by exact rfl))))))))
theorem ok_check_between (T : Fx K mg) (o_is_between : Ok LM P w K mg base d_is_between 2 ["value", "least", "most"] F_is_between) : Ok LM P w K mg base d_check_between 3 ["value", "least", "most"] F_check_between :=
  Ok.make false T.d_check_between sc_check_between rfl (fun _ _ _ _ _ _ us hl => match us, hl with | [_, _, _], _ => rfl) fun cdv A outer s H E z hr =>
    by exact sss_one (by exact ss_if (by exact st_not (by exact st_val (by exact so_call (L := LM) (by exact rfl) (by exact o_is_between) (by exact rfl) (by exact hr.mono (by decide)) (by exact rfl) (by exact T.g_is_between) (by exact pass_cx) (by exact sa_cons (by exact se_var 0 (by exact rfl) (by exact .inl (by exact rfl))) (by exact sa_cons (by exact se_var 1 (by exact rfl) (by exact .inl (by exact rfl))) (by exact sa_cons (by exact se_var 2 (by exact rfl) (by exact .inl (by exact rfl))) (by exact sa_nil))))) (by exact fun _ => rfl))) (by exact sss_never) (by exact sss_nil))
theorem ok_check_index (T : Fx K mg) (o_is_index : Ok LM P w K mg base d_is_index 3 ["value", "many"] F_is_index) : Ok LM P w K mg base d_check_index 4 ["value", "many"] F_check_index :=
  Ok.make false T.d_check_index sc_check_index rfl (fun _ _ _ _ _ _ us hl => match us, hl with | [_, _], _ => rfl) fun cdv A outer s H E z hr =>
    by exact sss_one (by exact ss_if (by exact st_not (by exact st_val (by exact so_call (L := LM) (by exact rfl) (by exact o_is_index) (by exact rfl) (by exact hr.mono (by decide)) (by exact rfl) (by exact T.g_is_index) (by exact pass_cx) (by exact sa_cons (by exact se_var 0 (by exact rfl) (by exact .inl (by exact rfl))) (by exact sa_cons (by exact se_var 1 (by exact rfl) (by exact .inl (by exact rfl))) (by exact sa_nil)))) (by exact fun _ => rfl))) (by exact sss_never) (by exact sss_nil))
theorem ok_is_heard (T : Fx K mg) (o_is_ascending : Ok LM P w K mg base d_is_ascending 5 ["value", "many"] F_is_ascending) : Ok LM P w K mg base d_is_heard 6 ["value"] F_is_heard :=
  Ok.make false T.d_is_heard sc_is_heard rfl (fun _ _ _ _ _ _ us hl => match us, hl with | [_], _ => rfl) fun cdv A outer s H E z hr =>
    by exact sss_cons (by exact ss_if (by exact PW.pt (by exact sw_or (by exact st_not (by exact st_val (by exact se_isi (tb := tb_tuple) (os := osL) (cv := .ty "tuple") (cu := .type "tuple") (by exact rfl) (by exact os_ok (by exact T)) (by exact tb_tuple_ok (by exact T)) (by exact rfl) (by exact T.f_isinstance) (by exact se_var 0 (by exact rfl) (by exact .inr (by exact .inl (by exact rfl)))) (by exact pe_bltn (by exact rfl) (by exact T.f_tuple) (by exact rfl) (by exact rfl)) (by exact ClsV.ty _)) (by exact fun _ => rfl))) (by exact sw_or1 (by exact st_not (by exact st_chn (by exact op_le) (by exact op_le) (by exact b_ord (by exact leB)) (by exact b_ord (by exact leB)) (by exact se_int) (by exact se_blt (by exact c_len) (by exact call_len) (by exact rfl) (by exact T.f_len) (by exact rfl) (by exact sa_cons (by exact se_var 0 (by exact rfl) (by exact .inr (by exact .inl (by exact rfl)))) (by exact sa_nil))) (by exact se_gint (by exact rfl) (by exact T.i_MOST_HOUSES))))))) (by exact sss_one (by exact ss_ret (by exact se_bl))) (by exact sss_nil)) (by exact sss_one (by exact ss_ret (by exact se_blt (by exact c_all) (by exact cr_all (by exact rfl)) (by exact rfl) (by exact T.f_all) (by exact rfl) (by exact sa_cons (by exact se_lc false (by exact rfl) (by exact rfl) (by exact sc_is_heard.nd) (by exact si_enum (by exact rfl) (by exact rfl) (by exact T.f_enumerate) (by exact se_var 0 (by exact rfl) (by exact .inr (by exact .inl (by exact rfl))))) (own := [("house", 1), ("row", 2)]) (by exact blkB_ok (by exact rfl)) (by decide) (by exact fun _ _ _ _ _ => pg_tup (by exact rfl) (by exact pgs_cons (by exact pg_name (by exact sc_is_heard.nd) (by exact rfl) (by exact .inl (by exact rfl)) (by first | exact .inl rfl | exact .inr rfl)) (by exact pgs_cons (by exact pg_name (by exact sc_is_heard.nd) (by exact rfl) (by exact .inl (by exact rfl)) (by first | exact .inl rfl | exact .inr rfl)) (by exact pgs_nil)))) (by exact fun _ _ _ _ _ _ => spt_nil) (by exact fun _ _ _ _ _ _ => se_and (by exact so_call (L := LM) (by exact rfl) (by exact o_is_ascending) (by exact rfl) (by exact hr.mono (by decide)) (by exact rfl) (by exact T.g_is_ascending) (by exact pass_e0) (by exact sa_cons (by exact se_var 2 (by exact rfl) (by exact .inl (by exact rfl))) (by exact sa_cons (by exact se_blt (by exact c_len) (by exact call_len) (by exact rfl) (by exact T.f_len) (by exact rfl) (by exact sa_cons (by exact se_var 0 (by exact rfl) (by exact .inr (by exact .inl (by exact rfl)))) (by exact sa_nil))) (by exact sa_nil)))) (by exact se_one (by exact se_notIn (by exact rfl) (by exact hu65 (by exact hr)) (by exact se_var 1 (by exact rfl) (by exact .inl (by exact rfl))) (by exact se_var 2 (by exact rfl) (by exact .inl (by exact rfl))))))) (by exact sa_nil)))))
theorem ok_Web_size (T : Fx K mg)  : Ok LM P w K mg base d_Web_size 1 ["self"] F_Web_size :=
  Ok.make false T.d_Web_size sc_Web_size rfl (fun _ _ _ _ _ _ us hl => match us, hl with | [_], _ => rfl) fun cdv A outer s H E z hr =>
    by exact sss_one (by exact ss_ret (by exact se_fld (by exact rfl) (by exact T.c_Web) (by exact T.a_Web__size) (by exact se_var 0 (by exact rfl) (by exact .inl (by exact rfl)))))
theorem ok_is_web_of (T : Fx K mg) (o_Web_size : Ok LM P w K mg base d_Web_size 1 ["self"] F_Web_size) : Ok LM P w K mg base d_is_web_of 3 ["value", "size"] F_is_web_of :=
  Ok.make false T.d_is_web_of sc_is_web_of rfl (fun _ _ _ _ _ _ us hl => match us, hl with | [_, _], _ => rfl) fun cdv A outer s H E z hr =>
    by exact sss_one (by exact ss_ret (by exact se_and (by exact se_isi (tb := tb_Web) (os := osL) (cv := .ref (gA "Web" K)) (cu := .ref (gA "Web" K)) (by exact rfl) (by exact os_ok (by exact T)) (by exact tb_Web_ok (by exact T)) (by exact rfl) (by exact T.f_isinstance) (by exact se_var 0 (by exact rfl) (by exact .inl (by exact rfl))) (by exact pe_glob (by exact rfl) (by exact T.g_Web) (by exact rfl)) (by exact ClsV.own _)) (by exact se_one (by exact se_eq (by exact rfl) (by exact hu64 (by exact hr)) (by exact so_prop (L := LM) (by exact rfl) (by exact o_Web_size) (by exact rfl) (by exact hr.mono (by decide)) (by exact T.c_Web) (by exact T.p_Web_size) (by exact se_var 0 (by exact rfl) (by exact .inl (by exact rfl)))) (by exact se_var 1 (by exact rfl) (by exact .inl (by exact rfl)))))))
theorem ok_check_web (T : Fx K mg) (o_is_web_of : Ok LM P w K mg base d_is_web_of 3 ["value", "size"] F_is_web_of) : Ok LM P w K mg base d_check_web 4 ["value", "size"] F_check_web :=
  Ok.make false T.d_check_web sc_check_web rfl (fun _ _ _ _ _ _ us hl => match us, hl with | [_, _], _ => rfl) fun cdv A outer s H E z hr =>
    by exact sss_one (by exact ss_if (by exact st_not (by exact st_val (by exact so_call (L := LM) (by exact rfl) (by exact o_is_web_of) (by exact rfl) (by exact hr.mono (by decide)) (by exact rfl) (by exact T.g_is_web_of) (by exact pass_cx) (by exact sa_cons (by exact se_var 0 (by exact rfl) (by exact .inl (by exact rfl))) (by exact sa_cons (by exact se_var 1 (by exact rfl) (by exact .inl (by exact rfl))) (by exact sa_nil)))) (by exact fun _ => rfl))) (by exact sss_never) (by exact sss_nil))
theorem ok_reached_from (T : Fx K mg)  : Ok LM P w K mg base d_reached_from 1 ["heard", "start"] F_reached_from :=
  Ok.make false T.d_reached_from sc_reached_from rfl (fun _ _ _ _ _ _ us hl => match us, hl with | [_, _], _ => rfl) fun cdv A outer s H E z hr =>
    by exact sss_cons (by exact ss_asg (by exact se_cel (by exact sa_cons (by exact se_var 1 (by exact rfl) (by exact .inl (by exact rfl))) (by exact sa_nil))) (by exact sg_name (by exact sc_reached_from.nd) (by exact rfl) (by exact .inr (by exact rfl)) (by exact .inl (by exact rfl)))) (by exact sss_cons (by exact ss_asg (by exact se_int) (by exact sg_name (by exact sc_reached_from.nd) (by exact rfl) (by exact .inr (by exact rfl)) (by exact .inl (by exact rfl)))) (by exact sss_cons (by exact ss_while 8 (by exact own_cx) (by exact st_lt (by exact se_var 3 (by exact rfl) (by exact .inr (by exact .inl (by exact rfl)))) (by exact se_blt (by exact c_len) (by exact call_len) (by exact rfl) (by exact T.f_len) (by exact rfl) (by exact sa_cons (by exact se_var 2 (by exact rfl) (by exact .inr (by exact .inl (by exact rfl)))) (by exact sa_nil)))) (by exact sss_cons (by exact ss_setLc false (by exact rfl) (by exact rfl) (by exact sc_reached_from.nd) (by exact rfl) (by exact rfl) (by exact rfl) (by exact si_enum (by exact rfl) (by exact rfl) (by exact T.f_enumerate) (by exact se_var 0 (by exact rfl) (by exact .inl (by exact rfl)))) (own := [("house", 5), ("row", 6)]) (by exact blkB_ok (by exact rfl)) (by decide) (by exact fun _ _ _ _ _ => pg_tup (by exact rfl) (by exact pgs_cons (by exact pg_name (by exact sc_reached_from.nd) (by exact rfl) (by exact .inl (by exact rfl)) (by first | exact .inl rfl | exact .inr rfl)) (by exact pgs_cons (by exact pg_name (by exact sc_reached_from.nd) (by exact rfl) (by exact .inl (by exact rfl)) (by first | exact .inl rfl | exact .inr rfl)) (by exact pgs_nil)))) (by exact fun _ _ _ _ _ _ => spt_one (by exact PW.pt (by exact sw_and (by exact st_in (by exact rfl) (by exact hu65 (by exact hr)) (by exact se_ix (by exact rfl) (by exact se_var 2 (by exact rfl) (by exact .inr (by exact .inl (by exact rfl)))) (by exact se_var 3 (by exact rfl) (by exact .inr (by exact .inl (by exact rfl)))) (by exact fun _ _ => rfl)) (by exact se_var 6 (by exact rfl) (by exact .inl (by exact rfl)))) (by exact sw_and1 (by exact st_notIn (by exact rfl) (by exact hu65 (by exact hr)) (by exact se_var 5 (by exact rfl) (by exact .inl (by exact rfl))) (by exact se_var 2 (by exact rfl) (by exact .inr (by exact .inl (by exact rfl))))))))) (by exact fun _ _ _ _ _ _ => se_var 5 (by exact rfl) (by exact .inl (by exact rfl)))) (by exact sss_cons (by exact ss_exp (by exact se_extend (by exact rfl) (by exact se_var 2 (by exact rfl) (by exact .inr (by exact .inl (by exact rfl)))) (by exact se_var 4 (by exact rfl) (by exact .inl (by exact rfl))))) (by exact sss_one (by exact ss_augAdd (by exact sc_reached_from.nd) (by exact rfl) (by exact .inr (by exact rfl)) (by exact se_int) (by exact .inl (by exact rfl))))))) (by exact sss_one (by exact ss_ret (by exact se_bty (by exact c_tuple) (by exact call_tuple_of) (by exact rfl) (by exact T.f_tuple) (by exact rfl) (by exact sa_cons (by exact se_blt (by exact c_sort) (by exact cr_sortedI) (by exact rfl) (by exact T.f_sorted) (by exact rfl) (by exact sa_cons (by exact se_var 2 (by exact rfl) (by exact .inr (by exact .inl (by exact rfl)))) (by exact sa_nil))) (by exact sa_nil)))))))
theorem ok_mutual_parts (T : Fx K mg)  : Ok LM P w K mg base d_mutual_parts 1 ["reached"] F_mutual_parts :=
  Ok.make false T.d_mutual_parts sc_mutual_parts rfl (fun _ _ _ _ _ _ us hl => match us, hl with | [_], _ => rfl) fun cdv A outer s H E z hr =>
    by exact sss_cons (by exact ss_asg (by exact se_cel (by exact sa_nil)) (by exact sg_name (by exact sc_mutual_parts.nd) (by exact rfl) (by exact .inl (by exact rfl)) (by exact .inl (by exact rfl)))) (by exact sss_cons (by exact ss_for (by exact own_cx) (by exact rfl) (by exact si_enum (by exact rfl) (by exact rfl) (by exact T.f_enumerate) (by exact se_var 0 (by exact rfl) (by exact .inr (by exact .inl (by exact rfl))))) (by exact sg_tup (by exact rfl) (by exact rfl) (by exact sgs_cons (by exact sg_name (by exact sc_mutual_parts.nd) (by exact rfl) (by exact .inr (by exact rfl)) (by exact .inl (by exact rfl))) (by exact sgs_cons (by exact sg_name (by exact sc_mutual_parts.nd) (by exact rfl) (by exact .inl (by exact rfl)) (by exact .inl (by exact rfl))) (by exact sgs_nil)))) (by exact sss_cons (by exact ss_asg (by exact se_bty (by exact c_tuple) (by exact call_tuple_of) (by exact rfl) (by exact T.f_tuple) (by exact rfl) (by exact sa_cons (by exact se_lc false (by exact rfl) (by exact rfl) (by exact sc_mutual_parts.nd) (by exact si_seq (by exact rfl) (by exact se_var 3 (by exact rfl) (by exact .inl (by exact rfl)))) (own := [("other", 5)]) (by exact blkB_ok (by exact rfl)) (by decide) (by exact fun _ _ _ _ _ => pg_name (by exact sc_mutual_parts.nd) (by exact rfl) (by exact .inl (by exact rfl)) (by first | exact .inl rfl | exact .inr rfl)) (by exact fun _ _ _ _ _ _ => spt_one (by exact st_in (by exact rfl) (by exact hu65 (by exact hr)) (by exact se_var 2 (by exact rfl) (by exact .inr (by exact .inl (by exact rfl)))) (by exact se_ix (by exact rfl) (by exact se_var 0 (by exact rfl) (by exact .inr (by exact .inl (by exact rfl)))) (by exact se_var 5 (by exact rfl) (by exact .inl (by exact rfl))) (by exact fun _ _ => rfl)))) (by exact fun _ _ _ _ _ _ => se_var 5 (by exact rfl) (by exact .inl (by exact rfl)))) (by exact sa_nil))) (by exact sg_name (by exact sc_mutual_parts.nd) (by exact rfl) (by exact .inl (by exact rfl)) (by exact .inl (by exact rfl)))) (by exact sss_one (by exact ss_if (by exact st_eq (by exact rfl) (by exact hu64 (by exact hr)) (by exact se_ix (by exact rfl) (by exact se_var 4 (by exact rfl) (by exact .inl (by exact rfl))) (by exact se_int) (by exact fun _ _ => rfl)) (by exact se_var 2 (by exact rfl) (by exact .inr (by exact .inl (by exact rfl))))) (by exact sss_one (by exact ss_exp (by exact se_append (by exact rfl) (by exact se_var 1 (by exact rfl) (by exact .inl (by exact rfl))) (by exact se_var 4 (by exact rfl) (by exact .inl (by exact rfl)))))) (by exact sss_nil))))) (by exact sss_one (by exact ss_ret (by exact se_bty (by exact c_tuple) (by exact call_tuple_of) (by exact rfl) (by exact T.f_tuple) (by exact rfl) (by exact sa_cons (by exact se_var 1 (by exact rfl) (by exact .inl (by exact rfl))) (by exact sa_nil))))))
theorem ok_Web___init__ (T : Fx K mg) (o_is_heard : Ok LM P w K mg base d_is_heard 6 ["value"] F_is_heard) (o_reached_from : Ok LM P w K mg base d_reached_from 1 ["heard", "start"] F_reached_from) (o_mutual_parts : Ok LM P w K mg base d_mutual_parts 1 ["reached"] F_mutual_parts) : Ok LM P w K mg base d_Web___init__ 7 ["self", "heard"] F_Web___init__ :=
  Ok.make false T.d_Web___init__ sc_Web___init__ rfl (fun _ _ _ _ _ _ us hl => match us, hl with | [_, _], _ => rfl) fun cdv A outer s H E z hr =>
    by exact sss_cons (by exact ss_if (by exact st_not (by exact st_val (by exact so_call (L := LM) (by exact rfl) (by exact o_is_heard) (by exact rfl) (by exact hr.mono (by decide)) (by exact rfl) (by exact T.g_is_heard) (by exact pass_cx) (by exact sa_cons (by exact se_var 1 (by exact rfl) (by exact .inr (by exact .inl (by exact rfl)))) (by exact sa_nil))) (by exact fun _ => rfl))) (by exact sss_never) (by exact sss_nil)) (by exact sss_cons (by exact ss_fld (by exact rfl) (by exact T.c_Web) (by exact T.a_Web__heard) (by exact se_var 0 (by exact rfl) (by exact .inl (by exact rfl))) (by exact se_var 1 (by exact rfl) (by exact .inr (by exact .inl (by exact rfl))))) (by exact sss_cons (by exact ss_fld (by exact rfl) (by exact T.c_Web) (by exact T.a_Web__size) (by exact se_var 0 (by exact rfl) (by exact .inl (by exact rfl))) (by exact se_blt (by exact c_len) (by exact call_len) (by exact rfl) (by exact T.f_len) (by exact rfl) (by exact sa_cons (by exact se_var 1 (by exact rfl) (by exact .inr (by exact .inl (by exact rfl)))) (by exact sa_nil)))) (by exact sss_cons (by exact ss_fld (by exact rfl) (by exact T.c_Web) (by exact T.a_Web__reached) (by exact se_var 0 (by exact rfl) (by exact .inl (by exact rfl))) (by exact se_bty (by exact c_tuple) (by exact call_tuple_of) (by exact rfl) (by exact T.f_tuple) (by exact rfl) (by exact sa_cons (by exact se_lc false (by exact rfl) (by exact rfl) (by exact sc_Web___init__.nd) (by exact si_range1 (by exact rfl) (by exact T.f_range) (by exact se_blt (by exact c_len) (by exact call_len) (by exact rfl) (by exact T.f_len) (by exact rfl) (by exact sa_cons (by exact se_var 1 (by exact rfl) (by exact .inr (by exact .inl (by exact rfl)))) (by exact sa_nil)))) (own := [("house", 2)]) (by exact blkB_ok (by exact rfl)) (by decide) (by exact fun _ _ _ _ _ => pg_name (by exact sc_Web___init__.nd) (by exact rfl) (by exact .inl (by exact rfl)) (by first | exact .inl rfl | exact .inr rfl)) (by exact fun _ _ _ _ _ _ => spt_nil) (by exact fun _ _ _ _ _ _ => so_call (L := LM) (by exact rfl) (by exact o_reached_from) (by exact rfl) (by exact hr.mono (by decide)) (by exact rfl) (by exact T.g_reached_from) (by exact pass_e0) (by exact sa_cons (by exact se_var 1 (by exact rfl) (by exact .inr (by exact .inl (by exact rfl)))) (by exact sa_cons (by exact se_var 2 (by exact rfl) (by exact .inl (by exact rfl))) (by exact sa_nil))))) (by exact sa_nil)))) (by exact sss_cons (by exact ss_fld (by exact rfl) (by exact T.c_Web) (by exact T.a_Web__roots) (by exact se_var 0 (by exact rfl) (by exact .inl (by exact rfl))) (by exact se_bty (by exact c_tuple) (by exact call_tuple_of) (by exact rfl) (by exact T.f_tuple) (by exact rfl) (by exact sa_cons (by exact se_lc false (by exact rfl) (by exact rfl) (by exact sc_Web___init__.nd) (by exact si_enum (by exact rfl) (by exact rfl) (by exact T.f_enumerate) (by exact se_fld (by exact rfl) (by exact T.c_Web) (by exact T.a_Web__reached) (by exact se_var 0 (by exact rfl) (by exact .inl (by exact rfl))))) (own := [("house", 2), ("far", 3)]) (by exact blkB_ok (by exact rfl)) (by decide) (by exact fun _ _ _ _ _ => pg_tup (by exact rfl) (by exact pgs_cons (by exact pg_name (by exact sc_Web___init__.nd) (by exact rfl) (by exact .inl (by exact rfl)) (by first | exact .inl rfl | exact .inr rfl)) (by exact pgs_cons (by exact pg_name (by exact sc_Web___init__.nd) (by exact rfl) (by exact .inl (by exact rfl)) (by first | exact .inl rfl | exact .inr rfl)) (by exact pgs_nil)))) (by exact fun _ _ _ _ _ _ => spt_one (by exact st_eq (by exact rfl) (by exact hu64 (by exact hr)) (by exact se_blt (by exact c_len) (by exact call_len) (by exact rfl) (by exact T.f_len) (by exact rfl) (by exact sa_cons (by exact se_var 3 (by exact rfl) (by exact .inl (by exact rfl))) (by exact sa_nil))) (by exact se_blt (by exact c_len) (by exact call_len) (by exact rfl) (by exact T.f_len) (by exact rfl) (by exact sa_cons (by exact se_var 1 (by exact rfl) (by exact .inr (by exact .inl (by exact rfl)))) (by exact sa_nil))))) (by exact fun _ _ _ _ _ _ => se_var 2 (by exact rfl) (by exact .inl (by exact rfl)))) (by exact sa_nil)))) (by exact sss_one (by exact ss_fld (by exact rfl) (by exact T.c_Web) (by exact T.a_Web__parts) (by exact se_var 0 (by exact rfl) (by exact .inl (by exact rfl))) (by exact so_call (L := LM) (by exact rfl) (by exact o_mutual_parts) (by exact rfl) (by exact hr.mono (by decide)) (by exact rfl) (by exact T.g_mutual_parts) (by exact pass_cx) (by exact sa_cons (by exact se_fld (by exact rfl) (by exact T.c_Web) (by exact T.a_Web__reached) (by exact se_var 0 (by exact rfl) (by exact .inl (by exact rfl)))) (by exact sa_nil)))))))))
theorem ok_web_where (T : Fx K mg) (ol : OL P w K mg base) (o_Web___init__ : Ok LM P w K mg base d_Web___init__ 7 ["self", "heard"] F_Web___init__) : Ok LM P w K mg base d_web_where 9 ["size", "rule"] F_web_where :=
  Ok.make false T.d_web_where sc_web_where rfl (fun _ _ _ _ _ _ us hl => match us, hl with | [_, _], _ => rfl) fun cdv A outer s H E z hr =>
    by exact sss_cons (by exact ss_asg (by exact se_cel (by exact sa_nil)) (by exact sg_name (by exact sc_web_where.nd) (by exact rfl) (by exact .inl (by exact rfl)) (by exact .inl (by exact rfl)))) (by exact sss_cons (by exact ss_for (by exact own_cx) (by exact rfl) (by exact si_range1 (by exact rfl) (by exact T.f_range) (by exact se_var 0 (by exact rfl) (by exact .inl (by exact rfl)))) (by exact sg_name (by exact sc_web_where.nd) (by exact rfl) (by exact .inr (by exact rfl)) (by exact .inl (by exact rfl))) (by exact sss_one (by exact ss_exp (by exact se_append (by exact rfl) (by exact se_var 2 (by exact rfl) (by exact .inl (by exact rfl))) (by exact se_bty (by exact c_tuple) (by exact call_tuple_of) (by exact rfl) (by exact T.f_tuple) (by exact rfl) (by exact sa_cons (by exact se_lc false (by exact rfl) (by exact rfl) (by exact sc_web_where.nd) (by exact si_range1 (by exact rfl) (by exact T.f_range) (by exact se_var 0 (by exact rfl) (by exact .inl (by exact rfl)))) (own := [("other", 4)]) (by exact blkB_ok (by exact rfl)) (by decide) (by exact fun _ _ _ _ _ => pg_name (by exact sc_web_where.nd) (by exact rfl) (by exact .inl (by exact rfl)) (by first | exact .inl rfl | exact .inr rfl)) (by exact fun _ _ _ _ _ _ => spt_one (by exact PW.pt (by exact sw_and (by exact st_ne (by exact rfl) (by exact hu64 (by exact hr)) (by exact se_var 4 (by exact rfl) (by exact .inl (by exact rfl))) (by exact se_var 3 (by exact rfl) (by exact .inr (by exact .inl (by exact rfl))))) (by exact sw_and1 (by exact st_truth (by exact rfl) (by exact se_callLc (j := 1) (k := 1) (np := 2) (cnt := 2) (G := LF) (by exact ol) (by exact lcl_ok) (by exact hr.mono (by decide)) (by exact Nat.le_refl _) (by exact rfl) (by exact .inr (by exact .inl (by exact rfl))) (by exact sa_cons (by exact se_var 3 (by exact rfl) (by exact .inr (by exact .inl (by exact rfl)))) (by exact sa_cons (by exact se_var 4 (by exact rfl) (by exact .inl (by exact rfl))) (by exact sa_nil)))) (by exact fun _ => rfl)))))) (by exact fun _ _ _ _ _ _ => se_var 4 (by exact rfl) (by exact .inl (by exact rfl)))) (by exact sa_nil))))))) (by exact sss_one (by exact ss_ret (by exact so_make (L := LM) false (by exact rfl) (by exact o_Web___init__) (by exact rfl) (by exact hr.mono (by decide)) (by exact T.mk_Web) (by exact rfl) (by exact T.g_Web) (by exact pass_cx) (by exact sa_cons (by exact se_bty (by exact c_tuple) (by exact call_tuple_of) (by exact rfl) (by exact T.f_tuple) (by exact rfl) (by exact sa_cons (by exact se_var 2 (by exact rfl) (by exact .inl (by exact rfl))) (by exact sa_nil))) (by exact sa_nil))))))
theorem ok_silent_web (T : Fx K mg) (tb_silent_web : LamX.TabB base mg (cA d_silent_web.ad K) (tabA d_silent_web.ad K)) (o_check_between : Ok LM P w K mg base d_check_between 3 ["value", "least", "most"] F_check_between) (o_web_where : Ok LM P w K mg base d_web_where 9 ["size", "rule"] F_web_where) : Ok LM P w K mg base d_silent_web 10 ["size"] F_silent_web :=
  Ok.makeC false T.d_silent_web T.code_silent_web sc_silent_web rfl (fun _ _ _ _ _ _ us hl => match us, hl with | [_], _ => rfl) fun cdv hcv A outer s H E z hr =>
    by exact sss_cons (by exact ss_exp (by exact so_call (L := LM) (by exact rfl) (by exact o_check_between) (by exact rfl) (by exact hr.mono (by decide)) (by exact rfl) (by exact T.g_check_between) (by exact pass_cx) (by exact sa_cons (by exact se_var 0 (by exact rfl) (by exact .inl (by exact rfl))) (by exact sa_cons (by exact se_int) (by exact sa_cons (by exact se_gint (by exact rfl) (by exact T.i_MOST_HOUSES)) (by exact sa_nil)))))) (by exact sss_one (by exact ss_ret (by exact so_callC (L := LM) (kk := 0) (js := []) (nm := fun _ _ => lam0_q) (by exact rfl) (by exact o_web_where) (by exact rfl) (by exact hr.mono (by decide)) (by exact rfl) (by exact T.g_web_where) (by exact tb_silent_web) (by exact hcv) (by exact lm_0) (by exact rfl) (by exact lu_0 (by exact T)) (by exact rfl) (by exact rfl) (by exact rfl) (by exact rfl) (by exact fun _ _ _ => rfl) (by exact se_var 0 (by exact rfl) (by exact .inl (by exact rfl))))))
theorem ok_Web_heard (T : Fx K mg)  : Ok LM P w K mg base d_Web_heard 1 ["self"] F_Web_heard :=
  Ok.make false T.d_Web_heard sc_Web_heard rfl (fun _ _ _ _ _ _ us hl => match us, hl with | [_], _ => rfl) fun cdv A outer s H E z hr =>
    by exact sss_one (by exact ss_ret (by exact se_fld (by exact rfl) (by exact T.c_Web) (by exact T.a_Web__heard) (by exact se_var 0 (by exact rfl) (by exact .inl (by exact rfl)))))
theorem ok_Web_roots (T : Fx K mg)  : Ok LM P w K mg base d_Web_roots 1 ["self"] F_Web_roots :=
  Ok.make false T.d_Web_roots sc_Web_roots rfl (fun _ _ _ _ _ _ us hl => match us, hl with | [_], _ => rfl) fun cdv A outer s H E z hr =>
    by exact sss_one (by exact ss_ret (by exact se_fld (by exact rfl) (by exact T.c_Web) (by exact T.a_Web__roots) (by exact se_var 0 (by exact rfl) (by exact .inl (by exact rfl)))))
theorem ok_Web_hears (T : Fx K mg) (o_check_index : Ok LM P w K mg base d_check_index 4 ["value", "many"] F_check_index) : Ok LM P w K mg base d_Web_hears 5 ["self", "house"] F_Web_hears :=
  Ok.make false T.d_Web_hears sc_Web_hears rfl (fun _ _ _ _ _ _ us hl => match us, hl with | [_, _], _ => rfl) fun cdv A outer s H E z hr =>
    by exact sss_cons (by exact ss_exp (by exact so_call (L := LM) (by exact rfl) (by exact o_check_index) (by exact rfl) (by exact hr.mono (by decide)) (by exact rfl) (by exact T.g_check_index) (by exact pass_cx) (by exact sa_cons (by exact se_var 1 (by exact rfl) (by exact .inl (by exact rfl))) (by exact sa_cons (by exact se_fld (by exact rfl) (by exact T.c_Web) (by exact T.a_Web__size) (by exact se_var 0 (by exact rfl) (by exact .inl (by exact rfl)))) (by exact sa_nil))))) (by exact sss_one (by exact ss_ret (by exact se_bty (by exact c_tuple) (by exact call_tuple_of) (by exact rfl) (by exact T.f_tuple) (by exact rfl) (by exact sa_cons (by exact se_blt (by exact c_sort) (by exact cr_sortedI) (by exact rfl) (by exact T.f_sorted) (by exact rfl) (by exact sa_cons (by exact se_fl (by exact sa_star (by exact rfl) (by exact se_ix (by exact rfl) (by exact se_fld (by exact rfl) (by exact T.c_Web) (by exact T.a_Web__heard) (by exact se_var 0 (by exact rfl) (by exact .inl (by exact rfl)))) (by exact se_var 1 (by exact rfl) (by exact .inl (by exact rfl))) (by exact fun _ _ => rfl)) (by exact sa_cons (by exact se_var 1 (by exact rfl) (by exact .inl (by exact rfl))) (by exact sa_nil)))) (by exact sa_nil))) (by exact sa_nil)))))
theorem ok_Web_then (T : Fx K mg) (o_check_web : Ok LM P w K mg base d_check_web 4 ["value", "size"] F_check_web) (o_Web_hears : Ok LM P w K mg base d_Web_hears 5 ["self", "house"] F_Web_hears) (o_Web___init__ : Ok LM P w K mg base d_Web___init__ 7 ["self", "heard"] F_Web___init__) : Ok LM P w K mg base d_Web_then 9 ["self", "other"] F_Web_then :=
  Ok.make false T.d_Web_then sc_Web_then rfl (fun _ _ _ _ _ _ us hl => match us, hl with | [_, _], _ => rfl) fun cdv A outer s H E z hr =>
    by exact sss_cons (by exact ss_exp (by exact so_call (L := LM) (by exact rfl) (by exact o_check_web) (by exact rfl) (by exact hr.mono (by decide)) (by exact rfl) (by exact T.g_check_web) (by exact pass_cx) (by exact sa_cons (by exact se_var 1 (by exact rfl) (by exact .inl (by exact rfl))) (by exact sa_cons (by exact se_fld (by exact rfl) (by exact T.c_Web) (by exact T.a_Web__size) (by exact se_var 0 (by exact rfl) (by exact .inr (by exact .inl (by exact rfl))))) (by exact sa_nil))))) (by exact sss_cons (by exact ss_asg (by exact se_cel (by exact sa_nil)) (by exact sg_name (by exact sc_Web_then.nd) (by exact rfl) (by exact .inl (by exact rfl)) (by exact .inl (by exact rfl)))) (by exact sss_cons (by exact ss_for (by exact own_cx) (by exact rfl) (by exact si_range1 (by exact rfl) (by exact T.f_range) (by exact se_fld (by exact rfl) (by exact T.c_Web) (by exact T.a_Web__size) (by exact se_var 0 (by exact rfl) (by exact .inr (by exact .inl (by exact rfl)))))) (by exact sg_name (by exact sc_Web_then.nd) (by exact rfl) (by exact .inr (by exact rfl)) (by exact .inl (by exact rfl))) (by exact sss_cons (by exact ss_asg (by exact se_lc2 (vs1 := [6]) false (by exact rfl) (by exact rfl) (by exact sc_Web_then.nd) (by exact si_seq (by exact rfl) (by exact so_meth (L := LM) (by exact rfl) (by exact o_Web_hears) (by exact rfl) (by exact hr.mono (by decide)) (by exact T.c_Web) (by exact T.m_Web_hears) (by exact pass_cx) (by exact se_var 1 (by exact rfl) (by exact .inl (by exact rfl))) (by exact sa_cons (by exact se_var 3 (by exact rfl) (by exact .inr (by exact .inl (by exact rfl)))) (by exact sa_nil)))) (own := [("teller", 5), ("source", 6)]) (by exact blkB_ok (by exact rfl)) (by decide) (by decide) (by decide) (by exact fun _ _ _ _ _ => pg_name (by exact sc_Web_then.nd) (by exact rfl) (by exact .inl (by exact rfl)) (by first | exact .inl rfl | exact .inr rfl)) (by exact fun _ _ _ _ _ _ => spt_nil) (by exact fun _ _ _ _ _ _ => si_seq (by exact rfl) (by exact so_meth (L := LM) (by exact rfl) (by exact o_Web_hears) (by exact rfl) (by exact hr.mono (by decide)) (by exact T.c_Web) (by exact T.m_Web_hears) (by exact pass_e0) (by exact se_var 0 (by exact rfl) (by exact .inr (by exact .inl (by exact rfl)))) (by exact sa_cons (by exact se_var 5 (by exact rfl) (by exact .inl (by exact rfl))) (by exact sa_nil)))) (by exact fun _ _ _ _ _ => pg_name (by exact sc_Web_then.nd) (by exact rfl) (by exact .inl (by exact rfl)) (by first | exact .inl rfl | exact .inr rfl)) (by exact fun _ _ _ _ _ _ => spt_nil) (by exact fun _ _ _ _ _ _ => se_var 6 (by exact rfl) (by exact .inl (by exact rfl)))) (by exact sg_name (by exact sc_Web_then.nd) (by exact rfl) (by exact .inr (by exact rfl)) (by exact .inl (by exact rfl)))) (by exact sss_one (by exact ss_exp (by exact se_append (by exact rfl) (by exact se_var 2 (by exact rfl) (by exact .inl (by exact rfl))) (by exact se_bty (by exact c_tuple) (by exact call_tuple_of) (by exact rfl) (by exact T.f_tuple) (by exact rfl) (by exact sa_cons (by exact se_lc false (by exact rfl) (by exact rfl) (by exact sc_Web_then.nd) (by exact si_range1 (by exact rfl) (by exact T.f_range) (by exact se_fld (by exact rfl) (by exact T.c_Web) (by exact T.a_Web__size) (by exact se_var 0 (by exact rfl) (by exact .inr (by exact .inl (by exact rfl)))))) (own := [("source", 6)]) (by exact blkB_ok (by exact rfl)) (by decide) (by exact fun _ _ _ _ _ => pg_name (by exact sc_Web_then.nd) (by exact rfl) (by exact .inl (by exact rfl)) (by first | exact .inl rfl | exact .inr rfl)) (by exact fun _ _ _ _ _ _ => spt_one (by exact PW.pt (by exact sw_and (by exact st_in (by exact rfl) (by exact hu65 (by exact hr)) (by exact se_var 6 (by exact rfl) (by exact .inl (by exact rfl))) (by exact se_var 4 (by exact rfl) (by exact .inr (by exact .inl (by exact rfl))))) (by exact sw_and1 (by exact st_ne (by exact rfl) (by exact hu64 (by exact hr)) (by exact se_var 6 (by exact rfl) (by exact .inl (by exact rfl))) (by exact se_var 3 (by exact rfl) (by exact .inr (by exact .inl (by exact rfl))))))))) (by exact fun _ _ _ _ _ _ => se_var 6 (by exact rfl) (by exact .inl (by exact rfl)))) (by exact sa_nil)))))))) (by exact sss_one (by exact ss_ret (by exact so_make (L := LM) false (by exact rfl) (by exact o_Web___init__) (by exact rfl) (by exact hr.mono (by decide)) (by exact T.mk_Web) (by exact rfl) (by exact T.g_Web) (by exact pass_cx) (by exact sa_cons (by exact se_bty (by exact c_tuple) (by exact call_tuple_of) (by exact rfl) (by exact T.f_tuple) (by exact rfl) (by exact sa_cons (by exact se_var 2 (by exact rfl) (by exact .inl (by exact rfl))) (by exact sa_nil))) (by exact sa_nil)))))))
theorem ok_Web_renumbered (T : Fx K mg) (tb_Web_renumbered : LamX.TabB base mg (cA d_Web_renumbered.ad K) (tabA d_Web_renumbered.ad K)) (o_is_order : Ok LM P w K mg base d_is_order 5 ["value", "many"] F_is_order) (o_web_where : Ok LM P w K mg base d_web_where 9 ["size", "rule"] F_web_where) : Ok LM P w K mg base d_Web_renumbered 10 ["self", "numbers"] F_Web_renumbered :=
  Ok.makeC false T.d_Web_renumbered T.code_Web_renumbered sc_Web_renumbered rfl (fun _ _ _ _ _ _ us hl => match us, hl with | [_, _], _ => rfl) fun cdv hcv A outer s H E z hr =>
    by exact sss_cons (by exact ss_if (by exact st_not (by exact st_val (by exact so_call (L := LM) (by exact rfl) (by exact o_is_order) (by exact rfl) (by exact hr.mono (by decide)) (by exact rfl) (by exact T.g_is_order) (by exact pass_cx) (by exact sa_cons (by exact se_wk (by exact se_var 1 (by exact rfl) (by exact .inr (by exact .inl (by exact rfl))))) (by exact sa_cons (by exact se_fld (by exact rfl) (by exact T.c_Web) (by exact T.a_Web__size) (by exact se_var 0 (by exact rfl) (by exact .inl (by exact rfl)))) (by exact sa_nil)))) (by exact fun _ => rfl))) (by exact sss_never) (by exact sss_nil)) (by exact sss_cons (by exact ss_asg (by exact se_fld (by exact rfl) (by exact T.c_Web) (by exact T.a_Web__heard) (by exact se_var 0 (by exact rfl) (by exact .inl (by exact rfl)))) (by exact sg_name (by exact sc_Web_renumbered.nd) (by exact rfl) (by exact .inr (by exact rfl)) (by exact .inl (by exact rfl)))) (by exact sss_one (by exact ss_ret (by exact so_callC (L := LM) (kk := 1) (js := [1, 2]) (nm := fun _ _ => lam1_q) (by exact rfl) (by exact o_web_where) (by exact rfl) (by exact hr.mono (by decide)) (by exact rfl) (by exact T.g_web_where) (by exact tb_Web_renumbered) (by exact hcv) (by exact lm_1) (by exact rfl) (by exact lu_1 (by exact T)) (by exact rfl) (by exact rfl) (by exact rfl) (by exact rfl) (by exact fun _ _ _ => rfl) (by exact se_fld (by exact rfl) (by exact T.c_Web) (by exact T.a_Web__size) (by exact se_var 0 (by exact rfl) (by exact .inl (by exact rfl))))))))
theorem ok_are_pool_webs (T : Fx K mg) (o_Web_size : Ok LM P w K mg base d_Web_size 1 ["self"] F_Web_size) (o_Web_heard : Ok LM P w K mg base d_Web_heard 1 ["self"] F_Web_heard) : Ok LM P w K mg base d_are_pool_webs 3 ["value"] F_are_pool_webs :=
  Ok.make false T.d_are_pool_webs sc_are_pool_webs rfl (fun _ _ _ _ _ _ us hl => match us, hl with | [_], _ => rfl) fun cdv A outer s H E z hr =>
    by exact sss_cons (by exact ss_if (by exact PW.pt (by exact sw_or (by exact st_not (by exact st_val (by exact se_isi (tb := tb_tuple) (os := osL) (cv := .ty "tuple") (cu := .type "tuple") (by exact rfl) (by exact os_ok (by exact T)) (by exact tb_tuple_ok (by exact T)) (by exact rfl) (by exact T.f_isinstance) (by exact se_var 0 (by exact rfl) (by exact .inr (by exact .inl (by exact rfl)))) (by exact pe_bltn (by exact rfl) (by exact T.f_tuple) (by exact rfl) (by exact rfl)) (by exact ClsV.ty _)) (by exact fun _ => rfl))) (by exact sw_or1 (by exact st_not (by exact st_chn (by exact op_le) (by exact op_le) (by exact b_ord (by exact leB)) (by exact b_ord (by exact leB)) (by exact se_int) (by exact se_blt (by exact c_len) (by exact call_len) (by exact rfl) (by exact T.f_len) (by exact rfl) (by exact sa_cons (by exact se_var 0 (by exact rfl) (by exact .inr (by exact .inl (by exact rfl)))) (by exact sa_nil))) (by exact se_gint (by exact rfl) (by exact T.i_MAX_WEBS))))))) (by exact sss_one (by exact ss_ret (by exact se_bl))) (by exact sss_nil)) (by exact sss_cons (by exact ss_if (by exact st_not (by exact st_val (by exact se_blt (by exact c_all) (by exact cr_all (by exact rfl)) (by exact rfl) (by exact T.f_all) (by exact rfl) (by exact sa_cons (by exact se_lc false (by exact rfl) (by exact rfl) (by exact sc_are_pool_webs.nd) (by exact si_seq (by exact rfl) (by exact se_var 0 (by exact rfl) (by exact .inr (by exact .inl (by exact rfl))))) (own := [("web", 1)]) (by exact blkB_ok (by exact rfl)) (by decide) (by exact fun _ _ _ _ _ => pg_name (by exact sc_are_pool_webs.nd) (by exact rfl) (by exact .inl (by exact rfl)) (by first | exact .inl rfl | exact .inr rfl)) (by exact fun _ _ _ _ _ _ => spt_nil) (by exact fun _ _ _ _ _ _ => se_isi (tb := tb_Web) (os := osL) (cv := .ref (gA "Web" K)) (cu := .ref (gA "Web" K)) (by exact rfl) (by exact os_ok (by exact T)) (by exact tb_Web_ok (by exact T)) (by exact rfl) (by exact T.f_isinstance) (by exact se_var 1 (by exact rfl) (by exact .inl (by exact rfl))) (by exact pe_glob (by exact rfl) (by exact T.g_Web) (by exact rfl)) (by exact ClsV.own _))) (by exact sa_nil))) (by exact fun _ => rfl))) (by exact sss_one (by exact ss_ret (by exact se_bl))) (by exact sss_nil)) (by exact sss_cons (by exact ss_if (by exact st_not (by exact st_val (by exact se_blt (by exact c_all) (by exact cr_all (by exact rfl)) (by exact rfl) (by exact T.f_all) (by exact rfl) (by exact sa_cons (by exact se_lc false (by exact rfl) (by exact rfl) (by exact sc_are_pool_webs.nd) (by exact si_seq (by exact rfl) (by exact se_var 0 (by exact rfl) (by exact .inr (by exact .inl (by exact rfl))))) (own := [("web", 1)]) (by exact blkB_ok (by exact rfl)) (by decide) (by exact fun _ _ _ _ _ => pg_name (by exact sc_are_pool_webs.nd) (by exact rfl) (by exact .inl (by exact rfl)) (by first | exact .inl rfl | exact .inr rfl)) (by exact fun _ _ _ _ _ _ => spt_nil) (by exact fun _ _ _ _ _ _ => se_eq (by exact rfl) (by exact hu64 (by exact hr)) (by exact so_prop (L := LM) (by exact rfl) (by exact o_Web_size) (by exact rfl) (by exact hr.mono (by decide)) (by exact T.c_Web) (by exact T.p_Web_size) (by exact se_var 1 (by exact rfl) (by exact .inl (by exact rfl)))) (by exact so_prop (L := LM) (by exact rfl) (by exact o_Web_size) (by exact rfl) (by exact hr.mono (by decide)) (by exact T.c_Web) (by exact T.p_Web_size) (by exact se_ix (by exact rfl) (by exact se_var 0 (by exact rfl) (by exact .inr (by exact .inl (by exact rfl)))) (by exact se_int) (by exact fun _ _ => rfl))))) (by exact sa_nil))) (by exact fun _ => rfl))) (by exact sss_one (by exact ss_ret (by exact se_bl))) (by exact sss_nil)) (by exact sss_one (by exact ss_ret (by exact se_eq (by exact rfl) (by exact hu64 (by exact hr)) (by exact se_lenSet (by exact rfl) (by exact rfl) (by exact hu64 (by exact hr)) (by exact rfl) (by exact T.f_len) (by exact rfl) (by exact T.f_set) (by exact se_lc false (by exact rfl) (by exact rfl) (by exact sc_are_pool_webs.nd) (by exact si_seq (by exact rfl) (by exact se_var 0 (by exact rfl) (by exact .inr (by exact .inl (by exact rfl))))) (own := [("web", 1)]) (by exact blkB_ok (by exact rfl)) (by decide) (by exact fun _ _ _ _ _ => pg_name (by exact sc_are_pool_webs.nd) (by exact rfl) (by exact .inl (by exact rfl)) (by first | exact .inl rfl | exact .inr rfl)) (by exact fun _ _ _ _ _ _ => spt_nil) (by exact fun _ _ _ _ _ _ => so_prop (L := LM) (by exact rfl) (by exact o_Web_heard) (by exact rfl) (by exact hr.mono (by decide)) (by exact T.c_Web) (by exact T.p_Web_heard) (by exact se_var 1 (by exact rfl) (by exact .inl (by exact rfl)))))) (by exact se_blt (by exact c_len) (by exact call_len) (by exact rfl) (by exact T.f_len) (by exact rfl) (by exact sa_cons (by exact se_var 0 (by exact rfl) (by exact .inr (by exact .inl (by exact rfl)))) (by exact sa_nil))))))))
theorem ok_houses_in_all (T : Fx K mg)  : Ok LM P w K mg base d_houses_in_all 1 ["size", "rows"] F_houses_in_all :=
  Ok.make false T.d_houses_in_all sc_houses_in_all rfl (fun _ _ _ _ _ _ us hl => match us, hl with | [_, _], _ => rfl) fun cdv A outer s H E z hr =>
    by exact sss_one (by exact ss_ret (by exact se_bty (by exact c_tuple) (by exact call_tuple_of) (by exact rfl) (by exact T.f_tuple) (by exact rfl) (by exact sa_cons (by exact se_lc false (by exact rfl) (by exact rfl) (by exact sc_houses_in_all.nd) (by exact si_range1 (by exact rfl) (by exact T.f_range) (by exact se_var 0 (by exact rfl) (by exact .inl (by exact rfl)))) (own := [("house", 2)]) (by exact blkB_ok (by exact rfl)) (by decide) (by exact fun _ _ _ _ _ => pg_name (by exact sc_houses_in_all.nd) (by exact rfl) (by exact .inr (by exact rfl)) (by first | exact .inl rfl | exact .inr rfl)) (by exact fun _ _ _ _ _ _ => spt_one (by exact st_val (by exact se_blt (by exact c_all) (by exact cr_all (by exact rfl)) (by exact rfl) (by exact T.f_all) (by exact rfl) (by exact sa_cons (by exact se_lc false (by exact rfl) (by exact rfl) (by exact sc_houses_in_all.nd) (by exact si_seq (by exact rfl) (by exact se_var 1 (by exact rfl) (by exact .inr (by exact .inl (by exact rfl))))) (own := [("row", 3)]) (by exact blkB_ok (by exact rfl)) (by decide) (by exact fun _ _ _ _ _ => pg_name (by exact sc_houses_in_all.nd) (by exact rfl) (by exact .inl (by exact rfl)) (by first | exact .inl rfl | exact .inr rfl)) (by exact fun _ _ _ _ _ _ => spt_nil) (by exact fun _ _ _ _ _ _ => se_in (by exact rfl) (by exact hu65 (by exact hr)) (by exact se_var 2 (by exact rfl) (by exact .inr (by exact .inl (by exact rfl)))) (by exact se_var 3 (by exact rfl) (by exact .inl (by exact rfl))))) (by exact sa_nil))) (by exact fun _ => rfl))) (by exact fun _ _ _ _ _ _ => se_var 2 (by exact rfl) (by exact .inr (by exact .inl (by exact rfl))))) (by exact sa_nil))))
theorem ok_Pool___init__ (T : Fx K mg) (o_are_pool_webs : Ok LM P w K mg base d_are_pool_webs 3 ["value"] F_are_pool_webs) (o_Web_size : Ok LM P w K mg base d_Web_size 1 ["self"] F_Web_size) (o_Web_roots : Ok LM P w K mg base d_Web_roots 1 ["self"] F_Web_roots) (o_houses_in_all : Ok LM P w K mg base d_houses_in_all 1 ["size", "rows"] F_houses_in_all) : Ok LM P w K mg base d_Pool___init__ 4 ["self", "webs"] F_Pool___init__ :=
  Ok.make false T.d_Pool___init__ sc_Pool___init__ rfl (fun _ _ _ _ _ _ us hl => match us, hl with | [_, _], _ => rfl) fun cdv A outer s H E z hr =>
    by exact sss_cons (by exact ss_if (by exact st_not (by exact st_val (by exact so_call (L := LM) (by exact rfl) (by exact o_are_pool_webs) (by exact rfl) (by exact hr.mono (by decide)) (by exact rfl) (by exact T.g_are_pool_webs) (by exact pass_cx) (by exact sa_cons (by exact se_var 1 (by exact rfl) (by exact .inl (by exact rfl))) (by exact sa_nil))) (by exact fun _ => rfl))) (by exact sss_never) (by exact sss_nil)) (by exact sss_cons (by exact ss_fld (by exact rfl) (by exact T.c_Pool) (by exact T.a_Pool__webs) (by exact se_var 0 (by exact rfl) (by exact .inl (by exact rfl))) (by exact se_var 1 (by exact rfl) (by exact .inl (by exact rfl)))) (by exact sss_cons (by exact ss_fld (by exact rfl) (by exact T.c_Pool) (by exact T.a_Pool__size) (by exact se_var 0 (by exact rfl) (by exact .inl (by exact rfl))) (by exact so_prop (L := LM) (by exact rfl) (by exact o_Web_size) (by exact rfl) (by exact hr.mono (by decide)) (by exact T.c_Web) (by exact T.p_Web_size) (by exact se_ix (by exact rfl) (by exact se_var 1 (by exact rfl) (by exact .inl (by exact rfl))) (by exact se_int) (by exact fun _ _ => rfl)))) (by exact sss_cons (by exact ss_fld (by exact rfl) (by exact T.c_Pool) (by exact T.a_Pool__roots) (by exact se_var 0 (by exact rfl) (by exact .inl (by exact rfl))) (by exact se_bty (by exact c_tuple) (by exact call_tuple_of) (by exact rfl) (by exact T.f_tuple) (by exact rfl) (by exact sa_cons (by exact se_lc false (by exact rfl) (by exact rfl) (by exact sc_Pool___init__.nd) (by exact si_seq (by exact rfl) (by exact se_var 1 (by exact rfl) (by exact .inl (by exact rfl)))) (own := [("web", 2)]) (by exact blkB_ok (by exact rfl)) (by decide) (by exact fun _ _ _ _ _ => pg_name (by exact sc_Pool___init__.nd) (by exact rfl) (by exact .inl (by exact rfl)) (by first | exact .inl rfl | exact .inr rfl)) (by exact fun _ _ _ _ _ _ => spt_nil) (by exact fun _ _ _ _ _ _ => so_prop (L := LM) (by exact rfl) (by exact o_Web_roots) (by exact rfl) (by exact hr.mono (by decide)) (by exact T.c_Web) (by exact T.p_Web_roots) (by exact se_var 2 (by exact rfl) (by exact .inl (by exact rfl))))) (by exact sa_nil)))) (by exact sss_one (by exact ss_fld (by exact rfl) (by exact T.c_Pool) (by exact T.a_Pool__always) (by exact se_var 0 (by exact rfl) (by exact .inl (by exact rfl))) (by exact so_call (L := LM) (by exact rfl) (by exact o_houses_in_all) (by exact rfl) (by exact hr.mono (by decide)) (by exact rfl) (by exact T.g_houses_in_all) (by exact pass_cx) (by exact sa_cons (by exact se_fld (by exact rfl) (by exact T.c_Pool) (by exact T.a_Pool__size) (by exact se_var 0 (by exact rfl) (by exact .inl (by exact rfl)))) (by exact sa_cons (by exact se_fld (by exact rfl) (by exact T.c_Pool) (by exact T.a_Pool__roots) (by exact se_var 0 (by exact rfl) (by exact .inl (by exact rfl)))) (by exact sa_nil)))))))))
theorem ok_Pool_size (T : Fx K mg)  : Ok LM P w K mg base d_Pool_size 1 ["self"] F_Pool_size :=
  Ok.make false T.d_Pool_size sc_Pool_size rfl (fun _ _ _ _ _ _ us hl => match us, hl with | [_], _ => rfl) fun cdv A outer s H E z hr =>
    by exact sss_one (by exact ss_ret (by exact se_fld (by exact rfl) (by exact T.c_Pool) (by exact T.a_Pool__size) (by exact se_var 0 (by exact rfl) (by exact .inl (by exact rfl)))))
theorem ok_Pool_roots (T : Fx K mg)  : Ok LM P w K mg base d_Pool_roots 1 ["self"] F_Pool_roots :=
  Ok.make false T.d_Pool_roots sc_Pool_roots rfl (fun _ _ _ _ _ _ us hl => match us, hl with | [_], _ => rfl) fun cdv A outer s H E z hr =>
    by exact sss_one (by exact ss_ret (by exact se_fld (by exact rfl) (by exact T.c_Pool) (by exact T.a_Pool__roots) (by exact se_var 0 (by exact rfl) (by exact .inl (by exact rfl)))))
theorem ok_Pool_always (T : Fx K mg)  : Ok LM P w K mg base d_Pool_always 1 ["self"] F_Pool_always :=
  Ok.make false T.d_Pool_always sc_Pool_always rfl (fun _ _ _ _ _ _ us hl => match us, hl with | [_], _ => rfl) fun cdv A outer s H E z hr =>
    by exact sss_one (by exact ss_ret (by exact se_fld (by exact rfl) (by exact T.c_Pool) (by exact T.a_Pool__always) (by exact se_var 0 (by exact rfl) (by exact .inl (by exact rfl)))))
theorem ok_Pool__chosen (T : Fx K mg) (o_Pool___init__ : Ok LM P w K mg base d_Pool___init__ 4 ["self", "webs"] F_Pool___init__) : Ok LM P w K mg base d_Pool__chosen 6 ["self", "indices"] F_Pool__chosen :=
  Ok.make false T.d_Pool__chosen sc_Pool__chosen rfl (fun _ _ _ _ _ _ us hl => match us, hl with | [_, _], _ => rfl) fun cdv A outer s H E z hr =>
    by exact sss_one (by exact ss_ret (by exact so_make (L := LM) false (by exact rfl) (by exact o_Pool___init__) (by exact rfl) (by exact hr.mono (by decide)) (by exact T.mk_Pool) (by exact rfl) (by exact T.g_Pool) (by exact pass_cx) (by exact sa_cons (by exact se_bty (by exact c_tuple) (by exact call_tuple_of) (by exact rfl) (by exact T.f_tuple) (by exact rfl) (by exact sa_cons (by exact se_lc false (by exact rfl) (by exact rfl) (by exact sc_Pool__chosen.nd) (by exact si_seq (by exact rfl) (by exact se_var 1 (by exact rfl) (by exact .inl (by exact rfl)))) (own := [("index", 2)]) (by exact blkB_ok (by exact rfl)) (by decide) (by exact fun _ _ _ _ _ => pg_name (by exact sc_Pool__chosen.nd) (by exact rfl) (by exact .inl (by exact rfl)) (by first | exact .inl rfl | exact .inr rfl)) (by exact fun _ _ _ _ _ _ => spt_nil) (by exact fun _ _ _ _ _ _ => se_ix (by exact rfl) (by exact se_fld (by exact rfl) (by exact T.c_Pool) (by exact T.a_Pool__webs) (by exact se_var 0 (by exact rfl) (by exact .inr (by exact .inl (by exact rfl))))) (by exact se_var 2 (by exact rfl) (by exact .inl (by exact rfl))) (by exact fun _ _ => rfl))) (by exact sa_nil))) (by exact sa_nil))))
theorem ok_Pool_reordered (T : Fx K mg) (o_is_order : Ok LM P w K mg base d_is_order 5 ["value", "many"] F_is_order) (o_Pool__chosen : Ok LM P w K mg base d_Pool__chosen 6 ["self", "indices"] F_Pool__chosen) : Ok LM P w K mg base d_Pool_reordered 7 ["self", "indices"] F_Pool_reordered :=
  Ok.make false T.d_Pool_reordered sc_Pool_reordered rfl (fun _ _ _ _ _ _ us hl => match us, hl with | [_, _], _ => rfl) fun cdv A outer s H E z hr =>
    by exact sss_cons (by exact ss_if (by exact st_not (by exact st_val (by exact so_call (L := LM) (by exact rfl) (by exact o_is_order) (by exact rfl) (by exact hr.mono (by decide)) (by exact rfl) (by exact T.g_is_order) (by exact pass_cx) (by exact sa_cons (by exact se_var 1 (by exact rfl) (by exact .inl (by exact rfl))) (by exact sa_cons (by exact se_blt (by exact c_len) (by exact call_len) (by exact rfl) (by exact T.f_len) (by exact rfl) (by exact sa_cons (by exact se_fld (by exact rfl) (by exact T.c_Pool) (by exact T.a_Pool__webs) (by exact se_var 0 (by exact rfl) (by exact .inl (by exact rfl)))) (by exact sa_nil))) (by exact sa_nil)))) (by exact fun _ => rfl))) (by exact sss_never) (by exact sss_nil)) (by exact sss_one (by exact ss_ret (by exact so_meth (L := LM) (by exact rfl) (by exact o_Pool__chosen) (by exact rfl) (by exact hr.mono (by decide)) (by exact T.c_Pool) (by exact T.m_Pool__chosen) (by exact pass_cx) (by exact se_var 0 (by exact rfl) (by exact .inl (by exact rfl))) (by exact sa_cons (by exact se_var 1 (by exact rfl) (by exact .inl (by exact rfl))) (by exact sa_nil)))))
theorem ok_Pool_renumbered (T : Fx K mg) (o_Web_renumbered : Ok LM P w K mg base d_Web_renumbered 10 ["self", "numbers"] F_Web_renumbered) (o_Pool___init__ : Ok LM P w K mg base d_Pool___init__ 4 ["self", "webs"] F_Pool___init__) : Ok LM P w K mg base d_Pool_renumbered 11 ["self", "numbers"] F_Pool_renumbered :=
  Ok.make false T.d_Pool_renumbered sc_Pool_renumbered rfl (fun _ _ _ _ _ _ us hl => match us, hl with | [_, _], _ => rfl) fun cdv A outer s H E z hr =>
    by exact sss_one (by exact ss_ret (by exact so_make (L := LM) false (by exact rfl) (by exact o_Pool___init__) (by exact rfl) (by exact hr.mono (by decide)) (by exact T.mk_Pool) (by exact rfl) (by exact T.g_Pool) (by exact pass_cx) (by exact sa_cons (by exact se_bty (by exact c_tuple) (by exact call_tuple_of) (by exact rfl) (by exact T.f_tuple) (by exact rfl) (by exact sa_cons (by exact se_lc false (by exact rfl) (by exact rfl) (by exact sc_Pool_renumbered.nd) (by exact si_seq (by exact rfl) (by exact se_fld (by exact rfl) (by exact T.c_Pool) (by exact T.a_Pool__webs) (by exact se_var 0 (by exact rfl) (by exact .inl (by exact rfl))))) (own := [("web", 2)]) (by exact blkB_ok (by exact rfl)) (by decide) (by exact fun _ _ _ _ _ => pg_name (by exact sc_Pool_renumbered.nd) (by exact rfl) (by exact .inl (by exact rfl)) (by first | exact .inl rfl | exact .inr rfl)) (by exact fun _ _ _ _ _ _ => spt_nil) (by exact fun _ _ _ _ _ _ => so_meth (L := LM) (by exact rfl) (by exact o_Web_renumbered) (by exact rfl) (by exact hr.mono (by decide)) (by exact T.c_Web) (by exact T.m_Web_renumbered) (by exact pass_e0) (by exact se_var 2 (by exact rfl) (by exact .inl (by exact rfl))) (by exact sa_cons (by exact se_var 1 (by exact rfl) (by exact .inr (by exact .inl (by exact rfl)))) (by exact sa_nil)))) (by exact sa_nil))) (by exact sa_nil))))
theorem ok_Pool___len__ (T : Fx K mg)  : Ok LM P w K mg base d_Pool___len__ 1 ["self"] F_Pool___len__ :=
  Ok.make false T.d_Pool___len__ sc_Pool___len__ rfl (fun _ _ _ _ _ _ us hl => match us, hl with | [_], _ => rfl) fun cdv A outer s H E z hr =>
    by exact sss_one (by exact ss_ret (by exact se_blt (by exact c_len) (by exact call_len) (by exact rfl) (by exact T.f_len) (by exact rfl) (by exact sa_cons (by exact se_fld (by exact rfl) (by exact T.c_Pool) (by exact T.a_Pool__webs) (by exact se_var 0 (by exact rfl) (by exact .inl (by exact rfl)))) (by exact sa_nil))))
theorem ok_Pool___getitem__ (T : Fx K mg) (o_check_index : Ok LM P w K mg base d_check_index 4 ["value", "many"] F_check_index) : Ok LM P w K mg base d_Pool___getitem__ 5 ["self", "index"] F_Pool___getitem__ :=
  Ok.make false T.d_Pool___getitem__ sc_Pool___getitem__ rfl (fun _ _ _ _ _ _ us hl => match us, hl with | [_, _], _ => rfl) fun cdv A outer s H E z hr =>
    by exact sss_cons (by exact ss_exp (by exact so_call (L := LM) (by exact rfl) (by exact o_check_index) (by exact rfl) (by exact hr.mono (by decide)) (by exact rfl) (by exact T.g_check_index) (by exact pass_cx) (by exact sa_cons (by exact se_var 1 (by exact rfl) (by exact .inl (by exact rfl))) (by exact sa_cons (by exact se_blt (by exact c_len) (by exact call_len) (by exact rfl) (by exact T.f_len) (by exact rfl) (by exact sa_cons (by exact se_fld (by exact rfl) (by exact T.c_Pool) (by exact T.a_Pool__webs) (by exact se_var 0 (by exact rfl) (by exact .inl (by exact rfl)))) (by exact sa_nil))) (by exact sa_nil))))) (by exact sss_one (by exact ss_ret (by exact se_ix (by exact rfl) (by exact se_fld (by exact rfl) (by exact T.c_Pool) (by exact T.a_Pool__webs) (by exact se_var 0 (by exact rfl) (by exact .inl (by exact rfl)))) (by exact se_var 1 (by exact rfl) (by exact .inl (by exact rfl))) (by exact fun _ _ => rfl))))
theorem ok_Pool___iter__ (T : Fx K mg) : OkIt P w K mg base d_Pool___iter__ 1 "Pool" "_webs" :=
  OkIt.make T.d_Pool___iter__ sc_Pool___iter__ T.c_Pool T.a_Pool__webs T.f_iter rfl rfl (fun _ _ _ _ _ _ us hl => match us, hl with | [_], _ => rfl) (fun _ _ _ _ _ _ => rfl) (fun _ _ _ _ _ _ => .inl rfl)
theorem ok__law_cask (T : Fx K mg)  : Ok LM P w K mg base d__law_cask 1 ["_law_script", "_law_at"] F__law_cask :=
  Ok.make true T.d__law_cask sc__law_cask rfl (fun _ _ _ _ _ _ us hl => match us, hl with | [_, _], _ => rfl) fun cdv A outer s H E z hr =>
    by exact sss_cons (by exact ss_asg (by exact se_if (by exact st_lt (by exact se_var 1 (by exact rfl) (by exact .inl (by exact rfl))) (by exact se_blt (by exact c_len) (by exact call_len) (by exact rfl) (by exact T.f_len) (by exact rfl) (by exact sa_cons (by exact se_var 0 (by exact rfl) (by exact .inl (by exact rfl))) (by exact sa_nil)))) (by exact se_ix (by exact rfl) (by exact se_var 0 (by exact rfl) (by exact .inl (by exact rfl))) (by exact se_var 1 (by exact rfl) (by exact .inl (by exact rfl))) (by exact fun _ _ => rfl)) (by exact se_add (by exact rfl) (by exact se_mul (by exact se_int) (by exact se_var 1 (by exact rfl) (by exact .inl (by exact rfl)))) (by exact se_int))) (by exact sg_name (by exact sc__law_cask.nd) (by exact rfl) (by exact .inl (by exact rfl)) (by exact .inl (by exact rfl)))) (by exact sss_cons (by exact ss_asg (by exact se_mod (by exact se_bty (by exact c_int) (by exact call_int1) (by exact rfl) (by exact T.f_int) (by exact rfl) (by exact sa_cons (by exact se_blt (by exact c_abs) (by exact call_abs) (by exact rfl) (by exact T.f_abs) (by exact rfl) (by exact sa_cons (by exact se_var 2 (by exact rfl) (by exact .inl (by exact rfl))) (by exact sa_nil))) (by exact sa_nil))) (by exact se_pow (by exact se_pow (by exact se_int) (by exact se_int)) (by exact se_int))) (by exact sg_name (by exact sc__law_cask.nd) (by exact rfl) (by exact .inl (by exact rfl)) (by exact .inl (by exact rfl)))) (by exact sss_cons (by exact ss_asg (by exact se_mod (by exact se_bty (by exact c_int) (by exact call_int1) (by exact rfl) (by exact T.f_int) (by exact rfl) (by exact sa_cons (by exact se_add (by exact rfl) (by exact se_add (by exact rfl) (by exact se_add (by exact rfl) (by exact se_var 3 (by exact rfl) (by exact .inl (by exact rfl))) (by exact se_mul (by exact se_int) (by exact se_var 1 (by exact rfl) (by exact .inl (by exact rfl))))) (by exact se_mul (by exact se_int) (by exact se_bty (by exact c_int) (by exact call_int1) (by exact rfl) (by exact T.f_int) (by exact rfl) (by exact sa_cons (by exact se_lt (by exact se_var 2 (by exact rfl) (by exact .inl (by exact rfl))) (by exact se_int)) (by exact sa_nil))))) (by exact se_int)) (by exact sa_nil))) (by exact se_add (by exact rfl) (by exact se_pow (by exact se_int) (by exact se_int)) (by exact se_int))) (by exact sg_name (by exact sc__law_cask.nd) (by exact rfl) (by exact .inl (by exact rfl)) (by exact .inl (by exact rfl)))) (by exact sss_one (by exact ss_ret (by exact se_cel (by exact sa_cons (by exact se_if (by exact st_gt (by exact se_var 3 (by exact rfl) (by exact .inl (by exact rfl))) (by exact se_pow (by exact se_int) (by exact se_int))) (by exact se_sub (by exact se_var 3 (by exact rfl) (by exact .inl (by exact rfl))) (by exact se_pow (by exact se_int) (by exact se_int))) (by exact se_int)) (by exact sa_cons (by exact se_var 4 (by exact rfl) (by exact .inl (by exact rfl))) (by exact sa_cons (by exact se_int) (by exact sa_nil)))))))))
theorem ok__law_scoop (T : Fx K mg)  : Ok LM P w K mg base d__law_scoop 1 ["_law_cask_here", "_law_total"] F__law_scoop :=
  Ok.make false T.d__law_scoop sc__law_scoop rfl (fun _ _ _ _ _ _ us hl => match us, hl with | [_, _], _ => rfl) fun cdv A outer s H E z hr =>
    by exact sss_cons (by exact ss_if (by exact st_gt (by exact se_ix (by exact rfl) (by exact se_var 0 (by exact rfl) (by exact .inl (by exact rfl))) (by exact se_int) (by exact fun _ _ => rfl)) (by exact se_int)) (by exact sss_cons (by exact ss_asg (by exact se_mod (by exact se_bty (by exact c_int) (by exact call_int1) (by exact rfl) (by exact T.f_int) (by exact rfl) (by exact sa_cons (by exact se_ix (by exact rfl) (by exact se_var 0 (by exact rfl) (by exact .inl (by exact rfl))) (by exact se_int) (by exact fun _ _ => rfl)) (by exact sa_nil))) (by exact se_var 1 (by exact rfl) (by exact .inl (by exact rfl)))) (by exact sg_name (by exact sc__law_scoop.nd) (by exact rfl) (by exact .inl (by exact rfl)) (by exact .inl (by exact rfl)))) (by exact sss_cons (by exact ss_asg (by exact se_fdiv (by exact se_ix (by exact rfl) (by exact se_var 0 (by exact rfl) (by exact .inl (by exact rfl))) (by exact se_int) (by exact fun _ _ => rfl)) (by exact se_var 1 (by exact rfl) (by exact .inl (by exact rfl)))) (by exact sg_ix (by exact se_var 0 (by exact rfl) (by exact .inl (by exact rfl))) (by exact se_int))) (by exact sss_one (by exact ss_ret (by exact se_var 5 (by exact rfl) (by exact .inl (by exact rfl))))))) (by exact sss_nil)) (by exact sss_cons (by exact ss_asg (by exact se_add (by exact rfl) (by exact se_ix (by exact rfl) (by exact se_var 0 (by exact rfl) (by exact .inl (by exact rfl))) (by exact se_int) (by exact fun _ _ => rfl)) (by exact se_int)) (by exact sg_ix (by exact se_var 0 (by exact rfl) (by exact .inl (by exact rfl))) (by exact se_int))) (by exact sss_cons (by exact ss_asg (by exact se_mod (by exact se_bty (by exact c_int) (by exact call_int1) (by exact rfl) (by exact T.f_int) (by exact rfl) (by exact sa_cons (by exact se_add (by exact rfl) (by exact se_ix (by exact rfl) (by exact se_var 0 (by exact rfl) (by exact .inl (by exact rfl))) (by exact se_int) (by exact fun _ _ => rfl)) (by exact se_mul (by exact se_int) (by exact se_ix (by exact rfl) (by exact se_var 0 (by exact rfl) (by exact .inl (by exact rfl))) (by exact se_int) (by exact fun _ _ => rfl)))) (by exact sa_nil))) (by exact se_int)) (by exact sg_name (by exact sc__law_scoop.nd) (by exact rfl) (by exact .inl (by exact rfl)) (by exact .inl (by exact rfl)))) (by exact sss_cons (by exact ss_asg (by exact se_mod (by exact se_bty (by exact c_int) (by exact call_int1) (by exact rfl) (by exact T.f_int) (by exact rfl) (by exact sa_cons (by exact se_add (by exact rfl) (by exact se_add (by exact rfl) (by exact se_mul (by exact se_var 2 (by exact rfl) (by exact .inl (by exact rfl))) (by exact se_var 2 (by exact rfl) (by exact .inl (by exact rfl)))) (by exact se_fdiv (by exact se_ix (by exact rfl) (by exact se_var 0 (by exact rfl) (by exact .inl (by exact rfl))) (by exact se_int) (by exact fun _ _ => rfl)) (by exact se_int))) (by exact se_mul (by exact se_int) (by exact se_ix (by exact rfl) (by exact se_var 0 (by exact rfl) (by exact .inl (by exact rfl))) (by exact se_int) (by exact fun _ _ => rfl)))) (by exact sa_nil))) (by exact se_int)) (by exact sg_name (by exact sc__law_scoop.nd) (by exact rfl) (by exact .inl (by exact rfl)) (by exact .inl (by exact rfl)))) (by exact sss_cons (by exact ss_asg (by exact se_mod (by exact se_bty (by exact c_int) (by exact call_int1) (by exact rfl) (by exact T.f_int) (by exact rfl) (by exact sa_cons (by exact se_add (by exact rfl) (by exact se_mul (by exact se_var 3 (by exact rfl) (by exact .inl (by exact rfl))) (by exact se_var 3 (by exact rfl) (by exact .inl (by exact rfl)))) (by exact se_var 2 (by exact rfl) (by exact .inl (by exact rfl)))) (by exact sa_nil))) (by exact se_int)) (by exact sg_name (by exact sc__law_scoop.nd) (by exact rfl) (by exact .inl (by exact rfl)) (by exact .inl (by exact rfl)))) (by exact sss_one (by exact ss_ret (by exact se_mod (by exact se_bty (by exact c_int) (by exact call_int1) (by exact rfl) (by exact T.f_int) (by exact rfl) (by exact sa_cons (by exact se_fdiv (by exact se_var 4 (by exact rfl) (by exact .inl (by exact rfl))) (by exact se_int)) (by exact sa_nil))) (by exact se_var 1 (by exact rfl) (by exact .inl (by exact rfl))))))))))
theorem ok__law_any_of (T : Fx K mg) (o__law_scoop : Ok LM P w K mg base d__law_scoop 1 ["_law_cask_here", "_law_total"] F__law_scoop) : Ok LM P w K mg base d__law_any_of 2 ["_law_cask_here", "_law_items"] F__law_any_of :=
  Ok.make false T.d__law_any_of sc__law_any_of rfl (fun _ _ _ _ _ _ us hl => match us, hl with | [_, _], _ => rfl) fun cdv A outer s H E z hr =>
    by exact sss_one (by exact ss_ret (by exact se_ix (by exact rfl) (by exact se_var 1 (by exact rfl) (by exact .inl (by exact rfl))) (by exact so_call (L := LM) (by exact rfl) (by exact o__law_scoop) (by exact rfl) (by exact hr.mono (by decide)) (by exact rfl) (by exact T.g__law_scoop) (by exact pass_cx) (by exact sa_cons (by exact se_var 0 (by exact rfl) (by exact .inl (by exact rfl))) (by exact sa_cons (by exact se_blt (by exact c_len) (by exact call_len) (by exact rfl) (by exact T.f_len) (by exact rfl) (by exact sa_cons (by exact se_var 1 (by exact rfl) (by exact .inl (by exact rfl))) (by exact sa_nil))) (by exact sa_nil)))) (by exact fun _ _ => rfl)))
theorem ok__law_few_of (T : Fx K mg) (o__law_scoop : Ok LM P w K mg base d__law_scoop 1 ["_law_cask_here", "_law_total"] F__law_scoop) : Ok LM P w K mg base d__law_few_of 2 ["_law_cask_here", "_law_items", "_law_count"] F__law_few_of :=
  Ok.make false T.d__law_few_of sc__law_few_of rfl (fun _ _ _ _ _ _ us hl => match us, hl with | [_, _, _], _ => rfl) fun cdv A outer s H E z hr =>
    by exact sss_cons (by exact ss_par (i := 4) (j := 5) (by exact rfl) (by exact sc__law_few_of.nd) (by exact rfl) (by exact rfl) (by decide) (by exact rfl) (by exact rfl) (by exact sa_cons (by exact se_bty (by exact c_listC) (by exact call_list_of) (by exact rfl) (by exact T.f_list) (by exact rfl) (by exact sa_cons (by exact se_var 1 (by exact rfl) (by exact .inl (by exact rfl))) (by exact sa_nil))) (by exact sa_cons (by exact se_cel (by exact sa_nil)) (by exact sa_nil))) (by rfl)) (by exact sss_cons (by exact ss_for (by exact own_cx) (by exact rfl) (by exact si_range1 (by exact rfl) (by exact T.f_range) (by exact se_blt (by exact c_two) (by exact call_min2 (by exact rfl)) (by exact rfl) (by exact T.f_min) (by exact rfl) (by exact sa_cons (by exact se_var 2 (by exact rfl) (by exact .inl (by exact rfl))) (by exact sa_cons (by exact se_blt (by exact c_len) (by exact call_len) (by exact rfl) (by exact T.f_len) (by exact rfl) (by exact sa_cons (by exact se_var 1 (by exact rfl) (by exact .inl (by exact rfl))) (by exact sa_nil))) (by exact sa_nil))))) (by exact sg_name (by exact sc__law_few_of.nd) (by exact rfl) (by exact .inl (by exact rfl)) (by exact .inl (by exact rfl))) (by exact sss_one (by exact ss_exp (by exact se_append (by exact rfl) (by exact se_var 5 (by exact rfl) (by exact .inl (by exact rfl))) (by exact se_popAt (by exact rfl) (by exact se_var 4 (by exact rfl) (by exact .inl (by exact rfl))) (by exact so_call (L := LM) (by exact rfl) (by exact o__law_scoop) (by exact rfl) (by exact hr.mono (by decide)) (by exact rfl) (by exact T.g__law_scoop) (by exact pass_cx) (by exact sa_cons (by exact se_var 0 (by exact rfl) (by exact .inl (by exact rfl))) (by exact sa_cons (by exact se_blt (by exact c_len) (by exact call_len) (by exact rfl) (by exact T.f_len) (by exact rfl) (by exact sa_cons (by exact se_var 4 (by exact rfl) (by exact .inl (by exact rfl))) (by exact sa_nil))) (by exact sa_nil))))))))) (by exact sss_one (by exact ss_ret (by exact se_var 5 (by exact rfl) (by exact .inl (by exact rfl))))))
theorem ok__law_rows (T : Fx K mg) (o__law_scoop : Ok LM P w K mg base d__law_scoop 1 ["_law_cask_here", "_law_total"] F__law_scoop) (o__law_any_of : Ok LM P w K mg base d__law_any_of 2 ["_law_cask_here", "_law_items"] F__law_any_of) (o__law_few_of : Ok LM P w K mg base d__law_few_of 2 ["_law_cask_here", "_law_items", "_law_count"] F__law_few_of) : Ok LM P w K mg base d__law_rows 3 ["_law_cask_here", "_law_size"] F__law_rows :=
  Ok.make false T.d__law_rows sc__law_rows rfl (fun _ _ _ _ _ _ us hl => match us, hl with | [_, _], _ => rfl) fun cdv A outer s H E z hr =>
    by exact sss_cons (by exact ss_par (i := 3) (j := 4) (by exact rfl) (by exact sc__law_rows.nd) (by exact rfl) (by exact rfl) (by decide) (by exact rfl) (by exact rfl) (by exact sa_cons (by exact so_call (L := LM) (by exact rfl) (by exact o__law_scoop) (by exact rfl) (by exact hr.mono (by decide)) (by exact rfl) (by exact T.g__law_scoop) (by exact pass_cx) (by exact sa_cons (by exact se_var 0 (by exact rfl) (by exact .inl (by exact rfl))) (by exact sa_cons (by exact se_int) (by exact sa_nil)))) (by exact sa_cons (by exact se_cel (by exact sa_nil)) (by exact sa_nil))) (by rfl)) (by exact sss_cons (by exact ss_for (by exact own_cx) (by exact rfl) (by exact si_range1 (by exact rfl) (by exact T.f_range) (by exact se_var 1 (by exact rfl) (by exact .inl (by exact rfl)))) (by exact sg_name (by exact sc__law_rows.nd) (by exact rfl) (by exact .inr (by exact rfl)) (by exact .inl (by exact rfl))) (by exact sss_cons (by exact ss_setLc false (by exact rfl) (by exact rfl) (by exact sc__law_rows.nd) (by exact rfl) (by exact rfl) (by exact rfl) (by exact si_range1 (by exact rfl) (by exact T.f_range) (by exact se_var 1 (by exact rfl) (by exact .inl (by exact rfl)))) (own := [("_law_one", 7)]) (by exact blkB_ok (by exact rfl)) (by decide) (by exact fun _ _ _ _ _ => pg_name (by exact sc__law_rows.nd) (by exact rfl) (by exact .inl (by exact rfl)) (by first | exact .inl rfl | exact .inr rfl)) (by exact fun _ _ _ _ _ _ => spt_one (by exact st_ne (by exact rfl) (by exact hu64 (by exact hr)) (by exact se_var 7 (by exact rfl) (by exact .inl (by exact rfl))) (by exact se_var 2 (by exact rfl) (by exact .inr (by exact .inl (by exact rfl)))))) (by exact fun _ _ _ _ _ _ => se_var 7 (by exact rfl) (by exact .inl (by exact rfl)))) (by exact sss_cons (by exact ss_asg (by exact se_blt (by exact c_two) (by exact call_min2 (by exact rfl)) (by exact rfl) (by exact T.f_min) (by exact rfl) (by exact sa_cons (by exact se_blt (by exact c_len) (by exact call_len) (by exact rfl) (by exact T.f_len) (by exact rfl) (by exact sa_cons (by exact se_var 5 (by exact rfl) (by exact .inl (by exact rfl))) (by exact sa_nil))) (by exact sa_cons (by exact so_call (L := LM) (by exact rfl) (by exact o__law_any_of) (by exact rfl) (by exact hr.mono (by decide)) (by exact rfl) (by exact T.g__law_any_of) (by exact pass_cx) (by exact sa_cons (by exact se_var 0 (by exact rfl) (by exact .inl (by exact rfl))) (by exact sa_cons (by exact se_ix (by exact rfl) (by exact se_fl (by exact sa_cons (by exact se_fl (by exact sa_cons (by exact se_int) (by exact sa_cons (by exact se_int) (by exact sa_cons (by exact se_int) (by exact sa_cons (by exact se_int) (by exact sa_nil)))))) (by exact sa_cons (by exact se_fl (by exact sa_cons (by exact se_int) (by exact sa_nil))) (by exact sa_cons (by exact se_fl (by exact sa_cons (by exact se_int) (by exact sa_cons (by exact se_int) (by exact sa_nil)))) (by exact sa_cons (by exact se_fl (by exact sa_cons (by exact se_int) (by exact sa_cons (by exact se_int) (by exact sa_cons (by exact se_int) (by exact sa_cons (by exact se_int) (by exact sa_nil)))))) (by exact sa_cons (by exact se_fl (by exact sa_cons (by exact se_int) (by exact sa_nil))) (by exact sa_nil))))))) (by exact se_var 3 (by exact rfl) (by exact .inl (by exact rfl))) (by exact fun _ _ => rfl)) (by exact sa_nil)))) (by exact sa_nil)))) (by exact sg_name (by exact sc__law_rows.nd) (by exact rfl) (by exact .inl (by exact rfl)) (by exact .inl (by exact rfl)))) (by exact sss_one (by exact ss_exp (by exact se_append (by exact rfl) (by exact se_var 4 (by exact rfl) (by exact .inl (by exact rfl))) (by exact se_bty (by exact c_tuple) (by exact call_tuple_of) (by exact rfl) (by exact T.f_tuple) (by exact rfl) (by exact sa_cons (by exact se_blt (by exact c_sort) (by exact cr_sortedI) (by exact rfl) (by exact T.f_sorted) (by exact rfl) (by exact sa_cons (by exact so_call (L := LM) (by exact rfl) (by exact o__law_few_of) (by exact rfl) (by exact hr.mono (by decide)) (by exact rfl) (by exact T.g__law_few_of) (by exact pass_cx) (by exact sa_cons (by exact se_var 0 (by exact rfl) (by exact .inl (by exact rfl))) (by exact sa_cons (by exact se_var 5 (by exact rfl) (by exact .inl (by exact rfl))) (by exact sa_cons (by exact se_var 6 (by exact rfl) (by exact .inl (by exact rfl))) (by exact sa_nil))))) (by exact sa_nil))) (by exact sa_nil))))))))) (by exact sss_one (by exact ss_ret (by exact se_bty (by exact c_tuple) (by exact call_tuple_of) (by exact rfl) (by exact T.f_tuple) (by exact rfl) (by exact sa_cons (by exact se_var 4 (by exact rfl) (by exact .inl (by exact rfl))) (by exact sa_nil))))))
theorem ok__law_pool_rows (T : Fx K mg) (o__law_scoop : Ok LM P w K mg base d__law_scoop 1 ["_law_cask_here", "_law_total"] F__law_scoop) (o__law_rows : Ok LM P w K mg base d__law_rows 3 ["_law_cask_here", "_law_size"] F__law_rows) (o__law_any_of : Ok LM P w K mg base d__law_any_of 2 ["_law_cask_here", "_law_items"] F__law_any_of) : Ok LM P w K mg base d__law_pool_rows 4 ["_law_cask_here", "_law_size", "_law_most"] F__law_pool_rows :=
  Ok.make false T.d__law_pool_rows sc__law_pool_rows rfl (fun _ _ _ _ _ _ us hl => match us, hl with | [_, _, _], _ => rfl) fun cdv A outer s H E z hr =>
    by exact sss_cons (by exact ss_asg (by exact se_cel (by exact sa_nil)) (by exact sg_name (by exact sc__law_pool_rows.nd) (by exact rfl) (by exact .inl (by exact rfl)) (by exact .inl (by exact rfl)))) (by exact sss_cons (by exact ss_for (by exact own_cx) (by exact rfl) (by exact si_range1 (by exact rfl) (by exact T.f_range) (by exact se_add (by exact rfl) (by exact se_int) (by exact so_call (L := LM) (by exact rfl) (by exact o__law_scoop) (by exact rfl) (by exact hr.mono (by decide)) (by exact rfl) (by exact T.g__law_scoop) (by exact pass_cx) (by exact sa_cons (by exact se_var 0 (by exact rfl) (by exact .inl (by exact rfl))) (by exact sa_cons (by exact se_var 2 (by exact rfl) (by exact .inl (by exact rfl))) (by exact sa_nil)))))) (by exact sg_name (by exact sc__law_pool_rows.nd) (by exact rfl) (by exact .inl (by exact rfl)) (by exact .inl (by exact rfl))) (by exact sss_cons (by exact ss_asg (by exact so_call (L := LM) (by exact rfl) (by exact o__law_rows) (by exact rfl) (by exact hr.mono (by decide)) (by exact rfl) (by exact T.g__law_rows) (by exact pass_cx) (by exact sa_cons (by exact se_var 0 (by exact rfl) (by exact .inl (by exact rfl))) (by exact sa_cons (by exact se_var 1 (by exact rfl) (by exact .inr (by exact .inl (by exact rfl)))) (by exact sa_nil)))) (by exact sg_name (by exact sc__law_pool_rows.nd) (by exact rfl) (by exact .inl (by exact rfl)) (by exact .inl (by exact rfl)))) (by exact sss_cons (by exact ss_if (by exact st_eq (by exact rfl) (by exact hu64 (by exact hr)) (by exact so_call (L := LM) (by exact rfl) (by exact o__law_scoop) (by exact rfl) (by exact hr.mono (by decide)) (by exact rfl) (by exact T.g__law_scoop) (by exact pass_cx) (by exact sa_cons (by exact se_var 0 (by exact rfl) (by exact .inl (by exact rfl))) (by exact sa_cons (by exact se_int) (by exact sa_nil)))) (by exact se_int)) (by exact sss_cons (by exact ss_asg (by exact so_call (L := LM) (by exact rfl) (by exact o__law_scoop) (by exact rfl) (by exact hr.mono (by decide)) (by exact rfl) (by exact T.g__law_scoop) (by exact pass_cx) (by exact sa_cons (by exact se_var 0 (by exact rfl) (by exact .inl (by exact rfl))) (by exact sa_cons (by exact se_var 1 (by exact rfl) (by exact .inr (by exact .inl (by exact rfl)))) (by exact sa_nil)))) (by exact sg_name (by exact sc__law_pool_rows.nd) (by exact rfl) (by exact .inr (by exact rfl)) (by exact .inl (by exact rfl)))) (by exact sss_cons (by exact ss_asg (by exact se_bty (by exact c_tuple) (by exact call_tuple_of) (by exact rfl) (by exact T.f_tuple) (by exact rfl) (by exact sa_cons (by exact se_lc false (by exact rfl) (by exact rfl) (by exact sc__law_pool_rows.nd) (by exact si_range1 (by exact rfl) (by exact T.f_range) (by exact se_var 1 (by exact rfl) (by exact .inr (by exact .inl (by exact rfl))))) (own := [("_law_one", 10)]) (by exact blkB_ok (by exact rfl)) (by decide) (by exact fun _ _ _ _ _ => pg_name (by exact sc__law_pool_rows.nd) (by exact rfl) (by exact .inl (by exact rfl)) (by first | exact .inl rfl | exact .inr rfl)) (by exact fun _ _ _ _ _ _ => spt_nil) (by exact fun _ _ _ _ _ _ => se_if (by exact st_eq (by exact rfl) (by exact hu64 (by exact hr)) (by exact se_var 10 (by exact rfl) (by exact .inl (by exact rfl))) (by exact se_var 6 (by exact rfl) (by exact .inr (by exact .inl (by exact rfl))))) (by exact se_tup (by exact sa_nil)) (by exact se_tup (by exact sa_cons (by exact se_var 6 (by exact rfl) (by exact .inr (by exact .inl (by exact rfl)))) (by exact sa_nil))))) (by exact sa_nil))) (by exact sg_name (by exact sc__law_pool_rows.nd) (by exact rfl) (by exact .inl (by exact rfl)) (by exact .inl (by exact rfl)))) (by exact sss_cons (by exact ss_asg (by exact se_bty (by exact c_tuple) (by exact call_tuple_of) (by exact rfl) (by exact T.f_tuple) (by exact rfl) (by exact sa_cons (by exact se_lc false (by exact rfl) (by exact rfl) (by exact sc__law_pool_rows.nd) (by exact si_range1 (by exact rfl) (by exact T.f_range) (by exact se_var 1 (by exact rfl) (by exact .inr (by exact .inl (by exact rfl))))) (own := [("_law_one", 10)]) (by exact blkB_ok (by exact rfl)) (by decide) (by exact fun _ _ _ _ _ => pg_name (by exact sc__law_pool_rows.nd) (by exact rfl) (by exact .inl (by exact rfl)) (by first | exact .inl rfl | exact .inr rfl)) (by exact fun _ _ _ _ _ _ => spt_nil) (by exact fun _ _ _ _ _ _ => se_if (by exact st_eq (by exact rfl) (by exact hu64 (by exact hr)) (by exact se_var 10 (by exact rfl) (by exact .inl (by exact rfl))) (by exact se_var 6 (by exact rfl) (by exact .inr (by exact .inl (by exact rfl))))) (by exact se_tup (by exact sa_nil)) (by exact se_tup (by exact sa_cons (by exact se_mod (by exact se_sub (by exact se_add (by exact rfl) (by exact se_var 10 (by exact rfl) (by exact .inl (by exact rfl))) (by exact se_var 1 (by exact rfl) (by exact .inr (by exact .inl (by exact rfl))))) (by exact se_int)) (by exact se_var 1 (by exact rfl) (by exact .inr (by exact .inl (by exact rfl))))) (by exact sa_nil))))) (by exact sa_nil))) (by exact sg_name (by exact sc__law_pool_rows.nd) (by exact rfl) (by exact .inl (by exact rfl)) (by exact .inl (by exact rfl)))) (by exact sss_cons (by exact ss_asg (by exact se_bty (by exact c_tuple) (by exact call_tuple_of) (by exact rfl) (by exact T.f_tuple) (by exact rfl) (by exact sa_cons (by exact se_lc false (by exact rfl) (by exact rfl) (by exact sc__law_pool_rows.nd) (by exact si_range1 (by exact rfl) (by exact T.f_range) (by exact se_var 1 (by exact rfl) (by exact .inr (by exact .inl (by exact rfl))))) (own := [("_law_one", 10)]) (by exact blkB_ok (by exact rfl)) (by decide) (by exact fun _ _ _ _ _ => pg_name (by exact sc__law_pool_rows.nd) (by exact rfl) (by exact .inr (by exact rfl)) (by first | exact .inl rfl | exact .inr rfl)) (by exact fun _ _ _ _ _ _ => spt_nil) (by exact fun _ _ _ _ _ _ => se_bty (by exact c_tuple) (by exact call_tuple_of) (by exact rfl) (by exact T.f_tuple) (by exact rfl) (by exact sa_cons (by exact se_lc false (by exact rfl) (by exact rfl) (by exact sc__law_pool_rows.nd) (by exact si_range1 (by exact rfl) (by exact T.f_range) (by exact se_var 1 (by exact rfl) (by exact .inr (by exact .inl (by exact rfl))))) (own := [("_law_far", 11)]) (by exact blkB_ok (by exact rfl)) (by decide) (by exact fun _ _ _ _ _ => pg_name (by exact sc__law_pool_rows.nd) (by exact rfl) (by exact .inl (by exact rfl)) (by first | exact .inl rfl | exact .inr rfl)) (by exact fun _ _ _ _ _ _ => spt_one (by exact st_ne (by exact rfl) (by exact hu64 (by exact hr)) (by exact se_var 11 (by exact rfl) (by exact .inl (by exact rfl))) (by exact se_var 10 (by exact rfl) (by exact .inr (by exact .inl (by exact rfl)))))) (by exact fun _ _ _ _ _ _ => se_var 11 (by exact rfl) (by exact .inl (by exact rfl)))) (by exact sa_nil)))) (by exact sa_nil))) (by exact sg_name (by exact sc__law_pool_rows.nd) (by exact rfl) (by exact .inl (by exact rfl)) (by exact .inl (by exact rfl)))) (by exact sss_one (by exact ss_asg (by exact so_call (L := LM) (by exact rfl) (by exact o__law_any_of) (by exact rfl) (by exact hr.mono (by decide)) (by exact rfl) (by exact T.g__law_any_of) (by exact pass_cx) (by exact sa_cons (by exact se_var 0 (by exact rfl) (by exact .inl (by exact rfl))) (by exact sa_cons (by exact se_fl (by exact sa_cons (by exact se_var 7 (by exact rfl) (by exact .inl (by exact rfl))) (by exact sa_cons (by exact se_var 8 (by exact rfl) (by exact .inl (by exact rfl))) (by exact sa_cons (by exact se_var 9 (by exact rfl) (by exact .inl (by exact rfl))) (by exact sa_nil))))) (by exact sa_nil)))) (by exact sg_name (by exact sc__law_pool_rows.nd) (by exact rfl) (by exact .inl (by exact rfl)) (by exact .inl (by exact rfl))))))))) (by exact sss_nil)) (by exact sss_one (by exact ss_if (by exact st_notIn (by exact rfl) (by exact hu65 (by exact hr)) (by exact se_var 5 (by exact rfl) (by exact .inl (by exact rfl))) (by exact se_var 3 (by exact rfl) (by exact .inl (by exact rfl)))) (by exact sss_one (by exact ss_exp (by exact se_append (by exact rfl) (by exact se_var 3 (by exact rfl) (by exact .inl (by exact rfl))) (by exact se_var 5 (by exact rfl) (by exact .inl (by exact rfl)))))) (by exact sss_nil)))))) (by exact sss_one (by exact ss_ret (by exact se_var 3 (by exact rfl) (by exact .inl (by exact rfl))))))
theorem ok__law_pool_of (T : Fx K mg) (o_Web___init__ : Ok LM P w K mg base d_Web___init__ 7 ["self", "heard"] F_Web___init__) (o_Pool___init__ : Ok LM P w K mg base d_Pool___init__ 4 ["self", "webs"] F_Pool___init__) : Ok LM P w K mg base d__law_pool_of 9 ["_law_rows_here"] F__law_pool_of :=
  Ok.make false T.d__law_pool_of sc__law_pool_of rfl (fun _ _ _ _ _ _ us hl => match us, hl with | [_], _ => rfl) fun cdv A outer s H E z hr =>
    by exact sss_one (by exact ss_ret (by exact so_make (L := LM) false (by exact rfl) (by exact o_Pool___init__) (by exact rfl) (by exact hr.mono (by decide)) (by exact T.mk_Pool) (by exact rfl) (by exact T.g_Pool) (by exact pass_cx) (by exact sa_cons (by exact se_bty (by exact c_tuple) (by exact call_tuple_of) (by exact rfl) (by exact T.f_tuple) (by exact rfl) (by exact sa_cons (by exact se_lc false (by exact rfl) (by exact rfl) (by exact sc__law_pool_of.nd) (by exact si_seq (by exact rfl) (by exact se_var 0 (by exact rfl) (by exact .inl (by exact rfl)))) (own := [("_law_row", 1)]) (by exact blkB_ok (by exact rfl)) (by decide) (by exact fun _ _ _ _ _ => pg_name (by exact sc__law_pool_of.nd) (by exact rfl) (by exact .inl (by exact rfl)) (by first | exact .inl rfl | exact .inr rfl)) (by exact fun _ _ _ _ _ _ => spt_nil) (by exact fun _ _ _ _ _ _ => so_make (L := LM) false (by exact rfl) (by exact o_Web___init__) (by exact rfl) (by exact hr.mono (by decide)) (by exact T.mk_Web) (by exact rfl) (by exact T.g_Web) (by exact pass_e0) (by exact sa_cons (by exact se_var 1 (by exact rfl) (by exact .inl (by exact rfl))) (by exact sa_nil)))) (by exact sa_nil))) (by exact sa_nil))))
theorem ok__law_heralds (T : Fx K mg) (o_Web_size : Ok LM P w K mg base d_Web_size 1 ["self"] F_Web_size) (o_Web_hears : Ok LM P w K mg base d_Web_hears 5 ["self", "house"] F_Web_hears) : Ok LM P w K mg base d__law_heralds 6 ["_law_web"] F__law_heralds :=
  Ok.make false T.d__law_heralds sc__law_heralds rfl (fun _ _ _ _ _ _ us hl => match us, hl with | [_], _ => rfl) fun cdv A outer s H E z hr =>
    by exact sss_cons (by exact ss_asg (by exact so_prop (L := LM) (by exact rfl) (by exact o_Web_size) (by exact rfl) (by exact hr.mono (by decide)) (by exact T.c_Web) (by exact T.p_Web_size) (by exact se_var 0 (by exact rfl) (by exact .inr (by exact .inl (by exact rfl))))) (by exact sg_name (by exact sc__law_heralds.nd) (by exact rfl) (by exact .inr (by exact rfl)) (by exact .inl (by exact rfl)))) (by exact sss_one (by exact ss_ret (by exact se_lc false (by exact rfl) (by exact rfl) (by exact sc__law_heralds.nd) (by exact si_range1 (by exact rfl) (by exact T.f_range) (by exact se_var 1 (by exact rfl) (by exact .inr (by exact .inl (by exact rfl))))) (own := [("_law_house", 2)]) (by exact blkB_ok (by exact rfl)) (by decide) (by exact fun _ _ _ _ _ => pg_name (by exact sc__law_heralds.nd) (by exact rfl) (by exact .inr (by exact rfl)) (by first | exact .inl rfl | exact .inr rfl)) (by exact fun _ _ _ _ _ _ => spt_one (by exact st_eq (by exact rfl) (by exact hu64 (by exact hr)) (by exact se_lc false (by exact rfl) (by exact rfl) (by exact sc__law_heralds.nd) (by exact si_range1 (by exact rfl) (by exact T.f_range) (by exact se_var 1 (by exact rfl) (by exact .inr (by exact .inl (by exact rfl))))) (own := [("_law_one", 3)]) (by exact blkB_ok (by exact rfl)) (by decide) (by exact fun _ _ _ _ _ => pg_name (by exact sc__law_heralds.nd) (by exact rfl) (by exact .inl (by exact rfl)) (by first | exact .inl rfl | exact .inr rfl)) (by exact fun _ _ _ _ _ _ => spt_one (by exact st_notIn (by exact rfl) (by exact hu65 (by exact hr)) (by exact se_var 2 (by exact rfl) (by exact .inr (by exact .inl (by exact rfl)))) (by exact so_meth (L := LM) (by exact rfl) (by exact o_Web_hears) (by exact rfl) (by exact hr.mono (by decide)) (by exact T.c_Web) (by exact T.m_Web_hears) (by exact pass_e0) (by exact se_var 0 (by exact rfl) (by exact .inr (by exact .inl (by exact rfl)))) (by exact sa_cons (by exact se_var 3 (by exact rfl) (by exact .inl (by exact rfl))) (by exact sa_nil))))) (by exact fun _ _ _ _ _ _ => se_var 3 (by exact rfl) (by exact .inl (by exact rfl)))) (by exact se_fl (by exact sa_nil)))) (by exact fun _ _ _ _ _ _ => se_var 2 (by exact rfl) (by exact .inr (by exact .inl (by exact rfl)))))))
theorem ok__law_behind (T : Fx K mg) (o_Pool_size : Ok LM P w K mg base d_Pool_size 1 ["self"] F_Pool_size) (o_silent_web : Ok LM P w K mg base d_silent_web 10 ["size"] F_silent_web) (o_Web_then : Ok LM P w K mg base d_Web_then 9 ["self", "other"] F_Web_then) (o_Pool___getitem__ : Ok LM P w K mg base d_Pool___getitem__ 5 ["self", "index"] F_Pool___getitem__) : Ok LM P w K mg base d__law_behind 11 ["_law_pool", "_law_word"] F__law_behind :=
  Ok.make false T.d__law_behind sc__law_behind rfl (fun _ _ _ _ _ _ us hl => match us, hl with | [_, _], _ => rfl) fun cdv A outer s H E z hr =>
    by exact sss_cons (by exact ss_asg (by exact so_call (L := LM) (by exact rfl) (by exact o_silent_web) (by exact rfl) (by exact hr.mono (by decide)) (by exact rfl) (by exact T.g_silent_web) (by exact pass_cx) (by exact sa_cons (by exact so_prop (L := LM) (by exact rfl) (by exact o_Pool_size) (by exact rfl) (by exact hr.mono (by decide)) (by exact T.c_Pool) (by exact T.p_Pool_size) (by exact se_var 0 (by exact rfl) (by exact .inl (by exact rfl)))) (by exact sa_nil))) (by exact sg_name (by exact sc__law_behind.nd) (by exact rfl) (by exact .inl (by exact rfl)) (by exact .inl (by exact rfl)))) (by exact sss_cons (by exact ss_for (by exact own_cx) (by exact rfl) (by exact si_seq (by exact rfl) (by exact se_var 1 (by exact rfl) (by exact .inl (by exact rfl)))) (by exact sg_name (by exact sc__law_behind.nd) (by exact rfl) (by exact .inl (by exact rfl)) (by exact .inl (by exact rfl))) (by exact sss_one (by exact ss_asg (by exact so_meth (L := LM) (by exact rfl) (by exact o_Web_then) (by exact rfl) (by exact hr.mono (by decide)) (by exact T.c_Web) (by exact T.m_Web_then) (by exact pass_cx) (by exact se_var 2 (by exact rfl) (by exact .inl (by exact rfl))) (by exact sa_cons (by exact so_ixO (L := LM) (by exact rfl) (by exact o_Pool___getitem__) (by exact hr.mono (by decide)) (by exact T.sp_Pool___getitem__) (by exact T.fi_Pool___getitem__) (by exact se_var 0 (by exact rfl) (by exact .inl (by exact rfl))) (by exact se_var 3 (by exact rfl) (by exact .inl (by exact rfl))) (by exact fun _ _ => rfl)) (by exact sa_nil))) (by exact sg_name (by exact sc__law_behind.nd) (by exact rfl) (by exact .inl (by exact rfl)) (by exact .inl (by exact rfl)))))) (by exact sss_one (by exact ss_ret (by exact se_var 2 (by exact rfl) (by exact .inl (by exact rfl))))))
theorem ok__law_right (T : Fx K mg) (o__law_scoop : Ok LM P w K mg base d__law_scoop 1 ["_law_cask_here", "_law_total"] F__law_scoop) (o__law_pool_rows : Ok LM P w K mg base d__law_pool_rows 4 ["_law_cask_here", "_law_size", "_law_most"] F__law_pool_rows) (o__law_pool_of : Ok LM P w K mg base d__law_pool_of 9 ["_law_rows_here"] F__law_pool_of) (o_Pool___len__ : Ok LM P w K mg base d_Pool___len__ 1 ["self"] F_Pool___len__) (o_Pool_always : Ok LM P w K mg base d_Pool_always 1 ["self"] F_Pool_always) (o__law_behind : Ok LM P w K mg base d__law_behind 11 ["_law_pool", "_law_word"] F__law_behind) (o__law_heralds : Ok LM P w K mg base d__law_heralds 6 ["_law_web"] F__law_heralds) (o_Pool_roots : Ok LM P w K mg base d_Pool_roots 1 ["self"] F_Pool_roots) (o__law_few_of : Ok LM P w K mg base d__law_few_of 2 ["_law_cask_here", "_law_items", "_law_count"] F__law_few_of) (o_Pool___iter__ : OkIt P w K mg base d_Pool___iter__ 1 "Pool" "_webs") (o_Web_roots : Ok LM P w K mg base d_Web_roots 1 ["self"] F_Web_roots) (o_Pool_reordered : Ok LM P w K mg base d_Pool_reordered 7 ["self", "indices"] F_Pool_reordered) (o_Pool_renumbered : Ok LM P w K mg base d_Pool_renumbered 11 ["self", "numbers"] F_Pool_renumbered) : Ok LM P w K mg base d__law_right 12 ["_law_cask_here"] F__law_right :=
  Ok.make false T.d__law_right sc__law_right rfl (fun _ _ _ _ _ _ us hl => match us, hl with | [_], _ => rfl) fun cdv A outer s H E z hr =>
    by exact sss_cons (by exact ss_asg (by exact se_add (by exact rfl) (by exact se_int) (by exact so_call (L := LM) (by exact rfl) (by exact o__law_scoop) (by exact rfl) (by exact hr.mono (by decide)) (by exact rfl) (by exact T.g__law_scoop) (by exact pass_cx) (by exact sa_cons (by exact se_var 0 (by exact rfl) (by exact .inr (by exact .inl (by exact rfl)))) (by exact sa_cons (by exact se_int) (by exact sa_nil))))) (by exact sg_name (by exact sc__law_right.nd) (by exact rfl) (by exact .inl (by exact rfl)) (by exact .inl (by exact rfl)))) (by exact sss_cons (by exact ss_asg (by exact so_call (L := LM) (by exact rfl) (by exact o__law_pool_of) (by exact rfl) (by exact hr.mono (by decide)) (by exact rfl) (by exact T.g__law_pool_of) (by exact pass_cx) (by exact sa_cons (by exact so_call (L := LM) (by exact rfl) (by exact o__law_pool_rows) (by exact rfl) (by exact hr.mono (by decide)) (by exact rfl) (by exact T.g__law_pool_rows) (by exact pass_cx) (by exact sa_cons (by exact se_var 0 (by exact rfl) (by exact .inr (by exact .inl (by exact rfl)))) (by exact sa_cons (by exact se_var 1 (by exact rfl) (by exact .inl (by exact rfl))) (by exact sa_cons (by exact se_int) (by exact sa_nil))))) (by exact sa_nil))) (by exact sg_name (by exact sc__law_right.nd) (by exact rfl) (by exact .inr (by exact rfl)) (by exact .inl (by exact rfl)))) (by exact sss_cons (by exact ss_for (by exact own_cx) (by exact rfl) (by exact si_range1 (by exact rfl) (by exact T.f_range) (by exact se_int)) (by exact sg_name (by exact sc__law_right.nd) (by exact rfl) (by exact .inl (by exact rfl)) (by exact .inl (by exact rfl))) (by exact sss_cons (by exact ss_asg (by exact se_lc false (by exact rfl) (by exact rfl) (by exact sc__law_right.nd) (by exact si_range1 (by exact rfl) (by exact T.f_range) (by exact se_sub (by exact se_var 1 (by exact rfl) (by exact .inl (by exact rfl))) (by exact se_int))) (own := [("_law_again", 12)]) (by exact blkB_ok (by exact rfl)) (by decide) (by exact fun _ _ _ _ _ => pg_name (by exact sc__law_right.nd) (by exact rfl) (by exact .inl (by exact rfl)) (by first | exact .inl rfl | exact .inr rfl)) (by exact fun _ _ _ _ _ _ => spt_nil) (by exact fun _ _ _ _ _ _ => so_call (L := LM) (by exact rfl) (by exact o__law_scoop) (by exact rfl) (by exact hr.mono (by decide)) (by exact rfl) (by exact T.g__law_scoop) (by exact pass_e0) (by exact sa_cons (by exact se_var 0 (by exact rfl) (by exact .inr (by exact .inl (by exact rfl)))) (by exact sa_cons (by exact so_lenO (L := LM) (by exact rfl) (by exact o_Pool___len__) (by exact hr.mono (by decide)) (by exact T.sp_Pool___len__) (by exact rfl) (by exact T.f_len) (by exact sa_cons (by exact se_var 2 (by exact rfl) (by exact .inr (by exact .inl (by exact rfl)))) (by exact sa_nil))) (by exact sa_nil))))) (by exact sg_name (by exact sc__law_right.nd) (by exact rfl) (by exact .inr (by exact rfl)) (by exact .inl (by exact rfl)))) (by exact sss_one (by exact ss_if (by exact st_ne (by exact rfl) (by exact hu64 (by exact hr)) (by exact se_lc false (by exact rfl) (by exact rfl) (by exact sc__law_right.nd) (by exact si_seq (by exact rfl) (by exact so_prop (L := LM) (by exact rfl) (by exact o_Pool_always) (by exact rfl) (by exact hr.mono (by decide)) (by exact T.c_Pool) (by exact T.p_Pool_always) (by exact se_var 2 (by exact rfl) (by exact .inr (by exact .inl (by exact rfl)))))) (own := [("_law_house", 4)]) (by exact blkB_ok (by exact rfl)) (by decide) (by exact fun _ _ _ _ _ => pg_name (by exact sc__law_right.nd) (by exact rfl) (by exact .inl (by exact rfl)) (by first | exact .inl rfl | exact .inr rfl)) (by exact fun _ _ _ _ _ _ => spt_one (by exact st_notIn (by exact rfl) (by exact hu65 (by exact hr)) (by exact se_var 4 (by exact rfl) (by exact .inl (by exact rfl))) (by exact so_call (L := LM) (by exact rfl) (by exact o__law_heralds) (by exact rfl) (by exact hr.mono (by decide)) (by exact rfl) (by exact T.g__law_heralds) (by exact pass_e0) (by exact sa_cons (by exact so_call (L := LM) (by exact rfl) (by exact o__law_behind) (by exact rfl) (by exact hr.mono (by decide)) (by exact rfl) (by exact T.g__law_behind) (by exact pass_e0) (by exact sa_cons (by exact se_var 2 (by exact rfl) (by exact .inr (by exact .inl (by exact rfl)))) (by exact sa_cons (by exact se_var 9 (by exact rfl) (by exact .inr (by exact .inl (by exact rfl)))) (by exact sa_nil)))) (by exact sa_nil))))) (by exact fun _ _ _ _ _ _ => se_var 4 (by exact rfl) (by exact .inl (by exact rfl)))) (by exact se_fl (by exact sa_nil))) (by exact sss_one (by exact ss_ret (by exact se_bl))) (by exact sss_nil))))) (by exact sss_cons (by exact ss_for (by exact own_cx) (by exact rfl) (by exact si_range1 (by exact rfl) (by exact T.f_range) (by exact se_var 1 (by exact rfl) (by exact .inl (by exact rfl)))) (by exact sg_name (by exact sc__law_right.nd) (by exact rfl) (by exact .inr (by exact rfl)) (by exact .inl (by exact rfl))) (by exact sss_one (by exact ss_if (by exact st_notIn (by exact rfl) (by exact hu65 (by exact hr)) (by exact se_var 4 (by exact rfl) (by exact .inr (by exact .inl (by exact rfl)))) (by exact so_prop (L := LM) (by exact rfl) (by exact o_Pool_always) (by exact rfl) (by exact hr.mono (by decide)) (by exact T.c_Pool) (by exact T.p_Pool_always) (by exact se_var 2 (by exact rfl) (by exact .inr (by exact .inl (by exact rfl)))))) (by exact sss_cons (by exact ss_setLc false (by exact rfl) (by exact rfl) (by exact sc__law_right.nd) (by exact rfl) (by exact rfl) (by exact rfl) (by exact si_range1 (by exact rfl) (by exact T.f_range) (by exact so_lenO (L := LM) (by exact rfl) (by exact o_Pool___len__) (by exact hr.mono (by decide)) (by exact T.sp_Pool___len__) (by exact rfl) (by exact T.f_len) (by exact sa_cons (by exact se_var 2 (by exact rfl) (by exact .inr (by exact .inl (by exact rfl)))) (by exact sa_nil)))) (own := [("_law_at", 13)]) (by exact blkB_ok (by exact rfl)) (by decide) (by exact fun _ _ _ _ _ => pg_name (by exact sc__law_right.nd) (by exact rfl) (by exact .inl (by exact rfl)) (by first | exact .inl rfl | exact .inr rfl)) (by exact fun _ _ _ _ _ _ => spt_one (by exact st_notIn (by exact rfl) (by exact hu65 (by exact hr)) (by exact se_var 4 (by exact rfl) (by exact .inr (by exact .inl (by exact rfl)))) (by exact se_ix (by exact rfl) (by exact so_prop (L := LM) (by exact rfl) (by exact o_Pool_roots) (by exact rfl) (by exact hr.mono (by decide)) (by exact T.c_Pool) (by exact T.p_Pool_roots) (by exact se_var 2 (by exact rfl) (by exact .inr (by exact .inl (by exact rfl))))) (by exact se_var 13 (by exact rfl) (by exact .inl (by exact rfl))) (by exact fun _ _ => rfl)))) (by exact fun _ _ _ _ _ _ => se_var 13 (by exact rfl) (by exact .inl (by exact rfl)))) (by exact sss_one (by exact ss_if (by exact PW.pt (by exact sw_or (by exact st_eq (by exact rfl) (by exact hu64 (by exact hr)) (by exact se_var 10 (by exact rfl) (by exact .inl (by exact rfl))) (by exact se_fl (by exact sa_nil))) (by exact sw_or1 (by exact st_in (by exact rfl) (by exact hu65 (by exact hr)) (by exact se_var 4 (by exact rfl) (by exact .inr (by exact .inl (by exact rfl)))) (by exact so_call (L := LM) (by exact rfl) (by exact o__law_heralds) (by exact rfl) (by exact hr.mono (by decide)) (by exact rfl) (by exact T.g__law_heralds) (by exact pass_cx) (by exact sa_cons (by exact so_call (L := LM) (by exact rfl) (by exact o__law_behind) (by exact rfl) (by exact hr.mono (by decide)) (by exact rfl) (by exact T.g__law_behind) (by exact pass_cx) (by exact sa_cons (by exact se_var 2 (by exact rfl) (by exact .inr (by exact .inl (by exact rfl)))) (by exact sa_cons (by exact se_rep (by exact se_slice (by exact rfl) (by exact se_var 10 (by exact rfl) (by exact .inl (by exact rfl))) (by exact so_none) (by exact so_some (by exact se_int))) (by exact se_int)) (by exact sa_nil)))) (by exact sa_nil))))))) (by exact sss_one (by exact ss_ret (by exact se_bl))) (by exact sss_nil)))) (by exact sss_nil)))) (by exact sss_cons (by exact ss_asg (by exact se_bty (by exact c_tuple) (by exact call_tuple_of) (by exact rfl) (by exact T.f_tuple) (by exact rfl) (by exact sa_cons (by exact so_call (L := LM) (by exact rfl) (by exact o__law_few_of) (by exact rfl) (by exact hr.mono (by decide)) (by exact rfl) (by exact T.g__law_few_of) (by exact pass_cx) (by exact sa_cons (by exact se_var 0 (by exact rfl) (by exact .inr (by exact .inl (by exact rfl)))) (by exact sa_cons (by exact se_listRg (by exact rfl) (by exact rfl) (by exact T.f_list) (by exact rfl) (by exact T.f_range) (by exact so_lenO (L := LM) (by exact rfl) (by exact o_Pool___len__) (by exact hr.mono (by decide)) (by exact T.sp_Pool___len__) (by exact rfl) (by exact T.f_len) (by exact sa_cons (by exact se_var 2 (by exact rfl) (by exact .inr (by exact .inl (by exact rfl)))) (by exact sa_nil)))) (by exact sa_cons (by exact so_lenO (L := LM) (by exact rfl) (by exact o_Pool___len__) (by exact hr.mono (by decide)) (by exact T.sp_Pool___len__) (by exact rfl) (by exact T.f_len) (by exact sa_cons (by exact se_var 2 (by exact rfl) (by exact .inr (by exact .inl (by exact rfl)))) (by exact sa_nil))) (by exact sa_nil))))) (by exact sa_nil))) (by exact sg_name (by exact sc__law_right.nd) (by exact rfl) (by exact .inl (by exact rfl)) (by exact .inl (by exact rfl)))) (by exact sss_cons (by exact ss_asg (by exact se_bty (by exact c_tq) (by exact call_tq) (by exact rfl) (by exact T.f_tuple) (by exact rfl) (by exact sa_cons (by exact so_call (L := LM) (by exact rfl) (by exact o__law_few_of) (by exact rfl) (by exact hr.mono (by decide)) (by exact rfl) (by exact T.g__law_few_of) (by exact pass_cx) (by exact sa_cons (by exact se_var 0 (by exact rfl) (by exact .inr (by exact .inl (by exact rfl)))) (by exact sa_cons (by exact se_listRg (by exact rfl) (by exact rfl) (by exact T.f_list) (by exact rfl) (by exact T.f_range) (by exact se_var 1 (by exact rfl) (by exact .inl (by exact rfl)))) (by exact sa_cons (by exact se_var 1 (by exact rfl) (by exact .inl (by exact rfl))) (by exact sa_nil))))) (by exact sa_nil))) (by exact sg_name (by exact sc__law_right.nd) (by exact rfl) (by exact .inr (by exact rfl)) (by exact .inl (by exact rfl)))) (by exact sss_cons (by exact ss_asg (by exact se_bty (by exact c_tuple) (by exact call_tuple_of) (by exact rfl) (by exact T.f_tuple) (by exact rfl) (by exact sa_cons (by exact se_lc false (by exact rfl) (by exact rfl) (by exact sc__law_right.nd) (by exact si_seq (by exact rfl) (by exact se_var 5 (by exact rfl) (by exact .inl (by exact rfl)))) (own := [("_law_at", 13)]) (by exact blkB_ok (by exact rfl)) (by decide) (by exact fun _ _ _ _ _ => pg_name (by exact sc__law_right.nd) (by exact rfl) (by exact .inl (by exact rfl)) (by first | exact .inl rfl | exact .inr rfl)) (by exact fun _ _ _ _ _ _ => spt_nil) (by exact fun _ _ _ _ _ _ => se_ix (by exact rfl) (by exact so_prop (L := LM) (by exact rfl) (by exact o_Pool_roots) (by exact rfl) (by exact hr.mono (by decide)) (by exact T.c_Pool) (by exact T.p_Pool_roots) (by exact se_var 2 (by exact rfl) (by exact .inr (by exact .inl (by exact rfl))))) (by exact se_var 13 (by exact rfl) (by exact .inl (by exact rfl))) (by exact fun _ _ => rfl))) (by exact sa_nil))) (by exact sg_name (by exact sc__law_right.nd) (by exact rfl) (by exact .inl (by exact rfl)) (by exact .inl (by exact rfl)))) (by exact sss_cons (by exact ss_if (by exact PW.pt (by exact sw_or (by exact st_ne (by exact rfl) (by exact hu64 (by exact hr)) (by exact so_prop (L := LM) (by exact rfl) (by exact o_Pool_roots) (by exact rfl) (by exact hr.mono (by decide)) (by exact T.c_Pool) (by exact T.p_Pool_roots) (by exact se_var 2 (by exact rfl) (by exact .inr (by exact .inl (by exact rfl))))) (by exact se_bty (by exact c_tuple) (by exact call_tuple_of) (by exact rfl) (by exact T.f_tuple) (by exact rfl) (by exact sa_cons (by exact se_lc false (by exact rfl) (by exact rfl) (by exact sc__law_right.nd) (by exact so_own (by exact rfl) (by exact o_Pool___iter__) (by exact hr.mono (by decide)) (by exact T.sp_Pool___iter__) (by exact se_var 2 (by exact rfl) (by exact .inr (by exact .inl (by exact rfl))))) (own := [("_law_web", 14)]) (by exact blkB_ok (by exact rfl)) (by decide) (by exact fun _ _ _ _ _ => pg_name (by exact sc__law_right.nd) (by exact rfl) (by exact .inl (by exact rfl)) (by first | exact .inl rfl | exact .inr rfl)) (by exact fun _ _ _ _ _ _ => spt_nil) (by exact fun _ _ _ _ _ _ => so_prop (L := LM) (by exact rfl) (by exact o_Web_roots) (by exact rfl) (by exact hr.mono (by decide)) (by exact T.c_Web) (by exact T.p_Web_roots) (by exact se_var 14 (by exact rfl) (by exact .inl (by exact rfl))))) (by exact sa_nil)))) (by exact sw_or1 (by exact st_ne (by exact rfl) (by exact hu64 (by exact hr)) (by exact so_prop (L := LM) (by exact rfl) (by exact o_Pool_roots) (by exact rfl) (by exact hr.mono (by decide)) (by exact T.c_Pool) (by exact T.p_Pool_roots) (by exact so_meth (L := LM) (by exact rfl) (by exact o_Pool_reordered) (by exact rfl) (by exact hr.mono (by decide)) (by exact T.c_Pool) (by exact T.m_Pool_reordered) (by exact pass_cx) (by exact se_var 2 (by exact rfl) (by exact .inr (by exact .inl (by exact rfl)))) (by exact sa_cons (by exact se_var 5 (by exact rfl) (by exact .inl (by exact rfl))) (by exact sa_nil)))) (by exact se_var 7 (by exact rfl) (by exact .inl (by exact rfl))))))) (by exact sss_one (by exact ss_ret (by exact se_bl))) (by exact sss_nil)) (by exact sss_cons (by exact ss_setLc false (by exact rfl) (by exact rfl) (by exact sc__law_right.nd) (by exact rfl) (by exact rfl) (by exact rfl) (by exact si_seq (by exact rfl) (by exact so_prop (L := LM) (by exact rfl) (by exact o_Pool_roots) (by exact rfl) (by exact hr.mono (by decide)) (by exact T.c_Pool) (by exact T.p_Pool_roots) (by exact se_var 2 (by exact rfl) (by exact .inr (by exact .inl (by exact rfl)))))) (own := [("_law_row", 11)]) (by exact blkB_ok (by exact rfl)) (by decide) (by exact fun _ _ _ _ _ => pg_name (by exact sc__law_right.nd) (by exact rfl) (by exact .inl (by exact rfl)) (by first | exact .inl rfl | exact .inr rfl)) (by exact fun _ _ _ _ _ _ => spt_nil) (by exact fun _ _ _ _ _ _ => se_bty (by exact c_tuple) (by exact call_tuple_of) (by exact rfl) (by exact T.f_tuple) (by exact rfl) (by exact sa_cons (by exact se_blt (by exact c_sort) (by exact cr_sortedI) (by exact rfl) (by exact T.f_sorted) (by exact rfl) (by exact sa_cons (by exact se_lc false (by exact rfl) (by exact rfl) (by exact sc__law_right.nd) (by exact si_seq (by exact rfl) (by exact se_var 11 (by exact rfl) (by exact .inl (by exact rfl)))) (own := [("_law_house", 4)]) (by exact blkB_ok (by exact rfl)) (by decide) (by exact fun _ _ _ _ _ => pg_name (by exact sc__law_right.nd) (by exact rfl) (by exact .inl (by exact rfl)) (by first | exact .inl rfl | exact .inr rfl)) (by exact fun _ _ _ _ _ _ => spt_nil) (by exact fun _ _ _ _ _ _ => se_ix (by exact rfl) (by exact se_wk (by exact se_var 6 (by exact rfl) (by exact .inr (by exact .inl (by exact rfl))))) (by exact se_var 4 (by exact rfl) (by exact .inl (by exact rfl))) (by exact fun _ _ => rfl))) (by exact sa_nil))) (by exact sa_nil)))) (by exact sss_one (by exact ss_ret (by exact se_eq (by exact rfl) (by exact hu64 (by exact hr)) (by exact so_prop (L := LM) (by exact rfl) (by exact o_Pool_roots) (by exact rfl) (by exact hr.mono (by decide)) (by exact T.c_Pool) (by exact T.p_Pool_roots) (by exact so_meth (L := LM) (by exact rfl) (by exact o_Pool_renumbered) (by exact rfl) (by exact hr.mono (by decide)) (by exact T.c_Pool) (by exact T.m_Pool_renumbered) (by exact pass_cx) (by exact se_var 2 (by exact rfl) (by exact .inr (by exact .inl (by exact rfl)))) (by exact sa_cons (by exact se_var 6 (by exact rfl) (by exact .inr (by exact .inl (by exact rfl)))) (by exact sa_nil)))) (by exact se_bty (by exact c_tuple) (by exact call_tuple_of) (by exact rfl) (by exact T.f_tuple) (by exact rfl) (by exact sa_cons (by exact se_var 8 (by exact rfl) (by exact .inl (by exact rfl))) (by exact sa_nil))))))))))))))
theorem ok_law (T : Fx K mg) (o__law_cask : Ok LM P w K mg base d__law_cask 1 ["_law_script", "_law_at"] F__law_cask) (o__law_right : Ok LM P w K mg base d__law_right 12 ["_law_cask_here"] F__law_right) : Ok LM P w K mg base d_law 13 ["_law_script"] F_law :=
  Ok.make false T.d_law sc_law rfl (fun _ _ _ _ _ _ us hl => match us, hl with | [_], _ => rfl) fun cdv A outer s H E z hr =>
    by exact sss_cons (by exact ss_for (by exact own_cx) (by exact rfl) (by exact si_range1 (by exact rfl) (by exact T.f_range) (by exact se_blt (by exact c_two) (by exact call_max2 (by exact rfl)) (by exact rfl) (by exact T.f_max) (by exact rfl) (by exact sa_cons (by exact se_int) (by exact sa_cons (by exact se_blt (by exact c_two) (by exact call_min2 (by exact rfl)) (by exact rfl) (by exact T.f_min) (by exact rfl) (by exact sa_cons (by exact se_int) (by exact sa_cons (by exact se_blt (by exact c_len) (by exact call_len) (by exact rfl) (by exact T.f_len) (by exact rfl) (by exact sa_cons (by exact se_var 0 (by exact rfl) (by exact .inl (by exact rfl))) (by exact sa_nil))) (by exact sa_nil)))) (by exact sa_nil))))) (by exact sg_name (by exact sc_law.nd) (by exact rfl) (by exact .inl (by exact rfl)) (by exact .inl (by exact rfl))) (by exact sss_cons (by exact ss_asg (by exact so_call (L := LM) (by exact rfl) (by exact o__law_cask) (by exact rfl) (by exact hr.mono (by decide)) (by exact rfl) (by exact T.g__law_cask) (by exact pass_cx) (by exact sa_cons (by exact se_var 0 (by exact rfl) (by exact .inl (by exact rfl))) (by exact sa_cons (by exact se_var 1 (by exact rfl) (by exact .inl (by exact rfl))) (by exact sa_nil)))) (by exact sg_name (by exact sc_law.nd) (by exact rfl) (by exact .inl (by exact rfl)) (by exact .inl (by exact rfl)))) (by exact sss_one (by exact ss_for (by exact own_cx) (by exact rfl) (by exact si_range1 (by exact rfl) (by exact T.f_range) (by exact se_int)) (by exact sg_name (by exact sc_law.nd) (by exact rfl) (by exact .inl (by exact rfl)) (by exact .inl (by exact rfl))) (by exact sss_one (by exact ss_if (by exact st_not (by exact st_val (by exact so_call (L := LM) (by exact rfl) (by exact o__law_right) (by exact rfl) (by exact hr.mono (by decide)) (by exact rfl) (by exact T.g__law_right) (by exact pass_cx) (by exact sa_cons (by exact se_var 2 (by exact rfl) (by exact .inl (by exact rfl))) (by exact sa_nil))) (by exact fun _ => rfl))) (by exact sss_one (by exact ss_ret (by exact se_bl))) (by exact sss_nil))))))) (by exact sss_one (by exact ss_ret (by exact se_bl)))
end
end RSL
end

section
set_option maxRecDepth 100000
set_option maxHeartbeats 4000000
/-! What the program's defs give at well-formed arguments. -/
namespace RSL
open PySem PySem.Spec RS
section
variable {S : Store}
theorem isi_bool_int {i : Int} : isiP tb_bool (.d (.int i)) S = .ok (.d (.bl false)) S := rfl
theorem isi_int_int {i : Int} : isiP tb_int (.d (.int i)) S = .ok (.d (.bl true)) S := rfl
theorem isi_tup {ds : List D} : isiP tb_tuple (.d (.tup ds)) S = .ok (.d (.bl true)) S := rfl
theorem isi_web {ks : List Str} {ds : List D} : isiP tb_Web (.d (.ob "Web" ks ds)) S = .ok (.d (.bl true)) S := rfl
end
def big : Int := 1000000000000000000000000000000000000000000000000000000000000
theorem is_plain_ev {i : Int} {S : Store} (h : Gd S) : F_is_plain_integer [.d (.int i)] S = .ok (.d (.bl (decide (-big < i) && decide (i < big)))) S := by
  unfold big
  by_cases h1 : (-1000000000000000000000000000000000000000000000000000000000000 < i)
  · simp [fnF, b_is_plain_integer, sSeq, sIf, orT, asB, notT, una, isi_bool_int, isi_int_int, cVar, startE, N_is_plain_integer, RS.R.bind, sRet, chn, ordP, int2, negP, cK, sNil, ltB, fnEnd, ret_d h, h1]
  · simp [fnF, b_is_plain_integer, sSeq, sIf, orT, asB, notT, una, isi_bool_int, isi_int_int, cVar, startE, N_is_plain_integer, RS.R.bind, sRet, chn, ordP, int2, negP, cK, sNil, ltB, fnEnd, ret_d h, h1]
theorem is_between_ev {i lo hi : Int} {S : Store} (h : Gd S) : F_is_between [.d (.int i), .d (.int lo), .d (.int hi)] S = .ok (.d (.bl (decide (-big < i) && decide (i < big) && (decide (lo ≤ i) && decide (i ≤ hi))))) S := by
  cases hb : (decide (-big < i) && decide (i < big)) <;> by_cases h2 : lo ≤ i <;>
    simp [fnF, b_is_between, sRet, andV, callM, aCons, aNil, cVar, startE, N_is_between, RS.R.bind, is_plain_ev h, hb, chn, ordP, int2, leB, fnEnd, ret_d h, h2]
theorem is_index_ev {i n : Int} {S : Store} (h : Gd S) (h0 : 0 ≤ i) (h1 : i < n) (h2 : n ≤ 1000) : F_is_index [.d (.int i), .d (.int n)] S = .ok (.d (.bl true)) S := by
  have a1 : -big < i := by unfold big; omega
  have a2 : i < big := by unfold big; omega
  have a3 : i ≤ n - 1 := by omega
  simp [fnF, b_is_index, sRet, callM, aCons, aNil, cVar, cK, bin, subP, int2, startE, N_is_index, RS.R.bind, is_between_ev h, fnEnd, ret_d h, a1, a2, h0, a3]
theorem check_index_ev {i n : Int} {S : Store} (h : Gd S) (h0 : 0 ≤ i) (h1 : i < n) (h2 : n ≤ 1000) : F_check_index [.d (.int i), .d (.int n)] S = .ok (.d .non) S := by
  simp [fnF, b_check_index, sIf, notT, asB, callM, aCons, aNil, cVar, startE, N_check_index, RS.R.bind, is_index_ev h h0 h1 h2, sNil, fnEnd, ret_d h]
/-- all of a list of truths -/
theorem all_ev {S : Store} {bs : List Bool} {ds : List D} (e : blsD ds = some bs) : allP false [.d (.fl ds)] S = .ok (.d (.bl (bs.all id))) S := by
  simp [allP, lstOf, e]
theorem is_index_tuple_ev {r : List Int} {n : Int} {S : Store} (h : Gd S) (hr : ∀ i ∈ r, 0 ≤ i ∧ i < n) (hn : n ≤ 1000) (hl : r.length ≤ 1000) : F_is_index_tuple [.d (encR r), .d (.int n)] S = .ok (.d (.bl true)) S := by
  have e1 := comp_map (vs := [2]) (q := seqI (cVar 0)) (tg := .one 2) (e := callM 2 F_is_index [] (aCons (cVar 2) (aCons (cVar 1) aNil))) (ρ := [some (.d (encR r)), some (.d (.int n)), none]) (S := S) D.int (fun _ : Int => D.bl true) (xs := r)
    (by simp [seqI, cVar, RS.R.bind, kd, encR]) hl (fun i hi => ⟨_, rfl, by
      simp [callM, aCons, aNil, cVar, wipeE, RS.R.bind, is_index_ev h (hr i hi).1 (hr i hi).2 hn]⟩)
  have e2 := blsD_map (fun _ : Int => true) r
  simp only [encR] at e1 ⊢
  simp [fnF, b_is_index_tuple, sRet, andV, bcall, aCons, aNil, una, cVar, startE, N_is_index_tuple, RS.R.bind, isi_tup, e1, all_ev e2, fnEnd, ret_d h]
/-- rising -/
def Asc (r : List Int) : Prop := ∀ p ∈ r.zip r.tail, p.1 < p.2
theorem is_ascending_ev {r : List Int} {n : Int} {S : Store} (h : Gd S) (hr : ∀ i ∈ r, 0 ≤ i ∧ i < n) (ha : Asc r) (hn : n ≤ 1000) (hl : r.length ≤ 1000) : F_is_ascending [.d (encR r), .d (.int n)] S = .ok (.d (.bl true)) S := by
  have e0 := is_index_tuple_ev h hr hn hl
  have e1 := comp_map (vs := [2, 3]) (q := zipI (cVar 0) (slM (cVar 0) (oSome (cK (.int 1))) oNone)) (tg := .two 2 3) (e := bin (ordP ltB) (cVar 2) (cVar 3)) (ρ := [some (.d (encR r)), some (.d (.int n)), none, none]) (S := S) (fun p : Int × Int => D.tup [.int p.1, .int p.2]) (fun _ => D.bl true) (xs := r.zip r.tail)
    (by
      have e : cutD (r.map D.int) (some 1) none = (r.map D.int).tail := (cut_from _ 1).trans (List.drop_one)
      simp [zipI, slM, slP, oSome, oNone, cK, cVar, RS.R.bind, zipP, kd, encR, zipD, e, ← List.map_tail, List.zip_map', List.zip_map, Function.comp_def, Prod.map]) (by simp; omega) (fun p hp => ⟨_, rfl, by
      have z := ha p hp
      simp [bin, cVar, wipeE, RS.R.bind, ordP, int2, ltB, z]⟩)
  have e2 := blsD_map (fun _ : Int × Int => true) (r.zip r.tail)
  simp only [encR] at e0 e1 ⊢
  simp [fnF, b_is_ascending, sRet, andV, bcall, callM, aCons, aNil, una, cVar, startE, N_is_ascending, RS.R.bind, e0, e1, all_ev e2, fnEnd, ret_d h]
theorem encR_enc : Enc (List Int) encR 1 := enc_tup enc_int
theorem encH_enc : Enc (List (List Int)) encH 2 := enc_tup encR_enc
/-- the rows of a web -/
structure WebOk (h : List (List Int)) : Prop where
  lo : 1 ≤ h.length
  hi : h.length ≤ 5
  row : ∀ p ∈ h.zipIdx, (∀ i ∈ p.1, 0 ≤ i ∧ i < h.length) ∧ Asc p.1 ∧ (p.2 : Int) ∉ p.1 ∧ p.1.length ≤ 5
theorem is_heard_ev {h : List (List Int)} {S : Store} (hS : Gd S) (w : WebOk h) : F_is_heard [.d (encH h)] S = .ok (.d (.bl true)) S := by
  have hl : (h.length : Int) ≤ 5 := by have := w.hi; omega
  have hl1 : (1 : Int) ≤ h.length := by have := w.lo; omega
  have e1 := comp_map (vs := [1, 2]) (q := enumI (cVar 0)) (tg := .two 1 2) (e := andV (callM 2 F_is_ascending [] (aCons (cVar 2) (aCons (bcall lenP (aCons (cVar 0) aNil)) aNil))) (bin (inP true) (cVar 1) (cVar 2))) (ρ := [some (.d (encH h)), none, none]) (S := S)
    (fun p : List Int × Nat => D.tup [.int (p.2 : Nat), encR p.1]) (fun _ => D.bl true) (xs := h.zipIdx)
    (by simp [enumI, cVar, RS.R.bind, enumP, kd, encH, enum_map]) (by have := w.hi; simp; omega) (fun p hp => ⟨_, rfl, by
      obtain ⟨r1, r2, r3, r4⟩ := w.row p hp
      have z1 := is_ascending_ev (n := h.length) hS r1 r2 (by omega) (by omega)
      have z2 := in_tup (S := S) (neg := true) enc_int (by decide) (p.2 : Int) p.1
      have z3 : decide ((p.2 : Int) ∈ p.1) = false := decide_eq_false r3
      rw [z3] at z2
      simp only [encR] at z1 ⊢
      simp [andV, callM, bcall, aCons, aNil, cVar, wipeE, RS.R.bind, lenP, seqOf, tupOf, encH, z1, bin, z2]⟩)
  have e2 := blsD_map (fun _ : List Int × Nat => true) h.zipIdx
  simp only [encH] at e1 ⊢
  simp [fnF, b_is_heard, sSeq, sIf, orT, notT, asB, una, sRet, bcall, aCons, aNil, cVar, cK, startE, N_is_heard, RS.R.bind, isi_tup, chn, ordP, int2, leB, lenP, seqOf, tupOf, hl, hl1, sNil, e1, all_ev e2, fnEnd, ret_d hS]
end RSL
end

section
set_option maxRecDepth 100000
set_option maxHeartbeats 4000000
/-! Whom a house reaches. -/
namespace RSL
open PySem PySem.Spec RS
/-- a way leads from s -/
inductive Rch (h : List (List Int)) (s : Int) : Int → Prop
  | refl : Rch h s s
  | step {y : Int} {i : Nat} {r : List Int} : Rch h s y → h[i]? = some r → y ∈ r → Rch h s (i : Nat)
/-- who hears x and is not found -/
def laterL (h : List (List Int)) (found : List Int) (x : Int) : List Int := (h.zipIdx.filter fun p => decide (x ∈ p.1) && !decide ((p.2 : Int) ∈ found)).map fun p => (p.2 : Int)
theorem mem_later {h : List (List Int)} {found : List Int} {x y : Int} : y ∈ laterL h found x ↔ ∃ (i : Nat) (r : List Int), h[i]? = some r ∧ x ∈ r ∧ y = (i : Nat) ∧ y ∉ found := by
  unfold laterL
  simp only [List.mem_map, List.mem_filter, Bool.and_eq_true, decide_eq_true_eq, Bool.not_eq_true', decide_eq_false_iff_not]
  constructor
  · rintro ⟨⟨r, i⟩, ⟨h1, h2, h3⟩, rfl⟩
    exact ⟨i, r, by simpa [List.mem_zipIdx_iff_getElem?] using h1, h2, rfl, h3⟩
  · rintro ⟨i, r, h1, h2, rfl, h3⟩
    exact ⟨(r, i), ⟨by simpa [List.mem_zipIdx_iff_getElem?] using h1, h2, h3⟩, rfl⟩
theorem later_nodup {h : List (List Int)} {found : List Int} {x : Int} : (laterL h found x).Nodup := by
  unfold laterL
  have e : (h.zipIdx.map fun p => (p.2 : Int)).Nodup := by
    have z2 : (h.zipIdx.map Prod.snd).Nodup := by
      rw [List.zipIdx_map_snd]
      exact List.nodup_range'
    have z3 := List.Pairwise.map (S := fun a b : Int => a ≠ b) (fun i : Nat => (i : Int)) (fun a b (hab : a ≠ b) e => hab (by omega)) z2
    rw [List.map_map] at z3
    exact z3
  exact e.sublist (List.Sublist.map _ List.filter_sublist)
/-- what holds in the loop -/
structure RInv (h : List (List Int)) (s : Int) (found : List Int) (done : Nat) : Prop where
  nd : found.Nodup
  rg : ∀ x ∈ found, 0 ≤ x ∧ x < h.length
  st : s ∈ found
  rc : ∀ x ∈ found, Rch h s x
  le : done ≤ found.length
  cl : ∀ x ∈ found.take done, ∀ (i : Nat) (r : List Int), h[i]? = some r → x ∈ r → ((i : Nat) : Int) ∈ found
theorem RInv.step {h : List (List Int)} {s : Int} {found : List Int} {done : Nat} {x : Int} (v : RInv h s found done) (e : found[done]? = some x) : RInv h s (found ++ laterL h found x) (done + 1) := by
  have hx : x ∈ found := List.mem_of_getElem? e
  have hl : done < found.length := (List.getElem?_eq_some_iff.mp e).1
  refine ⟨?_, fun y hy => ?_, List.mem_append_left _ v.st, fun y hy => ?_, by simp; omega, fun y hy i r hi hr => ?_⟩
  · rw [List.nodup_append]
    refine ⟨v.nd, later_nodup, fun a ha b hb e => ?_⟩
    subst e
    obtain ⟨_, _, _, _, _, n⟩ := mem_later.mp hb
    exact n ha
  · rcases List.mem_append.mp hy with hy | hy
    · exact v.rg y hy
    · obtain ⟨i, r, h1, _, rfl, _⟩ := mem_later.mp hy
      have := (List.getElem?_eq_some_iff.mp h1).1
      omega
  · rcases List.mem_append.mp hy with hy | hy
    · exact v.rc y hy
    · obtain ⟨i, r, h1, h2, rfl, _⟩ := mem_later.mp hy
      exact .step (v.rc x hx) h1 h2
  · have e2 : (found ++ laterL h found x).take (done + 1) = found.take done ++ [x] := by
      rw [List.take_append_of_le_length (by omega), List.take_add_one, e]
      rfl
    rw [e2] at hy
    rcases List.mem_append.mp hy with hy | hy
    · exact List.mem_append_left _ (v.cl y hy i r hi hr)
    · rw [List.mem_singleton.mp hy] at hr
      by_cases hf : ((i : Nat) : Int) ∈ found
      · exact List.mem_append_left _ hf
      · exact List.mem_append_right _ (mem_later.mpr ⟨i, r, hi, hr, rfl, hf⟩)
theorem RInv.fin {h : List (List Int)} {s : Int} {found : List Int} {done : Nat} (v : RInv h s found done) (e : found.length ≤ done) (x : Int) : x ∈ found ↔ Rch h s x := by
  refine ⟨v.rc x, fun r => ?_⟩
  induction r with
  | refl => exact v.st
  | step _ h1 h2 ih => exact v.cl _ (by rw [List.take_of_length_le e]; exact ih) _ _ h1 h2
theorem nodup_le : ∀ (n : Nat) {xs : List Int}, xs.Nodup → (∀ x ∈ xs, 0 ≤ x ∧ x < (n : Nat)) → xs.length ≤ n
  | 0, xs, _, h => by
    cases xs with
    | nil => exact Nat.le_refl _
    | cons x xs => have := h x List.mem_cons_self; omega
  | n + 1, xs, d, h => by
    by_cases hm : (n : Int) ∈ xs
    · have z := nodup_le n (xs := xs.erase (n : Int)) (d.erase _) fun x hx => by
        have y := (d.mem_erase_iff).mp hx
        have := h x y.2
        have := y.1
        omega
      rw [List.length_erase_of_mem hm] at z
      omega
    · have z := nodup_le n d fun x hx => by
        have := h x hx
        have : x ≠ n := fun e => hm (e ▸ hx)
        omega
      omega
theorem RInv.small {h : List (List Int)} {s : Int} {found : List Int} {done : Nat} (v : RInv h s found done) : found.length ≤ h.length := nodup_le h.length v.nd v.rg
theorem later_len {h : List (List Int)} {found : List Int} {x : Int} : (laterL h found x).length ≤ h.length := by
  unfold laterL
  rw [List.length_map]
  exact Nat.le_trans (List.length_filter_le _ _) (by simp)
section
variable {h : List (List Int)} {s : Int} {S : Store}
/-- the store within the loop -/
def RT (S : Store) (found : List Int) : Store := S ++ [.lst (found.map D.int)]
theorem rt_at {found : List Int} : (RT S found)[S.length]? = some (.lst (found.map D.int)) := by simp [RT]
theorem rt_set {found found2 : List Int} : (RT S found).set S.length (.lst (found2.map D.int)) = RT S found2 := by simp [RT]
def rEnv (h : List (List Int)) (s : Int) (n : Nat) (done : Nat) (l : Option A) : RS.Env := [some (.d (encH h)), some (.d (.int s)), some (.ref n), some (.d (.int (done : Nat))), l, none, none]
theorem later_ev {found : List Int} {done : Nat} {x : Int} {l : Option A} (w : WebOk h) (e : found[done]? = some x) :
    lcM false [5, 6] (enumI (cVar 0)) (.two 5 6) (andT (asB (bin (inP false) (bin ixP (cVar 2) (cVar 3)) (cVar 6))) (asB (bin (inP true) (cVar 5) (cVar 2)))) (cVar 5) (rEnv h s S.length done l) (RT S found) = .ok (.d (.fl ((laterL h found x).map D.int))) (RT S found) := by
  have z := comp_ev (vs := [5, 6]) (q := enumI (cVar 0)) (tg := .two 5 6) (t := andT (asB (bin (inP false) (bin ixP (cVar 2) (cVar 3)) (cVar 6))) (asB (bin (inP true) (cVar 5) (cVar 2)))) (e := cVar 5) (ρ := rEnv h s S.length done l) (S := RT S found)
    (fun p : List Int × Nat => D.tup [.int (p.2 : Nat), encR p.1]) (fun p => decide (x ∈ p.1) && !decide ((p.2 : Int) ∈ found)) (fun p => D.int (p.2 : Nat)) (xs := h.zipIdx)
    (by simp [enumI, cVar, rEnv, RS.R.bind, enumP, kd, encH, enum_map]) (by have := w.hi; simp; omega) (fun p hp => ⟨_, rfl, by
      have z1 := in_tup (S := RT S found) (neg := false) enc_int (by decide) x p.1
      have z2 := in_ref (S := RT S found) (neg := true) enc_int (by decide) (p.2 : Int) found rt_at
      have z3 : L2.atI (found.map D.int) ((done : Nat) : Int) = some (.int x) := by rw [at_nat]; simp [e]
      simp only [encR] at *
      cases hx : decide (x ∈ p.1) <;> simp only [hx] at z1 <;>
        simp [andT, asB, bin, cVar, rEnv, wipeE, RS.R.bind, ixP, seqOf, tupOf, lstOf, rt_at, z3, z1, z2], fun _ => by simp [cVar, rEnv, wipeE]⟩)
  rw [z]
  simp [laterL, Function.comp_def]
def rTest : M Bool := asB (bin (ordP ltB) (cVar 3) (bcall lenP (aCons (cVar 2) aNil)))
def rBody : M Fl := sSeq (sAsg (lcM false [5, 6] (enumI (cVar 0)) (.two 5 6) (andT (asB (bin (inP false) (bin ixP (cVar 2) (cVar 3)) (cVar 6))) (asB (bin (inP true) (cVar 5) (cVar 2)))) (cVar 5)) (gSet 4))
    (sSeq (sExp (mthM extP (cVar 2) (aCons (cVar 4) aNil)))
    (sAug 3 (cK (.int 1))))
theorem test_ev {found : List Int} {done : Nat} {l : Option A} : rTest (rEnv h s S.length done l) (RT S found) = .ok (decide (done < found.length)) (RT S found) := by
  simp [rTest, asB, bin, cVar, rEnv, RS.R.bind, bcall, aCons, aNil, lenP, seqOf, tupOf, lstOf, rt_at, ordP, int2, ltB]
theorem body_ev {found : List Int} {done : Nat} {x : Int} {l : Option A} (w : WebOk h) (v : RInv h s found done) (e : found[done]? = some x) :
    rBody (rEnv h s S.length done l) (RT S found) = .ok (.nx (rEnv h s S.length (done + 1) (some (.d (.fl ((laterL h found x).map D.int)))))) (RT S (found ++ laterL h found x)) := by
  have z1 := v.small
  have z2 := later_len (h := h) (found := found) (x := x)
  have z3 : found.length + (laterL h found x).length ≤ sizeLine := sz (by have := w.hi; omega)
  have e1 := later_ev (s := s) (S := S) (l := l) w e
  have e2 : (rEnv h s S.length done l).set 4 (some (.d (.fl ((laterL h found x).map D.int)))) = rEnv h s S.length done (some (.d (.fl ((laterL h found x).map D.int)))) := rfl
  have e3 : mthM extP (cVar 2) (aCons (cVar 4) aNil) (rEnv h s S.length done (some (.d (.fl ((laterL h found x).map D.int))))) (RT S found) = .ok (.d .non) (RT S (found ++ laterL h found x)) := by
    simp [mthM, cVar, rEnv, RS.R.bind, lstOf, rt_at, aCons, aNil, extP, lsT, z3]
    rw [← List.map_append, rt_set]
  simp [rBody, sSeq, sAsg, sExp, RS.R.bind, e1, gSet, e2, e3]
  simp [sAug, sAsg, bin, cVar, rEnv, RS.R.bind, cK, augP, int2, gSet]
theorem reached_ev (hS : Gd S) (w : WebOk h) (hs : 0 ≤ s ∧ s < h.length) : ∃ far : List Int, F_reached_from [.d (encH h), .d (.int s)] S = .ok (.d (encR far)) S ∧ far.Pairwise (· < ·) ∧ ∀ x, x ∈ far ↔ Rch h s x := by
  have v0 : RInv h s [s] 0 := ⟨by simp, fun x hx => by rw [List.mem_singleton.mp hx]; exact hs, by simp, fun x hx => by rw [List.mem_singleton.mp hx]; exact .refl, by simp, fun x hx => by simp at hx⟩
  obtain ⟨ρ', S', h1, found, done, l, rfl, rfl, v, hd⟩ := while_ev (c := rTest) (b := rBody) (fun n ρ T => ∃ found done l, ρ = rEnv h s S.length done l ∧ T = RT S found ∧ RInv h s found done ∧ n = h.length - done)
    (fun ρ T => ∃ found done l, ρ = rEnv h s S.length done l ∧ T = RT S found ∧ RInv h s found done ∧ found.length ≤ done) (fun n ρ T ⟨found, done, l, e1, e2, v, e3⟩ => by
      subst e1; subst e2
      by_cases hlt : done < found.length
      · have e := List.getElem?_eq_getElem hlt
        have z := v.small
        exact .inr ⟨by rw [test_ev]; simp [hlt], h.length - (done + 1), _, _, body_ev w v e, by omega, found ++ laterL h found found[done], done + 1, _, rfl, rfl, v.step e, rfl⟩
      · exact .inl ⟨by rw [test_ev]; simp [hlt], found, done, l, rfl, rfl, v, by omega⟩)
    (k := 8) (n := h.length) (ρ := rEnv h s S.length 0 none) (S := RT S [s]) ⟨[s], 0, none, rfl, rfl, v0, rfl⟩ (by have := w.hi; omega)
  refine ⟨sortI found, ?_, ?_, fun x => ?_⟩
  · have e1 : fnF N_reached_from.length 2 false b_reached_from [.d (encH h), .d (.int s)] S = ((whileL rTest rBody 8 (rEnv h s S.length 0 none) (RT S [s])).bind fun fl S1 => match fl with
        | .nx ρ1 => sRet (bcall tupleP (aCons (bcall (sortP false) (aCons (cVar 2) aNil)) aNil)) ρ1 S1
        | fl => .ok fl S1).bind (fnEnd false S.length) := by
      simp [fnF, b_reached_from, sSeq, sAsg, celM, celP, pures, pureA, aCons, aNil, cVar, cK, startE, N_reached_from, RS.R.bind, gSet, rEnv, RT, rTest, rBody, (by decide : 1 ≤ sizeLine)]
      all_goals rfl
    show fnF N_reached_from.length 2 false b_reached_from [.d (encH h), .d (.int s)] S = _
    rw [e1, h1]
    simp [RS.R.bind, sRet, bcall, aCons, aNil, cVar, rEnv, sortP, lstOf, rt_at, intsD_map, tupleP, fnEnd, encR]
    exact ret_d2 hS
  · have o := sortI_pw found
    have d : (sortI found).Nodup := (sortI_perm found).nodup_iff.mpr v.nd
    exact (o.and d).imp fun ⟨a, b⟩ => by omega
  · rw [(sortI_perm found).mem_iff]
    exact v.fin hd x
end
end RSL
end

section
set_option maxRecDepth 100000
set_option maxHeartbeats 4000000
/-! A web is made. -/
namespace RSL
open PySem PySem.Spec RS
section
variable {h : List (List Int)} {s : Int} {S : Store}
/-- the parts: of each house whom it reaches and who reaches it, told once -/
def partOf (fars : List (List Int)) (i : Nat) (far : List Int) : List Int := far.filter fun o => decide ((i : Int) ∈ (fars[o.toNat]?.getD []))
def partsL (fars : List (List Int)) : List (List Int) := (fars.zipIdx.filter fun p => decide ((partOf fars p.2 p.1)[0]? = some (p.2 : Int))).map fun p => partOf fars p.2 p.1
def pEnv (fars : List (List Int)) (n : Nat) (a b c : Option A) : RS.Env := [some (.d (encH fars)), some (.ref n), a, b, c, none]
def PT (S : Store) (ps : List (List Int)) : Store := S ++ [.lst (ps.map encR)]
theorem pt_at {ps : List (List Int)} : (PT S ps)[S.length]? = some (.lst (ps.map encR)) := by simp [PT]
theorem pt_set {ps ps2 : List (List Int)} : (PT S ps).set S.length (.lst (ps2.map encR)) = PT S ps2 := by simp [PT]
theorem part_ev {fars : List (List Int)} {ps : List (List Int)} {i : Nat} {far : List Int} {c : Option A} (hl : far.length ≤ 5) (hr : ∀ o ∈ far, 0 ≤ o ∧ o < fars.length) :
    lcM false [5] (seqI (cVar 3)) (.one 5) (asB (bin (inP false) (cVar 2) (bin ixP (cVar 0) (cVar 5)))) (cVar 5) (pEnv fars S.length (some (.d (.int (i : Nat)))) (some (.d (encR far))) c) (PT S ps) = .ok (.d (.fl ((partOf fars i far).map D.int))) (PT S ps) := by
  have z := comp_ev (vs := [5]) (q := seqI (cVar 3)) (tg := .one 5) (t := asB (bin (inP false) (cVar 2) (bin ixP (cVar 0) (cVar 5)))) (e := cVar 5) (ρ := pEnv fars S.length (some (.d (.int (i : Nat)))) (some (.d (encR far))) c) (S := PT S ps)
    D.int (fun o => decide ((i : Int) ∈ (fars[o.toNat]?.getD []))) D.int (xs := far)
    (by simp [seqI, cVar, pEnv, RS.R.bind, kd, encR]) (by omega) (fun o ho => ⟨_, rfl, by
      obtain ⟨h0, h1⟩ := hr o ho
      have hlt : o.toNat < fars.length := by omega
      have z1 := in_tup (S := PT S ps) (neg := false) enc_int (by decide) (i : Int) (fars[o.toNat])
      have z3 : L2.atI (fars.map encR) o = some (encR fars[o.toNat]) := by
        have e : L2.atI (fars.map encR) ((o.toNat : Nat) : Int) = some (encR fars[o.toNat]) := by
          rw [at_nat]
          simp [hlt]
        have e2 : ((o.toNat : Nat) : Int) = o := by omega
        rwa [e2] at e
      simp only [encR] at z1 z3 ⊢
      simp [asB, bin, cVar, pEnv, wipeE, RS.R.bind, ixP, seqOf, tupOf, encH, encR, z3, z1, hlt], fun _ => by simp [cVar, pEnv, wipeE]⟩)
  exact z
theorem enumI_ev {fars : List (List Int)} {ρ : RS.Env} {T : Store} (e : ρ[0]? = some (some (.d (encH fars)))) : enumI (cVar 0) ρ T = .ok (fars.zipIdx.map fun p => D.tup [.int (p.2 : Nat), encR p.1]) T := by
  simp [enumI, cVar, e, RS.R.bind, enumP, kd, encH, enum_map]
def pBody : M Fl := sSeq (sAsg (bcall tupleP (aCons (lcM false [5] (seqI (cVar 3)) (.one 5) (asB (bin (inP false) (cVar 2) (bin ixP (cVar 0) (cVar 5)))) (cVar 5)) aNil)) (gSet 4))
    (sIf (asB (bin (eqP false) (bin ixP (cVar 4) (cK (.int 0))) (cVar 2)))
    (sExp (mthM appP (cVar 1) (aCons (cVar 4) aNil)))
    sNil)
theorem pbody_ev {fars : List (List Int)} {ps : List (List Int)} {i : Nat} {far : List Int} {c : Option A} (hl : far.length ≤ 5) (hp : ps.length ≤ 5) (hr : ∀ o ∈ far, 0 ≤ o ∧ o < fars.length) {y : Int} (hy : (partOf fars i far)[0]? = some y) :
    pBody (pEnv fars S.length (some (.d (.int (i : Nat)))) (some (.d (encR far))) c) (PT S ps) = .ok (.nx (pEnv fars S.length (some (.d (.int (i : Nat)))) (some (.d (encR far))) (some (.d (encR (partOf fars i far)))))) (PT S (if y = (i : Int) then ps ++ [partOf fars i far] else ps)) := by
  have e1 := part_ev (S := S) (ps := ps) (i := i) (c := c) hl hr
  have e2 : (pEnv fars S.length (some (.d (.int (i : Nat)))) (some (.d (encR far))) c).set 4 (some (.d (encR (partOf fars i far)))) = pEnv fars S.length (some (.d (.int (i : Nat)))) (some (.d (encR far))) (some (.d (encR (partOf fars i far)))) := rfl
  have e3 : L2.atI ((partOf fars i far).map D.int) ((0 : Nat) : Int) = some (.int y) := by rw [at_nat]; simp [hy]
  have e3 : L2.atI ((partOf fars i far).map D.int) 0 = some (.int y) := e3
  have e4 := eq_enc (S := PT S ps) (neg := false) enc_int (by decide) y (i : Int)
  have e5 : ps.length < sizeLine := Nat.lt_of_le_of_lt hp (by decide)
  have e6 : mthM appP (cVar 1) (aCons (cVar 4) aNil) (pEnv fars S.length (some (.d (.int (i : Nat)))) (some (.d (encR far))) (some (.d (encR (partOf fars i far))))) (PT S ps) = .ok (.d .non) (PT S (ps ++ [partOf fars i far])) := by
    simp [mthM, cVar, pEnv, RS.R.bind, lstOf, pt_at, aCons, aNil, appP, e5]
    have z : ps.map encR ++ [encR (partOf fars i far)] = (ps ++ [partOf fars i far]).map encR := by simp
    rw [z, pt_set]
  have e7 : bcall tupleP (aCons (lcM false [5] (seqI (cVar 3)) (.one 5) (asB (bin (inP false) (cVar 2) (bin ixP (cVar 0) (cVar 5)))) (cVar 5)) aNil) (pEnv fars S.length (some (.d (.int (i : Nat)))) (some (.d (encR far))) c) (PT S ps) = .ok (.d (encR (partOf fars i far))) (PT S ps) := by
    simp only [bcall, aCons, aNil, RS.R.bind, e1, tupleP, lstOf]
    rfl
  have e8 : asB (bin (eqP false) (bin ixP (cVar 4) (cK (.int 0))) (cVar 2)) (pEnv fars S.length (some (.d (.int (i : Nat)))) (some (.d (encR far))) (some (.d (encR (partOf fars i far))))) (PT S ps) = .ok (decide (y = (i : Int))) (PT S ps) := by
    simp [asB, bin, cVar, pEnv, cK, RS.R.bind, ixP, seqOf, tupOf, encR, e3, e4]
  by_cases hyi : y = (i : Int)
  · simp only [pBody, sSeq, sAsg, e7, RS.R.bind, gSet, e2, sIf, e8, decide_eq_true hyi, if_pos, if_pos hyi, sExp, e6]
  · simp only [pBody, sSeq, sAsg, e7, RS.R.bind, gSet, e2, sIf, e8, decide_eq_false hyi, if_neg hyi, sNil]
    rfl
def partsOf (fars : List (List Int)) (dn : List (List Int × Nat)) : List (List Int) := (dn.filter fun p => decide ((partOf fars p.2 p.1)[0]? = some (p.2 : Int))).map fun p => partOf fars p.2 p.1
theorem mutual_ev {fars : List (List Int)} (hS : Gd S) (hf : fars.length ≤ 5) (hr : ∀ p ∈ fars.zipIdx, p.1.length ≤ 5 ∧ (∀ o ∈ p.1, 0 ≤ o ∧ o < fars.length) ∧ (p.2 : Int) ∈ p.1) : F_mutual_parts [.d (encH fars)] S = .ok (.d (encH (partsL fars))) S := by
  obtain ⟨ρ', S', h1, a, b, c, rfl, rfl⟩ := for_ev (g := gTupM [gSet 2, gSet 3]) (b := pBody) (fun p : List Int × Nat => D.tup [.int (p.2 : Nat), encR p.1]) (fun dn ρ T => ∃ a b c, ρ = pEnv fars S.length a b c ∧ T = PT S (partsOf fars dn))
    (xs := fars.zipIdx) (dn := []) (ρ := pEnv fars S.length none none none) (S := PT S []) ⟨none, none, none, rfl, rfl⟩ (fun dn x r e ρ T ⟨a, b, c, e1, e2⟩ => by
      subst e1; subst e2
      have hx : x ∈ fars.zipIdx := by
        have e : dn ++ x :: r = fars.zipIdx := by simpa using e
        rw [← e]; simp
      obtain ⟨h1, h2, h3⟩ := hr x hx
      have hlen : (partsOf fars dn).length ≤ 5 := by
        have e3 : dn.length + (r.length + 1) = fars.length := by
          have e : dn ++ x :: r = fars.zipIdx := by simpa using e
          have := congrArg List.length e
          simpa using this
        unfold partsOf
        rw [List.length_map]
        have := List.length_filter_le (fun p : List Int × Nat => decide ((partOf fars p.2 p.1)[0]? = some (p.2 : Int))) dn
        omega
      have hmem : (x.2 : Int) ∈ partOf fars x.2 x.1 := by
        unfold partOf
        rw [List.mem_filter]
        refine ⟨h3, ?_⟩
        have z : fars[x.2]? = some x.1 := by simpa [List.mem_zipIdx_iff_getElem?] using hx
        simp [z, h3]
      cases hy : (partOf fars x.2 x.1)[0]? with
      | none =>
        rw [List.getElem?_eq_none_iff] at hy
        have e : partOf fars x.2 x.1 = [] := List.eq_nil_of_length_eq_zero (by omega)
        rw [e] at hmem
        cases hmem
      | some y =>
        have z := pbody_ev (S := S) (ps := partsOf fars dn) (c := c) h1 hlen h2 hy
        refine ⟨pEnv fars S.length (some (.d (.int (x.2 : Nat)))) (some (.d (encR x.1))) c, PT S (partsOf fars dn), _, _, rfl, z, _, _, _, rfl, ?_⟩
        congr 1
        unfold partsOf
        by_cases hyi : y = (x.2 : Int)
        · rw [if_pos hyi]
          simp [List.filter_append, hy, hyi]
        · rw [if_neg hyi]
          simp [List.filter_append, hy, hyi])
  have e1 : F_mutual_parts [.d (encH fars)] S = ((forL (gTupM [gSet 2, gSet 3]) pBody (fars.zipIdx.map fun p => D.tup [.int (p.2 : Nat), encR p.1]) (pEnv fars S.length none none none) (PT S [])).bind fun fl S1 => match fl with
      | .nx ρ1 => sRet (bcall tupleP (aCons (cVar 1) aNil)) ρ1 S1
      | fl => .ok fl S1).bind (fnEnd false S.length) := by
    have z := enumI_ev (fars := fars) (ρ := pEnv fars S.length none none none) (T := PT S []) rfl
    simp only [fnF, b_mutual_parts, sSeq, sAsg, celM, celP, pures, aNil, RS.R.bind, gSet, sFor]
    simp [startE, N_mutual_parts]
    simp only [pEnv, PT, List.map_nil] at z
    simp [z]
    rfl
  rw [e1, h1]
  simp [RS.R.bind, sRet, bcall, aCons, aNil, cVar, pEnv, tupleP, lstOf, pt_at, fnEnd, encH]
  exact ret_d2 hS
end
end RSL
end

section
set_option maxRecDepth 100000
set_option maxHeartbeats 4000000
/-! Whom a house reaches, as one list. -/
namespace RSL
open PySem PySem.Spec RS
section
variable {h : List (List Int)} {s : Int} {S : Store}
def houses (n : Nat) : List Int := (List.range n).map fun i : Nat => (i : Int)
theorem mem_houses {n : Nat} {x : Int} : x ∈ houses n ↔ 0 ≤ x ∧ x < n := by
  unfold houses
  rw [List.mem_map]
  constructor
  · rintro ⟨i, hi, rfl⟩
    have := List.mem_range.mp hi
    omega
  · rintro ⟨h0, h1⟩
    exact ⟨x.toNat, List.mem_range.mpr (by omega), by omega⟩
theorem houses_lt (n : Nat) : (houses n).Pairwise (· < ·) := by
  unfold houses
  exact List.Pairwise.map _ (fun a b (hab : a < b) => by omega) List.pairwise_lt_range
open Classical in
noncomputable def farOf (h : List (List Int)) (s : Int) : List Int := (houses h.length).filter fun x => decide (Rch h s x)
theorem Rch.rg (hs : 0 ≤ s ∧ s < h.length) {x : Int} (r : Rch h s x) : 0 ≤ x ∧ x < h.length := by
  induction r with
  | refl => exact hs
  | step _ h1 _ _ =>
    have := (List.getElem?_eq_some_iff.mp h1).1
    omega
theorem mem_farOf (hs : 0 ≤ s ∧ s < h.length) {x : Int} : x ∈ farOf h s ↔ Rch h s x := by
  unfold farOf
  simp only [List.mem_filter, mem_houses, decide_eq_true_eq]
  exact ⟨fun z => z.2, fun z => ⟨z.rg hs, z⟩⟩
theorem farOf_lt : (farOf h s).Pairwise (· < ·) := (houses_lt _).sublist List.filter_sublist
theorem lt_unique {xs ys : List Int} (hx : xs.Pairwise (· < ·)) (hy : ys.Pairwise (· < ·)) (e : ∀ x, x ∈ xs ↔ x ∈ ys) : xs = ys := by
  have nd : ∀ {l : List Int}, l.Pairwise (· < ·) → l.Nodup := fun h => h.imp fun h e => by omega
  have p : xs.Perm ys := (List.perm_ext_iff_of_nodup (nd hx) (nd hy)).mpr e
  exact sorted_eq p (hx.imp fun h => by omega) (hy.imp fun h => by omega)
theorem reached_far (hS : Gd S) (w : WebOk h) (hs : 0 ≤ s ∧ s < h.length) : F_reached_from [.d (encH h), .d (.int s)] S = .ok (.d (encR (farOf h s))) S := by
  obtain ⟨far, e1, e2, e3⟩ := reached_ev hS w hs
  rw [e1, lt_unique e2 farOf_lt fun x => (e3 x).trans (mem_farOf hs).symm]
end
end RSL
end

section
set_option maxRecDepth 100000
set_option maxHeartbeats 4000000
/-! A new web. -/
namespace RSL
open PySem PySem.Spec RS
section
variable {h : List (List Int)} {S : Store}
/-- the store with the instance that is made -/
def IT (S : Store) (fs : List (Str × D)) : Store := S ++ [.ins "Web" (fs.map fun p => (p.1, A.d p.2))]
theorem it_at {fs : List (Str × D)} : (IT S fs)[S.length]? = some (.ins "Web" (fs.map fun p => (p.1, A.d p.2))) := by simp [IT]
theorem gd_it {fs : List (Str × D)} (hS : Gd S) : Gd (IT S fs) := by
  have z := gd_lst (ds := []) hS
  unfold IT
  unfold Gd storeOk at *
  rw [List.take_length] at *
  rw [List.all_append, Bool.and_eq_true] at *
  refine ⟨by simpa using z.1, ?_⟩
  simp [cellOk]
def putD (f : Str) (v : D) : List (Str × D) → List (Str × D)
  | [] => [(f, v)]
  | (g, x) :: r => if g = f then (g, v) :: r else (g, x) :: putD f v r
theorem put_map (f : Str) (v : D) : ∀ fs : List (Str × D), putA f (.d v) (fs.map fun p => (p.1, A.d p.2)) = (putD f v fs).map fun p => (p.1, A.d p.2)
  | [] => rfl
  | (g, x) :: r => by
    by_cases e : g = f
    · simp [putA, putD, e]
    · simp [putA, putD, e, put_map f v r]
theorem fld_ev {fs : List (Str × D)} {f : Str} {v : D} {fv : M A} {ρ : RS.Env} (hv : fv ρ (IT S fs) = .ok (.d v) (IT S fs)) (h0 : ρ[0]? = some (some (.ref S.length))) (hl : fs.length < 1000) :
    sFldM "Web" f fv (cVar 0) ρ (IT S fs) = .ok (.nx ρ) (IT S (putD f v fs)) := by
  simp only [sFldM, hv, RS.R.bind, cVar, h0, putP, it_at, List.length_map]
  simp only [hl, and_self, if_true, put_map]
  simp [IT]
theorem rd_fld {fs : List (Str × D)} {f : Str} {v : D} {ρ : RS.Env} (h0 : ρ[0]? = some (some (.ref S.length))) (hv : (fs.map fun p => (p.1, A.d p.2)).lookup f = some (.d v)) : una (fldP "Web" f) (cVar 0) ρ (IT S fs) = .ok (.d v) (IT S fs) := by
  simp [una, cVar, h0, RS.R.bind, fldP, insOf, it_at, hv]
noncomputable def farsOf (h : List (List Int)) : List (List Int) := (houses h.length).map (farOf h)
noncomputable def rootsOf (h : List (List Int)) : List Int := ((farsOf h).zipIdx.filter fun p => decide (p.1.length = h.length)).map fun p => (p.2 : Int)
noncomputable def webFs (h : List (List Int)) : List (Str × D) := [("_heard", encH h), ("_size", .int h.length), ("_reached", encH (farsOf h)), ("_roots", encR (rootsOf h)), ("_parts", encH (partsL (farsOf h)))]
noncomputable def webD (h : List (List Int)) : D := .ob "Web" ((webFs h).map Prod.fst) ((webFs h).map Prod.snd)
end
end RSL
end

section
/-! Who hears whom, as a relation; rounds one behind the other. -/
namespace RSL
/-- x hears y -/
def Hr (h : List (List Int)) (x y : Int) : Prop := x = y ∨ ∃ (i : Nat) (r : List Int), x = (i : Nat) ∧ h[i]? = some r ∧ y ∈ r
theorem Hr.rfl' {h : List (List Int)} {x : Int} : Hr h x x := .inl rfl
theorem Rch.hr {h : List (List Int)} {s x y : Int} (a : Rch h s y) (b : Hr h x y) : Rch h s x := by
  rcases b with rfl | ⟨i, r, rfl, h1, h2⟩
  · exact a
  · exact .step a h1 h2
theorem Rch.trans {h : List (List Int)} {s x y : Int} (a : Rch h s y) (b : Rch h y x) : Rch h s x := by
  induction b with
  | refl => exact a
  | step _ h1 h2 ih => exact .step ih h1 h2
theorem Hr.rch {h : List (List Int)} {x y : Int} (b : Hr h x y) : Rch h y x := Rch.refl.hr b
theorem WebOk.get {h : List (List Int)} (w : WebOk h) {i : Nat} {r : List Int} (e : h[i]? = some r) : (∀ j ∈ r, 0 ≤ j ∧ j < h.length) ∧ Asc r ∧ (i : Int) ∉ r ∧ r.length ≤ 5 :=
  w.row (r, i) (by simpa [List.mem_zipIdx_iff_getElem?] using e)
theorem Hr.rg {h : List (List Int)} (w : WebOk h) {x y : Int} (b : Hr h x y) : x = y ∨ ((0 ≤ x ∧ x < h.length) ∧ 0 ≤ y ∧ y < h.length) := by
  rcases b with rfl | ⟨i, r, rfl, h1, h2⟩
  · exact .inl rfl
  · have := (List.getElem?_eq_some_iff.mp h1).1
    exact .inr ⟨by omega, (w.get h1).1 _ h2⟩
theorem Rch.rg2 {h : List (List Int)} (w : WebOk h) {x y : Int} (b : Rch h x y) : x = y ∨ ((0 ≤ x ∧ x < h.length) ∧ 0 ≤ y ∧ y < h.length) := by
  induction b with
  | refl => exact .inl rfl
  | step _ h1 h2 ih =>
    have := (List.getElem?_eq_some_iff.mp h1).1
    have := (w.get h1).1 _ h2
    rcases ih with rfl | ih
    · exact .inr ⟨this, by omega⟩
    · exact .inr ⟨ih.1, by omega⟩
theorem Asc.pw : ∀ {r : List Int}, Asc r → r.Pairwise (· < ·)
  | [], _ => .nil
  | [x], _ => by simp
  | x :: y :: r, h => by
    have t : Asc (y :: r) := fun p hp => h p (by simpa using Or.inr hp)
    have ih := Asc.pw t
    have hxy : x < y := h (x, y) (by simp)
    refine List.pairwise_cons.mpr ⟨fun z hz => ?_, ih⟩
    rcases List.mem_cons.mp hz with rfl | hz
    · exact hxy
    · have := (List.pairwise_cons.mp ih).1 z hz
      omega
theorem asc_of_pw : ∀ {r : List Int}, r.Pairwise (· < ·) → Asc r
  | [], _ => fun p hp => by simp at hp
  | [x], _ => fun p hp => by simp at hp
  | x :: y :: r, h => fun p hp => by
    have h2 := List.pairwise_cons.mp h
    simp only [List.tail_cons, List.zip_cons_cons, List.mem_cons] at hp
    rcases hp with rfl | hp
    · exact h2.1 y (by simp)
    · exact asc_of_pw h2.2 p hp
/-- webs with equal hearing are equal -/
theorem web_ext {h g : List (List Int)} (w : WebOk h) (v : WebOk g) (l : h.length = g.length) (e : ∀ x y, Hr h x y ↔ Hr g x y) : h = g := by
  have one : ∀ {h g : List (List Int)}, WebOk h → (∀ x y, Hr h x y ↔ Hr g x y) → ∀ (i : Nat) (r q : List Int), h[i]? = some r → g[i]? = some q → ∀ y, y ∈ r → y ∈ q := by
    intro h g w e i r q h1 h2 y hy
    have z := (e (i : Nat) y).mp (.inr ⟨i, r, rfl, h1, hy⟩)
    rcases z with rfl | ⟨j, s, hj, h3, h4⟩
    · exact absurd hy (w.get h1).2.2.1
    · have : j = i := by omega
      subst this
      rw [h2] at h3
      cases h3
      exact h4
  refine List.ext_getElem l fun i h1 h2 => ?_
  have e1 : h[i]? = some h[i] := List.getElem?_eq_getElem h1
  have e2 : g[i]? = some g[i] := List.getElem?_eq_getElem h2
  exact lt_unique (w.get e1).2.1.pw (v.get e2).2.1.pw fun y => ⟨one w e i _ _ e1 e2 y, one v (fun x y => (e x y).symm) i _ _ e2 e1 y⟩
/-- the rows of a relation -/
def rowsB (n : Nat) (f : Int → Int → Bool) : List (List Int) := (houses n).map fun i => (houses n).filter fun s => f i s && decide (s ≠ i)
theorem rowsB_len {n : Nat} {f : Int → Int → Bool} : (rowsB n f).length = n := by simp [rowsB, houses]
theorem houses_get {n i : Nat} (h : i < n) : (houses n)[i]? = some (i : Int) := by simp [houses, h]
theorem rowsB_get {n : Nat} {f : Int → Int → Bool} {i : Nat} {r : List Int} (e : (rowsB n f)[i]? = some r) : i < n ∧ r = (houses n).filter fun s => f i s && decide (s ≠ (i : Int)) := by
  have hi : i < n := by
    have := (List.getElem?_eq_some_iff.mp e).1
    rwa [rowsB_len] at this
  unfold rowsB at e
  rw [List.getElem?_map, houses_get hi] at e
  exact ⟨hi, by simpa using e.symm⟩
theorem rowsB_at {n : Nat} {f : Int → Int → Bool} {i : Nat} (h : i < n) : (rowsB n f)[i]? = some ((houses n).filter fun s => f i s && decide (s ≠ (i : Int))) := by
  unfold rowsB
  rw [List.getElem?_map, houses_get h]
  rfl
theorem houses_len {n : Nat} : (houses n).length = n := by simp [houses]
theorem rowsB_ok {n : Nat} {f : Int → Int → Bool} (h1 : 1 ≤ n) (h2 : n ≤ 5) : WebOk (rowsB n f) := by
  refine ⟨by rw [rowsB_len]; exact h1, by rw [rowsB_len]; exact h2, fun p hp => ?_⟩
  obtain ⟨r, i⟩ := p
  obtain ⟨hi, e⟩ := rowsB_get (by simpa [List.mem_zipIdx_iff_getElem?] using hp)
  rw [rowsB_len]
  subst e
  refine ⟨fun j hj => mem_houses.mp (List.mem_filter.mp hj).1, asc_of_pw ((houses_lt n).sublist List.filter_sublist), fun hj => ?_, ?_⟩
  · have := (List.mem_filter.mp hj).2
    simp at this
  · exact Nat.le_trans (List.length_filter_le _ _) (by rw [houses_len]; exact h2)
theorem rowsB_hr {n : Nat} {f : Int → Int → Bool} {x y : Int} : Hr (rowsB n f) x y ↔ x = y ∨ ((0 ≤ x ∧ x < n) ∧ (0 ≤ y ∧ y < n) ∧ f x y = true) := by
  constructor
  · rintro (h | ⟨i, r, rfl, h1, h2⟩)
    · exact .inl h
    · obtain ⟨hi, rfl⟩ := rowsB_get h1
      have := List.mem_filter.mp h2
      refine .inr ⟨by omega, mem_houses.mp this.1, ?_⟩
      have := this.2
      simp at this
      exact this.1
  · rintro (h | ⟨⟨h1, h2⟩, h3, h4⟩)
    · exact .inl h
    · by_cases e : x = y
      · exact .inl e
      have hx : x = (x.toNat : Nat) := by omega
      refine .inr ⟨x.toNat, _, hx, rowsB_at (by omega), List.mem_filter.mpr ⟨mem_houses.mpr h3, ?_⟩⟩
      rw [← hx, h4]
      simp
      omega
open Classical in
/-- two rounds -/
noncomputable def thenL (h g : List (List Int)) : List (List Int) := rowsB h.length fun x s => decide (∃ t, Hr g x t ∧ Hr h t s)
theorem thenL_len {h g : List (List Int)} : (thenL h g).length = h.length := rowsB_len
theorem thenL_ok {h g : List (List Int)} (w : WebOk h) : WebOk (thenL h g) := rowsB_ok w.lo w.hi
theorem thenL_hr {h g : List (List Int)} (w : WebOk h) (v : WebOk g) (l : g.length = h.length) {x y : Int} : Hr (thenL h g) x y ↔ ∃ t, Hr g x t ∧ Hr h t y := by
  unfold thenL
  rw [rowsB_hr]
  simp only [decide_eq_true_eq]
  constructor
  · rintro (rfl | ⟨_, _, z⟩)
    · exact ⟨x, .rfl', .rfl'⟩
    · exact z
  · rintro ⟨t, h1, h2⟩
    by_cases e : x = y
    · exact .inl e
    refine .inr ⟨?_, ?_, t, h1, h2⟩
    · rcases h1.rg v with rfl | z
      · rcases h2.rg w with rfl | z
        · exact absurd rfl e
        · exact z.1
      · rw [← l]; exact z.1
    · rcases h2.rg w with rfl | z
      · rcases h1.rg v with rfl | z
        · exact absurd rfl e
        · rw [← l]; exact z.2
      · exact z.2
def silentL (n : Nat) : List (List Int) := rowsB n fun _ _ => false
theorem silentL_hr {n : Nat} {x y : Int} : Hr (silentL n) x y ↔ x = y := by
  unfold silentL
  rw [rowsB_hr]
  simp
/-- rounds one behind the other -/
noncomputable def togL (n : Nat) (ws : List (List (List Int))) : List (List Int) := ws.foldl thenL (silentL n)
/-- webs on n houses -/
def WebsOk (n : Nat) (ws : List (List (List Int))) : Prop := ∀ w ∈ ws, WebOk w ∧ w.length = n
theorem tog_from {n : Nat} : ∀ {ws : List (List (List Int))} {g : List (List Int)}, WebsOk n ws → WebOk g → g.length = n → WebOk (ws.foldl thenL g) ∧ (ws.foldl thenL g).length = n
  | [], g, _, w, l => ⟨w, l⟩
  | v :: ws, g, h, w, l => tog_from (ws := ws) (fun u hu => h u (List.mem_cons_of_mem _ hu)) (thenL_ok w) (by rw [thenL_len, l])
theorem tog_ok {n : Nat} {ws : List (List (List Int))} (h1 : 1 ≤ n) (h2 : n ≤ 5) (h : WebsOk n ws) : WebOk (togL n ws) ∧ (togL n ws).length = n :=
  tog_from h (rowsB_ok h1 h2) rowsB_len
/-- what is known behind rounds, from what is known -/
def stepK (K : Int → Int → Prop) (w : List (List Int)) : Int → Int → Prop := fun x z => ∃ t, Hr w x t ∧ K t z
def KnF (K : Int → Int → Prop) (ws : List (List (List Int))) : Int → Int → Prop := ws.foldl stepK K
theorem knF_comp : ∀ {ws : List (List (List Int))} {K : Int → Int → Prop} {x z : Int}, KnF K ws x z ↔ ∃ t, KnF (· = ·) ws x t ∧ K t z
  | [], K, x, z => ⟨fun h => ⟨x, rfl, h⟩, fun ⟨t, e, h⟩ => by
      have e : x = t := e
      subst e; exact h⟩
  | w :: ws, K, x, z => by
    have a := knF_comp (ws := ws) (K := stepK K w) (x := x) (z := z)
    have b := fun t => knF_comp (ws := ws) (K := stepK (· = ·) w) (x := x) (z := t)
    show KnF (stepK K w) ws x z ↔ ∃ t, KnF (stepK (· = ·) w) ws x t ∧ K t z
    rw [a]
    constructor
    · rintro ⟨t, h1, u, h2, h3⟩
      exact ⟨u, (b u).mpr ⟨t, h1, u, h2, rfl⟩, h3⟩
    · rintro ⟨u, h1, h2⟩
      obtain ⟨t, h3, v, h4, h5⟩ := (b u).mp h1
      have h5 : v = u := h5
      subst h5
      exact ⟨t, h3, v, h4, h2⟩
theorem knF_append {a b : List (List (List Int))} {x z : Int} : KnF (· = ·) (a ++ b) x z ↔ ∃ t, KnF (· = ·) b x t ∧ KnF (· = ·) a t z := by
  have e : KnF (· = ·) (a ++ b) x z ↔ KnF (KnF (· = ·) a) b x z := by
    unfold KnF
    rw [List.foldl_append]
  rw [e, knF_comp]
theorem tog_hr_from {n : Nat} : ∀ {ws : List (List (List Int))} {g : List (List Int)}, WebsOk n ws → WebOk g → g.length = n → Hr (ws.foldl thenL g) = KnF (Hr g) ws
  | [], g, _, _, _ => rfl
  | w :: ws, g, h, v, l => by
    have hw := h w List.mem_cons_self
    have e : Hr (thenL g w) = stepK (Hr g) w := by
      funext x z
      exact propext (thenL_hr v hw.1 (by rw [hw.2, l]))
    have ih := tog_hr_from (ws := ws) (g := thenL g w) (fun u hu => h u (List.mem_cons_of_mem _ hu)) (thenL_ok v) (by rw [thenL_len, l])
    show Hr (ws.foldl thenL (thenL g w)) = KnF (stepK (Hr g) w) ws
    rw [ih, e]
theorem tog_hr {n : Nat} {ws : List (List (List Int))} (h1 : 1 ≤ n) (h2 : n ≤ 5) (h : WebsOk n ws) : Hr (togL n ws) = KnF (· = ·) ws := by
  have e : Hr (silentL n) = (· = ·) := by
    funext x z
    exact propext silentL_hr
  have z := tog_hr_from (g := silentL n) h (rowsB_ok h1 h2) rowsB_len
  rw [e] at z
  exact z
/-- rounds are put together in any way -/
theorem tog_append {n : Nat} {a b : List (List (List Int))} (h1 : 1 ≤ n) (h2 : n ≤ 5) (ha : WebsOk n a) (hb : WebsOk n b) : thenL (togL n a) (togL n b) = togL n (a ++ b) := by
  have hab : WebsOk n (a ++ b) := fun w hw => (List.mem_append.mp hw).elim (ha w) (hb w)
  have oa := tog_ok h1 h2 ha
  have ob := tog_ok h1 h2 hb
  have o := tog_ok h1 h2 hab
  refine web_ext (thenL_ok oa.1) o.1 (by rw [thenL_len, oa.2, o.2]) fun x y => ?_
  rw [thenL_hr oa.1 ob.1 (by rw [oa.2, ob.2]), tog_hr h1 h2 ha, tog_hr h1 h2 hb, tog_hr h1 h2 hab]
  exact knF_append.symm
theorem knF_mono {K : Int → Int → Prop} : ∀ {ws : List (List (List Int))} {K : Int → Int → Prop} {x z : Int}, K x z → KnF K ws x z
  | [], _, _, _, h => h
  | w :: ws, K, x, z, h => knF_mono (ws := ws) (K := stepK K w) ⟨x, .rfl', h⟩
theorem kn_refl {ws : List (List (List Int))} {x : Int} : KnF (· = ·) ws x x := knF_mono (K := (· = ·)) rfl
/-! ### how fast it spreads -/
theorem count_lt {p q : Int → Bool} : ∀ {l : List Int}, (∀ x ∈ l, p x = true → q x = true) → (∃ x ∈ l, q x = true ∧ p x = false) → l.countP p + 1 ≤ l.countP q
  | [], _, ⟨_, h, _⟩ => by cases h
  | y :: l, h, ⟨x, hx, h1, h2⟩ => by
    have m := List.countP_mono_left (l := l) (p := p) (q := q) fun x hx => h x (List.mem_cons_of_mem _ hx)
    have hy := h y List.mem_cons_self
    rcases List.mem_cons.mp hx with rfl | hx
    · simp [List.countP_cons, h1, h2]
      omega
    · have ih := count_lt (l := l) (fun x hx => h x (List.mem_cons_of_mem _ hx)) ⟨x, hx, h1, h2⟩
      rw [List.countP_cons, List.countP_cons]
      cases hp : p y with
      | true => rw [hy hp]; simp; omega
      | false => cases q y <;> simp <;> omega
open Classical in
theorem spread {n : Nat} {h : List (List Int)} (w : WebOk h) (hn : h.length = n) {z : Int} (hz : 0 ≤ z ∧ z < n) : ∀ {ws : List (List (List Int))} {K : Int → Int → Prop}, WebsOk n ws → K z z →
    (∀ x, Rch h z x → KnF K ws x z) ∨ (houses n).countP (fun x => decide (K x z)) + ws.count h ≤ (houses n).countP (fun x => decide (KnF K ws x z))
  | [], K, _, _ => .inr (by simp only [List.count_nil, Nat.add_zero]; exact Nat.le_refl _)
  | v :: ws, K, hw, hK => by
    have hK1 : stepK K v z z := ⟨z, .rfl', hK⟩
    have m : ∀ x, K x z → stepK K v x z := fun x hx => ⟨x, .rfl', hx⟩
    have m2 : (houses n).countP (fun x => decide (K x z)) ≤ (houses n).countP (fun x => decide (stepK K v x z)) := List.countP_mono_left fun x _ hx => by simpa using m x (by simpa using hx)
    rcases spread w hn hz (ws := ws) (K := stepK K v) (fun u hu => hw u (List.mem_cons_of_mem _ hu)) hK1 with ih | ih
    · exact .inl ih
    · show (∀ x, Rch h z x → KnF (stepK K v) ws x z) ∨ _ ≤ (houses n).countP (fun x => decide (KnF (stepK K v) ws x z))
      by_cases hv : v = h
      · subst hv
        by_cases hc : ∀ x t, Hr v x t → K t z → K x z
        · refine .inl fun x hx => ?_
          have key : K x z := by
            clear ih m2
            induction hx with
            | refl => exact hK
            | step _ h1 h2 ih => exact hc _ _ (.inr ⟨_, _, rfl, h1, h2⟩) ih
          exact knF_mono (K := stepK K v) (m x key)
        · refine .inr ?_
          have : ∃ x t, Hr v x t ∧ K t z ∧ ¬ K x z := Classical.byContradiction fun hno => hc fun x t a b => Classical.byContradiction fun c => hno ⟨x, t, a, b, c⟩
          obtain ⟨x, t, a, b, c⟩ := this
          have hx : x ∈ houses n := by
            rcases a.rg w with rfl | q
            · exact absurd b c
            · rw [hn] at q; exact mem_houses.mpr q.1
          have s := count_lt (p := fun x => decide (K x z)) (q := fun x => decide (stepK K v x z)) (l := houses n) (fun x _ hx => by simpa using m x (by simpa using hx)) ⟨x, hx, by simpa using (show stepK K v x z from ⟨t, a, b⟩), by simpa using c⟩
          rw [List.count_cons_self]
          omega
      · refine .inr ?_
        rw [List.count_cons_of_ne hv]
        omega
/-- behind n - 1 rounds with a web all know what leads to them -/
theorem heard_in_time {n : Nat} {h : List (List Int)} (w : WebOk h) (hn : h.length = n) {ws : List (List (List Int))} (hw : WebsOk n ws) (hc : n - 1 ≤ ws.count h) {z x : Int} (r : Rch h z x) : KnF (· = ·) ws x z := by
  rcases r.rg2 w with rfl | ⟨hz, hx⟩
  · exact kn_refl
  rw [hn] at hz hx
  rcases spread w hn hz hw (K := (· = ·)) rfl with a | a
  · exact a x r
  · classical
    have one : 1 ≤ (houses n).countP (fun x => @decide (x = z) (Classical.propDecidable _)) := List.one_le_countP_iff.mpr ⟨z, mem_houses.mpr hz, by simp⟩
    have le := List.countP_le_length (p := fun x => @decide (KnF (· = ·) ws x z) (Classical.propDecidable _)) (l := houses n)
    rw [houses_len] at le
    have full : (houses n).countP (fun x => @decide (KnF (· = ·) ws x z) (Classical.propDecidable _)) = (houses n).length := by rw [houses_len]; omega
    have := List.countP_eq_length.mp full x (mem_houses.mpr hx)
    simpa using this
theorem kn_rch {h : List (List Int)} {x z : Int} : ∀ {m : Nat}, KnF (· = ·) (List.replicate m h) x z → Rch h z x := by
  have gen : ∀ {m : Nat} {K : Int → Int → Prop}, (∀ x, K x z → Rch h z x) → ∀ x, KnF K (List.replicate m h) x z → Rch h z x := by
    intro m
    induction m with
    | zero => exact fun hK x hx => hK x hx
    | succ m ih =>
      intro K hK x hx
      refine ih (K := stepK K h) (fun x ⟨t, a, b⟩ => (hK t b).hr a) x hx
  intro m
  exact gen (K := (· = ·)) (fun x (e : x = z) => e ▸ Rch.refl) x
theorem kn_pow {n : Nat} {h : List (List Int)} (w : WebOk h) (hn : h.length = n) {m : Nat} (hm : n - 1 ≤ m) {x z : Int} : KnF (· = ·) (List.replicate m h) x z ↔ Rch h z x :=
  ⟨kn_rch, heard_in_time w hn (fun u hu => by rw [List.eq_of_mem_replicate hu]; exact ⟨w, hn⟩) (by rw [List.count_replicate_self]; exact hm)⟩
theorem rch_closed {h g : List (List Int)} (e : ∀ x z, Hr g x z ↔ Rch h z x) {x z : Int} : Rch g z x ↔ Rch h z x := by
  constructor
  · intro r
    induction r with
    | refl => exact .refl
    | step _ h1 h2 ih => exact ih.trans ((e _ _).mp (.inr ⟨_, _, rfl, h1, h2⟩))
  · intro r
    exact ((e _ _).mpr r).rch
end RSL
end

section
/-! Roots, parts and heralds. -/
namespace RSL
theorem fars_len {h : List (List Int)} : (farsOf h).length = h.length := by simp [farsOf, houses]
theorem fars_get {h : List (List Int)} {i : Nat} (hi : i < h.length) : (farsOf h)[i]? = some (farOf h (i : Int)) := by
  unfold farsOf
  rw [List.getElem?_map, houses_get hi]
  rfl
theorem full_len {n : Nat} {p : Int → Bool} : ((houses n).filter p).length = n ↔ ∀ y : Int, 0 ≤ y ∧ y < n → p y = true := by
  rw [← List.countP_eq_length_filter]
  constructor
  · intro e y hy
    exact List.countP_eq_length.mp (e.trans houses_len.symm) y (mem_houses.mpr hy)
  · intro e
    exact (List.countP_eq_length (l := houses n).mpr fun y hy => e y (mem_houses.mp hy)).trans houses_len
theorem mem_roots {h : List (List Int)} {x : Int} : x ∈ rootsOf h ↔ (0 ≤ x ∧ x < h.length) ∧ ∀ y : Int, 0 ≤ y ∧ y < h.length → Rch h x y := by
  unfold rootsOf
  simp only [List.mem_map, List.mem_filter, decide_eq_true_eq]
  constructor
  · rintro ⟨⟨f, i⟩, ⟨h1, h2⟩, rfl⟩
    have e : (farsOf h)[i]? = some f := by simpa [List.mem_zipIdx_iff_getElem?] using h1
    have hi : i < h.length := by rw [← fars_len]; exact (List.getElem?_eq_some_iff.mp e).1
    rw [fars_get hi] at e
    cases e
    refine ⟨by omega, fun y hy => ?_⟩
    have := full_len.mp h2 y hy
    simpa using this
  · rintro ⟨h1, h2⟩
    have hx : x = ((x.toNat : Nat) : Int) := by omega
    refine ⟨(farOf h x, x.toNat), ⟨?_, ?_⟩, hx.symm⟩
    · have := fars_get (h := h) (i := x.toNat) (by omega)
      rw [← hx] at this
      simpa [List.mem_zipIdx_iff_getElem?] using this
    · exact full_len.mpr fun y hy => by simpa using h2 y hy
theorem roots_lt {h : List (List Int)} : (rootsOf h).Pairwise (· < ·) := by
  unfold rootsOf
  have z : ((farsOf h).zipIdx.map fun p => (p.2 : Int)).Pairwise (· < ·) := by
    have e : ((farsOf h).zipIdx.map fun p => (p.2 : Int)) = houses h.length := by
      have e2 : (farsOf h).zipIdx.map Prod.snd = List.range h.length := by
        rw [List.zipIdx_map_snd, fars_len, List.range_eq_range']
      have : ((farsOf h).zipIdx.map fun p => (p.2 : Int)) = ((farsOf h).zipIdx.map Prod.snd).map fun i : Nat => (i : Int) := by rw [List.map_map]; rfl
      rw [this, e2]
      rfl
    rw [e]
    exact houses_lt _
  exact z.sublist (List.Sublist.map _ List.filter_sublist)
theorem mem_partOf {h : List (List Int)} {i : Nat} (hi : i < h.length) {x : Int} : x ∈ partOf (farsOf h) i (farOf h (i : Int)) ↔ Rch h (i : Int) x ∧ Rch h x (i : Int) := by
  unfold partOf
  rw [List.mem_filter]
  have hs : 0 ≤ (i : Int) ∧ (i : Int) < h.length := by omega
  rw [mem_farOf hs]
  constructor
  · rintro ⟨h1, h2⟩
    have hx := h1.rg hs
    have e := fars_get (h := h) (i := x.toNat) (by omega)
    rw [e] at h2
    have hxx : ((x.toNat : Nat) : Int) = x := by omega
    rw [hxx] at h2
    have h2 := of_decide_eq_true h2
    exact ⟨h1, (mem_farOf hx).mp h2⟩
  · rintro ⟨h1, h2⟩
    have hx := h1.rg hs
    have e := fars_get (h := h) (i := x.toNat) (by omega)
    have hxx : ((x.toNat : Nat) : Int) = x := by omega
    refine ⟨h1, decide_eq_true ?_⟩
    rw [e, hxx]
    exact (mem_farOf hx).mpr h2
/-- the roots are a part -/
theorem roots_part {h : List (List Int)} (ne : rootsOf h ≠ []) : rootsOf h ∈ partsL (farsOf h) := by
  obtain ⟨x, xs, e⟩ := List.exists_cons_of_ne_nil ne
  have hx : x ∈ rootsOf h := by rw [e]; simp
  obtain ⟨h1, h2⟩ := mem_roots.mp hx
  have hxx : ((x.toNat : Nat) : Int) = x := by omega
  have hi : x.toNat < h.length := by omega
  have key : partOf (farsOf h) x.toNat (farOf h (x.toNat : Nat)) = rootsOf h := by
    refine lt_unique (farOf_lt.sublist List.filter_sublist) roots_lt fun y => ?_
    rw [mem_partOf hi, hxx, mem_roots]
    constructor
    · rintro ⟨a, b⟩
      exact ⟨a.rg h1, fun z hz => b.trans (h2 z hz)⟩
    · rintro ⟨a, b⟩
      exact ⟨h2 y a, b x h1⟩
  unfold partsL
  rw [List.mem_map]
  refine ⟨(farOf h (x.toNat : Nat), x.toNat), List.mem_filter.mpr ⟨?_, ?_⟩, key⟩
  · have := fars_get hi
    simpa [List.mem_zipIdx_iff_getElem?] using this
  · show decide ((partOf (farsOf h) x.toNat (farOf h (x.toNat : Nat)))[0]? = some ((x.toNat : Nat) : Int)) = true
    rw [key, e, hxx]
    simp

open Classical in
noncomputable def heraldsL (h : List (List Int)) : List Int := (houses h.length).filter fun z => decide (∀ x : Int, 0 ≤ x ∧ x < h.length → Hr h x z)
theorem mem_heralds {h : List (List Int)} {z : Int} : z ∈ heraldsL h ↔ (0 ≤ z ∧ z < h.length) ∧ ∀ x : Int, 0 ≤ x ∧ x < h.length → Hr h x z := by
  unfold heraldsL
  rw [List.mem_filter, mem_houses]
  simp
theorem heralds_lt {h : List (List Int)} : (heraldsL h).Pairwise (· < ·) := (houses_lt _).sublist List.filter_sublist
section
variable {n : Nat} {h : List (List Int)}
theorem reps_ok (w : WebOk h) (hn : h.length = n) {m : Nat} : WebsOk n (List.replicate m h) := fun u hu => by rw [List.eq_of_mem_replicate hu]; exact ⟨w, hn⟩
theorem WebOk.bds (w : WebOk h) (hn : h.length = n) : 1 ≤ n ∧ n ≤ 5 := ⟨hn ▸ w.lo, hn ▸ w.hi⟩
theorem heralds_roots (w : WebOk h) (hn : h.length = n) : heraldsL (togL n (List.replicate (n - 1) h)) = rootsOf h := by
  obtain ⟨h1, h2⟩ := w.bds hn
  have o := tog_ok h1 h2 (reps_ok w hn (m := n - 1))
  refine lt_unique heralds_lt roots_lt fun z => ?_
  rw [mem_heralds, mem_roots, o.2, tog_hr h1 h2 (reps_ok w hn), hn]
  exact and_congr Iff.rfl (forall_congr' fun x => imp_congr Iff.rfl (kn_pow w hn (Nat.le_refl _)))
theorem roots_heralds (w : WebOk h) (hn : h.length = n) {ws : List (List (List Int))} (hw : WebsOk n ws) (hc : n - 1 ≤ ws.count h) {z : Int} (hz : z ∈ rootsOf h) : z ∈ heraldsL (togL n ws) := by
  obtain ⟨h1, h2⟩ := w.bds hn
  have o := tog_ok h1 h2 hw
  obtain ⟨a, b⟩ := mem_roots.mp hz
  rw [mem_heralds, o.2, tog_hr h1 h2 hw]
  rw [hn] at a b
  exact ⟨a, fun x hx => heard_in_time w hn hw hc (b x hx)⟩
theorem roots_hear (w : WebOk h) {i : Nat} {r : List Int} (hi : (i : Int) ∈ rootsOf h) (e : h[i]? = some r) {y : Int} (hy : y ∈ r) : y ∈ rootsOf h := by
  obtain ⟨a, b⟩ := mem_roots.mp hi
  refine mem_roots.mpr ⟨(w.get e).1 y hy, fun z hz => ?_⟩
  exact (Rch.step .refl e hy).trans (b z hz)
/-- n rounds with a web, and one more -/
theorem again_hr (w : WebOk h) (hn : h.length = n) {x z : Int} : Hr (togL n (List.replicate n h)) x z ↔ Rch h z x := by
  obtain ⟨h1, h2⟩ := w.bds hn
  rw [tog_hr h1 h2 (reps_ok w hn)]
  exact kn_pow w hn (by omega)
theorem again_then (w : WebOk h) (hn : h.length = n) : thenL (togL n (List.replicate n h)) h = togL n (List.replicate n h) := by
  obtain ⟨h1, h2⟩ := w.bds hn
  have o := tog_ok h1 h2 (reps_ok w hn (m := n))
  refine web_ext (thenL_ok o.1) o.1 thenL_len fun x y => ?_
  rw [thenL_hr o.1 w (by rw [o.2, hn]), again_hr w hn]
  constructor
  · rintro ⟨t, a, b⟩
    exact ((again_hr w hn).mp b).hr a
  · intro r
    exact ⟨x, .rfl', (again_hr w hn).mpr r⟩
theorem far_again (w : WebOk h) (hn : h.length = n) : farsOf (togL n (List.replicate n h)) = farsOf h := by
  obtain ⟨h1, h2⟩ := w.bds hn
  have o := tog_ok h1 h2 (reps_ok w hn (m := n))
  unfold farsOf
  rw [o.2, hn]
  refine List.map_congr_left fun s _ => ?_
  unfold farOf
  rw [o.2, hn]
  congr 1
  funext x
  exact decide_eq_decide.mpr (rch_closed fun x z => again_hr w hn)
theorem roots_again (w : WebOk h) (hn : h.length = n) : rootsOf (togL n (List.replicate n h)) = rootsOf h := by
  obtain ⟨h1, h2⟩ := w.bds hn
  have o := tog_ok h1 h2 (reps_ok w hn (m := n))
  unfold rootsOf
  rw [far_again w hn, o.2, hn]
/-- the first rounds, and the last ones, are within all -/
theorem within_left {a b : List (List (List Int))} (h1 : 1 ≤ n) (h2 : n ≤ 5) (ha : WebsOk n a) (hb : WebsOk n b) {x y : Int} (z : Hr (togL n a) x y) : Hr (togL n (a ++ b)) x y := by
  rw [tog_hr h1 h2 ha] at z
  rw [tog_hr h1 h2 fun w hw => (List.mem_append.mp hw).elim (ha w) (hb w)]
  exact knF_append.mpr ⟨x, kn_refl, z⟩
theorem within_right {a b : List (List (List Int))} (h1 : 1 ≤ n) (h2 : n ≤ 5) (ha : WebsOk n a) (hb : WebsOk n b) {x y : Int} (z : Hr (togL n b) x y) : Hr (togL n (a ++ b)) x y := by
  rw [tog_hr h1 h2 hb] at z
  rw [tog_hr h1 h2 fun w hw => (List.mem_append.mp hw).elim (ha w) (hb w)]
  exact knF_append.mpr ⟨y, z, kn_refl⟩
theorem row_within {g : List (List Int)} (w : WebOk h) (e : ∀ x y, Hr h x y → Hr g x y) {i : Nat} {r q : List Int} (h1 : h[i]? = some r) (h2 : g[i]? = some q) {y : Int} (hy : y ∈ r) : y ∈ q := by
  rcases e (i : Nat) y (.inr ⟨i, r, rfl, h1, hy⟩) with rfl | ⟨j, s, hj, h3, h4⟩
  · exact absurd hy (w.get h1).2.2.1
  · have : j = i := by omega
    subst this
    rw [h2] at h3
    cases h3
    exact h4
end
end RSL
end

section
set_option maxRecDepth 100000
set_option maxHeartbeats 4000000
/-! A web is made. -/
namespace RSL
open PySem PySem.Spec RS
section
variable {h g : List (List Int)} {S : Store}
def w0 (h : List (List Int)) (n : Nat) : RS.Env := [some (.ref n), some (.d (encH h)), none, none]
theorem rngD_houses (n : Nat) : rngD 0 n = (houses n).map D.int := by
  simp [rngD, houses, Function.comp_def]
theorem len_H : lenP [.d (encH h)] S = .ok (.d (.int h.length)) S := by
  show lenP [.d (.tup (h.map encR))] S = _
  simp [lenP, seqOf, tupOf]
theorem len_R {r : List Int} : lenP [.d (encR r)] S = .ok (.d (.int r.length)) S := by
  show lenP [.d (.tup (r.map D.int))] S = _
  simp [lenP, seqOf, tupOf]
theorem kd_H : kd (.d (encH h)) = .tup (h.map encR) ∨ kd (.d (encH h)) = .lst (h.map encR) := .inl rfl
theorem kd_R {r : List Int} : kd (.d (encR r)) = .tup (r.map D.int) ∨ kd (.d (encR r)) = .lst (r.map D.int) := .inl rfl
theorem tup_fl {ds : List D} : tupleP [.d (.fl ds)] S = .ok (.d (.tup ds)) S := rfl
theorem w_reached (hS : Gd S) (w : WebOk h) {n : Nat} : bcall tupleP (aCons (lcM false [2] (rng1 (bcall lenP (aCons (cVar 1) aNil))) (.one 2) tYesM (callM 2 F_reached_from [] (aCons (cVar 1) (aCons (cVar 2) aNil)))) aNil) (w0 h n) S = .ok (.d (encH (farsOf h))) S := by
  have hq : rng1 (bcall lenP (aCons (cVar 1) aNil)) (w0 h n) S = .ok ((houses h.length).map D.int) S := by
    rw [← rngD_houses]
    exact ev_rng (ev_b1 (ev_var rfl) len_H) (by have := w.hi; omega)
  have z := comp_map (vs := [2]) (tg := .one 2) (e := callM 2 F_reached_from [] (aCons (cVar 1) (aCons (cVar 2) aNil))) D.int (fun x => encR (farOf h x)) hq (by have := w.hi; rw [houses_len]; omega)
    (fun x hx => ⟨_, rfl, ev_call2 (ev_var rfl) (ev_var rfl) (reached_far hS w (mem_houses.mp hx))⟩)
  have e : (houses h.length).map (fun x => encR (farOf h x)) = (farsOf h).map encR := by
    unfold farsOf
    rw [List.map_map]
    rfl
  rw [e] at z
  exact ev_b1 z tup_fl
theorem look_cons {f : Str} {v : A} {r : List (Str × A)} : List.lookup f ((f, v) :: r) = some v := by simp [List.lookup]
theorem look_ne {f k : Str} {v : A} {r : List (Str × A)} (e : (f == k) = false) : List.lookup f ((k, v) :: r) = List.lookup f r := by simp [List.lookup, e]
theorem w_roots (w : WebOk h) {fs : List (Str × D)} (hv : (fs.map fun p => (p.1, A.d p.2)).lookup ("_reached" : Str) = some (.d (encH (farsOf h)))) :
    bcall tupleP (aCons (lcM false [2, 3] (enumI (una (fldP "Web" "_reached") (cVar 0))) (.two 2 3) (asB (bin (eqP false) (bcall lenP (aCons (cVar 3) aNil)) (bcall lenP (aCons (cVar 1) aNil)))) (cVar 2)) aNil) (w0 h S.length) (IT S fs) = .ok (.d (encR (rootsOf h))) (IT S fs) := by
  have hq : enumI (una (fldP "Web" "_reached") (cVar 0)) (w0 h S.length) (IT S fs) = .ok ((farsOf h).zipIdx.map fun p => D.tup [.int (p.2 : Nat), encR p.1]) (IT S fs) := by
    rw [← enum_map]
    exact ev_enumI (rd_fld rfl hv) kd_H
  have z := comp_ev (vs := [2, 3]) (tg := .two 2 3) (t := asB (bin (eqP false) (bcall lenP (aCons (cVar 3) aNil)) (bcall lenP (aCons (cVar 1) aNil)))) (e := cVar 2) (fun p : List Int × Nat => D.tup [.int (p.2 : Nat), encR p.1]) (fun p => decide (p.1.length = h.length)) (fun p => D.int (p.2 : Nat)) hq
    (by have := w.hi; rw [List.length_zipIdx, fars_len]; omega) (fun p hp => ⟨_, rfl, by
      have y := eq_enc (S := IT S fs) (neg := false) enc_int (by decide) (p.1.length : Int) (h.length : Int)
      have e : (decide ((p.1.length : Int) = (h.length : Int)) ^^ false) = decide (p.1.length = h.length) := by
        rw [Bool.xor_false]
        exact decide_eq_decide.mpr (by omega)
      rw [e] at y
      exact ev_asB (ev_bin (ev_b1 (ev_var rfl) len_R) (ev_b1 (ev_var rfl) len_H) y), fun _ => ev_var rfl⟩)
  have e : ((farsOf h).zipIdx.filter fun p => decide (p.1.length = h.length)).map (fun p => D.int (p.2 : Nat)) = (rootsOf h).map D.int := by
    unfold rootsOf
    rw [List.map_map]
    rfl
  rw [e] at z
  exact ev_b1 z tup_fl
theorem far_self {s : Int} (hs : 0 ≤ s ∧ s < h.length) : s ∈ farOf h s := (mem_farOf hs).mpr .refl
theorem far_len (w : WebOk h) {s : Int} : (farOf h s).length ≤ 5 := by
  unfold farOf
  refine Nat.le_trans (List.length_filter_le _ _) ?_
  rw [houses_len]
  exact w.hi
theorem w_parts (hS : Gd S) (w : WebOk h) : F_mutual_parts [.d (encH (farsOf h))] S = .ok (.d (encH (partsL (farsOf h)))) S := by
  refine mutual_ev hS (by rw [fars_len]; exact w.hi) fun p hp => ?_
  obtain ⟨f, i⟩ := p
  have e : (farsOf h)[i]? = some f := by simpa [List.mem_zipIdx_iff_getElem?] using hp
  have hi : i < h.length := by rw [← fars_len]; exact (List.getElem?_eq_some_iff.mp e).1
  rw [fars_get hi] at e
  cases e
  have hs : 0 ≤ (i : Int) ∧ (i : Int) < h.length := by omega
  refine ⟨far_len w, fun o ho => ?_, far_self hs⟩
  rw [fars_len]
  exact ((mem_farOf hs).mp ho).rg hs
theorem it_len {fs : List (Str × D)} : (IT S fs).length = S.length + 1 := by simp [IT]
theorem init_ev (hS : Gd S) (w : WebOk h) : F_Web___init__ [.ref S.length, .d (encH h)] (S ++ [.ins "Web" []]) = .ok (.d .non) (IT S (webFs h)) := by
  have s0 : S ++ [.ins "Web" []] = IT S [] := rfl
  rw [s0]
  have g0 := fun fs => gd_it (fs := fs) hS
  have f1 : sFldM "Web" "_heard" (cVar 1) (cVar 0) (w0 h S.length) (IT S []) = .ok (.nx (w0 h S.length)) (IT S [("_heard", encH h)]) := fld_ev (ev_var rfl) rfl (by decide)
  have f2 : sFldM "Web" "_size" (bcall lenP (aCons (cVar 1) aNil)) (cVar 0) (w0 h S.length) (IT S [("_heard", encH h)]) = .ok (.nx (w0 h S.length)) (IT S [("_heard", encH h), ("_size", .int h.length)]) := fld_ev (ev_b1 (ev_var rfl) len_H) rfl (by simp)
  have f3 := fld_ev (f := "_reached") (w_reached (n := S.length) (g0 [("_heard", encH h), ("_size", .int h.length)]) w) rfl (by simp)
  have f4 := fld_ev (f := "_roots") (w_roots (S := S) (fs := [("_heard", encH h), ("_size", .int h.length), ("_reached", encH (farsOf h))]) w (by rfl)) rfl (by simp)
  have f5 := fld_ev (f := "_parts") (ρ := w0 h S.length) (fs := [("_heard", encH h), ("_size", .int h.length), ("_reached", encH (farsOf h)), ("_roots", encR (rootsOf h))]) (ev_call1 (f := una (fldP "Web" "_reached") (cVar 0)) (rd_fld (f := "_reached") (v := encH (farsOf h)) rfl (by rfl)) (w_parts (g0 _) w)) rfl (by simp)
  refine ev_fnN (ρ := w0 h S.length) (S1 := IT S (webFs h)) rfl ?_ ?_
  · exact ev_seq (ev_skip (ev_not (ev_asB (ev_call1 (ev_var rfl) (is_heard_ev (g0 []) w))))) (ev_seq f1 (ev_seq f2 (ev_seq f3 (ev_seq f4 f5))))
  · have z := ret_d (keep := false) (x := D.non) (g0 (webFs h))
    rw [it_len] at z ⊢
    exact z
/-- the attributes -/
noncomputable def wos (h : List (List Int)) : List (Str × A) := (webFs h).map fun p => (p.1, A.d p.2)
theorem pureF_map : ∀ fs : List (Str × D), pureF (fs.map fun p => (p.1, A.d p.2)) = some (fs.map Prod.snd)
  | [] => rfl
  | (f, v) :: fs => by simp [pureF, pureF_map fs]
theorem zipA_map : ∀ fs : List (Str × D), zipA (fs.map Prod.fst) (fs.map Prod.snd) = fs.map fun p => (p.1, A.d p.2)
  | [] => rfl
  | (f, v) :: fs => by
    have := zipA_map fs
    simp only [zipA] at this ⊢
    simp [this]
theorem ins_web : insOf S "Web" (.d (webD h)) = some (wos h) := by
  show (if ("Web" : Str) = "Web" then some (zipA ((webFs h).map Prod.fst) ((webFs h).map Prod.snd)) else none) = _
  rw [if_pos rfl, zipA_map]
  rfl
theorem look_heard : (wos h).lookup ("_heard" : Str) = some (.d (encH h)) := by rfl
theorem look_size : (wos h).lookup ("_size" : Str) = some (.d (.int h.length)) := by rfl
theorem look_roots : (wos h).lookup ("_roots" : Str) = some (.d (encR (rootsOf h))) := by rfl
theorem look_parts : (wos h).lookup ("_parts" : Str) = some (.d (encH (partsL (farsOf h)))) := by rfl
theorem make_ev (hS : Gd S) (w : WebOk h) {ρ : RS.Env} {fs : M (List A)} {S0 : Store} (e : fs ρ S0 = .ok [.d (encH h)] S) : makeM false "Web" 2 F_Web___init__ [] fs ρ S0 = .ok (.d (webD h)) S := by
  refine ev_make e rfl (init_ev hS w) ?_
  have z : storeOk S.length (IT S (webFs h)) = true := ok_app rfl hS
  unfold retA
  rw [if_pos z]
  have e2 : ¬ S.length < S.length := by omega
  simp only [e2, if_false, it_at, pureF_map]
  have e3 : (IT S (webFs h)).take S.length = S := by simp [IT]
  rw [e3]
  have e4 : ((webFs h).map fun p => (p.1, A.d p.2)).map Prod.fst = (webFs h).map Prod.fst := by simp [Function.comp_def]
  rw [e4]
  rfl
end
end RSL
end

section
set_option maxRecDepth 100000
set_option maxHeartbeats 4000000
/-! What the methods of a web give. -/
namespace RSL
open PySem PySem.Spec RS
section
variable {h g : List (List Int)} {S : Store}
/-! ### comprehensions over two -/
theorem lcI_map {α : Type} {tg1 : Tg} {e : M A} {ρ : RS.Env} {k : Store → List D → R (List D)} (gi f : α → D) : ∀ {ys : List α} {acc : List D}, (∀ y ∈ ys, ∃ ρ1, tg1.put (gi y) ρ = some ρ1 ∧ e ρ1 S = .ok (.d (f y)) S) →
    lcI tg1 tYesM e k (ys.map gi) ρ S acc = k S (acc ++ ys.map f)
  | [], acc, _ => by simp [lcI]
  | y :: ys, acc, hh => by
    obtain ⟨ρ1, h1, h2⟩ := hh y List.mem_cons_self
    have ih := fun acc => lcI_map (k := k) gi f (ys := ys) (acc := acc) fun d hd => hh d (List.mem_cons_of_mem _ hd)
    simp [lcI, h1, tYesM, nextX, h2, ih]
theorem lcO_map {α β : Type} {tg tg1 : Tg} {q1 : MI} {vs1 : List Nat} {e : M A} {ρ : RS.Env} (g : α → D) (gi : β → D) (inn : α → List β) (f : α → β → D) : ∀ {xs : List α} {acc : List D},
    (∀ x ∈ xs, ∃ ρ1, tg.put (g x) ρ = some ρ1 ∧ q1 ρ1 S = .ok ((inn x).map gi) S ∧ ∀ y ∈ inn x, ∃ ρ2, tg1.put (gi y) (wipeE ρ1 vs1) = some ρ2 ∧ e ρ2 S = .ok (.d (f x y)) S) →
    acc.length + (xs.flatMap fun x => (inn x).map (f x)).length ≤ 1000 →
    lcO tg tYesM q1 vs1 tg1 tYesM e (xs.map g) ρ S acc = .ok (acc ++ xs.flatMap fun x => (inn x).map (f x)) S
  | [], acc, _, _ => by simp [lcO]
  | x :: xs, acc, hh, hl => by
    obtain ⟨ρ1, h1, h2, h3⟩ := hh x List.mem_cons_self
    rw [List.flatMap_cons, List.length_append] at hl
    have ih := lcO_map (tg := tg) (tg1 := tg1) (q1 := q1) (vs1 := vs1) (e := e) (ρ := ρ) g gi inn f (xs := xs) (acc := acc ++ (inn x).map (f x)) (fun d hd => hh d (List.mem_cons_of_mem _ hd)) (by rw [List.length_append]; omega)
    have hs : acc.length + (inn x).length ≤ sizeLine := sz (by rw [List.length_map] at hl; omega)
    have hi := lcI_map (k := fun S3 acc3 => lcO tg tYesM q1 vs1 tg1 tYesM e (xs.map g) ρ S3 acc3) gi (f x) (acc := acc) h3
    simp only [List.map_cons, lcO, h1, tYesM, nextX, if_true, h2, List.length_map, hs, hi] at ih ⊢
    rw [ih, List.flatMap_cons, List.append_assoc]
theorem comp2_map {α β : Type} {tg tg1 : Tg} {q q1 : MI} {vs vs1 : List Nat} {e : M A} {ρ : RS.Env} (g : α → D) (gi : β → D) (inn : α → List β) (f : α → β → D) {xs : List α} (hq : q ρ S = .ok (xs.map g) S)
    (hh : ∀ x ∈ xs, ∃ ρ1, tg.put (g x) (wipeE ρ vs) = some ρ1 ∧ q1 ρ1 S = .ok ((inn x).map gi) S ∧ ∀ y ∈ inn x, ∃ ρ2, tg1.put (gi y) (wipeE ρ1 vs1) = some ρ2 ∧ e ρ2 S = .ok (.d (f x y)) S)
    (hl : (xs.flatMap fun x => (inn x).map (f x)).length ≤ 1000) :
    lcM2 false vs q tg tYesM q1 vs1 tg1 tYesM e ρ S = .ok (.d (.fl (xs.flatMap fun x => (inn x).map (f x)))) S := by
  have z := lcO_map (S := S) (tg := tg) (tg1 := tg1) (q1 := q1) (vs1 := vs1) (e := e) (ρ := wipeE ρ vs) g gi inn f (xs := xs) (acc := []) hh (by simpa using hl)
  simp only [lcM2, hq, R.bind, z]
  simp [lcE]
/-! ### hears -/
def hearL (h : List (List Int)) (i : Int) : List Int := sortI ((h[i.toNat]?.getD []) ++ [i])
theorem mem_hear (w : WebOk h) {i x : Int} (hi : 0 ≤ i ∧ i < h.length) : x ∈ hearL h i ↔ Hr h i x := by
  unfold hearL
  rw [(sortI_perm _).mem_iff, List.mem_append, List.mem_singleton]
  have hn : i.toNat < h.length := by omega
  have e : h[i.toNat]? = some h[i.toNat] := List.getElem?_eq_getElem hn
  rw [e, Option.getD_some]
  have hii : ((i.toNat : Nat) : Int) = i := by omega
  constructor
  · rintro (hx | rfl)
    · exact .inr ⟨i.toNat, _, hii.symm, e, hx⟩
    · exact .rfl'
  · rintro (rfl | ⟨j, r, hj, h1, h2⟩)
    · exact .inr rfl
    · have : j = i.toNat := by omega
      subst this
      rw [e] at h1
      cases h1
      exact .inl h2
theorem hear_len (w : WebOk h) {i : Int} (hi : 0 ≤ i ∧ i < h.length) : (hearL h i).length ≤ 6 := by
  unfold hearL
  rw [(sortI_perm _).length_eq, List.length_append]
  have hn : i.toNat < h.length := by omega
  have e : h[i.toNat]? = some h[i.toNat] := List.getElem?_eq_getElem hn
  have := (w.get e).2.2.2
  rw [e]
  simp
  omega
theorem row_at {i : Int} (hi : 0 ≤ i ∧ i < h.length) : L2.atI (h.map encR) i = some (encR (h[i.toNat]?.getD [])) := by
  have e : L2.atI (h.map encR) ((i.toNat : Nat) : Int) = some (encR (h[i.toNat]?.getD [])) := by
    have hn : i.toNat < h.length := by omega
    rw [at_nat]
    simp [hn]
  have e2 : ((i.toNat : Nat) : Int) = i := by omega
  rwa [e2] at e
theorem ix_H {i : Int} (hi : 0 ≤ i ∧ i < h.length) : ixP (.d (encH h)) (.d (.int i)) S = .ok (.d (encR (h[i.toNat]?.getD []))) S := by
  have z := row_at hi
  show ixP (.d (.tup (h.map encR))) (.d (.int i)) S = _
  simp [ixP, seqOf, tupOf, z]
theorem hears_ev (hS : Gd S) (w : WebOk h) {i : Int} (hi : 0 ≤ i ∧ i < h.length) : F_Web_hears [.d (webD h), .d (.int i)] S = .ok (.d (encR (hearL h i))) S := by
  have c := check_index_ev (i := i) (n := h.length) hS hi.1 hi.2 (by have := w.hi; omega)
  have hl := hear_len w hi
  unfold hearL at hl
  rw [(sortI_perm _).length_eq] at hl
  refine ev_fn (S1 := S) (a := .d (encR (hearL h i))) rfl ?_ (ret_d hS)
  refine ev_seq (ev_exp (ev_call2 (ev_var rfl) (ev_fld (ev_var rfl) ins_web look_size) c)) (ev_ret ?_)
  refine ev_b1 (a := .d (.fl ((hearL h i).map D.int))) (ev_b1 (S1 := S) (a := .d (.fl (((h[i.toNat]?.getD []) ++ [i]).map D.int))) ?_ ?_) tup_fl
  · refine ev_flM (as := ((h[i.toNat]?.getD []).map D.int).map A.d ++ [.d (.int i)]) (ev_star (ev_bin (ev_fld (ev_var rfl) ins_web look_heard) (ev_var rfl) (ix_H hi)) rfl (ev_cons (ev_var rfl) ev_nil)) ?_ (by rw [List.length_map]; omega)
    have gen : ∀ r : List Int, pures ((r.map D.int).map A.d ++ [.d (.int i)]) = some ((r ++ [i]).map D.int) := by
      intro r
      induction r with
      | nil => rfl
      | cons x r ih => simp only [List.map_cons, List.cons_append, pures, pureA, ih]
    exact gen _
  · simp only [sortP, lstOf, intsD_map]
    simp [hearL]
/-! ### whether it is a web of this size -/
theorem size_ev (hS : Gd S) : F_Web_size [.d (webD h)] S = .ok (.d (.int h.length)) S := ev_fn rfl (ev_ret (ev_fld (ev_var rfl) ins_web look_size)) (ret_d hS)
theorem heard_ev (hS : Gd S) : F_Web_heard [.d (webD h)] S = .ok (.d (encH h)) S := ev_fn rfl (ev_ret (ev_fld (ev_var rfl) ins_web look_heard)) (ret_d hS)
theorem roots_ev (hS : Gd S) : F_Web_roots [.d (webD h)] S = .ok (.d (encR (rootsOf h))) S := ev_fn rfl (ev_ret (ev_fld (ev_var rfl) ins_web look_roots)) (ret_d hS)
theorem eq_int {i j : Int} {neg : Bool} : eqP neg (.d (.int i)) (.d (.int j)) S = .ok (.d (.bl (decide (i = j) ^^ neg))) S := eq_enc enc_int (by decide) i j
theorem isi_webD : isiP tb_Web (.d (webD h)) S = .ok (.d (.bl true)) S := isi_web
theorem check_web_ev (hS : Gd S) {n : Int} (hn : (h.length : Int) = n) : F_check_web [.d (webD h), .d (.int n)] S = .ok (.d .non) S := by
  have e1 : F_is_web_of [.d (webD h), .d (.int n)] S = .ok (.d (.bl true)) S := by
    refine ev_fn rfl (ev_ret (ev_andV_t (ev_una (ev_var rfl) isi_webD) (ev_bin (ev_pro (ev_var rfl) ins_web rfl (size_ev hS)) (ev_var rfl) eq_int))) ?_
    rw [hn, decide_eq_true rfl]
    exact ret_d hS
  exact ev_fnN rfl (ev_skip (ev_not (ev_asB (ev_call2 (ev_var rfl) (ev_var rfl) e1)))) (ret_d hS)
/-! ### == -/
/-! ### is_within -/
end
end RSL
end

section
set_option maxRecDepth 100000
set_option maxHeartbeats 4000000
/-! A pool is made. -/
namespace RSL
open PySem PySem.Spec RS
section
variable {S : Store}
abbrev Rows := List (List Int)
structure PoolOk (n : Nat) (ws : List Rows) : Prop where
  lo : 1 ≤ ws.length
  hi : ws.length ≤ 8
  web : ∀ w ∈ ws, WebOk w ∧ w.length = n
  nd : ws.Nodup
noncomputable def alwaysOf (n : Nat) (ws : List Rows) : List Int := (houses n).filter fun x => (ws.map fun w => decide (x ∈ rootsOf w)).all id
noncomputable def poolFs (n : Nat) (ws : List Rows) : List (Str × D) := [("_webs", .tup (ws.map webD)), ("_size", .int n), ("_roots", .tup (ws.map fun w => encR (rootsOf w))), ("_always", encR (alwaysOf n ws))]
noncomputable def poolD (n : Nat) (ws : List Rows) : D := .ob "Pool" ((poolFs n ws).map Prod.fst) ((poolFs n ws).map Prod.snd)
/-! ### keys -/
theorem keys_map {α : Type} {g : α → D} {K : α → NestedKey} (h : ∀ x, keyOf (g x) = some (K x)) : ∀ xs : List α, keysOf (xs.map g) = some (xs.map K)
  | [] => rfl
  | x :: xs => by simp only [List.map_cons, keysOf, h x, keys_map h xs]
theorem deep_map {α : Type} {K : α → NestedKey} {k : Nat} (h : ∀ x, (K x).depth ≤ k) : ∀ xs : List α, NestedKey.depthAll (xs.map K) ≤ k
  | [] => Nat.zero_le _
  | x :: xs => by
    have a := h x
    have b := deep_map h xs
    simp only [List.map_cons, NestedKey.depthAll]
    omega
def keyR (r : List Int) : NestedKey := .tup (r.map .num)
def keyH (h : Rows) : NestedKey := .tup (h.map keyR)
theorem key_R (r : List Int) : keyOf (encR r) = some (keyR r) := by
  unfold encR keyOf
  rw [keys_map (K := NestedKey.num) (fun x => by unfold keyOf; rfl)]
  rfl
theorem key_H (h : Rows) : keyOf (encH h) = some (keyH h) := by
  unfold encH keyOf
  rw [keys_map key_R]
  rfl
theorem deepR (r : List Int) : (keyR r).depth ≤ 1 := by
  have z := deep_map (K := NestedKey.num) (k := 0) (fun x => by simp [NestedKey.depth]) r
  unfold keyR NestedKey.depth
  omega
theorem deepH (h : Rows) : (keyH h).depth ≤ 2 := by
  have z := deep_map deepR h
  unfold keyH NestedKey.depth
  omega
theorem map_inj {α β : Type} {f : α → β} (h : ∀ x y, f x = f y → x = y) : ∀ xs ys : List α, xs.map f = ys.map f → xs = ys
  | [], [], _ => rfl
  | [], y :: ys, e => by simp at e
  | x :: xs, [], e => by simp at e
  | x :: xs, y :: ys, e => by
    rw [List.map_cons, List.map_cons] at e
    injection e with e1 e2
    rw [h x y e1, map_inj h xs ys e2]
theorem keyR_inj (r q : List Int) (e : keyR r = keyR q) : r = q := by
  unfold keyR at e
  injection e with e
  exact map_inj (fun x y e => by injection e) r q e
theorem keyH_inj (h g : Rows) (e : keyH h = keyH g) : h = g := by
  unfold keyH at e
  injection e with e
  exact map_inj keyR_inj h g e
theorem met_nodup : ∀ (ks acc : List NestedKey), ks.Nodup → (∀ k ∈ ks, k ∉ acc) → (metK acc ks).length = acc.length + ks.length
  | [], acc, _, _ => rfl
  | k :: ks, acc, nd, h => by
    obtain ⟨h1, h2⟩ := List.nodup_cons.mp nd
    unfold metK
    rw [if_neg (h k List.mem_cons_self), met_nodup ks (k :: acc) h2 fun x hx z => ?_]
    · rw [List.length_cons, List.length_cons]
      omega
    · rcases List.mem_cons.mp z with rfl | z
      · exact h1 hx
      · exact h x (List.mem_cons_of_mem _ hx) z
theorem tups_H : ∀ ws : List Rows, tups (ws.map encH) = true
  | [] => rfl
  | w :: ws => by
    show tups (.tup (w.map encR) :: ws.map encH) = true
    simp only [tups, tups_H ws]
theorem keys_nd {ws : List Rows} (nd : ws.Nodup) : (ws.map keyH).Nodup := by
  unfold List.Nodup at nd ⊢
  rw [List.pairwise_map]
  exact nd.imp fun {x y} ne e => ne (keyH_inj x y e)
theorem lenSet_ev {ws : List Rows} (nd : ws.Nodup) (hl : ws.length ≤ 8) : lenSetP (.d (.fl (ws.map encH))) S = .ok (.d (.int ws.length)) S := by
  have e1 := keys_map key_H ws
  have e2 := met_nodup (ws.map keyH) [] (keys_nd nd) (fun k _ z => nomatch z)
  have e3 : ((ws.map keyH).all fun k => decide (k.depth ≤ 8)) = true := by
    refine List.all_eq_true.mpr fun k hk => ?_
    obtain ⟨w, _, rfl⟩ := List.mem_map.mp hk
    exact decide_eq_true (Nat.le_trans (deepH w) (by decide))
  have e4 : tups (ws.map encH) = true ∧ (ws.map keyH).length < 64 ∧ ((ws.map keyH).all fun k => decide (k.depth ≤ 8)) = true := ⟨tups_H ws, by rw [List.length_map]; omega, e3⟩
  unfold lenSetP
  simp only [lstOf, e1]
  rw [if_pos e4, e2]
  simp
/-! ### what webs of a pool are -/
theorem len_tup {ds : List D} : lenP [.d (.tup ds)] S = .ok (.d (.int ds.length)) S := by simp [lenP, seqOf, tupOf]
theorem ix_tup {ds : List D} {k : Int} {d : D} (h : L2.atI ds k = some d) : ixP (.d (.tup ds)) (.d (.int k)) S = .ok (.d d) S := by
  simp [ixP, seqOf, tupOf, h]
theorem le_ev {i j : Int} {t : Bool} (h : decide (i ≤ j) = t) : ordP leB (.d (.int i)) (.d (.int j)) S = .ok (.d (.bl t)) S := by subst h; rfl
theorem ev_chn {p q : A → A → Store → RS.R A} {fa fb fc : M A} {ρ : RS.Env} {S1 S2 S3 S4 : Store} {a b c : A} {r : RS.R A} (h1 : fa ρ S = .ok a S1) (h2 : fb ρ S1 = .ok b S2) (h3 : p a b S2 = .ok (.d (.bl true)) S3) (h4 : fc ρ S3 = .ok c S4) (h5 : q b c S4 = r) : chn p q fa fb fc ρ S = r := by
  simp [chn, h1, h2, h3, h4, h5, RS.R.bind]
theorem all_true {α : Type} {xs : List α} : allP false [.d (.fl (xs.map fun _ => D.bl true))] S = .ok (.d (.bl true)) S := by
  have z := all_ev (S := S) (blsD_map (fun _ : α => true) xs)
  have e : (xs.map fun _ => true).all id = true := by simp
  rw [e] at z
  exact z
theorem kd_tup {ds : List D} : kd (.d (.tup ds)) = .tup ds ∨ kd (.d (.tup ds)) = .lst ds := .inl rfl
theorem first_web {ws : List Rows} (h : 1 ≤ ws.length) : ∃ w0, w0 ∈ ws ∧ L2.atI (ws.map webD) 0 = some (webD w0) := by
  cases ws with
  | nil => simp at h
  | cons w ws => exact ⟨w, List.mem_cons_self, by rw [show (0 : Int) = ((0 : Nat) : Int) from rfl, at_nat]; rfl⟩
theorem pool_webs_ev (hS : Gd S) {n : Nat} {ws : List Rows} (p : PoolOk n ws) : F_are_pool_webs [.d (.tup (ws.map webD))] S = .ok (.d (.bl true)) S := by
  obtain ⟨w0, m0, e0⟩ := first_web p.lo
  have n0 : (w0.length : Int) = n := by have := (p.web w0 m0).2; omega
  have hl : (ws.map webD).length ≤ 1000 := by have := p.hi; rw [List.length_map]; omega
  have hl' : ws.length ≤ 1000 := by have := p.hi; omega
  have l1 : decide ((1 : Int) ≤ (ws.map webD).length) = true := decide_eq_true (by have := p.lo; rw [List.length_map]; omega)
  have l2 : decide (((ws.map webD).length : Int) ≤ 8) = true := decide_eq_true (by have := p.hi; rw [List.length_map]; omega)
  refine ev_fn (S1 := S) (a := .d (.bl true)) rfl ?_ (ret_d hS)
  refine ev_seq (ev_skip (ev_or_f (ev_not (ev_asB (ev_una (ev_var rfl) isi_tup))) (ev_not (ev_asB (ev_chn ev_k (ev_b1 (ev_var rfl) len_tup) (le_ev l1) ev_k (le_ev l2)))))) ?_
  have c1 := comp_map (S := S) (q := seqI (cVar 0)) (ρ := startE N_are_pool_webs.length [.d (.tup (ws.map webD))]) (vs := [1]) (tg := .one 1) (e := una (isiP tb_Web) (cVar 1)) webD (fun _ => D.bl true) (xs := ws) (ev_seqI (ev_var rfl) kd_tup) hl' (fun x hx => ⟨_, rfl, ev_una (ev_var rfl) isi_webD⟩)
  refine ev_seq (ev_skip (ev_not (ev_asB (ev_b1 c1 all_true)))) ?_
  have c2 := comp_map (S := S) (q := seqI (cVar 0)) (ρ := startE N_are_pool_webs.length [.d (.tup (ws.map webD))]) (vs := [1]) (tg := .one 1) (e := bin (eqP false) (una (proP "Web" 1 F_Web_size []) (cVar 1)) (una (proP "Web" 1 F_Web_size []) (bin ixP (cVar 0) (cK (.int 0))))) webD (fun _ => D.bl true) (xs := ws) (ev_seqI (ev_var rfl) kd_tup) hl' (fun x hx => ⟨_, rfl, by
    have nx : (x.length : Int) = n := by have := (p.web x hx).2; omega
    have z := eq_int (S := S) (i := x.length) (j := w0.length) (neg := false)
    rw [nx, n0, decide_eq_true rfl] at z
    refine ev_bin (ev_pro (ev_var rfl) ins_web rfl (size_ev hS)) (ev_pro (ev_bin (ev_var rfl) ev_k (ix_tup e0)) ins_web rfl (size_ev hS)) ?_
    rw [nx, n0]
    exact z⟩)
  refine ev_seq (ev_skip (ev_not (ev_asB (ev_b1 c2 all_true)))) ?_
  have c3 := comp_map (S := S) (q := seqI (cVar 0)) (ρ := startE N_are_pool_webs.length [.d (.tup (ws.map webD))]) (vs := [1]) (tg := .one 1) (e := una (proP "Web" 1 F_Web_heard []) (cVar 1)) webD encH (xs := ws) (ev_seqI (ev_var rfl) kd_tup) hl' (fun x hx => ⟨_, rfl, ev_pro (ev_var rfl) ins_web rfl (heard_ev hS)⟩)
  refine ev_ret (ev_bin (ev_una c3 (lenSet_ev p.nd p.hi)) (ev_b1 (ev_var rfl) len_tup) ?_)
  have z := eq_int (S := S) (i := ws.length) (j := (ws.map webD).length) (neg := false)
  rw [List.length_map, decide_eq_true rfl] at z
  rw [List.length_map]
  exact z
theorem in_all_ev (hS : Gd S) {n : Nat} {ws : List Rows} (p : PoolOk n ws) (hn : n ≤ 5) : F_houses_in_all [.d (.int n), .d (.tup (ws.map fun w => encR (rootsOf w)))] S = .ok (.d (encR (alwaysOf n ws))) S := by
  have hl' : ws.length ≤ 1000 := by have := p.hi; omega
  have hq : rng1 (cVar 0) (startE N_houses_in_all.length [.d (.int (n : Nat)), .d (.tup (ws.map fun w => encR (rootsOf w)))]) S = .ok ((houses n).map D.int) S := by
    rw [← rngD_houses]
    exact ev_rng (ev_var rfl) (by omega)
  have z := comp_ev (vs := [2]) (tg := .one 2) (t := asB (bcall (allP false) (aCons (lcM false [3] (seqI (cVar 1)) (.one 3) tYesM (bin (inP false) (cVar 2) (cVar 3))) aNil))) (e := cVar 2) D.int (fun x => (ws.map fun w => decide (x ∈ rootsOf w)).all id) D.int hq (by rw [houses_len]; omega)
    (fun x hx => ⟨_, rfl, by
      have c := comp_map (S := S) (ρ := [some (.d (.int (n : Nat))), some (.d (.tup (ws.map fun w => encR (rootsOf w)))), some (.d (.int x)), none]) (q := seqI (cVar 1)) (vs := [3]) (tg := .one 3) (e := bin (inP false) (cVar 2) (cVar 3)) (fun w => encR (rootsOf w)) (fun w => D.bl (decide (x ∈ rootsOf w))) (xs := ws) (ev_seqI (ev_var rfl) kd_tup) hl' (fun w hw => ⟨_, rfl, by
        have y := in_tup (S := S) (neg := false) enc_int (by decide) x (rootsOf w)
        rw [Bool.xor_false] at y
        exact ev_bin (ev_var rfl) (ev_var rfl) y⟩)
      exact ev_asB (ev_b1 c (all_ev (blsD_map _ ws))), fun _ => ev_var rfl⟩)
  exact ev_fn rfl (ev_ret (ev_b1 z tup_fl)) (ret_d hS)
end
end RSL
end

section
set_option maxRecDepth 100000
set_option maxHeartbeats 4000000
/-! What a pool gives. -/
namespace RSL
open PySem PySem.Spec RS
section
variable {S : Store} {n : Nat} {ws : List Rows}
/-- the store with the pool that is made -/
def PIt (S : Store) (fs : List (Str × D)) : Store := S ++ [.ins "Pool" (fs.map fun p => (p.1, A.d p.2))]
theorem pit_at {fs : List (Str × D)} : (PIt S fs)[S.length]? = some (.ins "Pool" (fs.map fun p => (p.1, A.d p.2))) := by simp [PIt]
theorem pit_len {fs : List (Str × D)} : (PIt S fs).length = S.length + 1 := by simp [PIt]
theorem gd_pit {fs : List (Str × D)} (hS : Gd S) : Gd (PIt S fs) := by
  have z := gd_lst (ds := []) hS
  unfold PIt
  unfold Gd storeOk at *
  rw [List.take_length] at *
  rw [List.all_append, Bool.and_eq_true] at *
  exact ⟨by simpa using z.1, by simp [cellOk]⟩
theorem pfld_ev {fs : List (Str × D)} {f : Str} {v : D} {fv : M A} {ρ : RS.Env} (hv : fv ρ (PIt S fs) = .ok (.d v) (PIt S fs)) (h0 : ρ[0]? = some (some (.ref S.length))) (hl : fs.length < 1000) :
    sFldM "Pool" f fv (cVar 0) ρ (PIt S fs) = .ok (.nx ρ) (PIt S (putD f v fs)) := by
  simp only [sFldM, hv, RS.R.bind, cVar, h0, putP, pit_at, List.length_map]
  simp only [hl, and_self, if_true, put_map]
  simp [PIt]
theorem prd_fld {fs : List (Str × D)} {f : Str} {v : D} {ρ : RS.Env} (h0 : ρ[0]? = some (some (.ref S.length))) (hv : (fs.map fun p => (p.1, A.d p.2)).lookup f = some (.d v)) : una (fldP "Pool" f) (cVar 0) ρ (PIt S fs) = .ok (.d v) (PIt S fs) := by
  simp [una, cVar, h0, RS.R.bind, fldP, insOf, pit_at, hv]
def p0 (ds : D) (k : Nat) : RS.Env := [some (.ref k), some (.d ds), none]
theorem pool_init_ev (hS : Gd S) (p : PoolOk n ws) (hn : n ≤ 5) : F_Pool___init__ [.ref S.length, .d (.tup (ws.map webD))] (S ++ [.ins "Pool" []]) = .ok (.d .non) (PIt S (poolFs n ws)) := by
  have s0 : S ++ [.ins "Pool" []] = PIt S [] := rfl
  rw [s0]
  have g0 := fun fs => gd_pit (fs := fs) hS
  obtain ⟨w0, m0, e0⟩ := first_web p.lo
  have n0 : (w0.length : Int) = n := by have := (p.web w0 m0).2; omega
  have hl' : ws.length ≤ 1000 := by have := p.hi; omega
  have f1 : sFldM "Pool" "_webs" (cVar 1) (cVar 0) (p0 (.tup (ws.map webD)) S.length) (PIt S []) = .ok (.nx (p0 (.tup (ws.map webD)) S.length)) (PIt S [("_webs", .tup (ws.map webD))]) := pfld_ev (ev_var rfl) rfl (by decide)
  have f2 : sFldM "Pool" "_size" (una (proP "Web" 1 F_Web_size []) (bin ixP (cVar 1) (cK (.int 0)))) (cVar 0) (p0 (.tup (ws.map webD)) S.length) (PIt S [("_webs", .tup (ws.map webD))]) = .ok (.nx (p0 (.tup (ws.map webD)) S.length)) (PIt S [("_webs", .tup (ws.map webD)), ("_size", .int n)]) := by
    have z := size_ev (h := w0) (g0 [("_webs", .tup (ws.map webD))])
    rw [n0] at z
    exact pfld_ev (ev_pro (ev_bin (ev_var rfl) ev_k (ix_tup e0)) ins_web rfl z) rfl (by simp)
  have c3 := comp_map (S := PIt S [("_webs", .tup (ws.map webD)), ("_size", .int n)]) (ρ := p0 (.tup (ws.map webD)) S.length) (q := seqI (cVar 1)) (vs := [2]) (tg := .one 2) (e := una (proP "Web" 1 F_Web_roots []) (cVar 2)) webD (fun w => encR (rootsOf w)) (xs := ws) (ev_seqI (ev_var rfl) kd_tup) hl' (fun x hx => ⟨_, rfl, ev_pro (ev_var rfl) ins_web rfl (roots_ev (g0 _))⟩)
  have f3 := pfld_ev (f := "_roots") (ev_b1 c3 tup_fl) rfl (by simp)
  have f4 := pfld_ev (S := S) (f := "_always") (ρ := p0 (.tup (ws.map webD)) S.length) (fs := [("_webs", .tup (ws.map webD)), ("_size", .int n), ("_roots", .tup (ws.map fun w => encR (rootsOf w)))])
    (ev_call2 (f1 := una (fldP "Pool" "_size") (cVar 0)) (f2 := una (fldP "Pool" "_roots") (cVar 0)) (prd_fld (f := "_size") (v := .int n) rfl (by rfl)) (prd_fld (f := "_roots") (v := .tup (ws.map fun w => encR (rootsOf w))) rfl (by rfl)) (in_all_ev (g0 _) p hn)) rfl (by simp)
  refine ev_fnN (ρ := p0 (.tup (ws.map webD)) S.length) (S1 := PIt S (poolFs n ws)) rfl ?_ ?_
  · exact ev_seq (ev_skip (ev_not (ev_asB (ev_call1 (ev_var rfl) (pool_webs_ev (g0 []) p))))) (ev_seq f1 (ev_seq f2 (ev_seq f3 f4)))
  · have z := ret_d (keep := false) (x := D.non) (g0 (poolFs n ws))
    rw [pit_len] at z ⊢
    exact z
noncomputable def pos (n : Nat) (ws : List Rows) : List (Str × A) := (poolFs n ws).map fun p => (p.1, A.d p.2)
theorem ins_pool : insOf S "Pool" (.d (poolD n ws)) = some (pos n ws) := by
  show (if ("Pool" : Str) = "Pool" then some (zipA ((poolFs n ws).map Prod.fst) ((poolFs n ws).map Prod.snd)) else none) = _
  rw [if_pos rfl, zipA_map]
  rfl
theorem look_webs : (pos n ws).lookup ("_webs" : Str) = some (.d (.tup (ws.map webD))) := by rfl
theorem look_psize : (pos n ws).lookup ("_size" : Str) = some (.d (.int n)) := by rfl
theorem make_pool (hS : Gd S) (p : PoolOk n ws) (hn : n ≤ 5) {ρ : RS.Env} {fs : M (List A)} {S0 : Store} (e : fs ρ S0 = .ok [.d (.tup (ws.map webD))] S) : makeM false "Pool" 2 F_Pool___init__ [] fs ρ S0 = .ok (.d (poolD n ws)) S := by
  refine ev_make e rfl (pool_init_ev hS p hn) ?_
  have z : storeOk S.length (PIt S (poolFs n ws)) = true := ok_app rfl hS
  unfold retA
  rw [if_pos z]
  have e2 : ¬ S.length < S.length := by omega
  simp only [e2, if_false, pit_at, pureF_map]
  have e3 : (PIt S (poolFs n ws)).take S.length = S := by simp [PIt]
  rw [e3]
  have e4 : ((poolFs n ws).map fun p => (p.1, A.d p.2)).map Prod.fst = (poolFs n ws).map Prod.fst := by simp [Function.comp_def]
  rw [e4]
  rfl
theorem psize_ev (hS : Gd S) : F_Pool_size [.d (poolD n ws)] S = .ok (.d (.int n)) S := ev_fn rfl (ev_ret (ev_fld (ev_var rfl) ins_pool look_psize)) (ret_d hS)
theorem plen_ev (hS : Gd S) : F_Pool___len__ [.d (poolD n ws)] S = .ok (.d (.int ws.length)) S := by
  have l : lenP [.d (.tup (ws.map webD))] S = .ok (.d (.int ws.length)) S := by
    have z := len_tup (S := S) (ds := ws.map webD)
    rwa [List.length_map] at z
  exact ev_fn rfl (ev_ret (ev_b1 (ev_fld (ev_var rfl) ins_pool look_webs) l)) (ret_d hS)
theorem web_at {i : Int} (h0 : 0 ≤ i) (h1 : i < ws.length) : ∃ w, ws[i.toNat]? = some w ∧ w ∈ ws ∧ L2.atI (ws.map webD) i = some (webD w) := by
  have hn : i.toNat < ws.length := by omega
  refine ⟨ws[i.toNat], List.getElem?_eq_getElem hn, List.getElem_mem hn, ?_⟩
  have e := at_nat (ws.map webD) i.toNat
  have e2 : ((i.toNat : Nat) : Int) = i := by omega
  rw [e2] at e
  rw [e, List.getElem?_map, List.getElem?_eq_getElem hn]
  rfl
theorem pget_ev (hS : Gd S) (p : PoolOk n ws) {i : Int} {w : Rows} (h0 : 0 ≤ i) (hw : ws[i.toNat]? = some w) : F_Pool___getitem__ [.d (poolD n ws), .d (.int i)] S = .ok (.d (webD w)) S := by
  have hn : i.toNat < ws.length := (List.getElem?_eq_some_iff.mp hw).1
  obtain ⟨w', a1, _, a3⟩ := web_at (ws := ws) h0 (by omega)
  rw [hw] at a1
  cases a1
  have l : lenP [.d (.tup (ws.map webD))] S = .ok (.d (.int ws.length)) S := by
    have z := len_tup (S := S) (ds := ws.map webD)
    rwa [List.length_map] at z
  exact ev_fn rfl (ev_seq (ev_exp (ev_call2 (ev_var rfl) (ev_b1 (ev_fld (ev_var rfl) ins_pool look_webs) l) (check_index_ev hS h0 (by omega) (by have := p.hi; omega)))) (ev_ret (ev_bin (ev_fld (ev_var rfl) ins_pool look_webs) (ev_var rfl) (ix_tup a3)))) (ret_d hS)
theorem ix_pool (hS : Gd S) (p : PoolOk n ws) {i : Int} {w : Rows} (h0 : 0 ≤ i) (hw : ws[i.toNat]? = some w) : ixOwP "Pool" F_Pool___getitem__ (.d (poolD n ws)) (.d (.int i)) S = .ok (.d (webD w)) S := by
  simp only [ixOwP, ins_pool, pget_ev hS p h0 hw]
theorem len_pool (hS : Gd S) (p : PoolOk n ws) : lenOwP "Pool" F_Pool___len__ [.d (poolD n ws)] S = .ok (.d (.int ws.length)) S := by
  have h : (0 : Int) ≤ (ws.length : Int) ∧ (ws.length : Int) < 2 ^ 63 := by have := p.hi; omega
  simp only [lenOwP, ins_pool, plen_ev hS]
  rw [if_pos h]
end
end RSL
end

section
set_option maxRecDepth 100000
set_option maxHeartbeats 4000000
/-! What the law draws. -/
namespace RSL
open PySem PySem.Spec RS
section
variable {S T P : Store} {a b c N : Int}
/-- the store with the cask in front -/
def C3 (P : Store) (a b c : Int) (T : Store) : Store := P ++ (Cell.lst [.int a, .int b, .int c] :: T)
def LT (T : Store) : Prop := ∀ o ∈ T, ∃ ds, o = Cell.lst ds
theorem LT.c3 (h : LT T) (k : LT P) : Gd (C3 P a b c T) := lists_gd fun o ho => by
  rcases List.mem_append.mp ho with ho | ho
  · exact k o ho
  rcases List.mem_cons.mp ho with rfl | ho
  · exact ⟨_, rfl⟩
  · exact h o ho
theorem c3_at : (C3 P a b c T)[P.length]? = some (.lst [.int a, .int b, .int c]) := by simp [C3]
theorem c3_len : (C3 P a b c T).length = P.length + T.length + 1 := by simp [C3]; omega
theorem c3_app {U : Store} : C3 P a b c (T ++ U) = C3 P a b c T ++ U := by simp [C3]
theorem ret_c3 {keep : Bool} {x : D} {a' b' c' : Int} (h : LT T) (k : LT P) : retA keep (C3 P a b c T).length (.d x) (C3 P a' b' c' T) = .ok (.d x) (C3 P a' b' c' T) := by
  rw [c3_len, ← c3_len (a := a') (b := b') (c := c')]
  exact ret_d (h.c3 k)
theorem LT.app {U : Store} (h : LT T) (k : LT U) : LT (T ++ U) := fun o ho => (List.mem_append.mp ho).elim (h o) (k o)
theorem LT.one {ds : List D} : LT [.lst ds] := fun o ho => ⟨ds, List.mem_singleton.mp ho⟩
theorem LT.two {ds es : List D} : LT [.lst ds, .lst es] := LT.app (T := [.lst ds]) (U := [.lst es]) .one .one
structure Cok (N a b c : Int) : Prop where
  b0 : 0 ≤ b
  b1 : b < 2 ^ 61
  c0 : 0 ≤ c
  c1 : c ≤ N
theorem Cok.mono {M : Int} (h : Cok N a b c) (l : N ≤ M) : Cok M a b c := ⟨h.b0, h.b1, h.c0, Int.le_trans h.c1 l⟩
theorem log_lt {i : Int} (h : -(2 ^ 80) < i ∧ i < 2 ^ 80) : i.natAbs.log2 < 100 := by
  by_cases e : i.natAbs = 0
  · rw [e]; decide
  · rw [Nat.log2_lt e]
    have : i.natAbs < 2 ^ 80 := by omega
    exact Nat.lt_trans this (by decide)
theorem mul_ev {i j : Int} (h : -(2 ^ 80) < i ∧ i < 2 ^ 80) (k : -(2 ^ 80) < j ∧ j < 2 ^ 80) : mulP (.d (.int i)) (.d (.int j)) S = .ok (.d (.int (i * j))) S := by
  have a := log_lt h
  have b := log_lt k
  have e : i.natAbs.log2 + j.natAbs.log2 < 1000000 := by omega
  simp [mulP, int2, e]
theorem add_ev {i j : Int} : addP (.d (.int i)) (.d (.int j)) S = .ok (.d (.int (i + j))) S := rfl
theorem sub_ev {i j : Int} : subP (.d (.int i)) (.d (.int j)) S = .ok (.d (.int (i - j))) S := rfl
theorem mod_ev {i j : Int} (h : 0 < j) : modP (.d (.int i)) (.d (.int j)) S = .ok (.d (.int (i % j))) S := by simp [modP, int2, h]
theorem fdiv_ev {i j : Int} (h : 0 < j ∧ j < 2 ^ 80) : fdivP (.d (.int i)) (.d (.int j)) S = .ok (.d (.int (i / j))) S := by
  have a := log_lt (i := j) ⟨by omega, h.2⟩
  have e : j.natAbs.log2 < 9000 := by omega
  simp [fdivP, int2, h.1, e]
theorem int_ev {i : Int} : intP [.d (.int i)] S = .ok (.d (.int i)) S := rfl
theorem ixR {j : Nat} {ds : List D} {k : Int} {d : D} (h : S[j]? = some (.lst ds)) (e : L2.atI ds k = some d) : ixP (.ref j) (.d (.int k)) S = .ok (.d d) S := by
  simp [ixP, seqOf, tupOf, lstOf, h, e]
theorem ix0 : ixP (.ref P.length) (.d (.int 0)) (C3 P a b c T) = .ok (.d (.int a)) (C3 P a b c T) := ixR c3_at rfl
theorem ix1 : ixP (.ref P.length) (.d (.int 1)) (C3 P a b c T) = .ok (.d (.int b)) (C3 P a b c T) := ixR c3_at rfl
theorem ix2 : ixP (.ref P.length) (.d (.int 2)) (C3 P a b c T) = .ok (.d (.int c)) (C3 P a b c T) := ixR c3_at rfl
theorem setR {j i : Nat} {ds : List D} {k : Int} {v : D} {ρ : RS.Env} (h0 : ρ[0]? = some (some (.ref j))) (h : S[j]? = some (.lst ds)) (e : L2.ixN ds.length k = some i) : gIx (cVar 0) (cK (.int k)) (.d v) ρ S = .ok ρ (S.set j (.lst (ds.set i v))) := by
  simp [gIx, ev_var h0, ev_k, RS.R.bind, ixSt, h, e]
theorem set0 {x : Int} {ρ : RS.Env} (h0 : ρ[0]? = some (some (.ref P.length))) : gIx (cVar 0) (cK (.int 0)) (.d (.int x)) ρ (C3 P a b c T) = .ok ρ (C3 P x b c T) := by
  rw [setR h0 c3_at (i := 0) rfl]
  simp [C3]
theorem set2 {x : Int} {ρ : RS.Env} (h0 : ρ[0]? = some (some (.ref P.length))) : gIx (cVar 0) (cK (.int 2)) (.d (.int x)) ρ (C3 P a b c T) = .ok ρ (C3 P a b x T) := by
  rw [setR h0 c3_at (i := 2) rfl]
  simp [C3]
theorem gt_ev {i j : Int} {t : Bool} (h : decide (j < i) = t) : ordP gtB (.d (.int i)) (.d (.int j)) S = .ok (.d (.bl t)) S := by subst h; rfl
theorem lt_ev {i j : Int} {t : Bool} (h : decide (i < j) = t) : ordP ltB (.d (.int i)) (.d (.int j)) S = .ok (.d (.bl t)) S := by subst h; rfl
/-- one of some numbers -/
theorem at_lt {α : Type} (xs : List α) {k : Int} (h0 : 0 ≤ k) (h1 : k < xs.length) : ∃ x, L2.atI xs k = some x ∧ x ∈ xs := by
  have e : L2.atI xs ((k.toNat : Nat) : Int) = xs[k.toNat]? := at_nat xs k.toNat
  have e2 : ((k.toNat : Nat) : Int) = k := by omega
  rw [e2] at e
  have hk : k.toNat < xs.length := by omega
  exact ⟨xs[k.toNat], by rw [e, List.getElem?_eq_getElem hk], List.getElem_mem hk⟩
theorem ix_fl {ds : List D} {k : Int} {d : D} (h : L2.atI ds k = some d) : ixP (.d (.fl ds)) (.d (.int k)) S = .ok (.d d) S := by
  simp [ixP, seqOf, tupOf, lstOf, h]
theorem len_fl {ds : List D} : lenP [.d (.fl ds)] S = .ok (.d (.int ds.length)) S := by simp [lenP, seqOf, tupOf, lstOf]
end
end RSL
end

section
set_option maxRecDepth 100000
set_option maxHeartbeats 1000000
/-! What laws that draw from a purse in front of the store have in common. -/
namespace RSL
open PySem PySem.Spec RS
section
variable {S T P U : Store} {a b c N x y : Int} {Q : A → Store → Prop}
theorem wp_i0 (k : Q (.d (.int a)) (C3 P a b c T)) : WP (ixP (.ref P.length) (.d (.int 0)) (C3 P a b c T)) Q := wp_of ix0 k
theorem wp_i1 (k : Q (.d (.int b)) (C3 P a b c T)) : WP (ixP (.ref P.length) (.d (.int 1)) (C3 P a b c T)) Q := wp_of ix1 k
theorem wp_i2 (k : Q (.d (.int c)) (C3 P a b c T)) : WP (ixP (.ref P.length) (.d (.int 2)) (C3 P a b c T)) Q := wp_of ix2 k
theorem wp_s0 {ρ : RS.Env} {Qe : RS.Env → Store → Prop} (h0 : ρ[0]? = some (some (.ref P.length))) (k : Qe ρ (C3 P x b c T)) : WP (gIx (cVar 0) (cK (.int 0)) (.d (.int x)) ρ (C3 P a b c T)) Qe := wp_of (set0 h0) k
theorem wp_s2 {ρ : RS.Env} {Qe : RS.Env → Store → Prop} (h0 : ρ[0]? = some (some (.ref P.length))) (k : Qe ρ (C3 P a b x T)) : WP (gIx (cVar 0) (cK (.int 2)) (.d (.int x)) ρ (C3 P a b c T)) Qe := wp_of (set2 h0) k
theorem log_any {i : Int} {k : Nat} (h : i.natAbs < 2 ^ k) (hk : 1 ≤ k) : i.natAbs.log2 < k := by
  by_cases e : i.natAbs = 0
  · rw [e]
    have : Nat.log2 0 = 0 := by decide
    omega
  · exact (Nat.log2_lt e).mpr h
theorem wp_mulS (h1 : -(2 ^ 80) < x ∧ x < 2 ^ 80) (h2 : -(2 ^ 80) < y ∧ y < 2 ^ 80) (k : Q (.d (.int (x * y))) S) : WP (mulP (.d (.int x)) (.d (.int y)) S) Q :=
  wp_mul (by have := log_lt h1; have := log_lt h2; omega) k
theorem wp_fdivS (h1 : 0 < y) (h2 : y < 2 ^ 80) (k : Q (.d (.int (x / y))) S) : WP (fdivP (.d (.int x)) (.d (.int y)) S) Q :=
  wp_fdiv h1 (by have := log_lt (i := y) ⟨by omega, h2⟩; omega) k
/-- the purse: numbers that are not too great; so many were drawn -/
structure Pok (N b c : Int) : Prop where
  b0 : b.natAbs.log2 < 5000
  c0 : 0 ≤ c
  c1 : c ≤ N
theorem Pok.mono {M : Int} (h : Pok N b c) (l : N ≤ M) : Pok M b c := ⟨h.b0, h.c0, Int.le_trans h.c1 l⟩
theorem wp_retC {keep : Bool} {x : D} {a' b' c' : Int} (hP : LT P) (hT : LT T) (k : Q (.d x) (C3 P a' b' c' T)) : WP (retA keep (C3 P a b c T).length (.d x) (C3 P a' b' c' T)) Q := wp_of (ret_c3 hT hP) k
/-- own cells go -/
theorem wp_retCU {keep : Bool} {x : D} {a' b' c' : Int} (hP : LT P) (hT : LT T) (k : Q (.d x) (C3 P a' b' c' T)) : WP (retA keep (C3 P a b c T).length (.d x) (C3 P a' b' c' (T ++ U))) Q := by
  refine wp_of (S1 := C3 P a' b' c' T) ?_ k
  rw [c3_app]
  exact ret_app (by rw [c3_len, c3_len]) (LT.c3 hT hP)
theorem c3_at1 {o : Cell} : (C3 P a b c (T ++ o :: U))[P.length + T.length + 1]? = some o := by
  have e : C3 P a b c (T ++ o :: U) = C3 P a b c T ++ o :: U := c3_app
  rw [e, List.getElem?_append_right (by rw [c3_len]; omega), c3_len]
  simp
theorem c3_at2 {o o2 : Cell} : (C3 P a b c (T ++ o :: o2 :: U))[P.length + T.length + 2]? = some o2 := by
  have e : C3 P a b c (T ++ o :: o2 :: U) = C3 P a b c T ++ o :: o2 :: U := c3_app
  rw [e, List.getElem?_append_right (by rw [c3_len]; omega), c3_len]
  have : P.length + T.length + 2 - (P.length + T.length + 1) = 1 := by omega
  rw [this]
  rfl
theorem c3_set1 {o o' : Cell} : (C3 P a b c (T ++ o :: U)).set (P.length + T.length + 1) o' = C3 P a b c (T ++ o' :: U) := by
  have e : ∀ o, C3 P a b c (T ++ o :: U) = C3 P a b c T ++ o :: U := fun o => c3_app
  rw [e, e, List.set_append, if_neg (by rw [c3_len]; omega), c3_len]
  simp
theorem c3_set2 {o o2 o' : Cell} : (C3 P a b c (T ++ o :: o2 :: U)).set (P.length + T.length + 2) o' = C3 P a b c (T ++ o :: o' :: U) := by
  have e : ∀ o2, C3 P a b c (T ++ o :: o2 :: U) = C3 P a b c T ++ o :: o2 :: U := fun o => c3_app
  rw [e, e, List.set_append, if_neg (by rw [c3_len]; omega), c3_len]
  have : P.length + T.length + 2 - (P.length + T.length + 1) = 1 := by omega
  rw [this]
  rfl
/-- an own cell -/
theorem wp_celC {ρ : RS.Env} (k : Q (.ref (P.length + T.length + 1)) (C3 P a b c (T ++ [.lst []]))) : WP (celM aNil ρ (C3 P a b c T)) Q := by
  refine wp_of (S1 := C3 P a b c (T ++ [.lst []])) ?_ k
  rw [c3_app, ev_celM (ds := []) ev_nil rfl (by simp), c3_len]
theorem wp_celC2 {o : Cell} {ρ : RS.Env} (k : Q (.ref (P.length + T.length + 2)) (C3 P a b c (T ++ [o, .lst []]))) : WP (celM aNil ρ (C3 P a b c (T ++ [o]))) Q := by
  refine wp_celC ?_
  rw [List.length_append, List.append_assoc]
  exact k
theorem wp_listCC {ds : List D} (k : Q (.ref (P.length + T.length + 1)) (C3 P a b c (T ++ [.lst ds]))) : WP (listC [.d (.fl ds)] (C3 P a b c T)) Q := by
  refine wp_of (S1 := C3 P a b c (T ++ [.lst ds])) ?_ k
  rw [c3_app, ← c3_len (a := a) (b := b) (c := c)]
  rfl
theorem wp_retCl {ds : List D} {a' b' c' : Int} (hP : LT P) (hT : LT T) (k : Q (.d (.fl ds)) (C3 P a' b' c' T)) : WP (retA false (C3 P a b c T).length (.ref (P.length + T.length + 1)) (C3 P a' b' c' (T ++ .lst ds :: U))) Q := by
  refine wp_of (S1 := C3 P a' b' c' T) ?_ k
  rw [c3_app]
  exact ret_ref (by rw [c3_len, c3_len]) (LT.c3 hT hP) (by rw [← c3_app]; exact c3_at1) (by rw [c3_len]; omega)
theorem wp_retCl2 {o : Cell} {ds : List D} {a' b' c' : Int} (hP : LT P) (hT : LT T) (k : Q (.d (.fl ds)) (C3 P a' b' c' T)) : WP (retA false (C3 P a b c T).length (.ref (P.length + T.length + 2)) (C3 P a' b' c' (T ++ o :: .lst ds :: U))) Q := by
  refine wp_of (S1 := C3 P a' b' c' T) ?_ k
  rw [c3_app]
  exact ret_ref (by rw [c3_len, c3_len]) (LT.c3 hT hP) (by rw [← c3_app]; exact c3_at2) (by rw [c3_len]; omega)
theorem wp_app1 {ds : List D} {d : D} (l : ds.length < 1000) (k : Q (.d .non) (C3 P a b c (T ++ .lst (ds ++ [d]) :: U))) : WP (appP (.ref (P.length + T.length + 1)) [.d d] (C3 P a b c (T ++ .lst ds :: U))) Q :=
  wp_app c3_at1 l (by rw [c3_set1]; exact k)
theorem wp_app2 {o : Cell} {ds : List D} {d : D} (l : ds.length < 1000) (k : Q (.d .non) (C3 P a b c (T ++ o :: .lst (ds ++ [d]) :: U))) : WP (appP (.ref (P.length + T.length + 2)) [.d d] (C3 P a b c (T ++ o :: .lst ds :: U))) Q :=
  wp_app c3_at2 l (by rw [c3_set2]; exact k)
theorem LT.lst {ds : List D} (h : LT T) : LT (T ++ [.lst ds]) := LT.app h LT.one
theorem LT.lst2 {ds es : List D} (h : LT T) : LT (T ++ [.lst ds, .lst es]) := LT.app h LT.two
theorem houses_ints {n : Nat} : (houses n).map D.int = rngD 0 n := by rw [← rngD_houses]
/-- .. range(n) -/
theorem rngH {Ql : List D → Store → Prop} {m : Nat} {x : Int} (e : x = (m : Nat)) (l : m ≤ 1000) (k : Ql ((houses m).map D.int) S) : RngQ Ql (.d (.int x)) S := rngQ e l (by rw [← houses_ints]; exact k)
/-- a comprehension that draws: K for each item -/
theorem lc_drawP {α : Type} {tg : Tg} {t : M Bool} {e : M A} {ρ : RS.Env} (K B : Int) (hK : 0 ≤ K) (g : α → D) (Ok : α → D → Prop) : ∀ {xs : List α} {acc : List D} {a b c N : Int}, Pok N b c → N + K * xs.length ≤ B →
    (∀ x ∈ xs, ∀ a b c N, Pok N b c → N + K ≤ B → ∃ ρ1, tg.put (g x) ρ = some ρ1 ∧ WP (t ρ1 (C3 P a b c T)) fun tt S1 => IfQ tt (WP (e ρ1 S1) fun v S2 => ∃ d a' b' c', v = .d d ∧ S2 = C3 P a' b' c' T ∧ Pok (N + K) b' c' ∧ Ok x d) (∃ a' b' c', S1 = C3 P a' b' c' T ∧ Pok (N + K) b' c')) →
    ∃ ps : List (α × D), ∃ a' b' c', lcL tg t e (xs.map g) ρ (C3 P a b c T) acc = .ok (acc ++ ps.map Prod.snd) (C3 P a' b' c' T) ∧ Pok (N + K * xs.length) b' c' ∧ (ps.map Prod.fst).Sublist xs ∧ (∀ p ∈ ps, Ok p.1 p.2) ∧ ((∀ ρ S, t ρ S = .ok true S) → ps.map Prod.fst = xs)
  | [], acc, a, b, c, N, hc, hN, _ => ⟨[], a, b, c, by simp [lcL], by simpa using hc, List.Sublist.refl _, (fun _ z => nomatch z), (fun _ => rfl)⟩
  | x :: xs, acc, a, b, c, N, hc, hN, h => by
    have ek : K * ((x :: xs).length : Int) = K * (xs.length : Int) + K := by
      rw [List.length_cons, Int.natCast_add, Int.mul_add]
      simp
    have nn : 0 ≤ K * (xs.length : Int) := Int.mul_nonneg hK (by omega)
    rw [ek] at hN ⊢
    have en : N + K + K * (xs.length : Int) = N + (K * (xs.length : Int) + K) := by omega
    obtain ⟨ρ1, e1, tt, S1, k1, k2, k3⟩ := h x List.mem_cons_self a b c N hc (by omega)
    cases tt with
    | false =>
      obtain ⟨a', b', c', rfl, o⟩ := k3 rfl
      obtain ⟨ps, a2, b2, c2, r1, r2, r3, r4, r5⟩ := lc_drawP K B hK g Ok (xs := xs) (acc := acc) (a := a') o (by omega) fun y hy => h y (List.mem_cons_of_mem _ hy)
      refine ⟨ps, a2, b2, c2, by simp only [List.map_cons, lcL, e1, k1, nextX]; simpa using r1, by rwa [en] at r2, r3.cons _, r4, fun z => ?_⟩
      have z2 := z ρ1 (C3 P a b c T)
      rw [k1] at z2
      cases z2
    | true =>
      obtain ⟨v, S2, k4, d, a', b', c', rfl, rfl, o, k5⟩ := k2 rfl
      obtain ⟨ps, a2, b2, c2, r1, r2, r3, r4, r5⟩ := lc_drawP K B hK g Ok (xs := xs) (acc := acc ++ [d]) (a := a') o (by omega) fun y hy => h y (List.mem_cons_of_mem _ hy)
      refine ⟨(x, d) :: ps, a2, b2, c2, by simp only [List.map_cons, lcL, e1, k1, k4, nextX, if_true]; simpa using r1, by rwa [en] at r2, r3.cons₂ _, fun p hp => ?_, fun z => by rw [List.map_cons, r5 z]⟩
      rcases List.mem_cons.mp hp with rfl | hp
      · exact k5
      · exact r4 p hp
theorem wp_draw {α : Type} {tg : Tg} {t : M Bool} {e : M A} {vs : List Nat} {q : MI} {ρ : RS.Env} (xs : List α) (g : α → D) (Ok : α → D → Prop) (K B : Int) (hK : 0 ≤ K) (hc : Pok N b c) (hB : N + K * xs.length ≤ B) (hl : xs.length ≤ 1000) {a0 b0 c0 : Int}
    (hq : q ρ (C3 P a0 b0 c0 T) = .ok (xs.map g) (C3 P a b c T))
    (hh : ∀ x ∈ xs, ∀ a b c N, Pok N b c → N + K ≤ B → ∃ ρ1, tg.put (g x) (wipeE ρ vs) = some ρ1 ∧ WP (t ρ1 (C3 P a b c T)) fun tt S1 => IfQ tt (WP (e ρ1 S1) fun v S2 => ∃ d a' b' c', v = .d d ∧ S2 = C3 P a' b' c' T ∧ Pok (N + K) b' c' ∧ Ok x d) (∃ a' b' c', S1 = C3 P a' b' c' T ∧ Pok (N + K) b' c'))
    (k : ∀ (ps : List (α × D)) (a' b' c' : Int), Pok (N + K * xs.length) b' c' → (ps.map Prod.fst).Sublist xs → (∀ p ∈ ps, Ok p.1 p.2) → ((∀ ρ S, t ρ S = .ok true S) → ps.map Prod.fst = xs) → Q (.d (.fl (ps.map Prod.snd))) (C3 P a' b' c' T)) :
    WP (lcM false vs q tg t e ρ (C3 P a0 b0 c0 T)) Q := by
  obtain ⟨ps, a', b', c', r1, r2, r3, r4, r5⟩ := lc_drawP (P := P) (T := T) (tg := tg) (t := t) (e := e) (ρ := wipeE ρ vs) K B hK g Ok (acc := []) (a := a) hc hB hh
  exact wp_of (lcM_ev hq (by rw [List.length_map]; exact sz hl) r1) (k ps a' b' c' r2 r3 r4 r5)
/-! ### rows of webs -/
structure RowK (n : Nat) (x : Int) (r : List Int) : Prop where
  rg : ∀ j ∈ r, 0 ≤ j ∧ j < (n : Nat)
  pw : r.Pairwise (· < ·)
  no : x ∉ r
  ln : r.length ≤ 5
theorem web_rows {n : Nat} (h1 : 1 ≤ n) (h2 : n ≤ 5) {rs : List (Int × List Int)} (e : rs.map Prod.fst = houses n) (hr : ∀ p ∈ rs, RowK n p.1 p.2) : WebOk (rs.map Prod.snd) ∧ (rs.map Prod.snd).length = n := by
  have l : (rs.map Prod.snd).length = n := by
    have := congrArg List.length e
    rw [List.length_map, houses_len] at this
    rw [List.length_map, this]
  refine ⟨⟨by omega, by omega, fun p hp => ?_⟩, l⟩
  obtain ⟨r, i⟩ := p
  have ei : (rs.map Prod.snd)[i]? = some r := by simpa [List.mem_zipIdx_iff_getElem?] using hp
  rw [List.getElem?_map] at ei
  obtain ⟨q, hq, rfl⟩ := Option.map_eq_some_iff.mp ei
  have hi : i < n := by
    have := (List.getElem?_eq_some_iff.mp hq).1
    rw [List.length_map] at l
    omega
  have e1 : (rs.map Prod.fst)[i]? = some q.1 := by rw [List.getElem?_map, hq]; rfl
  rw [e, houses_get hi] at e1
  have e2 : (i : Int) = q.1 := Option.some.inj e1
  have k := hr q (List.mem_of_getElem? hq)
  exact ⟨fun j hj => by rw [l]; exact k.rg j hj, asc_of_pw k.pw, by rw [e2]; exact k.no, k.ln⟩
theorem row_one {n : Nat} {x y : Int} (h : 0 ≤ y ∧ y < (n : Nat)) (ne : x ≠ y) : RowK n x [y] := ⟨fun j hj => by rw [List.mem_singleton.mp hj]; exact h, List.pairwise_singleton _ _, fun z => ne (List.mem_singleton.mp z), by simp⟩
theorem row_none {n : Nat} {x : Int} : RowK n x [] := ⟨(fun _ z => nomatch z), List.Pairwise.nil, (fun z => nomatch z), by simp⟩
theorem row_sub {n : Nat} {x : Int} {r : List Int} (hn : n ≤ 5) (s : r.Sublist (houses n)) (no : x ∉ r) : RowK n x r :=
  ⟨fun j hj => mem_houses.mp (s.subset hj), (houses_lt n).sublist s, no, by have := s.length_le; rw [houses_len] at this; omega⟩
theorem eqL {r q : List Int} {neg : Bool} : eqP neg (.d (.fl (r.map D.int))) (.d (.fl (q.map D.int))) S = .ok (.d (.bl (decide (r = q) ^^ neg))) S := eq_enc (enc_fl enc_int) (by decide) r q
theorem wp_eqL {r q : List Int} {neg : Bool} (k : Q (.d (.bl (decide (r = q) ^^ neg))) S) : WP (eqP neg (.d (.fl (r.map D.int))) (.d (.fl (q.map D.int))) S) Q := wp_of eqL k
theorem wp_eqN {r : List Int} {neg : Bool} (k : Q (.d (.bl (decide (r = []) ^^ neg))) S) : WP (eqP neg (.d (.fl (r.map D.int))) (.d (.fl [])) S) Q := wp_of (eqL (q := [])) k
theorem wp_eqR {r q : List Int} {neg : Bool} (k : Q (.d (.bl (decide (r = q) ^^ neg))) S) : WP (eqP neg (.d (encR r)) (.d (encR q)) S) Q := wp_of (eq_enc encR_enc (by decide) r q) k
theorem wp_inR {r : List Int} {neg : Bool} (k : Q (.d (.bl (decide (x ∈ r) ^^ neg))) S) : WP (inP neg (.d (.int x)) (.d (encR r)) S) Q := wp_inT enc_int (by decide) x r k
theorem wp_inI {r : List Int} {neg : Bool} (k : Q (.d (.bl (decide (x ∈ r) ^^ neg))) S) : WP (inP neg (.d (.int x)) (.d (.fl (r.map D.int))) S) Q := wp_inF enc_int (by decide) x r k
/-- what a house hears, of a plain web -/
theorem wp_ixH {h : List (List Int)} (hx : 0 ≤ x ∧ x < h.length) (k : Q (.d (encR (h[x.toNat]?.getD []))) S) : WP (ixP (.d (encH h)) (.d (.int x)) S) Q := wp_of (ix_H hx) k
theorem wp_lenH {h : List (List Int)} (k : Q (.d (.int h.length)) S) : WP (lenP [.d (encH h)] S) Q := wp_of len_H k
theorem wp_lenI {r : List Int} (k : Q (.d (.int r.length)) S) : WP (lenP [.d (.fl (r.map D.int))] S) Q := wp_lenF (by rw [List.length_map]; exact k)
theorem wp_lenRr {r : List Int} (k : Q (.d (.int r.length)) S) : WP (lenP [.d (encR r)] S) Q := wp_of len_R k
theorem wp_lenWs {ws : List (List (List Int))} (k : Q (.d (.int ws.length)) S) : WP (lenP [.d (.fl (ws.map encH))] S) Q := wp_lenF (by rw [List.length_map]; exact k)
end
end RSL
end

section
set_option maxRecDepth 100000
set_option maxHeartbeats 1000000
/-! What the laws with casks draw: scoops, one of, few of a list, webs, pools. -/
namespace RSL
open PySem PySem.Spec RS
local macro_rules | `(tactic| trivial) => `(tactic| (repeat (first | ((with_reducible apply ws_seq); try dsimp only [List.set]) | ((with_reducible apply wp_var); exact rfl) | with_reducible apply wp_bin | with_reducible apply wp_k | with_reducible apply wp_cons | with_reducible apply wp_nil | with_reducible apply wp_bcall | with_reducible apply wp_call | ((with_reducible apply callQ); exact rfl) | with_reducible apply ws_set | with_reducible apply ws_ret | with_reducible apply ws_exp | with_reducible apply ws_if | with_reducible apply ws_nil | with_reducible apply wp_asB | with_reducible apply isB | with_reducible apply ifq_t | with_reducible apply ifq_f | with_reducible apply ifq_not | with_reducible apply ifq_x0 | with_reducible apply ifq_x1 | (with_reducible refine ifq_dt (by with_reducible assumption) ?_) | (with_reducible refine ifq_df (by with_reducible assumption) ?_) | ((with_reducible apply ifq_dt); exact rfl) | with_reducible apply wp_and | with_reducible apply wp_or | with_reducible apply wp_not | with_reducible apply wp_notV | with_reducible apply wp_andV | with_reducible apply wp_orV | with_reducible apply wp_ifV | with_reducible apply ws_par | with_reducible apply parQ | with_reducible apply ws_par3 | with_reducible apply par3Q | with_reducible apply wp_tupM | ((with_reducible apply tupQ); exact rfl; first | decide | (focus (simp; done)) | omega) | with_reducible apply wp_flM | with_reducible apply wp_pro | with_reducible apply wp_fld | with_reducible apply wp_una | with_reducible apply wp_make | with_reducible apply wp_meth | (with_reducible refine wp_ixWs (by with_reducible assumption) ?_) | (with_reducible refine webQ (by with_reducible assumption) (by with_reducible assumption) ?_) | (with_reducible refine wp_of (check_pool_ev (by with_reducible assumption)) ?_) | (with_reducible refine wp_lenP (by with_reducible assumption) (by with_reducible assumption) ?_) | (with_reducible refine wp_ixP (by with_reducible assumption) (by with_reducible assumption) (by with_reducible assumption) ?_) | with_reducible apply wp_mth | with_reducible apply wp_seqI | with_reducible apply wp_enumI | with_reducible apply wp_rng | with_reducible apply wp_zipI | with_reducible apply seqQt | with_reducible apply seqQf | with_reducible apply seqQl | with_reducible apply seqQr | with_reducible apply seqQh | with_reducible apply wp_star | with_reducible apply wp_tru | with_reducible apply wp_i0 | with_reducible apply wp_i1 | with_reducible apply wp_i2 | with_reducible apply wp_lenH | with_reducible apply wp_lenRr | with_reducible apply wp_lenI | with_reducible apply wp_lenWs | (with_reducible refine wp_ixH (by first | with_reducible assumption | omega) ?_) | with_reducible apply wp_eqR | with_reducible apply wp_eqL | with_reducible apply wp_eqN | with_reducible apply wp_inR | with_reducible apply wp_inI | with_reducible apply wp_add | with_reducible apply wp_sub | with_reducible apply wp_neg | with_reducible apply wp_int | with_reducible apply wp_intb | with_reducible apply wp_abs | with_reducible apply wp_two | with_reducible apply wp_lt | with_reducible apply wp_le | with_reducible apply wp_gt | with_reducible apply wp_ge | with_reducible apply wp_eqI | with_reducible apply wp_eqB | with_reducible apply wp_isN | with_reducible apply wp_chn | with_reducible apply wp_gset | with_reducible apply wp_gt2 | with_reducible apply wp_gt3 | with_reducible apply wp_gl2 | with_reducible apply ws_asg | (with_reducible refine wp_mod (by omega) ?_) | (with_reducible refine wp_fdivS (by omega) (by omega) ?_) | (with_reducible refine wp_mulS (by omega) (by omega) ?_) | ((with_reducible apply wp_s0); exact rfl) | ((with_reducible apply wp_s2); exact rfl) | (with_reducible refine wp_pow (by decide +kernel) ?_) | with_reducible apply wp_celC2 | with_reducible apply wp_celC | with_reducible apply wp_celM | ((with_reducible apply celQ); exact rfl; first | decide | (focus (simp; done)) | omega) | with_reducible apply wp_listCC | with_reducible apply wp_tupT | with_reducible apply wp_tupF | with_reducible apply wp_lenT | with_reducible apply wp_lenF | with_reducible apply wp_lenR )))
section
variable {S T P U : Store} {a b c N n : Int} {Q : A → Store → Prop}
theorem scoop_w (hP : LT P) (hT : LT T) (hc : Pok N b c) (hN : N ≤ 10 ^ 9) (hn : 1 ≤ n ∧ n ≤ 1000) (k : ∀ a' b' c' x, Pok (N + 1) b' c' → 0 ≤ x → x < n → Q (.d (.int x)) (C3 P a' b' c' T)) :
    WP (F__law_scoop [.ref P.length, .d (.int n)] (C3 P a b c T)) Q := by
  have c0 := hc.c0
  have c1 := hc.c1
  apply w__law_scoop
  unfold b__law_scoop
  trivial
  apply ifq_d
  · intro h
    trivial
    refine wp_retC hP hT ?_
    exact k _ _ _ _ (hc.mono (by omega)) (Int.emod_nonneg _ (by omega)) (Int.emod_lt_of_pos _ (by omega))
  · intro h
    trivial
    generalize hx : (b + 15487469 * (c + 1)) % 2147483587 = one
    have x0 : 0 ≤ one ∧ one < 2147483587 := by rw [← hx]; exact ⟨Int.emod_nonneg _ (by omega), Int.emod_lt_of_pos _ (by omega)⟩
    trivial
    generalize hy : (one * one + b / 1000033 + 8209 * (c + 1)) % 1000000033 = tw
    have y0 : 0 ≤ tw ∧ tw < 1000000033 := by rw [← hy]; exact ⟨Int.emod_nonneg _ (by omega), Int.emod_lt_of_pos _ (by omega)⟩
    trivial
    refine wp_retC hP hT ?_
    exact k _ _ _ _ ⟨hc.b0, by omega, by omega⟩ (Int.emod_nonneg _ (by omega)) (Int.emod_lt_of_pos _ (by omega))
theorem any_w (hP : LT P) (hT : LT T) (hc : Pok N b c) (hN : N ≤ 10 ^ 9) {xs : List D} (h0 : xs ≠ []) (h1 : xs.length ≤ 1000) (k : ∀ a' b' c' x, Pok (N + 1) b' c' → x ∈ xs → Q (.d x) (C3 P a' b' c' T)) :
    WP (F__law_any_of [.ref P.length, .d (.fl xs)] (C3 P a b c T)) Q := by
  have hl : 1 ≤ xs.length := List.length_pos_iff.mpr h0
  apply w__law_any_of
  unfold b__law_any_of
  trivial
  refine scoop_w hP hT hc hN (by omega) fun a' b' c' x o x0 x1 => ?_
  obtain ⟨d, e, m⟩ := at_lt xs x0 x1
  refine wp_ixF e ?_
  refine wp_retC hP hT ?_
  exact k _ _ _ _ o m
theorem perm_erase {α : Type} : ∀ {xs : List α} {k : Nat} {x : α}, xs[k]? = some x → (x :: xs.eraseIdx k).Perm xs
  | [], _, _, h => by simp at h
  | y :: xs, 0, x, h => by simp at h; subst h; exact .refl _
  | y :: xs, k + 1, x, h => by
    have ih := perm_erase (xs := xs) (k := k) (x := x) (by simpa using h)
    rw [List.eraseIdx_cons_succ]
    exact (List.Perm.swap y x _).trans (.cons y ih)
theorem erase_map {α β : Type} (f : α → β) : ∀ (xs : List α) (k : Nat), (xs.map f).eraseIdx k = (xs.eraseIdx k).map f
  | [], _ => by simp
  | x :: xs, 0 => by simp
  | x :: xs, k + 1 => by simp [erase_map f xs k]
/-- .. so many of a list of numbers, in a drawn order -/
theorem few_w (hP : LT P) (hT : LT T) (hc : Pok N b c) (hN : N ≤ 10 ^ 8) {xs : List Int} (h1 : xs.length ≤ 90) {m : Nat} (hm : m ≤ 90) (k : ∀ a' b' c' (ys left : List Int), Pok (N + 100) b' c' → (ys ++ left).Perm xs → (m ≤ xs.length → ys.length = m) → Q (.d (.fl (ys.map D.int))) (C3 P a' b' c' T)) :
    WP (F__law_few_of [.ref P.length, .d (.fl (xs.map D.int)), .d (.int (m : Nat))] (C3 P a b c T)) Q := by
  apply w__law_few_of
  unfold b__law_few_of
  trivial
  obtain ⟨q, hq, hq1, hq2, hq3⟩ : ∃ q : Nat, min2 (m : Int) (xs.length : Nat) = (q : Nat) ∧ q ≤ 90 ∧ q ≤ xs.length ∧ (m ≤ xs.length → q = m) := by
    unfold min2
    split
    · exact ⟨xs.length, rfl, h1, Nat.le_refl _, by omega⟩
    · exact ⟨m, rfl, hm, by omega, fun _ => rfl⟩
  refine ws_for D.int (houses q) (fun d ρ S => ∃ v a b c, ∃ ls ys : List Int, ρ = [some (.ref P.length), some (.d (.fl (xs.map D.int))), some (.d (.int (m : Nat))), v, some (.ref (P.length + T.length + 1)), some (.ref (P.length + T.length + 2))] ∧ S = C3 P a b c (T ++ [.lst (ls.map D.int), .lst (ys.map D.int)]) ∧ Pok (N + d.length) b c ∧ (ys ++ ls).Perm xs ∧ ys.length = d.length) ?_ ?_ ?_
  · trivial
    refine rngH hq (by omega) ⟨rfl, none, a, b, c, xs, [], rfl, rfl, hc.mono (by simp), by simp, rfl⟩
  · rintro d x r e ρ S ⟨v, a, b, c, ls, ys, rfl, rfl, o, pm, ey⟩
    have hd : d.length + 1 ≤ q := by
      have := congrArg List.length e
      rw [houses_len, List.length_append, List.length_cons] at this
      omega
    have el := pm.length_eq
    rw [List.length_append] at el
    trivial
    refine mthQr c3_at2 ?_
    trivial
    refine mthQr c3_at1 ?_
    trivial
    refine wp_lenC c3_at1 ?_
    rw [List.length_map]
    trivial
    refine scoop_w hP hT.lst2 o (by omega) (by omega) fun a b c i o i0 i1 => ?_
    trivial
    have hi : i.toNat < ls.length := by omega
    refine wp_pop (d := D.int ls[i.toNat]) c3_at1 i0 (by rw [List.length_map]; exact i1) (by rw [List.length_map]; omega) (by rw [List.getElem?_map, List.getElem?_eq_getElem hi]; rfl) ?_
    rw [c3_set1, erase_map]
    trivial
    refine wp_app2 (by rw [List.length_map]; omega) ?_
    have em : ys.map D.int ++ [D.int ls[i.toNat]] = (ys ++ [ls[i.toNat]]).map D.int := by simp
    rw [em]
    refine ⟨_, a, b, c, _, _, rfl, rfl, o.mono (by simp; omega), ?_, by simp; omega⟩
    rw [List.append_assoc]
    exact ((perm_erase (List.getElem?_eq_getElem hi)).append_left ys).trans pm
  · rintro ρ S ⟨v, a, b, c, ls, ys, rfl, rfl, o, pm, ey⟩
    trivial
    refine wp_retCl2 hP hT ?_
    rw [houses_len] at o ey
    exact k a b c ys ls (o.mono (by omega)) pm fun h => by rw [ey]; exact hq3 h
theorem add_map {xs : List (List (List Int))} {h : List (List Int)} : xs.map encH ++ [encH h] = (xs ++ [h]).map encH := by simp
theorem add_mapR {xs : List (List Int)} {h : List Int} : xs.map encR ++ [encR h] = (xs ++ [h]).map encR := by simp
theorem enc_one {x : Int} : D.tup [.int x] = encR [x] := rfl
theorem enc_nil : D.tup [] = encR [] := rfl
/-- rows so far -/
def RowsK (n : Nat) (rs : List (List Int)) : Prop := ∀ (i : Nat) (r : List Int), rs[i]? = some r → RowK n (i : Nat) r
theorem RowsK.snoc {n : Nat} {rs : List (List Int)} {r : List Int} (h : RowsK n rs) (k : RowK n (rs.length : Nat) r) : RowsK n (rs ++ [r]) := fun i q e => by
  by_cases hi : i < rs.length
  · rw [List.getElem?_append_left hi] at e
    exact h i q e
  · rw [List.getElem?_append_right (by omega)] at e
    have : i - rs.length = 0 := by
      have := (List.getElem?_eq_some_iff.mp e).1
      simp at this
      omega
    rw [this] at e
    have e : r = q := by simpa using e
    subst e
    have : i = rs.length := by omega
    rw [this]
    exact k
theorem RowsK.web {n : Nat} {rs : List (List Int)} (h : RowsK n rs) (l : rs.length = n) (h1 : 1 ≤ n) (h2 : n ≤ 5) : WebOk rs := by
  refine ⟨by omega, by omega, fun p hp => ?_⟩
  obtain ⟨r, i⟩ := p
  have k := h i r (by simpa [List.mem_zipIdx_iff_getElem?] using hp)
  exact ⟨fun j hj => by rw [l]; exact k.rg j hj, asc_of_pw k.pw, k.no, k.ln⟩
theorem at_done {n : Nat} {d r : List Int} {x : Int} (e : d ++ x :: r = houses n) : x = (d.length : Nat) ∧ d.length < n := by
  have l := congrArg List.length e
  rw [houses_len, List.length_append, List.length_cons] at l
  have hd : d.length < n := by omega
  have g : (houses n)[d.length]? = some x := by rw [← e]; simp
  rw [houses_get hd] at g
  exact ⟨(Option.some.inj g).symm, hd⟩
def others (n : Nat) (i : Int) : List Int := (houses n).filter fun x => decide (x ≠ i)
theorem row_drawn {n : Nat} {x : Int} (hn : n ≤ 5) {ys left : List Int} (p : (ys ++ left).Perm (others n x)) : RowK n x (sortI ys) := by
  have sub : ∀ y ∈ ys, y ∈ others n x := fun y hy => p.mem_iff.mp (List.mem_append_left _ hy)
  have nd : ys.Nodup := by
    have d : (others n x).Nodup := ((houses_lt n).imp fun h e => by omega : (houses n).Nodup).sublist List.filter_sublist
    exact (List.nodup_append.mp (p.nodup_iff.mpr d)).1
  have o := sortI_pw ys
  have d : (sortI ys).Nodup := (sortI_perm ys).nodup_iff.mpr nd
  refine ⟨fun j hj => ?_, (o.and d).imp fun ⟨a, b⟩ => by omega, fun hj => ?_, ?_⟩
  · have := List.mem_filter.mp (sub j ((sortI_perm ys).mem_iff.mp hj))
    exact mem_houses.mp this.1
  · have := List.mem_filter.mp (sub _ ((sortI_perm ys).mem_iff.mp hj))
    simp at this
  · rw [(sortI_perm ys).length_eq]
    have := p.length_eq
    rw [List.length_append] at this
    have l : (others n x).length ≤ n := Nat.le_trans (List.length_filter_le _ _) (by rw [houses_len]; exact Nat.le_refl _)
    omega
def rwEn (p q : Nat) (n : Nat) (way : Int) (v2 v5 v6 v7 : Option A) : RS.Env := [some (.ref p), some (.d (.int (n : Nat))), v2, some (.d (.int way)), some (.ref q), v5, v6, v7]
def RwInv (P T : Store) (N : Int) (n : Nat) (way : Int) (d : List Int) (ρ : RS.Env) (S : Store) : Prop :=
  ∃ v2 v5 v6 v7 a b c rs, ρ = rwEn P.length (P.length + T.length + 1) n way v2 v5 v6 v7 ∧ S = C3 P a b c (T ++ [.lst (rs.map encR)]) ∧ Pok (N + 1 + 200 * d.length) b c ∧ RowsK n rs ∧ rs.length = d.length
theorem rows_w (hP : LT P) (hT : LT T) (hc : Pok N b c) (hN : N ≤ 10 ^ 7) {n : Nat} (h1 : 1 ≤ n) (hn : n ≤ 5) (k : ∀ a' b' c' h, Pok (N + 2000) b' c' → WebOk h → h.length = n → Q (.d (encH h)) (C3 P a' b' c' T)) :
    WP (F__law_rows [.ref P.length, .d (.int (n : Nat))] (C3 P a b c T)) Q := by
  apply w__law_rows
  unfold b__law_rows
  trivial
  refine scoop_w hP hT hc (by omega) (by omega) fun a b c way o w0 w1 => ?_
  trivial
  refine ws_for D.int (houses n) (RwInv P T N n way) ?_ ?_ ?_
  · trivial
    exact rngH rfl (by omega) ⟨rfl, none, none, none, none, a, b, c, [], rfl, rfl, o.mono (by simp), (fun i r e => by simp at e), rfl⟩
  · rintro d x r e ρ S ⟨v2, v5, v6, v7, a, b, c, rs, rfl, rfl, o, hr, el⟩
    obtain ⟨ex, hd⟩ := at_done e
    have lx : (rs.map encR).length < 1000 := by rw [List.length_map]; omega
    unfold rwEn
    trivial
    refine wp_comp (houses n) D.int (fun y => decide (y ≠ x)) D.int ?_ (by rw [houses_len]; omega) (fun y hy => ⟨_, rfl, ?_, fun _ => ?_⟩) ?_
    · trivial
      exact rngH rfl (by omega) ⟨rfl, rfl⟩
    · trivial
      exact ⟨by simp, rfl⟩
    · trivial
      exact ⟨rfl, rfl⟩
    have ol : ((houses n).filter fun y => decide (y ≠ x)).length ≤ 5 := Nat.le_trans (List.length_filter_le _ _) (by rw [houses_len]; exact hn)
    have oe : (houses n).filter (fun y => decide (y ≠ x)) = others n x := rfl
    rw [oe] at ol ⊢
    generalize ho : others n x = ot at ol
    trivial
    obtain ⟨tb, et, mt⟩ := at_lt [D.fl [.int 0, .int 1, .int 1, .int 2], .fl [.int 1], .fl [.int 0, .int 1], .fl [.int 1, .int 2, .int 3, .int 4], .fl [.int 4]] w0 w1
    refine wp_ixF et ?_
    obtain ⟨l, rfl, l0, l1, l2⟩ : ∃ l : List D, tb = .fl l ∧ l ≠ [] ∧ l.length ≤ 4 ∧ ∀ y ∈ l, ∃ z : Nat, y = .int (z : Nat) ∧ z ≤ 4 := by
      have h0 : ∃ z : Nat, D.int 0 = .int (z : Nat) ∧ z ≤ 4 := ⟨0, rfl, by omega⟩
      have h1 : ∃ z : Nat, D.int 1 = .int (z : Nat) ∧ z ≤ 4 := ⟨1, rfl, by omega⟩
      have h2 : ∃ z : Nat, D.int 2 = .int (z : Nat) ∧ z ≤ 4 := ⟨2, rfl, by omega⟩
      have h3 : ∃ z : Nat, D.int 3 = .int (z : Nat) ∧ z ≤ 4 := ⟨3, rfl, by omega⟩
      have h4 : ∃ z : Nat, D.int 4 = .int (z : Nat) ∧ z ≤ 4 := ⟨4, rfl, by omega⟩
      simp only [List.mem_cons, List.not_mem_nil, or_false] at mt
      rcases mt with rfl | rfl | rfl | rfl | rfl
      · exact ⟨_, rfl, by simp, by simp, fun y hy => by simp only [List.mem_cons, List.not_mem_nil, or_false] at hy; rcases hy with rfl | rfl | rfl | rfl <;> assumption⟩
      · exact ⟨_, rfl, by simp, by simp, fun y hy => by simp only [List.mem_cons, List.not_mem_nil, or_false] at hy; rcases hy with rfl <;> assumption⟩
      · exact ⟨_, rfl, by simp, by simp, fun y hy => by simp only [List.mem_cons, List.not_mem_nil, or_false] at hy; rcases hy with rfl | rfl <;> assumption⟩
      · exact ⟨_, rfl, by simp, by simp, fun y hy => by simp only [List.mem_cons, List.not_mem_nil, or_false] at hy; rcases hy with rfl | rfl | rfl | rfl <;> assumption⟩
      · exact ⟨_, rfl, by simp, by simp, fun y hy => by simp only [List.mem_cons, List.not_mem_nil, or_false] at hy; rcases hy with rfl <;> assumption⟩
    trivial
    refine any_w hP hT.lst o (by omega) l0 (by omega) fun a b c wd o mw => ?_
    obtain ⟨z, rfl, hz⟩ := l2 wd mw
    trivial
    obtain ⟨q, hq, hq1⟩ : ∃ q : Nat, min2 (ot.length : Int) (z : Nat) = (q : Nat) ∧ q ≤ 5 := by
      unfold min2
      split
      · exact ⟨z, rfl, by omega⟩
      · exact ⟨ot.length, rfl, ol⟩
    rw [hq]
    refine mthQr c3_at1 ?_
    trivial
    refine few_w hP hT.lst o (by omega) (by omega) (by omega) fun a b c ys left o pm _ => ?_
    trivial
    refine wp_sortF ?_
    trivial
    refine wp_app1 lx ?_
    have er : D.tup ((sortI ys).map D.int) = encR (sortI ys) := rfl
    rw [er, add_mapR]
    rw [← ho] at pm
    exact ⟨_, _, _, _, a, b, c, _, rfl, rfl, o.mono (by simp; omega), hr.snoc (by rw [el, ← ex]; exact row_drawn hn pm), by simp [el]⟩
  · rintro ρ S ⟨v2, v5, v6, v7, a, b, c, rs, rfl, rfl, o, hr, el⟩
    unfold rwEn
    trivial
    refine wp_tupC c3_at1 ?_
    refine wp_retCU hP hT ?_
    rw [houses_len] at o el
    exact k a b c rs (o.mono (by omega)) (hr.web el h1 hn) el
end
end RSL
end

section
set_option maxRecDepth 100000
set_option maxHeartbeats 1000000
/-! Drawn pools. -/
namespace RSL
open PySem PySem.Spec RS
local macro_rules | `(tactic| trivial) => `(tactic| (repeat (first | ((with_reducible apply ws_seq); try dsimp only [List.set]) | ((with_reducible apply wp_var); exact rfl) | with_reducible apply wp_bin | with_reducible apply wp_k | with_reducible apply wp_cons | with_reducible apply wp_nil | with_reducible apply wp_bcall | with_reducible apply wp_call | ((with_reducible apply callQ); exact rfl) | with_reducible apply ws_set | with_reducible apply ws_ret | with_reducible apply ws_exp | with_reducible apply ws_if | with_reducible apply ws_nil | with_reducible apply wp_asB | with_reducible apply isB | with_reducible apply ifq_t | with_reducible apply ifq_f | with_reducible apply ifq_not | with_reducible apply ifq_x0 | with_reducible apply ifq_x1 | (with_reducible refine ifq_dt (by with_reducible assumption) ?_) | (with_reducible refine ifq_df (by with_reducible assumption) ?_) | ((with_reducible apply ifq_dt); exact rfl) | with_reducible apply wp_and | with_reducible apply wp_or | with_reducible apply wp_not | with_reducible apply wp_notV | with_reducible apply wp_andV | with_reducible apply wp_orV | with_reducible apply wp_ifV | with_reducible apply ws_par | with_reducible apply parQ | with_reducible apply ws_par3 | with_reducible apply par3Q | with_reducible apply wp_tupM | ((with_reducible apply tupQ); exact rfl; first | decide | (focus (simp; done)) | omega) | with_reducible apply wp_flM | with_reducible apply wp_pro | with_reducible apply wp_fld | with_reducible apply wp_una | with_reducible apply wp_make | with_reducible apply wp_meth | (with_reducible refine wp_ixWs (by with_reducible assumption) ?_) | (with_reducible refine webQ (by with_reducible assumption) (by with_reducible assumption) ?_) | (with_reducible refine wp_of (check_pool_ev (by with_reducible assumption)) ?_) | (with_reducible refine wp_lenP (by with_reducible assumption) (by with_reducible assumption) ?_) | (with_reducible refine wp_ixP (by with_reducible assumption) (by with_reducible assumption) (by with_reducible assumption) ?_) | with_reducible apply wp_mth | with_reducible apply wp_seqI | with_reducible apply wp_enumI | with_reducible apply wp_rng | with_reducible apply wp_zipI | with_reducible apply seqQt | with_reducible apply seqQf | with_reducible apply seqQl | with_reducible apply seqQr | with_reducible apply seqQh | with_reducible apply wp_star | with_reducible apply wp_tru | with_reducible apply wp_i0 | with_reducible apply wp_i1 | with_reducible apply wp_i2 | with_reducible apply wp_lenH | with_reducible apply wp_lenRr | with_reducible apply wp_lenI | with_reducible apply wp_lenWs | (with_reducible refine wp_ixH (by first | with_reducible assumption | omega) ?_) | with_reducible apply wp_eqR | with_reducible apply wp_eqL | with_reducible apply wp_eqN | with_reducible apply wp_inR | with_reducible apply wp_inI | with_reducible apply wp_add | with_reducible apply wp_sub | with_reducible apply wp_neg | with_reducible apply wp_int | with_reducible apply wp_intb | with_reducible apply wp_abs | with_reducible apply wp_two | with_reducible apply wp_lt | with_reducible apply wp_le | with_reducible apply wp_gt | with_reducible apply wp_ge | with_reducible apply wp_eqI | with_reducible apply wp_eqB | with_reducible apply wp_isN | with_reducible apply wp_chn | with_reducible apply wp_gset | with_reducible apply wp_gt2 | with_reducible apply wp_gt3 | with_reducible apply wp_gl2 | with_reducible apply ws_asg | (with_reducible refine wp_mod (by omega) ?_) | (with_reducible refine wp_fdivS (by omega) (by omega) ?_) | (with_reducible refine wp_mulS (by omega) (by omega) ?_) | ((with_reducible apply wp_s0); exact rfl) | ((with_reducible apply wp_s2); exact rfl) | (with_reducible refine wp_pow (by decide +kernel) ?_) | with_reducible apply wp_celC2 | with_reducible apply wp_celC | with_reducible apply wp_celM | ((with_reducible apply celQ); exact rfl; first | decide | (focus (simp; done)) | omega) | with_reducible apply wp_listCC | with_reducible apply wp_tupT | with_reducible apply wp_tupF | with_reducible apply wp_lenT | with_reducible apply wp_lenF | with_reducible apply wp_lenR )))
section
variable {S T P U : Store} {a b c N : Int} {Q : A → Store → Prop}
theorem web_map {n : Nat} (h1 : 1 ≤ n) (h2 : n ≤ 5) {r : Int → List Int} (hr : ∀ y : Int, (0 ≤ y ∧ y < (n : Nat)) → RowK n y (r y)) : WebOk ((houses n).map r) ∧ ((houses n).map r).length = n := by
  have z := web_rows (rs := (houses n).map fun y => (y, r y)) h1 h2 (by rw [List.map_map]; exact List.map_id _) fun p hp => by
    obtain ⟨y, hy, rfl⟩ := List.mem_map.mp hp
    exact hr y (mem_houses.mp hy)
  have e : ((houses n).map fun y => (y, r y)).map Prod.snd = (houses n).map r := by rw [List.map_map]; rfl
  rwa [e] at z
def starR (s y : Int) : List Int := if y = s then [] else [s]
def chainR (n : Nat) (s y : Int) : List Int := if y = s then [] else [(y + n - 1) % n]
theorem star_ok {n : Nat} (h1 : 1 ≤ n) (h2 : n ≤ 5) {s : Int} (hs : 0 ≤ s ∧ s < n) : WebOk ((houses n).map (starR s)) ∧ ((houses n).map (starR s)).length = n :=
  web_map h1 h2 fun y hy => by
    unfold starR
    split
    · exact row_none
    · rename_i ne
      exact row_one hs ne
theorem chain_ok {n : Nat} (h1 : 1 ≤ n) (h2 : n ≤ 5) {s : Int} (hs : 0 ≤ s ∧ s < n) : WebOk ((houses n).map (chainR n s)) ∧ ((houses n).map (chainR n s)).length = n :=
  web_map h1 h2 fun y hy => by
    unfold chainR
    split
    · exact row_none
    · rename_i ne
      have cs : n = 1 ∨ n = 2 ∨ n = 3 ∨ n = 4 ∨ n = 5 := by omega
      rcases cs with rfl | rfl | rfl | rfl | rfl <;> exact row_one (by omega) (by omega)
theorem full_ok {n : Nat} (h1 : 1 ≤ n) (h2 : n ≤ 5) : WebOk ((houses n).map (others n)) ∧ ((houses n).map (others n)).length = n :=
  web_map h1 h2 fun y hy => row_sub h2 List.filter_sublist fun z => by
    have := (List.mem_filter.mp z).2
    simp at this
theorem enc_rows {n : Nat} {r : Int → List Int} : D.tup ((houses n).map fun y => encR (r y)) = encH ((houses n).map r) := by
  unfold encH
  rw [List.map_map]
  rfl
structure PI (n m : Nat) (ws : List Rows) : Prop where
  web : ∀ w ∈ ws, WebOk w ∧ w.length = n
  nd : ws.Nodup
  len : ws.length ≤ m
  ne : 0 < m → ws ≠ []
def pkEn (p q : Nat) (n : Nat) (top : Int) (v4 v5 v6 v7 v8 v9 v10 v11 : Option A) : RS.Env := [some (.ref p), some (.d (.int (n : Nat))), some (.d (.int top)), some (.ref q), v4, v5, v6, v7, v8, v9, v10, v11]
def PInv (P T : Store) (N : Int) (n : Nat) (top : Int) (m : Nat) (ρ : RS.Env) (S : Store) : Prop :=
  ∃ v4 v5 v6 v7 v8 v9 v10 v11 a b c ws, ρ = pkEn P.length (P.length + T.length + 1) n top v4 v5 v6 v7 v8 v9 v10 v11 ∧ S = C3 P a b c (T ++ [.lst (ws.map encH)]) ∧ Pok (N + 1 + 3000 * m) b c ∧ PI n m ws
theorem tail_w {n m : Nat} {top : Int} {v4 v6 v7 v8 v9 v10 v11 : Option A} {h : Rows} {ws : List Rows} {M : Int} (o : Pok M b c) (oM : M ≤ N + 1 + 3000 * (m + 1 : Nat)) (hm : m ≤ 10) (kw : WebOk h) (lw : h.length = n) (v : PI n m ws) {Nn : RS.Env → Store → Prop} {Tt : A → Store → Prop} {ρ : RS.Env}
    (eρ : ρ = pkEn P.length (P.length + T.length + 1) n top v4 (some (.d (encH h))) v6 v7 v8 v9 v10 v11) (k : ∀ ρ' S', PInv P T N n top (m + 1) ρ' S' → Nn ρ' S') :
    WP (inP true (.d (encH h)) (.ref (P.length + T.length + 1)) (C3 P a b c (T ++ [.lst (ws.map encH)]))) (IsB fun t S1 => IfQ t (WS (sExp (mthM appP (cVar 3) (aCons (cVar 5) aNil))) ρ S1 Nn Tt) (WS sNil ρ S1 Nn Tt)) := by
  have hl := v.len
  subst eρ
  unfold pkEn
  refine wp_inRf encH_enc (by decide) h ws c3_at1 ?_
  trivial
  apply ifq_d
  · intro hm
    trivial
    exact k _ _ ⟨_, _, _, _, _, _, _, _, a, b, c, ws, rfl, rfl, o.mono oM, v.web, v.nd, by omega, fun _ z => by rw [z] at hm; cases hm⟩
  · intro hm
    trivial
    refine mthQr c3_at1 ?_
    trivial
    refine wp_app1 (by rw [List.length_map]; omega) ?_
    rw [add_map]
    refine k _ _ ⟨_, _, _, _, _, _, _, _, a, b, c, ws ++ [h], rfl, rfl, o.mono oM, fun w hw => ?_, ?_, by simp; omega, fun _ z => by simp at z⟩
    · rcases List.mem_append.mp hw with hw | hw
      · exact v.web w hw
      · rw [List.mem_singleton.mp hw]; exact ⟨kw, lw⟩
    · refine List.nodup_append.mpr ⟨v.nd, by simp, fun x hx y hy => ?_⟩
      rw [List.mem_singleton.mp hy]
      exact fun z => hm (z ▸ hx)
theorem pool_w (hP : LT P) (hT : LT T) (hc : Pok N b c) (hN : N ≤ 10 ^ 6) {n : Nat} (h1 : 1 ≤ n) (hn : n ≤ 5) {top : Int} (ht : 1 ≤ top ∧ top ≤ 8) (k : ∀ a' b' c' ws, Pok (N + 30000) b' c' → PoolOk n ws → Q (.d (.fl (ws.map encH))) (C3 P a' b' c' T)) :
    WP (F__law_pool_rows [.ref P.length, .d (.int (n : Nat)), .d (.int top)] (C3 P a b c T)) Q := by
  apply w__law_pool_rows
  unfold b__law_pool_rows
  trivial
  apply ws_forE
  trivial
  refine scoop_w hP hT.lst hc (by omega) (by omega) fun a b c j o j0 j1 => ?_
  trivial
  obtain ⟨m, hm⟩ : ∃ m : Nat, 1 + j = (m : Nat) := ⟨(1 + j).toNat, by omega⟩
  refine rngH hm (by omega) ?_
  refine wf D.int (houses m) (fun d ρ S => PInv P T N n top d.length ρ S) ?_ ?_ ?_
  · exact ⟨none, none, none, none, none, none, none, none, a, b, c, [], rfl, rfl, o.mono (by simp), ⟨(fun _ z => nomatch z), List.nodup_nil, Nat.le_refl _, (fun z => absurd z (by simp))⟩⟩
  · rintro d x r e ρ S ⟨v4, v5, v6, v7, v8, v9, v10, v11, a, b, c, ws, rfl, rfl, o, v⟩
    obtain ⟨ex, hd⟩ := at_done e
    have hl := v.len
    rw [show (d ++ [x]).length = d.length + 1 by simp]
    unfold pkEn
    trivial
    refine rows_w hP hT.lst o (by omega) h1 hn fun a b c h o kw lw => ?_
    trivial
    refine scoop_w hP hT.lst o (by omega) (by omega) fun a b c y o y0 y1 => ?_
    trivial
    apply ifq_d
    · intro hy
      trivial
      refine scoop_w hP hT.lst o (by omega) (by omega) fun a b c s o s0 s1 => ?_
      trivial
      refine wp_map (houses n) D.int (fun y => encR (starR s y)) ?_ (by rw [houses_len]; omega) (fun y hy => ⟨_, rfl, ?_⟩) ?_
      · trivial
        exact rngH rfl (by omega) ⟨rfl, rfl⟩
      · trivial
        apply ifq_d
        · intro h
          trivial
          exact ⟨by unfold starR; rw [if_pos h]; rfl, rfl⟩
        · intro h
          trivial
          exact ⟨by unfold starR; rw [if_neg h]; rfl, rfl⟩
      trivial
      rw [enc_rows]
      refine wp_map (houses n) D.int (fun y => encR (chainR n s y)) ?_ (by rw [houses_len]; omega) (fun y hy => ⟨_, rfl, ?_⟩) ?_
      · trivial
        exact rngH rfl (by omega) ⟨rfl, rfl⟩
      · trivial
        apply ifq_d
        · intro h
          trivial
          exact ⟨by unfold chainR; rw [if_pos h]; rfl, rfl⟩
        · intro h
          trivial
          exact ⟨by unfold chainR; rw [if_neg h]; rfl, rfl⟩
      trivial
      rw [enc_rows]
      refine wp_map (houses n) D.int (fun y => encR (others n y)) ?_ (by rw [houses_len]; omega) (fun y hy => ⟨_, rfl, ?_⟩) ?_
      · trivial
        exact rngH rfl (by omega) ⟨rfl, rfl⟩
      · trivial
        refine wp_comp (houses n) D.int (fun z => decide (z ≠ y)) D.int ?_ (by rw [houses_len]; omega) (fun z hz => ⟨_, rfl, ?_, fun _ => ?_⟩) ?_
        · trivial
          exact rngH rfl (by omega) ⟨rfl, rfl⟩
        · trivial
          exact ⟨by simp, rfl⟩
        · trivial
          exact ⟨rfl, rfl⟩
        trivial
        exact ⟨rfl, rfl⟩
      trivial
      rw [enc_rows]
      refine any_w hP hT.lst o (by omega) (by simp) (by simp) fun a b c w o mw => ?_
      obtain ⟨g, rfl, gw, gl⟩ : ∃ g : Rows, w = encH g ∧ WebOk g ∧ g.length = n := by
        simp only [List.mem_cons, List.not_mem_nil, or_false] at mw
        rcases mw with rfl | rfl | rfl
        · exact ⟨_, rfl, star_ok h1 hn ⟨s0, s1⟩⟩
        · exact ⟨_, rfl, chain_ok h1 hn ⟨s0, s1⟩⟩
        · exact ⟨_, rfl, full_ok h1 hn⟩
      trivial
      exact tail_w (N := N) o (by omega) (by omega) gw gl v rfl fun _ _ z => z
    · intro hy
      trivial
      exact tail_w (N := N) o (by omega) (by omega) kw lw v rfl fun _ _ z => z
  · rintro ρ S ⟨v4, v5, v6, v7, v8, v9, v10, v11, a, b, c, ws, rfl, rfl, o, v⟩
    have hl := v.len
    rw [houses_len] at o v hl
    unfold pkEn
    trivial
    refine wp_retCl hP hT ?_
    exact k a b c ws (o.mono (by omega)) ⟨List.length_pos_iff.mpr (v.ne (by omega)), by omega, v.web, v.nd⟩
theorem poolof_w (hS : Gd S) {n : Nat} {ws : List Rows} (p : PoolOk n ws) (hn : n ≤ 5) (k : Q (.d (poolD n ws)) S) : WP (F__law_pool_of [.d (.fl (ws.map encH))] S) Q := by
  have z := comp_map (S := S) (ρ := startE N__law_pool_of.length [.d (.fl (ws.map encH))]) (q := seqI (cVar 0)) (vs := [1]) (tg := .one 1) (e := makeM false "Web" 2 F_Web___init__ [] (aCons (cVar 1) aNil)) encH webD (xs := ws) (ev_seqI (ev_var rfl) (.inr rfl)) (by have := p.hi; omega) (fun w hw => ⟨_, rfl, make_ev hS (p.web w hw).1 (ev_cons (ev_var rfl) ev_nil)⟩)
  exact wp_of (ev_fn rfl (ev_ret (make_pool hS p hn (ev_cons (ev_b1 z tup_fl) ev_nil))) (ret_d hS)) k
end
end RSL
end

section
set_option maxRecDepth 100000
set_option maxHeartbeats 4000000
/-! Webs joined one after another; who is heard by all. -/
namespace RSL
open PySem PySem.Spec RS
section
variable {h g : List (List Int)} {S : Store} {n : Nat}
theorem check_between_ev {i lo hi : Int} {S : Store} (h : Gd S) (h0 : lo ≤ i) (h1 : i ≤ hi) (h2 : -1000 ≤ lo) (h3 : hi ≤ 1000) : F_check_between [.d (.int i), .d (.int lo), .d (.int hi)] S = .ok (.d .non) S := by
  have a1 : -big < i := by unfold big; omega
  have a2 : i < big := by unfold big; omega
  simp [fnF, b_check_between, sIf, notT, asB, callM, aCons, aNil, cVar, startE, N_check_between, RS.R.bind, is_between_ev h, a1, a2, h0, h1, sNil, fnEnd, ret_d h]
theorem flat_len {α : Type} {f : α → List Int} (k : Nat) : ∀ {xs : List α}, (∀ x ∈ xs, (f x).length ≤ k) → (xs.flatMap f).length ≤ k * xs.length
  | [], _ => by simp
  | x :: xs, hx => by
    have a := flat_len k (xs := xs) fun y hy => hx y (List.mem_cons_of_mem _ hy)
    have b := hx x List.mem_cons_self
    rw [List.flatMap_cons, List.length_append, List.length_cons, Nat.mul_succ]
    omega
def toldL (h g : List (List Int)) (i : Int) : List Int := (hearL g i).flatMap (hearL h)
theorem mem_told (w : WebOk h) (v : WebOk g) (l : g.length = h.length) {i s : Int} (hi : 0 ≤ i ∧ i < h.length) : s ∈ toldL h g i ↔ ∃ t, Hr g i t ∧ Hr h t s := by
  have hi2 : 0 ≤ i ∧ i < g.length := by rw [l]; exact hi
  unfold toldL
  rw [List.mem_flatMap]
  have rg : ∀ t, Hr g i t → 0 ≤ t ∧ t < h.length := fun t a => by
    rcases a.rg v with rfl | q
    · exact hi
    · rw [← l]; exact q.2
  exact ⟨fun ⟨t, a, b⟩ => ⟨t, (mem_hear v hi2).mp a, (mem_hear w (rg t ((mem_hear v hi2).mp a))).mp b⟩, fun ⟨t, a, b⟩ => ⟨t, (mem_hear v hi2).mpr a, (mem_hear w (rg t a)).mpr b⟩⟩
def thRow (h g : List (List Int)) (i : Int) : List Int := (houses h.length).filter fun s => decide (s ∈ toldL h g i) && decide (s ≠ i)
theorem thRow_eq (w : WebOk h) (v : WebOk g) (l : g.length = h.length) : (houses h.length).map (thRow h g) = thenL h g := by
  unfold thenL rowsB thRow
  refine List.map_congr_left fun i hi => List.filter_congr fun s _ => ?_
  congr 1
  exact decide_eq_decide.mpr (mem_told w v l (mem_houses.mp hi))
noncomputable def tEnv (h g : List (List Int)) (n : Nat) (a b : Option A) : RS.Env := [some (.d (webD h)), some (.d (webD g)), some (.ref n), a, b, none, none]
def tBody : M Fl := (sSeq (sAsg (lcM2 false [5, 6] (seqI (methM "Web" "hears" 2 F_Web_hears [] (cVar 1) (aCons (cVar 3) aNil))) (.one 5) tYesM (seqI (methM "Web" "hears" 2 F_Web_hears [] (cVar 0) (aCons (cVar 5) aNil))) [6] (.one 6) tYesM (cVar 6)) (gSet 4))
    (sExp (mthM appP (cVar 2) (aCons (bcall tupleP (aCons (lcM false [6] (rng1 (una (fldP "Web" "_size") (cVar 0))) (.one 6) (andT (asB (bin (inP false) (cVar 6) (cVar 4))) (asB (bin (eqP true) (cVar 6) (cVar 3)))) (cVar 6)) aNil)) aNil))))
theorem app_ev {ps : List D} {d : D} (hl : ps.length ≤ 1000) : appP (.ref S.length) [.d d] (S ++ [.lst ps]) = .ok (.d .non) (S ++ [.lst (ps ++ [d])]) := by
  have e : ps.length < sizeLine := Nat.lt_of_lt_of_le (by omega : ps.length < 1001) (by decide)
  simp [appP, e]
theorem lst_at {ps : List D} : lstOf (S ++ [.lst ps]) (.ref S.length) = some ps := by simp [lstOf]
theorem look_none : (wos h).lookup ("hears" : Str) = none := by rfl
theorem look_none2 : (wos h).lookup ("then" : Str) = none := by rfl
theorem tbody_ev (hS : Gd S) (w : WebOk h) (v : WebOk g) (l : g.length = h.length) {i : Int} (hi : 0 ≤ i ∧ i < h.length) {ps : List D} (hp : ps.length ≤ 5) {b : Option A} :
    tBody (tEnv h g S.length (some (.d (.int i))) b) (S ++ [.lst ps]) = .ok (.nx (tEnv h g S.length (some (.d (.int i))) (some (.d (.fl ((toldL h g i).map D.int)))))) (S ++ [.lst (ps ++ [encR (thRow h g i)])]) := by
  have hS2 : Gd (S ++ [.lst ps]) := gd_lst hS
  have hi2 : 0 ≤ i ∧ i < g.length := by rw [l]; exact hi
  have rg : ∀ t ∈ hearL g i, 0 ≤ t ∧ t < h.length := fun t a => by
    rcases ((mem_hear v hi2).mp a).rg v with rfl | q
    · exact hi
    · rw [← l]; exact q.2
  have hlen : (toldL h g i).length ≤ 36 := by
    have a := flat_len 6 (f := hearL h) (xs := hearL g i) fun t ht => hear_len w (rg t ht)
    have b := hear_len v hi2
    unfold toldL
    omega
  have e2 : (hearL g i).flatMap (fun x => (hearL h x).map D.int) = (toldL h g i).map D.int := by
    unfold toldL
    rw [List.map_flatMap]
  have q : seqI (methM "Web" "hears" 2 F_Web_hears [] (cVar 1) (aCons (cVar 3) aNil)) (tEnv h g S.length (some (.d (.int i))) b) (S ++ [.lst ps]) = .ok ((hearL g i).map D.int) (S ++ [.lst ps]) :=
    ev_seqI (ev_meth (ev_var rfl) ins_web look_none (ev_cons (ev_var rfl) ev_nil) rfl (hears_ev hS2 v hi2)) kd_R
  have z := comp2_map (vs := [5, 6]) (vs1 := [6]) (tg := .one 5) (tg1 := .one 6) (q1 := seqI (methM "Web" "hears" 2 F_Web_hears [] (cVar 0) (aCons (cVar 5) aNil))) (e := cVar 6) D.int D.int (hearL h) (fun _ y => D.int y) q
    (fun t ht => ⟨_, rfl, ev_seqI (ev_meth (ev_var rfl) ins_web look_none (ev_cons (ev_var rfl) ev_nil) rfl (hears_ev hS2 w (rg t ht))) kd_R, fun y _ => ⟨_, rfl, ev_var rfl⟩⟩)
    (by
      have e5 : (hearL g i).flatMap (fun x => (hearL h x).map fun y => D.int y) = (toldL h g i).map D.int := e2
      rw [e5, List.length_map]
      omega)
  rw [e2] at z
  refine ev_seq (ev_set z) (ev_exp (a := .d .non) (ev_mth (S1 := S ++ [.lst ps]) (ds := ps) (as := [.d (encR (thRow h g i))]) (S2 := S ++ [.lst ps]) (ev_var rfl) lst_at (ev_cons ?_ ev_nil) (app_ev (by omega))))
  have hq : rng1 (una (fldP "Web" "_size") (cVar 0)) (tEnv h g S.length (some (.d (.int i))) (some (.d (.fl ((toldL h g i).map D.int))))) (S ++ [.lst ps]) = .ok ((houses h.length).map D.int) (S ++ [.lst ps]) := by
    rw [← rngD_houses]
    exact ev_rng (ev_fld (ev_var rfl) ins_web look_size) (by have := w.hi; omega)
  have y := comp_ev (vs := [6]) (tg := .one 6) (t := andT (asB (bin (inP false) (cVar 6) (cVar 4))) (asB (bin (eqP true) (cVar 6) (cVar 3)))) (e := cVar 6) D.int (fun s => decide (s ∈ toldL h g i) && decide (s ≠ i)) D.int hq (by rw [houses_len]; have := w.hi; omega) (fun s hs => ⟨_, rfl, by
      have z1 := in_fl (S := S ++ [.lst ps]) (neg := false) enc_int (by decide) s (toldL h g i)
      rw [Bool.xor_false] at z1
      have z2 := eq_int (S := S ++ [.lst ps]) (i := s) (j := i) (neg := true)
      have e3 : (decide (s = i) ^^ true) = decide (s ≠ i) := by by_cases e : s = i <;> simp [e]
      rw [e3] at z2
      exact ev_and (ev_asB (ev_bin (ev_var rfl) (ev_var rfl) z1)) fun _ => ev_asB (ev_bin (ev_var rfl) (ev_var rfl) z2), fun _ => ev_var rfl⟩)
  exact ev_b1 y tup_fl
theorem then_ev (hS : Gd S) (w : WebOk h) (v : WebOk g) (l : g.length = h.length) : F_Web_then [.d (webD h), .d (webD g)] S = .ok (.d (webD (thenL h g))) S := by
  have c := check_web_ev (h := g) (n := h.length) hS (by omega)
  obtain ⟨ρ', S', h1, a, b, e1, e2⟩ := for_ev (g := gSet 3) (b := tBody) D.int (fun dn ρ T => ∃ a b, ρ = tEnv h g S.length a b ∧ T = S ++ [.lst (dn.map fun i => encR (thRow h g i))])
    (xs := houses h.length) (dn := []) (ρ := tEnv h g S.length none none) (S := S ++ [.lst []]) ⟨none, none, rfl, rfl⟩ (fun dn x r e ρ T ⟨a, b, e1, e2⟩ => by
      subst e1; subst e2
      have e : dn ++ x :: r = houses h.length := by simpa using e
      have hx : x ∈ houses h.length := by rw [← e]; simp
      have hl : dn.length ≤ 5 := by
        have := congrArg List.length e
        rw [houses_len, List.length_append, List.length_cons] at this
        have := w.hi
        omega
      have z := tbody_ev (b := b) hS w v l (mem_houses.mp hx) (ps := dn.map fun i => encR (thRow h g i)) (by rw [List.length_map]; exact hl)
      exact ⟨tEnv h g S.length (some (.d (.int x))) b, _, _, _, rfl, z, _, _, rfl, by simp⟩)
  subst e1; subst e2
  refine ev_fn (S1 := S ++ [.lst ((houses h.length).map fun i => encR (thRow h g i))]) (a := .d (webD (thenL h g))) rfl ?_ (ret_app rfl hS)
  refine ev_seq (ev_exp (ev_call2 (ev_var rfl) (ev_fld (ev_var rfl) ins_web look_size) c)) (ev_seq (ev_set (ev_celM (ds := []) ev_nil rfl (by decide))) ?_)
  refine ev_seq (ev_for (S1 := S ++ [Cell.lst []]) (ds := (houses h.length).map D.int) ?_ h1) (ev_ret (make_ev (gd_lst hS) (thenL_ok w) (ev_cons (ev_b1 (ev_var rfl) ?_) ev_nil)))
  · rw [← rngD_houses]
    exact ev_rng (ev_fld (ev_var rfl) ins_web look_size) (by have := w.hi; omega)
  · simp only [tupleP, List.nil_append, lst_at]
    have : ((houses h.length).map fun i => encR (thRow h g i)) = (thenL h g).map encR := by
      rw [← thRow_eq w v l, List.map_map]
      rfl
    rw [this]
    rfl
theorem heralds_ev (hS : Gd S) (w : WebOk h) : F__law_heralds [.d (webD h)] S = .ok (.d (.fl ((heraldsL h).map D.int))) S := by
  let ρ0 : RS.Env := [some (.d (webD h)), some (.d (.int h.length)), none, none]
  have hq : ∀ ρ : RS.Env, ρ[1]? = some (some (.d (.int h.length))) → rng1 (cVar 1) ρ S = .ok ((houses h.length).map D.int) S := fun ρ e => by
    rw [← rngD_houses]
    exact ev_rng (ev_var e) (by have := w.hi; omega)
  have y := comp_ev (vs := [2]) (tg := .one 2) (t := asB (bin (eqP false) (lcM false [3] (rng1 (cVar 1)) (.one 3) (asB (bin (inP true) (cVar 2) (methM "Web" "hears" 2 F_Web_hears [] (cVar 0) (aCons (cVar 3) aNil)))) (cVar 3)) (flM aNil))) (e := cVar 2) (ρ := ρ0) D.int
    (fun z => decide (((houses h.length).filter fun x => !decide (z ∈ hearL h x)) = [])) D.int (hq ρ0 rfl) (by rw [houses_len]; have := w.hi; omega) (fun z _ => ⟨_, rfl, by
      have y2 := comp_ev (vs := [3]) (tg := .one 3) (t := asB (bin (inP true) (cVar 2) (methM "Web" "hears" 2 F_Web_hears [] (cVar 0) (aCons (cVar 3) aNil)))) (e := cVar 3) (ρ := (wipeE ρ0 [2]).set 2 (some (.d (.int z)))) D.int (fun x => !decide (z ∈ hearL h x)) D.int (hq _ rfl) (by rw [houses_len]; have := w.hi; omega) (fun x hx => ⟨_, rfl, by
        have z1 := in_tup (S := S) (neg := true) enc_int (by decide) z (hearL h x)
        rw [Bool.xor_true] at z1
        exact ev_asB (ev_bin (ev_var rfl) (ev_meth (ev_var rfl) ins_web look_none (ev_cons (ev_var rfl) ev_nil) rfl (hears_ev hS w (mem_houses.mp hx))) z1), fun _ => ev_var rfl⟩)
      have z2 := eq_enc (S := S) (neg := false) (enc_fl enc_int) (by decide) ((houses h.length).filter fun x => !decide (z ∈ hearL h x)) []
      rw [Bool.xor_false] at z2
      exact ev_asB (ev_bin y2 (ev_flM ev_nil rfl (by decide)) z2), fun _ => ev_var rfl⟩)
  have e : ((houses h.length).filter fun z => decide (((houses h.length).filter fun x => !decide (z ∈ hearL h x)) = [])) = heraldsL h := by
    unfold heraldsL
    refine List.filter_congr fun z _ => decide_eq_decide.mpr ?_
    rw [List.filter_eq_nil_iff]
    constructor
    · intro a x hx
      have := a x (mem_houses.mpr hx)
      simp at this
      exact (mem_hear w hx).mp this
    · intro a x hx
      have := (mem_hear w (mem_houses.mp hx)).mpr (a x (mem_houses.mp hx))
      simp [this]
  rw [e] at y
  exact ev_fn rfl (ev_seq (ev_set (ev_pro (ev_var rfl) ins_web rfl (size_ev hS))) (ev_ret y)) (ret_d hS)
end
end RSL
end

section
set_option maxRecDepth 100000
set_option maxHeartbeats 1000000
/-! Webs by a rule; who is behind a word of webs. -/
namespace RSL
open PySem PySem.Spec RS
local macro_rules | `(tactic| trivial) => `(tactic| (repeat (first | ((with_reducible apply ws_seq); try dsimp only [List.set]) | ((with_reducible apply wp_var); exact rfl) | with_reducible apply wp_bin | with_reducible apply wp_k | with_reducible apply wp_cons | with_reducible apply wp_nil | with_reducible apply wp_bcall | with_reducible apply wp_call | ((with_reducible apply callQ); exact rfl) | with_reducible apply ws_set | with_reducible apply ws_ret | with_reducible apply ws_exp | with_reducible apply ws_if | with_reducible apply ws_nil | with_reducible apply wp_asB | with_reducible apply isB | with_reducible apply ifq_t | with_reducible apply ifq_f | with_reducible apply ifq_not | with_reducible apply ifq_x0 | with_reducible apply ifq_x1 | (with_reducible refine ifq_dt (by with_reducible assumption) ?_) | (with_reducible refine ifq_df (by with_reducible assumption) ?_) | ((with_reducible apply ifq_dt); exact rfl) | with_reducible apply wp_and | with_reducible apply wp_or | with_reducible apply wp_not | with_reducible apply wp_notV | with_reducible apply wp_andV | with_reducible apply wp_orV | with_reducible apply wp_ifV | with_reducible apply ws_par | with_reducible apply parQ | with_reducible apply ws_par3 | with_reducible apply par3Q | with_reducible apply wp_tupM | ((with_reducible apply tupQ); exact rfl; first | decide | (focus (simp; done)) | omega) | with_reducible apply wp_flM | with_reducible apply wp_pro | with_reducible apply wp_fld | with_reducible apply wp_una | with_reducible apply wp_make | with_reducible apply wp_meth | (with_reducible refine wp_ixWs (by with_reducible assumption) ?_) | (with_reducible refine webQ (by with_reducible assumption) (by with_reducible assumption) ?_) | (with_reducible refine wp_of (check_pool_ev (by with_reducible assumption)) ?_) | (with_reducible refine wp_lenP (by with_reducible assumption) (by with_reducible assumption) ?_) | (with_reducible refine wp_ixP (by with_reducible assumption) (by with_reducible assumption) (by with_reducible assumption) ?_) | with_reducible apply wp_mth | with_reducible apply wp_seqI | with_reducible apply wp_enumI | with_reducible apply wp_rng | with_reducible apply wp_zipI | with_reducible apply seqQt | with_reducible apply seqQf | with_reducible apply seqQl | with_reducible apply seqQr | with_reducible apply seqQh | with_reducible apply wp_star | with_reducible apply wp_tru | with_reducible apply wp_i0 | with_reducible apply wp_i1 | with_reducible apply wp_i2 | with_reducible apply wp_lenH | with_reducible apply wp_lenRr | with_reducible apply wp_lenI | with_reducible apply wp_lenWs | (with_reducible refine wp_ixH (by first | with_reducible assumption | omega) ?_) | with_reducible apply wp_eqR | with_reducible apply wp_eqL | with_reducible apply wp_eqN | with_reducible apply wp_inR | with_reducible apply wp_inI | with_reducible apply wp_add | with_reducible apply wp_sub | with_reducible apply wp_neg | with_reducible apply wp_int | with_reducible apply wp_intb | with_reducible apply wp_abs | with_reducible apply wp_two | with_reducible apply wp_lt | with_reducible apply wp_le | with_reducible apply wp_gt | with_reducible apply wp_ge | with_reducible apply wp_eqI | with_reducible apply wp_eqB | with_reducible apply wp_isN | with_reducible apply wp_chn | with_reducible apply wp_gset | with_reducible apply wp_gt2 | with_reducible apply wp_gt3 | with_reducible apply wp_gl2 | with_reducible apply ws_asg | (with_reducible refine wp_mod (by omega) ?_) | (with_reducible refine wp_fdivS (by omega) (by omega) ?_) | (with_reducible refine wp_mulS (by omega) (by omega) ?_) | ((with_reducible apply wp_s0); exact rfl) | ((with_reducible apply wp_s2); exact rfl) | (with_reducible refine wp_pow (by decide +kernel) ?_) | with_reducible apply wp_celC2 | with_reducible apply wp_celC | with_reducible apply wp_celM | ((with_reducible apply celQ); exact rfl; first | decide | (focus (simp; done)) | omega) | with_reducible apply wp_listCC | with_reducible apply wp_tupT | with_reducible apply wp_tupF | with_reducible apply wp_lenT | with_reducible apply wp_lenF | with_reducible apply wp_lenR )))
section
variable {S T P U : Store} {a b c N : Int} {Q : A → Store → Prop} {n : Nat} {ws : List Rows} {h g : Rows}
theorem wp_callLc {i cnt np j : Nat} {cs : List D} {G : Nat → List D → List A → Store → R A} {fs : M (List A)} {ρ : RS.Env} (e : ρ[i]? = some (some (.fnc j cs))) (hj : j < cnt) (k : WP (fs ρ S) fun as S1 => as.length = np ∧ plainA as = true ∧ Gd S1 ∧ ∃ y, G j cs as S1 = .ok (.d y) S1 ∧ Q (.d y) S1) : WP (callLc i cnt np G fs ρ S) Q := by
  obtain ⟨as, S1, e1, l, pa, gd, y, e2, q⟩ := k
  refine wp_of (x := .d y) (S1 := S1) ?_ q
  unfold callLc
  rw [e]
  simp only [if_pos hj, e1, RS.R.bind]
  rw [if_pos ⟨l, pa, gd⟩, e2]
  show (if storeOk S1.length S1 = true then R.ok (A.d y) S1 else .bad) = _
  rw [if_pos gd]
theorem wp_callC {k : Nat} {js : List Nat} {cs : List D} {F : List A → Store → R A} {f1 : M A} {ρ : RS.Env} (e : capD ρ js = some cs) (kk : WP (f1 ρ S) fun a S1 => ∃ x, a = .d x ∧ WP (F [.d x, .fnc k cs] S1) fun b S2 => ∃ y, b = .d y ∧ Gd S2 ∧ Q (.d y) S2) : WP (callC k js F f1 ρ S) Q := by
  obtain ⟨_, S1, e1, x, rfl, _, S2, e2, y, rfl, gd, q⟩ := kk
  refine wp_of (x := .d y) (S1 := S2) ?_ q
  unfold callC
  rw [e1]
  simp only [RS.R.bind, e, e2]
  show (if storeOk S2.length S2 = true then R.ok (A.d y) S2 else .bad) = _
  rw [if_pos gd]
theorem end_at {o : Cell} : (S ++ [o])[S.length]? = some o := by simp
theorem end_set {o o' : Cell} : (S ++ [o]).set S.length o' = S ++ [o'] := by simp
def rowF (n : Nat) (f : Int → Int → Bool) (i : Int) : List Int := (houses n).filter fun s => f i s && decide (s ≠ i)
theorem where_w (hS : Gd S) (h1 : 1 ≤ n) (h2 : n ≤ 5) {j : Nat} {cs : List D} (f : Int → Int → Bool) (hj : j < 2) (hf : ∀ x y : Int, (0 ≤ x ∧ x < (n : Int)) → (0 ≤ y ∧ y < (n : Int)) → ∀ U : Store, Gd U → LF j cs [.d (.int x), .d (.int y)] U = .ok (.d (.bl (f x y))) U) (k : Q (.d (webD (rowsB n f))) S) :
    WP (F_web_where [.d (.int (n : Nat)), .fnc j cs] S) Q := by
  apply w_web_where
  unfold b_web_where
  trivial
  refine ws_for D.int (houses n) (fun d ρ U => ∃ v3, ρ = [some (.d (.int (n : Nat))), some (.fnc j cs), some (.ref S.length), v3, none] ∧ U = S ++ [.lst ((d.map (rowF n f)).map encR)]) ?_ ?_ ?_
  · trivial
    exact rngH rfl (by omega) ⟨rfl, none, rfl, rfl⟩
  · rintro d x r e ρ U ⟨v3, rfl, rfl⟩
    have hd : d.length < n := by
      have := congrArg List.length e
      rw [houses_len, List.length_append, List.length_cons] at this
      omega
    have gx := mem_houses.mp (by rw [← e]; simp : x ∈ houses n)
    trivial
    refine mthQr end_at ?_
    trivial
    refine wp_comp (houses n) D.int (fun s => f x s && decide (s ≠ x)) D.int ?_ (by rw [houses_len]; omega) (fun s hs => ⟨_, rfl, ?_, fun _ => ?_⟩) ?_
    · trivial
      exact rngH rfl (by omega) ⟨rfl, rfl⟩
    · trivial
      apply ifq_d
      · intro es
        exact ⟨by simp [es], rfl⟩
      · intro es
        trivial
        refine wp_callLc rfl hj ?_
        trivial
        refine ⟨rfl, rfl, gd_lst hS, _, hf x s gx (mem_houses.mp hs) _ (gd_lst hS), truQ (t := f x s) rfl ⟨by simp [es], rfl⟩⟩
    · trivial
      exact ⟨rfl, rfl⟩
    trivial
    refine wp_app end_at (by rw [List.length_map, List.length_map]; omega) ?_
    rw [end_set]
    refine ⟨_, rfl, ?_⟩
    rw [List.map_append, List.map_append]
    rfl
  · rintro ρ U ⟨v3, rfl, rfl⟩
    trivial
    refine wp_tupC end_at ?_
    trivial
    have e : D.tup (((houses n).map (rowF n f)).map encR) = encH (rowsB n f) := rfl
    rw [e]
    refine wp_of (make_ev (gd_lst hS) (rowsB_ok h1 h2) rfl) ?_
    exact wp_ret2 hS k
theorem lam0_ev {U : Store} (gU : Gd U) {x y : Int} : LF 0 [] [.d (.int x), .d (.int y)] U = .ok (.d (.bl false)) U := by
  show (R.bind (R.ok (A.d (D.bl false)) U) (retA false U.length)) = _
  exact ret_d (keep := false) gU
theorem silent_w (hS : Gd S) (h1 : 1 ≤ n) (h2 : n ≤ 5) (k : Q (.d (webD (silentL n))) S) : WP (F_silent_web [.d (.int (n : Nat))] S) Q := by
  apply w_silent_web
  unfold b_silent_web
  trivial
  refine wp_of (check_between_ev hS (by omega) (by omega) (by omega) (by omega)) ?_
  trivial
  refine wp_callC rfl ?_
  trivial
  refine ⟨_, rfl, ?_⟩
  refine where_w hS h1 h2 (fun _ _ => false) (by decide) (fun x y _ _ U gU => lam0_ev gU) ?_
  exact ⟨_, rfl, hS, wp_ret hS k⟩
def wAt (ws : List Rows) (i : Int) : Rows := ws[i.toNat]?.getD []
theorem wAt_ok (p : PoolOk n ws) {i : Int} (h : 0 ≤ i ∧ i < ws.length) : ws[i.toNat]? = some (wAt ws i) ∧ WebOk (wAt ws i) ∧ (wAt ws i).length = n := by
  obtain ⟨w, e, m, _⟩ := web_at (ws := ws) h.1 h.2
  unfold wAt
  rw [e]
  exact ⟨rfl, p.web w m⟩
theorem wp_lenP (hS : Gd S) (p : PoolOk n ws) (k : Q (.d (.int ws.length)) S) : WP (lenOwP "Pool" F_Pool___len__ [.d (poolD n ws)] S) Q := wp_of (len_pool hS p) k
theorem wp_ixP (hS : Gd S) (p : PoolOk n ws) {i : Int} (h : 0 ≤ i ∧ i < ws.length) (k : Q (.d (webD (wAt ws i))) S) : WP (ixOwP "Pool" F_Pool___getitem__ (.d (poolD n ws)) (.d (.int i)) S) Q := wp_of (ix_pool hS p h.1 (wAt_ok p h).1) k
theorem webs_ok (p : PoolOk n ws) {u : List Int} (hu : ∀ i ∈ u, 0 ≤ i ∧ i < (ws.length : Int)) : WebsOk n (u.map (wAt ws)) := fun w hw => by
  obtain ⟨i, hi, rfl⟩ := List.mem_map.mp hw
  exact (wAt_ok p (hu i hi)).2
noncomputable def behindL (n : Nat) (ws : List Rows) (u : List Int) : Rows := togL n (u.map (wAt ws))
theorem behind_w (hS : Gd S) (p : PoolOk n ws) (h1 : 1 ≤ n) (h2 : n ≤ 5) {u : List Int} (hu : ∀ i ∈ u, 0 ≤ i ∧ i < (ws.length : Int)) (hl : u.length ≤ 100) (k : Q (.d (webD (behindL n ws u))) S) : WP (F__law_behind [.d (poolD n ws), .d (.fl (u.map D.int))] S) Q := by
  apply w__law_behind
  unfold b__law_behind
  trivial
  refine proQ ins_pool (wp_of (psize_ev hS) ?_)
  trivial
  refine silent_w hS h1 h2 ?_
  trivial
  refine ws_for D.int u (fun d ρ U => U = S ∧ ∃ v3, ρ = [some (.d (poolD n ws)), some (.d (.fl (u.map D.int))), some (.d (webD (behindL n ws d))), v3]) ?_ ?_ ?_
  · trivial
    exact ⟨rfl, rfl, none, rfl⟩
  · rintro d x r e ρ U ⟨rfl, v3, rfl⟩
    have hx := hu x (by rw [← e]; simp)
    have od := tog_ok h1 h2 (webs_ok p (u := d) fun i hi => hu i (by rw [← e]; simp [hi]))
    obtain ⟨_, w2, w3⟩ := wAt_ok p hx
    trivial
    refine methQ ins_web look_none2 ?_
    trivial
    refine wp_ixP hS p hx ?_
    trivial
    refine wp_of (then_ev hS od.1 w2 (w3.trans od.2.symm)) ?_
    have e3 : behindL n ws (d ++ [x]) = thenL (behindL n ws d) (wAt ws x) := by
      unfold behindL togL
      rw [List.map_append, List.foldl_append]
      rfl
    refine ⟨rfl, some (.d (.int x)), ?_⟩
    rw [e3]
    rfl
  · rintro ρ U ⟨rfl, v3, rfl⟩
    trivial
    exact wp_ret hS k
theorem behind_ok (p : PoolOk n ws) (h1 : 1 ≤ n) (h2 : n ≤ 5) {u : List Int} (hu : ∀ i ∈ u, 0 ≤ i ∧ i < (ws.length : Int)) : WebOk (behindL n ws u) ∧ (behindL n ws u).length = n := tog_ok h1 h2 (webs_ok p hu)
/-! ### behind n - 1 rounds all have heard of a house that is a root each time -/
open Classical in
theorem spread_all {z : Int} (hz : 0 ≤ z ∧ z < (n : Int)) : ∀ {vs : List Rows} {K : Int → Int → Prop}, WebsOk n vs → (∀ v ∈ vs, ∀ y : Int, 0 ≤ y ∧ y < (n : Int) → Rch v z y) → K z z →
    (∀ y : Int, 0 ≤ y ∧ y < (n : Int) → KnF K vs y z) ∨ (houses n).countP (fun x => decide (K x z)) + vs.length ≤ (houses n).countP (fun x => decide (KnF K vs x z))
  | [], K, _, _, _ => .inr (by simp only [List.length_nil, Nat.add_zero]; exact Nat.le_refl _)
  | v :: vs, K, hw, hr, hK => by
    have hK1 : stepK K v z z := ⟨z, .rfl', hK⟩
    have m : ∀ x, K x z → stepK K v x z := fun x hx => ⟨x, .rfl', hx⟩
    obtain ⟨w, hn⟩ := hw v List.mem_cons_self
    rcases spread_all hz (vs := vs) (K := stepK K v) (fun u hu => hw u (List.mem_cons_of_mem _ hu)) (fun u hu => hr u (List.mem_cons_of_mem _ hu)) hK1 with ih | ih
    · exact .inl ih
    · show (∀ y : Int, 0 ≤ y ∧ y < (n : Int) → KnF (stepK K v) vs y z) ∨ _ ≤ (houses n).countP (fun x => decide (KnF (stepK K v) vs x z))
      by_cases hc : ∀ x t, Hr v x t → K t z → K x z
      · refine .inl fun y hy => ?_
        have key : K y z := by
          have hx := hr v List.mem_cons_self y hy
          clear ih
          induction hx with
          | refl => exact hK
          | step _ h1 h2 ih => exact hc _ _ (.inr ⟨_, _, rfl, h1, h2⟩) (ih (by
              rcases (show Hr v _ _ from .inr ⟨_, _, rfl, h1, h2⟩ : Hr v _ _).rg w with e | q
              · rw [← e]; exact hy
              · rw [hn] at q; exact q.2))
        exact knF_mono (K := stepK K v) (m y key)
      · refine .inr ?_
        have : ∃ x t, Hr v x t ∧ K t z ∧ ¬ K x z := Classical.byContradiction fun hno => hc fun x t a b => Classical.byContradiction fun c => hno ⟨x, t, a, b, c⟩
        obtain ⟨x, t, a, b, c⟩ := this
        have hx : x ∈ houses n := by
          rcases a.rg w with rfl | q
          · exact absurd b c
          · rw [hn] at q; exact mem_houses.mpr q.1
        have s := count_lt (p := fun x => decide (K x z)) (q := fun x => decide (stepK K v x z)) (l := houses n) (fun x _ hx => by simpa using m x (by simpa using hx)) ⟨x, hx, by simpa using (show stepK K v x z from ⟨t, a, b⟩), by simpa using c⟩
        rw [List.length_cons]
        omega
theorem all_heard (h1 : 1 ≤ n) (h2 : n ≤ 5) {vs : List Rows} (hw : WebsOk n vs) (hl : n - 1 ≤ vs.length) {z : Int} (hz : 0 ≤ z ∧ z < (n : Int)) (hr : ∀ v ∈ vs, z ∈ rootsOf v) : z ∈ heraldsL (togL n vs) := by
  have o := tog_ok h1 h2 hw
  rw [mem_heralds, o.2]
  refine ⟨hz, fun x hx => ?_⟩
  rw [tog_hr h1 h2 hw]
  rcases spread_all hz (vs := vs) (K := (· = ·)) hw (fun v hv y hy => (mem_roots.mp (hr v hv)).2 y (by rw [(hw v hv).2]; exact hy)) rfl with a | a
  · exact a x hx
  · classical
    have one : 1 ≤ (houses n).countP (fun x => @decide (x = z) (Classical.propDecidable _)) := List.one_le_countP_iff.mpr ⟨z, mem_houses.mpr hz, by simp⟩
    have le := List.countP_le_length (p := fun x => @decide (KnF (· = ·) vs x z) (Classical.propDecidable _)) (l := houses n)
    rw [houses_len] at le
    have full : (houses n).countP (fun x => @decide (KnF (· = ·) vs x z) (Classical.propDecidable _)) = (houses n).length := by rw [houses_len]; omega
    have := List.countP_eq_length.mp full x (mem_houses.mpr hx)
    simpa using this
/-- .. and of none, where it is no root -/
theorem none_heard (w : WebOk h) (hn : h.length = n) {m : Nat} {z : Int} (hz : z ∈ heraldsL (togL n (List.replicate m h))) : z ∈ rootsOf h := by
  obtain ⟨h1, h2⟩ := w.bds hn
  have o := tog_ok h1 h2 (reps_ok w hn (m := m))
  rw [mem_heralds, o.2] at hz
  rw [mem_roots, hn]
  refine ⟨hz.1, fun y hy => ?_⟩
  have := hz.2 y hy
  rw [tog_hr h1 h2 (reps_ok w hn)] at this
  exact kn_rch this
end
end RSL
end

section
set_option maxRecDepth 100000
set_option maxHeartbeats 1000000
/-! Houses with other numbers. -/
namespace RSL
open PySem PySem.Spec RS
local macro_rules | `(tactic| trivial) => `(tactic| (repeat (first | ((with_reducible apply ws_seq); try dsimp only [List.set]) | ((with_reducible apply wp_var); exact rfl) | with_reducible apply wp_bin | with_reducible apply wp_k | with_reducible apply wp_cons | with_reducible apply wp_nil | with_reducible apply wp_bcall | with_reducible apply wp_call | ((with_reducible apply callQ); exact rfl) | with_reducible apply ws_set | with_reducible apply ws_ret | with_reducible apply ws_exp | with_reducible apply ws_if | with_reducible apply ws_nil | with_reducible apply wp_asB | with_reducible apply isB | with_reducible apply ifq_t | with_reducible apply ifq_f | with_reducible apply ifq_not | with_reducible apply ifq_x0 | with_reducible apply ifq_x1 | (with_reducible refine ifq_dt (by with_reducible assumption) ?_) | (with_reducible refine ifq_df (by with_reducible assumption) ?_) | ((with_reducible apply ifq_dt); exact rfl) | with_reducible apply wp_and | with_reducible apply wp_or | with_reducible apply wp_not | with_reducible apply wp_notV | with_reducible apply wp_andV | with_reducible apply wp_orV | with_reducible apply wp_ifV | with_reducible apply ws_par | with_reducible apply parQ | with_reducible apply ws_par3 | with_reducible apply par3Q | with_reducible apply wp_tupM | ((with_reducible apply tupQ); exact rfl; first | decide | (focus (simp; done)) | omega) | with_reducible apply wp_flM | with_reducible apply wp_pro | with_reducible apply wp_fld | with_reducible apply wp_una | with_reducible apply wp_make | with_reducible apply wp_meth | (with_reducible refine wp_ixWs (by with_reducible assumption) ?_) | (with_reducible refine webQ (by with_reducible assumption) (by with_reducible assumption) ?_) | (with_reducible refine wp_of (check_pool_ev (by with_reducible assumption)) ?_) | (with_reducible refine wp_lenP (by with_reducible assumption) (by with_reducible assumption) ?_) | (with_reducible refine wp_ixP (by with_reducible assumption) (by with_reducible assumption) (by with_reducible assumption) ?_) | with_reducible apply wp_mth | with_reducible apply wp_seqI | with_reducible apply wp_enumI | with_reducible apply wp_rng | with_reducible apply wp_zipI | with_reducible apply seqQt | with_reducible apply seqQf | with_reducible apply seqQl | with_reducible apply seqQr | with_reducible apply seqQh | with_reducible apply wp_star | with_reducible apply wp_tru | with_reducible apply wp_i0 | with_reducible apply wp_i1 | with_reducible apply wp_i2 | with_reducible apply wp_lenH | with_reducible apply wp_lenRr | with_reducible apply wp_lenI | with_reducible apply wp_lenWs | (with_reducible refine wp_ixH (by first | with_reducible assumption | omega) ?_) | with_reducible apply wp_eqR | with_reducible apply wp_eqL | with_reducible apply wp_eqN | with_reducible apply wp_inR | with_reducible apply wp_inI | with_reducible apply wp_add | with_reducible apply wp_sub | with_reducible apply wp_neg | with_reducible apply wp_int | with_reducible apply wp_intb | with_reducible apply wp_abs | with_reducible apply wp_two | with_reducible apply wp_lt | with_reducible apply wp_le | with_reducible apply wp_gt | with_reducible apply wp_ge | with_reducible apply wp_eqI | with_reducible apply wp_eqB | with_reducible apply wp_isN | with_reducible apply wp_chn | with_reducible apply wp_gset | with_reducible apply wp_gt2 | with_reducible apply wp_gt3 | with_reducible apply wp_gl2 | with_reducible apply ws_asg | (with_reducible refine wp_mod (by omega) ?_) | (with_reducible refine wp_fdivS (by omega) (by omega) ?_) | (with_reducible refine wp_mulS (by omega) (by omega) ?_) | ((with_reducible apply wp_s0); exact rfl) | ((with_reducible apply wp_s2); exact rfl) | (with_reducible refine wp_pow (by decide +kernel) ?_) | with_reducible apply wp_celC2 | with_reducible apply wp_celC | with_reducible apply wp_celM | ((with_reducible apply celQ); exact rfl; first | decide | (focus (simp; done)) | omega) | with_reducible apply wp_listCC | with_reducible apply wp_tupT | with_reducible apply wp_tupF | with_reducible apply wp_lenT | with_reducible apply wp_lenF | with_reducible apply wp_lenR )))
section
variable {S T P U : Store} {a b c N : Int} {Q : A → Store → Prop} {n : Nat} {ws : List Rows} {h g : Rows} {nu : List Int}
/-- the numbers 0 .. n - 1 in some order -/
def Ren (n : Nat) (nu : List Int) : Prop := nu.Perm (houses n)
def nuAt (nu : List Int) (x : Int) : Int := nu[x.toNat]?.getD 0
def ixN (nu : List Int) (x : Int) : Int := (nu.idxOf x : Nat)
theorem Ren.len (r : Ren n nu) : nu.length = n := by rw [r.length_eq, houses_len]
theorem Ren.mem (r : Ren n nu) {x : Int} : x ∈ nu ↔ 0 ≤ x ∧ x < (n : Int) := by rw [r.mem_iff, mem_houses]
theorem houses_nd : (houses n).Nodup := (houses_lt n).imp fun h e => by omega
theorem Ren.nd (r : Ren n nu) : nu.Nodup := r.nodup_iff.mpr houses_nd
theorem Ren.ix_rg (r : Ren n nu) {x : Int} (hx : 0 ≤ x ∧ x < (n : Int)) : 0 ≤ ixN nu x ∧ ixN nu x < (n : Int) := by
  have := List.idxOf_lt_length_of_mem (r.mem.mpr hx)
  rw [r.len] at this
  unfold ixN
  omega
theorem Ren.at_rg (r : Ren n nu) {x : Int} (hx : 0 ≤ x ∧ x < (n : Int)) : nu[x.toNat]? = some (nuAt nu x) ∧ 0 ≤ nuAt nu x ∧ nuAt nu x < (n : Int) := by
  have l := r.len
  have hk : x.toNat < nu.length := by omega
  unfold nuAt
  rw [List.getElem?_eq_getElem hk]
  exact ⟨rfl, r.mem.mp (List.getElem_mem hk)⟩
theorem Ren.at_ix (r : Ren n nu) {x : Int} (hx : 0 ≤ x ∧ x < (n : Int)) : nuAt nu (ixN nu x) = x := by
  have hk := List.idxOf_lt_length_of_mem (r.mem.mpr hx)
  unfold nuAt ixN
  rw [Int.toNat_natCast, List.getElem?_eq_getElem hk, List.getElem_idxOf hk]
  rfl
theorem Ren.ix_at (r : Ren n nu) {x : Int} (hx : 0 ≤ x ∧ x < (n : Int)) : ixN nu (nuAt nu x) = x := by
  have l := r.len
  have hk : x.toNat < nu.length := by omega
  have e : nuAt nu x = nu[x.toNat] := by unfold nuAt; rw [List.getElem?_eq_getElem hk]; rfl
  unfold ixN
  rw [e, r.nd.idxOf_getElem x.toNat hk]
  omega
def rowAt (h : Rows) (i : Int) : List Int := h[i.toNat]?.getD []
def renF (nu : List Int) (h : Rows) (x s : Int) : Bool := decide (ixN nu s ∈ rowAt h (ixN nu x))
def renL (nu : List Int) (h : Rows) : Rows := rowsB h.length (renF nu h)
theorem renL_len : (renL nu h).length = h.length := rowsB_len
theorem hr_row (w : WebOk h) {x y : Int} (hx : 0 ≤ x ∧ x < (h.length : Int)) : Hr h x y ↔ x = y ∨ y ∈ rowAt h x := by
  have hk : x.toNat < h.length := by omega
  unfold rowAt
  constructor
  · rintro (e | ⟨i, r, rfl, e, m⟩)
    · exact .inl e
    · right
      rw [Int.toNat_natCast, e]
      exact m
  · rintro (e | m)
    · exact .inl e
    · rw [List.getElem?_eq_getElem hk] at m
      exact .inr ⟨x.toNat, h[x.toNat], by omega, List.getElem?_eq_getElem hk, m⟩
theorem ren_hr (w : WebOk h) (r : Ren h.length nu) {x y : Int} (hx : 0 ≤ x ∧ x < (h.length : Int)) (hy : 0 ≤ y ∧ y < (h.length : Int)) : Hr (renL nu h) x y ↔ Hr h (ixN nu x) (ixN nu y) := by
  rw [hr_row w (r.ix_rg hx)]
  unfold renL
  rw [rowsB_hr]
  unfold renF
  rw [decide_eq_true_eq]
  constructor
  · rintro (e | ⟨_, _, m⟩)
    · exact .inl (by rw [e])
    · exact .inr m
  · rintro (e | m)
    · left
      rw [← r.at_ix hx, ← r.at_ix hy, e]
    · exact .inr ⟨hx, hy, m⟩
theorem ren_ok (w : WebOk h) : WebOk (renL nu h) := rowsB_ok w.lo w.hi
theorem ren_rch (w : WebOk h) (r : Ren h.length nu) {x y : Int} (hx : 0 ≤ x ∧ x < (h.length : Int)) : Rch (renL nu h) x y → Rch h (ixN nu x) (ixN nu y) := by
  intro q
  induction q with
  | refl => exact .refl
  | step q h1 h2 ih =>
    have hh : Hr (renL nu h) _ _ := .inr ⟨_, _, rfl, h1, h2⟩
    have rg := (hh.rg (ren_ok w))
    rw [renL_len] at rg
    rcases rg with e | ⟨g1, g2⟩
    · rw [e]; exact ih
    · exact ih.hr ((ren_hr w r g1 g2).mp hh)
theorem rch_ren (w : WebOk h) (r : Ren h.length nu) {x y : Int} (hx : 0 ≤ x ∧ x < (h.length : Int)) : Rch h x y → Rch (renL nu h) (nuAt nu x) (nuAt nu y) := by
  intro q
  induction q with
  | refl => exact .refl
  | step q h1 h2 ih =>
    have hh : Hr h _ _ := .inr ⟨_, _, rfl, h1, h2⟩
    rcases hh.rg w with e | ⟨g1, g2⟩
    · rw [e]; exact ih
    · refine ih.hr ((ren_hr w r (r.at_rg g1).2 (r.at_rg g2).2).mpr ?_)
      rw [r.ix_at g1, r.ix_at g2]
      exact hh
theorem ren_root (w : WebOk h) (r : Ren h.length nu) {x : Int} : x ∈ rootsOf (renL nu h) ↔ (0 ≤ x ∧ x < (h.length : Int)) ∧ ixN nu x ∈ rootsOf h := by
  rw [mem_roots, mem_roots, renL_len]
  constructor
  · rintro ⟨hx, all⟩
    refine ⟨hx, r.ix_rg hx, fun y hy => ?_⟩
    have := ren_rch w r hx (all (nuAt nu y) (r.at_rg hy).2)
    rwa [r.ix_at hy] at this
  · rintro ⟨hx, hi, all⟩
    refine ⟨hx, fun y hy => ?_⟩
    have := rch_ren w r hi (all (ixN nu y) (r.ix_rg hy))
    rwa [r.at_ix hx, r.at_ix hy] at this
theorem ren_roots (w : WebOk h) (r : Ren h.length nu) : rootsOf (renL nu h) = sortI ((rootsOf h).map (nuAt nu)) := by
  have rg : ∀ x ∈ rootsOf h, 0 ≤ x ∧ x < (h.length : Int) := fun x hx => (mem_roots.mp hx).1
  have nd : ((rootsOf h).map (nuAt nu)).Nodup := by
    rw [List.nodup_iff_pairwise_ne, List.pairwise_map]
    refine (roots_lt (h := h)).imp_of_mem fun {x y} hx hy l e => ?_
    have := congrArg (ixN nu) e
    rw [r.ix_at (rg x hx), r.ix_at (rg y hy)] at this
    omega
  have nd2 : (sortI ((rootsOf h).map (nuAt nu))).Nodup := (sortI_perm _).nodup_iff.mpr nd
  refine lt_unique roots_lt (((sortI_pw _).and nd2).imp fun ⟨a, b⟩ => by omega) fun x => ?_
  rw [ren_root w r, (sortI_perm _).mem_iff, List.mem_map]
  constructor
  · rintro ⟨hx, hi⟩
    exact ⟨ixN nu x, hi, r.at_ix hx⟩
  · rintro ⟨y, hy, rfl⟩
    exact ⟨(r.at_rg (rg y hy)).2, by rw [r.ix_at (rg y hy)]; exact hy⟩
theorem ren_inj (w : WebOk h) (v : WebOk g) (l : h.length = g.length) (r : Ren h.length nu) (e : renL nu h = renL nu g) : h = g := by
  have key : ∀ {a b : Rows}, WebOk a → WebOk b → a.length = b.length → Ren a.length nu → renL nu a = renL nu b → ∀ x y, Hr a x y → Hr b x y := by
    intro a b wa wb l r e x y q
    have rb : Ren b.length nu := l ▸ r
    rcases q.rg wa with e2 | ⟨g1, g2⟩
    · exact .inl e2
    · have h1 := (ren_hr wa r (r.at_rg g1).2 (r.at_rg g2).2).mpr (by rw [r.ix_at g1, r.ix_at g2]; exact q)
      rw [e] at h1
      have h2 := (ren_hr wb rb (by rw [← l]; exact (r.at_rg g1).2) (by rw [← l]; exact (r.at_rg g2).2)).mp h1
      rwa [r.ix_at g1, r.ix_at g2] at h2
  exact web_ext w v l fun x y => ⟨key w v l r e x y, key v w l.symm (l ▸ r) e.symm x y⟩
theorem ren_pool (p : PoolOk n ws) (r : Ren n nu) : PoolOk n (ws.map (renL nu)) := by
  refine ⟨by rw [List.length_map]; exact p.lo, by rw [List.length_map]; exact p.hi, fun w hw => ?_, ?_⟩
  · obtain ⟨v, hv, rfl⟩ := List.mem_map.mp hw
    exact ⟨ren_ok (p.web v hv).1, by rw [renL_len]; exact (p.web v hv).2⟩
  · rw [List.nodup_iff_pairwise_ne, List.pairwise_map]
    refine (List.nodup_iff_pairwise_ne.mp p.nd).imp_of_mem fun {x y} hx hy ne e => ne ?_
    exact ren_inj (p.web x hx).1 (p.web y hy).1 (by rw [(p.web x hx).2, (p.web y hy).2]) (by rw [(p.web x hx).2]; exact r) e
/-! ### the program's words -/
theorem wp_wk {f : M A} {ρ : RS.Env} (k : WP (f ρ S) fun a S1 => ∃ ds, a = .d (.tq ds) ∧ Q (.d (.tup ds)) S1) : WP (wk f ρ S) Q := by
  obtain ⟨_, S1, e, ds, rfl, q⟩ := k
  exact wp_of (x := .d (.tup ds)) (by unfold wk; rw [e]; rfl) q
theorem wp_sortT {r : List Int} (k : Q (.d (.fl ((sortI r).map D.int))) S) : WP (sortTP [.d (encR r)] S) Q := ⟨_, S, by simp [sortTP, encR, intsD_map, tupOf], k⟩
theorem wp_idx {fo fe : M A} {ρ : RS.Env} {x : Int} (k : WP (fo ρ S) fun a S1 => a = .d (.tq (nu.map D.int)) ∧ WP (fe ρ S1) fun b S2 => b = .d (.int x) ∧ x ∈ nu ∧ Q (.d (.int (ixN nu x))) S2) : WP (idxM fo fe ρ S) Q := by
  obtain ⟨_, S1, e1, rfl, _, S2, e2, rfl, hm, q⟩ := k
  refine wp_of (x := .d (.int (ixN nu x))) (S1 := S2) ?_ q
  unfold idxM
  rw [e1]
  show ((fe ρ S1).bind fun b S2 => idxQ (nu.map D.int) b S2) = _
  rw [e2]
  show idxQ (nu.map D.int) (.d (.int x)) S2 = _
  unfold idxQ
  simp only [intsD_map, if_pos hm]
  rfl
theorem wp_ixR {r : List Int} {x : Int} {y : Int} (h0 : 0 ≤ x) (e : r[x.toNat]? = some y) (k : Q (.d (.int y)) S) : WP (ixP (.d (encR r)) (.d (.int x)) S) Q := by
  refine wp_ixT (d := .int y) ?_ k
  have e2 := at_nat (r.map D.int) x.toNat
  have e3 : ((x.toNat : Nat) : Int) = x := by omega
  rw [e3] at e2
  rw [e2, List.getElem?_map, e]
  rfl
theorem wp_rgF {m : Nat} (hm : m ≤ 1000) (k : Q (.d (.fl ((houses m).map D.int))) S) : WP (rgTP false (.d (.int (m : Nat))) S) Q := by
  refine wp_of (x := .d (.fl ((houses m).map D.int))) ?_ k
  unfold rgTP
  have e : (0 : Int) ≤ (m : Nat) ∧ ((m : Nat) : Int) ≤ 1000000 := by omega
  simp only [if_pos e]
  rw [Int.toNat_natCast, rngD_houses]
  rfl
theorem order_w (hS : Gd S) {m : Nat} (hm : m ≤ 100) (r : Ren m nu) (k : Q (.d (.bl true)) S) : WP (F_is_order [.d (encR nu), .d (.int (m : Nat))] S) Q := by
  have l := r.len
  apply w_is_order
  unfold b_is_order
  trivial
  refine wp_of (is_index_tuple_ev hS (fun x hx => r.mem.mp hx) (by omega) (by omega)) ?_
  trivial
  refine wp_sortT ?_
  trivial
  have e : sortI nu = houses m := lt_unique (((sortI_pw nu).and ((sortI_perm nu).nodup_iff.mpr r.nd)).imp fun ⟨a, b⟩ => by omega) (houses_lt m) fun x => by
    rw [(sortI_perm nu).mem_iff]
    exact r.mem_iff
  rw [e]
  refine wp_rgF (by omega) ?_
  refine wp_eqL ?_
  rw [dect rfl]
  exact wp_ret hS k
end
end RSL
end

section
set_option maxRecDepth 100000
set_option maxHeartbeats 1000000
/-! Webs and pools with other numbers, in another order. -/
namespace RSL
open PySem PySem.Spec RS
local macro_rules | `(tactic| trivial) => `(tactic| (repeat (first | ((with_reducible apply ws_seq); try dsimp only [List.set]) | ((with_reducible apply wp_var); exact rfl) | with_reducible apply wp_bin | with_reducible apply wp_k | with_reducible apply wp_cons | with_reducible apply wp_nil | with_reducible apply wp_bcall | with_reducible apply wp_call | ((with_reducible apply callQ); exact rfl) | with_reducible apply ws_set | with_reducible apply ws_ret | with_reducible apply ws_exp | with_reducible apply ws_if | with_reducible apply ws_nil | with_reducible apply wp_asB | with_reducible apply isB | with_reducible apply ifq_t | with_reducible apply ifq_f | with_reducible apply ifq_not | with_reducible apply ifq_x0 | with_reducible apply ifq_x1 | (with_reducible refine ifq_dt (by with_reducible assumption) ?_) | (with_reducible refine ifq_df (by with_reducible assumption) ?_) | ((with_reducible apply ifq_dt); exact rfl) | with_reducible apply wp_and | with_reducible apply wp_or | with_reducible apply wp_not | with_reducible apply wp_notV | with_reducible apply wp_andV | with_reducible apply wp_orV | with_reducible apply wp_ifV | with_reducible apply ws_par | with_reducible apply parQ | with_reducible apply ws_par3 | with_reducible apply par3Q | with_reducible apply wp_tupM | ((with_reducible apply tupQ); exact rfl; first | decide | (focus (simp; done)) | omega) | with_reducible apply wp_flM | with_reducible apply wp_pro | with_reducible apply wp_fld | with_reducible apply wp_una | with_reducible apply wp_make | with_reducible apply wp_meth | (with_reducible refine wp_ixWs (by with_reducible assumption) ?_) | (with_reducible refine webQ (by with_reducible assumption) (by with_reducible assumption) ?_) | (with_reducible refine wp_of (check_pool_ev (by with_reducible assumption)) ?_) | (with_reducible refine wp_lenP (by with_reducible assumption) (by with_reducible assumption) ?_) | (with_reducible refine wp_ixP (by with_reducible assumption) (by with_reducible assumption) (by with_reducible assumption) ?_) | with_reducible apply wp_mth | with_reducible apply wp_seqI | with_reducible apply wp_enumI | with_reducible apply wp_rng | with_reducible apply wp_zipI | with_reducible apply seqQt | with_reducible apply seqQf | with_reducible apply seqQl | with_reducible apply seqQr | with_reducible apply seqQh | with_reducible apply wp_star | with_reducible apply wp_tru | with_reducible apply wp_i0 | with_reducible apply wp_i1 | with_reducible apply wp_i2 | with_reducible apply wp_lenH | with_reducible apply wp_lenRr | with_reducible apply wp_lenI | with_reducible apply wp_lenWs | (with_reducible refine wp_ixH (by first | with_reducible assumption | omega) ?_) | with_reducible apply wp_eqR | with_reducible apply wp_eqL | with_reducible apply wp_eqN | with_reducible apply wp_inR | with_reducible apply wp_inI | with_reducible apply wp_add | with_reducible apply wp_sub | with_reducible apply wp_neg | with_reducible apply wp_int | with_reducible apply wp_intb | with_reducible apply wp_abs | with_reducible apply wp_two | with_reducible apply wp_lt | with_reducible apply wp_le | with_reducible apply wp_gt | with_reducible apply wp_ge | with_reducible apply wp_eqI | with_reducible apply wp_eqB | with_reducible apply wp_isN | with_reducible apply wp_chn | with_reducible apply wp_gset | with_reducible apply wp_gt2 | with_reducible apply wp_gt3 | with_reducible apply wp_gl2 | with_reducible apply ws_asg | (with_reducible refine wp_mod (by omega) ?_) | (with_reducible refine wp_fdivS (by omega) (by omega) ?_) | (with_reducible refine wp_mulS (by omega) (by omega) ?_) | ((with_reducible apply wp_s0); exact rfl) | ((with_reducible apply wp_s2); exact rfl) | (with_reducible refine wp_pow (by decide +kernel) ?_) | with_reducible apply wp_celC2 | with_reducible apply wp_celC | with_reducible apply wp_celM | ((with_reducible apply celQ); exact rfl; first | decide | (focus (simp; done)) | omega) | with_reducible apply wp_listCC | with_reducible apply wp_tupT | with_reducible apply wp_tupF | with_reducible apply wp_lenT | with_reducible apply wp_lenF | with_reducible apply wp_lenR )))
section
variable {S T P U : Store} {a b c N : Int} {Q : A → Store → Prop} {n : Nat} {ws : List Rows} {h g : Rows} {nu : List Int}
def tqD (nu : List Int) : D := .tq (nu.map D.int)
theorem lam1_ev {U : Store} (gU : Gd U) (w : WebOk h) (r : Ren h.length nu) {x y : Int} (hx : 0 ≤ x ∧ x < (h.length : Int)) (hy : 0 ≤ y ∧ y < (h.length : Int)) : LF 1 [tqD nu, encH h] [.d (.int x), .d (.int y)] U = .ok (.d (.bl (renF nu h x y))) U := by
  have z : bl_lam1 [some (.d (.int x)), some (.d (.int y)), some (.d (tqD nu)), some (.d (encH h))] U = .ok (.d (.bl (renF nu h x y))) U := by
    refine wp_eq ?_
    unfold bl_lam1
    trivial
    refine wp_idx (nu := nu) (x := y) ?_
    trivial
    refine ⟨rfl, ?_⟩
    trivial
    refine ⟨rfl, r.mem.mpr hy, ?_⟩
    trivial
    refine wp_idx (nu := nu) (x := x) ?_
    trivial
    refine ⟨rfl, ?_⟩
    trivial
    refine ⟨rfl, r.mem.mpr hx, ?_⟩
    refine wp_ixH (r.ix_rg hx) ?_
    refine wp_inR ?_
    exact ⟨by rw [Bool.xor_false]; rfl, rfl⟩
  show (bl_lam1 [some (.d (.int x)), some (.d (.int y)), some (.d (tqD nu)), some (.d (encH h))] U).bind (retA false U.length) = _
  rw [z]
  exact ret_d (keep := false) gU
theorem ren_w (hS : Gd S) (w : WebOk h) (r : Ren h.length nu) (k : Q (.d (webD (renL nu h))) S) : WP (F_Web_renumbered [.d (webD h), .d (tqD nu)] S) Q := by
  have hi := w.hi
  apply w_Web_renumbered
  unfold b_Web_renumbered
  trivial
  refine wp_wk ?_
  trivial
  refine ⟨_, rfl, ?_⟩
  trivial
  refine fldQ ins_web look_size ?_
  trivial
  refine order_w hS (by omega) r ?_
  trivial
  refine fldQ ins_web look_heard ?_
  trivial
  refine wp_callC rfl ?_
  trivial
  refine fldQ ins_web look_size ?_
  refine ⟨_, rfl, ?_⟩
  refine where_w hS w.lo w.hi (renF nu h) (by decide) (fun x y hx hy U gU => lam1_ev gU w r hx hy) ?_
  exact ⟨_, rfl, hS, wp_ret hS k⟩
theorem look_ren : (wos h).lookup ("renumbered" : Str) = none := by rfl
theorem look_chosen : (pos n ws).lookup ("_chosen" : Str) = none := by rfl
theorem look_reord : (pos n ws).lookup ("reordered" : Str) = none := by rfl
theorem look_pren : (pos n ws).lookup ("renumbered" : Str) = none := by rfl
theorem look_proots : (pos n ws).lookup ("_roots" : Str) = some (.d (.tup (ws.map fun w => encR (rootsOf w)))) := by rfl
theorem look_always : (pos n ws).lookup ("_always" : Str) = some (.d (encR (alwaysOf n ws))) := by rfl
theorem roots_D : D.tup (ws.map fun w => encR (rootsOf w)) = encH (ws.map rootsOf) := by
  unfold encH
  rw [List.map_map]
  rfl
theorem proots_w (hS : Gd S) (k : Q (.d (encH (ws.map rootsOf))) S) : WP (F_Pool_roots [.d (poolD n ws)] S) Q := by
  apply w_Pool_roots
  unfold b_Pool_roots
  trivial
  refine fldQ ins_pool look_proots ?_
  rw [roots_D]
  exact wp_ret hS k
theorem palways_w (hS : Gd S) (k : Q (.d (encR (alwaysOf n ws))) S) : WP (F_Pool_always [.d (poolD n ws)] S) Q := by
  apply w_Pool_always
  unfold b_Pool_always
  trivial
  refine fldQ ins_pool look_always ?_
  exact wp_ret hS k
theorem pren_w (hS : Gd S) (p : PoolOk n ws) (hn : n ≤ 5) (r : Ren n nu) (k : Q (.d (poolD n (ws.map (renL nu)))) S) : WP (F_Pool_renumbered [.d (poolD n ws), .d (tqD nu)] S) Q := by
  have hi := p.hi
  apply w_Pool_renumbered
  unfold b_Pool_renumbered
  trivial
  refine wp_map ws webD (fun w => webD (renL nu w)) ?_ (by omega) (fun w hw => ⟨_, rfl, ?_⟩) ?_
  · trivial
    refine fldQ ins_pool look_webs ?_
    trivial
    exact ⟨rfl, rfl⟩
  · obtain ⟨wk, wl⟩ := p.web w hw
    trivial
    refine methQ ins_web look_ren ?_
    trivial
    refine ren_w hS wk (by rw [wl]; exact r) ?_
    exact ⟨rfl, rfl⟩
  trivial
  have e : ws.map (fun w => webD (renL nu w)) = (ws.map (renL nu)).map webD := by rw [List.map_map]; rfl
  rw [e]
  refine wp_of (make_pool hS (ren_pool p r) hn rfl) ?_
  exact wp_ret hS k
theorem chosen_pool (p : PoolOk n ws) {u : List Int} (r : Ren ws.length u) : PoolOk n (u.map (wAt ws)) := by
  refine ⟨by rw [List.length_map, r.len]; exact p.lo, by rw [List.length_map, r.len]; exact p.hi, fun w hw => ?_, ?_⟩
  · obtain ⟨i, hi, rfl⟩ := List.mem_map.mp hw
    exact (wAt_ok p (r.mem.mp hi)).2
  · rw [List.nodup_iff_pairwise_ne, List.pairwise_map]
    refine (List.nodup_iff_pairwise_ne.mp r.nd).imp_of_mem fun {x y} hx hy ne e => ne ?_
    have ex := (wAt_ok p (r.mem.mp hx)).1
    have ey := (wAt_ok p (r.mem.mp hy)).1
    rw [e] at ex
    have gx := r.mem.mp hx
    have gy := r.mem.mp hy
    have := (List.getElem?_inj (by omega) p.nd).mp (ex.trans ey.symm)
    omega
theorem at_webs (p : PoolOk n ws) {i : Int} (hi : 0 ≤ i ∧ i < ws.length) {α : Type} (f : Rows → α) : L2.atI (ws.map f) i = some (f (wAt ws i)) := by
  have e := at_nat (ws.map f) i.toNat
  have e2 : ((i.toNat : Nat) : Int) = i := by omega
  rw [e2] at e
  rw [e, List.getElem?_map, (wAt_ok p hi).1]
  rfl
theorem reord_w (hS : Gd S) (p : PoolOk n ws) (hn : n ≤ 5) {u : List Int} (r : Ren ws.length u) (k : Q (.d (poolD n (u.map (wAt ws)))) S) : WP (F_Pool_reordered [.d (poolD n ws), .d (encR u)] S) Q := by
  have hi := p.hi
  have ul := r.len
  apply w_Pool_reordered
  unfold b_Pool_reordered
  trivial
  refine fldQ ins_pool look_webs ?_
  trivial
  rw [List.length_map]
  refine order_w hS (by omega) r ?_
  trivial
  refine methQ ins_pool look_chosen ?_
  trivial
  apply w_Pool__chosen
  unfold b_Pool__chosen
  trivial
  refine wp_map u D.int (fun i => webD (wAt ws i)) ?_ (by omega) (fun i hi => ⟨_, rfl, ?_⟩) ?_
  · trivial
    exact ⟨rfl, rfl⟩
  · trivial
    refine fldQ ins_pool look_webs ?_
    trivial
    refine wp_ixT (at_webs p (r.mem.mp hi) webD) ?_
    exact ⟨rfl, rfl⟩
  trivial
  have e : u.map (fun i => webD (wAt ws i)) = (u.map (wAt ws)).map webD := by rw [List.map_map]; rfl
  rw [e]
  refine wp_of (make_pool hS (chosen_pool p r) hn rfl) ?_
  refine wp_ret hS ?_
  exact wp_ret hS k
theorem wp_own {cn fl : Str} {f : M A} {ρ : RS.Env} {Ql : List D → Store → Prop} (k : WP (f ρ S) fun a S1 => ∃ ds, fldT cn fl S1 a = some ds ∧ Ql ds S1) : WP (ownI cn fl f ρ S) Ql := by
  obtain ⟨x, S1, e, ds, e2, q⟩ := k
  exact wp_of (x := ds) (by unfold ownI; rw [e]; simp only [RS.R.bind, e2]) q
theorem own_pool : fldT "Pool" "_webs" S (.d (poolD n ws)) = some (ws.map webD) := by
  simp only [fldT, ins_pool, look_webs]
theorem mem_always {x : Int} : x ∈ alwaysOf n ws ↔ (0 ≤ x ∧ x < (n : Int)) ∧ ∀ w ∈ ws, x ∈ rootsOf w := by
  unfold alwaysOf
  rw [List.mem_filter, mem_houses, List.all_eq_true]
  constructor
  · rintro ⟨a, b⟩
    refine ⟨a, fun w hw => ?_⟩
    have := b _ (List.mem_map.mpr ⟨w, hw, rfl⟩)
    exact of_decide_eq_true this
  · rintro ⟨a, b⟩
    refine ⟨a, fun t ht => ?_⟩
    obtain ⟨w, hw, rfl⟩ := List.mem_map.mp ht
    exact decide_eq_true (b w hw)
theorem flat_one {α : Type} (d : α) : ∀ k : Nat, (List.replicate k [d]).flatten = List.replicate k d
  | 0 => rfl
  | k + 1 => by rw [List.replicate_succ, List.flatten_cons, flat_one d k, List.replicate_succ]; rfl
theorem wp_rep {d : D} {k : Nat} (h : k ≤ 1000) (q : Q (.d (.fl (List.replicate k d))) S) : WP (repP (.d (.fl [d])) (.d (.int (k : Nat))) S) Q := by
  refine wp_of (x := .d (.fl (List.replicate k d))) ?_ q
  have e1 : -(2 ^ 63) ≤ ((k : Nat) : Int) ∧ ((k : Nat) : Int) < 2 ^ 63 ∧ [d].length * ((k : Nat) : Int).toNat ≤ sizeLine := ⟨by omega, by omega, by
    rw [Int.toNat_natCast]
    simp only [List.length_singleton, Nat.one_mul]
    exact sz h⟩
  simp only [repP, lsT]
  rw [if_pos e1, Int.toNat_natCast, flat_one]
theorem wp_sl0F {f gg : M A} {ρ : RS.Env} (k : WP (f ρ S) fun a S1 => ∃ ds, a = .d (.fl ds) ∧ WP (gg ρ S1) fun b S2 => ∃ i : Nat, b = .d (.int (i : Nat)) ∧ Q (.d (.fl (ds.take i))) S2) : WP (slM f oNone (oSome gg) ρ S) Q := by
  obtain ⟨_, S1, e1, ds, rfl, _, S2, e2, i, rfl, q⟩ := k
  refine wp_of (x := .d (.fl (ds.take i))) ?_ q
  simp only [slM, e1, RS.R.bind, oNone, oSome, e2, slP, lstOf, cut_to]
end
end RSL
end

section
set_option maxRecDepth 100000
set_option maxHeartbeats 1000000
/-! What the law asks of a drawn pool; the law. -/
namespace RSL
open PySem PySem.Spec RS
local macro_rules | `(tactic| trivial) => `(tactic| (repeat (first | ((with_reducible apply ws_seq); try dsimp only [List.set]) | ((with_reducible apply wp_var); exact rfl) | with_reducible apply wp_bin | with_reducible apply wp_k | with_reducible apply wp_cons | with_reducible apply wp_nil | with_reducible apply wp_bcall | with_reducible apply wp_call | ((with_reducible apply callQ); exact rfl) | with_reducible apply ws_set | with_reducible apply ws_ret | with_reducible apply ws_exp | with_reducible apply ws_if | with_reducible apply ws_nil | with_reducible apply wp_asB | with_reducible apply isB | with_reducible apply ifq_t | with_reducible apply ifq_f | with_reducible apply ifq_not | with_reducible apply ifq_x0 | with_reducible apply ifq_x1 | (with_reducible refine ifq_dt (by with_reducible assumption) ?_) | (with_reducible refine ifq_df (by with_reducible assumption) ?_) | ((with_reducible apply ifq_dt); exact rfl) | with_reducible apply wp_and | with_reducible apply wp_or | with_reducible apply wp_not | with_reducible apply wp_notV | with_reducible apply wp_andV | with_reducible apply wp_orV | with_reducible apply wp_ifV | with_reducible apply ws_par | with_reducible apply parQ | with_reducible apply ws_par3 | with_reducible apply par3Q | with_reducible apply wp_tupM | ((with_reducible apply tupQ); exact rfl; first | decide | (focus (simp; done)) | omega) | with_reducible apply wp_flM | with_reducible apply wp_pro | with_reducible apply wp_fld | with_reducible apply wp_una | with_reducible apply wp_make | with_reducible apply wp_meth | (with_reducible refine wp_ixWs (by with_reducible assumption) ?_) | (with_reducible refine webQ (by with_reducible assumption) (by with_reducible assumption) ?_) | (with_reducible refine wp_of (check_pool_ev (by with_reducible assumption)) ?_) | (with_reducible refine wp_lenP (by with_reducible assumption) (by with_reducible assumption) ?_) | (with_reducible refine wp_ixP (by with_reducible assumption) (by with_reducible assumption) (by with_reducible assumption) ?_) | with_reducible apply wp_mth | with_reducible apply wp_seqI | with_reducible apply wp_enumI | with_reducible apply wp_rng | with_reducible apply wp_zipI | with_reducible apply seqQt | with_reducible apply seqQf | with_reducible apply seqQl | with_reducible apply seqQr | with_reducible apply seqQh | with_reducible apply wp_star | with_reducible apply wp_tru | with_reducible apply wp_i0 | with_reducible apply wp_i1 | with_reducible apply wp_i2 | with_reducible apply wp_lenH | with_reducible apply wp_lenRr | with_reducible apply wp_lenI | with_reducible apply wp_lenWs | (with_reducible refine wp_ixH (by first | with_reducible assumption | omega) ?_) | with_reducible apply wp_eqR | with_reducible apply wp_eqL | with_reducible apply wp_eqN | with_reducible apply wp_inR | with_reducible apply wp_inI | with_reducible apply wp_add | with_reducible apply wp_sub | with_reducible apply wp_neg | with_reducible apply wp_int | with_reducible apply wp_intb | with_reducible apply wp_abs | with_reducible apply wp_two | with_reducible apply wp_lt | with_reducible apply wp_le | with_reducible apply wp_gt | with_reducible apply wp_ge | with_reducible apply wp_eqI | with_reducible apply wp_eqB | with_reducible apply wp_isN | with_reducible apply wp_chn | with_reducible apply wp_gset | with_reducible apply wp_gt2 | with_reducible apply wp_gt3 | with_reducible apply wp_gl2 | with_reducible apply ws_asg | (with_reducible refine wp_mod (by omega) ?_) | (with_reducible refine wp_fdivS (by omega) (by omega) ?_) | (with_reducible refine wp_mulS (by omega) (by omega) ?_) | ((with_reducible apply wp_s0); exact rfl) | ((with_reducible apply wp_s2); exact rfl) | (with_reducible refine wp_pow (by decide +kernel) ?_) | with_reducible apply wp_celC2 | with_reducible apply wp_celC | with_reducible apply wp_celM | ((with_reducible apply celQ); exact rfl; first | decide | (focus (simp; done)) | omega) | with_reducible apply wp_listCC | with_reducible apply wp_tupT | with_reducible apply wp_tupF | with_reducible apply wp_lenT | with_reducible apply wp_lenF | with_reducible apply wp_lenR )))
section
variable {S T P U : Store} {a b c N : Int} {Q : A → Store → Prop} {n : Nat} {ws : List Rows} {h g : Rows} {nu : List Int}
theorem ltn : LT [] := fun o ho => by cases ho
noncomputable def rgEn (p n : Nat) (ws : List Rows) (v3 v4 v5 v6 v7 v8 v9 v10 v11 v12 v13 v14 : Option A) : RS.Env :=
  [some (.ref p), some (.d (.int (n : Nat))), some (.d (poolD n ws)), v3, v4, v5, v6, v7, v8, v9, v10, v11, v12, v13, v14]
def RgInv (P : Store) (N : Int) (n : Nat) (ws : List Rows) (ρ : RS.Env) (S : Store) : Prop :=
  ∃ v3 v4 v5 v6 v7 v8 v9 v10 v11 v12 v13 v14 a b c, ρ = rgEn P.length n ws v3 v4 v5 v6 v7 v8 v9 v10 v11 v12 v13 v14 ∧ S = C3 P a b c [] ∧ Pok N b c
theorem perm_all {xs ys left : List Int} (p : (ys ++ left).Perm xs) (e : ys.length = xs.length) : ys.Perm xs := by
  have l := p.length_eq
  rw [List.length_append] at l
  have : left = [] := List.eq_nil_of_length_eq_zero (by omega)
  subst this
  simpa using p
theorem right_w (hP : LT P) (hc : Pok N b c) (hN : N ≤ 900000) (k : ∀ a' b' c', Pok (N + 40000) b' c' → Q (.d (.bl true)) (C3 P a' b' c' [])) : WP (F__law_right [.ref P.length] (C3 P a b c [])) Q := by
  apply w__law_right
  unfold b__law_right
  trivial
  refine scoop_w hP ltn hc (by omega) (by omega) fun a b c y o y0 y1 => ?_
  trivial
  obtain ⟨n, hn⟩ : ∃ n : Nat, 1 + y = (n : Nat) := ⟨(1 + y).toNat, by omega⟩
  rw [hn]
  refine pool_w hP ltn o (by omega) (by omega) (by omega) (by omega) fun a b c ws o p => ?_
  have lo := p.lo
  have hi8 := p.hi
  have h1 : 1 ≤ n := by omega
  have h5 : n ≤ 5 := by omega
  have gd : ∀ a b c, Gd (C3 P a b c []) := fun a b c => LT.c3 ltn hP
  trivial
  refine poolof_w (gd _ _ _) p h5 ?_
  trivial
  refine ws_for D.int (houses 6) (fun d ρ S => RgInv P (N + 30001 + 10 * d.length) n ws ρ S) ?_ ?_ ?_
  · trivial
    exact rngH (m := 6) rfl (by decide) ⟨rfl, none, none, none, none, none, none, none, none, none, none, none, none, a, b, c, rfl, rfl, o.mono (by simp; omega)⟩
  · rintro d x r e ρ S ⟨v3, v4, v5, v6, v7, v8, v9, v10, v11, v12, v13, v14, a, b, c, rfl, rfl, o⟩
    have hd : d.length < 6 := (at_done e).2
    have en : ((n : Nat) : Int) - 1 = ((n - 1 : Nat) : Int) := by omega
    unfold rgEn
    trivial
    refine wp_draw (a := a) (houses (n - 1)) D.int (fun _ d => ∃ y : Int, d = .int y ∧ 0 ≤ y ∧ y < (ws.length : Nat)) 1 (10 ^ 9) (by omega) o (by rw [houses_len]; omega) (by rw [houses_len]; omega) ?_ (fun y hy a b c M hc hM => ⟨_, rfl, ?_⟩) ?_
    · rw [houses_ints]
      exact ev_rng (ev_bin (ev_var rfl) ev_k (by rw [← en]; exact sub_ev)) (by omega)
    · refine wp_okk ?_
      trivial
      refine wp_lenP (gd _ _ _) p ?_
      trivial
      refine scoop_w hP ltn hc (by omega) (by omega) fun a b c z o z0 z1 => ?_
      exact ⟨_, a, b, c, rfl, rfl, o, z, rfl, z0, z1⟩
    · intro ps a b c o sub ok sm
      have len : ps.length = n - 1 := by
        have := congrArg List.length (sm fun _ _ => rfl)
        rw [List.length_map, houses_len] at this
        exact this
      obtain ⟨u, f1, f2, f3⟩ : ∃ l : List Int, ps.map Prod.snd = l.map D.int ∧ l.length = ps.length ∧ ∀ x ∈ l, 0 ≤ x ∧ x < (ws.length : Int) := by
        clear sub o sm len
        induction ps with
        | nil => exact ⟨[], rfl, rfl, (fun _ z => nomatch z)⟩
        | cons p ps ih =>
          obtain ⟨l, f1, f2, f3⟩ := ih fun q hq => ok q (List.mem_cons_of_mem _ hq)
          obtain ⟨y, ey, k⟩ := ok p List.mem_cons_self
          refine ⟨y :: l, by rw [List.map_cons, List.map_cons, f1, ey], by rw [List.length_cons, List.length_cons, f2], fun q hq => ?_⟩
          rcases List.mem_cons.mp hq with rfl | hq
          · exact k
          · exact f3 q hq
      rw [houses_len] at o
      rw [f1]
      have bo := behind_ok p h1 h5 f3
      trivial
      refine wp_comp (alwaysOf n ws) D.int (fun _ => false) D.int ?_ ?_ (fun z hz => ⟨_, rfl, ?_, fun _ => ?_⟩) ?_
      · trivial
        refine proQ ins_pool ?_
        refine palways_w (gd _ _ _) ?_
        trivial
        exact ⟨rfl, rfl⟩
      · exact Nat.le_trans (List.length_filter_le _ _) (by rw [houses_len]; omega)
      · obtain ⟨rz, az⟩ := mem_always.mp hz
        trivial
        refine behind_w (gd _ _ _) p h1 h5 f3 (by omega) ?_
        trivial
        refine wp_of (heralds_ev (gd _ _ _) bo.1) ?_
        refine wp_inI ?_
        trivial
        have hm : z ∈ heraldsL (behindL n ws u) := all_heard h1 h5 (webs_ok p f3) (by rw [List.length_map]; omega) rz fun v hv => by
          obtain ⟨i, hi, rfl⟩ := List.mem_map.mp hv
          exact az _ (List.mem_of_getElem? (wAt_ok p (f3 i hi)).1)
        exact ⟨dect1 hm, rfl⟩
      · trivial
        exact ⟨rfl, rfl⟩
      rw [filter_ff]
      trivial
      exact ⟨_, _, _, _, _, _, _, _, _, _, _, _, a, b, c, rfl, rfl, o.mono (by simp; omega)⟩
  · rintro ρ S ⟨v3, v4, v5, v6, v7, v8, v9, v10, v11, v12, v13, v14, a, b, c, rfl, rfl, o⟩
    rw [houses_len] at o
    unfold rgEn
    trivial
    refine ws_for D.int (houses n) (fun d ρ S => RgInv P (N + 30061) n ws ρ S) ?_ ?_ ?_
    · trivial
      exact rngH rfl (by omega) ⟨rfl, _, _, _, _, _, _, _, _, _, _, _, _, a, b, c, rfl, rfl, o.mono (by omega)⟩
    · rintro d x r e ρ S ⟨v3, v4, v5, v6, v7, v8, v9, v10, v11, v12, v13, v14, a, b, c, rfl, rfl, o⟩
      have gx := mem_houses.mp (by rw [← e]; simp : x ∈ houses n)
      unfold rgEn
      trivial
      refine proQ ins_pool ?_
      refine palways_w (gd _ _ _) ?_
      refine wp_inR ?_
      trivial
      apply ifq_d
      · intro hx
        trivial
        exact ⟨_, _, _, _, _, _, _, _, _, _, _, _, a, b, c, rfl, rfl, o⟩
      · intro hx
        trivial
        refine wp_comp (houses ws.length) D.int (fun i => !decide (x ∈ rootsOf (wAt ws i))) D.int ?_ (by rw [houses_len]; omega) (fun i hi => ⟨_, rfl, ?_, fun _ => ?_⟩) ?_
        · trivial
          refine wp_lenP (gd _ _ _) p ?_
          trivial
          exact rngH rfl (by omega) ⟨rfl, rfl⟩
        · trivial
          refine proQ ins_pool ?_
          refine proots_w (gd _ _ _) ?_
          trivial
          refine wp_ixT (d := encR (rootsOf (wAt ws i))) ?_ ?_
          · rw [List.map_map]
            exact at_webs p (mem_houses.mp hi) (fun w => encR (rootsOf w))
          refine wp_inR ?_
          trivial
          exact ⟨Bool.xor_true _, rfl⟩
        · trivial
          exact ⟨rfl, rfl⟩
        obtain ⟨k0, kr, ek, gk, nk⟩ : ∃ k0 kr, (houses ws.length).filter (fun i => !decide (x ∈ rootsOf (wAt ws i))) = k0 :: kr ∧ (0 ≤ k0 ∧ k0 < (ws.length : Int)) ∧ x ∉ rootsOf (wAt ws k0) := by
          cases ef : (houses ws.length).filter (fun i => !decide (x ∈ rootsOf (wAt ws i))) with
          | nil =>
            refine absurd (mem_always.mpr ⟨gx, fun w hw => ?_⟩) hx
            obtain ⟨i, hi, e2⟩ := List.getElem_of_mem hw
            have := List.filter_eq_nil_iff.mp ef (i : Int) (mem_houses.mpr (by omega))
            have e3 : wAt ws (i : Int) = w := by
              unfold wAt
              rw [Int.toNat_natCast, List.getElem?_eq_getElem hi, e2]
              rfl
            rw [e3] at this
            simpa using this
          | cons k0 kr =>
            have m : k0 ∈ (houses ws.length).filter (fun i => !decide (x ∈ rootsOf (wAt ws i))) := by rw [ef]; exact List.mem_cons_self
            obtain ⟨m1, m2⟩ := List.mem_filter.mp m
            exact ⟨k0, kr, rfl, mem_houses.mp m1, by simpa using m2⟩
        rw [ek]
        obtain ⟨_, w2, w3⟩ := wAt_ok p gk
        have f3 : ∀ i ∈ List.replicate 9 k0, 0 ≤ i ∧ i < (ws.length : Int) := fun i hi => by rw [List.eq_of_mem_replicate hi]; exact gk
        have bo := behind_ok p h1 h5 f3
        trivial
        refine ifq_df (by simp) ?_
        trivial
        refine wp_sl0F ?_
        trivial
        refine ⟨_, rfl, ?_⟩
        trivial
        refine ⟨1, rfl, ?_⟩
        trivial
        refine wp_rep (d := .int k0) (k := 9) (by omega) ?_
        rw [show List.replicate 9 (D.int k0) = (List.replicate 9 k0).map D.int by simp]
        trivial
        refine behind_w (gd _ _ _) p h1 h5 f3 (by simp) ?_
        trivial
        refine wp_of (heralds_ev (gd _ _ _) bo.1) ?_
        refine wp_inI ?_
        have hno : x ∉ heraldsL (behindL n ws (List.replicate 9 k0)) := fun hm => by
          refine nk (none_heard (m := 9) w2 w3 ?_)
          unfold behindL at hm
          rwa [List.map_replicate] at hm
        rw [decf hno]
        trivial
        exact ⟨_, _, _, _, _, _, _, _, _, _, _, _, a, b, c, rfl, rfl, o⟩
    · rintro ρ S ⟨v3, v4, v5, v6, v7, v8, v9, v10, v11, v12, v13, v14, a, b, c, rfl, rfl, o⟩
      unfold rgEn
      trivial
      refine wp_lenP (gd _ _ _) p ?_
      refine wp_rgF (by omega) ?_
      trivial
      refine wp_lenP (gd _ _ _) p ?_
      trivial
      refine few_w hP ltn o (by omega) (by rw [houses_len]; omega) (by omega) fun a b c u left o pm hl => ?_
      have ru : Ren ws.length u := perm_all pm (by rw [houses_len]; exact hl (by rw [houses_len]; omega))
      have ul := ru.len
      trivial
      refine wp_rgF (by omega) ?_
      trivial
      refine few_w hP ltn o (by omega) (by rw [houses_len]; omega) (by omega) fun a b c nu left o pm hl => ?_
      have rn : Ren n nu := perm_all pm (by rw [houses_len]; exact hl (by rw [houses_len]; omega))
      trivial
      refine wp_of (x := .d (tqD nu)) rfl ?_
      trivial
      refine wp_map u D.int (fun i => encR (rootsOf (wAt ws i))) ?_ (by omega) (fun i hi => ⟨_, rfl, ?_⟩) ?_
      · trivial
        exact ⟨rfl, rfl⟩
      · trivial
        refine proQ ins_pool ?_
        refine proots_w (gd _ _ _) ?_
        trivial
        refine wp_ixT (d := encR (rootsOf (wAt ws i))) ?_ ?_
        · rw [List.map_map]
          exact at_webs p (ru.mem.mp hi) (fun w => encR (rootsOf w))
        exact ⟨rfl, rfl⟩
      trivial
      refine proQ ins_pool ?_
      refine proots_w (gd _ _ _) ?_
      trivial
      refine wp_map ws webD (fun w => encR (rootsOf w)) ?_ (by omega) (fun w hw => ⟨_, rfl, ?_⟩) ?_
      · refine wp_own ?_
        trivial
        exact ⟨_, own_pool, rfl, rfl⟩
      · trivial
        refine proQ ins_web (wp_of (roots_ev (gd _ _ _)) ?_)
        exact ⟨rfl, rfl⟩
      trivial
      rw [roots_D]
      refine wp_eqE encH_enc (by decide) _ _ ?_
      rw [dect1 rfl]
      trivial
      refine methQ ins_pool look_reord ?_
      trivial
      refine reord_w (gd _ _ _) p h5 ru ?_
      trivial
      refine proQ ins_pool ?_
      refine proots_w (gd _ _ _) ?_
      have e1 : D.tup (u.map fun i => encR (rootsOf (wAt ws i))) = encH ((u.map (wAt ws)).map rootsOf) := by
        unfold encH
        rw [List.map_map, List.map_map]
        rfl
      trivial
      rw [e1]
      refine wp_eqE encH_enc (by decide) _ _ ?_
      rw [dect1 rfl]
      trivial
      refine wp_map (ws.map rootsOf) encR (fun row => encR (sortI (row.map (nuAt nu)))) ?_ (by rw [List.length_map]; omega) (fun row hrow => ⟨_, rfl, ?_⟩) ?_
      · trivial
        refine proQ ins_pool ?_
        refine proots_w (gd _ _ _) ?_
        trivial
        exact ⟨rfl, rfl⟩
      · obtain ⟨w, hw, rfl⟩ := List.mem_map.mp hrow
        obtain ⟨wk, wl⟩ := p.web w hw
        have rl : (rootsOf w).length ≤ 1000 := Nat.le_trans (nodup_le w.length (roots_lt.imp fun h e => by omega) fun x hx => (mem_roots.mp hx).1) (by have := wk.hi; omega)
        trivial
        refine wp_map (rootsOf w) D.int (fun x => .int (nuAt nu x)) ?_ rl (fun x hx => ⟨_, rfl, ?_⟩) ?_
        · trivial
          exact ⟨rfl, rfl⟩
        · have gx : 0 ≤ x ∧ x < (n : Int) := by have := (mem_roots.mp hx).1; rw [wl] at this; exact this
          trivial
          refine wp_wk ?_
          trivial
          refine ⟨_, rfl, ?_⟩
          trivial
          refine wp_ixR (r := nu) gx.1 (rn.at_rg gx).1 ?_
          exact ⟨rfl, rfl⟩
        have em : (rootsOf w).map (fun x => D.int (nuAt nu x)) = ((rootsOf w).map (nuAt nu)).map D.int := by rw [List.map_map]; rfl
        rw [em]
        trivial
        refine wp_sortF ?_
        trivial
        exact ⟨rfl, rfl⟩
      trivial
      refine methQ ins_pool look_pren ?_
      trivial
      refine pren_w (gd _ _ _) p h5 rn ?_
      trivial
      refine proQ ins_pool ?_
      refine proots_w (gd _ _ _) ?_
      trivial
      have e2 : D.tup ((ws.map rootsOf).map fun row => encR (sortI (row.map (nuAt nu)))) = encH ((ws.map (renL nu)).map rootsOf) := by
        unfold encH
        rw [List.map_map, List.map_map, List.map_map]
        refine congrArg D.tup (List.map_congr_left fun w hw => ?_)
        show encR (sortI ((rootsOf w).map (nuAt nu))) = encR (rootsOf (renL nu w))
        rw [ren_roots (p.web w hw).1 (by rw [(p.web w hw).2]; exact rn)]
      rw [e2]
      refine wp_eqE encH_enc (by decide) _ _ ?_
      rw [dect rfl]
      refine wp_retC hP ltn ?_
      exact k a b c (o.mono (by omega))
end
end RSL
end

section
set_option maxRecDepth 100000
set_option maxHeartbeats 1000000
/-! The cask; the law. -/
namespace RSL
open PySem PySem.Spec RS
local macro_rules | `(tactic| trivial) => `(tactic| (repeat (first | ((with_reducible apply ws_seq); try dsimp only [List.set]) | ((with_reducible apply wp_var); exact rfl) | with_reducible apply wp_bin | with_reducible apply wp_k | with_reducible apply wp_cons | with_reducible apply wp_nil | with_reducible apply wp_bcall | with_reducible apply wp_call | ((with_reducible apply callQ); exact rfl) | with_reducible apply ws_set | with_reducible apply ws_ret | with_reducible apply ws_exp | with_reducible apply ws_if | with_reducible apply ws_nil | with_reducible apply wp_asB | with_reducible apply isB | with_reducible apply ifq_t | with_reducible apply ifq_f | with_reducible apply ifq_not | with_reducible apply ifq_x0 | with_reducible apply ifq_x1 | (with_reducible refine ifq_dt (by with_reducible assumption) ?_) | (with_reducible refine ifq_df (by with_reducible assumption) ?_) | ((with_reducible apply ifq_dt); exact rfl) | with_reducible apply wp_and | with_reducible apply wp_or | with_reducible apply wp_not | with_reducible apply wp_notV | with_reducible apply wp_andV | with_reducible apply wp_orV | with_reducible apply wp_ifV | with_reducible apply ws_par | with_reducible apply parQ | with_reducible apply ws_par3 | with_reducible apply par3Q | with_reducible apply wp_tupM | ((with_reducible apply tupQ); exact rfl; first | decide | (focus (simp; done)) | omega) | with_reducible apply wp_flM | with_reducible apply wp_pro | with_reducible apply wp_fld | with_reducible apply wp_una | with_reducible apply wp_make | with_reducible apply wp_meth | (with_reducible refine wp_ixWs (by with_reducible assumption) ?_) | (with_reducible refine webQ (by with_reducible assumption) (by with_reducible assumption) ?_) | (with_reducible refine wp_of (check_pool_ev (by with_reducible assumption)) ?_) | (with_reducible refine wp_lenP (by with_reducible assumption) (by with_reducible assumption) ?_) | (with_reducible refine wp_ixP (by with_reducible assumption) (by with_reducible assumption) (by with_reducible assumption) ?_) | with_reducible apply wp_mth | with_reducible apply wp_seqI | with_reducible apply wp_enumI | with_reducible apply wp_rng | with_reducible apply wp_zipI | with_reducible apply seqQt | with_reducible apply seqQf | with_reducible apply seqQl | with_reducible apply seqQr | with_reducible apply seqQh | with_reducible apply wp_star | with_reducible apply wp_tru | with_reducible apply wp_i0 | with_reducible apply wp_i1 | with_reducible apply wp_i2 | with_reducible apply wp_lenH | with_reducible apply wp_lenRr | with_reducible apply wp_lenI | with_reducible apply wp_lenWs | (with_reducible refine wp_ixH (by first | with_reducible assumption | omega) ?_) | with_reducible apply wp_eqR | with_reducible apply wp_eqL | with_reducible apply wp_eqN | with_reducible apply wp_inR | with_reducible apply wp_inI | with_reducible apply wp_add | with_reducible apply wp_sub | with_reducible apply wp_neg | with_reducible apply wp_int | with_reducible apply wp_intb | with_reducible apply wp_abs | with_reducible apply wp_two | with_reducible apply wp_lt | with_reducible apply wp_le | with_reducible apply wp_gt | with_reducible apply wp_ge | with_reducible apply wp_eqI | with_reducible apply wp_eqB | with_reducible apply wp_isN | with_reducible apply wp_chn | with_reducible apply wp_gset | with_reducible apply wp_gt2 | with_reducible apply wp_gt3 | with_reducible apply wp_gl2 | with_reducible apply ws_asg | (with_reducible refine wp_mod (by omega) ?_) | (with_reducible refine wp_fdivS (by omega) (by omega) ?_) | (with_reducible refine wp_mulS (by omega) (by omega) ?_) | ((with_reducible apply wp_s0); exact rfl) | ((with_reducible apply wp_s2); exact rfl) | (with_reducible refine wp_pow (by decide +kernel) ?_) | with_reducible apply wp_celC2 | with_reducible apply wp_celC | with_reducible apply wp_celM | ((with_reducible apply celQ); exact rfl; first | decide | (focus (simp; done)) | omega) | with_reducible apply wp_listCC | with_reducible apply wp_tupT | with_reducible apply wp_tupF | with_reducible apply wp_lenT | with_reducible apply wp_lenF | with_reducible apply wp_lenR )))
section
variable {S T P U : Store} {a b c N : Int} {Q : A → Store → Prop}
def pw608 : Int := ((10 : Int) ^ (60 : Int).toNat) ^ (8 : Int).toNat
theorem pw608_pos : 0 < pw608 := by decide +kernel
def pw18 : Int := (10 : Int) ^ (18 : Int).toNat + 9
theorem pw18_pos : 0 < pw18 := by decide +kernel
theorem pw18_lt : pw18 < 2 ^ 80 := by decide +kernel
theorem ret_keep {S : Store} {ds : List D} (h : Gd S) : retA true S.length (.ref S.length) (S ++ [.lst ds]) = .ok (.ref S.length) (S ++ [.lst ds]) := by
  have e := ok_app (T := [.lst ds]) rfl h
  unfold retA
  rw [if_pos e]
  simp
theorem cask_w (hP : LT P) (ns : List Int) {i : Int} (h0 : 0 ≤ i) (h3 : i ≤ 100) (k : ∀ a b c, Pok 0 b c → Q (.ref P.length) (C3 P a b c [])) : WP (F__law_cask [.d (.rl (ns.map D.int)), .d (.int i)] P) Q := by
  apply w__law_cask
  unfold b__law_cask
  refine ws_mid (fun ρ S => S = P ∧ ∃ x : Int, ρ = [some (.d (.rl (ns.map D.int))), some (.d (.int i)), some (.d (.int x)), none, none]) ?_ ?_
  · trivial
    apply ifq_d
    · intro h
      obtain ⟨d, e2, m⟩ := at_lt (ns.map D.int) h0 h
      obtain ⟨x, hx, rfl⟩ := List.mem_map.mp m
      trivial
      refine wp_ixL e2 ?_
      exact ⟨rfl, x, rfl⟩
    · intro h
      trivial
      exact ⟨rfl, _, rfl⟩
  · rintro ρ S ⟨rfl, x, rfl⟩
    trivial
    refine wp_mod pw608_pos ?_
    generalize (if x < 0 then -x else x) % (((10 : Int) ^ (60 : Int).toNat) ^ (8 : Int).toNat) = g
    trivial
    have e01 : 0 ≤ (if decide (x < 0) = true then (1 : Int) else 0) ∧ (if decide (x < 0) = true then (1 : Int) else 0) ≤ 1 := by split <;> omega
    generalize (if decide (x < 0) = true then (1 : Int) else 0) = e at e01
    trivial
    refine wp_mod pw18_pos ?_
    generalize hs : (g + 9576890767 * i + 49979687 * e + 17) % ((10 : Int) ^ (18 : Int).toNat + 9) = s
    have s0 : 0 ≤ s ∧ s < pw18 := by
      rw [← hs]
      exact ⟨Int.emod_nonneg _ (Int.ne_of_gt pw18_pos), Int.emod_lt_of_pos _ pw18_pos⟩
    have lt := pw18_lt
    have ls : s.natAbs.log2 < 5000 := by
      have := log_lt (i := s) ⟨by omega, by omega⟩
      omega
    trivial
    apply ifq_d
    · intro h
      trivial
      refine wp_of (ret_keep (lists_gd hP)) ?_
      exact k _ _ _ ⟨ls, by omega, by omega⟩
    · intro h
      trivial
      refine wp_of (ret_keep (lists_gd hP)) ?_
      exact k _ _ _ ⟨ls, by omega, by omega⟩
theorem c3_ltn (hP : LT P) : LT (C3 P a b c []) := fun o ho => by
  rcases List.mem_append.mp ho with ho | ho
  · exact hP o ho
  · exact ⟨_, List.mem_singleton.mp ho⟩
theorem law_holds (ns : List Int) : ∃ S, F_law [.d (.rl (ns.map D.int))] [] = .ok (.d (.bl true)) S := by
  have key : WP (F_law [.d (.rl (ns.map D.int))] []) (fun a _ => a = .d (.bl true)) := by
    apply w_law
    unfold b_law
    obtain ⟨m, hm, hm4⟩ : ∃ m : Nat, max2 1 (min2 4 (ns.map D.int).length) = (m : Nat) ∧ m ≤ 4 := by
      refine ⟨(max2 1 (min2 4 (ns.map D.int).length)).toNat, ?_, ?_⟩
      · unfold max2 min2
        split <;> split <;> omega
      · unfold max2 min2
        split <;> split <;> omega
    apply ws_seq
    refine ws_for D.int (houses m) (fun d ρ S => LT S ∧ ∃ v1 v2 v3, ρ = [some (.d (.rl (ns.map D.int))), v1, v2, v3]) ?_ ?_ ?_
    · trivial
      exact rngH hm (by omega) ⟨rfl, ltn, _, _, _, rfl⟩
    · rintro d x r e ρ S ⟨hP, v1, v2, v3, rfl⟩
      have gx := mem_houses.mp (by rw [← e]; simp : x ∈ houses m)
      trivial
      refine cask_w hP ns gx.1 (by omega) fun a b c o => ?_
      trivial
      refine ws_for D.int (houses 6) (fun d ρ T => ∃ a b c v3, ρ = [some (.d (.rl (ns.map D.int))), some (.d (.int x)), some (.ref S.length), v3] ∧ T = C3 S a b c [] ∧ Pok (0 + 40000 * d.length) b c) ?_ ?_ ?_
      · trivial
        exact rngH (m := 6) rfl (by decide) ⟨rfl, a, b, c, _, rfl, rfl, o.mono (by simp)⟩
      · rintro d1 x1 r1 e1 ρ T ⟨a, b, c, v3, rfl, rfl, o⟩
        have hd : d1.length < 6 := (at_done e1).2
        trivial
        refine right_w hP o (by omega) fun a b c o => ?_
        trivial
        exact ⟨a, b, c, _, rfl, rfl, o.mono (by simp; omega)⟩
      · rintro ρ T ⟨a, b, c, v3, rfl, rfl, o⟩
        exact ⟨c3_ltn hP, _, _, _, rfl⟩
    · rintro ρ S ⟨hP, v1, v2, v3, rfl⟩
      trivial
      refine wp_of (ret_take (by simp [storeOk])) rfl
  obtain ⟨a, S, e, rfl⟩ := key
  exact ⟨S, e⟩
end
end RSL
end

section
set_option maxRecDepth 100000
set_option maxHeartbeats 0
namespace RSL
open PySem PySem.Spec PyProof.Rows L2 RS
theorem fx_of {K : Fr} {h : Heap} {mg : Str → Option Value} (X : K.In h) (G : h.Ns mainGlobals mg) (c : Told fs ds K) : Fx K mg :=
  { d_is_plain_integer := c.fn 0 rfl
    d_is_between := c.fn 1 rfl
    d_is_index := c.fn 2 rfl
    d_is_index_tuple := c.fn 3 rfl
    d_is_ascending := c.fn 4 rfl
    d_is_order := c.fn 5 rfl
    d_check_between := c.fn 6 rfl
    d_check_index := c.fn 7 rfl
    d_is_heard := c.fn 8 rfl
    d_Web_size := c.fn 9 rfl
    d_is_web_of := c.fn 10 rfl
    d_check_web := c.fn 11 rfl
    d_reached_from := c.fn 12 rfl
    d_mutual_parts := c.fn 13 rfl
    d_Web___init__ := c.fn 14 rfl
    d_web_where := c.fn 15 rfl
    d_silent_web := c.fn 16 rfl
    d_Web_heard := c.fn 17 rfl
    d_Web_roots := c.fn 18 rfl
    d_Web_hears := c.fn 19 rfl
    d_Web_then := c.fn 20 rfl
    d_Web_renumbered := c.fn 21 rfl
    d_are_pool_webs := c.fn 22 rfl
    d_houses_in_all := c.fn 23 rfl
    d_Pool___init__ := c.fn 24 rfl
    d_Pool_size := c.fn 25 rfl
    d_Pool_roots := c.fn 26 rfl
    d_Pool_always := c.fn 27 rfl
    d_Pool__chosen := c.fn 28 rfl
    d_Pool_reordered := c.fn 29 rfl
    d_Pool_renumbered := c.fn 30 rfl
    d_Pool___len__ := c.fn 31 rfl
    d_Pool___getitem__ := c.fn 32 rfl
    d_Pool___iter__ := c.fn 33 rfl
    d__law_cask := c.fn 34 rfl
    d__law_scoop := c.fn 35 rfl
    d__law_any_of := c.fn 36 rfl
    d__law_few_of := c.fn 37 rfl
    d__law_rows := c.fn 38 rfl
    d__law_pool_rows := c.fn 39 rfl
    d__law_pool_of := c.fn 40 rfl
    d__law_heralds := c.fn 41 rfl
    d__law_behind := c.fn 42 rfl
    d__law_right := c.fn 43 rfl
    d_law := c.fn 44 rfl
    c_Pool := He.cls_ok (c.fact 0 (f := fCls "Pool") rfl)
    c_Web := He.cls_ok (c.fact 1 (f := fCls "Web") rfl)
    fi_Pool___getitem__ := c.fact 2 (f := fFnIn "Pool" "__getitem__") rfl
    f_abs := He.free_ok X G (c.fact 3 (f := fFree "abs") rfl)
    f_all := He.free_ok X G (c.fact 4 (f := fFree "all") rfl)
    f_bool := He.free_ok X G (c.fact 5 (f := fFree "bool") rfl)
    f_enumerate := He.free_ok X G (c.fact 6 (f := fFree "enumerate") rfl)
    f_int := He.free_ok X G (c.fact 7 (f := fFree "int") rfl)
    f_isinstance := He.free_ok X G (c.fact 8 (f := fFree "isinstance") rfl)
    f_iter := He.free_ok X G (c.fact 9 (f := fFree "iter") rfl)
    f_len := He.free_ok X G (c.fact 10 (f := fFree "len") rfl)
    f_list := He.free_ok X G (c.fact 11 (f := fFree "list") rfl)
    f_max := He.free_ok X G (c.fact 12 (f := fFree "max") rfl)
    f_min := He.free_ok X G (c.fact 13 (f := fFree "min") rfl)
    f_range := He.free_ok X G (c.fact 14 (f := fFree "range") rfl)
    f_set := He.free_ok X G (c.fact 15 (f := fFree "set") rfl)
    f_sorted := He.free_ok X G (c.fact 16 (f := fFree "sorted") rfl)
    f_tuple := He.free_ok X G (c.fact 17 (f := fFree "tuple") rfl)
    f_zip := He.free_ok X G (c.fact 18 (f := fFree "zip") rfl)
    g_Pool := He.glo_ok X G (c.fact 19 (f := fGlo "Pool") rfl)
    g_Web := He.glo_ok X G (c.fact 20 (f := fGlo "Web") rfl)
    g__law_any_of := He.glo_ok X G (c.fact 21 (f := fGlo "_law_any_of") rfl)
    g__law_behind := He.glo_ok X G (c.fact 22 (f := fGlo "_law_behind") rfl)
    g__law_cask := He.glo_ok X G (c.fact 23 (f := fGlo "_law_cask") rfl)
    g__law_few_of := He.glo_ok X G (c.fact 24 (f := fGlo "_law_few_of") rfl)
    g__law_heralds := He.glo_ok X G (c.fact 25 (f := fGlo "_law_heralds") rfl)
    g__law_pool_of := He.glo_ok X G (c.fact 26 (f := fGlo "_law_pool_of") rfl)
    g__law_pool_rows := He.glo_ok X G (c.fact 27 (f := fGlo "_law_pool_rows") rfl)
    g__law_right := He.glo_ok X G (c.fact 28 (f := fGlo "_law_right") rfl)
    g__law_rows := He.glo_ok X G (c.fact 29 (f := fGlo "_law_rows") rfl)
    g__law_scoop := He.glo_ok X G (c.fact 30 (f := fGlo "_law_scoop") rfl)
    g_are_pool_webs := He.glo_ok X G (c.fact 31 (f := fGlo "are_pool_webs") rfl)
    g_check_between := He.glo_ok X G (c.fact 32 (f := fGlo "check_between") rfl)
    g_check_index := He.glo_ok X G (c.fact 33 (f := fGlo "check_index") rfl)
    g_check_web := He.glo_ok X G (c.fact 34 (f := fGlo "check_web") rfl)
    g_houses_in_all := He.glo_ok X G (c.fact 35 (f := fGlo "houses_in_all") rfl)
    g_is_ascending := He.glo_ok X G (c.fact 36 (f := fGlo "is_ascending") rfl)
    g_is_between := He.glo_ok X G (c.fact 37 (f := fGlo "is_between") rfl)
    g_is_heard := He.glo_ok X G (c.fact 38 (f := fGlo "is_heard") rfl)
    g_is_index := He.glo_ok X G (c.fact 39 (f := fGlo "is_index") rfl)
    g_is_index_tuple := He.glo_ok X G (c.fact 40 (f := fGlo "is_index_tuple") rfl)
    g_is_order := He.glo_ok X G (c.fact 41 (f := fGlo "is_order") rfl)
    g_is_plain_integer := He.glo_ok X G (c.fact 42 (f := fGlo "is_plain_integer") rfl)
    g_is_web_of := He.glo_ok X G (c.fact 43 (f := fGlo "is_web_of") rfl)
    g_mutual_parts := He.glo_ok X G (c.fact 45 (f := fGlo "mutual_parts") rfl)
    g_reached_from := He.glo_ok X G (c.fact 46 (f := fGlo "reached_from") rfl)
    g_silent_web := He.glo_ok X G (c.fact 47 (f := fGlo "silent_web") rfl)
    g_web_where := He.glo_ok X G (c.fact 48 (f := fGlo "web_where") rfl)
    i_MAX_WEBS := He.int_ok X G (c.fact 49 (f := fInt "MAX_WEBS" (8)) rfl)
    i_MOST_HOUSES := He.int_ok X G (c.fact 50 (f := fInt "MOST_HOUSES" (5)) rfl)
    i_TOO_LONG := He.int_ok X G (c.fact 51 (f := fInt "TOO_LONG" (1000000000000000000000000000000000000000000000000000000000000)) rfl)
    m_Pool__chosen := He.meth_ok (c.fact 52 (f := fMeth "Pool" "_chosen") rfl)
    m_Pool_renumbered := He.meth_ok (c.fact 53 (f := fMeth "Pool" "renumbered") rfl)
    m_Pool_reordered := He.meth_ok (c.fact 54 (f := fMeth "Pool" "reordered") rfl)
    m_Web_hears := He.meth_ok (c.fact 55 (f := fMeth "Web" "hears") rfl)
    m_Web_renumbered := He.meth_ok (c.fact 56 (f := fMeth "Web" "renumbered") rfl)
    m_Web_then := He.meth_ok (c.fact 57 (f := fMeth "Web" "then") rfl)
    mk_Pool := He.mkr_ok (c.fact 58 (f := fMkr "Pool") rfl)
    mk_Web := He.mkr_ok (c.fact 59 (f := fMkr "Web") rfl)
    a_Pool__always := He.noat_ok (c.fact 60 (f := fNoat "Pool" "_always") rfl)
    a_Pool__roots := He.noat_ok (c.fact 61 (f := fNoat "Pool" "_roots") rfl)
    a_Pool__size := He.noat_ok (c.fact 62 (f := fNoat "Pool" "_size") rfl)
    a_Pool__webs := He.noat_ok (c.fact 63 (f := fNoat "Pool" "_webs") rfl)
    a_Web__heard := He.noat_ok (c.fact 64 (f := fNoat "Web" "_heard") rfl)
    a_Web__parts := He.noat_ok (c.fact 65 (f := fNoat "Web" "_parts") rfl)
    a_Web__reached := He.noat_ok (c.fact 66 (f := fNoat "Web" "_reached") rfl)
    a_Web__roots := He.noat_ok (c.fact 67 (f := fNoat "Web" "_roots") rfl)
    a_Web__size := He.noat_ok (c.fact 68 (f := fNoat "Web" "_size") rfl)
    p_Pool_always := prop_ok (c.fact 69 (f := fProp "Pool" "always") rfl)
    p_Pool_roots := prop_ok (c.fact 70 (f := fProp "Pool" "roots") rfl)
    p_Pool_size := prop_ok (c.fact 71 (f := fProp "Pool" "size") rfl)
    p_Web_heard := prop_ok (c.fact 72 (f := fProp "Web" "heard") rfl)
    p_Web_roots := prop_ok (c.fact 73 (f := fProp "Web" "roots") rfl)
    p_Web_size := prop_ok (c.fact 74 (f := fProp "Web" "size") rfl)
    sp_Pool___getitem__ := spC_ok (c.fact 75 (f := fSpC "Pool" "__getitem__") rfl)
    sp_Pool___iter__ := spC_ok (c.fact 76 (f := fSpC "Pool" "__iter__") rfl)
    sp_Pool___len__ := spC_ok (c.fact 77 (f := fSpC "Pool" "__len__") rfl)
    code_silent_web := c.fact 78 (f := fCode d_silent_web.ad) rfl
    code_Web_renumbered := c.fact 80 (f := fCode d_Web_renumbered.ad) rfl
    tabs_nd := tabs_ok (c.fact 82 (f := fTabs [d_silent_web.ad, d_Web_renumbered.ad]) rfl)
    ci_Web := clsI_ok (c.fact 83 (f := fClsI "Web") rfl)
    k_Web_bool := kitO_ok (c.fact 84 (f := fKitO "Web" "bool" false) rfl)
    k_Web_int := kitO_ok (c.fact 85 (f := fKitO "Web" "int" false) rfl)
    k_Web_tuple := kitO_ok (c.fact 86 (f := fKitO "Web" "tuple" false) rfl)
    k_NoneType_Web := kitT_ok (c.fact 87 (f := fKitT "NoneType" "Web" false) rfl)
    k_bool_Web := kitT_ok (c.fact 88 (f := fKitT "bool" "Web" false) rfl)
    k_int_Web := kitT_ok (c.fact 89 (f := fKitT "int" "Web" false) rfl)
    k_str_Web := kitT_ok (c.fact 90 (f := fKitT "str" "Web" false) rfl)
    k_tuple_Web := kitT_ok (c.fact 91 (f := fKitT "tuple" "Web" false) rfl)
    k_list_Web := kitT_ok (c.fact 92 (f := fKitT "list" "Web" false) rfl)
    k_Web_Web := kitC_ok (c.fact 93 (f := fKitC "Web" "Web" true) rfl) }
theorem ok_all {P : Program} {w : World} {K : Fr} {mg : Str → Option Value} {base : Heap} (T : Fx K mg) (tb_silent_web : LamX.TabB base mg (cA d_silent_web.ad K) (tabA d_silent_web.ad K)) (tb_Web_renumbered : LamX.TabB base mg (cA d_Web_renumbered.ad K) (tabA d_Web_renumbered.ad K)) : Ok LM P w K mg base d_law 13 ["_law_script"] F_law := by
  have ol := ol_ok (P := P) (w := w) (base := base) T
  have o_is_plain_integer := ok_is_plain_integer (P := P) (w := w) (base := base) T 
  have o_is_between := ok_is_between (P := P) (w := w) (base := base) T o_is_plain_integer
  have o_is_index := ok_is_index (P := P) (w := w) (base := base) T o_is_between
  have o_is_index_tuple := ok_is_index_tuple (P := P) (w := w) (base := base) T o_is_index
  have o_is_ascending := ok_is_ascending (P := P) (w := w) (base := base) T o_is_index_tuple
  have o_is_order := ok_is_order (P := P) (w := w) (base := base) T o_is_index_tuple
  have o_check_between := ok_check_between (P := P) (w := w) (base := base) T o_is_between
  have o_check_index := ok_check_index (P := P) (w := w) (base := base) T o_is_index
  have o_is_heard := ok_is_heard (P := P) (w := w) (base := base) T o_is_ascending
  have o_Web_size := ok_Web_size (P := P) (w := w) (base := base) T 
  have o_is_web_of := ok_is_web_of (P := P) (w := w) (base := base) T o_Web_size
  have o_check_web := ok_check_web (P := P) (w := w) (base := base) T o_is_web_of
  have o_reached_from := ok_reached_from (P := P) (w := w) (base := base) T 
  have o_mutual_parts := ok_mutual_parts (P := P) (w := w) (base := base) T 
  have o_Web___init__ := ok_Web___init__ (P := P) (w := w) (base := base) T o_is_heard o_reached_from o_mutual_parts
  have o_web_where := ok_web_where (P := P) (w := w) (base := base) T ol o_Web___init__
  have o_silent_web := ok_silent_web (P := P) (w := w) (base := base) T tb_silent_web o_check_between o_web_where
  have o_Web_heard := ok_Web_heard (P := P) (w := w) (base := base) T 
  have o_Web_roots := ok_Web_roots (P := P) (w := w) (base := base) T 
  have o_Web_hears := ok_Web_hears (P := P) (w := w) (base := base) T o_check_index
  have o_Web_then := ok_Web_then (P := P) (w := w) (base := base) T o_check_web o_Web_hears o_Web___init__
  have o_Web_renumbered := ok_Web_renumbered (P := P) (w := w) (base := base) T tb_Web_renumbered o_is_order o_web_where
  have o_are_pool_webs := ok_are_pool_webs (P := P) (w := w) (base := base) T o_Web_size o_Web_heard
  have o_houses_in_all := ok_houses_in_all (P := P) (w := w) (base := base) T 
  have o_Pool___init__ := ok_Pool___init__ (P := P) (w := w) (base := base) T o_are_pool_webs o_Web_size o_Web_roots o_houses_in_all
  have o_Pool_size := ok_Pool_size (P := P) (w := w) (base := base) T 
  have o_Pool_roots := ok_Pool_roots (P := P) (w := w) (base := base) T 
  have o_Pool_always := ok_Pool_always (P := P) (w := w) (base := base) T 
  have o_Pool__chosen := ok_Pool__chosen (P := P) (w := w) (base := base) T o_Pool___init__
  have o_Pool_reordered := ok_Pool_reordered (P := P) (w := w) (base := base) T o_is_order o_Pool__chosen
  have o_Pool_renumbered := ok_Pool_renumbered (P := P) (w := w) (base := base) T o_Web_renumbered o_Pool___init__
  have o_Pool___len__ := ok_Pool___len__ (P := P) (w := w) (base := base) T 
  have o_Pool___getitem__ := ok_Pool___getitem__ (P := P) (w := w) (base := base) T o_check_index
  have o_Pool___iter__ := ok_Pool___iter__ (P := P) (w := w) (base := base) T 
  have o__law_cask := ok__law_cask (P := P) (w := w) (base := base) T 
  have o__law_scoop := ok__law_scoop (P := P) (w := w) (base := base) T 
  have o__law_any_of := ok__law_any_of (P := P) (w := w) (base := base) T o__law_scoop
  have o__law_few_of := ok__law_few_of (P := P) (w := w) (base := base) T o__law_scoop
  have o__law_rows := ok__law_rows (P := P) (w := w) (base := base) T o__law_scoop o__law_any_of o__law_few_of
  have o__law_pool_rows := ok__law_pool_rows (P := P) (w := w) (base := base) T o__law_scoop o__law_rows o__law_any_of
  have o__law_pool_of := ok__law_pool_of (P := P) (w := w) (base := base) T o_Web___init__ o_Pool___init__
  have o__law_heralds := ok__law_heralds (P := P) (w := w) (base := base) T o_Web_size o_Web_hears
  have o__law_behind := ok__law_behind (P := P) (w := w) (base := base) T o_Pool_size o_silent_web o_Web_then o_Pool___getitem__
  have o__law_right := ok__law_right (P := P) (w := w) (base := base) T o__law_scoop o__law_pool_rows o__law_pool_of o_Pool___len__ o_Pool_always o__law_behind o__law_heralds o_Pool_roots o__law_few_of o_Pool___iter__ o_Web_roots o_Pool_reordered o_Pool_renumbered
  have o_law := ok_law (P := P) (w := w) (base := base) T o__law_cask o__law_right
  exact o_law
/-- the law's own words: what is left is that its meaning is True -/
def Law : Prop := ∀ ns : List Int, ns.length ≤ 63 → ∃ S, F_law [.d (.rl (ns.map D.int))] [] = .ok (.d (.bl true)) S
end RSL
open PySem PySem.W PySem.Calls PyProof.Rows RS
theorem holds_of (hl0 : RSL.Law) : PySem.Challenge.rw_rootshared_k07_whole_roots_of_pools.Holds := by
  w_on; o_law
  refine HandSHeadRun.head_any (r := RSL.RR) (q := view RSL.RR.prog [46]) (H := RSL.hk) (ob := RSL.ob) (M := 6000) (loose := RSL.loose) (d := HandSHeadRun.topDef RSL.RR.prog 46) (kwd := []) RSL.ob_eq
    (by kernel_rfl) (fun s => by kernel_rfl) RSL.run (by kernel_rfl) (by kernel_rfl) (by kernel_rfl) (by rfl) (by first | assumption | decide +kernel) (by decide +kernel) ⟨rfl, rfl, rfl, rfl, rfl, by decide +kernel⟩ ?hw ?hc
  case hw => w_witness2
  case hc =>
    refine LamX.walk_ofTsE (l := PySem.Challenge.rw_rootshared_k07_whole_roots_of_pools) (n := 63) (k := 13) (x := "_law_script") (CX := fun w => L2.CX PySem.Challenge.rw_rootshared_k07_whole_roots_of_pools.prog w) rfl (by decide) (by kernel_rfl) ⟨rfl, by decide, by decide⟩ ?F (fun w _ _ _ _ ⟨_, _, _, _, _, _, _, _, _, _, _, _, z⟩ => z)
    intro w mg fa h Y G hmg0
    obtain ⟨K, KX, c, ct⟩ := Y
    have T := RSL.fx_of KX G c
    have hmg : mg ("law" : PySem.Str) = some (.ref fa) := by
      have e : (HandSHeadRun.topDef RSL.RR.prog 46).name = ("law" : PySem.Str) := by kernel_rfl
      rw [← e]
      exact hmg0
    have e := hmg.symm.trans (He.glo_ok KX G (c.fact 44 (f := fGlo "law") rfl))
    cases e
    obtain ⟨fd, h1⟩ := c.fn 44 (d := RSL.d_law) rfl
    have key : ∀ base : Heap, K.In base → (∀ p ∈ [(cA RSL.d_silent_web.ad K, tabA RSL.d_silent_web.ad K), (cA RSL.d_Web_renumbered.ad K, tabA RSL.d_Web_renumbered.ad K)], LamX.TabB base mg p.1 p.2) → ∃ fd, RS.FnAt K RSL.d_law fd ∧ L2.FnOk (PySem.Challenge.rw_rootshared_k07_whole_roots_of_pools).prog w K mg base (L2.CX (PySem.Challenge.rw_rootshared_k07_whole_roots_of_pools).prog w) 13 (RSL.d_law.ad K) fd ["_law_script"] (spF (cc RSL.LM K) 1 RSL.F_law) ∧ ∀ (s : Shared) (u : Value), PySem.BindsTo s fd ⟨[u], []⟩ [("_law_script", u)] := fun base _ hT =>
      law_binds (P := (PySem.Challenge.rw_rootshared_k07_whole_roots_of_pools).prog) (w := w) (mg := mg) (base := base) rfl (RSL.ok_all T (hT (cA RSL.d_silent_web.ad K, tabA RSL.d_silent_web.ad K) List.mem_cons_self) (hT (cA RSL.d_Web_renumbered.ad K, tabA RSL.d_Web_renumbered.ad K) (List.mem_cons_of_mem _ List.mem_cons_self))) (fun _ _ _ _ _ _ us hl => match us, hl with | [_], _ => rfl)
    have b := law_bind1 (d := RSL.d_law) (x := "_law_script") rfl h1 (fun _ _ _ _ _ _ us hl => match us, hl with | [_], _ => rfl)
    refine ⟨K, KX, fd, [(cA RSL.d_silent_web.ad K, tabA RSL.d_silent_web.ad K), (cA RSL.d_Web_renumbered.ad K, tabA RSL.d_Web_renumbered.ad K)], spF (cc RSL.LM K) 1 RSL.F_law, (fun p hp => by
      rcases List.mem_cons.mp hp with rfl | hp
      · exact (ct RSL.d_silent_web.ad (by simp [RSL.tbs])).1
      rcases List.mem_cons.mp hp with rfl | hp
      · exact (ct RSL.d_Web_renumbered.ad (by simp [RSL.tbs])).1
      cases hp), (fun p hp => by
      rcases List.mem_cons.mp hp with rfl | hp
      · exact (ct RSL.d_silent_web.ad (by simp [RSL.tbs])).2
      rcases List.mem_cons.mp hp with rfl | hp
      · exact (ct RSL.d_Web_renumbered.ad (by simp [RSL.tbs])).2
      cases hp), (fun p hp => by
      rcases List.mem_cons.mp hp with rfl | hp
      · exact hd_ok KX (c.fact 79 (f := fHd RSL.d_silent_web.ad) rfl)
      rcases List.mem_cons.mp hp with rfl | hp
      · exact hd_ok KX (c.fact 81 (f := fHd RSL.d_Web_renumbered.ad) rfl)
      cases hp), b, fun H a ns hl _ ht hS => ?_, fun base kb _ hT => ?_⟩
    rotate_left
    · obtain ⟨fd2, k1, k2, k3⟩ := key base kb hT
      exact fnAt_inj k1 h1 ▸ k2
    · obtain ⟨S, e⟩ := hl0 ns hl
      exact law_sp (fun q hq => by
        rcases List.mem_cons.mp hq with rfl | hq
        · exact ht (cA RSL.d_silent_web.ad K, tabA RSL.d_silent_web.ad K) List.mem_cons_self
        rcases List.mem_cons.mp hq with rfl | hq
        · exact ht (cA RSL.d_Web_renumbered.ad K, tabA RSL.d_Web_renumbered.ad K) (List.mem_cons_of_mem _ List.mem_cons_self)
        cases hq) hS e
end

open PySem PySem.W PyProof.Rows
set_option maxRecDepth 100000 in
set_option maxHeartbeats 8000000 in
theorem PySem.Challenge.cw_rootshared_k07_whole_roots_of_pools_holds : PySem.Challenge.rw_rootshared_k07_whole_roots_of_pools.Holds := by
  exact holds_of fun ns _ => RSL.law_holds ns
