import PyProof.Rows.All
import Wide.All
import OpenK.AllK
import Wide.FinOn
import HandS.ForMost
import HandS.Evl
import HandS.Walk
import HandS.IsInst
import HandS.Flow
import HandS.TupLe
import HandS.TupAny
import HandS.Property
import HandS.StrMore
import HandS.Conv
import HandS.Star
import HandS.Style
import HandS.Steps
import HandS.WordsExc
import HandS.ExcInit
import PyProof.Rows.SeqMore
import KE.DataEq
import KE.DataCmp
import KE.DatumOrd
import KE.DataMinMax
import HandS.ExcIs
import HandS.ExcField
import HandS.Lambda
import HandS.ExcValue
import HandS.EndTab
import HandS.Defaults
import HandS.MakeKw
import KE.KExcIs
import KE.KTryMore
import KE.KDflt
import KE.KNestM
import HandS.OwnEq
import PyProof.InstNe
import HandS.TupMul
import HandS.ClsMeth
import PyProof.Rows.StrRev
import HandS.MakeKwOnly
import PyProof.ExcBaseAll.RuntimeError
import HandS.Strs
import HandS.DictComp
import HandS.WideBits
import HandS.SortInts
import KE.GoesMore
import OpenK.KMeth
import OpenK.KOps
import KE.SortKeyHeap
import KE.KSortKey
import HandS.SortKw
import PyProof.Rows.Own
import PyProof.AutoSeq1
import HandS.Zip
import KE.KDictZip
import PyProof.StrOps2
import HandS.SetKeys
import HandS.More
import PySem.Challenge.RW_mapstack_k79_fingerprints
set_option Elab.async false
set_option linter.all false
set_option maxRecDepth 100000
set_option maxHeartbeats 2000000
section
open PySem PySem.W PyProof.Rows
set_option maxRecDepth 100000
set_option maxHeartbeats 0
open_top Lw.hd for PySem.Challenge.rw_mapstack_k79_fingerprints
end

/-! Exceptions that were caught and are kept: tracked as things of their own. -/
namespace L2
open PySem PySem.Spec PyProof.Rows
/-- at a: an exception object of the class C with the dict d, caught or not -/
def xo (a : Addr) (C : Value) (d : Option Addr) : HO := .ext fun h => ∃ (oe : Obj) (vs : Array Value), h.get? a = some oe ∧ oe.cls = C ∧ oe.dict = d ∧ oe.data = .fields vs
section
variable {X : Cx} {pins : List (Addr × Obj)} {σ : St} {H : Hp} {s sI s' : Shared} {B : Heap}
end
/-- an except clause's test: it names the classes cs -/
def Clause (X : Cx) (t : Expr) (cs : List Value) : Prop :=
  ∀ (a : Addr) (pn : List (Addr × Obj)) (σ : St) (H : Hp) (s : Shared) (cls : Value) (b : Bool) (Q : Bool → Shared → Prop) (E : Value → Shared → Prop), Inv (X.suite a pn) [] σ H s → PySem.W.Looks (model X.prog X.w) s.heap (typeOf (.ref a)) cls →
    PySem.W.exmAny X.K cls cs = some b → (∀ h', (∀ q o, s.heap.get? q = some o → h'.get? q = some o) → Q b { s with heap := h' }) →
    wpAny (model X.prog X.w) (X.A.mark (some (.ref a))) (eval t X.env) (fun c s1 => wpAny (model X.prog X.w) (X.A.mark (some (.ref a))) (excMatches (.ref a) c) Q E s1) E s
section
variable {X : Cx} {a : Addr} {pn : List (Addr × Obj)} {σ : St} {H : Hp} {s : Shared} {x x1 x2 x3 x4 : Str} {c c1 c2 c3 c4 : Value} {p p1 p2 p3 p4 : Pos} {k : Nat}
end
/-- the wish of a clause that keeps what it catches: it catches all, slot i is the name's -/
def wKeep (K : PySem.W.Frag) (cs : List Value) (i : Nat) (ts : TS) (D : Ends) : WX := fun cls d σ H =>
  PySem.W.exmAny K cls cs = some true ∧ ∀ a, H a = none → ts { nx := fun σ' H' => D.nx (σ'.set i none) H', rt := D.rt, bk := fun σ' H' => D.bk (σ'.set i none) H', ct := fun σ' H' => D.ct (σ'.set i none) H' } (σ.set i (some (.ref a))) (upd H a (xo a cls d))
def tTryK (K : PySem.W.Frag) (cs : List Value) (i : Nat) (ts : TS) (tb : WX → TS) : TS := fun D σ H => tb (wKeep K cs i ts D) D σ H
section
variable {X : Cx} {t : Expr} {n : Str} {cs : List Value} {i : Nat} {body suite : List Stmt} {b₀ : Stmt} {pos pos' : Pos} {tb : WX → TS} {ts : TS}
end
end L2

/-! Own exceptions of any base: made (raised, or as values), their one field, asked by isinstance. -/
namespace PySem
namespace XG
open PySem.W PySem.Calls PyProof.Rows PySem.HandSPX Builtin Builtin.ObjectAttr
/-- classes of the program, then the row tl -/
def ownThen (tl : List Value) : List Value → Bool
  | .ref _ :: r => ownThen tl r
  | l => l == tl
/-- what is asked of a base: its row tl -/
structure BaseX (tl : List Value) (B newId initId : String) : Prop where
  F : ExcBaseFacts B newId initId tl
  pass : ∀ self : Value, refuseLoop self "__setattr__" tl = pure ()
  ob : tl.contains (.type "object") = true
  ne : tl.isEmpty = false
section
variable {tl : List Value} {B newId initId : String} {l : List Value}
end
section
variable {prog : Program} {w : World} {A : Around} {R : Result → Shared → Prop} {hp : Heap} {g : Array GenState} {d : Drawn} {t : Nat} {os : OsState} {tl : List Value} {B newId initId : String}
end
end XG
end PySem
namespace L2
open PySem PySem.Spec PyProof.Rows PySem.XG
/-- what the written part says of an own exception class whose row ends in tl -/
structure OexG (K : PySem.W.Frag) (C : Addr) (tl : List Value) (newId : String) : Prop where
  cls : ∃ nm q N bs bm sn sub ab col dd k0 k1 k2 k3 k5, K.lookup C = some (excClassObj nm q C N bs bm true sn sub ab col dd k0 k1 k2 k3 k5 newId) ∧ ownThen tl bm = true
  sa : PySem.W.findIn K (.ref C) "__setattr__" = some (some (.builtin "object.__setattr__"))
  ty : PySem.W.typeIn K (.ref C) = some (.type "type")
  kp : PySem.W.keepIn K (.ref C) = true
  ga : PySem.W.findIn K (.ref C) "__getattribute__" = some (some (.builtin "BaseException.__getattribute__"))
  gg : PySem.W.findIn K (.ref C) "__getattr__" = some none
  ex : PySem.W.subIn K (.ref C) (.type "BaseException") = some true
  hd : PySem.W.hasDictIn K C = true
  ha : PySem.W.findIn K (.ref C) "__class__" = some (some (.builtin "object.__class__"))
  hn : PySem.W.specialIn K (.builtin "object.__class__") "__get__" = some (some (.builtin "getset_descriptor.__get__"))
  ht : PySem.W.takesIn K (.builtin "object.__class__") = some true
  hm : PySem.W.mroIn K C (.type "object") = some true
/-- the class's own part, by a look at what is written -/
def oexB (K : PySem.W.Frag) (C : Addr) (tl : List Value) (newId : String) : Bool :=
  match K.lookup C with
  | some ⟨.type "type", _, .cls cd, sl⟩ =>
    match cd.mro, sl.toList with
    | .ref C' :: bm, [_, _, _, _, some (.builtin n), _] => C' == C && n == newId && !cd.hasDel && cd.hasDict && ownThen tl bm
    | _, _ => false
  | _ => false
section
variable {X : Cx} {pins : List (Addr × Obj)} {σ : St} {H : Hp} {s : Shared} {a C dx : Addr} {f : Str} {y : V} {u : Value} {A : Around} {tl : List Value} {B newId initId : String}
end
/-- self.f = e, of a new exception -/
def tOsx (K : PySem.W.Frag) (C : Addr) (f : Str) (to te : TE) : TS := fun D σ H => te σ H fun y H1 => to σ H1 fun x H2 => ∃ a : Addr, x = .ref a ∧ H2 a = some (exo a C none) ∧ ∀ dx, H2 dx = none → dx ≠ a → D.nx σ (upd (upd H2 dx (exd dx [(f, y)])) a (exo a C (some dx)))
section
variable {X : Cx} {o e : Expr} {es : List Expr} {to te : TE} {ta : TA} {f : Str} {p p' pos : Pos} {C : Addr} {tl : List Value} {B newId initId : String}
/-- C(e), as a value -/
def tMkX (C : Addr) (sp : Sp) (ta : TA) : TE := fun σ H Q => ta σ H fun vs H1 => vs.length ≤ 1000 ∧ ∀ a, H1 a = none → sp (.ref a :: vs) (upd H1 a (exo a C none))
  (fun v H2 => v = .non ∧ ∃ (d : Addr) (fs : List (Str × V)), H2 a = some (exo a C (some d)) ∧ H2 d = some (exd d fs) ∧ H1 d = none ∧ Q (.ref a) (upd (upd (del H2 a) d (.xd fs)) a (xo a (.ref C) (some d)))) (fun _ _ _ => False)
end
/-! ### a tracked exception asked -/
/-- error.f -/
def tExf (K : PySem.W.Frag) (f : Str) (te : TE) : TE := fun σ H Q => te σ H fun x H1 => ∃ (a C dx : Addr) (fs : List (Str × V)) (v : V), x = .ref a ∧ H1 a = some (xo a (.ref C) (some dx)) ∧ H1 dx = some (.xd fs) ∧ XfC K C ∧ PySem.W.findIn K (.ref C) f = some none ∧ fs.lookup f = some v ∧ Q v H1
section
variable {X : Cx}
/-- isinstance(e, c) of a tracked exception -/
def rIsX (K : PySem.W.Frag) : List V → Hp → VK → Prop := fun xs H Q => ∃ (a C : Addr) (d : Option Addr) (c : V) (cv : Value) (b : Bool), xs = [.ref a, c] ∧ H a = some (xo a (.ref C) d) ∧ (d = none ∨ ∃ dx fs, d = some dx ∧ H dx = some (.xd fs)) ∧ ExcC K C ∧ (∀ u, RelV c u → u = cv) ∧ PySem.W.kitOne K (.ref C) cv = some b ∧ Q (.bl b) H
end
end L2

/-! A lambda without parameters, or with one that has the default 0, handed to a def that calls it. -/
namespace L2
open PySem PySem.Spec PyProof.Rows LamX
/-- the function object of a lambda -/
abbrev lfn (q : Str) (params : Arguments) (body : Expr) (scope : Scope) (cl : List (Str × Addr)) (dV doc pm : Value) (c' : Addr) (ct : Value) : FuncData := PySem.W.kdv_fn "<lambda>" q params (.expr body) scope cl dV doc pm (.ref c') ct
/-- how its defaults stand: none, or a tuple of 0 -/
def DefAt (H : Hp) (fr : List Addr) (h : Heap) (params : Arguments) (bs : List (Str × Value)) (dV : Value) : Prop :=
  (params.defaults = [] ∧ bs = [] ∧ dV = .none) ∨ ∃ (T : Addr) (tk : Tok) (x : Str), dV = .ref T ∧ bs = [(x, .int 0 tk)] ∧ h.get? T = some (PySem.W.kdv_tup [.int 0 tk]) ∧ H T = none ∧ T ∉ fr
/-- how a call without arguments binds -/
structure LamB (params : Arguments) (one : Option Str) : Prop where
  kd : params.kw_defaults = []
  no : one = none → params.defaults = [] ∧ ∀ (q : Str) (body : FuncBody) (scope : Scope) (cl : List (Str × Addr)) (doc pm cv ct : Value), bindArgs (PySem.W.kdv_fn "<lambda>" q params body scope cl .none doc pm cv ct) ⟨[], []⟩ = pure []
  yes : ∀ x, one = some x → (∃ j p, params.defaults = [.Constant (.int 0) j p]) ∧ ∀ (q : Str) (body : FuncBody) (scope : Scope) (cl : List (Str × Addr)) (T : Addr) (tk : Tok) (doc pm cv ct : Value), ∃ k : Option (Array Value) → Sem (List (Str × Value)), bindArgs (PySem.W.kdv_fn "<lambda>" q params body scope cl (.ref T) doc pm cv ct) ⟨[], []⟩ = seqItems? (.ref T) >>= k ∧ k (some #[.int 0 tk]) = pure [(x, .int 0 tk)]
/-- its names: captured ones and globals; the one parameter isn't among the maker's -/
structure LamN (N : List Str) (sc scope : Scope) (one : Option Str) : Prop where
  kind : scope.kind = .function
  co : scope.isCoroutine = false
  gen : scope.isGenerator = false
  cell : ∀ y ∈ scope.names, y.2 ≠ .cell
  own : ∀ y ∈ scope.names, y.2 = .local → y.1 ∉ N
  par : ∀ x, one = some x → scope.names.lookup x = some .local
  free : ∀ y ∈ scope.names, y.2 = .free → sc.names.lookup y.1 = some .cell ∨ sc.names.lookup y.1 = some .free
def lamNB (N : List Str) (sc scope : Scope) (one : Option Str) : Bool :=
  decide (scope.kind = .function) && !scope.isCoroutine && !scope.isGenerator && (scope.names.all fun y => !decide (y.2 = .cell) && (!decide (y.2 = .local) || !decide (y.1 ∈ N)) && (!decide (y.2 = .free) || decide (sc.names.lookup y.1 = some .cell) || decide (sc.names.lookup y.1 = some .free))) &&
    (match one with | none => true | some x => decide (scope.names.lookup x = some .local))
/-- the table at P tells code objects of the name q -/
def TabO (H : Hp) (ps : Array Value) (q : Str) : Prop := TriplesOk ps.toList ∧ ∀ (pos : Pos) (cv : Value), codeAmong pos ps.toList = some cv → ∃ c, cv = .ref c ∧ H c = some (CodeO c q)
/-- what the making of a lambda does to what is tracked: its code object c' is found in the table ps, or new -/
def LamStep (H : Hp) (P : Addr) (ps : Array Value) (q : Str) (c' : Addr) (H1 : Hp) : Prop :=
  (H1 = H ∧ ∃ p, codeAmong p ps.toList = some (.ref c')) ∨ ∃ ps', H c' = none ∧ c' ≠ P ∧ H1 = upd (upd H P (.tbl ps')) c' (CodeO c' q) ∧ TriplesOk ps'.toList ∧ ∀ p cv, codeAmong p ps'.toList = some cv → cv = .ref c' ∨ codeAmong p ps.toList = some cv
section
variable {X : Cx} {pins : List (Addr × Obj)} {σ : St} {H : Hp} {s : Shared} {P c : Addr} {params : Arguments} {body : Expr} {scope : Scope} {pos : Pos} {ps : Array Value} {E : Value → Shared → Prop}
end

section
variable {X : Cx} {pins : List (Addr × Obj)} {σ : L2.St} {H HZ : Hp} {s s1 : Shared}
/-- what a lambda's call reads: f in the slot, its code object, its own reading -/
def tAct (j : Nat) (f c' : Addr) (q : Str) (tl : Hp → VK → Prop) : TE := fun σZ HZ Q => σZ[j]? = some (some (.ref f)) ∧ HZ c' = some (CodeO c' q) ∧ tl HZ Q
end
/-- the def that calls what it got: TT is what it makes of the lambda's reading -/
def GivesG (X : Cx) (Ng : List Str) (x : Str) (sg : Scope) (g : Addr) (cdg : Value) (bg : List Stmt) (a : Str) (q : Str) (TT : (XK → Hp → VK → Prop) → Addr → Addr → Hp → VK → Prop) : Prop :=
  ∀ (f c' : Addr) (s : Shared) (H : Hp) (Q : VK) (tl : XK → Hp → VK → Prop),
    (∀ (W : WX) (pn : List (Addr × Obj)) (xe : Value → Shared → Prop) (E : XK) (p1 p2 : Pos), Takes ((cxOf C8.CX0 X.prog X.w X.K X.mg X.base Ng x sg g cdg X.A X.stack s H C8.E0).tr pn xe) W → (∀ cls d σ' H', E cls d H' → σ'.length = Ng.length → W cls d σ' H') →
      PE ((cxOf C8.CX0 X.prog X.w X.K X.mg X.base Ng x sg g cdg X.A X.stack s H C8.E0).tr pn xe) (.Call (.Name a p1) [] [] p2) (tAct 0 f c' q (tl E))) → H c' = some (CodeO c' q) → TT tl f c' H Q →
    ∃ t, PSs (cxOf C8.CX0 X.prog X.w X.K X.mg X.base Ng x sg g cdg X.A X.stack s H C8.E0).nox bg t ∧ t { nx := fun _ H' => Q .non H', rt := Q } (L2.start Ng [.ref f]) H
/-- g(lambda: ..): its table at P -/
def tLamG (P : Addr) (q : Str) (TT : (XK → Hp → VK → Prop) → Addr → Addr → Hp → VK → Prop) (t : XK → TE) : TE := fun σ H Q => ∃ ps, H P = some (.tbl ps) ∧ TabO H ps q ∧
  ∀ (f c' : Addr) (H1 : Hp), LamStep H P ps q c' H1 → H1 c' = some (CodeO c' q) → TT (fun E H' Q' => t E σ H' Q') f c' H1 Q
section
variable {X : Cx}
end
end L2

/-! Calls by keywords; defs with a known code object; a try's body for whatever slots. -/
namespace L2
open PySem PySem.Spec PyProof.Rows LamX
/-- the values us, then ws, in another order -/
def perm {α : Type} (ix : List Nat) (us ws : List α) : List α := ix.filterMap fun i => (us ++ ws)[i]?
section
variable {K : PySem.W.Frag}
end
section
variable {X : Cx} {CX : CXT} {k : Nat} {f : Addr} {fd : FuncData} {ps ks : List Str} {sp : Sp} {E : XK} {x : Str} {p pos : Pos} {kws : List Keyword} {tk : TA} {g : List Value → List Value → List Value} {gV : List V → List V → List V} {nk : Nat}
/-- try: the reading t E of the body, E what is wished of exceptions, whatever the slots hold -/
def tTryB (len : Nat) (t : XK → TS) : WX → TS := fun W D σ H => ∃ E : XK, (∀ cls d σ' H', E cls d H' → σ'.length = len → W cls d σ' H') ∧ t E D σ H
end
section
variable {X : Cx} {one : Option Str} {TT : (XK → Hp → VK → Prop) → Addr → Addr → Hp → VK → Prop} {x a : Str} {g c P : Addr} {k : Nat} {stg : Stmt} {fdg : FuncData} {Ng : List Str} {params : Arguments} {body : Expr} {scope : Scope} {t : XK → TE} {p lpos pos : Pos}
end
section
variable {P : Program} {w : World} {K : PySem.W.Frag} {mg : Str → Option Value} {base : Heap}
end
end L2

/-! == and != by an own __eq__; methods and instances called by keywords. -/
namespace L2
open PySem PySem.Spec PyProof.Rows LamX
/-- x == y, x an instance of C, whose __eq__ keeps sp -/
def rEqO (K : PySem.W.Frag) (C : Addr) (sp : Sp) : R2 := fun x y H Q => ∃ (a dx : Addr) (fs : List (Str × V)) (t : Value), x = .ref a ∧ H a = some (.ins C dx fs) ∧ TyX K H y t ∧ PySem.W.notFirst K C t = true ∧ sp [x, y] H (fun z H' => ∃ b, z = .bl b ∧ Q (.bl b) H') E0
/-- x != y, both instances of C -/
def rNeO (C : Addr) (sp : Sp) : R2 := fun x y H Q => ∃ (a dx : Addr) (fs : List (Str × V)) (a' dx' : Addr) (fs' : List (Str × V)), x = .ref a ∧ H a = some (.ins C dx fs) ∧ y = .ref a' ∧ H a' = some (.ins C dx' fs') ∧ sp [x, y] H (fun z H' => ∃ b, z = .bl b ∧ Q (.bl (!b)) H') E0
/-- C has an own __eq__, f, and no __ne__ -/
def neB (K : PySem.W.Frag) (C f : Addr) : Bool := match K.lookup C with
  | some ⟨.type "type", _, .cls cd, sl⟩ => (match cd.mro, sl.toList with
    | [.ref C', .type "object"], [_, _, _, _, some (.builtin _), _] => C' == C && !cd.hasDel && PySem.W.nsOkIn K cd.ns && PySem.W.nsIn K cd.ns "__eq__" == some (some (.ref f)) && PySem.W.nsIn K cd.ns "__ne__" == some none
    | _, _ => false)
  | _ => false
section
variable {X : Cx} {CX : CXT} {k : Nat} {C f : Addr} {fd : FuncData} {ps : List Str} {sp : Sp} {R : Value → Shared → Prop}
/-- the own __eq__ runs, at A below X -/
theorem run_eq {A : Around} {pins : List (Addr × Obj)} {σ : St} {H : Hp} {s : Shared} {x y : V} {v u : Value} {Q : VK} (F : FnOk X.prog X.w X.K X.mg X.base CX k f fd ps sp) (hb : Binds X.K fd ps []) (hx : Passes CX X E0) (hr : Room k A) (hfr : A.frames = X.A.frames) (I : Inv X pins σ H s) (rx : RelV x v) (ry : RelV y u) (h : sp [x, y] H Q E0) :
    wpAny (model X.prog X.w) A (call (.ref f) [v, u]) (EP X pins σ Q) X.xe s := by
  have e := I.env0
  have e0 : Env0 X.prog X.w X.K X.mg X.base A X.stack s H := ⟨by rw [hfr]; exact e.frames, e.mod, e.bs, e.bsz, e.funs, e.frf, e.hok, e.bare⟩
  have hl := F.len _ _ _ _ h
  have r2 : Vals [x, y] [v, u] := .cons rx (.cons ry .nil)
  refine wpAny_call (codeAny_mono (F.run A X.stack s H ⟨[v, u], []⟩ [v, u] [x, y] _ E0 hr e0 (by
    have := hb s [v, u] I.kIn (by simpa using hl)
    simpa using this) r2 h) fun r s' hq => ?_)
  cases r with
  | error e => exact hx pins σ H s e s' I hq
  | ok fl =>
    cases fl with
    | ret w => exact I.after hq
    | next => exact False.elim hq
    | brk => exact False.elim hq
    | cont => exact False.elim hq
theorem op_eqO (F : FnOk X.prog X.w X.K X.mg X.base CX k f fd ps sp) (hs : PySem.W.findIn X.K (.ref C) "__eq__" = some (some (.ref f))) (hf : PySem.W.isFn X.K (.ref f) = true) (hb : Binds X.K fd ps []) (hx : Passes CX X E0) (hr : Room k X.A) : OpR X (compareOp .Eq) (rEqO X.K C sp) := by
  intro pins s σ H x y v u Q I rx ry ⟨a, dx, fs, t, hxa, ha, ty, nf, h⟩
  subst hxa
  obtain rfl : v = Value.ref a := rx
  obtain ⟨mA, J, _⟩ := ins_get I.hok ha
  obtain ⟨od, J, _⟩ := J.look
  obtain ⟨Pk, kx, hp, _⟩ := kit_of I ry ty
  obtain ⟨m, hF⟩ := I.fr
  unfold compareOp
  refine PySem.W.cmp_K (op := .Eq) (tb := t) hr.units0 hF I.ok.mod.kin J (kx.ty _ _ I.kIn hp) nf hs hf (wpAny_mono (run_eq (x := .ref a) F hb hx hr rfl I rfl ry h) (fun w s' hq => ?_) fun _ _ z => z)
  obtain ⟨z, H', I', rz, b, rfl, q⟩ := hq
  cases rz
  exact ⟨.bl b, H', I', rfl, q⟩
end
section
variable {X : Cx} {CX : CXT} {k : Nat} {C f g : Addr} {fd : FuncData} {ps ks : List Str} {sp : Sp} {E : XK} {x m : Str} {p pos apos : Pos} {o fe : Expr} {kws : List Keyword} {ta tf : TE} {t tk : TA} {gL : List Value → List Value → List Value} {gV : List V → List V → List V}
/-- o.m(k = v, ..) -/
def tMethN (C : Addr) (m : Str) (nk : Nat) (sp : Sp) (gV : List V → List V → List V) (E : XK) (ta : TE) (tk : TA) : TE := fun σ H Q => ta σ H fun y H1 => ∃ (a dx : Addr) (fs : List (Str × V)), y = .ref a ∧ H1 a = some (.ins C dx fs) ∧ fs.lookup m = none ∧ tk σ H1 fun zs H2 => zs.length = nk ∧ sp (gV [.ref a] zs) H2 Q E
end
section
variable {X : Cx} {CX : CXT} {k : Nat} {C g : Addr} {fd : FuncData} {ps ks : List Str} {sp : Sp} {E : XK} {pos : Pos} {fe : Expr} {kws : List Keyword} {tf : TE} {tk : TA} {gL : List Value → List Value → List Value} {gV : List V → List V → List V}
/-- o(k = v, ..), o an instance -/
def tCallON (C : Addr) (nk : Nat) (sp : Sp) (gV : List V → List V → List V) (E : XK) (tf : TE) (tk : TA) : TE := fun σ H Q => tf σ H fun y H1 => ∃ a, y = V.ref a ∧ tk σ H1 fun zs H2 => (∃ dx fs, H2 a = some (.ins C dx fs)) ∧ zs.length = nk ∧ sp (gV [.ref a] zs) H2 Q E
end
end L2

/-! A calculus over data: what a reading gives, told by plain data; the heap stays out of sight.
    Streams: objects of the law's own that draws change; all that is told of them is SO. -/
namespace DL
open PySem L2
abbrev Ex := Evl.Ex
/-- kinds of streams: the list of three; the dict with cells; the dict with a list of what is left, and that list -/
inductive SK where
  | l3 | cells | mp (len : Nat) | nats (len : Nat) | tbl (q : Str) | inv (I : Nat → Hp → HO → Prop)
/-- the tables of code objects that defs with lambdas have -/
class Tb (K : PySem.W.Frag) where
  tb : List (Addr × Str)
/-- what is known: the streams and a bound of their counters; what is settled, all that is tracked -/
structure Wd where
  S : Addr → Prop
  T : Addr → SK
  n : Nat
  H0 : Hp
  H1 : Hp
/-- data: what a value stands for; the last three are things that a def is still making (they stand in a slot alone) -/
inductive D where
  | non | bl (b : Bool) | int (i : Int) | str (x : Str)
  | lst (xs : List D) | tup (xs : List D)
  | obj (C : Addr) (fs : List (Str × D))
  | dct (kvs : List (Key × D))
  | fdc (kvs : List (Key × D))
  | ty (n : String) | cls (a : Addr)
  | strm (a : Addr) (k : SK)
  | exc (C : Addr) (fs : List (Str × D)) | lam (f c' : Addr) (q : Str) (u0 : Wd)
  | mls (xs : List D) | mob (a dx C : Addr) (fs : List (Str × D)) | mdk (kvs : List (Key × D))
/-- nothing that is known is lost -/
structure Le (u v : Wd) : Prop where
  s : ∀ a, u.S a → v.S a
  t : ∀ a, u.S a → v.T a = u.T a
  h : Ex u.H0 v.H0
theorem Le.refl {u : Wd} : Le u u := ⟨fun _ h => h, fun _ _ => rfl, .refl _⟩
theorem Le.trans {u u' u'' : Wd} (a : Le u u') (b : Le u' u'') : Le u u'' := ⟨fun x h => b.s x (a.s x h), fun x h => (b.t x (a.s x h)).trans (a.t x h), a.h.trans b.h⟩
mutual
inductive Den (K : PySem.W.Frag) (u : Wd) : V → D → Prop
  | non : Den K u .non .non
  | bl (b : Bool) : Den K u (.bl b) (.bl b)
  | int (i : Int) : Den K u (.int i) (.int i)
  | str (x : Str) : Den K u (.str x) (.str x)
  | ty (n : String) : Den K u (.ty n) (.ty n)
  | cls (a : Addr) : Den K u (.ref a) (.cls a)
  | strm {a : Addr} {k : SK} : u.S a → u.T a = k → Den K u (.ref a) (.strm a k)
  | lst {a : Addr} {xs : List V} {ds : List D} : SqL K u.H0 a xs → Dens K u xs ds → Den K u (.ref a) (.lst ds)
  | tup {a : Addr} {xs : List V} {ds : List D} : SqT K u.H0 a xs → Dens K u xs ds → Den K u (.ref a) (.tup ds)
  | obj {a C dx : Addr} {fs : List (Str × V)} {gs : List (Str × D)} : u.H0 a = some (.ins C dx fs) → DenF K u fs gs → Den K u (.ref a) (.obj C gs)
  | dct {a : Addr} {kvs : List (Key × V)} {gs : List (Key × D)} : Rd u.H0 a (.dK kvs) → DenK K u kvs gs → Den K u (.ref a) (.dct gs)
  | fdc {a : Addr} {o : Obj} {kvs : List (Key × V)} {gs : List (Key × D)} : u.H0 a = some (.frz o (.dK kvs)) → DenK K u kvs gs → Den K u (.ref a) (.fdc gs)
  | exc {a C dx : Addr} {fs : List (Str × V)} {gs : List (Str × D)} : u.H0 a = some (xo a (.ref C) (some dx)) → u.H0 dx = some (.xd fs) → DenF K u fs gs → Den K u (.ref a) (.exc C gs)
  | exc0 {a C : Addr} : u.H0 a = some (xo a (.ref C) none) → Den K u (.ref a) (.exc C [])
  | lam {f c' : Addr} {q : Str} {u0 : Wd} : Le u0 u → u.H0 c' = some (LamX.CodeO c' q) → Den K u (.ref f) (.lam f c' q u0)
inductive Dens (K : PySem.W.Frag) (u : Wd) : List V → List D → Prop
  | nil : Dens K u [] []
  | cons {v : V} {d : D} {vs : List V} {ds : List D} : Den K u v d → Dens K u vs ds → Dens K u (v :: vs) (d :: ds)
inductive DenF (K : PySem.W.Frag) (u : Wd) : List (Str × V) → List (Str × D) → Prop
  | nil : DenF K u [] []
  | cons {f : Str} {v : V} {d : D} {vs : List (Str × V)} {ds : List (Str × D)} : Den K u v d → DenF K u vs ds → DenF K u ((f, v) :: vs) ((f, d) :: ds)
inductive DenK (K : PySem.W.Frag) (u : Wd) : List (Key × V) → List (Key × D) → Prop
  | nil : DenK K u [] []
  | cons {f : Key} {v : V} {d : D} {vs : List (Key × V)} {ds : List (Key × D)} : Den K u v d → DenK K u vs ds → DenK K u ((f, v) :: vs) ((f, d) :: ds)
end
section
variable {K : PySem.W.Frag} [Tb K] {H H' : Hp} {u u' u'' v' : Wd}
theorem ex_new {p : Addr} {o : HO} (h : H p = none) : Ex H (upd H p o) := Evl.Ex.new h
mutual
theorem Den.mono (e : Le u u') : ∀ {v : V} {d : D}, Den K u v d → Den K u' v d
  | _, _, .non => .non
  | _, _, .bl b => .bl b
  | _, _, .int i => .int i
  | _, _, .str x => .str x
  | _, _, .ty x => .ty x
  | _, _, .cls x => .cls x
  | _, _, .strm h q => .strm (e.s _ h) ((e.t _ h).trans q)
  | _, _, .lst h r => .lst (Evl.ex_l e.h h) (Dens.mono e r)
  | _, _, .tup h r => .tup (Evl.ex_t e.h h) (Dens.mono e r)
  | _, _, .obj h r => .obj (e.h _ _ h) (DenF.mono e r)
  | _, _, .dct h r => .dct (Evl.ex_rd e.h h) (DenK.mono e r)
  | _, _, .fdc h r => .fdc (e.h _ _ h) (DenK.mono e r)
  | _, _, .exc h1 h2 r => .exc (e.h _ _ h1) (e.h _ _ h2) (DenF.mono e r)
  | _, _, .exc0 h => .exc0 (e.h _ _ h)
  | _, _, .lam l h => .lam (l.trans e) (e.h _ _ h)
theorem Dens.mono (e : Le u u') : ∀ {v : List V} {d : List D}, Dens K u v d → Dens K u' v d
  | _, _, .nil => .nil
  | _, _, .cons h r => .cons (Den.mono e h) (Dens.mono e r)
theorem DenF.mono (e : Le u u') : ∀ {v : List (Str × V)} {d : List (Str × D)}, DenF K u v d → DenF K u' v d
  | _, _, .nil => .nil
  | _, _, .cons h r => .cons (Den.mono e h) (DenF.mono e r)
theorem DenK.mono (e : Le u u') : ∀ {v : List (Key × V)} {d : List (Key × D)}, DenK K u v d → DenK K u' v d
  | _, _, .nil => .nil
  | _, _, .cons h r => .cons (Den.mono e h) (DenK.mono e r)
end
theorem Dens.len : ∀ {v : List V} {d : List D}, Dens K u v d → v.length = d.length
  | _, _, .nil => rfl
  | _, _, .cons _ r => by simp [Dens.len r]
theorem Dens.get : ∀ {v : List V} {d : List D} {i : Nat} {x : V}, Dens K u v d → v[i]? = some x → ∃ y, d[i]? = some y ∧ Den K u x y
  | _, _, _, _, .nil, e => by simp at e
  | _, _, 0, _, .cons r _, e => by simp at e; subst e; exact ⟨_, rfl, r⟩
  | _, _, i + 1, x, .cons _ t, e => by
    obtain ⟨u, h1, h2⟩ := Dens.get (i := i) (x := x) t (by simpa using e)
    exact ⟨u, by simpa using h1, h2⟩
theorem Dens.getD : ∀ {v : List V} {d : List D} {i : Nat} {y : D}, Dens K u v d → d[i]? = some y → ∃ x, v[i]? = some x ∧ Den K u x y
  | _, _, _, _, .nil, e => by simp at e
  | _, _, 0, _, .cons r _, e => by simp at e; subst e; exact ⟨_, rfl, r⟩
  | _, _, i + 1, x, .cons _ t, e => by
    obtain ⟨u, h1, h2⟩ := Dens.getD (i := i) (y := x) t (by simpa using e)
    exact ⟨u, by simpa using h1, h2⟩
theorem Dens.app : ∀ {v v' : List V} {d d' : List D}, Dens K u v d → Dens K u v' d' → Dens K u (v ++ v') (d ++ d')
  | _, _, _, _, .nil, s => s
  | _, _, _, _, .cons r t, s => .cons r (Dens.app t s)
theorem Dens.take : ∀ {v : List V} {d : List D} (n : Nat), Dens K u v d → Dens K u (v.take n) (d.take n)
  | _, _, 0, _ => .nil
  | _, _, _ + 1, .nil => .nil
  | _, _, n + 1, .cons r t => .cons r (Dens.take n t)
theorem Dens.drop : ∀ {v : List V} {d : List D} (n : Nat), Dens K u v d → Dens K u (v.drop n) (d.drop n)
  | _, _, 0, r => r
  | _, _, _ + 1, .nil => .nil
  | _, _, n + 1, .cons _ t => Dens.drop n t
theorem DenF.keys : ∀ {v : List (Str × V)} {d : List (Str × D)}, DenF K u v d → v.map (·.1) = d.map (·.1)
  | _, _, .nil => rfl
  | _, _, .cons _ r => by simp [DenF.keys r]
theorem DenF.len {v : List (Str × V)} {d : List (Str × D)} (h : DenF K u v d) : v.length = d.length := by
  have := congrArg List.length h.keys
  simpa using this
theorem DenF.look : ∀ {v : List (Str × V)} {d : List (Str × D)} {f : Str} {y : D}, DenF K u v d → d.lookup f = some y → ∃ x, v.lookup f = some x ∧ Den K u x y
  | _, _, _, _, .nil, e => by simp at e
  | _, _, f, y, .cons (f := g) (v := v) (d := d) r t, e => by
    rw [List.lookup_cons] at e ⊢
    cases hq : f == g with
    | true => rw [hq] at e; cases e; exact ⟨v, rfl, r⟩
    | false => rw [hq] at e; exact DenF.look t e
theorem DenF.miss : ∀ {v : List (Str × V)} {d : List (Str × D)} {f : Str}, DenF K u v d → d.lookup f = none → v.lookup f = none
  | _, _, _, .nil, _ => rfl
  | _, _, f, .cons (f := g) r t, e => by
    rw [List.lookup_cons] at e ⊢
    cases hq : f == g with
    | true => rw [hq] at e; cases e
    | false => rw [hq] at e; exact DenF.miss t e
theorem den_int {v : V} {i : Int} (h : Den K u v (.int i)) : v = .int i := by cases h; rfl
theorem den_bl {v : V} {i : Bool} (h : Den K u v (.bl i)) : v = .bl i := by cases h; rfl
theorem den_str {v : V} {i : Str} (h : Den K u v (.str i)) : v = .str i := by cases h; rfl
theorem den_non {v : V} (h : Den K u v .non) : v = .non := by cases h; rfl
theorem den_strm {v : V} {a : Addr} {k : SK} (h : Den K u v (.strm a k)) : v = .ref a ∧ u.S a ∧ u.T a = k := by cases h with | strm h q => exact ⟨rfl, h, q⟩
theorem den_lst {v : V} {xs : List D} (h : Den K u v (.lst xs)) : ∃ a vs, v = .ref a ∧ SqL K u.H0 a vs ∧ Dens K u vs xs := by cases h with | lst q r => exact ⟨_, _, rfl, q, r⟩
theorem den_tup {v : V} {xs : List D} (h : Den K u v (.tup xs)) : ∃ a vs, v = .ref a ∧ SqT K u.H0 a vs ∧ Dens K u vs xs := by cases h with | tup q r => exact ⟨_, _, rfl, q, r⟩
theorem den_obj {v : V} {C : Addr} {gs : List (Str × D)} (h : Den K u v (.obj C gs)) : ∃ a dx fs, v = .ref a ∧ u.H0 a = some (.ins C dx fs) ∧ DenF K u fs gs := by cases h with | obj q r => exact ⟨_, _, _, rfl, q, r⟩
theorem dens0 {vs : List V} (h : Dens K u vs []) : vs = [] := by cases h; rfl
theorem dens1 {vs : List V} {x : D} (h : Dens K u vs [x]) : ∃ v, vs = [v] ∧ Den K u v x := by cases h with | cons a r => cases r; exact ⟨_, rfl, a⟩
theorem dens2 {vs : List V} {x y : D} (h : Dens K u vs [x, y]) : ∃ v w, vs = [v, w] ∧ Den K u v x ∧ Den K u w y := by cases h with | cons a r => obtain ⟨w, rfl, b⟩ := dens1 r; exact ⟨_, _, rfl, a, b⟩
/-- a field stored -/
def putD (f : Str) (d : D) : List (Str × D) → List (Str × D)
  | [] => [(f, d)]
  | (g, e) :: r => if g = f then (f, d) :: r else (g, e) :: putD f d r
theorem DenF.put {f : Str} {v : V} {d : D} (r : Den K u v d) : ∀ {fs : List (Str × V)} {gs : List (Str × D)}, DenF K u fs gs → DenF K u (putF f v fs) (putD f d gs)
  | _, _, .nil => .cons r .nil
  | _, _, .cons (f := f') (v := v') (d := d') (vs := vs') (ds := ds') h1 h2 => by
    show DenF K u (if f' = f then (f', v) :: vs' else (f', v') :: putF f v vs') (if f' = f then (f, d) :: ds' else (f', d') :: putD f d ds')
    by_cases e : f' = f
    · rw [if_pos e, if_pos e, e]; exact .cons r h2
    · rw [if_neg e, if_neg e]; exact .cons h1 (DenF.put r h2)
theorem ex_none (e : Ex H H') {x : Addr} (h : H' x = none) : H x = none := Evl.fresh_back e h
abbrev ky (x : String) : Key := .inr (Str.ofString x)
/-- what is told of a stream of the law -/
def SO (K : PySem.W.Frag) [Tb K] (u : Wd) : SK → HO → Prop
  | .l3, o => ∃ x c m : Int, o = .lst [.int x, .int c, .int m] ∧ 0 ≤ x ∧ 0 ≤ c ∧ c ≤ u.n ∧ 0 ≤ m ∧ m < 2147483648
  | .cells, o => ∃ (l : Addr) (cs : List Int) (c x : Int), o = .dK [(ky "cells", .ref l), (ky "at", .int c), (ky "left", .int x)] ∧ SqL K u.H0 l (cs.map V.int) ∧ cs ≠ [] ∧ cs.length ≤ 1000 ∧ 0 ≤ c ∧ c ≤ u.n ∧ 0 ≤ x
  | .mp len, o => ∃ (l l2 : Addr) (cs : List Int) (c : Int), o = .dK [(ky "script", .ref l), (ky "at", .int c), (ky "left", .ref l2)] ∧ SqL K u.H0 l (cs.map V.int) ∧ cs.length = len ∧ 0 ≤ c ∧ c ≤ u.n ∧ u.S l2 ∧ u.T l2 = .nats len
  | .tbl q, o => ∃ ps, o = .tbl ps ∧ TabO u.H0 ps q
  | .nats len, o => ∃ xs : List Int, o = .lst (xs.map V.int) ∧ xs.length = len ∧ ∀ x ∈ xs, 0 ≤ x
  | .inv I, o => ∃ m H, m ≤ u.n ∧ Evl.Ex H u.H0 ∧ I m H o ∧ ∀ x, o ≠ .own x
theorem SO.mono {u v : Wd} {k : SK} {o : HO} (h : SO K u k o) (l : Le u v) (hn : u.n ≤ v.n) : SO K v k o := by
  cases k with
  | l3 =>
    obtain ⟨x, c, m, e, h1, h2, h3, h4⟩ := h
    exact ⟨x, c, m, e, h1, h2, by omega, h4⟩
  | cells =>
    obtain ⟨a, cs, c, x, e, q, h1, h2, h3, h4, h5⟩ := h
    exact ⟨a, cs, c, x, e, Evl.ex_l l.h q, h1, h2, h3, by omega, h5⟩
  | mp len =>
    obtain ⟨a, a2, cs, c, e, q, h1, h2, h3, h4, h5⟩ := h
    exact ⟨a, a2, cs, c, e, Evl.ex_l l.h q, h1, h2, by omega, l.s _ h4, (l.t _ h4).trans h5⟩
  | nats len => exact h
  | tbl q =>
    obtain ⟨ps, e, ht, ha⟩ := h
    exact ⟨ps, e, ht, fun p cv hc => let ⟨c, e1, e2⟩ := ha p cv hc; ⟨c, e1, l.h _ _ e2⟩⟩
  | inv I =>
    obtain ⟨m, H, h1, h2, h3⟩ := h
    exact ⟨m, H, by omega, h2.trans l.h, h3⟩
/-- one step on: all that is tracked stands, but streams may change; what is settled now was settled or is new -/
structure Gs (u v : Wd) : Prop where
  a : Ex u.H0 v.H0
  b : ∀ x o, ¬ u.S x → u.H1 x = some o → v.H1 x = some o
  b' : ∀ x, u.H1 x ≠ none → v.H1 x ≠ none
  c : Ex v.H0 v.H1
  n : ∀ x, u.H0 x = none → v.H0 x ≠ none → u.H1 x = none
  sub : ∀ x, u.S x → v.S x
  kd : ∀ x, u.S x → v.T x = u.T x
  new : ∀ x, v.S x → u.S x ∨ u.H1 x = none
  le : u.n ≤ v.n
theorem Gs.ls (g : Gs u v') : Le u v' := ⟨g.sub, g.kd, g.a⟩
theorem Gs.refl (e : Ex u.H0 u.H1) : Gs u u := ⟨.refl _, fun _ _ _ h => h, fun _ h => h, e, fun _ h h' => absurd h h', fun _ h => h, fun _ _ => rfl, fun _ h => .inl h, Nat.le_refl _⟩
theorem Gs.trans (g : Gs u u') (k : Gs u' u'') : Gs u u'' :=
  ⟨g.a.trans k.a, fun x o s h => k.b x o (fun s' => (g.new x s').elim s (fun z => by rw [z] at h; cases h)) (g.b x o s h), fun x h => k.b' x (g.b' x h), k.c, fun x h h' => by
    cases e : u'.H0 x with
    | none =>
      have z := k.n x e h'
      cases q : u.H1 x with
      | none => rfl
      | some o => exact absurd z (g.b' x (by rw [q]; simp))
    | some o => exact g.n x h (by rw [e]; simp), fun x h => k.sub x (g.sub x h), fun x h => (k.kd x (g.sub x h)).trans (g.kd x h), fun x h => by
    rcases k.new x h with h | h
    · exact g.new x h
    · refine .inr ?_
      cases q : u.H1 x with
      | none => rfl
      | some o => exact absurd h (g.b' x (by rw [q]; simp)), Nat.le_trans g.le k.le⟩
/-- the same world with a new object p, settled -/
abbrev Wd.put (u : Wd) (p : Addr) (o : HO) : Wd := ⟨u.S, u.T, u.n, upd u.H0 p o, upd u.H1 p o⟩
/-- streams stand as told -/
structure StOk (K : PySem.W.Frag) [Tb K] (u : Wd) : Prop where
  at_ : ∀ a, u.S a → u.H0 a = none ∧ ∃ o, u.H1 a = some o ∧ SO K u (u.T a) o
  tb : ∀ p ∈ Tb.tb K, u.S p.1 ∧ u.T p.1 = .tbl p.2
  on : ∀ a q, u.S a → u.T a = .tbl q → (a, q) ∈ Tb.tb K
instance : CoeFun (StOk K u) (fun _ => ∀ a, u.S a → u.H0 a = none ∧ ∃ o, u.H1 a = some o ∧ SO K u (u.T a) o) := ⟨StOk.at_⟩
theorem Gs.put (e : Ex u.H0 u.H1) {p : Addr} {o : HO} (h : u.H1 p = none) : Gs u (u.put p o) :=
  ⟨ex_new (ex_none e h), fun x w _ hx => (ex_new h) x w hx, fun x hx => by
      show upd u.H1 p o x ≠ none
      by_cases q : x = p
      · subst q; rw [upd_same]; simp
      · rw [upd_ne q]; exact hx, fun x w (hx : upd u.H0 p o x = some w) => by
      show upd u.H1 p o x = some w
      by_cases q : x = p
      · subst q; rw [upd_same] at hx ⊢; exact hx
      · rw [upd_ne q] at hx ⊢; exact e x w hx, fun x h0 (h1 : upd u.H0 p o x ≠ none) => by
      by_cases q : x = p
      · subst q; exact h
      · rw [upd_ne q] at h1; exact absurd h0 h1, fun _ h => h, fun _ _ => rfl, fun _ h => .inl h, Nat.le_refl _⟩
theorem StOk.put (e : Ex u.H0 u.H1) (s : StOk K u) {p : Addr} {o : HO} (h : u.H1 p = none) : StOk K (u.put p o) := by
  refine ⟨fun a ha => ?_, s.tb, s.on⟩
  obtain ⟨h0, w, h1, hs⟩ := s a ha
  have q : a ≠ p := fun q => by rw [q, h] at h1; cases h1
  exact ⟨(upd_ne q).trans h0, w, (upd_ne q).trans h1, hs.mono ⟨fun _ h => h, fun _ _ => rfl, (Gs.put e h).a⟩ (Nat.le_refl _)⟩
/-- more settled: an object that was not, and is no stream -/
theorem Gs.settle {b : Wd} (g : Gs b u) {p : Addr} {o : HO} (hb : b.H1 p = none) (h0 : u.H0 p = none) (h1 : u.H1 p = some o) : Gs b ⟨u.S, u.T, u.n, upd u.H0 p o, u.H1⟩ :=
  ⟨g.a.trans (ex_new h0), g.b, g.b', fun x w (hx : upd u.H0 p o x = some w) => by
      show u.H1 x = some w
      by_cases q : x = p
      · subst q; rw [upd_same] at hx; rw [h1]; exact hx
      · rw [upd_ne q] at hx; exact g.c x w hx, fun x h (h' : upd u.H0 p o x ≠ none) => by
      by_cases q : x = p
      · subst q; exact hb
      · rw [upd_ne q] at h'; exact g.n x h h', g.sub, g.kd, g.new, g.le⟩
theorem StOk.settle (s : StOk K u) {p : Addr} {o : HO} (h0' : u.H0 p = none) (n : ¬ u.S p) : StOk K ⟨u.S, u.T, u.n, upd u.H0 p o, u.H1⟩ := by
  refine ⟨fun a ha => ?_, s.tb, s.on⟩
  obtain ⟨h0, w, h1, hs⟩ := s a ha
  have q : a ≠ p := fun q => n (q ▸ ha)
  exact ⟨(upd_ne q).trans h0, w, h1, hs.mono ⟨fun _ h => h, fun _ _ => rfl, ex_new h0'⟩ (Nat.le_refl _)⟩
/-- an object that is not settled changes -/
theorem Gs.write {b : Wd} (g : Gs b u) {p : Addr} {o : HO} (hb : b.H1 p = none) (h0 : u.H0 p = none) : Gs b ⟨u.S, u.T, u.n, u.H0, upd u.H1 p o⟩ :=
  ⟨g.a, fun x w s hx => by
      show upd u.H1 p o x = some w
      have q : x ≠ p := fun q => by rw [q, hb] at hx; cases hx
      rw [upd_ne q]; exact g.b x w s hx, fun x hx => by
      show upd u.H1 p o x ≠ none
      by_cases q : x = p
      · subst q; rw [upd_same]; simp
      · rw [upd_ne q]; exact g.b' x hx, fun x w hx => by
      show upd u.H1 p o x = some w
      have q : x ≠ p := fun q => by rw [q, h0] at hx; cases hx
      rw [upd_ne q]; exact g.c x w hx, g.n, g.sub, g.kd, g.new, g.le⟩
theorem StOk.write (s : StOk K u) {p : Addr} {o : HO} (n : ¬ u.S p) : StOk K ⟨u.S, u.T, u.n, u.H0, upd u.H1 p o⟩ := by
  refine ⟨fun a ha => ?_, s.tb, s.on⟩
  obtain ⟨h0, w, h1, hs⟩ := s a ha
  have q : a ≠ p := fun q => n (q ▸ ha)
  exact ⟨h0, w, (upd_ne q).trans h1, hs.mono ⟨fun _ h => h, fun _ _ => rfl, .refl _⟩ (Nat.le_refl _)⟩
end
end DL

namespace DL
open PySem L2
section
variable {K : PySem.W.Frag} [Tb K] {Z : ZX} {b u u' u'' : Wd}
/-- whether a thing stands in a slot alone, still being made -/
def isMut : D → Bool
  | .mls _ | .mob _ _ _ _ | .mdk _ => true
  | _ => false
/-- what a slot holds -/
inductive DenS (K : PySem.W.Frag) (b u : Wd) : V → D → Prop
  | den {v : V} {d : D} : Den K u v d → DenS K b u v d
  | mls {a : Addr} {xs : List V} {ds : List D} : b.H1 a = none → u.H0 a = none → ¬ u.S a → u.H1 a = some (.lst xs) → Dens K u xs ds → DenS K b u (.ref a) (.mls ds)
  | mob {a C dx : Addr} {fs : List (Str × V)} {gs : List (Str × D)} : b.H1 a = none → u.H0 a = none → ¬ u.S a → u.H1 a = some (.ins C dx fs) → u.H1 dx = some (.own a) → ¬ u.S dx → DenF K u fs gs → DenS K b u (.ref a) (.mob a dx C gs)
  | mdk {a : Addr} {kvs : List (Key × V)} {gs : List (Key × D)} : b.H1 a = none → u.H0 a = none → ¬ u.S a → u.H1 a = some (.dK kvs) → DenK K u kvs gs → DenS K b u (.ref a) (.mdk gs)
theorem Den.notMut {v : V} {d : D} (h : Den K u v d) : isMut d = false := by
  cases h <;> rfl
theorem DenS.imm {v : V} {d : D} (h : DenS K b u v d) (i : isMut d = false) : Den K u v d := by
  cases h with
  | den h => exact h
  | mls => cases i
  | mob => cases i
  | mdk => cases i
theorem Gs.nn (g : Gs u u') {a : Addr} {o : HO} (e0 : u.H0 a = none) (e1 : u.H1 a = some o) : u'.H0 a = none := by
  cases q : u'.H0 a with
  | none => rfl
  | some w =>
    have z := g.n a e0 (by rw [q]; simp)
    rw [z] at e1; cases e1
theorem Gs.ns (g : Gs u u') {a : Addr} {o : HO} (e0 : ¬ u.S a) (e1 : u.H1 a = some o) : ¬ u'.S a := fun h => by
  rcases g.new a h with h | h
  · exact e0 h
  · rw [h] at e1; cases e1
theorem DenS.mono {v : V} {d : D} (g : Gs u u') (h : DenS K b u v d) : DenS K b u' v d := by
  cases h with
  | den h => exact .den (h.mono g.ls)
  | mls hb h0 hs h1 r => exact .mls hb (g.nn h0 h1) (g.ns hs h1) (g.b _ _ hs h1) (r.mono g.ls)
  | mob hb h0 hs h1 h2 hx r => exact .mob hb (g.nn h0 h1) (g.ns hs h1) (g.b _ _ hs h1) (g.b _ _ hx h2) (g.ns hx h2) (r.mono g.ls)
  | mdk hb h0 hs h1 r => exact .mdk hb (g.nn h0 h1) (g.ns hs h1) (g.b _ _ hs h1) (r.mono g.ls)
/-- where exceptions go, and what is told of them: class, fields, the bound of the streams -/
structure ZX where
  E : XK
  X : Addr → List (Str × D) → Nat → Prop
/-- an exception that flies: of the class C, with these fields -/
def DenE (K : PySem.W.Frag) [Tb K] (u : Wd) (cls : Value) (d : Option Addr) (C : Addr) (fs : List (Str × D)) : Prop :=
  cls = .ref C ∧ ((d = none ∧ fs = []) ∨ ∃ dx vs, d = some dx ∧ u.H0 dx = some (.xd vs) ∧ DenF K u vs fs)
def XOk (K : PySem.W.Frag) [Tb K] (Z : ZX) (b : Wd) : Prop := ∀ cls d C fs u', Gs b u' → StOk K u' → DenE K u' cls d C fs → Z.X C fs u'.n → Z.E cls d u'.H1
abbrev DS := List (Option D)
/-- the slots, told by data; b: the world that the def was handed -/
structure Sd (K : PySem.W.Frag) [Tb K] (Z : ZX) (b u : Wd) (σ : St) (ds : DS) : Prop where
  gr : Gs b u
  xk : XOk K Z b
  st : StOk K u
  len : σ.length = ds.length
  sl : ∀ (i : Nat) (d : D), ds[i]? = some (some d) → ∃ v, σ[i]? = some (some v) ∧ DenS K b u v d
  ap : ∀ (i j : Nat) (d e : D) (a c : Addr), ds[i]? = some (some d) → ds[j]? = some (some e) → isMut d = true → isMut e = true → i ≠ j → σ[i]? = some (some (.ref a)) → σ[j]? = some (some (.ref c)) → a ≠ c
variable {σ : St} {ds : DS}
theorem Sd.ex (S : Sd K Z b u σ ds) : Ex u.H0 u.H1 := S.gr.c
theorem Sd.go (S : Sd K Z b u σ ds) (g : Gs u u') (s : StOk K u') : Sd K Z b u' σ ds :=
  ⟨S.gr.trans g, S.xk, s, S.len, fun i d e => let ⟨v, h1, h2⟩ := S.sl i d e; ⟨v, h1, h2.mono g⟩, S.ap⟩
theorem get_set {α : Type} (l : List α) (i j : Nat) (x : α) : (l.set i x)[j]? = if i = j then (if i < l.length then some x else none) else l[j]? := by
  rw [List.getElem?_set]
/-- a value stored -/
theorem Sd.set {i : Nat} {v : V} {d : D} (S : Sd K Z b u σ ds) (h : Den K u v d) : Sd K Z b u (σ.set i (some v)) (ds.set i (some d)) := by
  refine ⟨S.gr, S.xk, S.st, by simp [S.len], fun j e q => ?_, fun j k e f a b h1 h2 m1 m2 ne q1 q2 => ?_⟩
  · by_cases q' : i = j
    · subst q'
      rw [get_set] at q
      by_cases hl : i < ds.length
      · simp [hl] at q
        subst q
        exact ⟨v, by simp [get_set, S.len, hl], .den h⟩
      · simp [hl] at q
    · rw [get_set, if_neg q'] at q
      obtain ⟨w, h1, h2⟩ := S.sl j e q
      exact ⟨w, by rw [get_set, if_neg q']; exact h1, h2⟩
  · have nd := h.notMut
    have k1 : i ≠ j := fun z => by
      subst z
      rw [get_set] at h1
      by_cases hl : i < ds.length
      · simp [hl] at h1; subst h1; rw [nd] at m1; cases m1
      · simp [hl] at h1
    have k2 : i ≠ k := fun z => by
      subst z
      rw [get_set] at h2
      by_cases hl : i < ds.length
      · simp [hl] at h2; subst h2; rw [nd] at m2; cases m2
      · simp [hl] at h2
    rw [get_set, if_neg k1] at h1 q1
    rw [get_set, if_neg k2] at h2 q2
    exact S.ap j k e f a b h1 h2 m1 m2 ne q1 q2

/-! ### judgements: P of what comes out, and of the bound of the streams behind -/
def We (K : PySem.W.Frag) [Tb K] (Z : ZX) (te : TE) (ds : DS) (n : Nat) (P : D → Nat → Prop) : Prop :=
  ∀ (b u : Wd) (σ : St) (Q : VK), u.n = n → Sd K Z b u σ ds → (∀ v d u', Gs u u' → StOk K u' → Den K u' v d → P d u'.n → Q v u'.H1) → te σ u.H1 Q
def Wt (K : PySem.W.Frag) [Tb K] (Z : ZX) (tt : TT) (ds : DS) (n : Nat) (P : Bool → Nat → Prop) : Prop :=
  ∀ (b u : Wd) (σ : St) (Q : Bool → Hp → Prop), u.n = n → Sd K Z b u σ ds → (∀ c u', Gs u u' → StOk K u' → P c u'.n → Q c u'.H1) → tt σ u.H1 Q
def Wa (K : PySem.W.Frag) [Tb K] (Z : ZX) (ta : TA) (ds : DS) (n : Nat) (P : List D → Nat → Prop) : Prop :=
  ∀ (b u : Wd) (σ : St) (Q : List V → Hp → Prop), u.n = n → Sd K Z b u σ ds → (∀ vs xs u', Gs u u' → StOk K u' → Dens K u' vs xs → P xs u'.n → Q vs u'.H1) → ta σ u.H1 Q
def Wo (K : PySem.W.Frag) [Tb K] (Z : ZX) (to : TO) (ds : DS) (n : Nat) (P : Option Int → Nat → Prop) : Prop :=
  ∀ (b u : Wd) (σ : St) (Q : Option Int → Hp → Prop), u.n = n → Sd K Z b u σ ds → (∀ c u', Gs u u' → StOk K u' → P c u'.n → Q c u'.H1) → to σ u.H1 Q
structure Nd where
  nx : DS → Nat → Prop
  rt : D → Nat → Prop
  bk : DS → Nat → Prop := fun _ _ => False
  ct : DS → Nat → Prop := fun _ _ => False
/-- the ends of a statement at the heaps, where the ends at the data are N; s: where it began -/
structure EndsOk (K : PySem.W.Frag) [Tb K] (Z : ZX) (b s : Wd) (De : Ends) (N : Nd) : Prop where
  nx : ∀ ds u σ, Le s u → Sd K Z b u σ ds → N.nx ds u.n → De.nx σ u.H1
  rt : ∀ d v u, Gs b u → StOk K u → Den K u v d → N.rt d u.n → De.rt v u.H1
  bk : ∀ ds u σ, Le s u → Sd K Z b u σ ds → N.bk ds u.n → De.bk σ u.H1
  ct : ∀ ds u σ, Le s u → Sd K Z b u σ ds → N.ct ds u.n → De.ct σ u.H1
theorem EndsOk.mono {s s' : Wd} {De : Ends} {N : Nd} (O : EndsOk K Z b s De N) (e : Le s s') : EndsOk K Z b s' De N :=
  ⟨fun ds u σ x => O.nx ds u σ (e.trans x), O.rt, fun ds u σ x => O.bk ds u σ (e.trans x), fun ds u σ x => O.ct ds u σ (e.trans x)⟩
def Ws (K : PySem.W.Frag) [Tb K] (Z : ZX) (ts : TS) (ds : DS) (n : Nat) (N : Nd) : Prop :=
  ∀ (b u : Wd) (σ : St) (De : Ends), u.n = n → Sd K Z b u σ ds → EndsOk K Z b u De N → ts De σ u.H1
/-- a target: x is stored -/
def Wg (K : PySem.W.Frag) [Tb K] (Z : ZX) (g : TG) (x : D) (ds : DS) (P : DS → Prop) : Prop :=
  ∀ (b u : Wd) (σ : St) (v : V) (Q : St → Hp → Prop), Sd K Z b u σ ds → Den K u v x → (∀ ds' σ', Sd K Z b u σ' ds' → P ds' → Q σ' u.H1) → g v σ u.H1 Q
def Wgs (K : PySem.W.Frag) [Tb K] (Z : ZX) (g : TGs) (xs : List D) (ds : DS) (P : DS → Prop) : Prop :=
  ∀ (b u : Wd) (σ : St) (vs : List V) (Q : St → Hp → Prop), Sd K Z b u σ ds → Dens K u vs xs → (∀ ds' σ', Sd K Z b u σ' ds' → P ds' → Q σ' u.H1) → g vs σ u.H1 Q

/-! ### expressions -/
variable {n : Nat} {P : D → Nat → Prop} {te ta tb tc : TE} {N : Nd}
theorem We.imp {P' : D → Nat → Prop} (h : We K Z te ds n P) (i : ∀ d m, P d m → P' d m) : We K Z te ds n P' := fun b u σ Q e S k => h b u σ Q e S fun v d u' g s r p => k v d u' g s r (i d _ p)
theorem we_here {v : V} {d : D} (hd : ∀ u, Den K u v d) (p : P d n) : We K Z (tC v) ds n P := fun b u σ Q e S k => k _ d u (.refl S.ex) S.st (hd u) (e ▸ p)
theorem we_var {i : Nat} {d : D} (h : ds[i]? = some (some d)) (m : isMut d = false) (p : P d n) : We K Z (tVar i) ds n P := fun b u σ Q e S k => by
  obtain ⟨v, h1, h2⟩ := S.sl i d h
  exact ⟨v, h1, k v d u (.refl S.ex) S.st (h2.imm m) (e ▸ p)⟩
theorem we_int {i : Int} (p : P (.int i) n) : We K Z (tC (.int i)) ds n P := we_here (fun _ => .int i) p
theorem we_bl {i : Bool} (p : P (.bl i) n) : We K Z (tC (.bl i)) ds n P := we_here (fun _ => .bl i) p
theorem we_non (p : P .non n) : We K Z (tC .non) ds n P := we_here (fun _ => .non) p
theorem we_str {x : Str} (p : P (.str x) n) : We K Z (tC (.str x)) ds n P := we_here (fun _ => .str x) p
theorem we_ty {x : String} (p : P (.ty x) n) : We K Z (tC (.ty x)) ds n P := we_here (fun _ => .ty x) p
theorem we_cls {x : Addr} (p : P (.cls x) n) : We K Z (tC (.ref x)) ds n P := we_here (fun _ => .cls x) p
/-- pure growth -/
structure Gp (K : PySem.W.Frag) [Tb K] (u v : Wd) : Prop where
  g : Gs u v
  st : StOk K u → StOk K v
  n : v.n = u.n
theorem Gp.refl (e : Ex u.H0 u.H1) : Gp K u u := ⟨.refl e, fun h => h, rfl⟩
theorem Gp.put (e : Ex u.H0 u.H1) {p : Addr} {o : HO} (h : u.H1 p = none) : Gp K u (u.put p o) := ⟨.put e h, fun s => s.put e h, rfl⟩
theorem Gp.trans (g : Gp K u u') (k : Gp K u' u'') : Gp K u u'' := ⟨g.g.trans k.g, fun s => k.st (g.st s), k.n.trans g.n⟩
/-- an operator on data -/
def Op (K : PySem.W.Frag) [Tb K] (r : R2) (x y : D) (P : D → Prop) : Prop :=
  ∀ (u : Wd) (v w : V) (Q : VK), Ex u.H0 u.H1 → StOk K u → Den K u v x → Den K u w y → (∀ z d u', Gp K u u' → Den K u' z d → P d → Q z u'.H1) → r v w u.H1 Q
theorem we_op {r : R2} (h : We K Z ta ds n fun x m => We K Z tb ds m fun y k => Op K r x y fun z => P z k) : We K Z (tOp r ta tb) ds n P := fun b u σ Q e S k =>
  h b u σ _ e S fun v x u1 g1 s1 d1 h2 => h2 b u1 σ _ rfl (S.go g1 s1) fun w y u2 g2 s2 d2 h3 => h3 u2 v w Q g2.c s2 (d1.mono g2.ls) d2 fun z d u3 g3 d3 p => k z d u3 ((g1.trans g2).trans g3.g) (g3.st s2) d3 (g3.n ▸ p)
def Un (K : PySem.W.Frag) [Tb K] (r : V → Hp → VK → Prop) (x : D) (P : D → Prop) : Prop :=
  ∀ (u : Wd) (v : V) (Q : VK), Ex u.H0 u.H1 → Den K u v x → (∀ z d u', Gp K u u' → Den K u' z d → P d → Q z u'.H1) → r v u.H1 Q
theorem wa_nil {P : List D → Nat → Prop} (p : P [] n) : Wa K Z tNil ds n P := fun b u σ Q e S k => k _ [] u (.refl S.ex) S.st .nil (e ▸ p)
theorem wa_cons {P : List D → Nat → Prop} {tr : TA} (h : We K Z ta ds n fun x m => Wa K Z tr ds m fun xs k => P (x :: xs) k) : Wa K Z (tCons ta tr) ds n P := fun b u σ Q e S k =>
  h b u σ _ e S fun v x u1 g1 s1 d1 h2 => h2 b u1 σ _ rfl (S.go g1 s1) fun vs xs u2 g2 s2 d2 p => k (v :: vs) (x :: xs) u2 (g1.trans g2) s2 (.cons (d1.mono g2.ls) d2) p
/-- what a call of a built-in gives -/
def Cb (K : PySem.W.Frag) [Tb K] (r : List V → Hp → VK → Prop) (xs : List D) (P : D → Prop) : Prop :=
  ∀ (u : Wd) (vs : List V) (Q : VK), Ex u.H0 u.H1 → Dens K u vs xs → (∀ z d u', Gp K u u' → Den K u' z d → P d → Q z u'.H1) → r vs u.H1 Q
theorem we_cb {r : List V → Hp → VK → Prop} {t : TA} (h : Wa K Z t ds n fun xs m => Cb K r xs fun z => P z m) : We K Z (tCB r t) ds n P := fun b u σ Q e S k =>
  h b u σ _ e S fun vs xs u1 g1 s1 d1 h2 => h2 u1 vs Q g1.c d1 fun z d u3 g3 d3 p => k z d u3 (g1.trans g3.g) (g3.st s1) d3 (g3.n ▸ p)
theorem sz100 {n : Nat} (h : n ≤ 1000000) : n ≤ sizeLine := Nat.le_trans h (by decide)
theorem we_tup {t : TA} (h : Wa K Z t ds n fun xs m => xs.length ≤ 1000000 ∧ P (.tup xs) m) : We K Z (tTup t) ds n P := fun b u σ Q e S k =>
  h b u σ _ e S fun vs xs u1 g1 s1 d1 h2 => ⟨by rw [d1.len]; exact sz100 h2.1, fun p hp => k _ _ (u1.put p _) (g1.trans (.put g1.c hp)) (s1.put g1.c hp) (.tup (SqT.of upd_same) (d1.mono (Gs.put g1.c hp).ls)) h2.2⟩
theorem we_lst {t : TA} (h : Wa K Z t ds n fun xs m => xs.length ≤ 1000000 ∧ P (.lst xs) m) : We K Z (tLst t) ds n P := fun b u σ Q e S k =>
  h b u σ _ e S fun vs xs u1 g1 s1 d1 h2 => ⟨by rw [d1.len]; exact sz100 h2.1, fun p hp => k _ _ (u1.put p _) (g1.trans (.put g1.c hp)) (s1.put g1.c hp) (.lst (SqL.of upd_same) (d1.mono (Gs.put g1.c hp).ls)) h2.2⟩
/-! ### tests -/
theorem wt_test {P : Bool → Nat → Prop} (h : We K Z te ds n fun d m => ∃ c, d = .bl c ∧ P c m) : Wt K Z (tTest te) ds n P := fun b u σ Q e S k =>
  h b u σ _ e S fun v d u1 g1 s1 d1 ⟨c, q, p⟩ => by
    subst q
    cases den_bl d1
    exact ⟨c, rfl, k c u1 g1 s1 p⟩
theorem wt_B {P : Bool → Nat → Prop} (h : We K Z te ds n fun d m => ∃ c, d = .bl c ∧ P c m) : Wt K Z (tB te) ds n P := fun b u σ Q e S k =>
  h b u σ _ e S fun v d u1 g1 s1 d1 ⟨c, q, p⟩ => by
    subst q
    cases den_bl d1
    exact ⟨c, rfl, k c u1 g1 s1 p⟩
theorem wt_yes {P : Bool → Nat → Prop} (p : P true n) : Wt K Z tYes ds n P := fun b u σ Q e S k => k true u (.refl S.ex) S.st (e ▸ p)
variable {tt tu : TT}
theorem wt_and {P : Bool → Nat → Prop} (h : Wt K Z tt ds n fun c m => if c = true then Wt K Z tu ds m P else P false m) : Wt K Z (tAnd tt tu) ds n P := fun b u σ Q e S k =>
  h b u σ _ e S fun c u1 g1 s1 q => by
    cases c with
    | true => exact q b u1 σ Q rfl (S.go g1 s1) fun c u2 g2 s2 p => k c u2 (g1.trans g2) s2 p
    | false => exact k false u1 g1 s1 q
theorem wt_or {P : Bool → Nat → Prop} (h : Wt K Z tt ds n fun c m => if c = true then P true m else Wt K Z tu ds m P) : Wt K Z (tOr tt tu) ds n P := fun b u σ Q e S k =>
  h b u σ _ e S fun c u1 g1 s1 q => by
    cases c with
    | true => exact k true u1 g1 s1 q
    | false => exact q b u1 σ Q rfl (S.go g1 s1) fun c u2 g2 s2 p => k c u2 (g1.trans g2) s2 p
theorem wt_not {P : Bool → Nat → Prop} (h : Wt K Z tt ds n fun c m => P (!c) m) : Wt K Z (tNot tt) ds n P := fun b u σ Q e S k =>
  h b u σ _ e S fun c u1 g1 s1 q => k (!c) u1 g1 s1 q
theorem we_andV (h : We K Z ta ds n fun d m => ∃ c, d = .bl c ∧ if c = true then We K Z tb ds m P else P (.bl false) m) : We K Z (tAndV ta tb) ds n P := fun b u σ Q e S k =>
  h b u σ _ e S fun v d u1 g1 s1 d1 ⟨c, z, q⟩ => by
    subst z
    cases den_bl d1
    refine ⟨c, rfl, ?_⟩
    cases c with
    | true => exact q b u1 σ Q rfl (S.go g1 s1) fun v d u2 g2 s2 r p => k v d u2 (g1.trans g2) s2 r p
    | false => exact k _ _ u1 g1 s1 (.bl false) q
theorem we_orV (h : We K Z ta ds n fun d m => ∃ c, d = .bl c ∧ if c = true then P (.bl true) m else We K Z tb ds m P) : We K Z (tOrV ta tb) ds n P := fun b u σ Q e S k =>
  h b u σ _ e S fun v d u1 g1 s1 d1 ⟨c, z, q⟩ => by
    subst z
    cases den_bl d1
    refine ⟨c, rfl, ?_⟩
    cases c with
    | true => exact k _ _ u1 g1 s1 (.bl true) q
    | false => exact q b u1 σ Q rfl (S.go g1 s1) fun v d u2 g2 s2 r p => k v d u2 (g1.trans g2) s2 r p
theorem we_notV (h : We K Z ta ds n fun d m => ∃ c, d = .bl c ∧ P (.bl (!c)) m) : We K Z (tNotV ta) ds n P := fun b u σ Q e S k =>
  h b u σ _ e S fun v d u1 g1 s1 d1 ⟨c, z, q⟩ => by
    subst z
    cases den_bl d1
    exact ⟨c, rfl, k _ _ u1 g1 s1 (.bl (!c)) q⟩
theorem we_if (h : Wt K Z tt ds n fun c m => if c = true then We K Z ta ds m P else We K Z tb ds m P) : We K Z (tIf tt ta tb) ds n P := fun b u σ Q e S k =>
  h b u σ _ e S fun c u1 g1 s1 q => by
    cases c with
    | true => exact q b u1 σ Q rfl (S.go g1 s1) fun v d u2 g2 s2 r p => k v d u2 (g1.trans g2) s2 r p
    | false => exact q b u1 σ Q rfl (S.go g1 s1) fun v d u2 g2 s2 r p => k v d u2 (g1.trans g2) s2 r p
theorem wo_none {P : Option Int → Nat → Prop} (p : P none n) : Wo K Z tNoPart ds n P := fun b u σ Q e S k => k _ u (.refl S.ex) S.st (e ▸ p)
theorem wo_some {P : Option Int → Nat → Prop} (h : We K Z te ds n fun d m => ∃ i, d = .int i ∧ P (some i) m) : Wo K Z (tPart te) ds n P := fun b u σ Q e S k =>
  h b u σ _ e S fun v d u1 g1 s1 d1 ⟨i, z, q⟩ => by
    subst z
    cases den_int d1
    exact ⟨i, rfl, k _ u1 g1 s1 q⟩
def Sl (K : PySem.W.Frag) [Tb K] (r : V → Option Int → Option Int → Hp → VK → Prop) (x : D) (lo hi : Option Int) (P : D → Prop) : Prop :=
  ∀ (u : Wd) (v : V) (Q : VK), Ex u.H0 u.H1 → Den K u v x → (∀ z d u', Gp K u u' → Den K u' z d → P d → Q z u'.H1) → r v lo hi u.H1 Q
theorem we_sl {r : V → Option Int → Option Int → Hp → VK → Prop} {tl th : TO} (h : We K Z te ds n fun x m => Wo K Z tl ds m fun lo k => Wo K Z th ds k fun hi j => Sl K r x lo hi fun z => P z j) : We K Z (tSl r te tl th) ds n P := fun b u σ Q e S k =>
  h b u σ _ e S fun v x u1 g1 s1 d1 h1 => h1 b u1 σ _ rfl (S.go g1 s1) fun lo u2 g2 s2 h2 => h2 b u2 σ _ rfl ((S.go g1 s1).go g2 s2) fun hi u3 g3 s3 h3 =>
    h3 u3 v Q g3.c (d1.mono (g2.ls.trans g3.ls)) fun z d u4 g4 r p => k z d u4 (((g1.trans g2).trans g3).trans g4.g) (g4.st s3) r (g4.n ▸ p)
theorem we_fld {f : Str} (h : We K Z te ds n fun x m => ∃ C fs d, x = .obj C fs ∧ Cls K C ∧ NoAttr K C f ∧ fs.lookup f = some d ∧ P d m) : We K Z (tFld K te f) ds n P := fun b u σ Q e S k =>
  h b u σ _ e S fun v x u1 g1 s1 d1 ⟨C, fs, d, z, hc, hn, hl, p⟩ => by
    subst z
    obtain ⟨a, dx, fv, rfl, ha, hf⟩ := den_obj d1
    obtain ⟨w, h1, h2⟩ := hf.look hl
    exact ⟨_, _, _, _, w, rfl, g1.c _ _ ha, hc, hn, h1, k w d u1 g1 s1 h2 p⟩
theorem we_chain {r r' : R2} (h : We K Z ta ds n fun x m => We K Z tb ds m fun y k => Op K r x y fun z => ∃ c, z = .bl c ∧ if c = true then We K Z tc ds k fun w j => Op K r' y w fun z => P z j else P (.bl false) k) : We K Z (tChain r r' ta tb tc) ds n P := fun b u σ Q e S k =>
  h b u σ _ e S fun v x u1 g1 s1 d1 h1 => h1 b u1 σ _ rfl (S.go g1 s1) fun w y u2 g2 s2 d2 h2 => h2 u2 v w _ g2.c s2 (d1.mono g2.ls) d2 fun t z u3 g3 d3 ⟨c, q, p⟩ => by
    subst q
    cases den_bl d3
    refine ⟨c, rfl, ?_⟩
    cases c with
    | false => exact k _ _ u3 ((g1.trans g2).trans g3.g) (g3.st s2) (.bl false) (g3.n ▸ p)
    | true => exact p b u3 σ _ g3.n (((S.go g1 s1).go g2 s2).go g3.g (g3.st s2)) fun w' y' u4 g4 s4 d4 h4 => h4 u4 w w' Q g4.c s4 ((d2.mono g3.g.ls).mono g4.ls) d4 fun t d u5 g5 d5 p => k t d u5 ((((g1.trans g2).trans g3.g).trans g4).trans g5.g) (g5.st s4) d5 (g5.n ▸ p)
/-! ### statements -/
variable {ts t1 t2 : TS} {g : TG} {De : Ends}
theorem ws_next (p : N.nx ds n) : Ws K Z tNext ds n N := fun b u σ De e S O => O.nx _ u σ .refl S (e ▸ p)
theorem ws_seq (h : Ws K Z t1 ds n { N with nx := fun ds' m => Ws K Z t2 ds' m N }) : Ws K Z (tSeq t1 t2) ds n N := fun b u σ De e S O =>
  h b u σ _ e S ⟨fun ds' u' σ' x S' q => q b u' σ' De rfl S' (O.mono x), O.rt, O.bk, O.ct⟩
theorem ws_drop (h : We K Z te ds n fun _ m => N.nx ds m) : Ws K Z (tDrop te) ds n N := fun b u σ De e S O =>
  h b u σ _ e S fun v d u1 g1 s1 r p => O.nx _ u1 _ g1.ls (S.go g1 s1) p
theorem ws_ret (h : We K Z te ds n N.rt) : Ws K Z (tRet te) ds n N := fun b u σ De e S O =>
  h b u σ _ e S fun v d u1 g1 s1 r p => O.rt d v u1 (S.gr.trans g1) s1 r p
theorem ws_if (h : Wt K Z tt ds n fun c m => if c = true then Ws K Z t1 ds m N else Ws K Z t2 ds m N) : Ws K Z (tIfS tt t1 t2) ds n N := fun b u σ De e S O =>
  h b u σ _ e S fun c u1 g1 s1 q => by
    cases c with
    | true => exact q b u1 σ De rfl (S.go g1 s1) (O.mono g1.ls)
    | false => exact q b u1 σ De rfl (S.go g1 s1) (O.mono g1.ls)
theorem ws_asg (h : We K Z te ds n fun d m => Wg K Z g d ds fun ds' => N.nx ds' m) : Ws K Z (tAsg te g) ds n N := fun b u σ De e S O =>
  h b u σ _ e S fun v d u1 g1 s1 r p => p b u1 σ v _ (S.go g1 s1) r fun ds' σ' S' q => O.nx _ u1 _ g1.ls S' q
theorem wg_name {i : Nat} {x : D} {P : DS → Prop} (p : P (ds.set i (some x))) : Wg K Z (gName i) x ds P := fun b u σ v Q S r k => k _ _ (S.set r) p
theorem wgs_nil {P : DS → Prop} {xs : List D} (e : xs = []) (p : P ds) : Wgs K Z gNil xs ds P := fun b u σ v Q S r k => by
  subst e
  cases r
  exact ⟨rfl, k _ _ S p⟩
theorem wgs_cons {P : DS → Prop} {x : D} {xs ys : List D} {gs : TGs} (e : ys = x :: xs) (h : Wg K Z g x ds fun ds' => Wgs K Z gs xs ds' P) : Wgs K Z (gCons g gs) ys ds P := fun b u σ v Q S r k => by
  subst e
  cases r with
  | cons r1 r2 =>
    rename_i v vs
    exact ⟨v, vs, rfl, h b u σ v _ S r1 fun ds' σ' S' q => q b u σ' vs _ S' r2 k⟩
theorem wg_tup {P : DS → Prop} {j : Nat} {x : D} {xs : List D} {gs : TGs} (e : x = .tup xs) (hn : xs.length = j) (h : Wgs K Z gs xs ds P) : Wg K Z (gTup K j gs) x ds P := fun b u σ v Q S r k => by
  subst e
  obtain ⟨a, vs, rfl, q, r2⟩ := den_tup r
  exact ⟨_, _, rfl, Evl.ex_t S.ex q, r2.len.trans hn, h b u σ _ Q S r2 k⟩
/-- a slot forgotten -/
theorem Sd.drop {i : Nat} {y : Option V} (S : Sd K Z b u σ ds) : Sd K Z b u (σ.set i y) (ds.set i none) := by
  refine ⟨S.gr, S.xk, S.st, by simp [S.len], fun j e q => ?_, fun j k e f a b h1 h2 m1 m2 ne q1 q2 => ?_⟩
  · by_cases q' : i = j
    · subst q'
      rw [get_set] at q
      by_cases hl : i < ds.length <;> simp [hl] at q
    · rw [get_set, if_neg q'] at q
      obtain ⟨w, h1, h2⟩ := S.sl j e q
      exact ⟨w, by rw [get_set, if_neg q']; exact h1, h2⟩
  · have k1 : i ≠ j := fun z => by
      subst z
      rw [get_set] at h1
      by_cases hl : i < ds.length <;> simp [hl] at h1
    have k2 : i ≠ k := fun z => by
      subst z
      rw [get_set] at h2
      by_cases hl : i < ds.length <;> simp [hl] at h2
    rw [get_set, if_neg k1] at h1 q1
    rw [get_set, if_neg k2] at h2 q2
    exact S.ap j k e f a b h1 h2 m1 m2 ne q1 q2
/-- what a slot is making changes -/
theorem Sd.change {i : Nat} {a : Addr} {o : HO} {d d' : D} (S : Sd K Z b u σ ds) (hd : ds[i]? = some (some d)) (m : isMut d = true) (hs : σ[i]? = some (some (.ref a))) (m' : isMut d' = true) (hb : b.H1 a = none) (h0 : u.H0 a = none) (hS : ¬ u.S a)
    (hx' : ∀ x, u.H1 a ≠ some (.own x)) (new : DenS K b ⟨u.S, u.T, u.n, u.H0, upd u.H1 a o⟩ (.ref a) d') : Sd K Z b ⟨u.S, u.T, u.n, u.H0, upd u.H1 a o⟩ σ (ds.set i (some d')) := by
  have l1 : Le u ⟨u.S, u.T, u.n, u.H0, upd u.H1 a o⟩ := ⟨fun _ h => h, fun _ _ => rfl, .refl _⟩
  refine ⟨S.gr.write hb h0, S.xk, S.st.write hS, by simp [S.len], fun j e q => ?_, fun j k e f b c h1 h2 m1 m2 ne q1 q2 => ?_⟩
  · by_cases q' : i = j
    · subst q'
      have hl : i < ds.length := (List.getElem?_eq_some_iff.mp hd).1
      rw [get_set] at q
      simp [hl] at q
      subst q
      exact ⟨.ref a, hs, new⟩
    · rw [get_set, if_neg q'] at q
      obtain ⟨w, h1, h2⟩ := S.sl j e q
      refine ⟨w, h1, ?_⟩
      cases h2 with
      | den h => exact .den (h.mono l1)
      | mls b0 b1 b5 b2 b3 =>
        have z := S.ap i j _ _ _ _ hd q m rfl q' hs h1
        exact .mls b0 b1 b5 ((upd_ne z.symm).trans b2) (b3.mono l1)
      | mob b0 b1 b5 b2 b4 b6 b3 =>
        have z := S.ap i j _ _ _ _ hd q m rfl q' hs h1
        exact .mob b0 b1 b5 ((upd_ne z.symm).trans b2) ((upd_ne (fun z : _ = a => by rw [z] at b4; exact hx' _ b4)).trans b4) b6 (b3.mono l1)
      | mdk b0 b1 b5 b2 b3 =>
        have z := S.ap i j _ _ _ _ hd q m rfl q' hs h1
        exact .mdk b0 b1 b5 ((upd_ne z.symm).trans b2) (b3.mono l1)
  · have hl : i < ds.length := (List.getElem?_eq_some_iff.mp hd).1
    have at_ : ∀ (j : Nat) (e : D), (ds.set i (some d'))[j]? = some (some e) → isMut e = true → ∃ e', ds[j]? = some (some e') ∧ isMut e' = true := fun j e h m1 => by
      by_cases q : i = j
      · subst q; exact ⟨d, hd, m⟩
      · rw [get_set, if_neg q] at h; exact ⟨e, h, m1⟩
    obtain ⟨e', h1', m1'⟩ := at_ j e h1 m1
    obtain ⟨f', h2', m2'⟩ := at_ k f h2 m2
    exact S.ap j k e' f' b c h1' h2' m1' m2' ne q1 q2
/-- xs.append(e) -/
theorem ws_append {i : Nat} {xs : List D} (hd : ds[i]? = some (some (.mls xs))) (hz : xs.length < 1000000) (h : We K Z te ds n fun d m => N.nx (ds.set i (some (.mls (xs ++ [d])))) m) : Ws K Z (tDrop (tBM K "list" rAppend (tVar i) (tCons te tNil))) ds n N := fun b u σ De e S O => by
  obtain ⟨v, hv, hS⟩ := S.sl i _ hd
  cases hS with
  | den h => cases h
  | mls b0 b1 b5 b2 b3 =>
    rename_i a vs
    refine ⟨.ref a, hv, ⟨Or.inl ⟨rfl, vs, SqL.of b2⟩, h b u σ _ e S fun w d u1 g1 s1 r p => ?_⟩⟩
    have S' := S.go g1 s1
    obtain ⟨v', hv', hS'⟩ := S'.sl i _ hd
    rw [hv] at hv'
    cases hv'
    cases hS' with
    | den h => cases h
    | mls c0 c1 c5 c2 c3 =>
      have z : vs = _ := HO.lst.inj (Option.some.inj ((g1.b _ _ b5 b2).symm.trans c2))
      subst z
      have l1 : Le u1 ⟨u1.S, u1.T, u1.n, u1.H0, upd u1.H1 a (.lst (vs ++ [w]))⟩ := ⟨fun _ h => h, fun _ _ => rfl, .refl _⟩
      exact ⟨a, vs, w, rfl, rfl, c2, by rw [c3.len]; exact Nat.lt_of_lt_of_le hz (by decide), O.nx _ ⟨u1.S, u1.T, u1.n, u1.H0, _⟩ _ ⟨g1.sub, g1.kd, g1.a⟩ (S'.change hd rfl hv rfl c0 c1 c5 (fun _ z => by rw [c2] at z; cases z) (.mls c0 c1 c5 upd_same ((c3.app (.cons r .nil)).mono l1))) p⟩
/-- what a slot is making is done -/
theorem Sd.settle {i : Nat} {xs : List D} (S : Sd K Z b u σ ds) (hd : ds[i]? = some (some (.mls xs))) : ∃ u', Le u u' ∧ u'.n = u.n ∧ u'.H1 = u.H1 ∧ Sd K Z b u' σ (ds.set i (some (.lst xs))) := by
  obtain ⟨v, hv, hS⟩ := S.sl i _ hd
  cases hS with
  | den h => cases h
  | mls b0 b1 b5 b2 b3 =>
    rename_i a vs
    have l1 : Le u ⟨u.S, u.T, u.n, upd u.H0 a (.lst vs), u.H1⟩ := ⟨fun _ h => h, fun _ _ => rfl, ex_new b1⟩
    refine ⟨⟨u.S, u.T, u.n, upd u.H0 a (.lst vs), u.H1⟩, l1, rfl, rfl, S.gr.settle b0 b1 b2, S.xk, S.st.settle b1 b5, by simp [S.len], fun j e q => ?_, fun j k e f b c h1 h2 m1 m2 ne q1 q2 => ?_⟩
    · by_cases q' : i = j
      · subst q'
        have hl : i < ds.length := (List.getElem?_eq_some_iff.mp hd).1
        rw [get_set] at q
        simp [hl] at q
        subst q
        exact ⟨.ref a, hv, .den (.lst (SqL.of upd_same) (b3.mono l1))⟩
      · rw [get_set, if_neg q'] at q
        obtain ⟨w, h1, h2⟩ := S.sl j e q
        refine ⟨w, h1, ?_⟩
        cases h2 with
        | den h => exact .den (h.mono l1)
        | mls c0 c1 c5 c2 c3 => exact .mls c0 ((upd_ne (S.ap i j _ _ _ _ hd q rfl rfl q' hv h1).symm).trans c1) c5 c2 (c3.mono l1)
        | mob c0 c1 c5 c2 c4 c6 c3 => exact .mob c0 ((upd_ne (S.ap i j _ _ _ _ hd q rfl rfl q' hv h1).symm).trans c1) c5 c2 c4 c6 (c3.mono l1)
        | mdk c0 c1 c5 c2 c3 => exact .mdk c0 ((upd_ne (S.ap i j _ _ _ _ hd q rfl rfl q' hv h1).symm).trans c1) c5 c2 (c3.mono l1)
    · have hl : i < ds.length := (List.getElem?_eq_some_iff.mp hd).1
      have ni : ∀ (j : Nat) (e : D), (ds.set i (some (D.lst xs)))[j]? = some (some e) → isMut e = true → ds[j]? = some (some e) := fun j e h m => by
        by_cases q : i = j
        · subst q
          rw [get_set] at h
          simp [hl] at h
          subst h
          cases m
        · rw [get_set, if_neg q] at h; exact h
      exact S.ap j k e f b c (ni _ _ h1 m1) (ni _ _ h2 m2) m1 m2 ne q1 q2
theorem ws_settle {i : Nat} {xs : List D} (hd : ds[i]? = some (some (.mls xs))) (h : Ws K Z ts (ds.set i (some (.lst xs))) n N) : Ws K Z ts ds n N := fun b u σ De e S O => by
  obtain ⟨u', x, en, eh, S'⟩ := S.settle hd
  have := h b u' σ De (en.trans e) S' (O.mono x)
  rw [eh] at this
  exact this
end
end DL

namespace DL
open PySem L2 StX
open PyProof.Rows (envOfC)
section
variable {K : PySem.W.Frag} [Tb K] {Z : ZX} {b u u' u'' : Wd} {σ : L2.St} {ds : DS} {n : Nat} {P : D → Nat → Prop} {te ta tb tc : TE} {tt tu : TT} {N : Nd} {ts t1 t2 : TS} {g : TG} {De : Ends} {Pl : List D → Nat → Prop}
/-! ### what is walked gives the data xs -/
def Wi (K : PySem.W.Frag) [Tb K] (Z : ZX) (wi : TI) (ds : DS) (n : Nat) (P : List D → Nat → Prop) : Prop :=
  ∀ (b u : Wd) (σ : St) (R : It → Hp → Prop), u.n = n → Sd K Z b u σ ds → (∀ J xs u' G Y, Gs u u' → StOk K u' → P xs u'.n → Walk J xs.length G Y → (∀ w, Le u' w → Ex w.H0 w.H1 → G w.H1) →
    (∀ w i v A, Le u' w → Ex w.H0 w.H1 → StOk K w → i < xs.length → Y i w.H1 v A → ∃ x w', w'.H1 = A ∧ xs[i]? = some x ∧ Gp K w w' ∧ Den K w' v x) → R J u'.H1) → wi σ u.H1 R
theorem ws_for {wi : TI} {g : TG} {tb : TS} (h : Wi K Z wi ds n fun xs m => ∃ Iv : Nat → DS → Nat → Prop, Iv 0 ds m ∧
    (∀ i x ds' k, xs[i]? = some x → Iv i ds' k → Wg K Z g x ds' fun ds2 => Ws K Z tb ds2 k { nx := Iv (i + 1), rt := N.rt, bk := N.nx, ct := Iv (i + 1) }) ∧ (∀ ds' k, Iv xs.length ds' k → N.nx ds' k)) : Ws K Z (tFor wi g tb) ds n N := fun b u σ De e S O =>
  h b u σ _ e S fun J xs u1 G Y g1 s1 ⟨Iv, i0, is, idn⟩ w hG hY => by
    refine for_it w (fun i σ' H' => ∃ w ds', w.H1 = H' ∧ Le u1 w ∧ Sd K Z b w σ' ds' ∧ Iv i ds' w.n) ⟨u1, ds, rfl, .refl, S.go g1 s1, i0⟩ (fun i σ' H' _ ⟨w, ds', eh, l, S', _⟩ => eh ▸ hG w l S'.ex) ?_ ?_
    · rintro i v σ' H' H'' hi ⟨w, ds', rfl, l, S', iv⟩ y
      obtain ⟨x, w', rfl, hx, g2, r⟩ := hY w i v H'' l S'.ex S'.st hi y
      have q := is i x ds' w.n hx iv
      rw [← g2.n] at q
      refine q b w' σ' v _ (S'.go g2.g (g2.st S'.st)) r fun ds2 σ2 S2 q => q b w' σ2 _ rfl S2 ⟨fun ds3 u3 σ3 x S3 q3 => ⟨u3, ds3, rfl, (l.trans g2.g.ls).trans x, S3, q3⟩, O.rt, fun ds3 u3 σ3 x S3 q3 => O.nx _ u3 _ (g1.ls.trans ((l.trans g2.g.ls).trans x)) S3 q3, fun ds3 u3 σ3 x S3 q3 => ⟨u3, ds3, rfl, (l.trans g2.g.ls).trans x, S3, q3⟩⟩
    · rintro σ' H' ⟨w, ds', rfl, l, S', iv⟩
      exact O.nx _ w _ (g1.ls.trans l) S' (idn ds' _ iv)
theorem wi_list (h : We K Z te ds n fun d m => ∃ xs, d = .lst xs ∧ Pl xs m) : Wi K Z (iList K te) ds n Pl := fun b u σ R e S k =>
  h b u σ _ e S fun v d u1 g1 s1 r ⟨xs, z, p⟩ => by
    subst z
    obtain ⟨a, vs, rfl, q, r⟩ := den_lst r
    refine ⟨a, rfl, ⟨vs, Evl.ex_l g1.c q⟩, k _ xs u1 _ _ g1 s1 p (r.len ▸ walk_list (K := K) (a := a) (xs := vs)) (fun w l e => Evl.ex_l e (Evl.ex_l l.h q)) fun w i v A l e1 _ hi y => ?_⟩
    obtain ⟨rfl, y⟩ := y
    obtain ⟨z, hz, hd⟩ := r.get y
    exact ⟨z, w, rfl, hz, .refl e1, hd.mono l⟩
theorem wi_tup (h : We K Z te ds n fun d m => ∃ xs, d = .tup xs ∧ Pl xs m) : Wi K Z (iTup K te) ds n Pl := fun b u σ R e S k =>
  h b u σ _ e S fun v d u1 g1 s1 r ⟨xs, z, p⟩ => by
    subst z
    obtain ⟨a, vs, rfl, q, r⟩ := den_tup r
    refine ⟨a, rfl, ⟨vs, Evl.ex_t g1.c q⟩, k _ xs u1 _ _ g1 s1 p (r.len ▸ walk_tup (K := K) (a := a) (xs := vs)) (fun w l e => Evl.ex_t e (Evl.ex_t l.h q)) fun w i v A l e1 _ hi y => ?_⟩
    obtain ⟨rfl, y⟩ := y
    obtain ⟨z, hz, hd⟩ := r.get y
    exact ⟨z, w, rfl, hz, .refl e1, hd.mono l⟩
def rng (lo : Int) (n : Nat) : List D := (List.range n).map fun (i : Nat) => D.int (lo + (i : Int))
theorem rng_len (lo : Int) (n : Nat) : (rng lo n).length = n := by simp [rng]
theorem rng_get {lo : Int} {n i : Nat} (h : i < n) : (rng lo n)[i]? = some (.int (lo + i)) := by simp [rng, h]
theorem wi_rng {lo : Int} {n : Nat} {R : It → Hp → Prop} (g : Gs u u') (s : StOk K u') (p : Pl (rng lo n) u'.n) (k : ∀ J xs u' G Y, Gs u u' → StOk K u' → Pl xs u'.n → Walk J xs.length G Y → (∀ w, Le u' w → Ex w.H0 w.H1 → G w.H1) →
    (∀ w i v A, Le u' w → Ex w.H0 w.H1 → StOk K w → i < xs.length → Y i w.H1 v A → ∃ x w', w'.H1 = A ∧ xs[i]? = some x ∧ Gp K w w' ∧ Den K w' v x) → R J u'.H1) : R (Itr lo n) u'.H1 := by
  refine k _ (rng lo n) u' _ _ g s p (by rw [rng_len]; exact walk_range (lo := lo) (n := n)) (fun _ _ _ => trivial) fun w i v A l e1 _ hi y => ?_
  obtain ⟨rfl, rfl⟩ := y
  exact ⟨.int (lo + i), w, rfl, rng_get (by simpa [rng_len] using hi), .refl e1, .int _⟩
theorem wi_range1 {t : TA} (h : Wa K Z t ds n fun xs m => ∃ j : Int, xs = [.int j] ∧ (-(2 ^ 62) ≤ j ∧ j < 2 ^ 62) ∧ Pl (rng 0 j.toNat) m) : Wi K Z (iRng1 t) ds n Pl := fun b u σ R e S k =>
  h b u σ _ e S fun vs d u1 g1 s1 r ⟨j, z, ⟨b1, b2⟩, p⟩ => by
    subst z
    obtain ⟨v, rfl, r1⟩ := dens1 r
    cases den_int r1
    exact ⟨j, rfl, b1, b2, wi_rng g1 s1 p k⟩
def signs (z : Str) : List D := z.cps.toList.map fun c => D.str ⟨#[c]⟩
theorem signs_len (z : Str) : (signs z).length = z.cps.size := by simp [signs]
def enumD (xs : List D) : List D := (List.range xs.length).zipWith (fun (i : Nat) x => D.tup [.int (i : Int), x]) xs
theorem enumD_len (xs : List D) : (enumD xs).length = xs.length := by simp [enumD]
theorem enumD_get {xs : List D} {i : Nat} {x : D} (h : xs[i]? = some x) : (enumD xs)[i]? = some (.tup [.int (i : Nat), x]) := by
  have hl := (List.getElem?_eq_some_iff.mp h).1
  simp only [enumD, List.getElem?_zipWith, h, List.getElem?_range hl]
/-- a new pair -/
theorem gp_pair {w : Wd} {T : Addr} {x y : V} {d e : D} (e1 : Ex w.H0 w.H1) (hT : w.H1 T = none) (hx : Den K w x d) (hy : Den K w y e) : Gp K w (w.put T (.tup [x, y])) ∧ Den K (w.put T (.tup [x, y])) (.ref T) (.tup [d, e]) :=
  ⟨.put e1 hT, .tup (SqT.of upd_same) (.cons (hx.mono (Gs.put e1 hT).ls) (.cons (hy.mono (Gs.put e1 hT).ls) .nil))⟩
def zipD (xs ys : List D) : List D := xs.zipWith (fun x y => D.tup [x, y]) ys
/-! ### comprehensions -/
def wipeD (ds : DS) : List Nat → DS
  | [] => ds
  | v :: vs => (wipeD ds vs).set v none
theorem Sd.wipe (S : Sd K Z b u σ ds) : ∀ vs : List Nat, Sd K Z b u (L2.wipe σ vs) (wipeD ds vs)
  | [] => S
  | v :: vs => (Sd.wipe S vs).drop
theorem wipe_get (σ : St) (i : Nat) : ∀ vs : List Nat, (L2.wipe σ vs)[i]? = if i ∈ vs then (if i < σ.length then some none else none) else σ[i]?
  | [] => by simp [L2.wipe]
  | v :: vs => by
    show ((L2.wipe σ vs).set v none)[i]? = _
    rw [get_set, wipe_length, wipe_get σ i vs]
    by_cases h : v = i
    · subst h; simp
    · have h' : i ≠ v := fun z => h z.symm
      simp [h, h']
theorem wipe_of {σ σ' : St} {vs : List Nat} (hl : σ'.length = σ.length) (h : ∀ j, j ∉ vs → σ'[j]? = (L2.wipe σ vs)[j]?) : L2.wipe σ' vs = L2.wipe σ vs := by
  apply List.ext_getElem?
  intro i
  rw [wipe_get]
  by_cases q : i ∈ vs
  · rw [if_pos q, wipe_get, if_pos q, hl]
  · rw [if_neg q, h i q]
def Wgc (K : PySem.W.Frag) [Tb K] (Z : ZX) (g : TG) (js : List Nat) (x : D) (ds : DS) (P : DS → Prop) : Prop :=
  ∀ (b u : Wd) (σ : St) (v : V) (Q : St → Hp → Prop), Sd K Z b u σ ds → Den K u v x → (∀ ds' σ', Sd K Z b u σ' ds' → σ'.length = σ.length → (∀ j, j ∉ js → σ'[j]? = σ[j]?) → P ds' → Q σ' u.H1) → g v σ u.H1 Q
def Wgsc (K : PySem.W.Frag) [Tb K] (Z : ZX) (g : TGs) (js : List Nat) (xs : List D) (ds : DS) (P : DS → Prop) : Prop :=
  ∀ (b u : Wd) (σ : St) (vs : List V) (Q : St → Hp → Prop), Sd K Z b u σ ds → Dens K u vs xs → (∀ ds' σ', Sd K Z b u σ' ds' → σ'.length = σ.length → (∀ j, j ∉ js → σ'[j]? = σ[j]?) → P ds' → Q σ' u.H1) → g vs σ u.H1 Q
theorem wgc_name {i : Nat} {js : List Nat} {x : D} {P : DS → Prop} (hi : i ∈ js) (p : P (ds.set i (some x))) : Wgc K Z (gName i) js x ds P := fun b u σ v Q S r k =>
  k _ _ (S.set r) (by simp) (fun j hj => by rw [get_set, if_neg (fun z : i = j => hj (by rw [← z]; exact hi))]) p
theorem wgsc_nil {P : DS → Prop} {js : List Nat} {xs : List D} (e : xs = []) (p : P ds) : Wgsc K Z gNil js xs ds P := fun b u σ v Q S r k => by
  subst e
  cases r
  exact ⟨rfl, k _ _ S rfl (fun _ _ => rfl) p⟩
theorem wgsc_cons {P : DS → Prop} {js : List Nat} {x : D} {xs ys : List D} {gs : TGs} (e : ys = x :: xs) (h : Wgc K Z g js x ds fun ds' => Wgsc K Z gs js xs ds' P) : Wgsc K Z (gCons g gs) js ys ds P := fun b u σ v Q S r k => by
  subst e
  cases r with
  | cons r1 r2 =>
    rename_i v vs
    exact ⟨v, vs, rfl, h b u σ v _ S r1 fun ds' σ' S' l1 f1 q => q b u σ' vs _ S' r2 fun ds2 σ2 S2 l2 f2 p => k ds2 σ2 S2 (l2.trans l1) (fun j hj => (f2 j hj).trans (f1 j hj)) p⟩
theorem wgc_tup {P : DS → Prop} {js : List Nat} {j : Nat} {x : D} {xs : List D} {gs : TGs} (e : x = .tup xs) (hn : xs.length = j) (h : Wgsc K Z gs js xs ds P) : Wgc K Z (gTup K j gs) js x ds P := fun b u σ v Q S r k => by
  subst e
  obtain ⟨a, vs, rfl, q, r2⟩ := den_tup r
  exact ⟨_, _, rfl, Evl.ex_t S.ex q, r2.len.trans hn, h b u σ _ Q S r2 k⟩
theorem we_lc {wi : TI} {vs : List Nat} (h : Wi K Z wi ds n fun xs m => ∃ Iv : Nat → List D → Nat → Prop, Iv 0 [] m ∧
    (∀ i x ys k, xs[i]? = some x → Iv i ys k → Wgc K Z g vs x (wipeD ds vs) fun ds2 => Wt K Z tt ds2 k fun c j => if c = true then We K Z te ds2 j (fun y l => ys.length < 1000000 ∧ Iv (i + 1) (ys ++ [y]) l) else Iv (i + 1) ys j) ∧
    (∀ ys k, Iv xs.length ys k → P (.lst ys) k)) : We K Z (tLc wi g tt te vs) ds n P := fun b u σ Q e S k =>
  h b u σ _ e S fun J xs u1 G Y g1 s1 ⟨Iv, i0, is, idn⟩ w hG hY => fun Dl hD => by
    have n0 : u1.H0 Dl = none := ex_none g1.c hD
    have nS : ¬ u1.S Dl := fun h => by
      obtain ⟨_, o, h1, _⟩ := s1 Dl h
      rw [hD] at h1; cases h1
    refine lc_it w (fun i H' => ∃ w ys acc, w.H1 = H' ∧ Gs u1 w ∧ StOk K w ∧ w.H0 Dl = none ∧ ¬ w.S Dl ∧ H' Dl = some (.lst acc) ∧ Dens K w acc ys ∧ Iv i ys w.n)
      ⟨⟨u1.S, u1.T, u1.n, u1.H0, upd u1.H1 Dl (.lst [])⟩, [], [], rfl, (Gs.refl g1.c).write hD n0, s1.write nS, n0, nS, upd_same, .nil, i0⟩ (fun i H' _ ⟨w, ys, acc, eh, g', _⟩ => eh ▸ hG w g'.ls g'.c) ?_ ?_
    · rintro i v H' H'' hi ⟨w, ys, acc, rfl, g', sw, c0, cS, hc, hr, iv⟩ y
      obtain ⟨x, w', rfl, hx, g2, r⟩ := hY w i v H'' g'.ls g'.c sw hi y
      have c1 := g2.g.nn c0 hc
      have cS1 := g2.g.ns cS hc
      have hc1 := g2.g.b _ _ cS hc
      have S1 := ((S.go g1 s1).go (g'.trans g2.g) (g2.st sw)).wipe vs
      have q := is i x ys w.n hx iv
      rw [← g2.n] at q
      refine q b w' (L2.wipe σ vs) v _ S1 r fun ds2 σ2 S2 l2 f2 q => ⟨wipe_of (l2.trans (wipe_length _ _)) f2, q b w' σ2 _ rfl S2 fun c u3 g3 s3 q3 => ?_⟩
      have c2 := g3.nn c1 hc1
      have cS2 := g3.ns cS1 hc1
      have hc2 := g3.b _ _ cS1 hc1
      cases c with
      | false => exact ⟨u3, ys, acc, rfl, (g'.trans g2.g).trans g3, s3, c2, cS2, hc2, hr.mono (g2.g.ls.trans g3.ls), q3⟩
      | true =>
        refine q3 b u3 σ2 _ rfl (S2.go g3 s3) fun y d u4 g4 s4 r4 ⟨hl, p4⟩ => ?_
        have c3 := g4.nn c2 hc2
        have cS3 := g4.ns cS2 hc2
        have hc3 := g4.b _ _ cS2 hc2
        have l4 : Le u4 ⟨u4.S, u4.T, u4.n, u4.H0, upd u4.H1 Dl (.lst (acc ++ [y]))⟩ := ⟨fun _ h => h, fun _ _ => rfl, .refl _⟩
        exact ⟨acc, hc3, by rw [hr.len]; exact Nat.lt_of_lt_of_le hl (by decide), ⟨u4.S, u4.T, u4.n, u4.H0, upd u4.H1 Dl (.lst (acc ++ [y]))⟩, ys ++ [d], acc ++ [y], rfl, (((g'.trans g2.g).trans g3).trans g4).write hD c3, s4.write cS3, c3, cS3, upd_same, ((hr.mono ((g2.g.ls.trans g3.ls).trans g4.ls)).app (.cons r4 .nil)).mono l4, p4⟩
    · rintro H' ⟨w, ys, acc, rfl, g', sw, c0, cS, hc, hr, iv⟩
      have l1 : Le w ⟨w.S, w.T, w.n, upd w.H0 Dl (.lst acc), w.H1⟩ := ⟨fun _ h => h, fun _ _ => rfl, ex_new c0⟩
      exact k _ _ ⟨w.S, w.T, w.n, upd w.H0 Dl (.lst acc), w.H1⟩ (g1.trans (g'.settle hD c0 hc)) (sw.settle c0 cS) (.lst (SqL.of upd_same) (hr.mono l1)) (idn ys _ iv)
end
/-! ### defs -/
abbrev Xp := Addr → List (Str × D) → Nat → Prop
abbrev Rl := List D → Nat → (D → Nat → Prop) → Xp → Prop
/-- a def that draws nothing and raises nothing -/
abbrev pr (R : List D → (D → Prop) → Prop) : Rl := fun ds n P _ => R ds fun d => P d n
/-- a def that draws nothing -/
abbrev px (R : List D → (D → Prop) → (Addr → List (Str × D) → Prop) → Prop) : Rl := fun ds n P X => R ds (fun d => P d n) fun C fs => X C fs n
def spD (K : PySem.W.Frag) [Tb K] (R : Rl) : Sp := fun vs H Q E => ∃ (u : Wd) (ds : List D) (P : D → Nat → Prop) (X : Xp), u.H1 = H ∧ Ex u.H0 u.H1 ∧ StOk K u ∧ Dens K u vs ds ∧ R ds u.n P X ∧ (∀ v d u', Gs u u' → StOk K u' → Den K u' v d → P d u'.n → Q v u'.H1) ∧ XOk K ⟨E, X⟩ u
abbrev noX : Xp := fun _ _ _ => False
theorem xok_no {K : PySem.W.Frag} [Tb K] {E : XK} {u : Wd} : XOk K ⟨E, noX⟩ u := fun _ _ _ _ _ _ _ _ z => z.elim
theorem XOk.at {K : PySem.W.Frag} [Tb K] {Z : ZX} {b u : Wd} (x : XOk K Z b) (g : Gs b u) : XOk K Z u := fun cls d C fs u' g' s e z => x cls d C fs u' (g.trans g') s e z
/-- of an __init__: the fields that the new object has -/
abbrev Ri := List D → Nat → (List (Str × D) → Prop) → Xp → Prop
def spI (K : PySem.W.Frag) [Tb K] (C : Addr) (R : Ri) : Sp := fun vs H Q E => ∃ (x dx : Addr) (ws : List V) (u : Wd) (ds : List D) (P : List (Str × D) → Prop) (X : Xp), vs = .ref x :: ws ∧ u.H1 x = none ∧ u.H1 dx = none ∧ dx ≠ x ∧ H = upd (upd u.H1 dx (.own x)) x (.ins C dx []) ∧ Ex u.H0 u.H1 ∧ StOk K u ∧ Dens K u ws ds ∧ R ds u.n P X ∧
  (∀ fs gs u', Gs u u' → StOk K u' → u'.n = u.n → u'.H0 x = none → ¬ u'.S x → u'.H1 x = some (.ins C dx fs) → u'.H1 dx = some (.own x) → DenF K u' fs gs → P gs → Q .non u'.H1) ∧ XOk K ⟨E, X⟩ u
section
variable {K : PySem.W.Frag} [Tb K] {Z : ZX} {b u u' u'' : Wd} {σ : L2.St} {ds : DS} {n : Nat} {P : D → Nat → Prop} {te ta tb tc : TE} {tt tu : TT} {N : Nd} {ts t1 t2 : TS} {g : TG} {De : Ends} {E : XK} {C : Addr} {R : Rl}
theorem we_call {t : TA} (h : Wa K Z t ds n fun xs m => R xs m P noX) : We K Z (tCall (spD K R) [] E t) ds n P := fun b u σ Q e S k =>
  h b u σ _ e S fun vs xs u1 g1 s1 r p => ⟨u1, xs, P, noX, rfl, g1.c, s1, by rw [List.append_nil]; exact r, p, fun v d u2 g2 s2 r' p' => k v d u2 (g1.trans g2) s2 r' p', xok_no⟩
theorem we_meth {m : Str} {t : TA} (h : We K Z ta ds n fun o j => ∃ fs, o = .obj C fs ∧ fs.lookup m = none ∧ Wa K Z t ds j fun xs k => R (o :: xs) k P noX) : We K Z (tMeth C m (spD K R) [] E ta t) ds n P := fun b u σ Q e S k =>
  h b u σ _ e S fun v o u1 g1 s1 r ⟨fs, z, hl, q⟩ => by
    subst z
    obtain ⟨a, dx, fv, rfl, ha, hf⟩ := den_obj r
    refine ⟨a, dx, fv, rfl, g1.c _ _ ha, hf.miss hl, q b u1 σ _ rfl (S.go g1 s1) fun vs xs u2 g2 s2 r2 p2 => ?_⟩
    exact ⟨u2, _ :: xs, P, noX, rfl, g2.c, s2, by rw [List.append_nil]; exact .cons (r.mono g2.ls) r2, p2, fun v d u3 g3 s3 r' p' => k v d u3 ((g1.trans g2).trans g3) s3 r' p', xok_no⟩
theorem we_prop (h : We K Z ta ds n fun o j => ∃ fs, o = .obj C fs ∧ R [o] j P noX) : We K Z (tProp C (spD K R) [] E ta) ds n P := fun b u σ Q e S k =>
  h b u σ _ e S fun v o u1 g1 s1 r ⟨fs, z, p⟩ => by
    subst z
    obtain ⟨a, dx, fv, rfl, ha, hf⟩ := den_obj r
    exact ⟨a, dx, fv, rfl, g1.c _ _ ha, u1, _, P, noX, rfl, g1.c, s1, .cons r .nil, p, fun v d u3 g3 s3 r' p' => k v d u3 (g1.trans g3) s3 r' p', xok_no⟩
theorem we_make {t : TA} {R : Ri} (h : Wa K Z t ds n fun xs m => R xs m (fun gs => P (.obj C gs) m) noX) : We K Z (tMake C (spI K C R) [] E t) ds n P := fun b u σ Q e S k =>
  h b u σ _ e S fun vs xs u1 g1 s1 r p => fun x dx hx hdx ne => ⟨x, dx, vs, u1, xs, _, _, by rw [List.append_nil], hx, hdx, ne, rfl, g1.c, s1, r, p, fun fs gs u2 g2 s2 en n0 nS h1 h2 hf pg => ⟨rfl, by
    have l1 : Le u2 ⟨u2.S, u2.T, u2.n, upd u2.H0 x (.ins C dx fs), u2.H1⟩ := ⟨fun _ h => h, fun _ _ => rfl, ex_new n0⟩
    exact k _ _ ⟨u2.S, u2.T, u2.n, upd u2.H0 x (.ins C dx fs), u2.H1⟩ (g1.trans (g2.settle hx n0 h1)) (s2.settle n0 nS) (.obj upd_same (hf.mono l1)) (en ▸ pg)⟩, xok_no⟩
/-- self.f = e, in an __init__ -/
theorem ws_fld {i : Nat} {f : Str} {a dx : Addr} {fs : List (Str × D)} (hd : ds[i]? = some (some (.mob a dx C fs))) (hc : Cls K C) (hn : NoAttr K C f) (hz : fs.length < 1000) (h : We K Z te ds n fun d m => N.nx (ds.set i (some (.mob a dx C (putD f d fs)))) m) : Ws K Z (sFld K (tVar i) te f) ds n N := fun b u σ De e S O =>
  h b u σ _ e S fun w d u1 g1 s1 r p => by
    have S' := S.go g1 s1
    obtain ⟨v, hv, hS⟩ := S'.sl i _ hd
    cases hS with
    | den h => cases h
    | mob c0 c1 c5 c2 c4 c6 c3 =>
      rename_i fv
      have na : dx ≠ a := fun z => by rw [z, c2] at c4; cases c4
      have l1 : Le u1 ⟨u1.S, u1.T, u1.n, u1.H0, upd u1.H1 a (.ins C dx (putF f w fv))⟩ := ⟨fun _ h => h, fun _ _ => rfl, .refl _⟩
      exact ⟨.ref a, hv, a, C, dx, fv, rfl, c2, hc, hn, by rw [c3.len]; exact hz, O.nx _ ⟨u1.S, u1.T, u1.n, u1.H0, _⟩ _ ⟨g1.sub, g1.kd, g1.a⟩ (S'.change hd rfl hv rfl c0 c1 c5 (fun _ z => by rw [c2] at z; cases z) (.mob c0 c1 c5 upd_same ((upd_ne na).trans c4) c6 ((DenF.put r c3).mono l1))) p⟩
variable {Pr : Program} {w : World} {mg : Str → Option Value} {base : Heap}
theorem start_get {N : List Str} {vs : List V} (h : vs.length ≤ N.length) : (L2.start N vs).length = N.length := by simp [L2.start]; omega
def startD (n : Nat) (ds : List D) : DS := ds.map some ++ List.replicate (n - ds.length) none
theorem sd_start {N : List Str} {vs : List V} {xs : List D} (e : Ex u.H0 u.H1) (xk : XOk K Z u) (st : StOk K u) (r : Dens K u vs xs) (hl : vs.length ≤ N.length) : Sd K Z u u (L2.start N vs) (startD N.length xs) := by
  have get : ∀ (i : Nat) (d : D), (startD N.length xs)[i]? = some (some d) → xs[i]? = some d := fun i d h => by
    unfold startD at h
    rw [List.getElem?_append] at h
    by_cases q : i < (xs.map some).length
    · rw [if_pos q] at h
      simpa using h
    · rw [if_neg q, List.getElem?_replicate] at h
      split at h <;> cases h
  refine ⟨.refl e, xk, st, by rw [start_get hl]; simp [startD, r.len.symm]; omega, fun i d h => ?_, fun i j d e a b h1 h2 m1 m2 => ?_⟩
  · obtain ⟨v, hv, hd⟩ := r.getD (get i d h)
    refine ⟨v, ?_, .den hd⟩
    unfold L2.start
    rw [List.getElem?_append_left (by simpa using (List.getElem?_eq_some_iff.mp hv).1)]
    simp [hv]
  · obtain ⟨v, hv, hd⟩ := r.getD (get i d h1)
    rw [hd.notMut] at m1
    cases m1
/-- a def keeps its promise: its body, told by data -/
theorem dok {x qual : Str} {st : Stmt} {f : Addr} {fd : FuncData} {N ps : List Str} {k : Nat} (F : Fun K x qual st f fd) (S : FnScope N ps (defScope st)) (len : ∀ ds n P X, R ds n P X → ds.length = ps.length) (hNp : ps.length ≤ N.length)
    (hbody : ∀ (cdv : Value) (A : Around) (outer : List Env) (s : Shared) (H : Hp) (E : XK), Room k (A.deeper (envOfC qual (defScope st) s.heap.objs.size f cdv)) →
      ∃ t, PSs (cxOf CX0 Pr w K mg base N qual (defScope st) f cdv A outer s H E).nox (defBody st) t ∧ ∀ Z ds n P, R ds n P Z.X → Ws K Z t (startD N.length ds) n { nx := fun _ m => P .non m, rt := P }) : FnOk Pr w K mg base CX0 (k + 1) f fd ps (spD K R) := by
  refine F.ok S (fun vs H Q E ⟨u, ds, P, X, _, e, _, r, h, _⟩ => by rw [r.len]; exact len ds _ P X h) (fun cdv A outer s H vs Q E hr ⟨u, ds, P, X, eh, e, st, r, h, q, xk⟩ => ?_)
  obtain ⟨t, ht, hW⟩ := hbody cdv A outer s H E hr
  subst eh
  refine ⟨t, ht, hW ⟨E, X⟩ ds u.n P h u u _ _ rfl (sd_start e xk st r (by rw [r.len, len ds _ P X h]; exact hNp)) ⟨fun ds' v σ' _ S' p => q _ _ _ S'.gr S'.st .non p, fun d v v' g s r p => q v d v' g s r p, fun _ _ _ _ _ z => z.elim, fun _ _ _ _ _ z => z.elim⟩⟩
theorem dokI {x qual : Str} {st : Stmt} {f : Addr} {fd : FuncData} {N ps : List Str} {k : Nat} {R : Ri} (F : Fun K x qual st f fd) (S : FnScope N ps (defScope st)) (len : ∀ ds n P X, R ds n P X → ds.length + 1 = ps.length) (hNp : ps.length ≤ N.length)
    (hbody : ∀ (cdv : Value) (A : Around) (outer : List Env) (s : Shared) (H : Hp) (E : XK), Room k (A.deeper (envOfC qual (defScope st) s.heap.objs.size f cdv)) →
      ∃ t, PSs (cxOf CX0 Pr w K mg base N qual (defScope st) f cdv A outer s H E).nox (defBody st) t ∧ ∀ Z x dx ds n P, R ds n P Z.X → Ws K Z t (some (.mob x dx C []) :: startD (N.length - 1) ds) n { nx := fun ds' m => m = n ∧ ∃ gs, ds'[0]? = some (some (.mob x dx C gs)) ∧ P gs, rt := fun _ _ => False }) : FnOk Pr w K mg base CX0 (k + 1) f fd ps (spI K C R) := by
  refine F.ok S (fun vs H Q E ⟨x, dx, ws, u, ds, P, X, e, _, _, _, _, _, _, r, h, _⟩ => by subst e; rw [List.length_cons, r.len]; exact len ds _ P X h) (fun cdv A outer s H vs Q E hr ⟨x, dx, ws, u, ds, P, X, e, hx, hdx, ne, eH, ex, st, r, h, q, xk⟩ => ?_)
  obtain ⟨t, ht, hW⟩ := hbody cdv A outer s H E hr
  subst e
  subst eH
  have hl := len ds _ P X h
  obtain ⟨j, hn⟩ : ∃ j, N.length = j + 1 := ⟨N.length - 1, by omega⟩
  have x0 : u.H0 x = none := ex_none ex hx
  have dx0 : u.H0 dx = none := ex_none ex hdx
  have xS : ¬ u.S x := fun h => by
    obtain ⟨_, o, h1, _⟩ := st x h
    rw [hx] at h1; cases h1
  have dxS : ¬ u.S dx := fun h => by
    obtain ⟨_, o, h1, _⟩ := st dx h
    rw [hdx] at h1; cases h1
  have g : Gs u ⟨u.S, u.T, u.n, u.H0, upd (upd u.H1 dx (.own x)) x (.ins C dx [])⟩ := ((Gs.refl ex).write (o := .own x) hdx dx0).write (o := .ins C dx []) hx x0
  have s2 : StOk K ⟨u.S, u.T, u.n, u.H0, upd (upd u.H1 dx (.own x)) x (.ins C dx [])⟩ := (st.write (o := .own x) dxS).write (o := .ins C dx []) xS
  have S0 : Sd K ⟨E, X⟩ u ⟨u.S, u.T, u.n, u.H0, upd (upd u.H1 dx (.own x)) x (.ins C dx [])⟩ (L2.start N (.ref x :: ws)) (some (.mob x dx C []) :: startD (N.length - 1) ds) := by
    cases hN : N with
    | nil => rw [hN] at hn; cases hn
    | cons y N' =>
      have T := (sd_start (Z := ⟨E, X⟩) (N := N') (vs := ws) ex xk st r (by rw [hN] at hNp; simp at hNp; rw [r.len]; omega)).go g s2
      have es : L2.start (y :: N') (V.ref x :: ws) = some (V.ref x) :: L2.start N' ws := by simp [L2.start]
      rw [es]
      have nm : ∀ (i : Nat) (d : D), (some (D.mob x dx C []) :: startD ((y :: N').length - 1) ds)[i]? = some (some d) → isMut d = true → i = 0 := fun i d h m => by
        cases i with
        | zero => rfl
        | succ i =>
          have h' : (startD N'.length ds)[i]? = some (some d) := by simpa using h
          unfold startD at h'
          rw [List.getElem?_append] at h'
          by_cases q : i < (ds.map some).length
          · rw [if_pos q] at h'
            have h3 : ds[i]? = some d := by simpa using h'
            obtain ⟨v, _, hd⟩ := r.getD h3
            rw [hd.notMut] at m
            cases m
          · rw [if_neg q, List.getElem?_replicate] at h'
            split at h' <;> cases h'
      refine ⟨g, xk, s2, by simpa using T.len, fun i d hi => ?_, fun i j d e a b h1 h2 m1 m2 nij => absurd ((nm i d h1 m1).trans (nm j e h2 m2).symm) nij⟩
      cases i with
      | zero =>
        simp at hi
        subst hi
        exact ⟨.ref x, by simp, .mob hx x0 xS upd_same ((upd_ne ne).trans upd_same) dxS .nil⟩
      | succ i =>
        obtain ⟨v, hv, hd⟩ := T.sl i d (by simpa using hi)
        exact ⟨v, by simpa using hv, hd⟩
  refine ⟨t, ht, hW ⟨E, X⟩ x dx ds u.n P h u ⟨u.S, u.T, u.n, u.H0, _⟩ _ _ rfl S0 ⟨fun ds' u2 σ' _ S' ⟨en, gs, hg, p⟩ => ?_, fun d v _ _ _ _ p => p.elim, fun _ _ _ _ _ z => z.elim, fun _ _ _ _ _ z => z.elim⟩⟩
  obtain ⟨v, _, hS⟩ := S'.sl 0 _ hg
  cases hS with
  | den z => cases z
  | mob c0 c1 c5 c2 c4 c6 c3 => exact q _ gs u2 S'.gr S'.st en c1 c5 c2 c4 c3 p
end
end DL

namespace L2
open PySem PySem.Spec PyProof.Rows
section
variable {X : Cx}
/-- list + list, whatever the lists are -/
def rCatL (K : PySem.W.Frag) : R2 := fun x y H Q => ∃ l b xs zs, x = .ref l ∧ y = .ref b ∧ SqL K H l xs ∧ SqL K H b zs ∧ xs.length + zs.length ≤ sizeLine ∧ ∀ p, H p = none → Q (.ref p) (upd H p (.lst (xs ++ zs)))
theorem op_catL : OpR X (binaryOp .Add) (rCatL X.K) := by
  intro pins s σ H x y v u Q I rx ry h
  obtain ⟨l, b, xs, zs, rfl, rfl, hH, hB, hz, q⟩ := h
  cases rx
  cases ry
  obtain ⟨its, r, pl, hl⟩ := I.list hH
  obtain ⟨its2, r2, pl2, hl2⟩ := I.list hB
  obtain ⟨⟨cls, dd, data, sl⟩, ho, hc, n, hd⟩ := pl.isList
  obtain ⟨⟨cls2, dd2, data2, sl2⟩, ho2, hc2, n2, hd2⟩ := pl2.isList
  simp only at hc hd hc2 hd2
  subst hc hd hc2 hd2
  have ea : its.toArray ++ its2.toArray = (its ++ its2).toArray := by simp
  have l1 := r.length
  have l2 := r2.length
  refine concat_meets ⟨_, ho, rfl⟩ ⟨_, ho2, rfl⟩ noFill_list_add seq_list_add PySem.F.slot_list_add PySem.F.entry_list_add (PySem.F.args_list_add_2 _ _) (list_addW l b its.toArray its2.toArray n n2 dd dd2 sl sl2 (by simp; omega)) ⟨ho, ho2, ?_⟩
  rw [ea]
  exact ⟨.ref _, _, I.lnew (t' := s.toks) (r.append r2) (by rw [List.length_append]; omega), rfl, q _ I.fresh⟩
/-- a + b: ints, texts, lists, tuples -/
def rAddI : R2 := rI0 fun i j => .int (i + j)
def rAddT : R2 := fun x y H Q => ∃ i j, x = .str i ∧ y = .str j ∧ i.length + j.length ≤ sizeLine ∧ Q (.str (i ++ j)) H
def rAddU (K : PySem.W.Frag) : R2 := fun x y H Q => rAddI x y H Q ∨ rAddT x y H Q ∨ rCatL K x y H Q ∨ rCatA K x y H Q
theorem op_addU : OpR X (binaryOp .Add) (rAddU X.K) := (show OpR X (binaryOp .Add) rAddI from op_add).or ((show OpR X (binaryOp .Add) rAddT from op_add_str).or (op_catL.or op_catA))
end
end L2
namespace DL
open PySem L2 StX
section
variable {K : PySem.W.Frag} [Tb K] {Z : ZX} {u u' : Wd} {σ : L2.St} {ds : DS} {P : D → Prop} {te ta tb tc : TE} {tt tu : TT} {i j : Int} {x y : Str} {xs ys : List D} {C : Addr} {a b : D} {p q : Bool}
theorem Op.or {r r' : R2} (h : Op K r a b P) : Op K (fun x y H Q => r x y H Q ∨ r' x y H Q) a b P := fun u v w Q e s d1 d2 k => .inl (h u v w Q e s d1 d2 k)
theorem op_I0 {g : Int → Int → V} {d : D} (hd : ∀ u, Den K u (g i j) d) (h : P d) : Op K (rI0 g) (.int i) (.int j) P := fun u v w Q e _ d1 d2 k => by
  cases den_int d1
  cases den_int d2
  exact ⟨i, j, rfl, rfl, k _ _ u (.refl e) (hd _) h⟩
theorem op_I {c : Int → Int → Prop} {g : Int → Int → V} {d : D} (hd : ∀ u, Den K u (g i j) d) (hc : c i j) (h : P d) : Op K (rI c g) (.int i) (.int j) P := fun u v w Q e _ d1 d2 k => by
  cases den_int d1
  cases den_int d2
  exact ⟨i, j, rfl, rfl, hc, k _ _ u (.refl e) (hd _) h⟩
/-! ### + -/
theorem add_int (h : P (.int (i + j))) : Op K (rAddU K) (.int i) (.int j) P := Op.or (op_I0 (fun _ => .int _) h)
theorem add_str (hz : x.length + y.length ≤ 1000000) (h : P (.str (x ++ y))) : Op K (rAddU K) (.str x) (.str y) P := fun u v w Q e _ d1 d2 k => by
  cases den_str d1
  cases den_str d2
  exact .inr (.inl ⟨x, y, rfl, rfl, sz100 hz, k _ _ u (.refl e) (.str _) h⟩)
theorem add_lst (hz : xs.length + ys.length ≤ 1000000) (h : P (.lst (xs ++ ys))) : Op K (rAddU K) (.lst xs) (.lst ys) P := fun u v w Q e _ d1 d2 k => by
  obtain ⟨a, vs, rfl, q, r⟩ := den_lst d1
  obtain ⟨a', vs', rfl, q', r'⟩ := den_lst d2
  refine .inr (.inr (.inl ⟨a, a', vs, vs', rfl, rfl, Evl.ex_l e q, Evl.ex_l e q', by rw [r.len, r'.len]; exact sz100 hz, fun p hp => k _ _ (u.put p _) (.put e hp) (.lst (SqL.of upd_same) ((r.app r').mono (Gs.put e hp).ls)) h⟩))
/-! ### other operators on ints -/
theorem sub_int (h : P (.int (i - j))) : Op K (rI0 fun i j => .int (i - j)) (.int i) (.int j) P := op_I0 (fun _ => .int _) h
theorem mul_int (hc : CMul i j) (h : P (.int (i * j))) : Op K (rI CMul fun i j => .int (i * j)) (.int i) (.int j) P := op_I (fun _ => .int _) hc h
theorem fdiv_int (hc : 0 < j ∧ j < 1073741824) (h : P (.int (i / j))) : Op K (rI CDiv fun i j => .int (i / j)) (.int i) (.int j) P := op_I (fun _ => .int _) hc h
theorem mod_int (hc : 0 < j) (h : P (.int (i % j))) : Op K (rI (fun _ j => 0 < j) fun i j => .int (i % j)) (.int i) (.int j) P := op_I (fun _ => .int _) hc h
theorem pow_int (hc : CPow i j) (h : P (.int (i ^ j.toNat))) : Op K (rI CPow fun i j => .int (i ^ j.toNat)) (.int i) (.int j) P := op_I (fun _ => .int _) hc h
/-! ### is None -/
abbrev rIsN' : R2 := fun x y H Q => y = .non ∧ Q (.bl (decide (x = .non))) H
abbrev rNotN' : R2 := fun x y H Q => y = .non ∧ Q (.bl (!decide (x = .non))) H
def isNonD : D → Bool
  | .non => true
  | _ => false
theorem den_isNon {v : V} {d : D} (h : Den K u v d) : decide (v = .non) = isNonD d := by cases h <;> rfl
theorem is_non (h : P (.bl (isNonD a))) : Op K rIsN' a .non P := fun u v w Q e _ d1 d2 k => by
  cases den_non d2
  exact ⟨rfl, by rw [den_isNon d1]; exact k _ _ u (.refl e) (.bl _) h⟩
theorem not_non (h : P (.bl (!isNonD a))) : Op K rNotN' a .non P := fun u v w Q e _ d1 d2 k => by
  cases den_non d2
  exact ⟨rfl, by rw [den_isNon d1]; exact k _ _ u (.refl e) (.bl _) h⟩
end
/-! ### plain data: ==, !=, <, <=, >, >=, in -/
mutual
def pd : D → Option PyData
  | .non => some .none
  | .bl b => some (.bool b)
  | .int i => some (.int i)
  | .str x => some (.str x)
  | .lst xs => (pds xs).map .list
  | .tup xs => (pds xs).map .tuple
  | _ => none
def pds : List D → Option (List PyData)
  | [] => some []
  | x :: xs => (pd x).bind fun y => (pds xs).map fun ys => y :: ys
end
section
variable {K : PySem.W.Frag} [Tb K] {Z : ZX} {H : Hp} {u : Wd}
mutual
theorem den_dp (x : Ex u.H0 H) : ∀ {v : V} {d : D} {e : PyData}, Den K u v d → pd d = some e → Dp K H v e
  | _, _, e, .non, h => by simp only [pd] at h; cases h; exact .non
  | _, _, e, .bl b, h => by simp only [pd] at h; cases h; exact .bl b
  | _, _, e, .int i, h => by simp only [pd] at h; cases h; exact .int i
  | _, _, e, .str y, h => by simp only [pd] at h; cases h; exact .str y
  | _, _, e, .lst (ds := ds) q r, h => by
    simp only [pd] at h
    cases hp : pds ds with
    | none => rw [hp] at h; cases h
    | some es => rw [hp] at h; cases h; exact .lst (Evl.ex_l x q) (dens_dp x r hp)
  | _, _, e, .tup (ds := ds) q r, h => by
    simp only [pd] at h
    cases hp : pds ds with
    | none => rw [hp] at h; cases h
    | some es => rw [hp] at h; cases h; exact .tup (Evl.ex_t x q) (dens_dp x r hp)
  | _, _, e, .ty _, h => by simp only [pd] at h; cases h
  | _, _, e, .cls _, h => by simp only [pd] at h; cases h
  | _, _, e, .strm _ _, h => by simp only [pd] at h; cases h
  | _, _, e, .obj _ _, h => by simp only [pd] at h; cases h
  | _, _, e, .dct _ _, h => by simp only [pd] at h; cases h
  | _, _, e, .fdc _ _, h => by simp only [pd] at h; cases h
theorem dens_dp (x : Ex u.H0 H) : ∀ {v : List V} {d : List D} {e : List PyData}, Dens K u v d → pds d = some e → DpAll K H v e
  | _, _, e, .nil, h => by simp only [pds] at h; cases h; exact .nil
  | _, _, e, .cons (d := d) (ds := ds) r rs, h => by
    simp only [pds] at h
    cases hp : pd d with
    | none => rw [hp] at h; cases h
    | some y =>
      rw [hp] at h
      cases hq : pds ds with
      | none => rw [hq] at h; cases h
      | some ys => rw [hq] at h; cases h; exact .cons (den_dp x r hp) (dens_dp x rs hq)
end
end
end DL
namespace L2
open PySem PySem.Spec PyProof.Rows
section
variable {X : Cx}
def rEqP (K : PySem.W.Frag) : R2 := fun x y H Q => ∃ d e, Dp K H x d ∧ Dp K H y e ∧ d.plain = true ∧ e.plain = true ∧ d.depth ≤ 64 ∧ Q (.bl (PyData.eqv d e)) H
def rNeP (K : PySem.W.Frag) : R2 := fun x y H Q => ∃ d e, Dp K H x d ∧ Dp K H y e ∧ d.plain = true ∧ e.plain = true ∧ d.depth ≤ 64 ∧ Q (.bl (!PyData.eqv d e)) H
def rLtP (K : PySem.W.Frag) : R2 := fun x y H Q => ∃ d e, Dp K H x d ∧ Dp K H y e ∧ PySem.W.alike d e = true ∧ d ≠ .none ∧ d.depth ≤ 64 ∧ Q (.bl (PySem.W.dataLt d e)) H
def rGtP (K : PySem.W.Frag) : R2 := fun x y H Q => ∃ d e, Dp K H x d ∧ Dp K H y e ∧ PySem.W.alike d e = true ∧ d ≠ .none ∧ d.depth ≤ 64 ∧ Q (.bl (PySem.W.dataLt e d)) H
def rLeP (K : PySem.W.Frag) : R2 := fun x y H Q => ∃ d e, Dp K H x d ∧ Dp K H y e ∧ PySem.W.alike d e = true ∧ d ≠ .none ∧ d.depth ≤ 64 ∧ Q (.bl (!PySem.W.dataLt e d)) H
def rGeP (K : PySem.W.Frag) : R2 := fun x y H Q => ∃ d e, Dp K H x d ∧ Dp K H y e ∧ PySem.W.alike d e = true ∧ d ≠ .none ∧ d.depth ≤ 64 ∧ Q (.bl (!PySem.W.dataLt d e)) H
theorem room_min {u a b : Nat} (hu : u + 64 < cLine) (h : a ≤ 64) : u + min a b < cLine := by have := Nat.min_le_left a b; omega
theorem op_eqP (hu : X.A.units + 64 < cLine) : OpR X (compareOp .Eq) (rEqP X.K) := by
  intro pins s σ H x y v u Q I rx ry ⟨d, e, hd, he, pd, pe, dd, q⟩
  obtain ⟨as, r1⟩ := Dp.reads I d x v hd rx
  obtain ⟨bs, r2⟩ := Dp.reads I e y u he ry
  exact PySem.SeqAt.eq_plain r1 r2 pd pe (room_min hu dd) ⟨.bl _, H, I, rfl, q⟩
theorem op_neP (hu : X.A.units + 64 < cLine) : OpR X (compareOp .NotEq) (rNeP X.K) := by
  intro pins s σ H x y v u Q I rx ry ⟨d, e, hd, he, pd, pe, dd, q⟩
  obtain ⟨as, r1⟩ := Dp.reads I d x v hd rx
  obtain ⟨bs, r2⟩ := Dp.reads I e y u he ry
  exact PySem.SeqAt.ne_plain r1 r2 pd pe (room_min hu dd) ⟨.bl _, H, I, rfl, q⟩
theorem op_ltP (hu : X.A.units + 64 < cLine) : OpR X (compareOp .Lt) (rLtP X.K) := by
  intro pins s σ H x y v u Q I rx ry ⟨d, e, hd, he, al, nn, dd, q⟩
  obtain ⟨as, r1⟩ := Dp.reads I d x v hd rx
  obtain ⟨bs, r2⟩ := Dp.reads I e y u he ry
  exact PySem.W.lt_data r1 r2 al nn (room_min hu dd) ⟨.bl _, H, I, rfl, q⟩
theorem op_leP (hu : X.A.units + 64 < cLine) : OpR X (compareOp .LtE) (rLeP X.K) := by
  intro pins s σ H x y v u Q I rx ry ⟨d, e, hd, he, al, nn, dd, q⟩
  obtain ⟨as, r1⟩ := Dp.reads I d x v hd rx
  obtain ⟨bs, r2⟩ := Dp.reads I e y u he ry
  exact PySem.W.le_data r1 r2 al nn (room_min hu dd) ⟨.bl _, H, I, rfl, q⟩
theorem op_geP (hu : X.A.units + 64 < cLine) : OpR X (compareOp .GtE) (rGeP X.K) := by
  intro pins s σ H x y v u Q I rx ry ⟨d, e, hd, he, al, nn, dd, q⟩
  obtain ⟨as, r1⟩ := Dp.reads I d x v hd rx
  obtain ⟨bs, r2⟩ := Dp.reads I e y u he ry
  exact PySem.W.ge_data r1 r2 al nn (room_min hu dd) ⟨.bl _, H, I, rfl, q⟩
/-- x in a list or a tuple of data; c in a text -/
def rInP (K : PySem.W.Frag) : R2 := fun x y H Q => ∃ d xs, Dp K H x d ∧ (Dp K H y (.list xs) ∨ Dp K H y (.tuple xs)) ∧ d.plain = true ∧ PyData.plainAll xs = true ∧ d.depth ≤ 60 ∧ Q (.bl (xs.any fun z => PyData.eqv z d)) H
def rNiP (K : PySem.W.Frag) : R2 := fun x y H Q => ∃ d xs, Dp K H x d ∧ (Dp K H y (.list xs) ∨ Dp K H y (.tuple xs)) ∧ d.plain = true ∧ PyData.plainAll xs = true ∧ d.depth ≤ 60 ∧ Q (.bl (!xs.any fun z => PyData.eqv z d)) H
end
end L2
namespace DL
open PySem L2 StX
section
variable {K : PySem.W.Frag} [Tb K] {Z : ZX} {u u' : Wd} {P : D → Prop} {a b : D} {d e : PyData} {xs : List PyData} {ys : List D}
theorem eqP (h1 : pd a = some d) (h2 : pd b = some e) (p1 : d.plain = true) (p2 : e.plain = true) (hd : d.depth ≤ 64) (h : P (.bl (PyData.eqv d e))) : Op K (rEqP K) a b P := fun u v w Q ex _ d1 d2 k =>
  ⟨d, e, den_dp ex d1 h1, den_dp ex d2 h2, p1, p2, hd, k _ _ u (.refl ex) (.bl _) h⟩
theorem neP (h1 : pd a = some d) (h2 : pd b = some e) (p1 : d.plain = true) (p2 : e.plain = true) (hd : d.depth ≤ 64) (h : P (.bl (!PyData.eqv d e))) : Op K (rNeP K) a b P := fun u v w Q ex _ d1 d2 k =>
  ⟨d, e, den_dp ex d1 h1, den_dp ex d2 h2, p1, p2, hd, k _ _ u (.refl ex) (.bl _) h⟩
theorem ltP (h1 : pd a = some d) (h2 : pd b = some e) (p1 : PySem.W.alike d e = true) (p2 : d ≠ .none) (hd : d.depth ≤ 64) (h : P (.bl (PySem.W.dataLt d e))) : Op K (rLtP K) a b P := fun u v w Q ex _ d1 d2 k =>
  ⟨d, e, den_dp ex d1 h1, den_dp ex d2 h2, p1, p2, hd, k _ _ u (.refl ex) (.bl _) h⟩
theorem leP (h1 : pd a = some d) (h2 : pd b = some e) (p1 : PySem.W.alike d e = true) (p2 : d ≠ .none) (hd : d.depth ≤ 64) (h : P (.bl (!PySem.W.dataLt e d))) : Op K (rLeP K) a b P := fun u v w Q ex _ d1 d2 k =>
  ⟨d, e, den_dp ex d1 h1, den_dp ex d2 h2, p1, p2, hd, k _ _ u (.refl ex) (.bl _) h⟩
theorem geP (h1 : pd a = some d) (h2 : pd b = some e) (p1 : PySem.W.alike d e = true) (p2 : d ≠ .none) (hd : d.depth ≤ 64) (h : P (.bl (!PySem.W.dataLt d e))) : Op K (rGeP K) a b P := fun u v w Q ex _ d1 d2 k =>
  ⟨d, e, den_dp ex d1 h1, den_dp ex d2 h2, p1, p2, hd, k _ _ u (.refl ex) (.bl _) h⟩
end
end DL
namespace L2
open PySem PySem.Spec PyProof.Rows
section
variable {X : Cx}
def rSlU (K : PySem.W.Frag) : V → Option Int → Option Int → Hp → VK → Prop := fun x lo hi H Q => rSlS x lo hi H Q ∨ (rSlL K x lo hi H Q ∨ rSlA K x lo hi H Q)
theorem sl_U : SlR X (rSlU X.K) := sl_str.or (sl_list.or sl_tupA)
/-- min, max of a list of data -/
def rMinP (K : PySem.W.Frag) : List V → Hp → VK → Prop := fun xs H Q => ∃ p vs d ds, xs = [.ref p] ∧ SqL K H p vs ∧ DpAll K H vs (d :: ds) ∧ PySem.W.AlikeAll (d :: ds) ∧ PyData.depthAll (d :: ds) ≤ 60 ∧ ∀ (i : Nat) v, vs[i]? = some v → Dp K H v (PySem.W.minD d ds) → Q v H
def rMaxP (K : PySem.W.Frag) : List V → Hp → VK → Prop := fun xs H Q => ∃ p vs d ds, xs = [.ref p] ∧ SqL K H p vs ∧ DpAll K H vs (d :: ds) ∧ PySem.W.AlikeAll (d :: ds) ∧ PyData.depthAll (d :: ds) ≤ 60 ∧ ∀ (i : Nat) v, vs[i]? = some v → Dp K H v (PySem.W.maxD d ds) → Q v H
end
end L2
namespace DL
open PySem L2 StX
section
variable {K : PySem.W.Frag} [Tb K] {Z : ZX} {u u' : Wd} {σ : L2.St} {ds : DS} {P : D → Prop} {te ta tb tc : TE} {tt tu : TT} {i j : Int} {x y : Str} {xs ys : List D} {C : Addr} {a b : D} {p q : Bool}
/-! ### subscripts -/
theorem atI_of {α : Type} {xs : List α} {i : Int} {n : Nat} (h : (0 ≤ i ∧ i.toNat = n ∨ i < 0 ∧ (i + xs.length).toNat = n ∧ -(xs.length : Int) ≤ i)) (hn : n < xs.length) : atI xs i = xs[n]? := by
  unfold atI ixN
  rcases h with ⟨h1, h2⟩ | ⟨h1, h2, h3⟩
  · rw [if_pos h1, if_pos (by omega)]; simp [h2]
  · rw [if_neg (by omega), if_pos h3]; simp [h2]
theorem ix_lst {n : Nat} {d : D} (h0 : 0 ≤ i) (hn : xs[i.toNat]? = some d) (h : P d) : Op K (rIx K) (.lst xs) (.int i) P := fun u v w Q e _ d1 d2 k => by
  obtain ⟨a, vs, rfl, q, r⟩ := den_lst d1
  cases den_int d2
  obtain ⟨z, hz, hd⟩ := r.getD hn
  refine .inl ⟨a, vs, i, z, rfl, rfl, Evl.ex_l e q, ?_, k _ _ u (.refl e) hd h⟩
  rw [atI_of (.inl ⟨h0, rfl⟩) (List.getElem?_eq_some_iff.mp hz).1, hz]
theorem ix_tup {d : D} (h0 : 0 ≤ i) (hn : xs[i.toNat]? = some d) (h : P d) : Op K (rIx K) (.tup xs) (.int i) P := fun u v w Q e _ d1 d2 k => by
  obtain ⟨a, vs, rfl, q, r⟩ := den_tup d1
  cases den_int d2
  obtain ⟨z, hz, hd⟩ := r.getD hn
  refine .inr (.inl ⟨a, vs, i, z, rfl, rfl, Evl.ex_t e q, ?_, k _ _ u (.refl e) hd h⟩)
  rw [atI_of (.inl ⟨h0, rfl⟩) (List.getElem?_eq_some_iff.mp hz).1, hz]
theorem ix_str {c : Nat} (hz : x.length ≤ 1000000) (h0 : 0 ≤ i) (hn : x.cps.toList[i.toNat]? = some c) (h : P (.str ⟨#[c]⟩)) : Op K (rIx K) (.str x) (.int i) P := fun u v w Q e _ d1 d2 k => by
  cases den_str d1
  cases den_int d2
  refine .inr (.inr ⟨x, i, c, rfl, rfl, sz100 hz, ?_, k _ _ u (.refl e) (.str _) h⟩)
  rw [atI_of (.inl ⟨h0, rfl⟩) (List.getElem?_eq_some_iff.mp hn).1, hn]
/-! ### slices -/
def cutD (xs : List D) (lo hi : Option Int) : List D := (xs.drop (HT.sIx xs.length 0 lo)).take (HT.sIx xs.length xs.length hi - HT.sIx xs.length 0 lo)
theorem Dens.cut {vs : List V} (r : Dens K u vs xs) (lo hi : Option Int) : Dens K u (cutV vs lo hi) (cutD xs lo hi) := by
  unfold cutV cutD
  rw [r.len]
  exact (r.drop _).take _
theorem sl_lst {lo hi : Option Int} (h : P (.lst (cutD xs lo hi))) : Sl K (rSlU K) (.lst xs) lo hi P := fun u v Q e d1 k => by
  obtain ⟨a, vs, rfl, q, r⟩ := den_lst d1
  exact .inr (.inl ⟨a, vs, rfl, Evl.ex_l e q, fun p hp => k _ _ (u.put p _) (.put e hp) (.lst (SqL.of upd_same) ((r.cut lo hi).mono (Gs.put e hp).ls)) h⟩)
theorem sl_str {lo hi : Option Int} (hz : x.length ≤ 1000000) (h : P (.str (cutS x lo hi))) : Sl K (rSlU K) (.str x) lo hi P := fun u v Q e d1 k => by
  cases den_str d1
  exact .inl ⟨x, rfl, sz100 hz, k _ _ u (.refl e) (.str _) h⟩
/-! ### built-ins -/
abbrev rLen' (K : PySem.W.Frag) [Tb K] : List V → Hp → VK → Prop := fun xs H Q => ∃ x n, xs = [x] ∧ LenV K x H n ∧ Q (.int n) H
theorem len_lst (h : P (.int xs.length)) : Cb K (rLen' K) [.lst xs] P := fun u vs Q e r k => by
  obtain ⟨v, rfl, r1⟩ := dens1 r
  obtain ⟨a, ws, rfl, q, r2⟩ := den_lst r1
  exact ⟨_, ws.length, rfl, .inl ⟨ws, Evl.ex_l e q, rfl⟩, by rw [r2.len]; exact k _ _ u (.refl e) (.int _) h⟩
theorem len_tup (h : P (.int xs.length)) : Cb K (rLen' K) [.tup xs] P := fun u vs Q e r k => by
  obtain ⟨v, rfl, r1⟩ := dens1 r
  obtain ⟨a, ws, rfl, q, r2⟩ := den_tup r1
  exact ⟨_, ws.length, rfl, .inr ⟨ws, Evl.ex_t e q, rfl⟩, by rw [r2.len]; exact k _ _ u (.refl e) (.int _) h⟩
theorem len_str (hz : x.length ≤ 1000000) (h : P (.int x.length)) : Cb K (rLen' K) [.str x] P := fun u vs Q e r k => by
  obtain ⟨v, rfl, r1⟩ := dens1 r
  cases den_str r1
  exact ⟨_, x.length, rfl, ⟨sz100 hz, rfl⟩, k _ _ u (.refl e) (.int _) h⟩
abbrev rInt1 : List V → Hp → VK → Prop := fun xs H Q => (∃ i, xs = [.int i] ∧ Q (.int i) H) ∨ ∃ k, xs = [.bl k] ∧ Q (.int (if k then 1 else 0)) H
theorem int_int (h : P (.int i)) : Cb K rInt1 [.int i] P := fun u vs Q e r k => by
  obtain ⟨v, rfl, r1⟩ := dens1 r
  cases den_int r1
  exact .inl ⟨i, rfl, k _ _ u (.refl e) (.int _) h⟩
abbrev rMin2 : List V → Hp → VK → Prop := fun xs H Q => ∃ i j, xs = [.int i, .int j] ∧ Q (.int (if j < i then j else i)) H
abbrev rMax2 : List V → Hp → VK → Prop := fun xs H Q => ∃ i j, xs = [.int i, .int j] ∧ Q (.int (if j > i then j else i)) H
theorem min_int (h : P (.int (if j < i then j else i))) : Cb K rMin2 [.int i, .int j] P := fun u vs Q e r k => by
  obtain ⟨v, w, rfl, r1, r2⟩ := dens2 r
  cases den_int r1
  cases den_int r2
  exact ⟨i, j, rfl, k _ _ u (.refl e) (.int _) h⟩
theorem max_int (h : P (.int (if j > i then j else i))) : Cb K rMax2 [.int i, .int j] P := fun u vs Q e r k => by
  obtain ⟨v, w, rfl, r1, r2⟩ := dens2 r
  cases den_int r1
  cases den_int r2
  exact ⟨i, j, rfl, k _ _ u (.refl e) (.int _) h⟩
theorem dens_ints {vs : List V} {ns : List Int} (r : Dens K u vs (ns.map D.int)) : vs = ns.map V.int := by
  induction ns generalizing vs with
  | nil => exact dens0 r
  | cons n ns ih =>
    cases r with
    | cons a b => rw [den_int a, ih b]; rfl
theorem dens_strs {vs : List V} {ns : List Str} (r : Dens K u vs (ns.map D.str)) : vs = ns.map V.str := by
  induction ns generalizing vs with
  | nil => exact dens0 r
  | cons n ns ih =>
    cases r with
    | cons a b => rw [den_str a, ih b]; rfl
theorem ints_dens (ns : List Int) : Dens K u (ns.map V.int) (ns.map D.int) := by
  induction ns with
  | nil => exact .nil
  | cons n ns ih => exact .cons (.int n) ih
theorem strs_dens (ns : List Str) : Dens K u (ns.map V.str) (ns.map D.str) := by
  induction ns with
  | nil => exact .nil
  | cons n ns ih => exact .cons (.str n) ih
theorem sum_ints {ns : List Int} (h : P (.int ns.sum)) : Cb K (rSum K) [.lst (ns.map D.int)] P := fun u vs Q e r k => by
  obtain ⟨v, rfl, r1⟩ := dens1 r
  obtain ⟨a, ws, rfl, q, r2⟩ := den_lst r1
  have ew := dens_ints r2
  subst ew
  exact ⟨a, ns, rfl, Evl.ex_l e q, k _ _ u (.refl e) (.int _) h⟩
abbrev rTupOf (K : PySem.W.Frag) [Tb K] : List V → Hp → VK → Prop := fun xs H Q => ∃ p ys, xs = [.ref p] ∧ ((SqL K H p ys ∧ ∀ l, H l = none → Q (.ref l) (upd H l (.tup ys))) ∨ (SqT K H p ys ∧ Q (.ref p) H))
theorem tuple_lst (h : P (.tup xs)) : Cb K (rTupOf K) [.lst xs] P := fun u vs Q e r k => by
  obtain ⟨v, rfl, r1⟩ := dens1 r
  obtain ⟨a, ws, rfl, q, r2⟩ := den_lst r1
  exact ⟨a, ws, rfl, .inl ⟨Evl.ex_l e q, fun p hp => k _ _ (u.put p _) (.put e hp) (.tup (SqT.of upd_same) (r2.mono (Gs.put e hp).ls)) h⟩⟩
abbrev rLstOf (K : PySem.W.Frag) [Tb K] : List V → Hp → VK → Prop := fun xs H Q => ∃ p ys, xs = [.ref p] ∧ (SqL K H p ys ∨ SqT K H p ys) ∧ ∀ l, H l = none → Q (.ref l) (upd H l (.lst ys))
/-! ### isinstance -/
def tyD : D → Option String
  | .non => some "NoneType"
  | .bl _ => some "bool"
  | .int _ => some "int"
  | .str _ => some "str"
  | .lst _ => some "list"
  | .tup _ => some "tuple"
  | .dct _ => some "dict"
  | .fdc _ => some "dict"
  | _ => none
theorem den_ty {v : V} {d : D} {T : String} (h : Den K u v d) (ht : tyD d = some T) : TyX K u.H0 v (.type T) := by
  cases h with
  | non => cases ht; exact .base .non
  | bl => cases ht; exact .base (.bl _)
  | int => cases ht; exact .base (.int _)
  | str => cases ht; exact .base (.str _)
  | lst q r =>
    cases ht
    rcases q with (q | ⟨o, q⟩) | ⟨o, its, n, hk, hc, _⟩
    · exact .base (.lst q)
    · exact .base (.frz q)
    · exact .kList hk hc
  | tup q r =>
    cases ht
    rcases q with (q | ⟨o, q⟩) | ⟨o, its, n, hk, hc, _⟩
    · exact .base (.tup q)
    · exact .fTuple q
    · exact .kTuple hk hc
  | dct q r =>
    cases ht
    rcases q with q | ⟨o, q⟩
    · exact .base (.dK q)
    · exact .fDict q
  | fdc q r => cases ht; exact .fDict q
  | _ => cases ht
theorem isi_ty {T T' : String} {r : Bool} (ht : tyD a = some T) (hk : kitB T T' = some r) (h : P (.bl r)) : Cb K (rIsi K) [a, .ty T'] P := fun u vs Q e rs k => by
  obtain ⟨v, w, rfl, r1, r2⟩ := dens2 rs
  cases r2
  exact ⟨v, .ty T', .type T, .type T', r, rfl, .ty _, den_ty (u := ⟨u.S, u.T, u.n, u.H1, u.H1⟩) (Den.mono (show Le u ⟨u.S, u.T, u.n, u.H1, u.H1⟩ from ⟨fun _ h => h, fun _ _ => rfl, e⟩) r1) ht, kit_ty hk, k _ _ u (.refl e) (.bl _) h⟩
/-! ### truth -/
def truD : D → Option Bool
  | .non => some false
  | .bl b => some b
  | .int i => some (i != 0)
  | .lst xs => some (!xs.isEmpty)
  | .tup xs => some (!xs.isEmpty)
  | _ => none
/-! ### methods of texts -/
/-- s.m(e), s a text -/
def Mt (K : PySem.W.Frag) [Tb K] (r : V → List V → Hp → VK → Prop) (a : Str) (y : D) (P : D → Prop) : Prop :=
  ∀ (u : Wd) (w : V) (Q : VK), Ex u.H0 u.H1 → Den K u w y → (∀ z d u', Gp K u u' → Den K u' z d → P d → Q z u'.H1) → r (.str a) [w] u.H1 Q
theorem we_m1 {ds : DS} {n : Nat} {P : D → Nat → Prop} {r : V → List V → Hp → VK → Prop} (h : We K Z ta ds n fun d m => ∃ a, d = .str a ∧ We K Z tb ds m fun y k => Mt K r a y fun z => P z k) : We K Z (tM1 r ta tb) ds n P := fun b u σ Q e S k =>
  h b u σ _ e S fun v d u1 g1 s1 rr ⟨a, z, q⟩ => by
    subst z
    cases den_str rr
    exact ⟨⟨a, rfl⟩, q b u1 σ _ rfl (S.go g1 s1) fun w y u2 g2 s2 r2 hm => hm u2 w Q g2.c r2 fun t d u3 g3 r p => k t d u3 ((g1.trans g2).trans g3.g) (g3.st s2) r (g3.n ▸ p)⟩
theorem mt_countD (h : P (.int (Txt.count x y))) : Mt K (fun x xs H Q => ∃ a b, x = .str a ∧ xs = [.str b] ∧ Q (.int (Txt.count a b)) H) x (.str y) P := fun u w Q e d1 k => by
  cases den_str d1
  exact ⟨x, y, rfl, rfl, k _ _ u (.refl e) (.int _) h⟩
theorem mt_splitD (h1 : (y.length == 0) = false) (h2 : x.length ≤ 1000000) (h : P (.lst ((Txt.split x y).map D.str))) : Mt K (fun x xs H Q => ∃ a b, x = .str a ∧ xs = [.str b] ∧ (b.length == 0) = false ∧ a.length + 2 ≤ sizeLine ∧ rNewStrs (Txt.split a b) H Q) x (.str y) P := fun u w Q e d1 k => by
  cases den_str d1
  exact ⟨x, y, rfl, rfl, h1, Nat.le_trans (Nat.add_le_add_right h2 2) (by decide), fun p hp => k _ _ (u.put p _) (.put e hp) (.lst (SqL.of upd_same) (strs_dens _)) h⟩
theorem mt_joinD {zs : List Str} (h1 : (zs.map (·.length)).sum + zs.length * x.length ≤ 1000000) (h : P (.str (Txt.join x zs))) :
    Mt K (fun x xs H Q => ∃ a p, ∃ ys : List Str, x = .str a ∧ xs = [.ref p] ∧ (SqL K H p (ys.map V.str) ∨ SqT K H p (ys.map V.str)) ∧ (ys.map (·.length)).sum + ys.length * a.length ≤ 16777216 ∧ Q (.str (Txt.join a ys)) H) x (.lst (zs.map D.str)) P := fun u w Q e d1 k => by
  obtain ⟨a, ws, rfl, q, r2⟩ := den_lst d1
  have ew := dens_strs r2
  subst ew
  exact ⟨x, a, zs, rfl, rfl, .inl (Evl.ex_l e q), Nat.le_trans h1 (by decide), k _ _ u (.refl e) (.str _) h⟩
end
end DL
namespace L2
open PySem PySem.Spec PyProof.Rows StX
section
variable {X : Cx}
def rMinQ (K : PySem.W.Frag) : List V → Hp → VK → Prop := fun xs H Q => ∃ p vs d ds, xs = [.ref p] ∧ SqL K H p vs ∧ DpAll K H vs (d :: ds) ∧ PySem.W.AlikeAll (d :: ds) ∧ PyData.plainAll (d :: ds) = true ∧ PyData.depthAll (d :: ds) ≤ 60 ∧ ∀ (i : Nat) v, vs[i]? = some v → (d :: ds)[i]? = some (PySem.W.minD d ds) → Q v H
def rMaxQ (K : PySem.W.Frag) : List V → Hp → VK → Prop := fun xs H Q => ∃ p vs d ds, xs = [.ref p] ∧ SqL K H p vs ∧ DpAll K H vs (d :: ds) ∧ PySem.W.AlikeAll (d :: ds) ∧ PyData.plainAll (d :: ds) = true ∧ PyData.depthAll (d :: ds) ≤ 60 ∧ ∀ (i : Nat) v, vs[i]? = some v → (d :: ds)[i]? = some (PySem.W.maxD d ds) → Q v H
/-- x(e, ..), x an instance -/
def tCallO' (C : Addr) (sp : Sp) (E : XK) (tf : TE) (t : TA) : TE := fun σ H Q => tf σ H fun y H1 => ∃ a, y = V.ref a ∧ t σ H1 fun vs H2 => (∃ dx fs, H2 a = some (.ins C dx fs)) ∧ sp (V.ref a :: vs) H2 Q E
variable {CX : CXT} {k : Nat} {C : Addr} {sp : Sp} {E : XK} {e fe : Expr} {es : List Expr} {tf : TE} {t : TA} {pos : Pos} {g : Addr}
end
abbrev rCount : V → List V → Hp → VK → Prop := fun x xs H Q => ∃ a b, x = .str a ∧ xs = [.str b] ∧ Q (.int (Txt.count a b)) H
abbrev rRfind : V → List V → Hp → VK → Prop := fun x xs H Q => ∃ a b, x = .str a ∧ xs = [.str b] ∧ Q (.int (Txt.rfind a b)) H
abbrev rSplit : V → List V → Hp → VK → Prop := fun x xs H Q => ∃ a b, x = .str a ∧ xs = [.str b] ∧ (b.length == 0) = false ∧ a.length + 2 ≤ sizeLine ∧ rNewStrs (Txt.split a b) H Q
abbrev rJoin (K : PySem.W.Frag) : V → List V → Hp → VK → Prop := fun x xs H Q => ∃ a p, ∃ ys : List Str, x = .str a ∧ xs = [.ref p] ∧ (SqL K H p (ys.map V.str) ∨ SqT K H p (ys.map V.str)) ∧ (ys.map (·.length)).sum + ys.length * a.length ≤ 16777216 ∧ Q (.str (Txt.join a ys)) H
abbrev rOrd' : List V → Hp → VK → Prop := fun xs H Q => ∃ x, xs = [.str x] ∧ x.length = 1 ∧ Q (.int (x.cps.getD 0 0 : Nat)) H
end L2
namespace DL
open PySem L2 StX
section
variable {K : PySem.W.Frag} [Tb K] {Z : ZX} {u u' : Wd} {σ : L2.St} {ds : DS} {P : D → Prop} {te ta tb tc : TE} {tt tu : TT} {C : Addr} {E : XK} {R : Rl} {N : Nd}
end
end DL

namespace DL
open PySem L2 StX
section
variable {K : PySem.W.Frag} [Tb K] {Z : ZX} {b u u' u'' : Wd} {σ : L2.St} {ds : DS} {n : Nat} {P : D → Nat → Prop} {te ta tb tc : TE} {tt tu : TT} {N : Nd} {ts t1 t2 : TS} {g : TG} {De : Ends}
/-! ### streams -/
theorem strm_at {i : Nat} {a : Addr} {k : SK} (S : Sd K Z b u σ ds) (hd : ds[i]? = some (some (.strm a k))) : σ[i]? = some (some (.ref a)) ∧ u.S a ∧ u.T a = k ∧ u.H0 a = none ∧ ∃ o, u.H1 a = some o ∧ SO K u k o := by
  obtain ⟨v, hv, hS⟩ := S.sl i _ hd
  obtain ⟨rfl, hs, ht⟩ := den_strm (hS.imm rfl)
  obtain ⟨h0, o, h1, q⟩ := S.st a hs
  rw [ht] at q
  exact ⟨hv, hs, ht, h0, o, h1, q⟩
theorem gs_strm {a : Addr} {o : HO} {k : Nat} (e : Ex u.H0 u.H1) (s : StOk K u) (hs : u.S a) (hk : u.n ≤ k) (ho : SO K ⟨u.S, u.T, k, u.H0, upd u.H1 a o⟩ (u.T a) o) : Gs u ⟨u.S, u.T, k, u.H0, upd u.H1 a o⟩ ∧ StOk K ⟨u.S, u.T, k, u.H0, upd u.H1 a o⟩ := by
  obtain ⟨a0, o1, a1, _⟩ := s a hs
  refine ⟨⟨.refl _, fun x w ns hx => ?_, fun x hx => ?_, fun x w hx => ?_, fun x h h' => absurd h h', fun _ h => h, fun _ _ => rfl, fun _ h => .inl h, hk⟩, ⟨fun x hx => ?_, s.tb, s.on⟩⟩
  · exact (upd_ne (fun q : x = a => ns (by rw [q]; exact hs))).trans hx
  · show upd u.H1 a o x ≠ none
    by_cases q : x = a
    · rw [q, upd_same]; simp
    · rw [upd_ne q]; exact hx
  · exact (upd_ne (fun q => by rw [q, a0] at hx; cases hx)).trans (e x w hx)
  · obtain ⟨x0, w, x1, xs⟩ := s x hx
    by_cases q : x = a
    · subst q
      exact ⟨x0, o, upd_same, ho⟩
    · exact ⟨x0, w, (upd_ne q).trans x1, xs.mono ⟨fun _ h => h, fun _ _ => rfl, .refl _⟩ hk⟩
/-- a new stream -/
theorem new_strm {k : SK} {o : HO} {q : Addr} (e : Ex u.H0 u.H1) (s : StOk K u) (hq : u.H1 q = none) (ho : SO K u k o) (hkt : ∀ z, k ≠ .tbl z := by intro _ z; cases z) : Gs u ⟨fun a => u.S a ∨ a = q, fun a => if a = q then k else u.T a, u.n, u.H0, upd u.H1 q o⟩ ∧ StOk K ⟨fun a => u.S a ∨ a = q, fun a => if a = q then k else u.T a, u.n, u.H0, upd u.H1 q o⟩ := by
  have q0 : u.H0 q = none := ex_none e hq
  have nq : ∀ a, u.S a → a ≠ q := fun a ha z => by
    obtain ⟨_, w, a1, _⟩ := s a ha
    rw [z, hq] at a1; cases a1
  have l : Le u ⟨fun a => u.S a ∨ a = q, fun a => if a = q then k else u.T a, u.n, u.H0, upd u.H1 q o⟩ := ⟨fun _ h => .inl h, fun a ha => if_neg (nq a ha), .refl _⟩
  refine ⟨⟨.refl _, fun x w _ hx => ex_new hq x w hx, fun x hx => ?_, fun x w hx => ex_new hq x w (e x w hx), fun x h h' => absurd h h', fun _ h => .inl h, fun a ha => if_neg (nq a ha), fun x h => h.elim .inl fun z => .inr (by rw [z]; exact hq), Nat.le_refl _⟩, ⟨?_, fun p hp => ⟨.inl (s.tb p hp).1, (if_neg (nq p.1 (s.tb p hp).1)).trans (s.tb p hp).2⟩, fun a z ha hz => ?_⟩⟩
  · show upd u.H1 q _ x ≠ none
    by_cases z : x = q
    · rw [z, upd_same]; simp
    · rw [upd_ne z]; exact hx
  · rintro a (ha | rfl)
    · obtain ⟨a0, w, a1, as⟩ := s a ha
      refine ⟨a0, w, (upd_ne (nq a ha)).trans a1, ?_⟩
      show SO K _ (if a = q then k else u.T a) w
      rw [if_neg (nq a ha)]
      exact as.mono l (Nat.le_refl _)
    · refine ⟨q0, _, upd_same, ?_⟩
      show SO K _ (if a = a then k else u.T a) o
      rw [if_pos rfl]
      exact ho.mono l (Nat.le_refl _)
  · have hz' : (if a = q then k else u.T a) = .tbl z := hz
    by_cases h : a = q
    · rw [if_pos h] at hz'; exact absurd hz' (hkt z)
    · rw [if_neg h] at hz'; exact s.on a z (ha.resolve_right h) hz'
end
/-! ### comparisons of known forms -/
section
variable {K : PySem.W.Frag} [Tb K] {Z : ZX} {P : D → Prop} {i j k l : Int} {p q : Bool} {x y : Str}
theorem b_eq {α : Type} [DecidableEq α] (a b : α) : (a == b) = decide (a = b) := by
  by_cases h : a = b
  · subst h; simp
  · simp [h]
theorem eq_int (h : P (.bl (decide (i = j)))) : Op K (rEqP K) (.int i) (.int j) P := eqP (d := .int i) (e := .int j) rfl rfl rfl rfl (by simp [PyData.depth, PyData.depthAll]) (by simpa [PyData.eqv, b_eq] using h)
theorem ne_int (h : P (.bl (!decide (i = j)))) : Op K (rNeP K) (.int i) (.int j) P := neP (d := .int i) (e := .int j) rfl rfl rfl rfl (by simp [PyData.depth, PyData.depthAll]) (by simpa [PyData.eqv, b_eq] using h)
theorem ne_bl (h : P (.bl (!decide (p = q)))) : Op K (rNeP K) (.bl p) (.bl q) P := neP (d := .bool p) (e := .bool q) rfl rfl rfl rfl (by simp [PyData.depth, PyData.depthAll]) (by simpa [PyData.eqv, b_eq] using h)
theorem ne_str (h : P (.bl (!decide (x = y)))) : Op K (rNeP K) (.str x) (.str y) P := neP (d := .str x) (e := .str y) rfl rfl rfl rfl (by simp [PyData.depth, PyData.depthAll]) (by simpa [PyData.eqv, b_eq] using h)
abbrev pos (a b : Int) : D := .tup [.int a, .int b]
abbrev ppos (a b : Int) : PyData := .tuple [.int a, .int b]
theorem lt_int (h : P (.bl (decide (i < j)))) : Op K (rLtP K) (.int i) (.int j) P := ltP (d := .int i) (e := .int j) rfl rfl rfl (fun z => by cases z) (by simp [PyData.depth, PyData.depthAll]) (by rw [PySem.W.dataLt_int]; exact h)
theorem le_int (h : P (.bl (decide (i ≤ j)))) : Op K (rLeP K) (.int i) (.int j) P := leP (d := .int i) (e := .int j) rfl rfl rfl (fun z => by cases z) (by simp [PyData.depth, PyData.depthAll]) (by
  rw [PySem.W.dataLt_int]
  have e : (!decide (j < i)) = decide (i ≤ j) := by by_cases q : i ≤ j <;> simp [q] <;> omega
  rw [e]; exact h)
theorem ge_int (h : P (.bl (decide (j ≤ i)))) : Op K (rGeP K) (.int i) (.int j) P := geP (d := .int i) (e := .int j) rfl rfl rfl (fun z => by cases z) (by simp [PyData.depth, PyData.depthAll]) (by
  rw [PySem.W.dataLt_int]
  have e : (!decide (i < j)) = decide (j ≤ i) := by by_cases q : j ≤ i <;> simp [q] <;> omega
  rw [e]; exact h)
/-- positions in order -/
abbrev plt (i j k l : Int) : Prop := i < k ∨ i = k ∧ j < l
theorem isiI {T' : String} {r : Bool} (hk : kitB "int" T' = some r) (h : P (.bl r)) : Cb K (rIsi K) [.int i, .ty T'] P := isi_ty (a := .int i) rfl hk h
theorem isiS {T' : String} {r : Bool} (hk : kitB "str" T' = some r) (h : P (.bl r)) : Cb K (rIsi K) [.str x, .ty T'] P := isi_ty (a := .str x) rfl hk h
theorem iteD {c A B : Prop} [Decidable c] (h1 : c → A) (h2 : ¬ c → B) : if decide c = true then A else B := by
  by_cases h : c
  · rw [if_pos (decide_eq_true h)]; exact h1 h
  · rw [if_neg (by simp [h])]; exact h2 h
theorem iteNT {A B : Prop} (h : B) : if (!true) = true then A else B := by simpa using h
theorem iteNF {A B : Prop} (h : A) : if (!false) = true then A else B := by simpa using h
end
end DL

namespace DL
open PySem L2 StX
section
variable {K : PySem.W.Frag} [Tb K] {Z : ZX} {b u u' u'' : Wd} {σ : L2.St} {ds : DS} {n : Nat} {P : D → Nat → Prop} {te ta tb tc : TE} {tt tu : TT} {N : Nd} {ts t1 t2 : TS} {g : TG} {De : Ends}
/-- an object that nothing tells of -/
theorem Gs.junk (e : Ex u.H0 u.H1) {p : Addr} {o : HO} (hp : u.H1 p = none) : Gs u ⟨u.S, u.T, u.n, u.H0, upd u.H1 p o⟩ :=
  ⟨.refl _, fun x w _ hx => ex_new hp x w hx, fun x hx => by
      show upd u.H1 p o x ≠ none
      by_cases q : x = p
      · subst q; rw [upd_same]; simp
      · rw [upd_ne q]; exact hx, e.trans (ex_new hp), fun _ a b => absurd a b, fun _ h => h, fun _ _ => rfl, fun _ h => .inl h, Nat.le_refl _⟩
theorem StOk.not (s : StOk K u) {p : Addr} (hp : u.H1 p = none) : ¬ u.S p := fun h => by
  obtain ⟨_, o, h1, _⟩ := s p h
  rw [hp] at h1; cases h1
end
end DL

namespace DL
open PySem L2 StX
section
variable {K : PySem.W.Frag} [Tb K] {Z : ZX} {b u u' u'' : Wd} {σ : L2.St} {ds : DS} {n : Nat} {P : D → Nat → Prop} {te ta tb tc tv : TE} {N : Nd} {De : Ends}
/-! ### three keys -/
/-! ### the dict with cells -/
end
end DL

namespace DL
open PySem L2 StX
/-- an own exception's __init__ that stores its one argument in the field f -/
def spX1 (C : Addr) (f : Str) : Sp := fun vs H Q _ => ∃ a y, vs = [.ref a, y] ∧ H a = some (exo a C none) ∧ ∀ dx, H dx = none → dx ≠ a → Q .non (upd (upd H dx (exd dx [(f, y)])) a (exo a C (some dx)))
/-- raise C(..) -/
def tRaise (E : XK) (C : Addr) (sp : Sp) (ta : TA) : TS := fun _ σ H => tMkO C sp [] ta σ H E
section
variable {K : PySem.W.Frag} [Tb K] {Z : ZX} {b u u' u'' : Wd} {σ : L2.St} {ds : DS} {n : Nat} {P : D → Nat → Prop} {te ta tb tc tv : TE} {N : Nd} {De : Ends} {C : Addr} {f : Str}
end
section
variable {Pr : Program} {w : World} {K : PySem.W.Frag} [Tb K] {mg : Str → Option Value} {base : Heap} {C fI : Addr} {f : Str}
end
end DL

namespace DL
open PySem L2 StX
section
variable {K : PySem.W.Frag} [Tb K] {Z : ZX} {b u u' u'' : Wd} {σ : L2.St} {ds : DS} {n : Nat} {P : D → Nat → Prop} {te ta tb tc tv : TE} {N : Nd} {De : Ends} {tt : TT} {g : TG} {len : Nat}
/-! ### the dict with a list of what is left -/
theorem nats_at {v : V} {a : Addr} (s : StOk K u) (d : Den K u v (.strm a (.nats len))) : v = .ref a ∧ u.S a ∧ u.T a = .nats len ∧ u.H0 a = none ∧ ∃ xs : List Int, u.H1 a = some (.lst (xs.map V.int)) ∧ xs.length = len ∧ ∀ x ∈ xs, 0 ≤ x := by
  obtain ⟨rfl, hs, ht⟩ := den_strm d
  obtain ⟨h0, o, h1, q⟩ := s a hs
  rw [ht] at q
  obtain ⟨xs, rfl, q1, q2⟩ := q
  exact ⟨rfl, hs, ht, h0, xs, h1, q1, q2⟩
theorem ix_nats {a : Addr} {i : Int} {P : D → Prop} (h0 : 0 ≤ i) (h1 : i < len) (h : ∀ x : Int, 0 ≤ x → P (.int x)) : Op K (rIx K) (.strm a (.nats len)) (.int i) P := fun u v w Q e s d1 d2 k => by
  obtain ⟨rfl, _, _, _, xs, hx, hl, hp⟩ := nats_at s d1
  cases den_int d2
  have hi : i.toNat < xs.length := by omega
  refine .inl ⟨a, _, i, .int xs[i.toNat], rfl, rfl, SqL.of hx, ?_, k _ _ u (.refl e) (.int _) (h _ (hp _ (List.getElem_mem hi)))⟩
  rw [atI_of (n := i.toNat) (.inl ⟨h0, rfl⟩) (by rw [List.length_map]; exact hi), List.getElem?_map, List.getElem?_eq_getElem hi]
  rfl
end
end DL

namespace L2
open PySem
end L2
namespace DL
open PySem L2 StX
section
variable {K : PySem.W.Frag} [Tb K] {Z Z' : ZX} {b u u' u'' : Wd} {σ : L2.St} {ds : DS} {n : Nat} {P : D → Nat → Prop} {te : TE} {N : Nd} {De : Ends}
/-- slots that hold no thing that is being made -/
def immO : Option D → Option D
  | some d => if isMut d then none else some d
  | none => none
def immDS (ds : DS) : DS := ds.map immO
theorem imm_get {i : Nat} {d : D} (h : (immDS ds)[i]? = some (some d)) : ds[i]? = some (some d) ∧ isMut d = false := by
  unfold immDS at h
  rw [List.getElem?_map] at h
  cases q : ds[i]? with
  | none => rw [q] at h; cases h
  | some o =>
    rw [q] at h
    cases o with
    | none => cases h
    | some e =>
      simp only [Option.map_some, immO] at h
      by_cases m : isMut e = true
      · rw [if_pos m] at h; cases h
      · rw [if_neg m] at h
        cases h
        exact ⟨rfl, by simpa using m⟩
/-- the same slots from here on -/
theorem Sd.imm (S : Sd K Z b u σ ds) {w : Wd} (l : Le u w) (e : Ex w.H0 w.H1) (st : StOk K w) (xk : XOk K Z' w) : Sd K Z' w w σ (immDS ds) := by
  refine ⟨.refl e, xk, st, by simp [S.len, immDS], fun i d h => ?_, fun i j d e a c h1 h2 m1 m2 => ?_⟩
  · obtain ⟨q, m⟩ := imm_get h
    obtain ⟨v, h1, h2⟩ := S.sl i d q
    exact ⟨v, h1, .den ((h2.imm m).mono l)⟩
  · rw [(imm_get h1).2] at m1; cases m1
/-! ### lambdas -/
/-- what is told of a lambda's reading, from the world u0 on -/
def TlOk (K : PySem.W.Frag) [Tb K] (tl : XK → Hp → VK → Prop) (u0 : Wd) (n0 : Nat) (P : D → Nat → Prop) (X0 : Xp) : Prop :=
  ∀ (E : XK) (w : Wd) (Q : VK), Le u0 w → w.n = n0 → Ex w.H0 w.H1 → StOk K w → (∀ v d w', Gs w w' → StOk K w' → Den K w' v d → P d w'.n → Q v w'.H1) → XOk K ⟨E, X0⟩ w → tl E w.H1 Q
abbrev Rg := (D → Nat → Prop) → Xp → Nat → (D → Nat → Prop) → Prop
def TTd (K : PySem.W.Frag) [Tb K] (q : Str) (RG : Rg) : (XK → Hp → VK → Prop) → Addr → Addr → Hp → VK → Prop := fun tl f c' H Q => ∃ (u : Wd) (P0 : D → Nat → Prop) (X0 : Xp) (P : D → Nat → Prop), u.H1 = H ∧ Ex u.H0 u.H1 ∧ StOk K u ∧ u.H0 c' = some (LamX.CodeO c' q) ∧
  TlOk K tl u u.n P0 X0 ∧ RG P0 X0 u.n P ∧ ∀ v d u', Gs u u' → StOk K u' → Den K u' v d → P d u'.n → Q v u'.H1
end
end DL

namespace DL
open PySem L2 StX
open PyProof.Rows (envOfC)
section
variable {K : PySem.W.Frag} [Tb K] {Z : ZX} {b u u' : Wd} {σ : L2.St} {ds : DS} {n : Nat} {P : D → Nat → Prop} {te ta tb : TE} {t tk : TA} {N : Nd} {C : Addr} {E : XK} {R : Rl}
/-! ### own == -/
/-- what a class must say so that its instances' type is told -/
structure TyC (K : PySem.W.Frag) (C : Addr) : Prop where
  c : Cls K C
  a : PySem.W.findIn K (.ref C) "__class__" = some (some (.builtin "object.__class__"))
  g : PySem.W.specialIn K (.builtin "object.__class__") "__get__" = some (some (.builtin "getset_descriptor.__get__"))
  t : PySem.W.takesIn K (.builtin "object.__class__") = some true
  m : PySem.W.mroIn K C (.type "object") = some true
/-- the type of a thing -/
def TyD (K : PySem.W.Frag) (d : D) (w : Value) : Prop := (∃ T, tyD d = some T ∧ w = .type T) ∨ ∃ C fs, d = .obj C fs ∧ w = .ref C ∧ TyC K C
theorem den_tyX {v : V} {d : D} {w : Value} (ex : Ex u.H0 u.H1) (h : Den K u v d) (ht : TyD K d w) : TyX K u.H1 v w := by
  have h' := Den.mono (show Le u ⟨u.S, u.T, u.n, u.H1, u.H1⟩ from ⟨fun _ h => h, fun _ _ => rfl, ex⟩) h
  rcases ht with ⟨T, h1, rfl⟩ | ⟨C, fs, rfl, rfl, tc⟩
  · exact den_ty h' h1
  · obtain ⟨a, dx, fv, rfl, ha, _⟩ := den_obj h'
    exact .base (.ins ha tc.c tc.a tc.g tc.t tc.m)
theorem eqO {P : D → Prop} {x y : D} {fs : List (Str × D)} {w : Value} (hx : x = .obj C fs) (ht : TyD K y w) (nf : PySem.W.notFirst K C w = true) (h : ∀ n, R [x, y] n (fun d m => m = n ∧ ∃ b, d = .bl b ∧ P (.bl b)) noX) : Op K (rEqO K C (spD K R)) x y P := fun u v z Q ex st r1 r2 k => by
  subst hx
  obtain ⟨a, dx, fv, rfl, ha, hf⟩ := den_obj r1
  refine ⟨a, dx, fv, w, rfl, ex _ _ ha, den_tyX ex r2 ht, nf, u, _, _, noX, rfl, ex, st, .cons r1 (.cons r2 .nil), h u.n, ?_, xok_no⟩
  rintro v' d u1 g1 s1 r' ⟨hm, c, rfl, p⟩
  cases den_bl r'
  exact ⟨c, rfl, k _ _ u1 ⟨g1, fun _ => s1, hm⟩ (.bl c) p⟩
/-- isinstance(x, C), C a class of the program -/
theorem isiC {P : D → Prop} {d : D} {w : Value} {c : Addr} {r : Bool} (ht : TyD K d w) (hk : PySem.W.kitOne K w (.ref c) = some r) (h : P (.bl r)) : Cb K (rIsi K) [d, .cls c] P := fun u vs Q e rs k => by
  obtain ⟨v, z, rfl, r1, r2⟩ := dens2 rs
  cases r2
  exact ⟨v, .ref c, w, .ref c, r, rfl, .own c, den_tyX e r1 ht, hk, k _ _ u (.refl e) (.bl _) h⟩
end
/-! ### defs -/
section
variable {Pr : Program} {w : World} {K : PySem.W.Frag} [Tb K] {mg : Str → Option Value} {base : Heap} {R : Rl}
end
section
variable {Pr : Program} {w : World} {K : PySem.W.Frag} {mg : Str → Option Value} {base : Heap} {C fI : Addr} {f : Str} {tl : List Value} {B newId initId : String}
end
theorem lookup_nodup {tb : List (Addr × Str)} (hn : (tb.map (·.1)).Nodup) : ∀ p ∈ tb, tb.lookup p.1 = some p.2 := by
  induction tb with
  | nil => intro p hp; cases hp
  | cons q tb ih =>
    intro p hp
    obtain ⟨a, n⟩ := q
    rw [List.map_cons, List.nodup_cons] at hn
    rw [List.lookup_cons]
    rcases List.mem_cons.mp hp with rfl | hp
    · simp
    · have : p.1 ≠ a := fun z => hn.1 (by rw [← z]; exact List.mem_map.mpr ⟨p, hp, rfl⟩)
      have e : (p.1 == a) = false := by simpa using this
      rw [e]
      exact ih hn.2 p hp
/-- where a law begins: its script is told, the tables are empty -/
theorem law_begin {K : PySem.W.Frag} {tb : List (Addr × Str)} [i : Tb K] {R : Rl} {H : Hp} {a : Addr} {ns : List Int} (n0 : Nat) (hS : SqL K H a (ns.map V.int)) (hi : Tb.tb K = tb) (hn : (tb.map (·.1)).Nodup) (hT : ∀ p ∈ tb, H p.1 = some (.tbl #[])) (hR : R [.lst (ns.map .int)] n0 (fun d _ => d = .bl true) noX) :
    spD K R [.ref a] H (fun v _ => v = .bl true) fun _ _ _ => False := by
  have mem : ∀ x, x ∈ tb.map (·.1) → H x = some (.tbl #[]) := fun x hx => by
    obtain ⟨p, hp, e⟩ := List.mem_map.mp hx
    rw [← e]; exact hT p hp
  have hH0 : ∀ x o, H x = some o → (∀ ps, o ≠ .tbl ps) → (if x ∈ tb.map (·.1) then none else H x) = some o := fun x o h n => by
    rw [if_neg (fun z => by rw [mem x z] at h; cases h; exact n _ rfl)]; exact h
  refine ⟨⟨fun x => x ∈ tb.map (·.1), fun x => .tbl ((tb.lookup x).getD Str.empty), n0, fun x => if x ∈ tb.map (·.1) then none else H x, H⟩, [.lst (ns.map .int)], fun d _ => d = .bl true, noX, rfl, fun x o h => ?_, ⟨fun x hx => ⟨if_pos hx, _, mem x hx, #[], rfl, True.intro, fun pos cv hc => ?_⟩, fun p hp => ?_, fun x q hx hq => ?_⟩, .cons (.lst ?_ (ints_dens ns)) .nil, hR, fun v d _ _ _ r p => by cases p; exact den_bl r, xok_no⟩
  · have h' : (if x ∈ tb.map (·.1) then none else H x) = some o := h
    show H x = some o
    by_cases z : x ∈ tb.map (·.1)
    · rw [if_pos z] at h'; cases h'
    · rw [if_neg z] at h'; exact h'
  · have z : codeAmong pos [] = some cv := hc
    simp [codeAmong] at z
  · rw [hi] at hp
    refine ⟨List.mem_map.mpr ⟨p, hp, rfl⟩, ?_⟩
    show SK.tbl ((tb.lookup p.1).getD Str.empty) = _
    rw [lookup_nodup hn p hp]; rfl
  · rw [hi]
    obtain ⟨p, hp, e⟩ := List.mem_map.mp (show x ∈ tb.map (·.1) from hx)
    have hq' : SK.tbl ((tb.lookup x).getD Str.empty) = .tbl q := hq
    rw [← e, lookup_nodup hn p hp] at hq'
    cases hq'
    rw [← e]
    exact hp
  · rcases hS with (h | ⟨o, h⟩) | h
    · exact .inl (.inl (hH0 _ _ h fun _ z => by cases z))
    · exact .inl (.inr ⟨o, hH0 _ _ h fun _ z => by cases z⟩)
    · exact .inr h
end DL

/-! Classmethods called by keywords, cls(..), texts backwards. -/
namespace L2
open PySem PySem.Spec PyProof.Rows ClX
section
variable {X : Cx} {CX : CXT} {k : Nat} {C p f g : Addr} {mc : Value} {fd : FuncData} {ps ks : List Str} {ds : List Value} {dvs : List V} {sp : Sp} {E : XK} {o e : Expr} {es : List Expr} {kws : List Keyword} {m x : Str} {np pos apos : Pos} {te ta : TE} {t tk : TA} {gL : List Value → List Value → List Value} {gV : List V → List V → List V}
/-- C.m(k = v, ..), m a classmethod -/
def tCMethN (C : Addr) (nk : Nat) (sp : Sp) (gV : List V → List V → List V) (E : XK) (ta : TE) (tk : TA) : TE := fun σ H Q => ta σ H fun y H1 => y = .ref C ∧ tk σ H1 fun zs H2 => zs.length = nk ∧ sp (gV [.ref C] zs) H2 Q E
/-- cls(..), the class a variable -/
def tMakeV (C : Addr) (sp : Sp) (dvs : List V) (E : XK) (te : TE) (t : TA) : TE := fun σ H Q => te σ H fun y H1 => y = .ref C ∧ tMake C sp dvs E t σ H1 Q
/-- a text backwards -/
def revS (z : Str) : Str := ⟨z.cps.toList.reverse.toArray⟩
def tRevS (te : TE) : TE := fun σ H Q => te σ H fun x H1 => ∃ z, x = .str z ∧ z.length ≤ sizeLine ∧ Q (.str (revS z)) H1
end
end L2

namespace DL
open PySem L2 StX ClX
section
variable {K : PySem.W.Frag} [Tb K] {Z : ZX} {ds : DS} {n : Nat} {P : D → Nat → Prop} {te ta : TE} {t tk : TA} {C : Addr} {E : XK} {R : Rl}
end
end DL

/-! What is known of repr's guards, carried from the law down to the defs that ask for repr. -/
namespace L2
open PySem PySem.Spec PyProof.Rows
section
variable {X : Cx}
/-- repr of a list or a tuple of data -/
def rRepr (K : PySem.W.Frag) : List V → Hp → VK → Prop := fun xs H Q => ∃ a d, xs = [.ref a] ∧ Dp K H (.ref a) d ∧ d.showable = true ∧ d.hasDict = false ∧ d.depth ≤ 60 ∧ d.shown.length ≤ sizeLine ∧ Q (.str d.shown) H
end
/-- a def that may be called where no repr is under way -/
structure FnG (P : Program) (w : World) (K : PySem.W.Frag) (mg : Str → Option Value) (base : Heap) (CX : CXT) (k : Nat) (f : Addr) (fd : FuncData) (ps : List Str) (sp : Sp) : Prop where
  size : ∀ {vs : List V} {H : Hp} {Q : VK} {E : XK}, sp vs H Q E → vs.length = ps.length
  goes : ∀ {A : Around} {outer : List Env} {s : Shared} {H : Hp} {args : Args} {us : List Value} {vs : List V} {Q : VK} {E : XK}, A.guards = some [] → Room k A → Env0 P w K mg base A outer s H → BindsTo s fd args (ps.zip us) → Vals vs us → sp vs H Q E →
    codeAny (model P w) A (.call (.ref f) args) (CR CX outer P w H s Q E) s
section
variable {P : Program} {w : World} {K : PySem.W.Frag} {mg : Str → Option Value} {base : Heap} {CX : CXT} {k : Nat} {f : Addr} {fd : FuncData} {ps N : List Str} {sp : Sp}
theorem FnG.of (F : FnOk P w K mg base CX k f fd ps sp) : FnG P w K mg base CX k f fd ps sp := ⟨F.len _ _ _ _, fun _ hr e0 hb rv h => F.run _ _ _ _ _ _ _ _ _ hr e0 hb rv h⟩
/-- a def by its body, the guards told -/
theorem Fun.okG {x qual : Str} {st : Stmt} (F : Fun K x qual st f fd) (S : FnScope N ps (defScope st)) (len : ∀ vs H Q E, sp vs H Q E → vs.length = ps.length)
    (hbody : ∀ (cdv : Value) (A : Around) (outer : List Env) (s : Shared) (H : Hp) (vs : List V) (Q : VK) (E : XK), fd.code = cdv → (A.deeper (envOfC qual (defScope st) s.heap.objs.size f cdv)).guards = some [] → Room k (A.deeper (envOfC qual (defScope st) s.heap.objs.size f cdv)) → sp vs H Q E →
      ∃ t, PSs (cxOf CX P w K mg base N qual (defScope st) f cdv A outer s H E) (defBody st) t ∧ t { nx := fun _ H' => Q .non H', rt := Q } (start N vs) H) :
    FnG P w K mg base CX (k + 1) f fd ps sp := by
  obtain ⟨oc, od, kV, doc, pm, an, cdv, ct, osl, rfl, lk, hcg⟩ := F.ex
  refine ⟨len _ _ _ _, fun {A outer s H args us vs Q E} hg hr e0 hb rv h => ?_⟩
  have same : ∀ b o, base.get? b = some o → s.heap.get? b = some o := fun b o e => (e0.bs b o e).1
  have KH : K.In s.heap := e0.mod.kin.keeps same
  refine codeAny_call_function hr.depth (KH _ _ lk) rfl S.co S.gen rfl (PySem.W.codeRec_of KH hcg) (hb _ _ _ _ (wpAny_newFunctionEnv_cells S.kind (fun ⟨y, z⟩ hy => ?_) fun env he s1 c => ?_))
  · exact (S.par y (List.of_mem_zip hy).1).elim .inl fun q => .inr ⟨q, PySem.W.cellsFrom_some _ _ _ (.inl q)⟩
  · subst he
    refine ⟨(e0.mod.nolimit.keeps same).keeps c.toInCall.keep, codeAny_func ?_⟩
    obtain ⟨t, ht, hq⟩ := hbody cdv A outer s H vs Q E rfl hg (hr.deeper _) h
    refine wpAny_mono (ht.run [] s1 (start N vs) H _ (inv_start S hr.hd e0 (len _ _ _ _ h) rv c) hq) (fun fl s' z => ?_) fun _ _ z => z
    match fl, z with
    | .ret u, ⟨v, σ', H', J, rv', q⟩ => exact ⟨v, H', J.os, J.bare, J.base, J.hok, rv', q⟩
    | .next, ⟨σ', H', J, q⟩ => exact ⟨.non, H', J.os, J.bare, J.base, J.hok, rfl, q⟩
    | .brk, ⟨_, _, _, q⟩ => exact q.elim
    | .cont, ⟨_, _, _, q⟩ => exact q.elim
end
section
variable {X : Cx} {CX : CXT} {k : Nat} {f : Addr} {fd : FuncData} {ps : List Str} {sp : Sp} {E : XK} {x : Str} {np pos : Pos} {e : Expr} {es : List Expr} {t : TA}
end
end L2

/-! The end of a law whose def is told with the guards. -/
namespace LamX
open PySem PySem.Spec PyProof.Rows L2
/-- what a law begins with: empty tables, and its script, unless that is written out already -/
def beginH (ts : List Addr) (a : Addr) (o : Obj) (xs : List V) (kn : Bool) : Hp := fun b => if b ∈ ts then some (.tbl #[]) else if b = a ∧ kn = false then some (.frz o (.lst xs)) else none
section
variable {P : Program} {w : World} {K : PySem.W.Frag} {mg mb : Str → Option Value} {CX : CXT} {k : Nat} {fa a : Addr} {cs : List (Addr × Addr)} {fd : FuncData} {x : Str} {sp : Sp} {s₁ : Shared} {vs : List Value} {ns : List Int}
theorem law_callG (KX : K.In s₁.heap) (gN : s₁.heap.Ns mainGlobals mg) (bN : s₁.heap.Ns builtinsNs mb) (bB : ∀ y : Str, y ≠ "__name__" → mb y = bootBuiltins y) (nl : s₁.heap.NoLimit) (ge : s₁.gens = #[])
    (tE : ∀ p ∈ cs, s₁.heap.get? p.2 = some { cls := .none, data := .fields #[] }) (tN : ∀ p ∈ cs, K.lookup p.2 = none) (tC : ∀ p ∈ cs, PySem.W.CodeHd s₁.heap p.1 p.2)
    (bm : ∃ (c : Addr) (o : Obj), mg "__builtins__" = some (.ref c) ∧ c ≠ builtinsNs ∧ s₁.heap.get? c = some o ∧ o.cls = .type "module" ∧ o.dict = some builtinsNs ∧ o.data = .plain)
    (sc : s₁.heap.get? a = some { cls := .type "list", data := .seq vs.toArray }) (si : IntsAre vs ns) (sl : ns.length ≤ sizeLine) (hr : Room k callerA)
    (F : ∀ b : Heap, K.In b → b.Ns mainGlobals mg → (∀ p ∈ cs, TabB b mg p.1 p.2) → FnG P w K mg b CX k fa fd [x] sp) (fb : ∀ (s : Shared) (u : Value), BindsTo s fd ⟨[u], []⟩ [(x, u)])
    (go : ∀ H : Hp, (∀ p ∈ cs, H p.2 = some (.tbl #[])) → SqL K H a (ns.map V.int) → sp [.ref a] H (fun v _ => v = .bl true) fun _ _ _ => False)
    (noE : ∀ H e s', CX [] H s₁ (fun _ _ _ => False) e s' → False) :
    codeAny (model P w) callerA (.call (.ref fa) ⟨[.ref a], []⟩) (fun r s' => r = .ok (.ret (.bool true)) ∧ OldK s₁.heap s'.heap ∧ s'.os = s₁.os ∧ AllBare s'.gens) s₁ := by
  have isTab : ∀ {b : Addr}, b ∈ cs.map (·.2) → ∃ p ∈ cs, p.2 = b := fun hb => List.mem_map.mp hb
  have tab : ∀ {b : Addr}, b ∈ cs.map (·.2) → s₁.heap.get? b = some { cls := .none, data := .fields #[] } := fun hb => let ⟨p, h1, h2⟩ := isTab hb; h2 ▸ tE p h1
  have aN : a ∉ cs.map (·.2) := fun z => by
    have q := congrArg Obj.data (Option.some.inj ((tab z).symm.trans sc))
    cases q
  generalize hH : beginH (cs.map (·.2)) a { cls := .type "list", data := .seq vs.toArray } (ns.map V.int) (K.lookup a).isSome = H
  have atT : ∀ {b : Addr}, b ∈ cs.map (·.2) → H b = some (.tbl #[]) := fun hb => by rw [← hH]; exact if_pos hb
  have atN : ∀ {b : Addr}, b ∉ cs.map (·.2) → (b = a → (K.lookup a).isSome = true) → H b = none := fun {b} h1 h2 => by
    rw [← hH]
    show (if b ∈ _ then _ else if b = a ∧ (K.lookup a).isSome = false then _ else _) = none
    rw [if_neg h1, if_neg fun z => by rw [h2 z.1] at z; cases z.2]
  have cases3 : ∀ (b : Addr) (u : HO), H b = some u → (b ∈ cs.map (·.2) ∧ u = .tbl #[]) ∨ (b = a ∧ (K.lookup a).isSome = false ∧ u = .frz { cls := .type "list", data := .seq vs.toArray } (.lst (ns.map V.int))) := fun b u z => by
    rw [← hH] at z
    have z' : (if b ∈ cs.map (·.2) then some (HO.tbl #[]) else if b = a ∧ (K.lookup a).isSome = false then some (.frz { cls := .type "list", data := .seq vs.toArray } (.lst (ns.map V.int))) else none) = some u := z
    split at z'
    · next h => cases z'; exact .inl ⟨h, rfl⟩
    · split at z'
      · next h => cases z'; exact .inr ⟨h.1, h.2, rfl⟩
      · cases z'
  have see : ∀ {b : Addr} {o : Obj}, s₁.heap.get? b = some o → (∀ v m, o.data ≠ .seq v m) → o.data ≠ .fields #[] → (hidT s₁.heap H).get? b = some o := fun {b o} e h1 h2 => hidT_get e (atN (fun z => by
    have q := (tab z).symm.trans e
    cases q
    exact h2 rfl) fun z => by
    subst z
    have q := sc.symm.trans e
    cases q
    exact absurd rfl (h1 _ _))
  have seeN : ∀ {b : Addr} {m : Str → Option Value}, s₁.heap.Ns b m → (hidT s₁.heap H).Ns b m := fun ⟨o, es, n, e, d, q⟩ => ⟨o, es, n, see e (fun v m => by rw [d]; exact fun z => nomatch z) (by rw [d]; exact fun z => nomatch z), d, q⟩
  have seeK : K.In (hidT s₁.heap H) := fun b o e => hidT_get (KX b o e) (atN (fun z => by
    obtain ⟨p, h1, h2⟩ := isTab z
    rw [← h2, tN p h1] at e
    cases e) fun z => by rw [← z, e]; rfl)
  have seeT : ∀ p ∈ cs, TabB (hidT s₁.heap H) mg p.1 p.2 := fun p hp => by
    obtain ⟨co, cv, c1, c2, c3, c4, c5, c6, c7, at_, f1, f2, f3, f4, f5, f6, f7, f8, f9⟩ := tC p hp
    refine ⟨⟨co, cv, c1, c2, c3, c4, c5, c6, c7, see at_ (fun v m => by rw [f2]; exact fun z => nomatch z) (by rw [f2]; intro z; injection z with z; rw [z] at f3; cases f3), f1, f2, f3, f4, f5, f6, f7, f8, f9⟩, ?_, fun z => ?_⟩
    · obtain ⟨c, o, b1, b2, b3, b4, b5, b6⟩ := bm
      refine ⟨c, o, b1, b2, fun z => ?_, fun z => ?_, see b3 (fun v m => by rw [b6]; exact fun z => nomatch z) (by rw [b6]; exact fun z => nomatch z), b4, b5, b6⟩
      · obtain ⟨o', es, n, e, d, -⟩ := gN
        rw [← z, b3] at e
        cases e
        rw [b6] at d
        cases d
      · rw [z, tE p hp] at b3
        cases b3
        cases b6
    · obtain ⟨o', es, n, e, d, -⟩ := gN
      rw [z, tE p hp] at e
      cases e
      cases d
  have iv := vals_ints si
  have ln := si.length
  have ok : HOk P w H s₁.heap := fun b u z => by
    rcases cases3 b u z with ⟨h, rfl⟩ | ⟨rfl, -, rfl⟩
    · exact tab h
    · exact ⟨sc, by rw [List.length_map]; exact sl, vs, _, iv, sc⟩
  have sq : SqL K H a (ns.map V.int) := by
    cases hk : K.lookup a with
    | some o =>
      have e := (KX a o hk).symm.trans sc
      cases e
      exact .inr ⟨_, vs.toArray, _, hk, rfl, rfl, rfl, by rw [List.size_toArray, ln]; exact sl, by simpa using iv⟩
    | none =>
      refine .inl (.inr ⟨{ cls := .type "list", data := .seq vs.toArray }, ?_⟩)
      rw [← hH]
      show (if a ∈ _ then _ else if a = a ∧ (K.lookup a).isSome = false then _ else _) = _
      rw [if_neg aN, if_pos ⟨rfl, by rw [hk]; rfl⟩]
  have e0 : Env0 P w K mg (hidT s₁.heap H) callerA [] s₁ H := {
    frames := rfl
    mod := ⟨seeK, seeN gN, ⟨mb, seeN bN, bB⟩, let ⟨c, n1, n2⟩ := nl; ⟨c, seeN n1, n2⟩⟩
    bs := fun b o e => of_hidT e
    bsz := Nat.le_of_eq (hidT_size _ _)
    funs := trivial
    frf := fun b z => nomatch z
    hok := ok
    bare := .of_eq ge }
  refine codeAny_mono ((F _ seeK (seeN gN) seeT).goes rfl hr e0 (us := [.ref a]) (vs := [.ref a]) (fb s₁ (.ref a)) (.cons rfl .nil) (go H (fun p hp => atT (List.mem_map.mpr ⟨p, hp, rfl⟩)) sq)) fun r s' z => ?_
  match r, z with
  | .error e, z => exact (noE H e s' z).elim
  | .ok .next, z => exact False.elim z
  | .ok .brk, z => exact False.elim z
  | .ok .cont, z => exact False.elim z
  | .ok (.ret u), ⟨v, H', so, sb, un, ok', rv, (q : v = .bl true)⟩ =>
    subst q
    obtain rfl : u = Value.bool true := rv
    have kept : ∀ b o, b ∉ cs.map (·.2) → s₁.heap.get? b = some o → s'.heap.get? b = some o := fun b o nb e => by
      cases q : H b with
      | none => exact un.keep b o e q (fun z => nomatch z) (fun z => nomatch z)
      | some u =>
        rcases cases3 b u q with ⟨h, -⟩ | ⟨rfl, -, rfl⟩
        · exact absurd h nb
        · rw [sc] at e
          cases e
          exact (ok' _ _ (un.frzs _ _ _ q)).1
    have more : ∀ {b : Addr}, b ∈ cs.map (·.2) → ∃ m : Array Value, s'.heap.get? b = some { cls := .none, data := .fields m } := fun {b} hb => let ⟨m, z⟩ := un.tbls b #[] (atT hb); ⟨_, ok' b _ z⟩
    refine ⟨rfl, ⟨fun b o e => ?_, fun b o e => ?_⟩, so, sb⟩
    · by_cases hb : b ∈ cs.map (·.2)
      · obtain ⟨p, h1, rfl⟩ := isTab hb
        obtain ⟨m, hm⟩ := more hb
        have e' := (tE p h1).symm.trans e
        cases e'
        exact .inr (.inl ⟨((tC p h1).tab (tE p h1)).isCodeTable, rfl, #[], m, rfl, by rw [Array.empty_append]; exact hm⟩)
      · exact .inl (kept b o hb e)
    · by_cases hb : b ∈ cs.map (·.2)
      · exact let ⟨m, hm⟩ := more hb; ⟨_, hm⟩
      · exact ⟨o, kept b o hb e⟩
end
/-- what is to be known of a law's def, with the guards -/
def LawAtG (l : PySem.W.OpenLaw) (w : World) (K : PySem.W.Frag) (CX : CXT) (k n : Nat) (x : Str) (mg : Str → Option Value) (fa : Addr) (h : Heap) : Prop :=
  ∃ (fd : FuncData) (cs : List (Addr × Addr)) (sp : Sp), (∀ p ∈ cs, h.get? p.2 = some { cls := .none, data := .fields #[] } ∧ K.lookup p.2 = none ∧ PySem.W.CodeHd h p.1 p.2) ∧ (∀ (s : Shared) (u : Value), BindsTo s fd ⟨[u], []⟩ [(x, u)]) ∧
    (∀ (H : Hp) (a : Addr) (ns : List Int), ns.length ≤ n → (∀ p ∈ cs, H p.2 = some (.tbl #[])) → SqL K H a (ns.map V.int) → sp [.ref a] H (fun v _ => v = .bl true) fun _ _ _ => False) ∧
    ∀ b : Heap, K.In b → b.Ns mainGlobals mg → (∀ p ∈ cs, TabB b mg p.1 p.2) → FnG l.prog w K mg b CX k fa fd [x] sp
theorem walkG {l : PySem.W.OpenLaw} {n k : Nat} {q : Program} {loose : List Str} {XP : (Str → Option Value) → Heap → Prop} {YP : World → Heap → Prop} {d : DefRec} {K : Params → PySem.W.Frag} {CX : World → CXT} {x : Str} (most : l.most = some n) (small : n ≤ sizeLine) (nodef : d.params.defaults = []) (hr : Room k callerA)
    (inK : ∀ (w : World) (h : Heap), YP w h → (K w.params).In h) (F : ∀ (w : World) (mg : Str → Option Value) (fa : Addr) (h : Heap), YP w h → (K w.params).In h → h.Ns mainGlobals mg → mg d.name = some (.ref fa) → LawAtG l w (K w.params) (CX w) k n x mg fa h)
    (noE : ∀ (w : World) (H : Hp) (s : Shared) (e : Value) (s' : Shared), CX w [] H s (fun _ _ _ => False) e s' → False) : PySem.W.WalkO q loose XP YP l.row.toRowW d [] (fun f vs => PySem.call f vs) :=
  Att.attach_callB most nodef fun w s₀ s₁ mg mb fa o pm cd doc a vs ns G Y ho hd hcd hmg sc si hl hbits hg =>
    let ⟨fd, cs, sp, hT, hb, hsp, hF⟩ := F w mg fa _ Y (inK w _ Y) G.T.g hmg
    law_callG (inK w _ Y) G.T.g G.T.b G.T.builtins G.T.nolimit hg (fun p hp => (hT p hp).1) (fun p hp => (hT p hp).2.1) (fun p hp => (hT p hp).2.2) G.T.bmain sc si (Nat.le_trans hl small) hr hF hb (fun H h1 h2 => hsp H a ns hl h1 h2) fun H e s' => noE w H s₁ e s'
end LamX

namespace DL
open PySem L2 StX
open PyProof.Rows (envOfC)
section
variable {K : PySem.W.Frag} [Tb K]
end
section
variable {Pr : Program} {w : World} {K : PySem.W.Frag} [Tb K] {mg : Str → Option Value} {base : Heap} {R : Rl}
/-- a def that asks for repr, or calls one that does; its code object is cdv (for lambdas) -/
theorem dokG {x qual : Str} {st : Stmt} {f : Addr} {fd : FuncData} {N ps : List Str} {k : Nat} (F : Fun K x qual st f fd) (S : FnScope N ps (defScope st)) (len : ∀ ds n P X, R ds n P X → ds.length = ps.length) (hNp : ps.length ≤ N.length)
    (hbody : ∀ (cdv : Value) (A : Around) (outer : List Env) (s : Shared) (H : Hp) (E : XK), fd.code = cdv → (A.deeper (envOfC qual (defScope st) s.heap.objs.size f cdv)).guards = some [] → Room k (A.deeper (envOfC qual (defScope st) s.heap.objs.size f cdv)) →
      ∃ t, PSs (cxOf CX0 Pr w K mg base N qual (defScope st) f cdv A outer s H E).nox (defBody st) t ∧ ∀ Z ds n P, R ds n P Z.X → Ws K Z t (startD N.length ds) n { nx := fun _ m => P .non m, rt := P }) : FnG Pr w K mg base CX0 (k + 1) f fd ps (spD K R) := by
  refine F.okG S (fun vs H Q E ⟨u, ds, P, X, _, e, _, r, h, _⟩ => by rw [r.len]; exact len ds _ P X h) (fun cdv A outer s H vs Q E hcd hg hr ⟨u, ds, P, X, eh, e, st, r, h, q, xk⟩ => ?_)
  obtain ⟨t, ht, hW⟩ := hbody cdv A outer s H E hcd hg hr
  subst eh
  exact ⟨t, ht.nox, hW ⟨E, X⟩ ds u.n P h u u _ _ rfl (sd_start e xk st r (by rw [r.len, len ds _ P X h]; exact hNp)) ⟨fun ds' v σ' _ S' p => q _ _ _ S'.gr S'.st .non p, fun d v v' g s r p => q v d v' g s r p, fun _ _ _ _ _ z => z.elim, fun _ _ _ _ _ z => z.elim⟩⟩
end
end DL

/-! repr of a list of two pairs of a text and an empty dict. -/
namespace L2
open PySem PySem.Spec PyProof.Rows
/-- a pair of a text and an empty dict -/
abbrev pairE (x : Str) : PyData := .tuple [.str x, .dict []]
def Dq (K : PySem.W.Frag) (H : Hp) (x : Str) (v : V) : Prop := ∃ t d, v = .ref t ∧ SqT K H t [.str x, .ref d] ∧ Rd H d (.dK [])
section
variable {X : Cx} {pins : List (Addr × Obj)} {σ : St} {H : Hp} {s : Shared}
end
section
variable {X : Cx}
/-- repr of a list of two such pairs -/
def rRepr2 (K : PySem.W.Frag) : List V → Hp → VK → Prop := fun xs H Q => ∃ a x v1 v2, xs = [.ref a] ∧ SqL K H a [v1, v2] ∧ Dq K H x v1 ∧ Dq K H x v2 ∧ (PyData.list [pairE x, pairE x]).shown.length ≤ sizeLine ∧ Q (.str (PyData.list [pairE x, pairE x]).shown) H
/-- repr of data, or of a list of two pairs with empty dicts -/
def rReprU (K : PySem.W.Frag) : List V → Hp → VK → Prop := fun xs H Q => rRepr K xs H Q ∨ rRepr2 K xs H Q
end
end L2
namespace DL
open PySem L2 StX
section
variable {K : PySem.W.Frag} [Tb K]
end
end DL

namespace L2
open PySem PySem.Spec PyProof.Rows
section
variable {X : Cx} {pins : List (Addr × Obj)} {σ : St} {H : Hp} {s : Shared}
end
section
variable {X : Cx}
/-- repr of a list of such pairs -/
def rReprs (K : PySem.W.Frag) : List V → Hp → VK → Prop := fun xs H Q => ∃ a x vs, xs = [.ref a] ∧ vs ≠ [] ∧ SqL K H a vs ∧ (∀ v ∈ vs, Dq K H x v) ∧ (PyData.list (List.replicate vs.length (pairE x))).shown.length ≤ sizeLine ∧ Q (.str (PyData.list (List.replicate vs.length (pairE x))).shown) H
/-- repr of data, or of a list of pairs with empty dicts -/
def rReprV (K : PySem.W.Frag) : List V → Hp → VK → Prop := fun xs H Q => rRepr K xs H Q ∨ rReprs K xs H Q
end
section
variable {X : Cx} {CX : CXT} {k nk : Nat} {f C : Addr} {fd : FuncData} {ps ks : List Str} {sp : Sp} {E : XK} {x : Str} {p pos : Pos} {kws : List Keyword} {tk : TA} {g : List Value → List Value → List Value} {gV : List V → List V → List V}
end
end L2
namespace DL
open PySem L2 StX
open PyProof.Rows (envOfC)
section
variable {K : PySem.W.Frag} [Tb K]
end
section
variable {K : PySem.W.Frag} [Tb K] {Z : ZX} {ds : DS} {n : Nat} {P : D → Nat → Prop} {tk : TA} {C : Addr} {E : XK} {R : Ri}
end
section
variable {Pr : Program} {w : World} {K : PySem.W.Frag} [Tb K] {mg : Str → Option Value} {base : Heap} {C : Addr}
end
end DL

/-! Lists that are grown: read, stored into, measured. -/
namespace DL
open PySem L2 StX
section
variable {K : PySem.W.Frag} [Tb K] {Z : ZX} {b u u' u'' : Wd} {σ : L2.St} {ds : DS} {n : Nat} {P : D → Nat → Prop} {te ta tb tc ti : TE} {N : Nd}
theorem Dens.set : ∀ {vs : List V} {xs : List D} {v : V} {d : D} (_ : Dens K u vs xs) (_ : Den K u v d) (j : Nat), Dens K u (vs.set j v) (xs.set j d)
  | _, _, _, _, .nil, _, _ => by simpa using Dens.nil
  | _, _, _, _, .cons _ t, r, 0 => by simpa using Dens.cons r t
  | _, _, _, _, .cons q t, r, j + 1 => by simpa using Dens.cons q (Dens.set t r j)
end
end DL

/-! Exceptions made as values; dict displays; repr of lists with one thing many times. -/
namespace L2
open PySem PySem.Spec PyProof.Rows
/-- the making of an exception, its object kept -/
def tMkE (t : St → Hp → XK → Prop) : TE := fun σ H Q => t σ H fun cls d H' => ∀ a, H' a = none → Q (.ref a) (upd H' a (xo a cls d))
section
variable {X : Cx}
end
/-- X(e) of an own exception class that stores its argument; X() of one that stores nothing -/
def tXv (C : Addr) (sp : Sp) (ta : TA) : TE := tMkE fun σ H E => tMkO C sp [] ta σ H E
def tXv0 (C : Addr) : TE := tMkE fun σ H E => E (.ref C) none H
/-! repr -/
/-- a dict with one text as its key and a number -/
def Dd (K : PySem.W.Frag) (H : Hp) (x : Str) (i : Int) (v : V) : Prop := ∃ d, v = .ref d ∧ Rd H d (.dK [(.inr x, .int i)])
section
variable {X : Cx} {pins : List (Addr × Obj)} {σ : St} {H : Hp} {s : Shared}
theorem Dd.reads {x : Str} {i : Int} {v : V} {u : Value} (I : Inv X pins σ H s) (h : Dd X.K H x i v) (r : RelV v u) : ∃ as, Reads s.heap u (.dict [(.str x, .int i)]) as ∧ sysModules ∉ as := by
  obtain ⟨d, rfl, hd⟩ := h
  cases r
  obtain ⟨_, hsm, vs, kv, hD⟩ := dk_rd I.hok hd
  obtain ⟨od, es, ep, h1, h2, h3, _, hp, _⟩ := hD
  obtain ⟨k, w, rfl, hk, hw⟩ : ∃ (k : Key) (w : Value), vs = [(k, w)] ∧ (.inr x : Key) = k ∧ RelV (.int i) w := by
    cases kv with
    | cons r0 kv2 =>
      cases kv2
      exact ⟨_, _, rfl, r0.1, r0.2⟩
  obtain ⟨tk, rfl⟩ := hw
  subst hk
  generalize hes : es.toList = l at hp
  cases hp with
  | cons he hv hp =>
  cases hp
  rename_i e
  have he' : keyIs (.inr x) e.key = true := he
  rcases keyIs_shape he' with ⟨j, t, hj, z⟩ | ⟨y, t, hy, z⟩
  · cases hj
  · cases hy
    refine ⟨_, Reads.dict (kvs := [(.str x, .int i)]) h1 h2.1 h3 (by rw [hes]; simp only [List.map_cons, List.map_nil]; rw [z]; exact .cons (.str _ _) .nil) (by rw [hes]; simp only [List.map_cons, List.map_nil]; rw [hv]; exact .cons (.int _ _) .nil), ?_⟩
    have : ¬ sysModules = d := fun z => by rw [z] at hsm; simp at hsm
    simpa using this
end
section
variable {X : Cx}
/-- repr of a list of such dicts -/
def rReprDs (K : PySem.W.Frag) : List V → Hp → VK → Prop := fun xs H Q => ∃ a x i vs, xs = [.ref a] ∧ vs ≠ [] ∧ SqL K H a vs ∧ (∀ v ∈ vs, Dd K H x i v) ∧ (PyData.dict [(.str x, .int i)]).showable = true ∧ (PyData.list (List.replicate vs.length (.dict [(.str x, .int i)]))).shown.length ≤ sizeLine ∧ Q (.str (PyData.list (List.replicate vs.length (.dict [(.str x, .int i)]))).shown) H
def rReprW (K : PySem.W.Frag) : List V → Hp → VK → Prop := fun xs H Q => rReprV K xs H Q ∨ rReprDs K xs H Q
end
end L2
namespace DL
open PySem L2 StX
section
variable {K : PySem.W.Frag} [Tb K]
end
section
variable {K : PySem.W.Frag} [Tb K] {Z : ZX} {b u u' u'' : Wd} {σ : L2.St} {ds : DS} {n : Nat} {P : D → Nat → Prop} {t : TA} {C : Addr} {f : Str}
end
end DL

/-! set(text), and how many signs it has. -/
namespace SS2
open PySem PySem.Spec PyProof.Rows SS
def signsOf (x : Str) : List Str := x.cps.toList.map fun c => ⟨#[c]⟩
section
variable {prog : Program} {w : World} {A : Around} {R : Result → Shared → Prop} {I : Addr} {fp wr : List Addr} {G : Array GenState → Array GenState → Prop} {n : Nat} {P : Nat → Value → Prop} {St : Nat → Shared → Prop}
end

section
variable {prog : Program} {w : World} {A : Around} {E : Value → Shared → Prop} {s : Shared}
set_option maxHeartbeats 3200000 in
end
end SS2
namespace L2
open PySem PySem.Spec PyProof.Rows
/-- len(set(x)), x a text without a sign twice -/
def tLenSetS (ta : TE) : TE := fun σ H Q => ta σ H fun x H1 => ∃ z : Str, x = .str z ∧ (SS2.signsOf z).Nodup ∧ z.cps.size ≤ 4000 ∧ Q (.int (z.cps.size : Nat)) H1
end L2

/-! Dict comprehensions, class attributes, masks, signs in texts, all(..). -/
namespace L2
open PySem PySem.Spec PyProof.Rows
section
variable {J : It} {n : Nat} {G : Hp → Prop} {Y : Nat → V → Hp → Hp → Prop}
/-- i & (2 ^ k - 1) -/
def rAndM : R2 := fun x y H Q => ∃ (i : Int) (k : Nat), x = .int i ∧ y = .int (2 ^ k - 1) ∧ Q (.int (i % 2 ^ k)) H
end
end L2
namespace DL
open PySem L2 StX
section
variable {K : PySem.W.Frag} [Tb K] {Z : ZX} {b u u' u'' : Wd} {σ : L2.St} {ds : DS} {n : Nat} {P : D → Nat → Prop} {te ta tb tk tv : TE} {tt : TT} {g : TG} {N : Nd}
/-- the key that a thing is -/
def keyD : D → Key → Prop
  | .int i, k => k = .inl i
  | .str x, k => k = .inr x
  | _, _ => False
/-- sign in text -/
theorem in_sign {P : D → Prop} {c : Nat} {z : Str} (h : P (.bl (decide (c ∈ z.cps.toList)))) : Op K rInS (.str ⟨#[c]⟩) (.str z) P := fun u v w Q ex _ d1 d2 k => by
  cases den_str d1
  cases den_str d2
  exact ⟨c, z, rfl, rfl, k _ _ u (.refl ex) (.bl _) h⟩
end
end DL

/-! sorted(..) of numbers. -/
namespace DL
open PySem L2 StX
section
variable {K : PySem.W.Frag} [Tb K]
end
end DL

/-! enumerate(text). -/
namespace L2
open PySem PySem.Spec PyProof.Rows
/-- a text, sign by sign, each in a new pair -/
def Ites (x : Str) : It := ⟨fun i _ => i < x.cps.size, fun i H v H' => ∃ T c, v = .ref T ∧ H T = none ∧ H' = upd H T (.tup [.int (i : Nat), .str ⟨#[c]⟩]) ∧ x.cps[i]? = some c, fun i _ => x.cps.size ≤ i⟩
theorem turn_enumS {P : Program} {w : World} {K : PySem.W.Frag} {elts : List Expr} {kk : Nat} {tpos : Pos} (x : Str) (t : Tok) (e it : Addr) :
    Turn P w K (.Tuple elts kk tpos) (Ites x) [e, it] e (fun i h => (∃ old, IsEnum h e it ((i : Nat) : Int) old) ∧ h.IsStrIter it (strIterType x) x t i ∧ e ≠ it) where
  mem := by simp
  obj := fun i h st b hb => by
    obtain ⟨⟨old, he⟩, ⟨o, ho, hc, hd⟩, _⟩ := st
    have e' : b = e ∨ b = it := by simpa using hb
    rcases e' with z | z
    · rw [z]; exact ⟨_, he, fun v q => nomatch q⟩
    · rw [z]; exact ⟨o, ho, fun v q => by rw [hd] at q; cases q⟩
  keep := fun i h h' st k => let ⟨⟨old, he⟩, ⟨o, ho, r⟩, hne⟩ := st; ⟨⟨old, k e (by simp) _ he⟩, ⟨o, k it (by simp) o ho, r⟩, hne⟩
  item := by
    intro X hP hw hK hc i pins s σ H E I hf st hg
    subst hP hw hK
    obtain ⟨⟨old, he⟩, hit, hne⟩ := st
    have hel : e < s.heap.objs.size := Heap.lt_size he
    have hil : it < s.heap.objs.size := by obtain ⟨_, q, _⟩ := hit; exact Heap.lt_size q
    have D : Draws X.prog X.w X.A.in1 it [it] x.cps.size (fun i v => ∃ c u, x.cps[i]? = some c ∧ v = .str ⟨#[c]⟩ u) (fun i h => h.IsStrIter it (strIterType x) x t i) := Draws.text (A := X.A.in1) (show X.A.handled = none from I.ok.hd hc) it x t
    refine wpAny_pyNext_enum_itemD D he hit hg hne (by simpa using hne) fun v h' tk hv ho hit' hT hsz hk => ?_
    obtain ⟨c, u, hcx, rfl⟩ := hv
    refine ⟨_, rfl, wpAny_letOwnedTupleGo_enum (s := { s with heap := h', toks := tk + 1 }) ho fun h'' he' sb => ?_⟩
    have hT2 : h''.get? s.heap.objs.size = some { cls := .type "tuple", data := .seq #[.int i tk, .str ⟨#[c]⟩ u] } := (sb.2 _ (Nat.ne_of_gt hel)).trans hT
    have new : ObjOk X.prog X.w (upd H s.heap.objs.size (.tup [.int (i : Nat), .str ⟨#[c]⟩])) h'' s.heap.objs.size (.tup [.int (i : Nat), .str ⟨#[c]⟩]) :=
      ⟨by show 2 ≤ sizeLine; decide, [.int i tk, .str ⟨#[c]⟩ u], .cons ⟨_, rfl⟩ (.cons ⟨_, rfl⟩ .nil), ⟨_, hT2, rfl, _, rfl⟩⟩
    have I1 : Inv X pins σ (upd H s.heap.objs.size (.tup [.int (i : Nat), .str ⟨#[c]⟩])) { s with heap := h'', toks := tk + 1 } :=
      I.turnedNew (t' := tk + 1) (ch := [e, it]) (fun b ob hb q => (sb.2 b (fun z => hb (by simp [z]))).trans (hk b ob (fun z => hb (by simp [z])) (fun z => hb (by simp [z])) q)) hf (Nat.le_refl _) new
    refine ⟨.ref s.heap.objs.size, _, I1, rfl, ⟨_, c, rfl, I.hok.fresh (Nat.le_refl _), rfl, hcx⟩, ⟨⟨.str ⟨#[c]⟩ u, ?_⟩, ?_, hne⟩, fun b hb => ?_⟩
    · have e1 : ((i + 1 : Nat) : Int) = (i : Int) + 1 := by omega
      rw [e1]; exact he'
    · obtain ⟨o, h1, r⟩ := hit'
      exact ⟨o, (sb.2 it (Ne.symm hne)).trans h1, r⟩
    · have hb' : b < s.heap.objs.size := by
        have e' : b = e ∨ b = it := by simpa using hb
        rcases e' with z | z
        · rw [z]; exact hel
        · rw [z]; exact hil
      rw [upd_ne (Nat.ne_of_lt hb')]
      exact (hf b hb).1
  done := by
    intro X hP hw hK hc i pins s σ H E I hf st hg
    subst hP hw hK
    obtain ⟨⟨old, he⟩, hit, hne⟩ := st
    obtain ⟨f0, f1, f2, f3, f4, f5⟩ := hf it (by simp)
    have hno : x.cps[i]? = none := Array.getElem?_eq_none hg
    have D : Draws X.prog X.w X.A.in1 it [it] i (fun _ _ => False) (fun j h => j = i ∧ h.IsStrIter it (strIterType x) x t i) :=
      { live := fun _ _ st => let ⟨o, ho, _⟩ := st.2; ⟨o, ho⟩
        frame := fun _ _ _ st hk => let ⟨o, ho, r⟩ := st.2; ⟨st.1, o, hk it (by simp) o ho, r⟩
        item := fun j s Q E hi st _ => absurd st.1 (Nat.ne_of_lt hi)
        done := fun s Q E st hE => by
          cases ha : x.cps.all (· < 128)
          · have e2 : strIterType x = "str_iterator" := by simp [strIterType, ha]
            rw [e2] at st
            exact wpAny_nextOf_wide_end (A := X.A.in1) (show X.A.handled = none from I.ok.hd hc) st.2 hno hE
          · have e2 : strIterType x = "str_ascii_iterator" := by simp [strIterType, ha]
            rw [e2] at st
            exact wpAny_nextOf_ascii_end (A := X.A.in1) (show X.A.handled = none from I.ok.hd hc) st.2 hno hE }
    exact wpAny_pyNext_enum_endD D he ⟨rfl, hit⟩ fun h' eb => ⟨rfl, I.turned (t' := s.toks) (fun b o hb q => eb b o hb q) f0 f1 f3 f4 f5⟩
  self := fun A i s Q E st h => let ⟨⟨_, he⟩, _⟩ := st; wpAny_pyIter_enum he h
def iEnumS (ta : TA) : TI := fun σ H R => ta σ H fun vs H1 => ∃ x, vs = [.str x] ∧ R (Ites x) H1
theorem pi_enumS {X : Cx} {e : Expr} {ta : TA} {p pos tpos : Pos} {elts : List Expr} {kk : Nat} (hg : Gl X "enumerate") (hm : X.mg "enumerate" = none) (ha : PA X [e] ta) (hs : starEach [e] X.env = [(false, eval e X.env)] := by rfl) :
    PI X (.Tuple elts kk tpos) (.Call (.Name "enumerate" p) [e] [] pos) (iEnumS ta) := by
  refine ⟨fun pins s σ H R I h => ?_⟩
  refine Call_ (ld_blt I hg hm boot_enumerate (PyProof.Rows.callWith_type1 (thn (ha.run pos pins s σ H _ I h) fun us s1 ⟨vs, H1, I1, r1, q1⟩ => ?_) hs rfl))
  obtain ⟨x, ex, q⟩ := q1
  subst ex
  cases r1 with
  | cons r rr =>
    cases rr
    obtain ⟨t, rfl⟩ := r
    refine call_enumerate_str fun h' he hit hsz hk => wpAny_pyIter_enum he ?_
    have I2 : Inv X pins σ H1 { s1 with heap := h' } := I1.kept (t' := s1.toks) hk
    refine ⟨s1.heap.objs.size + 1, [s1.heap.objs.size + 1, s1.heap.objs.size], _, _, H1, rfl, I2, turn_enumS x t (s1.heap.objs.size + 1) s1.heap.objs.size, ⟨⟨.none, he⟩, hit, Nat.succ_ne_self _⟩, fun b hb => ?_, q⟩
    have e' : b = s1.heap.objs.size + 1 ∨ b = s1.heap.objs.size := by simpa using hb
    have hle : s1.heap.objs.size ≤ b := by
      rcases e' with z | z
      · rw [z]; exact Nat.le_add_right _ _
      · rw [z]; exact Nat.le_refl _
    exact I1.fpOk hle (I1.hok.fresh hle)
theorem walk_enumS {x : Str} : Walk (Ites x) x.cps.size (fun _ => True) (fun i H v H' => ∃ T c, v = .ref T ∧ H T = none ∧ H' = upd H T (.tup [.int (i : Nat), .str ⟨#[c]⟩]) ∧ x.cps[i]? = some c) :=
  ⟨fun _ _ hi _ => hi, fun _ _ => Nat.le_refl _, fun _ _ _ _ _ _ y => y⟩
end L2
namespace DL
open PySem L2 StX
section
variable {K : PySem.W.Frag} [Tb K] {Z : ZX} {ds : DS} {n : Nat} {Pl : List D → Nat → Prop}
theorem wi_enumS {t : TA} (h : Wa K Z t ds n fun ys m => ∃ x, ys = [.str x] ∧ Pl (enumD (signs x)) m) : Wi K Z (iEnumS t) ds n Pl := fun b u σ R e S k =>
  h b u σ _ e S fun vs d u1 g1 s1 r ⟨x, z, p⟩ => by
    subst z
    obtain ⟨v, rfl, r1⟩ := dens1 r
    clear r
    cases den_str r1
    refine ⟨x, rfl, k _ (enumD (signs x)) u1 _ _ g1 s1 p (by rw [enumD_len, signs_len]; exact walk_enumS) (fun _ _ _ => trivial) fun w i v A l e1 _ hi y => ?_⟩
    obtain ⟨T, c, rfl, hT, rfl, hc⟩ := y
    obtain ⟨g2, d2⟩ := gp_pair e1 hT (.int (i : Nat)) (.str (K := K) (u := w) ⟨#[c]⟩)
    exact ⟨_, _, rfl, enumD_get (by simp [signs, hc]), g2, d2⟩
end
end DL

/-! Own [ ], in and len of instances. -/
namespace L2
open PySem PySem.Spec PyProof.Rows LamX
/-- o[e], o an instance of C, whose __getitem__ keeps sp -/
def rIxO (C : Addr) (sp : Sp) : R2 := fun x y H Q => ∃ (a dx : Addr) (fs : List (Str × V)), x = .ref a ∧ H a = some (.ins C dx fs) ∧ sp [x, y] H Q E0
/-- e in o -/
def rInO (C : Addr) (sp : Sp) : R2 := fun y x H Q => ∃ (a dx : Addr) (fs : List (Str × V)), x = .ref a ∧ H a = some (.ins C dx fs) ∧ sp [x, y] H (fun z H' => ∃ b, z = .bl b ∧ Q (.bl b) H') E0
def rNotInO (C : Addr) (sp : Sp) : R2 := fun y x H Q => ∃ (a dx : Addr) (fs : List (Str × V)), x = .ref a ∧ H a = some (.ins C dx fs) ∧ sp [x, y] H (fun z H' => ∃ b, z = .bl b ∧ Q (.bl (!b)) H') E0
section
variable {X : Cx} {CX : CXT} {k : Nat} {C f : Addr} {fd : FuncData} {ps : List Str} {sp : Sp} {a b : Expr} {ta tb : TE} {pos : Pos}
theorem pe_ixO (F : FnOk X.prog X.w X.K X.mg X.base CX k f fd ps sp) (hs : PySem.W.findIn X.K (.ref C) "__getitem__" = some (some (.ref f))) (hf : PySem.W.isFn X.K (.ref f) = true) (hn : PySem.W.fnIn X.K f = true) (hb : Binds X.K fd ps []) (hx : Passes CX X E0) (hr : Room (k + 1) X.A) (ha : PE X a ta) (hb' : PE X b tb)
    (hsl : ∀ x i, subscripted b true (.ref x) i = runValue (.builtin "lifetime.subscript" ⟨[.ref x, i], []⟩) := by intro _ _; with_unfolding_all rfl) : PE X (.Subscript a b pos) (tOp (rIxO C sp) ta tb) := by
  refine ⟨fun pins s σ H Q I h => Subscript_ (binT ha hb' I h fun v u s2 x y H2 I2 rx ry q => ?_)⟩
  obtain ⟨a', dx, fs, ex, ea, q⟩ := q
  subst ex
  obtain rfl : v = Value.ref a' := rx
  obtain ⟨mA, J, _⟩ := ins_get I2.hok ea
  obtain ⟨od, J, _⟩ := J.look
  obtain ⟨m, hF⟩ := I2.fr
  exact PySem.W.sub_K hF I2.ok.mod.kin J hs hn hf (run_eq (A := X.A.in1) (x := .ref a') F hb hx hr.in1 rfl I2 rfl ry q) (hsl _ _)
/-- len(o) -/
def rLenO (C : Addr) (sp : Sp) : List V → Hp → VK → Prop := fun xs H Q => ∃ (a dx : Addr) (fs : List (Str × V)), xs = [.ref a] ∧ H a = some (.ins C dx fs) ∧ sp [.ref a] H (fun z H' => ∃ n : Int, z = .int n ∧ 0 ≤ n ∧ n < 2 ^ 62 ∧ Q (.int n) H') E0
/-- an own special method of one argument runs, at A below X -/
theorem run_one {A : Around} {pins : List (Addr × Obj)} {σ : St} {H : Hp} {s : Shared} {x : V} {v : Value} {Q : VK} (F : FnOk X.prog X.w X.K X.mg X.base CX k f fd ps sp) (hb : Binds X.K fd ps []) (hx : Passes CX X E0) (hr : Room k A) (hfr : A.frames = X.A.frames) (I : Inv X pins σ H s) (rx : RelV x v) (h : sp [x] H Q E0) :
    wpAny (model X.prog X.w) A (call (.ref f) [v]) (EP X pins σ Q) X.xe s := by
  have e := I.env0
  have e0 : Env0 X.prog X.w X.K X.mg X.base A X.stack s H := ⟨by rw [hfr]; exact e.frames, e.mod, e.bs, e.bsz, e.funs, e.frf, e.hok, e.bare⟩
  have hl := F.len _ _ _ _ h
  have r2 : Vals [x] [v] := .cons rx .nil
  refine wpAny_call (codeAny_mono (F.run A X.stack s H ⟨[v], []⟩ [v] [x] _ E0 hr e0 (by
    have := hb s [v] I.kIn (by simpa using hl)
    simpa using this) r2 h) fun r s' hq => ?_)
  cases r with
  | error e => exact hx pins σ H s e s' I hq
  | ok fl =>
    cases fl with
    | ret w => exact I.after hq
    | next => exact False.elim hq
    | brk => exact False.elim hq
    | cont => exact False.elim hq
theorem call_lenO (F : FnOk X.prog X.w X.K X.mg X.base CX k f fd ps sp) (hs : PySem.W.findIn X.K (.ref C) "__len__" = some (some (.ref f))) (hf : PySem.W.isFn X.K (.ref f) = true) (hb : Binds X.K fd ps []) (hx : Passes CX X E0) (hr : Room (k + 1) X.A) : CallR X (.builtin "len") (rLenO C sp) := by
  intro pins s σ H xs us Q I rs ⟨a, dx, fs, hxa, ha, h⟩
  subst hxa
  rw [Vals.ref1 rs]
  obtain ⟨mA, J, _⟩ := ins_get I.hok ha
  obtain ⟨od, J, _⟩ := J.look
  obtain ⟨m, hF⟩ := I.fr
  refine PySem.W.len_K hF I.ok.mod.kin J hs hf (wpAny_mono (run_one (A := X.A.in1) (x := .ref a) F hb hx hr.in1 rfl I rfl h) (fun w s' hq => ?_) fun _ _ z => z)
  obtain ⟨z, H', I', rz, n, rfl, h0, h1, q⟩ := hq
  obtain ⟨t, rfl⟩ := rz
  exact ⟨⟨h0, by omega⟩, .int n, H', I'.kept (t' := s'.toks + 1) (fun _ _ q => q), ⟨_, rfl⟩, q⟩
end
end L2
namespace DL
open PySem L2 StX
section
variable {K : PySem.W.Frag} [Tb K] {C : Addr} {R : Rl} {P : D → Prop}
theorem ixO {x y : D} {fs : List (Str × D)} (hx : x = .obj C fs) (h : ∀ n, R [x, y] n (fun d m => m = n ∧ P d) noX) : Op K (rIxO C (spD K R)) x y P := fun u v z Q ex st r1 r2 k => by
  subst hx
  obtain ⟨a, dx, fv, rfl, ha, hf⟩ := den_obj r1
  refine ⟨a, dx, fv, rfl, ex _ _ ha, u, _, _, noX, rfl, ex, st, .cons r1 (.cons r2 .nil), h u.n, ?_, xok_no⟩
  rintro v' d u1 g1 s1 r' ⟨hm, p⟩
  exact k _ _ u1 ⟨g1, fun _ => s1, hm⟩ r' p
end
section
variable {K : PySem.W.Frag} [Tb K] {Z : ZX} {C : Addr} {R : Rl} {ds : DS} {n : Nat} {P : D → Nat → Prop} {te : TE}
theorem we_lenO (h : We K Z te ds n fun o m => ∃ fs, o = .obj C fs ∧ R [o] m (fun d j => ∃ i : Int, d = .int i ∧ 0 ≤ i ∧ i < 2 ^ 62 ∧ P (.int i) j) noX) : We K Z (tCB (rLenO C (spD K R)) (tCons te tNil)) ds n P := fun b u σ Q e S k =>
  h b u σ _ e S fun v o u1 g1 s1 r1 ⟨fs, ho, q⟩ => by
    subst ho
    obtain ⟨a, dx, fv, rfl, ha, hf⟩ := den_obj r1
    refine ⟨a, dx, fv, rfl, g1.c _ _ ha, u1, _, _, noX, rfl, g1.c, s1, .cons r1 .nil, q, ?_, xok_no⟩
    rintro v' d u2 g2 s2 r' ⟨i, rfl, h0, h1, p⟩
    cases den_int r'
    exact ⟨i, rfl, h0, h1, k _ _ u2 (g1.trans g2) s2 (.int i) p⟩
end
end DL

/-! A stream that is a list of numbers: stores at any place, one made by a display. -/
namespace DL
open PySem L2 StX
section
variable {K : PySem.W.Frag} [Tb K] {Z : ZX} {b u u' u'' : Wd} {σ : L2.St} {ds : DS} {n : Nat} {P : D → Nat → Prop} {te tp ta tb tc : TE} {N : Nd} {len : Nat}
/-- s[e] = v -/
theorem ws_setN {i : Nat} {a : Addr} (hd : ds[i]? = some (some (.strm a (.nats len)))) (h : We K Z te ds n fun d m => ∃ x : Int, d = .int x ∧ 0 ≤ x ∧ We K Z tp ds m fun e k => ∃ j : Int, e = .int j ∧ 0 ≤ j ∧ j < len ∧ N.nx ds k) : Ws K Z (tAsg te (gSub (tVar i) tp rSetL)) ds n N := fun b u σ De e S O =>
  h b u σ _ e S fun v d u1 g1 s1 r ⟨x, z, x0, q⟩ => by
    subst z
    cases den_int r
    have S1 := S.go g1 s1
    obtain ⟨hv, hs, _⟩ := strm_at S1 hd
    refine ⟨.ref a, hv, q b u1 σ _ rfl S1 fun w y u2 g2 s2 r2 ⟨j, z, j0, jl, p⟩ => ?_⟩
    subst z
    cases den_int r2
    have S2 := S1.go g2 s2
    obtain ⟨hv2, hs2, ht2, h02, o2, h2, xs, rfl, hl, hp⟩ := strm_at S2 hd
    obtain ⟨k, rfl⟩ := Int.eq_ofNat_of_zero_le j0
    have hk : k < xs.length := by omega
    obtain ⟨gg, ss⟩ := gs_strm (o := .lst ((xs.set k x).map V.int)) (k := u2.n) g2.c s2 hs2 (Nat.le_refl _) (by
      rw [ht2]
      exact ⟨xs.set k x, rfl, by rw [List.length_set, hl], fun y hy => by
        rcases List.mem_or_eq_of_mem_set hy with q | q
        · exact hp y q
        · rw [q]; exact x0⟩)
    refine ⟨a, _, (k : Int), k, rfl, rfl, h2, ?_, ?_⟩
    · unfold ixN
      rw [List.length_map, if_pos (by omega), if_pos (by omega), Int.toNat_natCast]
    · have e2 : (xs.map V.int).set k (.int x) = (xs.set k x).map V.int := by rw [List.map_set]
      rw [e2]
      exact O.nx _ ⟨u2.S, u2.T, u2.n, u2.H0, upd u2.H1 a (.lst ((xs.set k x).map V.int))⟩ _ (g1.trans (g2.trans gg)).ls (S2.go gg ss) p
/-- return [x, y], a stream from then on -/
theorem ws_retN2 {t : TA} (h : Wa K Z t ds n fun xs m => ∃ x y : Int, xs = [.int x, .int y] ∧ 0 ≤ x ∧ 0 ≤ y ∧ ∀ p, N.rt (.strm p (.nats 2)) m) : Ws K Z (tRet (tLst t)) ds n N := fun b u σ De e S O =>
  h b u σ _ e S fun vs xs u1 g1 s1 r ⟨x, y, z, x0, y0, p⟩ => by
    subst z
    obtain ⟨v1, v2, rfl, r1, r2⟩ := dens2 r
    cases den_int r1
    cases den_int r2
    refine ⟨by show 2 ≤ sizeLine; decide, fun q hq => ?_⟩
    obtain ⟨gg, ss⟩ := new_strm (k := .nats 2) (o := .lst [.int x, .int y]) g1.c s1 hq ⟨[x, y], rfl, rfl, fun z hz => by
      rcases List.mem_cons.mp hz with rfl | hz
      · exact x0
      · rw [List.mem_singleton.mp hz]; exact y0⟩
    exact O.rt (.strm q (.nats 2)) _ _ ((S.gr.trans g1).trans gg) ss (.strm (.inr rfl) (if_pos rfl)) (p q)
end
end DL

/-! A key def's call over the heap: it keeps all. -/
namespace L2
open PySem PySem.Spec PyProof.Rows
section
variable {P : Program} {w : World} {A : Around} {s : Shared} {E : Value → Shared → Prop} {fd : FuncData} {f t : Addr} {o : Obj} {x : Str} {p1 p2 p3 p4 p5 p6 p7 p8 : Pos} {kk : Nat} {items : Array Value} {i j a b : Int} {u u' : Tok}
end
/-- a before b: by the first number, then by the second -/
abbrev ordP {α : Type} (x y : α × (Int × Int)) : Bool := decide (x.2.1 < y.2.1 ∨ (x.2.1 = y.2.1 ∧ x.2.2 ≤ y.2.2))
/-- f is a def that returns the items i and j of its tuple -/
structure KeyFn (K : PySem.W.Frag) (f : Addr) (i j : Nat) : Prop where
  ex : ∃ (oc : Value) (od : Option Addr) (fd : FuncData) (osl : Array (Option Value)) (x : Str) (p1 p2 p3 p4 p5 p6 p7 p8 : Pos) (kk : Nat), K.lookup f = some ⟨oc, od, .func fd, osl⟩ ∧ PySem.W.codeIn K fd.code fd.qualname = true ∧
    fd.body = .stmts [.Return (some (.Tuple [.Subscript (.Name x p1) (.Constant (.int (i : Nat)) 0 p2) p3, .Subscript (.Name x p4) (.Constant (.int (j : Nat)) 0 p5) p6] kk p7)) p8] ∧ (∀ t, bindArgs fd ⟨[.ref t], []⟩ = pure [(x, .ref t)]) ∧
    fd.scope.names = [(x, .local)] ∧ fd.scope.isCoroutine = false ∧ fd.scope.isGenerator = false ∧ fd.scope.kind = .function ∧ (x == ("__debug__" : Str)) = false ∧ i < 1000 ∧ j < 1000
/-- sorted(xs, key=f) -/
def rSortedK (K : PySem.W.Frag) (f : Addr) (i j : Nat) : List V → List V → Hp → VK → Prop := fun vs zs H Q => ∃ (a : Addr) (bs : List (V × (Int × Int))), vs = [.ref a] ∧ zs = [.ref f] ∧ SqL K H a (bs.map (·.1)) ∧
  (∀ b ∈ bs, ∃ t ys, b.1 = .ref t ∧ SqT K H t ys ∧ ys[i]? = some (.int b.2.1) ∧ ys[j]? = some (.int b.2.2)) ∧ ∀ p, H p = none → Q (.ref p) (upd H p (.lst ((bs.mergeSort ordP).map (·.1))))
end L2

/-! sorted(tuple, key=def). -/
namespace L2
open PySem PySem.Spec PyProof.Rows
section
variable {prog : Program} {w : World} {A : Around} {E : Value → Shared → Prop} {s : Shared}
end
/-- sorted(xs, key=f), xs a tuple -/
def rSortedKT (K : PySem.W.Frag) (f : Addr) (i j : Nat) : List V → List V → Hp → VK → Prop := fun vs zs H Q => ∃ (a : Addr) (bs : List (V × (Int × Int))), vs = [.ref a] ∧ zs = [.ref f] ∧ SqT K H a (bs.map (·.1)) ∧
  (∀ b ∈ bs, ∃ t ys, b.1 = .ref t ∧ SqT K H t ys ∧ ys[i]? = some (.int b.2.1) ∧ ys[j]? = some (.int b.2.2)) ∧ ∀ p, H p = none → Q (.ref p) (upd H p (.lst ((bs.mergeSort ordP).map (·.1))))
end L2

/-! sorted(xs, key=def) over data. -/
namespace DL
open PySem L2 StX
section
variable {K : PySem.W.Frag} [Tb K] {Z : ZX} {u : Wd} {ds : DS} {n : Nat} {P : D → Nat → Prop} {te : TE} {f : Addr} {i j : Nat}
end
end DL

/-! Dicts that are frozen as soon as they are made; fresh lists and dicts put into slots. -/
namespace L2
open PySem PySem.Spec PyProof.Rows
/-- a new dict, from now on read alone -/
def tFrz (te : TE) : TE := fun σ H Q => te σ H fun v H' => ∃ d u, v = .ref d ∧ H' d = some u ∧ Mut (some u) ∧ ∀ od, Q v (upd H' d (.frz od u))
/-- the dict in slot i, from now on read alone -/
def tFrzS (i : Nat) (t : TS) : TS := fun D σ H => ∃ d u, σ[i]? = some (some (.ref d)) ∧ H d = some u ∧ Mut (some u) ∧ ∀ od, t D σ (upd H d (.frz od u))
end L2
namespace DL
open PySem L2 StX
section
variable {K : PySem.W.Frag} [Tb K] {Z : ZX} {b u u' u'' : Wd} {σ : L2.St} {ds : DS} {n : Nat} {P : D → Nat → Prop} {te ta tb tc tk tv : TE} {tt tu : TT} {N : Nd} {ts t1 t2 : TS} {g : TG} {De : Ends}
/-- a value that goes into a slot: data, or a new thing that the def goes on with -/
inductive NewS (K : PySem.W.Frag) (u u' : Wd) : V → D → Prop
  | den {v : V} {d : D} : Den K u' v d → NewS K u u' v d
  | mls {p : Addr} {vs : List V} {xs : List D} : u.H1 p = none → u'.H0 p = none → ¬ u'.S p → u'.H1 p = some (.lst vs) → Dens K u' vs xs → NewS K u u' (.ref p) (.mls xs)
  | mdk {p : Addr} {vs : List (Key × V)} {xs : List (Key × D)} : u.H1 p = none → u'.H0 p = none → ¬ u'.S p → u'.H1 p = some (.dK vs) → DenK K u' vs xs → NewS K u u' (.ref p) (.mdk xs)
  | mob {p C dx : Addr} {fs : List (Str × V)} {gs : List (Str × D)} : u.H1 p = none → u'.H0 p = none → ¬ u'.S p → u'.H1 p = some (.ins C dx fs) → u'.H1 dx = some (.own p) → ¬ u'.S dx → DenF K u' fs gs → NewS K u u' (.ref p) (.mob p dx C gs)
def Wx (K : PySem.W.Frag) [Tb K] (Z : ZX) (te : TE) (ds : DS) (n : Nat) (P : D → Nat → Prop) : Prop :=
  ∀ (b u : Wd) (σ : L2.St) (Q : VK), u.n = n → Sd K Z b u σ ds → (∀ v d u', Gs u u' → StOk K u' → NewS K u u' v d → P d u'.n → Q v u'.H1) → te σ u.H1 Q
theorem wx_we (h : We K Z te ds n P) : Wx K Z te ds n P := fun b u σ Q e S k => h b u σ Q e S fun v d u' g s r p => k v d u' g s (.den r) p
theorem wx_lst {t : TA} (h : Wa K Z t ds n fun xs m => xs.length ≤ 1000000 ∧ P (.mls xs) m) : Wx K Z (tLst t) ds n P := fun b u σ Q e S k =>
  h b u σ _ e S fun vs xs u1 g1 s1 r h2 => ⟨by rw [r.len]; exact sz100 h2.1, fun p hp => by
    have h0 : u.H1 p = none := by
      cases q : u.H1 p with
      | none => rfl
      | some o => exact absurd hp (g1.b' p (by rw [q]; simp))
    have nS := s1.not hp
    exact k _ (.mls xs) ⟨u1.S, u1.T, u1.n, u1.H0, upd u1.H1 p (.lst vs)⟩ (g1.trans (Gs.junk g1.c hp)) (s1.write nS) (.mls h0 (ex_none g1.c hp) nS upd_same (r.mono (show Le u1 ⟨u1.S, u1.T, u1.n, u1.H0, upd u1.H1 p (.lst vs)⟩ from ⟨fun _ h => h, fun _ _ => rfl, .refl _⟩))) h2.2⟩
/-- stored: data or a new thing -/
theorem Sd.setS {i : Nat} {v : V} {d : D} (S : Sd K Z b u σ ds) (gr : Gs u u') (st : StOk K u') (h : NewS K u u' v d) : Sd K Z b u' (σ.set i (some v)) (ds.set i (some d)) := by
  have T := S.go gr st
  have core : ∀ (p : Addr), u.H1 p = none → v = .ref p → DenS K b u' (.ref p) d → Sd K Z b u' (σ.set i (some v)) (ds.set i (some d)) := fun p hp ev hd => by
    subst ev
    clear h
    refine ⟨T.gr, T.xk, T.st, by simp [S.len], fun j e q => ?_, fun j k e f a b h1 h2 m1 m2 ne q1 q2 => ?_⟩
    · by_cases q' : i = j
      · subst q'
        rw [get_set] at q
        by_cases hl : i < ds.length
        · simp [hl] at q
          subst q
          exact ⟨.ref p, by simp [get_set, S.len, hl], hd⟩
        · simp [hl] at q
      · rw [get_set, if_neg q'] at q
        obtain ⟨w, h1, h2⟩ := T.sl j e q
        exact ⟨w, by rw [get_set, if_neg q']; exact h1, h2⟩
    · have old : ∀ (j : Nat) (e : D) (a : Addr), ds[j]? = some (some e) → isMut e = true → σ[j]? = some (some (.ref a)) → a ≠ p := fun j e a h m q z => by
        subst z
        obtain ⟨w, h1, h2⟩ := S.sl j e h
        rw [q] at h1
        cases h1
        cases h2 with
        | den hh => rw [hh.notMut] at m; cases m
        | mls _ _ _ hh _ => rw [hp] at hh; cases hh
        | mob _ _ _ hh _ _ _ => rw [hp] at hh; cases hh
        | mdk _ _ _ hh _ => rw [hp] at hh; cases hh
      by_cases k1 : i = j
      · subst k1
        rw [get_set] at q1
        by_cases hl : i < σ.length
        · simp [hl] at q1
          subst q1
          rw [get_set, if_neg ne] at h2 q2
          exact fun z => old k f b h2 m2 q2 z.symm
        · simp [hl] at q1
      · rw [get_set, if_neg k1] at h1 q1
        by_cases k2 : i = k
        · subst k2
          rw [get_set] at q2
          by_cases hl : i < σ.length
          · simp [hl] at q2
            subst q2
            exact old j e a h1 m1 q1
          · simp [hl] at q2
        · rw [get_set, if_neg k2] at h2 q2
          exact S.ap j k e f a b h1 h2 m1 m2 ne q1 q2
  have bn : ∀ p, u.H1 p = none → b.H1 p = none := fun p hp => by
    cases q : b.H1 p with
    | none => rfl
    | some o => exact absurd hp (S.gr.b' p (by rw [q]; simp))
  cases h with
  | den r => exact T.set r
  | mls h0 h1 h2 h3 h4 => exact core _ h0 rfl (.mls (bn _ h0) h1 h2 h3 h4)
  | mdk h0 h1 h2 h3 h4 => exact core _ h0 rfl (.mdk (bn _ h0) h1 h2 h3 h4)
  | mob h0 h1 h2 h3 h4 h5 h6 => exact core _ h0 rfl (.mob (bn _ h0) h1 h2 h3 h4 h5 h6)
theorem ws_setX {i : Nat} (h : Wx K Z te ds n fun d m => N.nx (ds.set i (some d)) m) : Ws K Z (tAsg te (gName i)) ds n N := fun b u σ De e S O =>
  h b u σ _ e S fun v d u1 g1 s1 r p => O.nx _ u1 _ g1.ls (S.setS g1 s1 r) p
theorem ws_parX {i j : Nat} (h : Wx K Z ta ds n fun d m => Wx K Z tb ds m fun e k => N.nx ((ds.set i (some d)).set j (some e)) k) : Ws K Z (tPar i j (tCons ta (tCons tb tNil))) ds n N := fun b u σ De e S O =>
  h b u σ _ e S fun v d u1 g1 s1 r q => q b u1 σ _ rfl (S.go g1 s1) fun w d2 u2 g2 s2 r2 p => ⟨v, w, rfl, O.nx _ u2 _ (g1.ls.trans g2.ls) ((S.setS g1 s1 r).setS g2 s2 r2) p⟩
/-! ### dicts read -/
def valD : List (Key × D) → Key → Option D
  | [], _ => none
  | (f, d) :: r, k => if f = k then some d else valD r k
/-- the keys as data -/
def keyDt : Key → D
  | .inl i => .int i
  | .inr x => .str x
end
end DL

/-! Lists, dicts and instances that a def is making: grown, stored into, read. -/
namespace PySem.AutoSeq1
end PySem.AutoSeq1
namespace L2
open PySem PySem.Spec PyProof.Rows
/-- xs.extend(a tuple) -/
def rExtT (K : PySem.W.Frag) : V → List V → Hp → VK → Prop := fun x vs H Q => ∃ l b xs zs, x = .ref l ∧ vs = [.ref b] ∧ H l = some (.lst xs) ∧ SqT K H b zs ∧ xs.length + zs.length ≤ sizeLine ∧ Q .non (upd H l (.lst (xs ++ zs)))
end L2
namespace DL
open PySem L2 StX
section
variable {K : PySem.W.Frag} [Tb K] {Z : ZX} {b u u' u'' : Wd} {σ : L2.St} {ds : DS} {n : Nat} {P : D → Nat → Prop} {te ta tb tc tk tv ti : TE} {tt tu : TT} {N : Nd} {ts t1 t2 : TS} {g : TG} {De : Ends} {C : Addr}
/-- x = xs.pop(k), xs.append(ys.pop(k)) .. : what is popped, and the list left -/
def Wp (K : PySem.W.Frag) [Tb K] (Z : ZX) (te : TE) (ds : DS) (n : Nat) (P : D → DS → Nat → Prop) : Prop :=
  ∀ (b u : Wd) (σ : L2.St) (Q : VK), u.n = n → Sd K Z b u σ ds → (∀ v d ds' u', Le u u' → Sd K Z b u' σ ds' → Den K u' v d → P d ds' u'.n → Q v u'.H1) → te σ u.H1 Q
/-! ### dicts and instances in the making -/
def putKD (kvs : List (Key × D)) (k : Key) (d : D) : List (Key × D) := if kvs.any (fun p => decide (p.1 = k)) then kvs.map (fun p => if p.1 = k then (k, d) else p) else kvs ++ [(k, d)]
end
end DL

/-! Defs with *args: their promise, calls, instances made by such an __init__; what is walked: a list or a tuple. -/
namespace L2
open PySem PySem.Spec PyProof.Rows StX
/-- def f(a, .., *v): what is left over stands in a new tuple -/
def starS (k : Nat) (sp : Sp) : Sp := fun vs H Q E => ∃ ws rest, vs = ws ++ rest ∧ ws.length = k ∧ rest.length ≤ sizeLine ∧ ∀ p, H p = Option.none → sp (ws ++ [V.ref p]) (upd H p (.tup rest)) Q E
def StarB (fd : FuncData) (ps : List Str) (pv : Str) : Prop := ∀ us rest : List Value, us.length = ps.length → bindArgs fd ⟨us ++ rest, []⟩ = (newTuple rest >>= fun t => pure (ps.zip us ++ [(pv, t)]))
section
variable {X : Cx} {CX : CXT} {k i : Nat} {f C : Addr} {sp : Sp} {E : XK} {x : Str} {e fe : Expr} {es : List Expr} {te tf : TE} {t : TA} {p pos sp_ : Pos}
/-- C(*e) -/
def tMakeS (K : PySem.W.Frag) (C : Addr) (sp : Sp) (E : XK) (te : TE) : TE := fun σ H Q => te σ H fun y H1 => ∃ a xs, y = V.ref a ∧ (SqT K H1 a xs ∨ SqL K H1 a xs) ∧ ∀ x dx, H1 x = Option.none → H1 dx = Option.none → dx ≠ x →
  sp (V.ref x :: xs) (upd (upd H1 dx (.own x)) x (.ins C dx [])) (fun v H2 => v = .non ∧ Q (.ref x) H2) E
end
/-- a list or a tuple, walked -/
def iSeq (K : PySem.W.Frag) (te : TE) : TI := fun σ H R => iList K te σ H R ∨ iTup K te σ H R
end L2
namespace DL
open PySem L2 StX
open PyProof.Rows (envOfC)
section
variable {K : PySem.W.Frag} [Tb K] {Z : ZX} {b u u' u'' : Wd} {σ : L2.St} {ds : DS} {n : Nat} {P : D → Nat → Prop} {te ta tb tc tk tv ti : TE} {tt tu : TT} {N : Nd} {ts t1 t2 : TS} {g : TG} {De : Ends} {C : Addr} {Pl : List D → Nat → Prop}
variable {Pr : Program} {w : World} {mg : Str → Option Value} {base : Heap}
end
end DL

/-! enumerate(tuple). -/
namespace PySem
open Sem (wp)
open AutoSeq1 (wpAny_loadPart')
section
variable {prog : Program} {w : World} {A : Around} {E : Value → Shared → Prop} {s : Shared}
end
end PySem
namespace L2
open PySem PySem.Spec PyProof.Rows
/-- a tuple, each item in a new pair -/
def Itet (K : PySem.W.Frag) (a : Addr) : It :=
  ⟨fun i H => ∃ (xs : List V) (x : V), SqT K H a xs ∧ xs[i]? = some x, fun i H v H' => ∃ T x, v = .ref T ∧ H T = none ∧ H' = upd H T (.tup [.int (i : Nat), x]) ∧ ∀ xs, SqT K H a xs → xs[i]? = some x, fun i H => ∃ xs : List V, SqT K H a xs ∧ xs.length ≤ i⟩
def iEnumT (K : PySem.W.Frag) (ta : TA) : TI := fun σ H R => ta σ H fun vs H1 => ∃ a xs, vs = [.ref a] ∧ SqT K H1 a xs ∧ R (Itet K a) H1
/-- enumerate of a list or a tuple -/
def iEnumQ (K : PySem.W.Frag) (ta : TA) : TI := fun σ H R => iEnum K ta σ H R ∨ iEnumT K ta σ H R
end L2
namespace DL
open PySem L2 StX
section
variable {K : PySem.W.Frag} [Tb K] {Z : ZX} {b u u' u'' : Wd} {σ : L2.St} {ds : DS} {n : Nat} {Pl : List D → Nat → Prop}
end
end DL

/-! enumerate(zip(tuple, tuple)) -/
namespace RZ
open PySem
open PySem.Sem (wp)
open PySem.W (kdx_alive)
section
variable {prog : Program} {w : World} {A : Around} {E : Value → Shared → Prop} {s : Shared}
theorem kdx_dead {a : Addr} {Q : Option Obj → Shared → Prop} (ho : s.heap.get? a = none) (h : Q none s) : wpAny (model prog w) A (loadIfAlive a) Q E s := by
  have h' : Q (s.heap.get? a) s := by rw [ho]; exact h
  exact fun _ _ _ => h'
abbrev IsZipF (h : Heap) (z TI TO : Addr) (f0 : Value) (f : Bool) : Prop :=
  h.get? z = some { cls := .type "zip", dict := none, data := .fields #[f0, .bool f, .bool false, .ref TI, .ref TO], slots := #[] }
theorem tupleGone_zip {z TI TO T : Addr} {f : Bool} {Q : Bool → Shared → Prop} (hz : PySem.IsZipHeld s.heap z TI TO T f) (hT : s.heap.get? T = none) (h : Q true s) : wpAny (model prog w) A (Builtin.SmallTypes.ownedTupleIsFree (.ref z)) Q E s := by
  unfold Builtin.SmallTypes.ownedTupleIsFree
  refine wpAny_bind (wpAny_field hz rfl (x := rawInt T) rfl ?_)
  show wpAny _ _ (loadIfAlive ((T : Int).toNat) >>= _) _ _ _
  rw [Int.toNat_natCast]
  refine wpAny_bind (kdx_dead hT ?_)
  simp only [Option.isNone_none, if_true]
  exact wpAny_pure h
theorem zipD_next_item {z TI TO T i1 i2 l1 l2 : Addr} {f : Bool} {k1 k2 : Nat} {xs ys : Array Value} {x y a b : Value} {Q : Value → Shared → Prop} (D : ZipApart z TI TO i1 i2 l1 l2)
    (hz : PySem.IsZipHeld s.heap z TI TO T f) (hT : s.heap.get? T = none) (hTI : IsPair s.heap TI (.ref i1) (.ref i2)) (hTO : IsPair s.heap TO a b)
    (h1 : s.heap.IsTupleIter i1 l1 k1) (h2 : s.heap.IsTupleIter i2 l2 k2) (hl1 : s.heap.IsTuple l1 xs) (hl2 : s.heap.IsTuple l2 ys) (hx : xs[k1]? = some x) (hy : ys[k2]? = some y)
    (hQ : ∀ h', IsZip h' z TI TO (rawInt s.heap.objs.size) → IsPair h' TO x y → h'.IsTupleIter i1 l1 (k1 + 1) → h'.IsTupleIter i2 l2 (k2 + 1) → IsPair h' s.heap.objs.size x y → h'.objs.size = s.heap.objs.size + 1 →
      (∀ c o, c ≠ z → c ≠ TO → c ≠ i1 → c ≠ i2 → s.heap.get? c = some o → h'.get? c = some o) → Q (.ref s.heap.objs.size) { s with heap := h' }) :
    wpAny (model prog w) A (Builtin.«zip.__next__» ⟨[.ref z], []⟩) (fun fin s' => ∃ v, fin = .done (.ret v) ∧ Q v s') E s := by
  show wpAny _ _ (field (.ref z) 2 >>= _) _ _ _
  refine wpAny_bind (wpAny_field hz rfl (x := .bool false) rfl ?_)
  show wpAny _ _ (field (.ref z) 3 >>= _) _ _ _
  refine wpAny_bind (wpAny_field hz rfl (x := .ref TI) rfl ?_)
  refine wpAny_bind (wpAny_seqItems hTI rfl ?_)
  show wpAny _ _ (Builtin.SmallTypes.ownedTupleIsFree (.ref z) >>= _) _ _ _
  refine wpAny_bind (tupleGone_zip hz hT ?_)
  simp only [if_true]
  refine wpAny_bind (wpAny_rule ?_)
  refine wpAny_bind (wpAny_field hz rfl (x := .ref TO) rfl ?_)
  refine wpAny_bind (wpAny_setField_rec hz (by simp) fun h₁ hz₁ hs₁ => ?_)
  replace hz₁ : IsZipF h₁ z TI TO .ellipsis f := hz₁
  refine wpAny_bind ?_
  simp only [List.zipIdx_cons, List.zipIdx_nil, List.forIn_cons, List.forIn_nil]

  refine wpAny_bind (wpAny_bind (wpAny_onRaise ?_))
  show wpAny _ _ (Builtin.SmallTypes.nextOf (.ref i1) >>= _) _ _ _
  refine wpAny_bind (nextOf_tuple_item (h1.extBut hs₁.extBut D.i1z) (hl1.extBut hs₁.extBut D.l1z) hx fun h₂ h1₂ hs₂ => wpAny_pure ?_)
  have hTO₂ : IsPair h₂ TO a b := hs₂.extBut _ _ D.TOi1 (hs₁.extBut _ _ D.TOz hTO)
  refine wpAny_bind (wpAny_seqItems hTO₂ rfl ?_)
  refine wpAny_bind (wpAny_updateSeq_pair hTO₂ fun h₃ hTO₃ hs₃ => ?_)
  replace hTO₃ : IsPair h₃ TO x b := hTO₃
  refine wpAny_bind (wpAny_letGo (wpAny_pure ?_))

  refine wpAny_bind (wpAny_bind (wpAny_onRaise ?_))
  show wpAny _ _ (Builtin.SmallTypes.nextOf (.ref i2) >>= _) _ _ _
  refine wpAny_bind (nextOf_tuple_item (((h2.extBut hs₁.extBut D.i2z).extBut hs₂.extBut D.i12.symm).extBut hs₃.extBut D.TOi2.symm)
    (((hl2.extBut hs₁.extBut D.l2z).extBut hs₂.extBut D.l2i1).extBut hs₃.extBut D.l2TO) hy fun h₄ h2₄ hs₄ => wpAny_pure ?_)
  have hTO₄ : IsPair h₄ TO x b := hs₄.extBut _ _ D.TOi2 hTO₃
  refine wpAny_bind (wpAny_seqItems hTO₄ rfl ?_)
  refine wpAny_bind (wpAny_updateSeq_pair hTO₄ fun h₅ hTO₅ hs₅ => ?_)
  replace hTO₅ : IsPair h₅ TO x y := hTO₅
  refine wpAny_bind (wpAny_letGo (wpAny_pure (wpAny_pure ?_)))

  refine wpAny_bind (wpAny_seqItems hTO₅ rfl ?_)
  refine wpAny_bind (wpAny_newTuple ?_)
  have hsz : h₅.objs.size = s.heap.objs.size := by rw [hs₅.1, hs₄.1, hs₃.1, hs₂.1, hs₁.1]
  have hz₅ : IsZipF h₅ z TI TO .ellipsis f := hs₅.extBut _ _ D.TOz.symm (hs₄.extBut _ _ D.i2z.symm (hs₃.extBut _ _ D.TOz.symm (hs₂.extBut _ _ D.i1z.symm hz₁)))
  have hk₅ : ∀ c o, c ≠ z → c ≠ TO → c ≠ i1 → c ≠ i2 → s.heap.get? c = some o → h₅.get? c = some o := fun c o c1 c2 c3 c4 e =>
    hs₅.extBut _ _ c2 (hs₄.extBut _ _ c4 (hs₃.extBut _ _ c2 (hs₂.extBut _ _ c3 (hs₁.extBut _ _ c1 e))))
  have h1₅ : h₅.IsTupleIter i1 l1 (k1 + 1) := ((h1₂.extBut hs₃.extBut D.TOi1.symm).extBut hs₄.extBut D.i12).extBut hs₅.extBut D.TOi1.symm
  have h2₅ : h₅.IsTupleIter i2 l2 (k2 + 1) := h2₄.extBut hs₅.extBut D.TOi2.symm
  have hzlt : z < h₅.objs.size := Heap.lt_size hz₅
  have hTOlt : TO < h₅.objs.size := Heap.lt_size hTO₅
  have hi1lt : i1 < h₅.objs.size := by obtain ⟨_, e, _⟩ := h1₅; exact Heap.lt_size e
  have hi2lt : i2 < h₅.objs.size := by obtain ⟨_, e, _⟩ := h2₅; exact Heap.lt_size e
  show wpAny _ _ (Builtin.SmallTypes.ownedTupleHandOut (.ref z) (.ref h₅.objs.size) >>= _) _ _ _
  refine wpAny_bind ?_
  unfold Builtin.SmallTypes.ownedTupleHandOut
  have hz₆ : IsZipF (h₅.push { cls := .type "tuple", data := .seq #[x, y] }) z TI TO .ellipsis f := Heap.get?_push_of_some _ hz₅
  refine wpAny_bind (wpAny_setField_rec hz₆ (by simp) fun h₇ hz₇ hs₇ => ?_)
  replace hz₇ : IsZipF h₇ z TI TO (rawInt h₅.objs.size) f := hz₇
  refine wpAny_setField_rec hz₇ (by simp) fun h₈ hz₈ hs₈ => ?_
  replace hz₈ : IsZip h₈ z TI TO (rawInt h₅.objs.size) := hz₈
  have up : ∀ c o, c ≠ z → h₅.get? c = some o → h₈.get? c = some o := fun c o c1 e => hs₈.extBut _ _ c1 (hs₇.extBut _ _ c1 (Heap.get?_push_of_some _ e))
  have hT₈ : IsPair h₈ h₅.objs.size x y := hs₈.extBut _ _ (Nat.ne_of_gt hzlt) (hs₇.extBut _ _ (Nat.ne_of_gt hzlt) (Heap.get?_push_size _ rfl))
  have hz8 : h₈.objs.size = h₅.objs.size + 1 := by rw [hs₈.1, hs₇.1, Heap.size_push]
  rw [hsz] at hz₈ hT₈ hz8
  refine wpAny_pure ⟨_, rfl, ?_⟩
  show Q (.ref h₅.objs.size) _
  rw [hsz]
  exact hQ h₈ hz₈ (up _ _ D.TOz hTO₅) (h1₅.at fun o e => up _ o D.i1z e) (h2₅.at fun o e => up _ o D.i2z e) hT₈ hz8 fun c o c1 c2 c3 c4 e => up c o c1 (hk₅ c o c1 c2 c3 c4 e)

theorem zipD_next_end {z TI TO T i1 i2 l1 l2 : Addr} {f : Bool} {k1 k2 : Nat} {xs ys : Array Value} {a b : Value} {Q : Fin → Shared → Prop} (hh : A.handled = none) (D : ZipApart z TI TO i1 i2 l1 l2)
    (hz : PySem.IsZipHeld s.heap z TI TO T f) (hT : s.heap.get? T = none) (hTI : IsPair s.heap TI (.ref i1) (.ref i2)) (hTO : IsPair s.heap TO a b)
    (h1 : s.heap.IsTupleIter i1 l1 k1) (h2 : s.heap.IsTupleIter i2 l2 k2) (hl1 : s.heap.IsTuple l1 xs) (hl2 : s.heap.IsTuple l2 ys) (hend : xs[k1]? = none ∨ ys[k2]? = none)
    (hE : ∀ h' e, (∀ c o, c ≠ z → c ≠ TO → c ≠ i1 → c ≠ i2 → s.heap.get? c = some o → h'.get? c = some o) → (∃ o, h'.get? e = some o ∧ o.cls = .type "StopIteration") → E (.ref e) { s with heap := h' }) :
    wpAny (model prog w) A (Builtin.«zip.__next__» ⟨[.ref z], []⟩) Q E s := by
  show wpAny _ _ (field (.ref z) 2 >>= _) _ _ _
  refine wpAny_bind (wpAny_field hz rfl (x := .bool false) rfl ?_)
  show wpAny _ _ (field (.ref z) 3 >>= _) _ _ _
  refine wpAny_bind (wpAny_field hz rfl (x := .ref TI) rfl ?_)
  refine wpAny_bind (wpAny_seqItems hTI rfl ?_)
  show wpAny _ _ (Builtin.SmallTypes.ownedTupleIsFree (.ref z) >>= _) _ _ _
  refine wpAny_bind (tupleGone_zip hz hT ?_)
  simp only [if_true]
  refine wpAny_bind (wpAny_rule ?_)
  refine wpAny_bind (wpAny_field hz rfl (x := .ref TO) rfl ?_)
  refine wpAny_bind (wpAny_setField_rec hz (by simp) fun h₁ hz₁ hs₁ => ?_)
  replace hz₁ : IsZipF h₁ z TI TO .ellipsis f := hz₁
  refine wpAny_bind ?_
  simp only [List.zipIdx_cons, List.zipIdx_nil, List.forIn_cons, List.forIn_nil]
  refine wpAny_bind (wpAny_bind (wpAny_onRaise ?_))
  show wpAny _ _ (Builtin.SmallTypes.nextOf (.ref i1) >>= _) _ _ _
  cases hx : xs[k1]? with
  | none =>
    refine wpAny_bind (nextOf_tuple_end hh (h1.extBut hs₁.extBut D.i1z) (hl1.extBut hs₁.extBut D.l1z) hx fun h₂ e hs₂ he => ?_)
    obtain ⟨oe, hoe, hce⟩ := he
    have hz₂ : IsZipF h₂ z TI TO .ellipsis f := hs₂ _ _ D.i1z.symm hz₁
    have hez : e ≠ z := fun x => by subst x; rw [hz₂] at hoe; cases hoe; simp at hce
    refine wpAny_setField_rec hz₂ (by simp) fun h₃ _ hs₃ => hE h₃ e (fun c o c1 _ c3 _ x => hs₃.extBut _ _ c1 (hs₂ _ _ c3 (hs₁.extBut _ _ c1 x))) ⟨oe, hs₃.extBut _ _ hez hoe, hce⟩
  | some x =>
    have hy : ys[k2]? = none := by rcases hend with h | h; rw [hx] at h; cases h; exact h
    refine wpAny_bind (nextOf_tuple_item (h1.extBut hs₁.extBut D.i1z) (hl1.extBut hs₁.extBut D.l1z) hx fun h₂ h1₂ hs₂ => wpAny_pure ?_)
    have hTO₂ : IsPair h₂ TO a b := hs₂.extBut _ _ D.TOi1 (hs₁.extBut _ _ D.TOz hTO)
    refine wpAny_bind (wpAny_seqItems hTO₂ rfl ?_)
    refine wpAny_bind (wpAny_updateSeq_pair hTO₂ fun h₃ hTO₃ hs₃ => ?_)
    refine wpAny_bind (wpAny_letGo (wpAny_pure ?_))
    refine wpAny_bind (wpAny_bind (wpAny_onRaise ?_))
    show wpAny _ _ (Builtin.SmallTypes.nextOf (.ref i2) >>= _) _ _ _
    refine wpAny_bind (nextOf_tuple_end hh (((h2.extBut hs₁.extBut D.i2z).extBut hs₂.extBut D.i12.symm).extBut hs₃.extBut D.TOi2.symm)
      (((hl2.extBut hs₁.extBut D.l2z).extBut hs₂.extBut D.l2i1).extBut hs₃.extBut D.l2TO) hy fun h₄ e hs₄ he => ?_)
    obtain ⟨oe, hoe, hce⟩ := he
    have hz₄ : IsZipF h₄ z TI TO .ellipsis f := hs₄ _ _ D.i2z.symm (hs₃.extBut _ _ D.TOz.symm (hs₂.extBut _ _ D.i1z.symm hz₁))
    have hez : e ≠ z := fun x => by subst x; rw [hz₄] at hoe; cases hoe; simp at hce
    refine wpAny_setField_rec hz₄ (by simp) fun h₅ _ hs₅ => hE h₅ e (fun c o c1 c2 c3 c4 x => hs₅.extBut _ _ c1 (hs₄ _ _ c4 (hs₃.extBut _ _ c2 (hs₂.extBut _ _ c3 (hs₁.extBut _ _ c1 x))))) ⟨oe, hs₅.extBut _ _ hez hoe, hce⟩

theorem zipH_next_item {z TI TO T i1 i2 l1 l2 : Addr} {f : Bool} {oT : Obj} {k1 k2 : Nat} {xs ys : Array Value} {x y : Value} {Q : Value → Shared → Prop} (D : ZipApart z TI TO i1 i2 l1 l2)
    (hz : IsZipHeld s.heap z TI TO T f) (hT : s.heap.get? T = some oT) (hTI : IsPair s.heap TI (.ref i1) (.ref i2))
    (h1 : s.heap.IsTupleIter i1 l1 k1) (h2 : s.heap.IsTupleIter i2 l2 k2) (hl1 : s.heap.IsTuple l1 xs) (hl2 : s.heap.IsTuple l2 ys) (hx : xs[k1]? = some x) (hy : ys[k2]? = some y)
    (hQ : ∀ h', IsZipHeld h' z TI TO T true → h'.IsTupleIter i1 l1 (k1 + 1) → h'.IsTupleIter i2 l2 (k2 + 1) → IsPair h' s.heap.objs.size x y → h'.objs.size = s.heap.objs.size + 1 →
      (∀ c o, c ≠ z → c ≠ i1 → c ≠ i2 → s.heap.get? c = some o → h'.get? c = some o) → Q (.ref s.heap.objs.size) { s with heap := h' }) :
    wpAny (model prog w) A (Builtin.«zip.__next__» ⟨[.ref z], []⟩) (fun fin s' => ∃ v, fin = .done (.ret v) ∧ Q v s') E s := by
  show wpAny _ _ (field (.ref z) 2 >>= _) _ _ _
  refine wpAny_bind (wpAny_field hz rfl (x := .bool false) rfl ?_)
  show wpAny _ _ (field (.ref z) 3 >>= _) _ _ _
  refine wpAny_bind (wpAny_field hz rfl (x := .ref TI) rfl ?_)
  refine wpAny_bind (wpAny_seqItems hTI rfl ?_)
  show wpAny _ _ (Builtin.SmallTypes.ownedTupleIsFree (.ref z) >>= _) _ _ _
  refine wpAny_bind (wpAny_tupleHeld_zip hz hT fun h₁ hz₁ hs₁ => ?_)
  simp only [Bool.false_eq_true, if_false]
  refine wpAny_bind ?_
  rw [← Array.forIn_toList]
  simp only [List.forIn_cons, List.forIn_nil]
  refine wpAny_bind (wpAny_bind (wpAny_holding ?_))
  show wpAny _ _ (Builtin.SmallTypes.nextOf (.ref i1) >>= _) _ _ _
  refine wpAny_bind (nextOf_tuple_item (s := { s with heap := h₁ }) (h1.extBut hs₁.extBut D.i1z) (hl1.extBut hs₁.extBut D.l1z) hx fun h₂ h1₂ hs₂ => wpAny_pure ?_)
  refine wpAny_pure ?_
  refine wpAny_bind (wpAny_bind (wpAny_holding ?_))
  show wpAny _ _ (Builtin.SmallTypes.nextOf (.ref i2) >>= _) _ _ _
  refine wpAny_bind (nextOf_tuple_item (s := { s with heap := h₂ }) ((h2.extBut hs₁.extBut D.i2z).extBut hs₂.extBut D.i12.symm) ((hl2.extBut hs₁.extBut D.l2z).extBut hs₂.extBut D.l2i1) hy fun h₃ h2₃ hs₃ => wpAny_pure ?_)
  refine wpAny_pure (wpAny_pure ?_)
  show wpAny _ _ (newTuple [x, y] >>= _) _ _ _
  refine wpAny_bind (wpAny_newTuple ?_)
  have hsz : h₃.objs.size = s.heap.objs.size := by rw [hs₃.1, hs₂.1, hs₁.1]
  have hz₃ : IsZipHeld h₃ z TI TO T true := hs₃.extBut _ _ D.i2z.symm (hs₂.extBut _ _ D.i1z.symm hz₁)
  have hk : ∀ c o, c ≠ z → c ≠ i1 → c ≠ i2 → s.heap.get? c = some o → h₃.get? c = some o := fun c o c1 c2 c3 e => hs₃.extBut _ _ c3 (hs₂.extBut _ _ c2 (hs₁.extBut _ _ c1 e))
  have h1₃ : h₃.IsTupleIter i1 l1 (k1 + 1) := h1₂.extBut hs₃.extBut D.i12
  refine wpAny_pure ⟨_, rfl, ?_⟩
  show Q (.ref h₃.objs.size) _
  have hp : IsPair (h₃.push { cls := .type "tuple", data := .seq #[x, y] }) h₃.objs.size x y := Heap.get?_push_size _ rfl
  have hz4 : (h₃.push { cls := .type "tuple", data := .seq #[x, y] }).objs.size = h₃.objs.size + 1 := Heap.size_push ..
  rw [hsz] at hp hz4 ⊢
  exact hQ _ (Heap.get?_push_of_some _ hz₃) (h1₃.at fun o e => Heap.get?_push_of_some _ e) (h2₃.at fun o e => Heap.get?_push_of_some _ e) hp hz4 fun c o c1 c2 c3 e => Heap.get?_push_of_some _ (hk c o c1 c2 c3 e)

theorem zipH_next_end {z TI TO T i1 i2 l1 l2 : Addr} {f : Bool} {oT : Obj} {k1 k2 : Nat} {xs ys : Array Value} {Q : Fin → Shared → Prop} (hh : A.handled = none) (D : ZipApart z TI TO i1 i2 l1 l2)
    (hz : IsZipHeld s.heap z TI TO T f) (hT : s.heap.get? T = some oT) (hTI : IsPair s.heap TI (.ref i1) (.ref i2))
    (h1 : s.heap.IsTupleIter i1 l1 k1) (h2 : s.heap.IsTupleIter i2 l2 k2) (hl1 : s.heap.IsTuple l1 xs) (hl2 : s.heap.IsTuple l2 ys) (hend : xs[k1]? = none ∨ ys[k2]? = none)
    (hE : ∀ h' e, (∀ c o, c ≠ z → c ≠ i1 → c ≠ i2 → s.heap.get? c = some o → h'.get? c = some o) → (∃ o, h'.get? e = some o ∧ o.cls = .type "StopIteration") → E (.ref e) { s with heap := h' }) :
    wpAny (model prog w) A (Builtin.«zip.__next__» ⟨[.ref z], []⟩) Q E s := by
  show wpAny _ _ (field (.ref z) 2 >>= _) _ _ _
  refine wpAny_bind (wpAny_field hz rfl (x := .bool false) rfl ?_)
  show wpAny _ _ (field (.ref z) 3 >>= _) _ _ _
  refine wpAny_bind (wpAny_field hz rfl (x := .ref TI) rfl ?_)
  refine wpAny_bind (wpAny_seqItems hTI rfl ?_)
  show wpAny _ _ (Builtin.SmallTypes.ownedTupleIsFree (.ref z) >>= _) _ _ _
  refine wpAny_bind (wpAny_tupleHeld_zip hz hT fun h₁ hz₁ hs₁ => ?_)
  simp only [Bool.false_eq_true, if_false]
  refine wpAny_bind ?_
  rw [← Array.forIn_toList]
  simp only [List.forIn_cons, List.forIn_nil]
  refine wpAny_bind (wpAny_bind (wpAny_holding ?_))
  show wpAny _ _ (Builtin.SmallTypes.nextOf (.ref i1) >>= _) _ _ _
  cases hx : xs[k1]? with
  | none =>
    refine wpAny_bind (nextOf_tuple_end (s := { s with heap := h₁ }) hh (h1.extBut hs₁.extBut D.i1z) (hl1.extBut hs₁.extBut D.l1z) hx fun h₂ e hs₂ he => ?_)
    exact hE h₂ e (fun c o c1 c2 _ x => hs₂ _ _ c2 (hs₁.extBut _ _ c1 x)) he
  | some x =>
    have hy : ys[k2]? = none := by rcases hend with h | h; rw [hx] at h; cases h; exact h
    refine wpAny_bind (nextOf_tuple_item (s := { s with heap := h₁ }) (h1.extBut hs₁.extBut D.i1z) (hl1.extBut hs₁.extBut D.l1z) hx fun h₂ h1₂ hs₂ => wpAny_pure ?_)
    refine wpAny_pure ?_
    refine wpAny_bind (wpAny_bind (wpAny_holding ?_))
    show wpAny _ _ (Builtin.SmallTypes.nextOf (.ref i2) >>= _) _ _ _
    refine wpAny_bind (nextOf_tuple_end (s := { s with heap := h₂ }) hh ((h2.extBut hs₁.extBut D.i2z).extBut hs₂.extBut D.i12.symm) ((hl2.extBut hs₁.extBut D.l2z).extBut hs₂.extBut D.l2i1) hy fun h₃ e hs₃ he => ?_)
    exact hE h₃ e (fun c o c1 c2 c3 x => hs₃ _ _ c3 (hs₂.extBut _ _ c2 (hs₁.extBut _ _ c1 x))) he


/-- a zip between its turns: its tuple is in, or was handed out -/
def ZSt (h : Heap) (z TI TO : Addr) : Prop := IsZip h z TI TO .none ∨ ∃ T f, PySem.IsZipHeld h z TI TO T f
theorem nextOf_zipE_item {z TI TO i1 i2 l1 l2 : Addr} {k1 k2 : Nat} {xs ys : Array Value} {x y a b : Value} {Q : Value → Shared → Prop} (D : ZipApart z TI TO i1 i2 l1 l2)
    (hz : ZSt s.heap z TI TO) (hTI : IsPair s.heap TI (.ref i1) (.ref i2)) (hTO : IsPair s.heap TO a b)
    (h1 : s.heap.IsTupleIter i1 l1 k1) (h2 : s.heap.IsTupleIter i2 l2 k2) (hl1 : s.heap.IsTuple l1 xs) (hl2 : s.heap.IsTuple l2 ys) (hx : xs[k1]? = some x) (hy : ys[k2]? = some y)
    (hQ : ∀ h', ZSt h' z TI TO → (∃ a b, IsPair h' TO a b) → h'.IsTupleIter i1 l1 (k1 + 1) → h'.IsTupleIter i2 l2 (k2 + 1) → IsPair h' s.heap.objs.size x y → h'.objs.size = s.heap.objs.size + 1 →
      (∀ c o, c ≠ z → c ≠ TO → c ≠ i1 → c ≠ i2 → s.heap.get? c = some o → h'.get? c = some o) → Q (.ref s.heap.objs.size) { s with heap := h' }) :
    wpAny (model prog w) A (Builtin.SmallTypes.nextOf (.ref z)) Q E s := by
  have hTy : s.TypeIs (.ref z) "zip" := by
    rcases hz with q | ⟨T, f, q⟩
    · exact ⟨_, q, rfl⟩
    · exact ⟨_, q, rfl⟩
  unfold Builtin.SmallTypes.nextOf
  refine wpAny_bind (wpAny_callSpecial?_slot (name := Str.ofString "__next__") hTy F.slot_zip_next (wpAny_call_entry F.slot_zip_next hTy F.entry_zip_next ?_ (F.args_zip_next_1 _)))
  rcases hz with q | ⟨T, f, q⟩
  · exact zipT_next_item D q hTI hTO h1 h2 hl1 hl2 hx hy fun h' a1 a2 a3 a4 a5 a6 a7 => wpAny_pure (hQ h' (.inr ⟨_, _, a1⟩) ⟨_, _, a2⟩ a3 a4 a5 a6 a7)
  · cases hT : s.heap.get? T with
    | none => exact zipD_next_item D q hT hTI hTO h1 h2 hl1 hl2 hx hy fun h' a1 a2 a3 a4 a5 a6 a7 => wpAny_pure (hQ h' (.inr ⟨_, _, a1⟩) ⟨_, _, a2⟩ a3 a4 a5 a6 a7)
    | some oT => exact zipH_next_item D q hT hTI h1 h2 hl1 hl2 hx hy fun h' a1 a3 a4 a5 a6 a7 => wpAny_pure (hQ h' (.inr ⟨_, _, a1⟩) ⟨_, _, a7 TO _ D.TOz D.TOi1 D.TOi2 hTO⟩ a3 a4 a5 a6 fun c o c1 _ c3 c4 e => a7 c o c1 c3 c4 e)
theorem nextOf_zipE_end {z TI TO i1 i2 l1 l2 : Addr} {k1 k2 : Nat} {xs ys : Array Value} {a b : Value} {Q : Value → Shared → Prop} (hh : A.handled = none) (D : ZipApart z TI TO i1 i2 l1 l2)
    (hz : ZSt s.heap z TI TO) (hTI : IsPair s.heap TI (.ref i1) (.ref i2)) (hTO : IsPair s.heap TO a b)
    (h1 : s.heap.IsTupleIter i1 l1 k1) (h2 : s.heap.IsTupleIter i2 l2 k2) (hl1 : s.heap.IsTuple l1 xs) (hl2 : s.heap.IsTuple l2 ys) (hend : xs[k1]? = none ∨ ys[k2]? = none)
    (hE : ∀ h' e, (∀ c o, c ≠ z → c ≠ TO → c ≠ i1 → c ≠ i2 → s.heap.get? c = some o → h'.get? c = some o) → (∃ o, h'.get? e = some o ∧ o.cls = .type "StopIteration") → E (.ref e) { s with heap := h' }) :
    wpAny (model prog w) A (Builtin.SmallTypes.nextOf (.ref z)) Q E s := by
  have hTy : s.TypeIs (.ref z) "zip" := by
    rcases hz with q | ⟨T, f, q⟩
    · exact ⟨_, q, rfl⟩
    · exact ⟨_, q, rfl⟩
  unfold Builtin.SmallTypes.nextOf
  refine wpAny_bind (wpAny_callSpecial?_slot (name := Str.ofString "__next__") hTy F.slot_zip_next (wpAny_call_entry F.slot_zip_next hTy F.entry_zip_next ?_ (F.args_zip_next_1 _)))
  rcases hz with q | ⟨T, f, q⟩
  · exact zipT_next_end hh D q hTI hTO h1 h2 hl1 hl2 hend hE
  · cases hT : s.heap.get? T with
    | none => exact zipD_next_end hh D q hT hTI hTO h1 h2 hl1 hl2 hend hE
    | some oT => exact zipH_next_end hh D q hT hTI h1 h2 hl1 hl2 hend fun h' e k he => hE h' e (fun c o c1 _ c3 c4 x => k c o c1 c3 c4 x) he
end
end RZ

/-! enumerate(zip(tuple, tuple)): the turn, the rule -/
namespace PySem
open Sem (wp)
open AutoSeq1 (wpAny_loadPart')
section
variable {prog : Program} {w : World} {A : Around} {E : Value → Shared → Prop} {s : Shared}
/-- enumerate's turn over any iterator -/
theorem enumerate_nextG {e it : Addr} {i : Nat} {old : Value} {P : Value → Heap → Prop} {Q : Value → Shared → Prop} (he : IsEnum s.heap e it i old)
    (hn : ∀ (Q' : Value → Shared → Prop), (∀ x h₁, P x h₁ → Q' x { s with heap := h₁ }) → wpAny (model prog w) A (Builtin.SmallTypes.nextOf (.ref it)) Q' E s)
    (hP : ∀ x h₁, P x h₁ → IsEnum h₁ e it i old)
    (hQ : ∀ x h₁ h', P x h₁ → IsEnumOut h' e it ((i : Int) + 1) x h₁.objs.size → h'.get? h₁.objs.size = some { cls := .type "tuple", data := .seq #[.int i s.toks, x] } → h'.objs.size = h₁.objs.size + 1 →
      (∀ b o, b ≠ e → h₁.get? b = some o → h'.get? b = some o) → Q (.ref h₁.objs.size) { s with heap := h', toks := s.toks + 1 }) :
    wpAny (model prog w) A (Builtin.«enumerate.__next__» ⟨[.ref e], []⟩) (fun fin s' => ∃ v, fin = .done (.ret v) ∧ Q v s') E s := by
  obtain ⟨hp, g, d, tk, os⟩ := s
  show wpAny _ _ (field (.ref e) 2 >>= _) _ _ _
  refine wpAny_bind (wpAny_field he rfl (x := .ref it) rfl ?_)
  refine wpAny_bind (hn _ fun x h₁ hp1 => ?_)
  have he₁ : IsEnum h₁ e it i old := hP x h₁ hp1
  show wpAny _ _ (field (.ref e) 3 >>= _) _ _ ⟨h₁, g, d, tk, os⟩
  refine wpAny_bind (wpAny_field he₁ rfl (x := rawInt i) rfl ?_)
  show wpAny _ _ (field (.ref e) 4 >>= _) _ _ ⟨h₁, g, d, tk, os⟩
  refine wpAny_bind (wpAny_field he₁ rfl (x := .none) rfl ?_)
  show wpAny _ _ (mkInt i >>= _) _ _ ⟨h₁, g, d, tk, os⟩
  refine wpAny_bind (wpAny_mkInt ?_)
  show wpAny _ _ (setField (.ref e) 3 (rawInt ((i : Int) + 1)) >>= _) _ _ ⟨h₁, g, d, tk + 1, os⟩
  refine wpAny_bind (wpAny_setField_rec he₁ (by simp) fun h₂ he₂ hs₂ => ?_)
  replace hs₂ : Heap.SameBut e h₁ h₂ := hs₂
  replace he₂ : IsEnum h₂ e it ((i : Int) + 1) old := he₂
  show wpAny _ _ (setField (.ref e) 4 .none >>= _) _ _ ⟨h₂, g, d, tk + 1, os⟩
  refine wpAny_bind (wpAny_setField_rec he₂ (by simp) fun h₃ he₃ hs₃ => ?_)
  replace hs₃ : Heap.SameBut e h₂ h₃ := hs₃
  replace he₃ : IsEnum h₃ e it ((i : Int) + 1) old := he₃
  show wpAny _ _ (newTuple [.int i tk, x] >>= _) _ _ ⟨h₃, g, d, tk + 1, os⟩
  refine wpAny_bind (wpAny_newTuple ?_)
  have he₄ : IsEnum (h₃.push { cls := .type "tuple", data := .seq #[.int i tk, x] }) e it ((i : Int) + 1) old := Heap.get?_push_of_some _ he₃
  generalize hh₄ : h₃.push { cls := .type "tuple", data := .seq #[.int i tk, x] } = h₄ at he₄
  have hsz : h₃.objs.size = h₁.objs.size := by rw [hs₃.1, hs₂.1]
  have hel : e < h₁.objs.size := Heap.lt_size he₁
  have ht₄ : h₄.get? h₁.objs.size = some { cls := .type "tuple", data := .seq #[.int i tk, x] } := by rw [← hh₄, ← hsz]; exact Heap.get?_push_size _ rfl
  have hz₄ : h₄.objs.size = h₁.objs.size + 1 := by rw [← hh₄, Heap.size_push, hsz]
  have hk₄ : ∀ b o, b ≠ e → h₁.get? b = some o → h₄.get? b = some o := fun b o hbe hb => by
    rw [← hh₄]; exact Heap.get?_push_of_some _ (hs₃.extBut b o hbe (hs₂.extBut b o hbe hb))
  show wpAny _ _ (Builtin.SmallTypes.ownedTupleIsFree (.ref e) >>= _) _ _ ⟨h₄, g, d, tk + 1, os⟩
  rw [hsz]
  clear hh₄ he₃ hs₃ he₂ hs₂ hsz h₃ h₂
  refine wpAny_bind ?_
  unfold Builtin.SmallTypes.ownedTupleIsFree
  refine wpAny_bind (wpAny_field he₄ rfl (x := .none) rfl (wpAny_pure ?_))
  simp only [if_true]
  refine wpAny_bind (wpAny_rule ?_)
  refine wpAny_bind (wpAny_field he₄ rfl (x := old) rfl ?_)
  refine wpAny_bind (wpAny_setField_rec he₄ (by simp) fun h₅ he₅ hs₅ => ?_)
  replace hs₅ : Heap.SameBut e h₄ h₅ := hs₅
  replace he₅ : IsEnum h₅ e it ((i : Int) + 1) x := he₅
  show wpAny _ _ (Builtin.SmallTypes.ownedTupleHandOut (.ref e) (.ref h₁.objs.size) >>= _) _ _ ⟨h₅, g, d, tk + 1, os⟩
  refine wpAny_bind ?_
  unfold Builtin.SmallTypes.ownedTupleHandOut
  refine wpAny_bind (wpAny_setField_rec he₅ (by simp) fun h₆ he₆ hs₆ => ?_)
  replace hs₆ : Heap.SameBut e h₅ h₆ := hs₆
  replace he₆ : IsEnumOut h₆ e it ((i : Int) + 1) x h₁.objs.size := he₆
  refine wpAny_setField_rec he₆ (by simp) fun h₇ he₇ hs₇ => ?_
  replace hs₇ : Heap.SameBut e h₆ h₇ := hs₇
  replace he₇ : IsEnumOut h₇ e it ((i : Int) + 1) x h₁.objs.size := he₇
  refine wpAny_bind (wpAny_letGo (wpAny_pure ⟨_, rfl, hQ x h₁ h₇ hp1 he₇ ?_ ?_ ?_⟩))
  · exact hs₇.extBut _ _ (Nat.ne_of_gt hel) (hs₆.extBut _ _ (Nat.ne_of_gt hel) (hs₅.extBut _ _ (Nat.ne_of_gt hel) ht₄))
  · rw [hs₇.1, hs₆.1, hs₅.1, hz₄]
  · exact fun b o hbe hb => hs₇.extBut b o hbe (hs₆.extBut b o hbe (hs₅.extBut b o hbe (hk₄ b o hbe hb)))
theorem pyNext_enumG {e it : Addr} {i : Nat} {old : Value} {P : Value → Heap → Prop} {Q : Option Value → Shared → Prop} (he : IsEnum s.heap e it i old)
    (hn : ∀ (Q' : Value → Shared → Prop) (E' : Value → Shared → Prop), (∀ x h₁, P x h₁ → Q' x { s with heap := h₁ }) → wpAny (model prog w) A.in1 (Builtin.SmallTypes.nextOf (.ref it)) Q' E' s)
    (hP : ∀ x h₁, P x h₁ → IsEnum h₁ e it i old)
    (hQ : ∀ x h₁ h', P x h₁ → IsEnumOut h' e it ((i : Int) + 1) x h₁.objs.size → h'.get? h₁.objs.size = some { cls := .type "tuple", data := .seq #[.int i s.toks, x] } → h'.objs.size = h₁.objs.size + 1 →
      (∀ b o, b ≠ e → h₁.get? b = some o → h'.get? b = some o) → Q (some (.ref h₁.objs.size)) { s with heap := h', toks := s.toks + 1 }) :
    wpAny (model prog w) A (pyNext (.ref e)) Q E s := by
  have hT : s.TypeIs (.ref e) "enumerate" := ⟨_, he, rfl⟩
  unfold pyNext
  exact wpAny_bind (wpAny_attempt (wpAny_callSpecial?_slot (name := Str.ofString "__next__") hT F.slot_enumerate_next
    (wpAny_call_entry F.slot_enumerate_next hT F.entry_enumerate_next
      (enumerate_nextG he (fun Q' => hn Q' _) hP fun x h₁ h' a b c d k => wpAny_pure (hQ x h₁ h' a b c d k)) (F.args_enumerate_next_1 _))))
theorem pyNext_enumG_end {e it : Addr} {i : Nat} {old : Value} {K : Heap → Prop} {Q : Option Value → Shared → Prop} (he : IsEnum s.heap e it i old)
    (hn : ∀ (Q' : Value → Shared → Prop) (E' : Value → Shared → Prop), (∀ h' x, K h' → (∃ o, h'.get? x = some o ∧ o.cls = .type "StopIteration") → E' (.ref x) { s with heap := h' }) → wpAny (model prog w) A.in1 (Builtin.SmallTypes.nextOf (.ref it)) Q' E' s)
    (hQ : ∀ h', K h' → Q none { s with heap := h' }) : wpAny (model prog w) A (pyNext (.ref e)) Q E s := by
  have hT : s.TypeIs (.ref e) "enumerate" := ⟨_, he, rfl⟩
  unfold pyNext
  refine wpAny_bind (wpAny_attempt (wpAny_callSpecial?_slot (name := Str.ofString "__next__") hT F.slot_enumerate_next
    (wpAny_call_entry F.slot_enumerate_next hT F.entry_enumerate_next ?_ (F.args_enumerate_next_1 _))))
  show wpAny _ _ (field (.ref e) 2 >>= _) _ _ _
  refine wpAny_bind (wpAny_field he rfl (x := .ref it) rfl ?_)
  refine wpAny_bind (hn _ _ fun h' x hk hx' => ?_)
  obtain ⟨o, ho, hc⟩ := hx'
  refine wpAny_bind (wpAny_isInstance (T := "StopIteration") (b := true) ⟨o, ho, hc⟩ isSubtype_stop ?_)
  exact wpAny_pure (hQ _ hk)
end
theorem meets_enumerate_newZ (z TI TO : Addr) (f0 : Value) :
    Meets (Builtin.«enumerate.__new__» ⟨[.type "enumerate", .ref z], []⟩) (fun _ R s => IsZip s.heap z TI TO f0 ∧
      R (.ok (.ret (.ref s.heap.objs.size))) { s with heap := s.heap.push { cls := .type "enumerate", data := .fields #[.none, .bool false, .ref z, rawInt 0, .none, .none] } }) :=
  .of_wp fun prog w A R s h => by
    obtain ⟨hp, g, d, tk, os⟩ := s; obtain ⟨hl, h⟩ := h
    have hsub := sub_enumerate
    have hL : IsZip (Shared.heap ⟨hp, g, d, tk, os⟩) z TI TO f0 := hl
    wp_walk using wpAny_loadPart' hl
    refine wpAny_stack_any fun st => wpAny_pure ?_
    split
    · rename_i c _ _ _ _ _
      cases (c == Value.type "enumerate")
      · wp_walk using wpAny_loadPart' hl, wpAny_pyIter_zip hL
        exact ⟨_, rfl, h⟩
      · wp_walk using wpAny_loadPart' hl, wpAny_pyIter_zip hL
        exact ⟨_, rfl, h⟩
    · wp_walk using wpAny_loadPart' hl, wpAny_pyIter_zip hL
      exact ⟨_, rfl, h⟩
section
variable {prog : Program} {w : World} {A : Around} {E : Value → Shared → Prop} {s : Shared}
theorem call_enumerate_zip {z TI TO : Addr} {f0 : Value} {Q : Value → Shared → Prop} (hz : IsZip s.heap z TI TO f0)
    (h : ∀ h', IsEnum h' s.heap.objs.size z 0 .none → h'.objs.size = s.heap.objs.size + 1 → (∀ b o, s.heap.get? b = some o → h'.get? b = some o) → Q (.ref s.heap.objs.size) { s with heap := h' }) :
    wpAny (model prog w) A (call (.type "enumerate") [.ref z]) Q E s := by
  refine callType_new F.called_enumerate (by decide) (F.typeCall_enumerate_1 _) (F.newCall_enumerate_1 _) (fun obj => F.args_object_init_2 obj _) F.entry_enumerate_new
    (meets_enumerate_newZ z TI TO f0) ⟨hz, ?_⟩
  exact ⟨⟨_, Heap.get?_push_size _ rfl, rfl⟩, h _ (Heap.get?_push_size _ rfl) (Heap.size_push ..) fun b o x => Heap.get?_push_of_some _ x⟩
end
end PySem

namespace RZ
open PySem
open PySem.Sem (wp)
section
variable {prog : Program} {w : World} {A : Around} {E : Value → Shared → Prop} {s : Shared}
end

abbrev zipMH1 (h : Heap) (l1 : Addr) : Heap := h.push { cls := .type "tuple_iterator", data := .fields #[.ref l1, .int 0 0] }
abbrev zipMH2 (h : Heap) (l1 l2 : Addr) : Heap := (zipMH1 h l1).push { cls := .type "list_iterator", data := .fields #[.ref l2, .int 0 0] }
abbrev zipMH3 (h : Heap) (l1 l2 : Addr) : Heap := (zipMH2 h l1 l2).push { cls := .type "tuple", data := .seq #[.ref h.objs.size, .ref (zipMH1 h l1).objs.size] }
abbrev zipMH4 (h : Heap) (l1 l2 : Addr) : Heap := (zipMH3 h l1 l2).push { cls := .type "tuple", data := .seq #[.none, .none] }
abbrev zipMH5 (h : Heap) (l1 l2 : Addr) : Heap := (zipMH4 h l1 l2).push { cls := .type "zip", data := .fields #[.none, .bool false, .bool false, .ref (zipMH2 h l1 l2).objs.size, .ref (zipMH3 h l1 l2).objs.size] }

section
variable {prog : Program} {w : World} {A : Around} {E : Value → Shared → Prop} {s : Shared}

end

end RZ
namespace RZ
open PySem PySem.Spec PyProof.Rows L2
/-- the tuple at a and the list at b as they stand at each turn, the items in new pairs -/
def ItzM (K : PySem.W.Frag) (a b : Addr) : It :=
  ⟨fun i H => ∃ (xs ys : List V) (x y : V), SqT K H a xs ∧ SqL K H b ys ∧ xs[i]? = some x ∧ ys[i]? = some y,
    fun i H v H' => ∃ T x y, v = .ref T ∧ H T = none ∧ H' = upd H T (.tup [x, y]) ∧ (∀ xs, SqT K H a xs → xs[i]? = some x) ∧ ∀ ys, SqL K H b ys → ys[i]? = some y,
    fun i H => ∃ xs ys : List V, SqT K H a xs ∧ SqL K H b ys ∧ (xs.length ≤ i ∨ ys.length ≤ i)⟩
def iZipM (K : PySem.W.Frag) (ta : TA) : TI := fun σ H R => ta σ H fun vs H1 => ∃ a b xs ys, vs = [.ref a, .ref b] ∧ SqT K H1 a xs ∧ SqL K H1 b ys ∧ R (ItzM K a b) H1
end RZ

/-! zip of a tuple and a list; xs.extend(a list) -/
namespace PySem.AutoSeq1
end PySem.AutoSeq1
namespace L2
open PySem PySem.Spec PyProof.Rows RZ
/-- xs.extend(a list) -/
def rExtL (K : PySem.W.Frag) : V → List V → Hp → VK → Prop := fun x vs H Q => ∃ l b xs zs, x = .ref l ∧ vs = [.ref b] ∧ H l = some (.lst xs) ∧ SqL K H b zs ∧ xs.length + zs.length ≤ sizeLine ∧ Q .non (upd H l (.lst (xs ++ zs)))
section
variable {K : PySem.W.Frag} {a b : Addr} {xs ys : List V}
end
end L2
namespace DL
open PySem L2 StX RZ
section
variable {K : PySem.W.Frag} [Tb K] {Z : ZX} {b u u' u'' : Wd} {σ : L2.St} {ds : DS} {n : Nat} {P : D → Nat → Prop} {te ta tb tc tk tv ti : TE} {N : Nd} {Pl : List D → Nat → Prop}
end
end DL

/-! enumerate(zip(tuple, tuple)): the turn, the rule -/
namespace L2
open PySem PySem.Spec PyProof.Rows RZ
/-- two tuples, their items in new pairs, each with its number in another one -/
def ItZe (K : PySem.W.Frag) (a b : Addr) : It :=
  ⟨fun i H => ∃ (xs ys : List V) (x y : V), SqT K H a xs ∧ SqT K H b ys ∧ xs[i]? = some x ∧ ys[i]? = some y,
    fun i H v H' => ∃ T1 T2 x y, v = .ref T2 ∧ H T1 = none ∧ H T2 = none ∧ T1 ≠ T2 ∧ H' = upd (upd H T1 (.tup [x, y])) T2 (.tup [.int (i : Nat), .ref T1]) ∧ (∀ xs, SqT K H a xs → xs[i]? = some x) ∧ ∀ ys, SqT K H b ys → ys[i]? = some y,
    fun i H => ∃ xs ys : List V, SqT K H a xs ∧ SqT K H b ys ∧ (xs.length ≤ i ∨ ys.length ≤ i)⟩
theorem turn_enumZ {P : Program} {w : World} {K : PySem.W.Frag} {elts : List Expr} {kk : Nat} {tpos : Pos} {a b e z TI TO i1 i2 : Addr} (D : ZipApart z TI TO i1 i2 a b) (hez : e ≠ z ∧ e ≠ TI ∧ e ≠ TO ∧ e ≠ i1 ∧ e ≠ i2) :
    Turn P w K (.Tuple elts kk tpos) (ItZe K a b) [e, z, TI, TO, i1, i2] e (fun i h => (∃ old, IsEnum h e z ((i : Nat) : Int) old) ∧ ZSt h z TI TO ∧ IsPair h TI (.ref i1) (.ref i2) ∧ (∃ x y, IsPair h TO x y) ∧ h.IsTupleIter i1 a i ∧ h.IsTupleIter i2 b i) where
  mem := by simp
  obj := fun i h st c hc => by
    obtain ⟨⟨old, he⟩, hz, hTI, ⟨x, y, hTO⟩, ⟨o1, e1, _, d1⟩, ⟨o2, e2, _, d2⟩⟩ := st
    have e' : c = e ∨ c = z ∨ c = TI ∨ c = TO ∨ c = i1 ∨ c = i2 := by simpa using hc
    rcases e' with q | q | q | q | q | q
    · rw [q]; exact ⟨_, he, fun v q => nomatch q⟩
    · rw [q]; rcases hz with y | ⟨T, f, y⟩
      · exact ⟨_, y, fun v q => nomatch q⟩
      · exact ⟨_, y, fun v q => nomatch q⟩
    · rw [q]; exact ⟨_, hTI, fun v q => nomatch q⟩
    · rw [q]; exact ⟨_, hTO, fun v q => nomatch q⟩
    · rw [q]; exact ⟨o1, e1, fun v q => by rw [d1] at q; cases q⟩
    · rw [q]; exact ⟨o2, e2, fun v q => by rw [d2] at q; cases q⟩
  keep := fun i h h' st k => by
    obtain ⟨⟨old, he⟩, hz, hTI, ⟨x, y, hTO⟩, h1, h2⟩ := st
    refine ⟨⟨old, k e (by simp) _ he⟩, ?_, k TI (by simp) _ hTI, ⟨x, y, k TO (by simp) _ hTO⟩, h1.at fun o q => k i1 (by simp) o q, h2.at fun o q => k i2 (by simp) o q⟩
    rcases hz with y | ⟨T, f, y⟩
    · exact .inl (k z (by simp) _ y)
    · exact .inr ⟨T, f, k z (by simp) _ y⟩
  item := by
    intro X hP hw hK hc i pins s σ H E I hf st hg
    subst hP hw hK
    obtain ⟨⟨old, he⟩, hz, hTI, ⟨x0, y0, hTO⟩, h1, h2⟩ := st
    obtain ⟨xs, ys, x, y, hqx, hqy, hx, hy⟩ := hg
    obtain ⟨its, rv, p, _⟩ := I.tuple hqx
    obtain ⟨its2, rv2, p2, _⟩ := I.tuple hqy
    obtain ⟨u, hu, ru⟩ := rv.get hx
    obtain ⟨u2, hu2, ru2⟩ := rv2.get hy
    obtain ⟨n1, n2, n3, n4, n5⟩ := hez
    have hel : e < s.heap.objs.size := Heap.lt_size he
    refine pyNext_enumG (P := fun v h₁ => v = .ref s.heap.objs.size ∧ IsEnum h₁ e z i old ∧ ZSt h₁ z TI TO ∧ IsPair h₁ TI (.ref i1) (.ref i2) ∧ (∃ x y, IsPair h₁ TO x y) ∧ h₁.IsTupleIter i1 a (i + 1) ∧ h₁.IsTupleIter i2 b (i + 1) ∧ IsPair h₁ s.heap.objs.size u u2 ∧ h₁.objs.size = s.heap.objs.size + 1 ∧
      (∀ c o, c ≠ z → c ≠ TO → c ≠ i1 → c ≠ i2 → s.heap.get? c = some o → h₁.get? c = some o)) he (fun Q' E' hq => ?_) (fun v h₁ q => q.2.1) fun v h₁ h' q ho hT hsz hk => ?_
    · exact nextOf_zipE_item D hz hTI hTO h1 h2 p p2 (x := u) (y := u2) (by simpa using hu) (by simpa using hu2) fun h₁ a1 a2 a3 a4 a5 a6 a7 =>
        hq _ h₁ ⟨rfl, a7 e _ n1 n3 n4 n5 he, a1, a7 TI _ D.TIz D.TITO D.TIi1 D.TIi2 hTI, a2, a3, a4, a5, a6, a7⟩
    obtain ⟨ev, _, b1, b2, b3, b4, b5, b6, b7, b8⟩ := q
    subst ev
    refine ⟨_, rfl, wpAny_letOwnedTupleGo_enum (s := { s with heap := h', toks := s.toks + 1 }) ho fun h'' he' sb => ?_⟩
    have up : ∀ c o, c ≠ e → h₁.get? c = some o → h''.get? c = some o := fun c o hce q => (sb.2 c hce).trans (hk c o hce q)
    have ne1 : s.heap.objs.size ≠ e := Nat.ne_of_gt hel
    have lt1 : s.heap.objs.size < h₁.objs.size := by omega
    have ne2 : h₁.objs.size ≠ e := by rw [b7]; exact Nat.ne_of_gt (Nat.lt_succ_of_lt hel)
    have new1 : ObjOk X.prog X.w (upd H s.heap.objs.size (.tup [x, y])) h₁ s.heap.objs.size (.tup [x, y]) :=
      ⟨by show 2 ≤ sizeLine; decide, [u, u2], .cons ru (.cons ru2 .nil), ⟨_, b6, rfl, _, rfl⟩⟩
    have I1 : Inv X pins σ (upd H s.heap.objs.size (.tup [x, y])) { s with heap := h₁ } :=
      I.turnedNew (t' := s.toks) (ch := [e, z, TI, TO, i1, i2]) (fun c o hb q => b8 c o (fun q' => hb (by simp [q'])) (fun q' => hb (by simp [q'])) (fun q' => hb (by simp [q'])) (fun q' => hb (by simp [q'])) q) hf (Nat.le_refl _) new1
    have hf1 : ∀ c ∈ [e, z, TI, TO, i1, i2], c < s.heap.objs.size := fun c hcm => by
      have e' : c = e ∨ c = z ∨ c = TI ∨ c = TO ∨ c = i1 ∨ c = i2 := by simpa using hcm
      rcases e' with q | q | q | q | q | q
      · rw [q]; exact hel
      · rw [q]; rcases hz with y | ⟨T, f, y⟩
        · exact Heap.lt_size y
        · exact Heap.lt_size y
      · rw [q]; exact Heap.lt_size hTI
      · rw [q]; exact Heap.lt_size hTO
      · rw [q]; obtain ⟨_, e1, _⟩ := h1; exact Heap.lt_size e1
      · rw [q]; obtain ⟨_, e2, _⟩ := h2; exact Heap.lt_size e2
    have hf2 : ∀ c ∈ [e, z, TI, TO, i1, i2], FpOk X pins (upd H s.heap.objs.size (.tup [x, y])) c := fun c hcm => by
      obtain ⟨f0, fr⟩ := hf c hcm
      exact ⟨by rw [upd_ne (Nat.ne_of_lt (hf1 c hcm))]; exact f0, fr⟩
    have hT2 : h''.get? h₁.objs.size = some { cls := .type "tuple", data := .seq #[.int i s.toks, .ref s.heap.objs.size] } := (sb.2 _ ne2).trans hT
    have new2 : ObjOk X.prog X.w (upd (upd H s.heap.objs.size (.tup [x, y])) h₁.objs.size (.tup [.int (i : Nat), .ref s.heap.objs.size])) h'' h₁.objs.size (.tup [.int (i : Nat), .ref s.heap.objs.size]) :=
      ⟨by show 2 ≤ sizeLine; decide, [.int i s.toks, .ref s.heap.objs.size], .cons ⟨_, rfl⟩ (.cons rfl .nil), ⟨_, hT2, rfl, _, rfl⟩⟩
    have I2 : Inv X pins σ (upd (upd H s.heap.objs.size (.tup [x, y])) h₁.objs.size (.tup [.int (i : Nat), .ref s.heap.objs.size])) { s with heap := h'', toks := s.toks + 1 } :=
      I1.turnedNew (s := { s with heap := h₁ }) (t' := s.toks + 1) (ch := [e, z, TI, TO, i1, i2]) (fun c o hb q => up c o (fun q' => hb (by simp [q'])) q) hf2 (Nat.le_refl _) new2
    refine ⟨.ref h₁.objs.size, _, I2, rfl, ⟨s.heap.objs.size, h₁.objs.size, x, y, rfl, I.hok.fresh (Nat.le_refl _), I.hok.fresh (Nat.le_of_lt lt1), Nat.ne_of_lt lt1, rfl, fun l hl => by rw [I.tuple_inj hl hqx]; exact hx, fun l hl => by rw [I.tuple_inj hl hqy]; exact hy⟩,
      ⟨⟨.ref s.heap.objs.size, ?_⟩, ?_, up _ _ (Ne.symm n2) b2, ?_, ?_, ?_⟩, fun c hcm => ?_⟩
    · have e1 : ((i + 1 : Nat) : Int) = (i : Int) + 1 := by omega
      rw [e1]; exact he'
    · rcases b1 with y | ⟨T, f, y⟩
      · exact .inl (up _ _ (Ne.symm n1) y)
      · exact .inr ⟨T, f, up _ _ (Ne.symm n1) y⟩
    · obtain ⟨x', y', q⟩ := b3
      exact ⟨x', y', up _ _ (Ne.symm n3) q⟩
    · exact b4.at fun o q => up _ o (Ne.symm n4) q
    · exact b5.at fun o q => up _ o (Ne.symm n5) q
    · have := hf1 c hcm
      rw [upd_ne (Nat.ne_of_lt (Nat.lt_trans this lt1))]
      exact (hf2 c hcm).1
  done := by
    intro X hP hw hK hc i pins s σ H E I hf st hg
    subst hP hw hK
    obtain ⟨⟨old, he⟩, hz, hTI, ⟨x0, y0, hTO⟩, h1, h2⟩ := st
    obtain ⟨xs, ys, hqx, hqy, hend⟩ := hg
    obtain ⟨its, rv, p, _⟩ := I.tuple hqx
    obtain ⟨its2, rv2, p2, _⟩ := I.tuple hqy
    have l1 := rv.length
    have l2 := rv2.length
    have hE : its.toArray[i]? = none ∨ its2.toArray[i]? = none := by
      rcases hend with q | q
      · exact .inl (by simp; omega)
      · exact .inr (by simp; omega)
    exact pyNext_enumG_end (K := fun h' => ∀ c o, c ≠ z → c ≠ TO → c ≠ i1 → c ≠ i2 → s.heap.get? c = some o → h'.get? c = some o) he (fun Q' E' hq => nextOf_zipE_end (A := X.A.in1) (I.ok.hd hc) D hz hTI hTO h1 h2 p p2 hE fun h' x k hx => hq h' x k hx)
      fun h' hk => ⟨rfl, I.turnedL (t' := s.toks) (ch := [e, z, TI, TO, i1, i2]) (fun c o hb q =>
      hk c o (fun q' => hb (by simp [q'])) (fun q' => hb (by simp [q'])) (fun q' => hb (by simp [q'])) (fun q' => hb (by simp [q'])) q) hf⟩
  self := fun A i s Q E st h => let ⟨⟨_, he⟩, _⟩ := st; wpAny_pyIter_enum he h
theorem zk1 (n m : Nat) (h : m = n + 5) : m ≠ n + 4 ∧ m ≠ n + 2 ∧ m ≠ n + 3 ∧ m ≠ n ∧ m ≠ n + 1 := by omega
theorem zk2 (n m c : Nat) (h : m = n + 5) (e : c = m ∨ c = n + 4 ∨ c = n + 2 ∨ c = n + 3 ∨ c = n ∨ c = n + 1) : n ≤ c := by omega
def iEnumZ (K : PySem.W.Frag) (ta : TA) : TI := fun σ H R => ta σ H fun vs H1 => ∃ a b xs ys, vs = [.ref a, .ref b] ∧ SqT K H1 a xs ∧ SqT K H1 b ys ∧ R (ItZe K a b) H1
theorem pi_enumZ {X : Cx} {e e2 : Expr} {ta : TA} {p p' pos pos' tpos : Pos} {elts : List Expr} {kk : Nat} (hgE : Gl X "enumerate") (hmE : X.mg "enumerate" = none) (hg : Gl X "zip") (hm : X.mg "zip" = none) (ha : PA X [e, e2] ta)
    (hE : starEach [.Call (.Name "zip" p) [e, e2] [] pos] X.env = (false, eval (.Call (.Name "zip" p) [e, e2] [] pos) X.env) :: starEach [] X.env := by rfl)
    (hs : starEach [e, e2] X.env = (false, eval e X.env) :: starEach [e2] X.env := by rfl) (hpl : (backTo pos (starEach [e2] X.env)).any (·.1) = false := by rfl) :
    PI X (.Tuple elts kk tpos) (.Call (.Name "enumerate" p') [.Call (.Name "zip" p) [e, e2] [] pos] [] pos') (iEnumZ X.K ta) := by
  refine ⟨fun pins s σ H R I h => ?_⟩
  refine Call_ (ld_blt I hgE hmE boot_enumerate (PyProof.Rows.callWith_type1 ?_ hE rfl))
  rw [hE]
  show wpAny _ _ (spliced ((false, eval (.Call (.Name "zip" p) [e, e2] [] pos) X.env) :: backTo pos' (starEach [] X.env))) _ _ s
  refine Calls.spliced_cons ?_
  refine Call_ (ld_blt I hg hm PyProof.Rows.boot_zip (PyProof.Rows.callWith_type1 (thn (ha.run pos pins s σ H _ I h) fun us s1 ⟨vs, H1, I1, r1, q1⟩ => ?_) hs hpl))
  obtain ⟨a, b, xs, ys, ex, hqx, hqy, q⟩ := q1
  subst ex
  cases r1 with
  | cons r rr =>
    cases rr with
    | cons r' rr =>
      cases rr
      cases r
      cases r'
      obtain ⟨its, rv, p1, _⟩ := I1.tuple hqx
      obtain ⟨its2, rv2, p2, _⟩ := I1.tuple hqy
      have pT : s1.heap.IsTuple a its.toArray := p1
      have pT2 : s1.heap.IsTuple b its2.toArray := p2
      have la : a < s1.heap.objs.size := by obtain ⟨_, z, _⟩ := id pT; exact Heap.lt_size z
      have lb : b < s1.heap.objs.size := by obtain ⟨_, z, _⟩ := id pT2; exact Heap.lt_size z
      refine call_zipT pT pT2 fun h' hz hTI hTO h1 h2 hsz hk => Calls.spliced_nil ?_
      refine call_enumerate_zip (s := { s1 with heap := h' }) hz fun h'' he hsz2 hk2 => wpAny_pyIter_enum he ?_
      have I2 : Inv X pins σ H1 { s1 with heap := h'' } := I1.kept (t' := s1.toks) fun c o q => hk2 c o (hk c o q)
      have esz : h'.objs.size = s1.heap.objs.size + 5 := hsz
      refine ⟨h'.objs.size, [h'.objs.size, s1.heap.objs.size + 4, s1.heap.objs.size + 2, s1.heap.objs.size + 3, s1.heap.objs.size, s1.heap.objs.size + 1], _, _, H1, rfl, I2, turn_enumZ (PySem.W.ktu_apart s1.heap.objs.size a b la lb) (zk1 _ _ esz),
        ⟨⟨.none, he⟩, .inl (hk2 _ _ hz), hk2 _ _ hTI, ⟨_, _, hk2 _ _ hTO⟩, h1.at fun o q => hk2 _ o q, h2.at fun o q => hk2 _ o q⟩, fun c hcm => ?_, q⟩
      have e' : c = h'.objs.size ∨ c = s1.heap.objs.size + 4 ∨ c = s1.heap.objs.size + 2 ∨ c = s1.heap.objs.size + 3 ∨ c = s1.heap.objs.size ∨ c = s1.heap.objs.size + 1 := by simpa using hcm
      have hle : s1.heap.objs.size ≤ c := zk2 _ _ _ esz e'
      exact I1.fpOk hle (I1.hok.fresh hle)
section
variable {K : PySem.W.Frag} {a b : Addr} {xs ys : List V}
def YTri (fx fy : Nat → Option V) : Nat → Hp → V → Hp → Prop := fun i H v H' => ∃ T1 T2 x y, v = .ref T2 ∧ H T1 = none ∧ H T2 = none ∧ T1 ≠ T2 ∧ H' = upd (upd H T1 (.tup [x, y])) T2 (.tup [.int (i : Nat), .ref T1]) ∧ fx i = some x ∧ fy i = some y
theorem walk_enumZ {n : Nat} (hn : n = min xs.length ys.length) : Walk (ItZe K a b) n (fun H => SqT K H a xs ∧ SqT K H b ys) (YTri (fun i => xs[i]?) (fun i => ys[i]?)) := by
  subst hn
  refine ⟨fun i _ hi q => ?_, fun _ q => ⟨xs, ys, q.1, q.2, by omega⟩, fun i H v H' _ q y => ?_⟩
  · have h1 : i < xs.length := by omega
    have h2 : i < ys.length := by omega
    exact ⟨xs, ys, xs[i], ys[i], q.1, q.2, by simp [h1], by simp [h2]⟩
  · obtain ⟨T1, T2, x, z, h1, h2, h3, h4, h5, h6, h7⟩ := y
    exact ⟨T1, T2, x, z, h1, h2, h3, h4, h5, h6 xs q.1, h7 ys q.2⟩
end
end L2
namespace DL
open PySem L2 StX RZ
section
variable {K : PySem.W.Frag} [Tb K] {Z : ZX} {b u u' u'' : Wd} {σ : L2.St} {ds : DS} {n : Nat} {te ta tb tc tk tv ti : TE} {N : Nd} {Pl : List D → Nat → Prop}
theorem wi_enumZ {t : TA} (h : Wa K Z t ds n fun zs m => ∃ xs ys, zs = [.tup xs, .tup ys] ∧ Pl (enumD (zipD xs ys)) m) : Wi K Z (iEnumZ K t) ds n Pl := fun b u σ R e S k =>
  h b u σ _ e S fun vs d u1 g1 s1 r ⟨xs, ys, z, p⟩ => by
    subst z
    obtain ⟨v, w, rfl, r1, r2⟩ := dens2 r
    clear r
    obtain ⟨a, ws, rfl, q, r⟩ := den_tup r1
    obtain ⟨a', ws', rfl, q', r'⟩ := den_tup r2
    refine ⟨a, a', ws, ws', rfl, Evl.ex_t g1.c q, Evl.ex_t g1.c q', k _ (enumD (zipD xs ys)) u1 _ _ g1 s1 p (walk_enumZ (K := K) (a := a) (b := a') (xs := ws) (ys := ws') (by rw [enumD_len]; simp [zipD, r.len, r'.len])) (fun w l e => ⟨Evl.ex_t e (Evl.ex_t l.h q), Evl.ex_t e (Evl.ex_t l.h q')⟩) fun w i v A l e1 _ hi y => ?_⟩
    obtain ⟨T1, T2, x, y, rfl, hT1, hT2, ne, rfl, hx, hy⟩ := y
    obtain ⟨z, hz, hd⟩ := r.get hx
    obtain ⟨z', hz', hd'⟩ := r'.get hy
    obtain ⟨g2, d2⟩ := gp_pair e1 hT1 (hd.mono l) (hd'.mono l)
    obtain ⟨g3, d3⟩ := gp_pair (w := w.put T1 (.tup [x, y])) g2.g.c (T := T2) (by show upd _ _ _ _ = _; rw [upd_ne (Ne.symm ne)]; exact hT2) (.int (i : Nat)) d2
    have hi' : i < (zipD xs ys).length := by rw [enumD_len] at hi; exact hi
    have e3 : (zipD xs ys)[i]? = some (D.tup [z, z']) := by simp [zipD, List.getElem?_zipWith, hz, hz']
    exact ⟨_, _, rfl, by rw [enumD, List.getElem?_zipWith, e3, List.getElem?_range hi'], g2.trans g3, d3⟩
end
end DL

/-! a text some times -/
namespace L2
open PySem PySem.Spec PyProof.Rows
theorem fold_rep (x : Array Nat) : ∀ (k : Nat) (acc : Array Nat), (List.replicate k x).foldl (· ++ ·) acc = acc ++ (List.replicate k x.toList).flatten.toArray
  | 0, acc => by simp
  | k + 1, acc => by
    rw [List.replicate_succ, List.foldl_cons, fold_rep x k, List.replicate_succ, List.flatten_cons, ← List.append_toArray]
    simp
def rMulT : V → V → Hp → VK → Prop := fun x y H Q => ∃ (z : Str) (k : Nat), x = .str z ∧ y = .int (k : Int) ∧ 2 ≤ k ∧ z.length ≠ 0 ∧ z.length * k ≤ 1000000 ∧ Q (.str ⟨(List.replicate k z.cps.toList).flatten.toArray⟩) H
theorem op_mulT {X : Cx} : OpR X (binaryOp .Mult) rMulT := by
  intro pins s σ H x y v u Q I rx ry h
  obtain ⟨z, k, rfl, rfl, h2, h0, hz, q⟩ := h
  obtain ⟨t, rfl⟩ := rx
  obtain ⟨t', rfl⟩ := ry
  have hk : k ≤ 1000000 := Nat.le_trans (Nat.le_mul_of_pos_left k (Nat.pos_of_ne_zero h0)) hz
  have hl : z.length ≤ 1000000 := Nat.le_trans (Nat.le_mul_of_pos_right _ (by omega)) hz
  have ne : ¬ ((k : Int) < 1) := by omega
  have e1 : ((k : Int) == 1 || z.length == 0) = false := by
    rw [Bool.or_eq_false_iff]
    exact ⟨by rw [beq_eq_false_iff_ne]; omega, by rw [beq_eq_false_iff_ne]; exact h0⟩
  refine P.mul_str ?_ (fun _ _ => ?_) (fun _ _ => ?_) ?_
  · rw [decide_eq_false (by omega), decide_eq_false (by omega)]; rfl
  · have a : (k : Int) * 1000000 ≤ 2 ^ 63 - 1 := by omega
    have b : (1000000 : Int) ≤ (2 ^ 63 - 1) / (k : Int) := (Int.le_ediv_iff_mul_le (by omega)).mpr (by rw [Int.mul_comm]; exact a)
    omega
  · rw [Int.toNat_natCast]
    show decide (z.length * k > sizeLine) = false
    rw [decide_eq_false]
    have : (1000000 : Nat) ≤ sizeLine := by decide
    omega
  · rw [if_neg ne, e1, if_neg Bool.false_ne_true, Int.toNat_natCast, fold_rep]
    refine ⟨?_, ?_⟩
    · rw [Array.empty_append]
      show (List.replicate k z.cps.toList).flatten.toArray.size ≤ sizeLine
      rw [List.size_toArray, List.length_flatten, List.map_replicate, List.sum_replicate_nat, Array.length_toList]
      have e : z.cps.size = z.length := rfl
      rw [e, Nat.mul_comm]
      exact Nat.le_trans hz (by decide)
    · exact ⟨.str ⟨(List.replicate k z.cps.toList).flatten.toArray⟩, H, I.tok _, ⟨_, by rw [Array.empty_append]⟩, q⟩
end L2
namespace DL
open PySem L2 StX
theorem mulT {K : PySem.W.Frag} [Tb K] {P : D → Prop} {z : Str} {k : Nat} (h2 : 2 ≤ k) (h0 : z.length ≠ 0) (hz : z.length * k ≤ 1000000) (h : P (.str ⟨(List.replicate k z.cps.toList).flatten.toArray⟩)) : Op K rMulT (.str z) (.int (k : Int)) P := fun u v w Q ex _ d1 d2 kk => by
  cases den_str d1
  cases den_int d2
  exact ⟨z, k, rfl, rfl, h2, h0, hz, kk _ _ u (.refl ex) (.str _) h⟩
end DL

/-! Positions, lines and edits of texts, told of lists of signs. -/
namespace Mx
abbrev Pt := Int × Int
def step (p : Pt) (c : Nat) : Pt := if c = 10 then (p.1 + 1, 0) else (p.1, p.2 + 1)
def beh (p : Pt) (l : List Nat) : Pt := l.foldl step p
theorem beh_cons (p : Pt) (c : Nat) (l : List Nat) : beh p (c :: l) = beh (step p c) l := rfl
def addP (p q : Pt) : Pt := if q.1 = 0 then (p.1, p.2 + q.2) else (p.1 + q.1, q.2)
def nn (p : Pt) : Prop := 0 ≤ p.1 ∧ 0 ≤ p.2
theorem add_zero (p : Pt) : addP p (0, 0) = p := by simp [addP]
theorem beh_cnt (p : Pt) (l : List Nat) : (beh p l).1 = p.1 + l.count 10 := by
  induction l generalizing p with
  | nil => simp [beh]
  | cons c l ih =>
    rw [beh_cons, ih]
    by_cases hc : c = 10
    · simp [step, hc]; omega
    · simp [step, hc, List.count_cons]
/-! order -/
def lt (p q : Pt) : Prop := p.1 < q.1 ∨ p.1 = q.1 ∧ p.2 < q.2
instance (p q : Pt) : Decidable (lt p q) := by unfold lt; exact inferInstance
def mv (p o w : Pt) : Pt := if p.1 = o.1 then (w.1, p.2 - o.2 + w.2) else (p.1 - o.1 + w.1, p.2)
theorem lt_trans {p q r : Pt} (h : lt p q) (h' : lt q r) : lt p r := by unfold lt at *; omega
/-! lines -/
def lns : List Nat → List (List Nat)
  | [] => [[]]
  | c :: r => if c = 10 then [] :: lns r else (c :: (lns r).headD []) :: (lns r).tail
theorem lns_ne (l : List Nat) : lns l ≠ [] := by cases l <;> simp [lns]; split <;> simp
/-- the place of a position -/
def sm (rows : List (List Nat)) : Int := (rows.map fun r => ((r.length : Nat) : Int) + 1).sum
end Mx

/-! rows.setdefault(k, []).append(x) in a loop; a dict of tuple keys that sees no key twice. -/
namespace DL
open PySem L2 StX
section
variable {K : PySem.W.Frag} [Tb K] {Z : ZX} {b u u' u'' : Wd} {σ : L2.St} {ds : DS} {n : Nat} {P : D → Nat → Prop} {te ta tb tc tk tv ti : TE} {tt tu : TT} {N : Nd} {ts t1 t2 : TS} {g : TG} {De : Ends} {C : Addr} {Pl : List D → Nat → Prop}
def noMut (ds : DS) : Prop := ∀ (i : Nat) (d : D), ds[i]? = some (some d) → isMut d = false
/-! ### groups -/
def addG (k : Int) (x : D) : List (Int × List D) → List (Int × List D)
  | [] => [(k, [x])]
  | (k', l) :: r => if k' = k then (k', l ++ [x]) :: r else (k', l) :: addG k x r
def kAt (kx : Nat) : D → Int
  | .tup ys => match ys[kx]? with
    | some (.int k) => k
    | _ => 0
  | _ => 0
def grpD (kx : Nat) (xs : List D) : List (Int × List D) := xs.foldl (fun g x => addG (kAt kx x) x g) []
structure GE where
  k : Int
  a : Addr
  vs : List V
  ds : List D
/-- the groups at d as they stand -/
structure Grp (K : PySem.W.Frag) (b w : Wd) (d : Addr) (gl : List GE) (G : List (Int × List D)) : Prop where
  dd : w.H1 d = some (.dK (gl.map fun g => (Sum.inl g.k, V.ref g.a)))
  db : b.H1 d = none
  d0 : w.H0 d = none
  dS : ¬ w.S d
  ls : ∀ g ∈ gl, b.H1 g.a = none ∧ w.H0 g.a = none ∧ ¬ w.S g.a ∧ w.H1 g.a = some (.lst g.vs) ∧ Dens K w g.vs g.ds
  nd : (gl.map (·.a)).Nodup
  eq : gl.map (fun g => (g.k, g.ds)) = G
end
end DL

/-! A dict of tuple keys that sees no key twice; sorted(dict). -/
namespace DL
open PySem L2 StX
section
variable {K : PySem.W.Frag} [Tb K] {Z : ZX} {b u u' u'' : Wd} {σ : L2.St} {ds : DS} {n : Nat} {P : D → Nat → Prop} {te ta tb tc tk tv ti : TE} {tt tu : TT} {N : Nd} {ts t1 t2 : TS} {g : TG} {De : Ends} {C : Addr} {Pl : List D → Nat → Prop}
def kAs : Option D → Int
  | some (.int l) => l
  | _ => 0
def key13 : D → List Key
  | .tup [_, .tup ys] => [.inl (kAs ys[1]?), .inl (kAs ys[2]?)]
  | _ => []
/-- sorted(d), d's keys numbers -/
def rSortDI (K : PySem.W.Frag) : List V → Hp → VK → Prop := fun xs H Q => ∃ (a : Addr) (kvs : List (Key × V)) (ks : List Int), xs = [.ref a] ∧ Rd H a (.dK kvs) ∧ kvs.map (·.1) = ks.map Sum.inl ∧ ks.length < 64 ∧
    ∀ (ys : List Int) (p : Addr), ys.Perm ks → ys.Pairwise (· ≤ ·) → H p = none → Q (.ref p) (upd H p (.lst (ys.map V.int)))
end
end DL
namespace L2
end L2

/-! Static methods read off a class. -/
namespace ClX
open PySem PySem.Spec PyProof.Rows L2
/-- C.m is a staticmethod: its record at p, its def at g -/
structure SMet (K : PySem.W.Frag) (C : Addr) (mc : Value) (m : Str) (p g : Addr) : Prop where
  at_ : PySem.W.findCls K (.ref C) mc m = some (.get (.builtin "staticmethod.__get__") (.ref p) .none (.ref C))
  rc : ∃ rest, PySem.W.recIn K p "staticmethod" = some (.ref g :: rest)
  kp : PySem.W.keepIn K (.ref g) = true
section
variable {X : Cx} {pins : List (Addr × Obj)} {σ : L2.St} {H : Hp} {s : Shared} {a C p g : Addr} {mc : Value} {f m : Str} {v : V} {u : Value} {A : Around} {E : Value → Shared → Prop}
def tSMeth (C : Addr) (sp : Sp) (E : XK) (ta : TE) (t : TA) : TE := fun σ H Q => ta σ H fun x H1 => x = .ref C ∧ t σ H1 fun vs H2 => sp vs H2 Q E
variable {CX : CXT} {k : Nat} {sp : Sp} {o e : Expr} {es : List Expr} {ta : TE} {t : TA} {apos pos : Pos} {EX : XK}
end
end ClX
namespace DL
open PySem L2 StX
section
variable {K : PySem.W.Frag} [Tb K] {Z : ZX} {b u u' u'' : Wd} {σ : L2.St} {ds : DS} {n : Nat} {P : D → Nat → Prop} {te ta tb tc tk tv ti : TE} {N : Nd} {C : Addr} {R : Rl} {E : XK}
end
end DL

/-! The mathematics of pieces: columns that are looked at, the machine that makes pieces, all columns. -/
namespace MP
open PySem
structure Tg where
  s : Str
  l : Nat
  c : Nat
  w : Option Str
  deriving DecidableEq
abbrev Td := Option (Bool × Tg)
abbrev Stt := Nat × Td
def adv (t : Tg) (i : Nat) : Tg := { t with c := t.c + i }
theorem adv_adv (t : Tg) (i j : Nat) : adv (adv t i) j = adv t (i + j) := by simp [adv, Nat.add_assoc]
def furt : Td → Nat → Td
  | some (true, t), i => some (true, adv t i)
  | o, _ => o
/-- the value at an offset -/
def tv (td : Td) (i : Nat) : Option Tg := (furt td i).map (·.2)
/-- pieces: begin, kind (0 gap, 1 run, 2 point), first value -/
structure Pc where
  b : Nat
  k : Nat
  f : Option Tg
  deriving DecidableEq
def goes (p : Pc) (c : Nat) (t : Option Tg) : Prop := if p.k = 1 then t = p.f.map (adv · (c - p.b)) else t = p.f
instance (p : Pc) (c : Nat) (t : Option Tg) : Decidable (goes p c t) := by unfold goes; exact inferInstance
def trig (p : Pc) (c : Nat) (t : Option Tg) : Prop := t ≠ none ∧ t = p.f ∧ c = p.b + 1
instance (p : Pc) (c : Nat) (t : Option Tg) : Decidable (trig p c t) := by unfold trig; exact inferInstance
def tr (p : Pc) (c : Nat) (t : Option Tg) : Pc := if trig p c t then ⟨p.b, 2, t⟩ else p
abbrev Ms := List Pc × Pc
def step (s : Ms) (x : Nat × Option Tg) : Ms :=
  if goes (tr s.2 x.1 x.2) x.1 x.2 then (s.1, tr s.2 x.1 x.2) else (s.1 ++ [tr s.2 x.1 x.2], ⟨x.1, if x.2 = none then 0 else 1, x.2⟩)
def p0 : Pc := ⟨0, 0, none⟩
def run (s : Ms) (f : Nat → Option Tg) (b m : Nat) : Ms := (List.range' b m).foldl (fun s c => step s (c, f c)) s
theorem run0 (s : Ms) (f : Nat → Option Tg) (b : Nat) : run s f b 0 = s := rfl
theorem run_s (s : Ms) (f : Nat → Option Tg) (b m : Nat) : run s f b (m + 1) = run (step s (b, f b)) f (b + 1) m := by simp [run, List.range'_succ]
theorem run_add (s : Ms) (f : Nat → Option Tg) (b m k : Nat) : run s f b (m + k) = run (run s f b m) f (b + m) k := by
  induction m generalizing s b with
  | zero => simp [run0]
  | succ m ih => rw [show m + 1 + k = (m + k) + 1 by omega, run_s, run_s, ih, show b + 1 + m = b + (m + 1) by omega]
theorem run_last (s : Ms) (f : Nat → Option Tg) (b m : Nat) : run s f b (m + 1) = step (run s f b m) (b + m, f (b + m)) := by rw [run_add, run_s, run0]
/-- a piece as it stands in front of column c -/
structure PcOk (p : Pc) (c : Nat) : Prop where
  k : p.k = 0 ∨ p.k = 1 ∨ p.k = 2
  g : p.k = 0 ↔ p.f = none
  b : p.b < c ∨ p = p0
theorem PcOk.mono {p : Pc} {c d : Nat} (h : PcOk p c) (l : c ≤ d) : PcOk p d := ⟨h.k, h.g, h.b.imp (fun z => by omega) id⟩
/-- nothing changes at column c -/
def still (p : Pc) (c : Nat) (t : Option Tg) : Prop := goes p c t ∧ ¬ trig p c t
/-! ### after three columns of one stretch nothing changes any more -/
/-! ### all columns -/
def cols : List Stt → List (Nat × Option Tg)
  | [] => []
  | [(b, td)] => (List.range 3).map fun i => (b + i, tv td i)
  | (b, td) :: (b', td') :: r => ((List.range (min 3 (b' - b))).map fun i => (b + i, tv td i)) ++ cols ((b', td') :: r)
def at_ : List Stt → Nat → Option Stt
  | [], _ => none
  | st :: r, c => match at_ r c with
    | some s => some s
    | none => if st.1 ≤ c then some st else none
def val (xs : List Stt) (c : Nat) : Option Tg := match at_ xs c with
  | none => none
  | some (b, td) => tv td (c - b)
def fold (xs : List (Nat × Option Tg)) (s : Ms) : Ms := xs.foldl step s
abbrev Asc (xs : List Stt) : Prop := (xs.map (·.1)).Pairwise (· < ·)
/-- the machine over the first N columns -/
def full (f : Nat → Option Tg) (N : Nat) : Ms := run ([], p0) f 0 N
def machine (xs : List Stt) : Ms := fold (cols xs) ([], p0)
/-- the pieces -/
def few (xs : List Stt) : List Pc := ((machine xs).1 ++ [(machine xs).2]).drop 1
end MP

/-! Pieces are longest, and fewest. -/
namespace MP
variable {f : Nat → Option Tg}
/-- one piece could tell the columns a .. b - 1 -/
def vld (f : Nat → Option Tg) (a b : Nat) : Prop := (∀ c, a ≤ c → c < b → f c = none) ∨ (∃ t, ∀ c, a ≤ c → c < b → f c = some (adv t (c - a))) ∨ ∃ t, ∀ c, a ≤ c → c < b → f c = some t
theorem vld.sub {a b a' b' : Nat} (h : vld f a b) (h1 : a ≤ a') (h2 : b' ≤ b) : vld f a' b' := by
  rcases h with h | ⟨t, h⟩ | ⟨t, h⟩
  · exact .inl fun c q1 q2 => h c (by omega) (by omega)
  · refine .inr (.inl ⟨adv t (a' - a), fun c q1 q2 => ?_⟩)
    rw [h c (by omega) (by omega), adv_adv, show a' - a + (c - a') = c - a by omega]
  · exact .inr (.inr ⟨t, fun c q1 q2 => h c (by omega) (by omega)⟩)
/-- what the piece p tells of the columns up to N -/
def desc (f : Nat → Option Tg) (p : Pc) (N : Nat) : Prop :=
  (p.k = 0 ∧ p.f = none ∧ ∀ c, p.b ≤ c → c < N → f c = none) ∨ (∃ t, p.k = 1 ∧ p.f = some t ∧ p.b < N ∧ ∀ c, p.b ≤ c → c < N → f c = some (adv t (c - p.b))) ∨ ∃ t, p.k = 2 ∧ p.f = some t ∧ p.b + 1 < N ∧ ∀ c, p.b ≤ c → c < N → f c = some t
theorem full_s (f : Nat → Option Tg) (N : Nat) : full f (N + 1) = step (full f N) (N, f N) := by
  unfold full; rw [run_last, Nat.zero_add]
def cnt (f : Nat → Option Tg) (N : Nat) : Nat := (full f N).1.length
/-- how the machine stands in front of column N -/
structure Inv (f : Nat → Option Tg) (N : Nat) : Prop where
  ds : desc f (full f N).2 N
  at_ : ((full f N).1 = [] ∧ (full f N).2 = p0) ∨ ((full f N).2.b < N ∧ (full f N).1.length = cnt f (full f N).2.b + 1 ∧ ((full f N).2.b = 0 → f 0 ≠ none) ∧ ∃ q, (full f N).1 = (full f (full f N).2.b).1 ++ [q] ∧ ((full f N).2.b = 0 → q = p0))
theorem step_cases (s : Ms) (c : Nat) (t : Option Tg) : (goes (tr s.2 c t) c t ∧ step s (c, t) = (s.1, tr s.2 c t)) ∨ (¬ goes (tr s.2 c t) c t ∧ step s (c, t) = (s.1 ++ [tr s.2 c t], ⟨c, if t = none then 0 else 1, t⟩)) := by
  unfold step
  by_cases h : goes (tr s.2 c t) c t
  · exact .inl ⟨h, if_pos h⟩
  · exact .inr ⟨h, if_neg h⟩
theorem desc_go {p : Pc} {N : Nat} (h : desc f p N) (hb : p.b ≤ N) (g : goes (tr p N (f N)) N (f N)) : desc f (tr p N (f N)) (N + 1) := by
  unfold tr at g ⊢
  by_cases ht : trig p N (f N)
  · rw [if_pos ht]
    obtain ⟨h1, h2, h3⟩ := ht
    cases q : f N with
    | none => exact absurd q h1
    | some t =>
      refine .inr (.inr ⟨t, rfl, rfl, by show p.b + 1 < N + 1; omega, fun c (q1 : p.b ≤ c) q2 => ?_⟩)
      by_cases e : c = N
      · rw [e, q]
      · have ec : c = p.b := by omega
        rw [q] at h2
        rcases h with ⟨z1, z2, z3⟩ | ⟨t', z1, z2, z3, z4⟩ | ⟨t', z1, z2, z3, z4⟩
        · rw [z2] at h2; cases h2
        · rw [z2] at h2; cases h2
          rw [z4 c q1 (by omega), ec, Nat.sub_self]; rfl
        · rw [z2] at h2; cases h2
          exact z4 c q1 (by omega)
  · rw [if_neg ht] at g ⊢
    unfold goes at g
    rcases h with ⟨z1, z2, z3⟩ | ⟨t', z1, z2, z3, z4⟩ | ⟨t', z1, z2, z3, z4⟩
    · rw [if_neg (by omega), z2] at g
      refine .inl ⟨z1, z2, fun c q1 q2 => ?_⟩
      by_cases e : c = N
      · rw [e]; exact g
      · exact z3 c q1 (by omega)
    · rw [if_pos z1, z2] at g
      refine .inr (.inl ⟨t', z1, z2, by omega, fun c q1 q2 => ?_⟩)
      by_cases e : c = N
      · rw [e]; exact g
      · exact z4 c q1 (by omega)
    · rw [if_neg (by omega), z2] at g
      refine .inr (.inr ⟨t', z1, z2, by omega, fun c q1 q2 => ?_⟩)
      by_cases e : c = N
      · rw [e]; exact g
      · exact z4 c q1 (by omega)
theorem tr_b (p : Pc) (c : Nat) (t : Option Tg) : (tr p c t).b = p.b := by unfold tr; split <;> rfl
theorem inv : ∀ N, Inv f N
  | 0 => ⟨.inl ⟨rfl, rfl, fun c _ h => absurd h (Nat.not_lt_zero _)⟩, .inl ⟨rfl, rfl⟩⟩
  | N + 1 => by
    have h := inv N
    have hb : (full f N).2.b ≤ N := by
      rcases h.at_ with ⟨_, z⟩ | ⟨z, _⟩
      · rw [z]; exact Nat.zero_le _
      · omega
    rcases step_cases (full f N) N (f N) with ⟨g, e⟩ | ⟨g, e⟩
    · have e' : full f (N + 1) = ((full f N).1, tr (full f N).2 N (f N)) := (full_s f N).trans e
      refine ⟨by rw [e']; exact desc_go h.ds hb g, ?_⟩
      rw [e']
      rcases h.at_ with ⟨z1, z2⟩ | ⟨z1, z2, z3, z4⟩
      · refine .inl ⟨z1, ?_⟩
        rw [z2]
        unfold tr
        rw [if_neg]
        intro ht
        exact ht.1 ht.2.1
      · refine .inr ?_
        simp only [tr_b]
        exact ⟨by omega, z2, z3, z4⟩
    · have e' : full f (N + 1) = ((full f N).1 ++ [tr (full f N).2 N (f N)], ⟨N, if f N = none then 0 else 1, f N⟩) := (full_s f N).trans e
      refine ⟨?_, ?_⟩
      · rw [e']
        cases q : f N with
        | none =>
          refine .inl ⟨by simp, rfl, fun c (q1 : N ≤ c) q2 => ?_⟩
          rw [show c = N by omega, q]
        | some t =>
          refine .inr (.inl ⟨t, by simp, rfl, Nat.lt_succ_self _, fun c (q1 : N ≤ c) q2 => ?_⟩)
          show f c = some (adv t (c - N))
          rw [show c = N by omega, q, Nat.sub_self]; rfl
      · rw [e']
        refine .inr ⟨Nat.lt_succ_self _, by simp [cnt], fun z => ?_, _, rfl, fun z => ?_⟩
        · have z' : N = 0 := z
          subst z'
          intro hf
          apply g
          rw [hf]
          show goes (tr p0 0 none) 0 none
          unfold tr goes
          simp [trig, p0]
        · have z' : N = 0 := z
          subst z'
          show tr p0 0 (f 0) = p0
          unfold tr
          rw [if_neg]
          intro ht
          have := ht.2.2
          simp [p0] at this
end MP

/-! Segments, stretches, pieces and maps as data. -/
namespace MP
open PySem L2 DL
def wD : Option Str → D
  | none => .non
  | some x => .str x
def wLs : Option Str → List D
  | none => []
  | some x => [.str x]
def kD (r : Bool) : Str := if r then Str.ofString "run" else Str.ofString "point"
def kN : Nat → Str
  | 0 => Str.ofString "gap"
  | 1 => Str.ofString "run"
  | _ => Str.ofString "point"
abbrev tgD (t : Tg) : D := .tup [.str t.s, .int (t.l : Nat), .int (t.c : Nat), wD t.w]
def tgO : Option Tg → D
  | none => .non
  | some t => tgD t
def tdD : Td → D
  | none => .non
  | some (r, t) => .tup [.str (kD r), .str t.s, .int (t.l : Nat), .int (t.c : Nat), wD t.w]
abbrev stD (x : Stt) : D := .tup [.int (x.1 : Nat), tdD x.2]
abbrev colD (x : Nat × Option Tg) : D := .tup [.int (x.1 : Nat), tgO x.2]
abbrev pcD (p : Pc) : D := .tup [.int (p.b : Nat), .str (kN p.k), tgO p.f]
structure Sg where
  ln : Nat
  b : Nat
  td : Td
  deriving DecidableEq
def sgL (g : Sg) : List D := match g.td with
  | none => [.str (Str.ofString "gap"), .int (g.ln : Nat), .int (g.b : Nat)]
  | some (r, t) => [.str (kD r), .int (g.ln : Nat), .int (g.b : Nat), .str t.s, .int (t.l : Nat), .int (t.c : Nat)] ++ wLs t.w
abbrev sgD (g : Sg) : D := .tup (sgL g)
def pcS (l : Nat) (p : Pc) : Sg := ⟨l, p.b, p.f.map fun t => (p.k == 1, t)⟩
/-! ### sorted, by lines -/
def lexB (g h : Sg) : Bool := decide (g.ln < h.ln ∨ (g.ln = h.ln ∧ g.b ≤ h.b))
def srt (gs : List Sg) : List Sg := gs.mergeSort lexB
abbrev KeyNd (gs : List Sg) : Prop := (gs.map fun g => (g.ln, g.b)).Nodup
abbrev stt (g : Sg) : Stt := (g.b, g.td)
/-- the stretches of a line -/
def rowSt (gs : List Sg) (l : Nat) : List Stt := ((srt gs).filter fun g => g.ln == l).map stt
/-! ### the groups of the sorted segments -/
def addN (g : Sg) : List (Nat × List Sg) → List (Nat × List Sg)
  | [] => [(g.ln, [g])]
  | (k, l) :: r => if k = g.ln then (k, l ++ [g]) :: r else (k, l) :: addN g r
def linesG (gs : List Sg) : List (Nat × List Sg) := gs.foldl (fun a g => addN g a) []
def enc (p : Nat × List Sg) : Int × List D := ((p.1 : Int), p.2.map sgD)
/-- lines of sorted segments: in order, each with its segments -/
structure Lines (gs : List Sg) (L : List (Nat × List Sg)) : Prop where
  asc : (L.map (·.1)).Pairwise (· < ·)
  row : ∀ p ∈ L, p.2 = gs.filter (fun g => g.ln == p.1) ∧ p.2 ≠ []
  all : ∀ g ∈ gs, ∃ p ∈ L, p.1 = g.ln
/-- the lines that have segments -/
def ks (gs : List Sg) : List Nat := (linesG (srt gs)).map (·.1)
/-! ### rows of pieces -/
abbrev Rows := List (Nat × List Pc)
def rowsOf (L : List (Nat × List Stt)) : Rows := (L.map fun p => (p.1, few p.2)).filter fun p => !p.2.isEmpty
def rowsG (gs : List Sg) : Rows := rowsOf ((ks gs).map fun l => (l, rowSt gs l))
abbrev rowD (p : Nat × List Pc) : Key × D := (Sum.inl (p.1 : Int), .tup (p.2.map fun q => sgD (pcS p.1 q)))
def allP (R : Rows) : List Sg := (R.map fun p => p.2.map (pcS p.1)).flatten
def rowAt (R : Rows) (l : Nat) : List Pc := ((R.find? fun p => p.1 == l).map (·.2)).getD []
def tot (R : Rows) : Nat := (R.map fun p => p.2.length).sum
abbrev mapF (R : Rows) : List (Str × D) := [("_rows", .fdc (R.map rowD)), ("_pieces", .tup ((allP R).map sgD))]
/-! ### values by the law's walk -/
def bet : Option Sg → Sg → Bool
  | none, _ => true
  | some h, g => decide (h.b < g.b)
def best (gs : List Sg) (l c : Nat) : Option Sg := gs.foldl (fun a g => if g.ln = l ∧ g.b ≤ c ∧ bet a g = true then some g else a) none
def tol (gs : List Sg) (l c : Nat) : Option Tg := match best gs l c with
  | none => none
  | some g => tv g.td (c - g.b)
def top (gs : List Sg) (l : Nat) : Nat := (gs.filter fun g => g.ln == l).foldl (fun a g => max a (g.b + 1)) 0
end MP

/-! Rules over typed data; comparisons of targets. -/
namespace DL
open PySem L2 StX
section
variable {K : PySem.W.Frag} [Tb K] {Z : ZX} {ds : DS} {n : Nat} {P : D → Nat → Prop} {g : TG} {tt : TT} {te tk tv : TE}
theorem Wi_imp {wi : TI} {ds : DS} {n : Nat} {P P' : List D → Nat → Prop} (h : Wi K Z wi ds n P) (i : ∀ xs m, P xs m → P' xs m) : Wi K Z wi ds n P' := fun b u σ R e S k => h b u σ R e S fun J xs u' G Y g s p w a c => k J xs u' G Y g s (i _ _ p) w a c
theorem Wgc_imp {g : TG} {js : List Nat} {x : D} {ds : DS} {P P' : DS → Prop} (h : Wgc K Z g js x ds P) (i : ∀ d, P d → P' d) : Wgc K Z g js x ds P' := fun b u σ v Q S r k => h b u σ v Q S r fun ds' σ' S' l f p => k ds' σ' S' l f (i _ p)
theorem Wt.imp {P P' : Bool → Nat → Prop} (h : Wt K Z tt ds n P) (i : ∀ c m, P c m → P' c m) : Wt K Z tt ds n P' := fun b u σ Q e S k => h b u σ Q e S fun c u' g s p => k c u' g s (i _ _ p)
/-- a comprehension over typed data -/
theorem lct_core {α : Type} {enc : α → D} {out : α → Option D} {l : List α} {m : Nat} {vs : List Nat} (hl : l.length ≤ 1000000)
    (hs : ∀ x, x ∈ l → Wgc K Z g vs (enc x) (wipeD ds vs) fun ds2 => Wt K Z tt ds2 m fun c j => j = m ∧ if c = true then We K Z te ds2 m (fun y k => k = m ∧ out x = some y) else out x = none) :
    ∃ Iv : Nat → List D → Nat → Prop, Iv 0 [] m ∧
    (∀ i x ys k, (l.map enc)[i]? = some x → Iv i ys k → Wgc K Z g vs x (wipeD ds vs) fun ds2 => Wt K Z tt ds2 k fun c j => if c = true then We K Z te ds2 j (fun y l => ys.length < 1000000 ∧ Iv (i + 1) (ys ++ [y]) l) else Iv (i + 1) ys j) ∧
    (∀ ys k, Iv (l.map enc).length ys k → k = m ∧ ys = l.filterMap out) := by
  refine ⟨fun i ys k => k = m ∧ ys = (l.take i).filterMap out ∧ i ≤ l.length, ⟨rfl, by simp, Nat.zero_le _⟩, fun i x ys k hx ⟨ek, ey, hi0⟩ => ?_, fun ys k ⟨ek, ey, _⟩ => ⟨ek, by rw [ey, List.length_map, List.take_length]⟩⟩
  subst ek ey
  rw [List.getElem?_map] at hx
  obtain ⟨x, hx', rfl⟩ := Option.map_eq_some_iff.mp hx
  clear hx
  have hx := hx'
  have hi : i < l.length := (List.getElem?_eq_some_iff.mp hx).1
  have et : l.take (i + 1) = l.take i ++ [x] := by rw [List.take_add_one, hx]; rfl
  refine Wgc_imp (hs x (List.mem_of_getElem? hx)) fun ds2 q => q.imp fun c j ⟨ej, q⟩ => ?_
  subst ej
  cases c with
  | false =>
    rw [if_neg Bool.false_ne_true] at q ⊢
    exact ⟨rfl, by rw [et, List.filterMap_append]; simp [q], by omega⟩
  | true =>
    rw [if_pos rfl] at q ⊢
    refine q.imp fun y k ⟨ek, ey⟩ => ?_
    subst ek
    refine ⟨?_, rfl, by rw [et, List.filterMap_append]; simp [ey], by omega⟩
    have := List.length_filterMap_le out (l.take i)
    rw [List.length_take] at this
    omega
theorem we_lct {α : Type} (enc : α → D) (out : α → Option D) (l : List α) {wi : TI} {vs : List Nat} (h : Wi K Z wi ds n fun xs m => xs = l.map enc ∧ l.length ≤ 1000000 ∧
    (∀ x, x ∈ l → Wgc K Z g vs (enc x) (wipeD ds vs) fun ds2 => Wt K Z tt ds2 m fun c j => j = m ∧ if c = true then We K Z te ds2 m (fun y k => k = m ∧ out x = some y) else out x = none) ∧ P (.lst (l.filterMap out)) m) : We K Z (tLc wi g tt te vs) ds n P :=
  we_lc (Wi_imp h fun xs m ⟨hx, hl, hs, hp⟩ => by
    subst hx
    obtain ⟨Iv, a, b, c⟩ := lct_core hl hs
    exact ⟨Iv, a, b, fun ys k q => by obtain ⟨rfl, rfl⟩ := c ys k q; exact hp⟩)
/-- .. without a test, all kept -/
theorem we_lcm {α : Type} (enc : α → D) (out : α → D) (l : List α) {wi : TI} {vs : List Nat} (h : Wi K Z wi ds n fun xs m => xs = l.map enc ∧ l.length ≤ 1000000 ∧
    (∀ x, x ∈ l → Wgc K Z g vs (enc x) (wipeD ds vs) fun ds2 => We K Z te ds2 m (fun y k => k = m ∧ y = out x)) ∧ P (.lst (l.map out)) m) : We K Z (tLc wi g tYes te vs) ds n P :=
  we_lct enc (fun x => some (out x)) l (Wi_imp h fun xs m ⟨hx, hl, hs, hp⟩ => ⟨hx, hl, fun x hxl => Wgc_imp (hs x hxl) fun ds2 q => wt_yes ⟨rfl, by rw [if_pos rfl]; exact q.imp fun y k ⟨a, b⟩ => ⟨a, by rw [b]⟩⟩, by rw [List.filterMap_eq_map']; exact hp⟩)
/-- a loop over typed data -/
theorem ws_fort {α : Type} (enc : α → D) (l : List α) {wi : TI} {tb : TS} {N : Nd} (h : Wi K Z wi ds n fun xs m => xs = l.map enc ∧ ∃ Iv : Nat → DS → Nat → Prop, Iv 0 ds m ∧
    (∀ i x ds' k, l[i]? = some x → Iv i ds' k → Wg K Z g (enc x) ds' fun ds2 => Ws K Z tb ds2 k { nx := Iv (i + 1), rt := N.rt, bk := N.nx, ct := Iv (i + 1) }) ∧ (∀ ds' k, Iv l.length ds' k → N.nx ds' k)) : Ws K Z (tFor wi g tb) ds n N :=
  ws_for (Wi_imp h fun xs m ⟨hx, Iv, a, b, c⟩ => by
    subst hx
    refine ⟨Iv, a, fun i x ds' k hx iv => ?_, fun ds' k iv => c ds' k (by rwa [List.length_map] at iv)⟩
    rw [List.getElem?_map] at hx
    obtain ⟨x, hx', rfl⟩ := Option.map_eq_some_iff.mp hx
    clear hx
    have hx := hx'
    exact b i x ds' k hx iv)
theorem rng0_map (n : Nat) : rng 0 n = (List.range n).map fun (i : Nat) => D.int (i : Int) := by
  unfold rng
  exact List.map_congr_left fun i _ => by simp
theorem enumD_map {α : Type} (enc : α → D) (l : List α) : enumD (l.map enc) = (l.zipIdx).map fun p => D.tup [.int (p.2 : Nat), enc p.1] := by
  apply List.ext_getElem?
  intro i
  unfold enumD
  rw [List.getElem?_zipWith, List.getElem?_map, List.getElem?_map, List.getElem?_zipIdx]
  cases q : l[i]? with
  | none => simp
  | some x =>
    have hi : i < l.length := (List.getElem?_eq_some_iff.mp q).1
    simp [hi]
end
end DL
namespace MP
open PySem L2 DL
def lmD : Option Nat → D
  | none => .non
  | some l => .int (l : Nat)
def wP : Option Str → PyData
  | none => .none
  | some x => .str x
def tgP : Option Tg → PyData
  | none => .none
  | some t => .tuple [.str t.s, .int (t.l : Nat), .int (t.c : Nat), wP t.w]
section
variable {K : PySem.W.Frag} [Tb K] {P : D → Prop}
end
end MP
namespace MP
open PySem L2 DL
/-- the columns of the first i stretches -/
def colsP (xs : List Stt) : Nat → List (Nat × Option Tg)
  | 0 => []
  | i + 1 => colsP xs i ++ (match xs[i]?, xs[i + 1]? with
    | some x, some y => (List.range (min 3 (y.1 - x.1))).map fun q => (x.1 + q, tv x.2 q)
    | some x, none => (List.range 3).map fun q => (x.1 + q, tv x.2 q)
    | none, _ => [])
end MP
namespace MP
open PySem L2 DL
end MP

namespace DL
open PySem L2 StX
theorem pdsm {α : Type} (f : α → D) (g : α → PyData) (h : ∀ a, pd (f a) = some (g a)) : ∀ l : List α, pds (l.map f) = some (l.map g)
  | [] => rfl
  | a :: l => by rw [List.map_cons, List.map_cons, pds, h, pdsm f g h l]; rfl
theorem plainm {α : Type} (g : α → PyData) (h : ∀ a, (g a).plain = true) : ∀ l : List α, PyData.plainAll (l.map g) = true
  | [] => rfl
  | a :: l => by rw [List.map_cons, PyData.plainAll, h, plainm g h l]; rfl
theorem depthm {α : Type} (g : α → PyData) (k : Nat) (h : ∀ a, (g a).depth ≤ k) : ∀ l : List α, PyData.depthAll (l.map g) ≤ k
  | [] => by simp [PyData.depthAll]
  | a :: l => by
    rw [List.map_cons, PyData.depthAll]
    exact Nat.max_le.mpr ⟨h a, depthm g k h l⟩
theorem eqvm {α β : Type} (f : α → PyData) (g : β → PyData) : ∀ (l : List α) (r : List β), PyData.eqvAll (l.map f) (r.map g) = true ↔ (l.length = r.length ∧ ∀ (i : Nat) x y, l[i]? = some x → r[i]? = some y → PyData.eqv (f x) (g y) = true)
  | [], [] => by simp [PyData.eqvAll]
  | [], b :: r => by simp [PyData.eqvAll]
  | a :: l, [] => by simp [PyData.eqvAll]
  | a :: l, b :: r => by
    rw [List.map_cons, List.map_cons, PyData.eqvAll, Bool.and_eq_true, eqvm f g l r]
    simp only [List.length_cons]
    constructor
    · rintro ⟨h1, h2, h3⟩
      refine ⟨by omega, fun i x y hx hy => ?_⟩
      cases i with
      | zero => cases hx; cases hy; exact h1
      | succ i => exact h3 i x y hx hy
    · rintro ⟨h2, h3⟩
      exact ⟨h3 0 a b rfl rfl, by omega, fun i x y hx hy => h3 (i + 1) x y hx hy⟩
section
variable {K : PySem.W.Frag} [Tb K] {P : D → Prop}
end
section
variable {K : PySem.W.Frag} [Tb K] {Z : ZX} {ds : DS} {n : Nat} {g : TG}
/-- .. the data found on the way -/
theorem ws_fore {α : Type} (enc : α → D) {wi : TI} {tb : TS} {N : Nd} (h : Wi K Z wi ds n fun xs m => ∃ l : List α, xs = l.map enc ∧ ∃ Iv : Nat → DS → Nat → Prop, Iv 0 ds m ∧
    (∀ i x ds' k, l[i]? = some x → Iv i ds' k → Wg K Z g (enc x) ds' fun ds2 => Ws K Z tb ds2 k { nx := Iv (i + 1), rt := N.rt, bk := N.nx, ct := Iv (i + 1) }) ∧ (∀ ds' k, Iv l.length ds' k → N.nx ds' k)) : Ws K Z (tFor wi g tb) ds n N :=
  ws_for (Wi_imp h fun xs m ⟨l, hx, Iv, a, b, c⟩ => by
    subst hx
    refine ⟨Iv, a, fun i x ds' k hx iv => ?_, fun ds' k iv => c ds' k (by rwa [List.length_map] at iv)⟩
    rw [List.getElem?_map] at hx
    obtain ⟨x, hx', rfl⟩ := Option.map_eq_some_iff.mp hx
    clear hx
    have hx := hx'
    exact b i x ds' k hx iv)
theorem range_at {n i q : Nat} (h : (List.range n)[i]? = some q) : i < n ∧ q = i := by
  have h1 := (List.getElem?_eq_some_iff.mp h).1
  rw [List.length_range] at h1
  rw [List.getElem?_range h1] at h
  exact ⟨h1, (Option.some.inj h).symm⟩
end
end DL
namespace MP
open PySem L2 DL
def bD : Option Sg → D
  | none => .non
  | some g => sgD g
end MP

namespace Lw
open PySem L2 StX DL
open PyProof.Rows (envOfC)
structure Ad where
  c_Fingerprint : Addr
  a_is_integer : Addr
  a_check_text : Addr
  a_Fingerprint_lengths : Addr
  a_Fingerprint_checksums : Addr
  a_Fingerprint_len : Addr
  a_Fingerprint_eq : Addr
  a__law_stream : Addr
  a__law_pick : Addr
  a__law_number : Addr
  a_is_count : Addr
  a_lines_of : Addr
  a_checksum : Addr
  a__law_text : Addr
  a__law_rows : Addr
  a__law_changed : Addr
  a_is_up_to : Addr
  a_Fingerprint_init : Addr
  a__law_first : Addr
  a_Fingerprint_getitem : Addr
  a_Fingerprint_first_stale : Addr
  a__law_right : Addr
  a_law : Addr
  p_Fingerprint_checksums : Addr
  p_Fingerprint_lengths : Addr
  t_MODULUS : Tok
abbrev k_MODULUS : V := .int 99999989
def RL : Rl := fun ds n P _ => ∃ ns : List Int, ds = [.lst (ns.map .int)] ∧ ns.length ≤ 63 ∧ n = 0 ∧ ∀ m, P (.bl true) m
abbrev spL (K : PySem.W.Frag) [Tb K] : Sp := spD K RL
theorem law_start {K : PySem.W.Frag} {tb : List (Addr × Str)} [i : Tb K] {H : Hp} {a : Addr} {ns : List Int} (hl : ns.length ≤ 63) (hS : SqL K H a (ns.map V.int)) (hi : Tb.tb K = tb) (hn : (tb.map (·.1)).Nodup) (hT : ∀ p ∈ tb, H p.1 = some (.tbl #[])) : spL K [.ref a] H (fun v _ => v = .bl true) fun _ _ _ => False :=
  law_begin 0 hS hi hn hT ⟨ns, rfl, hl, rfl, fun _ => rfl⟩
structure TxtC (K : PySem.W.Frag) (A : Ad) : Prop where
  cl_Fingerprint : Cls K A.c_Fingerprint
  na_Fingerprint__numbers : NoAttr K A.c_Fingerprint "_numbers"
  ty_Fingerprint : TyC K A.c_Fingerprint
  ks_Fingerprint : PySem.W.kitOne K (.ref A.c_Fingerprint) (.ref A.c_Fingerprint) = some true
  nf_Fingerprint : PySem.W.notFirst K A.c_Fingerprint (.ref A.c_Fingerprint) = true
  kt_list_Fingerprint : PySem.W.kitOne K (.type "list") (.ref A.c_Fingerprint) = some false
  nf_list_Fingerprint : PySem.W.notFirst K A.c_Fingerprint (.type "list") = true
  kt_str_Fingerprint : PySem.W.kitOne K (.type "str") (.ref A.c_Fingerprint) = some false
  nf_str_Fingerprint : PySem.W.notFirst K A.c_Fingerprint (.type "str") = true
structure TxtT (K : PySem.W.Frag) [Tb K] (A : Ad) : Prop where
  none : True
end Lw

namespace Lw
open PySem L2 StX DL
open PyProof.Rows (envOfC)
abbrev mk (l : List Nat) : Str := ⟨l.toArray⟩
abbrev tl (x : Str) : List Nat := x.cps.toList
/-- each sign by its number in the row -/
def ckS : Nat → List Nat → Int
  | _, [] => 0
  | k, c :: l => ((k : Int) + 1) * (c : Int) + ckS (k + 1) l
def ck (l : List Nat) : Int := ckS 0 l % 99999989
def fp (l : List Nat) : Nat × Int := (l.length, ck l)
def rows (x : List Nat) : List (Nat × Int) := (Mx.lns x).map fp
def pD (p : Nat × Int) : D := .tup [.int (p.1 : Nat), .int p.2]
def fdf : List (Nat × Int) → List (Nat × Int) → Option Nat
  | [], [] => none
  | a :: as, b :: bs => if a = b then (fdf as bs).map (· + 1) else some 0
  | _, _ => some 0
def fsD : Option Nat → D
  | none => .non
  | some k => .int (k : Nat)
abbrev fpD (A : Ad) (l : List Nat) : D := .obj A.c_Fingerprint [("_numbers", .tup ((rows l).map pD))]
structure Tx (l : List Nat) : Prop where
  len : l.length ≤ 100
  sg : ∀ c ∈ l, c < 128
/-- what a change leaves of a text -/
structure Chg (x y : List Nat) : Prop where
  len : y.length ≤ 1000
  df : x.length = y.length → x ≠ y → x.count 10 = y.count 10 → rows x ≠ rows y
abbrev R_is_integer (A : Ad) : Rl := pr fun ds P => ∃ i, ds = [.int i] ∧ P (.bl true)
abbrev R_is_count (A : Ad) : Rl := pr fun ds P => ∃ i, ds = [.int i] ∧ P (.bl (decide (0 ≤ i)))
abbrev R_is_up_to (A : Ad) : Rl := pr fun ds P => ∃ i l, ds = [.int i, .int l] ∧ P (.bl (decide (0 ≤ i) && decide (i ≤ l)))
abbrev R_check_text (A : Ad) : Rl := pr fun ds P => ∃ x, ds = [.str x] ∧ P .non
abbrev R_lines_of (A : Ad) : Rl := pr fun ds P => ∃ l : List Nat, ds = [.str (mk l)] ∧ l.length ≤ 100000 ∧ P (.tup ((Mx.lns l).map fun r => .str (mk r)))
abbrev R_checksum (A : Ad) : Rl := pr fun ds P => ∃ l : List Nat, ds = [.str (mk l)] ∧ 10 ∉ l ∧ l.length ≤ 100000 ∧ P (.int (ck l))
abbrev R_Fingerprint_init (A : Ad) : Ri := fun ds _ P _ => ∃ l : List Nat, ds = [.str (mk l)] ∧ l.length ≤ 100000 ∧ P [("_numbers", .tup ((rows l).map pD))]
abbrev R_Fingerprint_lengths (A : Ad) : Rl := pr fun ds P => ∃ l, ds = [fpD A l] ∧ l.length ≤ 100000 ∧ P (.tup ((rows l).map fun p => .int (p.1 : Nat)))
abbrev R_Fingerprint_checksums (A : Ad) : Rl := pr fun ds P => ∃ l, ds = [fpD A l] ∧ l.length ≤ 100000 ∧ P (.tup ((rows l).map fun p => .int p.2))
abbrev R_Fingerprint_first_stale (A : Ad) : Rl := pr fun ds P => ∃ x y : List Nat, ds = [fpD A x, .str (mk y)] ∧ x.length ≤ 100000 ∧ y.length ≤ 100000 ∧ P (fsD (fdf (rows x) (rows y)))
abbrev R_Fingerprint_len (A : Ad) : Rl := pr fun ds P => ∃ l, ds = [fpD A l] ∧ l.length ≤ 100000 ∧ P (.int ((rows l).length : Nat))
abbrev R_Fingerprint_getitem (A : Ad) : Rl := pr fun ds P => ∃ (l : List Nat) (k : Nat) (p : Nat × Int), ds = [fpD A l, .int (k : Nat)] ∧ l.length ≤ 100000 ∧ (rows l)[k]? = some p ∧ P (pD p)
abbrev R_Fingerprint_eq (A : Ad) : Rl := pr fun ds P => (∃ x y, ds = [fpD A x, fpD A y] ∧ P (.bl (decide (rows x = rows y)))) ∨ (∃ x xs, ds = [fpD A x, .lst xs] ∧ P (.bl false)) ∨ ∃ x s, ds = [fpD A x, .str s] ∧ P (.bl false)
/-! the law's own defs -/
abbrev R__law_stream (A : Ad) : Rl := pr fun ds P => ∃ (ns : List Int) (k : Nat), ds = [.lst (ns.map .int), .int (k : Nat)] ∧ ns.length ≤ 1000 ∧ ∀ a, P (.strm a (.nats 2))
abbrev R__law_pick (A : Ad) : Rl := pr fun ds P => ∃ (a : Addr) (t : Int), ds = [.strm a (.nats 2), .int t] ∧ 0 < t ∧ t < 1000000 ∧ ∀ r, 0 ≤ r → r < t → P (.int r)
abbrev R__law_text (A : Ad) : Rl := pr fun ds P => ∃ a : Addr, ds = [.strm a (.nats 2)] ∧ ∀ x, Tx x → P (.str (mk x))
abbrev R__law_number (A : Ad) : Rl := pr fun ds P => ∃ l : List Nat, ds = [.str (mk l)] ∧ l.length ≤ 100000 ∧ P (.int (ck l))
abbrev R__law_rows (A : Ad) : Rl := pr fun ds P => ∃ l : List Nat, ds = [.str (mk l)] ∧ l.length ≤ 100000 ∧ P (.lst ((rows l).map pD))
abbrev R__law_changed (A : Ad) : Rl := pr fun ds P => ∃ (a : Addr) (x : List Nat), ds = [.strm a (.nats 2), .str (mk x)] ∧ Tx x ∧ ∀ y, Chg x y → P (.str (mk y))
abbrev R__law_first (A : Ad) : Rl := pr fun ds P => ∃ x y : List Nat, ds = [.str (mk x), .str (mk y)] ∧ x.length ≤ 100000 ∧ y.length ≤ 100000 ∧ P (fsD (fdf (rows x) (rows y)))
abbrev R__law_right (A : Ad) : Rl := pr fun ds P => ∃ a : Addr, ds = [.strm a (.nats 2)] ∧ P (.bl true)
abbrev R_law (A : Ad) : Rl := RL
def t_is_integer (K : PySem.W.Frag) [Tb K] (A : Ad) : TS := (tRet (tAndV (tCB (rIsi K) (tCons (tVar 0) (tCons (tC (.ty "int")) tNil))) (tNotV (tCB (rIsi K) (tCons (tVar 0) (tCons (tC (.ty "bool")) tNil))))))
def t_check_text (K : PySem.W.Frag) [Tb K] (A : Ad) : TS := (tIfS (tNot (tB (tCB (rIsi K) (tCons (tVar 0) (tCons (tC (.ty "str")) tNil))))) tNever tNext)
def t_Fingerprint_lengths (K : PySem.W.Frag) [Tb K] (A : Ad) : TS := (tRet (tCB (rTupOf K) (tCons (tLc (iTup K (tFld K (tVar 0) "_numbers")) (gTup K 2 (gCons (gName 1) (gCons (gName 2) gNil))) tYes (tVar 1) [1, 2]) tNil)))
def t_Fingerprint_checksums (K : PySem.W.Frag) [Tb K] (A : Ad) : TS := (tRet (tCB (rTupOf K) (tCons (tLc (iTup K (tFld K (tVar 0) "_numbers")) (gTup K 2 (gCons (gName 1) (gCons (gName 2) gNil))) tYes (tVar 2) [1, 2]) tNil)))
def t_Fingerprint_len (K : PySem.W.Frag) [Tb K] (A : Ad) : TS := (tRet (tCB (rLen' K) (tCons (tFld K (tVar 0) "_numbers") tNil)))
def t_Fingerprint_eq (K : PySem.W.Frag) [Tb K] (A : Ad) : TS := (tRet (tAndV (tCB (rIsi K) (tCons (tVar 1) (tCons (tC (.ref A.c_Fingerprint)) tNil))) (tOp (rEqP K) (tFld K (tVar 0) "_numbers") (tFld K (tVar 1) "_numbers"))))
def t__law_stream (K : PySem.W.Frag) [Tb K] (A : Ad) : TS := (tSeq (tAsg (tIf (tTest (tOp (rLtP K) (tVar 1) (tCB (rLen' K) (tCons (tVar 0) tNil)))) (tOp (rI (fun _ j => 0 < j) fun i j => .int (i % j)) (tCB (rInt1) (tCons (tOp (rIx K) (tVar 0) (tVar 1)) tNil)) (tOp (rI CMul fun i j => .int (i * j)) (tC (.int 2)) (tOp (rI CPow fun i j => .int (i ^ j.toNat)) (tC (.int 10)) (tC (.int 60))))) (tC (.int 0))) (gName 2))
    (tSeq (tAsg (tC (.int 0)) (gName 3))
    (tSeq (tFor (iRng1 (tCons (tC (.int 70)) tNil)) (gName 4) (tSeq (tAsg (tOp (rI (fun _ j => 0 < j) fun i j => .int (i % j)) (tCB (rInt1) (tCons (tOp (rAddU K) (tOp (rAddU K) (tOp (rI CMul fun i j => .int (i * j)) (tVar 2) (tC (.int 48271))) (tOp (rI CMul fun i j => .int (i * j)) (tC (.int 7919)) (tOp (rAddU K) (tVar 1) (tOp (rI CMul fun i j => .int (i * j)) (tC (.int 64)) (tVar 4))))) (tC (.int 12345))) tNil)) (tC (.int 2147483647))) (gName 5))
    (tAsg (tOp (rAddU K) (tOp (rI CMul fun i j => .int (i * j)) (tVar 3) (tC (.int 2147483629))) (tOp (rI (fun _ j => 0 < j) fun i j => .int (i % j)) (tCB (rInt1) (tCons (tOp (rAddU K) (tOp (rI CPow fun i j => .int (i ^ j.toNat)) (tVar 5) (tC (.int 5))) (tOp (rI CMul fun i j => .int (i * j)) (tVar 4) (tVar 5))) tNil)) (tC (.int 2147483629)))) (gName 3))))
    (tRet (tLst (tCons (tOp (rI CMul fun i j => .int (i * j)) (tVar 2) (tCB (rInt1) (tCons (tOp (rGeP K) (tVar 2) (tOp (rI CPow fun i j => .int (i ^ j.toNat)) (tC (.int 10)) (tC (.int 18)))) tNil))) (tCons (tVar 3) tNil)))))))
def t__law_pick (K : PySem.W.Frag) [Tb K] (A : Ad) : TS := (tSeq (tAsg (tCB (rInt1) (tCons (tOp (rEqP K) (tOp (rIx K) (tVar 0) (tC (.int 0))) (tC (.int 0))) tNil)) (gName 2))
    (tSeq (tAsg (tOp (rI (fun _ j => 0 < j) fun i j => .int (i % j)) (tCB (rInt1) (tCons (tOp (rIx K) (tVar 0) (tVar 2)) tNil)) (tVar 1)) (gName 3))
    (tSeq (tAsg (tOp (rI CDiv fun i j => .int (i / j)) (tOp (rIx K) (tVar 0) (tVar 2)) (tVar 1)) (gSub (tVar 0) (tVar 2) rSetL))
    (tRet (tVar 3)))))
def t__law_number (K : PySem.W.Frag) [Tb K] (A : Ad) : TS := (tSeq (tAsg (tC (.int 0)) (gName 1))
    (tSeq (tFor (iEnumS (tCons (tVar 0) tNil)) (gTup K 2 (gCons (gName 2) (gCons (gName 3) gNil))) (tAsg (tOp (rI (fun _ j => 0 < j) fun i j => .int (i % j)) (tCB (rInt1) (tCons (tOp (rAddU K) (tVar 1) (tOp (rI CMul fun i j => .int (i * j)) (tOp (rAddU K) (tVar 2) (tC (.int 1))) (tCB (rOrd') (tCons (tVar 3) tNil)))) tNil)) (tC (.int 99999989))) (gName 1)))
    (tRet (tVar 1))))
def t_is_count (K : PySem.W.Frag) [Tb K] (A : Ad) : TS := (tRet (tAndV (tCall (spD K (R_is_integer A)) [] E0 (tCons (tVar 0) tNil)) (tOp (rGeP K) (tVar 0) (tC (.int 0)))))
def t_lines_of (K : PySem.W.Frag) [Tb K] (A : Ad) : TS := (tSeq (tDrop (tCall (spD K (R_check_text A)) [] E0 (tCons (tVar 0) tNil)))
    (tRet (tCB (rTupOf K) (tCons (tM1 (rSplit) (tVar 0) (tC (.str (PySem.Str.ofString "\n")))) tNil))))
def t_checksum (K : PySem.W.Frag) [Tb K] (A : Ad) : TS := (tSeq (tDrop (tCall (spD K (R_check_text A)) [] E0 (tCons (tVar 0) tNil)))
    (tSeq (tIfS (tTest (tOp (rInS) (tC (.str (PySem.Str.ofString "\n"))) (tVar 0))) tNever tNext)
    (tRet (tOp (rI (fun _ j => 0 < j) fun i j => .int (i % j)) (tCB (rSum K) (tCons (tLc (iEnumS (tCons (tVar 0) tNil)) (gTup K 2 (gCons (gName 1) (gCons (gName 2) gNil))) tYes (tOp (rI CMul fun i j => .int (i * j)) (tOp (rAddU K) (tVar 1) (tC (.int 1))) (tCB (rOrd') (tCons (tVar 2) tNil))) [1, 2]) tNil)) (tC (k_MODULUS))))))
def t__law_text (K : PySem.W.Frag) [Tb K] (A : Ad) : TS := (tSeq (tAsg (tLst tNil) (gName 1))
    (tSeq (tFor (iRng1 (tCons (tOp (rAddU K) (tC (.int 1)) (tCall (spD K (R__law_pick A)) [] E0 (tCons (tVar 0) (tCons (tC (.int 6)) tNil)))) tNil)) (gName 2) (tSeq (tAsg (tCall (spD K (R__law_pick A)) [] E0 (tCons (tVar 0) (tCons (tC (.int 9)) tNil))) (gName 3))
    (tDrop (tBM K "list" rAppend (tVar 1) (tCons (tM1 (rJoin K) (tC (.str (PySem.Str.ofString ""))) (tLc (iRng1 (tCons (tVar 3) tNil)) (gName 4) tYes (tOp (rIx K) (tC (.str (PySem.Str.ofString " ~az#\"AB0"))) (tCall (spD K (R__law_pick A)) [] E0 (tCons (tVar 0) (tCons (tC (.int 9)) tNil)))) [4])) tNil)))))
    (tRet (tM1 (rJoin K) (tC (.str (PySem.Str.ofString "\n"))) (tVar 1)))))
def t__law_rows (K : PySem.W.Frag) [Tb K] (A : Ad) : TS := (tRet (tLc (iList K (tM1 (rSplit) (tVar 0) (tC (.str (PySem.Str.ofString "\n"))))) (gName 1) tYes (tTup (tCons (tCB (rLen' K) (tCons (tVar 1) tNil)) (tCons (tCall (spD K (R__law_number A)) [] E0 (tCons (tVar 1) tNil)) tNil))) [1]))
def t__law_changed (K : PySem.W.Frag) [Tb K] (A : Ad) : TS := (tSeq (tPar 2 3 (tCons (tM1 (rSplit) (tVar 1) (tC (.str (PySem.Str.ofString "\n")))) (tCons (tCall (spD K (R__law_pick A)) [] E0 (tCons (tVar 0) (tCons (tC (.int 6)) tNil))) tNil)))
    (tSeq (tAsg (tCall (spD K (R__law_pick A)) [] E0 (tCons (tVar 0) (tCons (tCB (rLen' K) (tCons (tVar 2) tNil)) tNil))) (gName 4))
    (tSeq (tAsg (tOp (rIx K) (tVar 2) (tVar 4)) (gName 5))
    (tSeq (tPar 6 7 (tCons (tCall (spD K (R__law_pick A)) [] E0 (tCons (tVar 0) (tCons (tOp (rAddU K) (tCB (rLen' K) (tCons (tVar 5) tNil)) (tC (.int 1))) tNil))) (tCons (tCall (spD K (R__law_pick A)) [] E0 (tCons (tVar 0) (tCons (tOp (rAddU K) (tCB (rLen' K) (tCons (tVar 5) tNil)) (tC (.int 1))) tNil))) tNil)))
    (tSeq (tIfS (tTest (tOp (rEqP K) (tVar 3) (tC (.int 0)))) (tAsg (tOp (rAddU K) (tOp (rAddU K) (tSl (rSlU K) (tVar 5) tNoPart (tPart (tVar 6))) (tC (.str (PySem.Str.ofString "x")))) (tSl (rSlU K) (tVar 5) (tPart (tOp (rAddU K) (tVar 6) (tC (.int 1)))) tNoPart)) (gName 5)) tNext)
    (tSeq (tIfS (tAnd (tTest (tOp (rEqP K) (tVar 3) (tC (.int 1)))) (tTest (tChain (rLtP K) (rLtP K) (tVar 6) (tVar 7) (tCB (rLen' K) (tCons (tVar 5) tNil))))) (tSeq (tPar 8 9 (tCons (tOp (rAddU K) (tSl (rSlU K) (tVar 5) tNoPart (tPart (tVar 6))) (tOp (rIx K) (tVar 5) (tVar 7))) (tCons (tOp (rAddU K) (tOp (rIx K) (tVar 5) (tVar 6)) (tSl (rSlU K) (tVar 5) (tPart (tOp (rAddU K) (tVar 7) (tC (.int 1)))) tNoPart)) tNil)))
    (tAsg (tOp (rAddU K) (tOp (rAddU K) (tVar 8) (tSl (rSlU K) (tVar 5) (tPart (tOp (rAddU K) (tVar 6) (tC (.int 1)))) (tPart (tVar 7)))) (tVar 9)) (gName 5))) tNext)
    (tSeq (tAsg (tOp (rIx K) (tLst (tCons (tLst (tCons (tVar 5) tNil)) (tCons (tLst (tCons (tVar 5) tNil)) (tCons (tLst (tCons (tOp (rIx K) (tLst (tCons (tC (.str (PySem.Str.ofString ""))) (tCons (tC (.str (PySem.Str.ofString "new"))) tNil))) (tOp (rI (fun _ j => 0 < j) fun i j => .int (i % j)) (tCB (rInt1) (tCons (tVar 6) tNil)) (tC (.int 2)))) (tCons (tVar 5) tNil))) (tCons (tLst tNil) (tCons (tLst (tCons (tVar 5) tNil)) (tCons (tLst (tCons (tVar 5) tNil)) tNil))))))) (tVar 3)) (gName 10))
    (tSeq (tAsg (tOp (rAddU K) (tOp (rAddU K) (tSl (rSlU K) (tVar 2) tNoPart (tPart (tVar 4))) (tVar 10)) (tSl (rSlU K) (tVar 2) (tPart (tOp (rAddU K) (tVar 4) (tC (.int 1)))) tNoPart)) (gName 2))
    (tRet (tIf (tTest (tOp (rLtP K) (tVar 3) (tC (.int 5)))) (tOp (rAddU K) (tM1 (rJoin K) (tC (.str (PySem.Str.ofString "\n"))) (tVar 2)) (tOp (rIx K) (tLst (tCons (tC (.str (PySem.Str.ofString ""))) (tCons (tC (.str (PySem.Str.ofString "\n"))) (tCons (tC (.str (PySem.Str.ofString " "))) tNil)))) (tCall (spD K (R__law_pick A)) [] E0 (tCons (tVar 0) (tCons (tC (.int 3)) tNil))))) (tVar 1)))))))))))
def t_is_up_to (K : PySem.W.Frag) [Tb K] (A : Ad) : TS := (tRet (tAndV (tCall (spD K (R_is_count A)) [] E0 (tCons (tVar 0) tNil)) (tOrV (tOp (rIsN') (tVar 1) (tC .non)) (tOp (rLeP K) (tVar 0) (tVar 1)))))
def t_Fingerprint_init (K : PySem.W.Frag) [Tb K] (A : Ad) : TS := (sFld K (tVar 0) (tCB (rTupOf K) (tCons (tLc (iTup K (tCall (spD K (R_lines_of A)) [] E0 (tCons (tVar 1) tNil))) (gName 2) tYes (tTup (tCons (tCB (rLen' K) (tCons (tVar 2) tNil)) (tCons (tCall (spD K (R_checksum A)) [] E0 (tCons (tVar 2) tNil)) tNil))) [2]) tNil)) "_numbers")
def t__law_first (K : PySem.W.Frag) [Tb K] (A : Ad) : TS := (tSeq (tPar 2 3 (tCons (tCall (spD K (R__law_rows A)) [] E0 (tCons (tVar 0) tNil)) (tCons (tCall (spD K (R__law_rows A)) [] E0 (tCons (tVar 1) tNil)) tNil)))
    (tSeq (tFor (iRng1 (tCons (tCB (rMax2) (tCons (tCB (rLen' K) (tCons (tVar 2) tNil)) (tCons (tCB (rLen' K) (tCons (tVar 3) tNil)) tNil))) tNil)) (gName 4) (tIfS (tTest (tOp (rNeP K) (tSl (rSlU K) (tVar 2) (tPart (tVar 4)) (tPart (tOp (rAddU K) (tVar 4) (tC (.int 1))))) (tSl (rSlU K) (tVar 3) (tPart (tVar 4)) (tPart (tOp (rAddU K) (tVar 4) (tC (.int 1))))))) (tRet (tVar 4)) tNext))
    (tRet (tC .non))))
def t_Fingerprint_getitem (K : PySem.W.Frag) [Tb K] (A : Ad) : TS := (tSeq (tIfS (tNot (tB (tCall (spD K (R_is_up_to A)) [] E0 (tCons (tVar 1) (tCons (tOp (rI0 fun i j => .int (i - j)) (tCB (rLen' K) (tCons (tFld K (tVar 0) "_numbers") tNil)) (tC (.int 1))) tNil))))) tNever tNext)
    (tRet (tOp (rIx K) (tFld K (tVar 0) "_numbers") (tVar 1))))
def t_Fingerprint_first_stale (K : PySem.W.Frag) [Tb K] (A : Ad) : TS := (tSeq (tAsg (tFld K (tMake A.c_Fingerprint (spI K A.c_Fingerprint (R_Fingerprint_init A)) [] E0 (tCons (tVar 1) tNil)) "_numbers") (gName 2))
    (tSeq (tFor (iEnumZ K (tCons (tFld K (tVar 0) "_numbers") (tCons (tVar 2) tNil))) (gTup K 2 (gCons (gName 3) (gCons (gTup K 2 (gCons (gName 4) (gCons (gName 5) gNil))) gNil))) (tIfS (tTest (tOp (rNeP K) (tVar 4) (tVar 5))) (tRet (tVar 3)) tNext))
    (tSeq (tIfS (tTest (tOp (rEqP K) (tCB (rLen' K) (tCons (tFld K (tVar 0) "_numbers") tNil)) (tCB (rLen' K) (tCons (tVar 2) tNil)))) (tRet (tC .non)) tNext)
    (tRet (tCB (rMin2) (tCons (tCB (rLen' K) (tCons (tFld K (tVar 0) "_numbers") tNil)) (tCons (tCB (rLen' K) (tCons (tVar 2) tNil)) tNil)))))))
def t__law_right (K : PySem.W.Frag) [Tb K] (A : Ad) : TS := (tSeq (tAsg (tCall (spD K (R__law_text A)) [] E0 (tCons (tVar 0) tNil)) (gName 1))
    (tSeq (tAsg (tTup (tCons (tCall (spD K (R__law_changed A)) [] E0 (tCons (tVar 0) (tCons (tVar 1) tNil))) (tCons (tMake A.c_Fingerprint (spI K A.c_Fingerprint (R_Fingerprint_init A)) [] E0 (tCons (tVar 1) tNil)) (tCons (tCall (spD K (R__law_rows A)) [] E0 (tCons (tVar 1) tNil)) tNil)))) (gTup K 3 (gCons (gName 2) (gCons (gName 3) (gCons (gName 4) gNil)))))
    (tSeq (tIfS (tOr (tTest (tOp (rNeP K) (tLc (iRng1 (tCons (tCB (rLenO A.c_Fingerprint (spD K (R_Fingerprint_len A))) (tCons (tVar 3) tNil)) tNil)) (gName 6) tYes (tOp (rIxO A.c_Fingerprint (spD K (R_Fingerprint_getitem A))) (tVar 3) (tVar 6)) [6]) (tVar 4))) (tTest (tOp (rNeP K) (tProp A.c_Fingerprint (spD K (R_Fingerprint_lengths A)) [] E0 (tVar 3)) (tCB (rTupOf K) (tCons (tLc (iList K (tVar 4)) (gName 7) tYes (tOp (rIx K) (tVar 7) (tC (.int 0))) [7]) tNil))))) (tRet (tC (.bl false))) tNext)
    (tSeq (tIfS (tOr (tTest (tOp (rNeP K) (tProp A.c_Fingerprint (spD K (R_Fingerprint_checksums A)) [] E0 (tVar 3)) (tCB (rTupOf K) (tCons (tLc (iList K (tVar 4)) (gName 7) tYes (tOp (rIx K) (tVar 7) (tC (.int 1))) [7]) tNil)))) (tTest (tOp (rNotN') (tMeth A.c_Fingerprint "first_stale" (spD K (R_Fingerprint_first_stale A)) [] E0 (tVar 3) (tCons (tVar 1) tNil)) (tC .non)))) (tRet (tC (.bl false))) tNext)
    (tSeq (tAsg (tCall (spD K (R__law_first A)) [] E0 (tCons (tVar 1) (tCons (tVar 2) tNil))) (gName 5))
    (tSeq (tIfS (tOr (tTest (tOp (rNeP K) (tMeth A.c_Fingerprint "first_stale" (spD K (R_Fingerprint_first_stale A)) [] E0 (tVar 3) (tCons (tVar 2) tNil)) (tVar 5))) (tTest (tOp (rNeP K) (tMeth A.c_Fingerprint "first_stale" (spD K (R_Fingerprint_first_stale A)) [] E0 (tMake A.c_Fingerprint (spI K A.c_Fingerprint (R_Fingerprint_init A)) [] E0 (tCons (tVar 2) tNil)) (tCons (tVar 1) tNil)) (tVar 5)))) (tRet (tC (.bl false))) tNext)
    (tSeq (tIfS (tOr (tTest (tOp (rNeP K) (tOp (rEqO K A.c_Fingerprint (spD K (R_Fingerprint_eq A))) (tVar 3) (tMake A.c_Fingerprint (spI K A.c_Fingerprint (R_Fingerprint_init A)) [] E0 (tCons (tVar 2) tNil))) (tOp (rIsN') (tVar 5) (tC .non)))) (tOr (tTest (tOp (rEqO K A.c_Fingerprint (spD K (R_Fingerprint_eq A))) (tVar 3) (tVar 4))) (tTest (tOp (rEqO K A.c_Fingerprint (spD K (R_Fingerprint_eq A))) (tVar 3) (tVar 1))))) (tRet (tC (.bl false))) tNext)
    (tRet (tIf (tAnd (tTest (tOp (rEqP K) (tCB (rLen' K) (tCons (tVar 1) tNil)) (tCB (rLen' K) (tCons (tVar 2) tNil)))) (tAnd (tTest (tOp (rNeP K) (tVar 1) (tVar 2))) (tTest (tOp (rEqP K) (tM1 (rCount) (tVar 1) (tC (.str (PySem.Str.ofString "\n")))) (tM1 (rCount) (tVar 2) (tC (.str (PySem.Str.ofString "\n")))))))) (tOp (rNotN') (tVar 5) (tC .non)) (tC (.bl true)))))))))))
def t_law (K : PySem.W.Frag) [Tb K] (A : Ad) : TS := (tSeq (tFor (iRng1 (tCons (tCB (rMax2) (tCons (tC (.int 1)) (tCons (tCB (rMin2) (tCons (tCB (rLen' K) (tCons (tVar 0) tNil)) (tCons (tC (.int 12)) tNil))) tNil))) tNil)) (gName 1) (tSeq (tAsg (tCall (spD K (R__law_stream A)) [] E0 (tCons (tVar 0) (tCons (tVar 1) tNil))) (gName 2))
    (tIfS (tOr (tNot (tB (tCall (spD K (R__law_right A)) [] E0 (tCons (tVar 2) tNil)))) (tNot (tB (tCall (spD K (R__law_right A)) [] E0 (tCons (tVar 2) tNil))))) (tRet (tC (.bl false))) tNext)))
    (tSeq (tAsg (tOp rMulT (tC (.str (PySem.Str.ofString "~"))) (tC (.int 19999))) (gName 3))
    (tSeq (tIfS (tOr (tTest (tOp (rNeP K) (tCall (spD K (R_checksum A)) [] E0 (tCons (tVar 3) tNil)) (tCall (spD K (R__law_number A)) [] E0 (tCons (tVar 3) tNil)))) (tTest (tOp (rNeP K) (tOp (rIxO A.c_Fingerprint (spD K (R_Fingerprint_getitem A))) (tMake A.c_Fingerprint (spI K A.c_Fingerprint (R_Fingerprint_init A)) [] E0 (tCons (tOp (rAddU K) (tVar 3) (tC (.str (PySem.Str.ofString "\n")))) tNil)) (tC (.int 0))) (tTup (tCons (tC (.int 19999)) (tCons (tCall (spD K (R__law_number A)) [] E0 (tCons (tVar 3) tNil)) tNil)))))) (tRet (tC (.bl false))) tNext)
    (tRet (tAndV (tOp (rEqP K) (tCall (spD K (R_checksum A)) [] E0 (tCons (tC (.str (PySem.Str.ofString ""))) tNil)) (tC (.int 0))) (tAndV (tOp (rEqP K) (tProp A.c_Fingerprint (spD K (R_Fingerprint_lengths A)) [] E0 (tMake A.c_Fingerprint (spI K A.c_Fingerprint (R_Fingerprint_init A)) [] E0 (tCons (tC (.str (PySem.Str.ofString ""))) tNil))) (tTup (tCons (tC (.int 0)) tNil))) (tOp (rEqP K) (tMeth A.c_Fingerprint "first_stale" (spD K (R_Fingerprint_first_stale A)) [] E0 (tMake A.c_Fingerprint (spI K A.c_Fingerprint (R_Fingerprint_init A)) [] E0 (tCons (tC (.str (PySem.Str.ofString "a"))) tNil)) (tCons (tC (.str (PySem.Str.ofString "a\n"))) tNil)) (tC (.int 1)))))))))
end Lw

namespace Lw
open PySem L2 StX DL MP
section
variable {K : PySem.W.Frag} [Tb K] {Z : ZX} {A : Ad}
/-- one step -/
local macro_rules | `(tactic| walk_at "w1") => `(tactic| first
  | with_reducible refine ws_seq ?_
  | ((with_reducible show Ws _ _ (tAsg (tLst tNil) (gName _)) _ _ _); refine ws_setX (wx_lst (wa_nil ⟨Nat.zero_le _, ?_⟩)))
  | ((with_reducible show Ws _ _ (tAsg tDNewK (gName _)) _ _ _); refine ws_setX (wx_dnew ?_))
  | with_reducible refine ws_parX ?_
  | with_reducible refine ws_par3X ?_
  | ((with_reducible show Wx _ _ (tLst tNil) _ _ _); refine wx_lst (wa_nil ⟨Nat.zero_le _, ?_⟩))
  | ((with_reducible show Wx _ _ tDNewK _ _ _); refine wx_dnew ?_)
  | ((with_reducible show We _ _ tDNewK _ _ _); refine we_dnew ?_)
  | with_reducible refine wx_we ?_
  | with_reducible refine ws_break ?_
  | with_reducible refine ws_cont ?_
  | with_reducible refine ws_retN ?_
  | with_reducible refine ws_if ?_
  | with_reducible refine ws_ret ?_
  | ((fail_if_success (with_reducible show Ws _ _ (tDrop (tBM _ _ _ _ _)) _ _ _)); (with_reducible refine ws_drop ?_))
  | with_reducible refine ws_next ?_
  | with_reducible refine ws_par ?_
  | ((fail_if_success (with_reducible show Ws _ _ (tAsg _ (gSub _ _ _)) _ _ _)); (with_reducible refine ws_asg ?_))
  | with_reducible refine wg_name ?_
  | with_reducible refine we_int ?_
  | with_reducible refine we_bl ?_
  | with_reducible refine we_non ?_
  | with_reducible refine we_str ?_
  | with_reducible refine we_ty ?_
  | with_reducible refine we_cls ?_
  | with_reducible refine we_cmethX ?_
  | with_reducible refine we_cmeth ?_
  | with_reducible refine we_cmethN ?_
  | ((with_reducible show ∃ _, D.str _ = D.str _ ∧ _ ∧ _); refine ⟨_, rfl, ?_, ?_⟩; (focus (first | assumption | omega)))
  | ((with_reducible show We _ _ (tVar _) _ _ _); refine we_var rfl rfl ?_)
  | ((with_reducible show We _ _ (tVar _) _ _ _); refine we_var rfl (mut_td _) ?_)
  | ((with_reducible show We _ _ (tVar _) _ _ _); refine we_var rfl (mut_tg _) ?_)
  | ((with_reducible show We _ _ (tVar _) _ _ _); refine we_var rfl (mut_w _) ?_)
  | ((with_reducible show We _ _ (tVar _) _ _ _); refine we_var rfl (mut_lm _) ?_)
  | ((with_reducible show We _ _ (tVar _) _ _ _); refine we_var rfl (mut_b _) ?_)
  | ((fail_if_success (with_reducible show We _ _ (tOp (rInP _) _ (tVar _)) _ _ _)); with_reducible refine we_op ?_)
  | with_reducible refine we_un ?_
  | with_reducible refine we_lenO ?_
  | with_reducible refine we_cb ?_
  | with_reducible refine we_callX ?_
  | with_reducible refine we_call ?_
  | with_reducible refine we_callNX ?_
  | with_reducible refine we_callN ?_
  | with_reducible refine we_methN ?_
  | with_reducible refine we_callON ?_
  | with_reducible refine we_callOX ?_
  | with_reducible refine ws_raise ?_
  | with_reducible refine we_exf ?_
  | with_reducible refine we_tup ?_
  | with_reducible refine we_lst ?_
  | with_reducible refine we_sl ?_
  | with_reducible refine we_m1 ?_
  | with_reducible refine we_andV ?_
  | with_reducible refine we_orV ?_
  | with_reducible refine we_notV ?_
  | with_reducible refine we_if ?_
  | with_reducible refine we_chain ?_
  | with_reducible refine we_fld ?_
  | with_reducible refine we_methX ?_
  | with_reducible refine we_meth ?_
  | with_reducible refine we_prop ?_
  | with_reducible refine we_callO' ?_
  | with_reducible refine we_make ?_
  | with_reducible refine wt_test ?_
  | with_reducible refine wt_B ?_
  | with_reducible refine wt_yes ?_
  | with_reducible refine wt_and ?_
  | with_reducible refine wt_or ?_
  | with_reducible refine wt_not ?_
  | with_reducible refine wa_nil ?_
  | with_reducible refine wa_cons ?_
  | with_reducible refine wo_none ?_
  | with_reducible refine wo_some ?_
  | with_reducible refine add_int ?_
  | with_reducible refine sub_int ?_
  | with_reducible refine neg_int ?_
  | ((with_reducible refine mod_int ?_ ?_); (focus (first | assumption | omega)))
  | ((with_reducible refine mul_int ?_ ?_); (focus (first | exact Or.inl ⟨by omega, by omega⟩ | exact Or.inr ⟨by omega, by omega⟩)))
  | ((with_reducible refine fdiv_int ?_ ?_); (focus (exact ⟨by omega, by omega⟩)))
  | ((with_reducible refine pow_int ?_ ?_); (focus (exact ⟨by decide, by decide, by decide⟩)))
  | with_reducible refine is_non ?_
  | with_reducible refine not_non ?_
  | with_reducible refine eq_int ?_
  | with_reducible refine ne_int ?_
  | with_reducible refine eq_pos ?_
  | with_reducible refine ne_pos ?_
  | with_reducible refine ne_nn ?_
  | with_reducible refine ne_np ?_
  | with_reducible refine ne_pn ?_
  | with_reducible refine eq_str ?_
  | with_reducible refine ne_str ?_
  | with_reducible refine eq_bl ?_
  | with_reducible refine ne_bl ?_
  | with_reducible refine lt_int ?_
  | with_reducible refine gt_int ?_
  | with_reducible refine le_int ?_
  | with_reducible refine ge_int ?_
  | with_reducible refine lt_pos ?_
  | with_reducible refine gt_pos ?_
  | with_reducible refine le_pos ?_
  | with_reducible refine ge_pos ?_
  | with_reducible refine int_int ?_
  | with_reducible refine min_int ?_
  | with_reducible refine max_int ?_
  | with_reducible refine len_lst ?_
  | with_reducible refine len_tup ?_
  | ((with_reducible refine len_str ?_ ?_); (focus (first | assumption | omega)))
  | with_reducible refine tuple_lst ?_
  | with_reducible refine tuple_tup ?_
  | with_reducible refine sl_lst ?_
  | with_reducible refine sl_tup ?_
  | ((with_reducible refine sl_str ?_ ?_); (focus (first | assumption | omega)))
  | with_reducible refine mt_countD ?_
  | with_reducible refine mt_rfindD ?_
  | ((with_reducible refine mt_splitD ?_ ?_ ?_); (focus rfl); (focus (first | assumption | omega)))
  | ((with_reducible show Op _ (rIx _) (D.tup _) (D.int _) _); refine ix_tup (by decide) rfl ?_)
  | ((with_reducible show Op _ (rIx _) (D.lst _) (D.int _) _); refine ix_lst (by decide) rfl ?_)
  | ((with_reducible show Cb _ (rIsi _) [D.int _, D.ty _] _); first | refine isiI (r := true) (by decide +kernel) ?_ | refine isiI (r := false) (by decide +kernel) ?_)
  | ((with_reducible show Cb _ (rIsi _) [D.str _, D.ty _] _); first | refine isiS (r := true) (by decide +kernel) ?_ | refine isiS (r := false) (by decide +kernel) ?_)
  | ((with_reducible show Cb _ (rIsi _) [D.tup _, D.ty _] _); first | refine isiT (r := true) (by decide +kernel) ?_ | refine isiT (r := false) (by decide +kernel) ?_)
  | ((with_reducible show Wg _ _ (gTup _ _ _) _ _ _); refine wg_tup rfl rfl ?_)
  | ((with_reducible show Wgs _ _ gNil _ _ _); refine wgs_nil rfl ?_)
  | ((with_reducible show Wgs _ _ (gCons _ _) _ _ _); refine wgs_cons rfl ?_)
  | ((with_reducible show ∃ _, D.bl _ = D.bl _ ∧ _); refine ⟨_, rfl, ?_⟩)
  | ((with_reducible show ∃ _, D.int _ = D.int _ ∧ _); refine ⟨_, rfl, ?_⟩)
  | ((with_reducible show ∃ _, D.str _ = D.str _ ∧ _); refine ⟨_, rfl, ?_⟩)
  | ((with_reducible show ∃ _, D.tup _ = D.tup _ ∧ _); refine ⟨_, rfl, ?_⟩)
  | ((with_reducible show ∃ _, D.lst _ = D.lst _ ∧ _); refine ⟨_, rfl, ?_⟩)
  | with_reducible refine wt_tru ?_
  | with_reducible refine list_lst ?_
  | with_reducible refine list_tup ?_
  | with_reducible refine we_makeS ?_
  | with_reducible refine we_makeR ?_
  | with_reducible refine we_smethS ?_
  | with_reducible refine iteNT ?_
  | with_reducible refine iteNF ?_
  | ((with_reducible show if true = true then _ else _); rw [if_pos rfl])
  | ((with_reducible show if false = true then _ else _); rw [if_neg Bool.false_ne_true])
  | ((with_reducible show List.length _ ≤ 1000000 ∧ _); refine ⟨?_, ?_⟩; (focus (simp; done)))
  | fail "no step")
local macro_rules | `(tactic| walk_at "w") => `(tactic| repeat (walk_at "w1"))
local macro_rules | `(tactic| walk_at "ws") => `(tactic| repeat ((fail_if_success (with_reducible show We _ _ (tChain _ _ _ _ _) _ _ _)); (fail_if_success (with_reducible show Wt _ _ (tAnd _ _) _ _ _)); (fail_if_success (with_reducible show We _ _ (tOrT _ _ _) _ _ _)); walk_at "w1"))

theorem len_tl (x : Str) : x.length = (tl x).length := TL.len_tl x
theorem nl_is : Str.ofString "\n" = ⟨#[10]⟩ := TL.ext_tl ((TL.tl_ofString "\n").trans (by rfl))
theorem tl_nl : tl (Str.ofString "\n") = [10] := by rw [nl_is]
theorem em_is : Str.ofString "" = ⟨#[]⟩ := TL.ext_tl ((TL.tl_ofString "").trans (by rfl))
theorem tl_mk (l : List Nat) : tl (mk l) = l := rfl
theorem mk_len (l : List Nat) : (mk l).length = l.length := by rw [len_tl, tl_mk]
theorem cut_to (x : Str) (k : Nat) (h : k ≤ x.length) : cutS x none (some (k : Int)) = mk ((tl x).take k) := by
  apply TL.ext_tl
  show (((tl x).drop (HT.sIx x.length 0 none)).take (HT.sIx x.length x.length (some (k : Int)) - HT.sIx x.length 0 none)) = _
  rw [HT.sIx_nat, HT.sIx_none, Nat.min_eq_left h]; rfl
theorem cut_from (x : Str) (k : Nat) (h : k ≤ x.length) : cutS x (some (k : Int)) none = mk ((tl x).drop k) := by
  apply TL.ext_tl
  show (((tl x).drop (HT.sIx x.length 0 (some (k : Int)))).take (HT.sIx x.length x.length none - HT.sIx x.length 0 (some (k : Int)))) = _
  rw [HT.sIx_nat, HT.sIx_none, Nat.min_eq_left h]
  exact List.take_of_length_le (by rw [List.length_drop, len_tl]; omega)
theorem cut_mid (x : Str) (i j : Nat) (h : i ≤ x.length) (h' : j ≤ x.length) : cutS x (some (i : Int)) (some (j : Int)) = mk (((tl x).drop i).take (j - i)) := by
  apply TL.ext_tl
  show (((tl x).drop (HT.sIx x.length 0 (some (i : Int)))).take (HT.sIx x.length x.length (some (j : Int)) - HT.sIx x.length 0 (some (i : Int)))) = _
  rw [HT.sIx_nat, HT.sIx_nat, Nat.min_eq_left h, Nat.min_eq_left h']
theorem cnt_count (c : Nat) (l : List Nat) : PyProof.Rows.cnt c l = (l.count c : Nat) := by
  induction l with
  | nil => rfl
  | cons a l ih =>
    rw [PyProof.Rows.cnt_cons, ih, List.count_cons]
    by_cases h : a = c <;> simp [h] <;> omega
theorem count_nl (x : Str) : Txt.count x (Str.ofString "\n") = (Mx.beh (0, 0) (tl x)).1 := by
  rw [nl_is, PyProof.Rows.count_cnt, cnt_count, Mx.beh_cnt]; simp
theorem pre_one (c : Nat) (l : List Nat) : TL.pre [c] l = true ↔ ∃ r, l = c :: r := by
  cases l with
  | nil => simp [TL.pre]
  | cons a l => simp [TL.pre]
theorem nlx : tl (⟨#[10]⟩ : Str) ≠ [] := by decide
theorem spl_lns (acc l : List Nat) : TL.spl [10] 0 acc l = (acc ++ (Mx.lns l).headD []) :: (Mx.lns l).tail := by
  induction l generalizing acc with
  | nil => rw [TL.spl_nil]; simp [Mx.lns]
  | cons c l ih =>
    by_cases h : c = 10
    · subst h
      rw [TL.spl_hit ((pre_one 10 _).mpr ⟨l, rfl⟩)]
      show acc :: TL.spl [10] 0 [] l = _
      rw [ih]
      have := Mx.lns_ne l
      cases e : Mx.lns l with
      | nil => exact absurd e this
      | cons a b => simp [Mx.lns, e]
    · have hp : TL.pre [10] (c :: l) = false := TL.pre_of_head [] l h
      rw [TL.spl_miss hp, ih]
      simp [Mx.lns, h]
theorem split_nl (x : Str) : Txt.split x (Str.ofString "\n") = (Mx.lns (tl x)).map mk := by
  apply TL.map_tl_inj
  rw [nl_is, TL.split_spl x ⟨#[10]⟩ nlx (TL.kind_ok (by simp)), show TL.tl (⟨#[10]⟩ : Str) = [10] from rfl, spl_lns, List.map_map]
  have := Mx.lns_ne (tl x)
  cases e : Mx.lns (TL.tl x) with
  | nil => exact absurd e this
  | cons a b =>
    have z : TL.tl ∘ mk = id := rfl
    rw [z]; simp
theorem lns_cnt : ∀ {l : List Nat}, (Mx.lns l).length ≤ l.length + 1
  | [] => by simp [Mx.lns]
  | c :: l => by
    have ih := @lns_cnt l
    have := Mx.lns_ne l
    by_cases hc : c = 10
    · simp [Mx.lns, hc]; omega
    · cases e : Mx.lns l with
      | nil => exact absurd e this
      | cons a b => rw [e] at ih; simp [Mx.lns, hc, e] at *; omega
theorem lns_len : ∀ {l : List Nat} {r : List Nat}, r ∈ Mx.lns l → r.length ≤ l.length
  | [], r, h => by simp [Mx.lns] at h; simp [h]
  | c :: l, r, h => by
    have ih := @lns_len l
    by_cases hc : c = 10
    · simp [Mx.lns, hc] at h
      rcases h with rfl | h
      · simp
      · have := ih h; simp; omega
    · simp [Mx.lns, hc] at h
      cases e : Mx.lns l with
      | nil => exact absurd e (Mx.lns_ne l)
      | cons a b =>
        rw [e] at h ih
        simp at h
        rcases h with rfl | h
        · have := ih (List.mem_cons_self ..); simp; omega
        · have := ih (List.mem_cons_of_mem _ h); simp; omega
theorem joinL_nil : ∀ zs : List (List Nat), TL.joinL [] zs = zs.flatten
  | [] => rfl
  | [p] => by simp [TL.joinL]
  | p :: q :: r => by
    show p ++ ([] ++ TL.joinL [] (q :: r)) = _
    rw [joinL_nil (q :: r)]; simp
theorem tl_join0 (zs : List Str) : tl (Txt.join (Str.ofString "") zs) = (zs.map tl).flatten := by
  rw [TL.join_eq]
  refine (TL.tl_join _ zs).trans ?_
  rw [em_is]
  exact joinL_nil _
theorem ord_sg {c : Nat} {P : D → Prop} (h : P (.int (c : Nat))) : Cb K rOrd' [.str ⟨#[c]⟩] P := fun u vs Q ex rs k => by
  obtain ⟨v, rfl, r1⟩ := dens1 rs
  cases den_str r1
  exact ⟨_, rfl, rfl, k _ _ u (.refl ex) (.int _) h⟩
theorem lns_count (l : List Nat) : (Mx.lns l).length = l.count 10 + 1 := by
  induction l with
  | nil => rfl
  | cons c r ih =>
    by_cases hc : c = 10
    · simp [Mx.lns, hc, ih]
    · have := Mx.lns_ne r
      cases e : Mx.lns r with
      | nil => exact absurd e this
      | cons a b =>
        rw [e] at ih
        simp [Mx.lns, hc, e, List.count_cons] at ih ⊢
        omega
theorem lns_nl : ∀ l : List Nat, Mx.lns (l ++ [10]) = Mx.lns l ++ [[]]
  | [] => by simp [Mx.lns]
  | c :: l => by
    have ih := lns_nl l
    have hn := Mx.lns_ne l
    by_cases h : c = 10
    · simp [Mx.lns, h, ih]
    · cases e : Mx.lns l with
      | nil => exact absurd e hn
      | cons a b => simp [Mx.lns, h, ih, e]
/-! fingerprints of texts -/
theorem lns_no : ∀ {l r : List Nat}, r ∈ Mx.lns l → 10 ∉ r
  | [], r, h => by simp [Mx.lns] at h; simp [h]
  | c :: l, r, h => by
    have ih := @lns_no l
    by_cases hc : c = 10
    · simp [Mx.lns, hc] at h
      rcases h with rfl | h
      · simp
      · exact ih h
    · cases e : Mx.lns l with
      | nil => exact absurd e (Mx.lns_ne l)
      | cons a b =>
        simp [Mx.lns, hc, e] at h
        rw [e] at ih
        rcases h with rfl | h
        · have := ih (List.mem_cons_self ..)
          simp only [List.mem_cons, not_or]
          exact ⟨fun z => hc z.symm, this⟩
        · exact ih (List.mem_cons_of_mem _ h)
theorem lns_sg : ∀ {l r : List Nat} {c : Nat}, r ∈ Mx.lns l → c ∈ r → c ∈ l
  | [], r, c, h, hc => by simp [Mx.lns] at h; subst h; cases hc
  | d :: l, r, c, h, hc => by
    have ih := @lns_sg l
    by_cases hd : d = 10
    · simp [Mx.lns, hd] at h
      rcases h with rfl | h
      · cases hc
      · exact List.mem_cons_of_mem _ (ih h hc)
    · cases e : Mx.lns l with
      | nil => exact absurd e (Mx.lns_ne l)
      | cons a b =>
        simp [Mx.lns, hd, e] at h
        rw [e] at ih
        rcases h with rfl | h
        · rcases List.mem_cons.mp hc with z | z
          · rw [z]; exact List.mem_cons_self ..
          · exact List.mem_cons_of_mem _ (ih (List.mem_cons_self ..) z)
        · exact List.mem_cons_of_mem _ (ih (List.mem_cons_of_mem _ h) hc)
/-- lines put together -/
def jn : List (List Nat) → List Nat
  | [] => []
  | [r] => r
  | r :: q :: rs => r ++ 10 :: jn (q :: rs)
theorem jn_joinL : ∀ zs : List (List Nat), TL.joinL [10] zs = jn zs
  | [] => rfl
  | [p] => by simp [TL.joinL, jn]
  | p :: q :: r => by
    show p ++ ([10] ++ TL.joinL [10] (q :: r)) = _
    rw [jn_joinL (q :: r)]; rfl
theorem lns_pre : ∀ (r l : List Nat), 10 ∉ r → Mx.lns (r ++ l) = (r ++ (Mx.lns l).headD []) :: (Mx.lns l).tail
  | [], l, _ => by
    cases e : Mx.lns l with
    | nil => exact absurd e (Mx.lns_ne l)
    | cons a b => simp [e]
  | c :: r, l, h => by
    have hc : c ≠ 10 := fun z => h (z ▸ List.mem_cons_self ..)
    have ih := lns_pre r l fun z => h (List.mem_cons_of_mem _ z)
    simp [Mx.lns, hc, ih]
theorem lns_jn : ∀ {zs : List (List Nat)}, zs ≠ [] → (∀ r ∈ zs, 10 ∉ r) → Mx.lns (jn zs) = zs
  | [], h, _ => absurd rfl h
  | [r], _, h => by
    have := lns_pre r [] (h r (List.mem_cons_self ..))
    simpa [jn, Mx.lns] using this
  | r :: q :: rs, _, h => by
    have ih := @lns_jn (q :: rs) (by simp) fun x hx => h x (List.mem_cons_of_mem _ hx)
    show Mx.lns (r ++ 10 :: jn (q :: rs)) = _
    rw [lns_pre r _ (h r (List.mem_cons_self ..))]
    simp [Mx.lns, ih]
theorem jn_lns : ∀ l : List Nat, jn (Mx.lns l) = l
  | [] => rfl
  | c :: l => by
    have ih := jn_lns l
    cases e : Mx.lns l with
    | nil => exact absurd e (Mx.lns_ne l)
    | cons a b =>
      rw [e] at ih
      by_cases hc : c = 10
      · simp [Mx.lns, hc, e, jn, ih]
      · simp only [Mx.lns, hc, e, if_false, List.headD_cons, List.tail_cons]
        cases b with
        | nil => simp only [jn] at ih ⊢; rw [ih]
        | cons b bs => simp only [jn, List.cons_append] at ih ⊢; rw [ih]
/-- how long they are together -/
theorem jn_len : ∀ {zs : List (List Nat)}, zs ≠ [] → (jn zs).length + 1 = (zs.map fun r => r.length + 1).sum
  | [], h => absurd rfl h
  | [r], _ => by simp [jn]
  | r :: q :: rs, _ => by
    have ih := @jn_len (q :: rs) (by simp)
    simp only [jn, List.length_append, List.length_cons, List.map_cons, List.sum_cons] at ih ⊢
    omega
theorem jn_snoc : ∀ {zs : List (List Nat)}, zs ≠ [] → jn zs ++ [10] = jn (zs ++ [[]])
  | [], h => absurd rfl h
  | [r], _ => by simp [jn]
  | r :: q :: rs, _ => by
    have ih := @jn_snoc (q :: rs) (by simp)
    simp only [jn, List.cons_append, List.append_assoc] at ih ⊢
    rw [ih]
theorem count_jn {zs : List (List Nat)} (h : zs ≠ []) (h10 : ∀ r ∈ zs, 10 ∉ r) : (jn zs).count 10 + 1 = zs.length := by
  rw [← lns_count, lns_jn h h10]
theorem ckS_app : ∀ (k : Nat) (a b : List Nat), ckS k (a ++ b) = ckS k a + ckS (k + a.length) b
  | k, [], b => by simp [ckS]
  | k, c :: a, b => by
    have ih := ckS_app (k + 1) a b
    simp only [List.cons_append, ckS, ih, List.length_cons]
    rw [show k + 1 + a.length = k + (a.length + 1) by omega]
    omega
theorem small_mod {i j : Int} (h : i % 99999989 = j % 99999989) (d : (i - j).natAbs < 99999989) : i = j := by omega
/-- a sign that is changed is seen -/
theorem fp_put {a b : List Nat} {c d : Nat} (hl : a.length ≤ 200) (hc : c < 300) (hd : d < 300) (h : fp (a ++ c :: b) = fp (a ++ d :: b)) : c = d := by
  have h2 := (Prod.mk.inj h).2
  unfold ck at h2
  rw [ckS_app, ckS_app] at h2
  simp only [ckS, Nat.zero_add] at h2
  have e := small_mod h2 (by
    have : (ckS 0 a + (((a.length : Int) + 1) * (c : Int) + ckS (a.length + 1) b)) - (ckS 0 a + (((a.length : Int) + 1) * (d : Int) + ckS (a.length + 1) b)) = ((a.length : Int) + 1) * ((c : Int) - (d : Int)) := by rw [Int.mul_sub]; omega
    rw [this, Int.natAbs_mul]
    exact Nat.lt_of_le_of_lt (Nat.mul_le_mul (show ((a.length : Int) + 1).natAbs ≤ 201 by omega) (show ((c : Int) - (d : Int)).natAbs ≤ 300 by omega)) (by decide))
  have e2 : ((a.length : Int) + 1) * (c : Int) = ((a.length : Int) + 1) * (d : Int) := by omega
  have := Int.eq_of_mul_eq_mul_left (by omega) e2
  omega
/-- two signs that are exchanged are seen -/
theorem fp_swap {a m b : List Nat} {u v : Nat} (hl : a.length + m.length ≤ 200) (hu : u < 300) (hv : v < 300) (h : fp (a ++ u :: (m ++ v :: b)) = fp (a ++ v :: (m ++ u :: b))) : u = v := by
  have h2 := (Prod.mk.inj h).2
  unfold ck at h2
  simp only [ckS_app, ckS, Nat.zero_add] at h2
  have key : (ckS 0 a + (((a.length : Int) + 1) * (u : Int) + (ckS (a.length + 1) m + ((((a.length + 1 + m.length : Nat) : Int) + 1) * (v : Int) + ckS (a.length + 1 + m.length + 1) b)))) - (ckS 0 a + (((a.length : Int) + 1) * (v : Int) + (ckS (a.length + 1) m + ((((a.length + 1 + m.length : Nat) : Int) + 1) * (u : Int) + ckS (a.length + 1 + m.length + 1) b)))) = ((m.length : Int) + 1) * ((v : Int) - (u : Int)) := by
    have eX : ((a.length + 1 + m.length : Nat) : Int) + 1 = ((a.length : Int) + 1) + ((m.length : Int) + 1) := by omega
    simp only [eX]
    rw [Int.add_mul ((a.length : Int) + 1) ((m.length : Int) + 1) (v : Int), Int.add_mul ((a.length : Int) + 1) ((m.length : Int) + 1) (u : Int), Int.mul_sub]
    omega
  have e := small_mod h2 (by
    rw [key, Int.natAbs_mul]
    exact Nat.lt_of_le_of_lt (Nat.mul_le_mul (show ((m.length : Int) + 1).natAbs ≤ 201 by omega) (show ((v : Int) - (u : Int)).natAbs ≤ 300 by omega)) (by decide))
  have e2 : ((m.length : Int) + 1) * ((v : Int) - (u : Int)) = ((m.length : Int) + 1) * 0 := by rw [Int.mul_zero, ← key, e, Int.sub_self]
  have := Int.eq_of_mul_eq_mul_left (by omega) e2
  omega
/-- an empty line that is taken away and put at the end -/
theorem all_empty : ∀ (d : List (List Nat)) (r : List Nat), (r :: d).map fp = (d ++ [[]]).map fp → r = [] ∧ ∀ x ∈ d, x = []
  | [], r, h => by
    simp [fp] at h
    exact ⟨h.1, fun x hx => by cases hx⟩
  | e :: d, r, h => by
    simp only [List.map_cons, List.cons_append, List.cons.injEq] at h
    obtain ⟨i1, i2⟩ := all_empty d e (by simp only [List.map_cons]; exact h.2)
    subst i1
    have := (Prod.mk.inj h.1).1
    refine ⟨List.eq_nil_of_length_eq_zero this, fun x hx => ?_⟩
    rcases List.mem_cons.mp hx with z | z
    · exact z
    · exact i2 x z
theorem empties : ∀ (d : List (List Nat)), (∀ x ∈ d, x = []) → [] :: d = d ++ [[]]
  | [], _ => rfl
  | e :: d, h => by
    have := empties d fun x hx => h x (List.mem_cons_of_mem _ hx)
    rw [h e (List.mem_cons_self ..)]
    simp only [List.cons_append, ← this]
theorem rows_jn {zs : List (List Nat)} (h : zs ≠ []) (h10 : ∀ r ∈ zs, 10 ∉ r) : rows (jn zs) = zs.map fp := by rw [rows, lns_jn h h10]
theorem fdf_same : ∀ l : List (Nat × Int), fdf l l = none
  | [] => rfl
  | a :: l => by simp [fdf, fdf_same l]
theorem fdf_symm : ∀ l m : List (Nat × Int), fdf l m = fdf m l
  | [], [] => rfl
  | [], b :: m => rfl
  | a :: l, [] => rfl
  | a :: l, b :: m => by
    have := fdf_symm l m
    by_cases h : a = b
    · simp [fdf, h, this]
    · have h' : ¬ b = a := fun z => h z.symm
      simp [fdf, h, h']
theorem fdf_none : ∀ {l m : List (Nat × Int)}, fdf l m = none ↔ l = m
  | [], [] => by simp [fdf]
  | [], b :: m => by simp [fdf]
  | a :: l, [] => by simp [fdf]
  | a :: l, b :: m => by
    have := @fdf_none l m
    by_cases h : a = b
    · simp [fdf, h, this]
    · simp [fdf, h]
/-- the first place where they are not alike, among those ahead of which all are -/
theorem fdf_at : ∀ {l m : List (Nat × Int)} {i : Nat}, l.take i = m.take i → i ≤ l.length → i ≤ m.length → fdf l m = (fdf (l.drop i) (m.drop i)).map (· + i)
  | l, m, 0, _, _, _ => by cases h : fdf l m <;> simp [h]
  | a :: l, b :: m, i + 1, h, h1, h2 => by
    simp only [List.take_succ_cons, List.cons.injEq] at h
    have := @fdf_at l m i h.2 (by simpa using h1) (by simpa using h2)
    simp only [fdf, h.1, if_true, this, List.drop_succ_cons, Option.map_map]
    congr 1
end
end Lw

namespace Lw
open PySem L2 StX DL MP
section
variable {K : PySem.W.Frag} [Tb K] {Z : ZX} {A : Ad}
/-- one step -/
local macro_rules | `(tactic| walk_at "w1") => `(tactic| first
  | with_reducible refine ws_seq ?_
  | ((with_reducible show Ws _ _ (tAsg (tLst tNil) (gName _)) _ _ _); refine ws_setX (wx_lst (wa_nil ⟨Nat.zero_le _, ?_⟩)))
  | ((with_reducible show Ws _ _ (tAsg tDNewK (gName _)) _ _ _); refine ws_setX (wx_dnew ?_))
  | with_reducible refine ws_parX ?_
  | with_reducible refine ws_par3X ?_
  | ((with_reducible show Wx _ _ (tLst tNil) _ _ _); refine wx_lst (wa_nil ⟨Nat.zero_le _, ?_⟩))
  | ((with_reducible show Wx _ _ tDNewK _ _ _); refine wx_dnew ?_)
  | ((with_reducible show We _ _ tDNewK _ _ _); refine we_dnew ?_)
  | with_reducible refine wx_we ?_
  | with_reducible refine ws_break ?_
  | with_reducible refine ws_cont ?_
  | with_reducible refine ws_retN ?_
  | with_reducible refine ws_if ?_
  | with_reducible refine ws_ret ?_
  | ((fail_if_success (with_reducible show Ws _ _ (tDrop (tBM _ _ _ _ _)) _ _ _)); (with_reducible refine ws_drop ?_))
  | with_reducible refine ws_next ?_
  | with_reducible refine ws_par ?_
  | ((fail_if_success (with_reducible show Ws _ _ (tAsg _ (gSub _ _ _)) _ _ _)); (with_reducible refine ws_asg ?_))
  | with_reducible refine wg_name ?_
  | with_reducible refine we_int ?_
  | with_reducible refine we_bl ?_
  | with_reducible refine we_non ?_
  | with_reducible refine we_str ?_
  | with_reducible refine we_ty ?_
  | with_reducible refine we_cls ?_
  | with_reducible refine we_cmethX ?_
  | with_reducible refine we_cmeth ?_
  | with_reducible refine we_cmethN ?_
  | ((with_reducible show ∃ _, D.str _ = D.str _ ∧ _ ∧ _); refine ⟨_, rfl, ?_, ?_⟩; (focus (first | assumption | omega)))
  | ((with_reducible show We _ _ (tVar _) _ _ _); refine we_var rfl rfl ?_)
  | ((with_reducible show We _ _ (tVar _) _ _ _); refine we_var rfl (mut_td _) ?_)
  | ((with_reducible show We _ _ (tVar _) _ _ _); refine we_var rfl (mut_tg _) ?_)
  | ((with_reducible show We _ _ (tVar _) _ _ _); refine we_var rfl (mut_w _) ?_)
  | ((with_reducible show We _ _ (tVar _) _ _ _); refine we_var rfl (mut_lm _) ?_)
  | ((with_reducible show We _ _ (tVar _) _ _ _); refine we_var rfl (mut_b _) ?_)
  | ((fail_if_success (with_reducible show We _ _ (tOp (rInP _) _ (tVar _)) _ _ _)); with_reducible refine we_op ?_)
  | with_reducible refine we_un ?_
  | with_reducible refine we_lenO ?_
  | with_reducible refine we_cb ?_
  | with_reducible refine we_callX ?_
  | with_reducible refine we_call ?_
  | with_reducible refine we_callNX ?_
  | with_reducible refine we_callN ?_
  | with_reducible refine we_methN ?_
  | with_reducible refine we_callON ?_
  | with_reducible refine we_callOX ?_
  | with_reducible refine ws_raise ?_
  | with_reducible refine we_exf ?_
  | with_reducible refine we_tup ?_
  | with_reducible refine we_lst ?_
  | with_reducible refine we_sl ?_
  | with_reducible refine we_m1 ?_
  | with_reducible refine we_andV ?_
  | with_reducible refine we_orV ?_
  | with_reducible refine we_notV ?_
  | with_reducible refine we_if ?_
  | with_reducible refine we_chain ?_
  | with_reducible refine we_fld ?_
  | with_reducible refine we_methX ?_
  | with_reducible refine we_meth ?_
  | with_reducible refine we_prop ?_
  | with_reducible refine we_callO' ?_
  | with_reducible refine we_make ?_
  | with_reducible refine wt_test ?_
  | with_reducible refine wt_B ?_
  | with_reducible refine wt_yes ?_
  | with_reducible refine wt_and ?_
  | with_reducible refine wt_or ?_
  | with_reducible refine wt_not ?_
  | with_reducible refine wa_nil ?_
  | with_reducible refine wa_cons ?_
  | with_reducible refine wo_none ?_
  | with_reducible refine wo_some ?_
  | with_reducible refine add_int ?_
  | with_reducible refine sub_int ?_
  | with_reducible refine neg_int ?_
  | ((with_reducible refine mod_int ?_ ?_); (focus (first | assumption | omega)))
  | ((with_reducible refine mul_int ?_ ?_); (focus (first | exact Or.inl ⟨by omega, by omega⟩ | exact Or.inr ⟨by omega, by omega⟩)))
  | ((with_reducible refine fdiv_int ?_ ?_); (focus (exact ⟨by omega, by omega⟩)))
  | ((with_reducible refine pow_int ?_ ?_); (focus (exact ⟨by decide, by decide, by decide⟩)))
  | with_reducible refine is_non ?_
  | with_reducible refine not_non ?_
  | with_reducible refine eq_int ?_
  | with_reducible refine ne_int ?_
  | with_reducible refine eq_pos ?_
  | with_reducible refine ne_pos ?_
  | with_reducible refine ne_nn ?_
  | with_reducible refine ne_np ?_
  | with_reducible refine ne_pn ?_
  | with_reducible refine eq_str ?_
  | with_reducible refine ne_str ?_
  | with_reducible refine eq_bl ?_
  | with_reducible refine ne_bl ?_
  | with_reducible refine lt_int ?_
  | with_reducible refine gt_int ?_
  | with_reducible refine le_int ?_
  | with_reducible refine ge_int ?_
  | with_reducible refine lt_pos ?_
  | with_reducible refine gt_pos ?_
  | with_reducible refine le_pos ?_
  | with_reducible refine ge_pos ?_
  | with_reducible refine int_int ?_
  | with_reducible refine min_int ?_
  | with_reducible refine max_int ?_
  | with_reducible refine len_lst ?_
  | with_reducible refine len_tup ?_
  | ((with_reducible refine len_str ?_ ?_); (focus (first | assumption | omega)))
  | with_reducible refine tuple_lst ?_
  | with_reducible refine tuple_tup ?_
  | with_reducible refine sl_lst ?_
  | with_reducible refine sl_tup ?_
  | ((with_reducible refine sl_str ?_ ?_); (focus (first | assumption | omega)))
  | with_reducible refine mt_countD ?_
  | with_reducible refine mt_rfindD ?_
  | ((with_reducible refine mt_splitD ?_ ?_ ?_); (focus rfl); (focus (first | assumption | omega)))
  | ((with_reducible show Op _ (rIx _) (D.tup _) (D.int _) _); refine ix_tup (by decide) rfl ?_)
  | ((with_reducible show Op _ (rIx _) (D.lst _) (D.int _) _); refine ix_lst (by decide) rfl ?_)
  | ((with_reducible show Cb _ (rIsi _) [D.int _, D.ty _] _); first | refine isiI (r := true) (by decide +kernel) ?_ | refine isiI (r := false) (by decide +kernel) ?_)
  | ((with_reducible show Cb _ (rIsi _) [D.str _, D.ty _] _); first | refine isiS (r := true) (by decide +kernel) ?_ | refine isiS (r := false) (by decide +kernel) ?_)
  | ((with_reducible show Cb _ (rIsi _) [D.tup _, D.ty _] _); first | refine isiT (r := true) (by decide +kernel) ?_ | refine isiT (r := false) (by decide +kernel) ?_)
  | ((with_reducible show Wg _ _ (gTup _ _ _) _ _ _); refine wg_tup rfl rfl ?_)
  | ((with_reducible show Wgs _ _ gNil _ _ _); refine wgs_nil rfl ?_)
  | ((with_reducible show Wgs _ _ (gCons _ _) _ _ _); refine wgs_cons rfl ?_)
  | ((with_reducible show ∃ _, D.bl _ = D.bl _ ∧ _); refine ⟨_, rfl, ?_⟩)
  | ((with_reducible show ∃ _, D.int _ = D.int _ ∧ _); refine ⟨_, rfl, ?_⟩)
  | ((with_reducible show ∃ _, D.str _ = D.str _ ∧ _); refine ⟨_, rfl, ?_⟩)
  | ((with_reducible show ∃ _, D.tup _ = D.tup _ ∧ _); refine ⟨_, rfl, ?_⟩)
  | ((with_reducible show ∃ _, D.lst _ = D.lst _ ∧ _); refine ⟨_, rfl, ?_⟩)
  | with_reducible refine wt_tru ?_
  | with_reducible refine list_lst ?_
  | with_reducible refine list_tup ?_
  | with_reducible refine we_makeS ?_
  | with_reducible refine we_makeR ?_
  | with_reducible refine we_smethS ?_
  | with_reducible refine iteNT ?_
  | with_reducible refine iteNF ?_
  | ((with_reducible show if true = true then _ else _); rw [if_pos rfl])
  | ((with_reducible show if false = true then _ else _); rw [if_neg Bool.false_ne_true])
  | ((with_reducible show List.length _ ≤ 1000000 ∧ _); refine ⟨?_, ?_⟩; (focus (simp; done)))
  | fail "no step")
local macro_rules | `(tactic| walk_at "w") => `(tactic| repeat (walk_at "w1"))
local macro_rules | `(tactic| walk_at "ws") => `(tactic| repeat ((fail_if_success (with_reducible show We _ _ (tChain _ _ _ _ _) _ _ _)); (fail_if_success (with_reducible show Wt _ _ (tAnd _ _) _ _ _)); (fail_if_success (with_reducible show We _ _ (tOrT _ _ _) _ _ _)); walk_at "w1"))

def pP (p : Nat × Int) : PyData := .tuple [.int (p.1 : Nat), .int p.2]
theorem pd_p (p : Nat × Int) : pd (pD p) = some (pP p) := rfl
theorem eqv_p (p q : Nat × Int) : PyData.eqv (pP p) (pP q) = decide (p = q) := by
  obtain ⟨a, b⟩ := p
  obtain ⟨c, d⟩ := q
  rw [Bool.eq_iff_iff, decide_eq_true_eq]
  simp [pP, PyData.eqv, PyData.eqvAll]
  exact fun _ => Int.ofNat_inj
theorem eqv_ps (xs ys : List (Nat × Int)) : PyData.eqvAll (xs.map pP) (ys.map pP) = decide (xs = ys) := by
  rw [Bool.eq_iff_iff, eqvm, decide_eq_true_eq]
  constructor
  · rintro ⟨z1, z2⟩
    refine List.ext_getElem z1 fun i h1 h2 => ?_
    have := z2 i _ _ (List.getElem?_eq_getElem h1) (List.getElem?_eq_getElem h2)
    rw [eqv_p] at this
    exact of_decide_eq_true this
  · rintro rfl
    exact ⟨rfl, fun i x y hx hy => by rw [hx] at hy; cases hy; rw [eqv_p]; exact decide_eq_true rfl⟩
theorem pds_p (xs : List (Nat × Int)) : pds (xs.map pD) = some (xs.map pP) := pdsm pD pP pd_p xs
theorem plain_p (xs : List (Nat × Int)) : PyData.plainAll (xs.map pP) = true := plainm pP (fun _ => rfl) xs
theorem depth_p (xs : List (Nat × Int)) : PyData.depthAll (xs.map pP) ≤ 10 := depthm pP 10 (fun _ => by simp [pP, PyData.depth, PyData.depthAll]) xs
theorem eq_ptup {P : D → Prop} {xs ys : List (Nat × Int)} (h : P (.bl (decide (xs = ys)))) : Op K (rEqP K) (.tup (xs.map pD)) (.tup (ys.map pD)) P :=
  eqP (d := .tuple (xs.map pP)) (e := .tuple (ys.map pP)) (by rw [pd, pds_p]; rfl) (by rw [pd, pds_p]; rfl) (by rw [PyData.plain]; exact plain_p xs) (by rw [PyData.plain]; exact plain_p ys) (by rw [PyData.depth]; have := depth_p xs; omega) (by rw [show PyData.eqv (.tuple (xs.map pP)) (.tuple (ys.map pP)) = PyData.eqvAll (xs.map pP) (ys.map pP) by simp [PyData.eqv], eqv_ps]; exact h)
theorem ne_plst {P : D → Prop} {xs ys : List (Nat × Int)} (h : P (.bl (!decide (xs = ys)))) : Op K (rNeP K) (.lst (xs.map pD)) (.lst (ys.map pD)) P :=
  neP (d := .list (xs.map pP)) (e := .list (ys.map pP)) (by rw [pd, pds_p]; rfl) (by rw [pd, pds_p]; rfl) (by rw [PyData.plain]; exact plain_p xs) (by rw [PyData.plain]; exact plain_p ys) (by rw [PyData.depth]; have := depth_p xs; omega) (by rw [show PyData.eqv (.list (xs.map pP)) (.list (ys.map pP)) = PyData.eqvAll (xs.map pP) (ys.map pP) by simp [PyData.eqv], eqv_ps]; exact h)
theorem ne_p {P : D → Prop} {p q : Nat × Int} (h : P (.bl (!decide (p = q)))) : Op K (rNeP K) (pD p) (pD q) P :=
  neP (pd_p p) (pd_p q) rfl rfl (by simp [pP, PyData.depth, PyData.depthAll]) (by rw [eqv_p]; exact h)
theorem cks_sum : ∀ (k : Nat) (l : List Nat), ((l.zipIdx k).map fun p : Nat × Nat => ((p.2 : Int) + 1) * (p.1 : Int)).sum = ckS k l
  | _, [] => rfl
  | k, c :: l => by
    have ih := cks_sum (k + 1) l
    simp only [List.zipIdx_cons, List.map_cons, List.sum_cons, ckS, ih]
theorem enum_sg (l : List Nat) : enumD (signs (mk l)) = l.zipIdx.map fun p : Nat × Nat => D.tup [.int (p.2 : Nat), .str ⟨#[p.1]⟩] := enumD_map (fun c => D.str ⟨#[c]⟩) l
theorem rows_len {l : List Nat} (h : l.length ≤ 100000) : (rows l).length ≤ 100001 := by
  have := @lns_cnt l
  rw [rows, List.length_map]
  omega
theorem rows_map (l : List Nat) (f : Nat × Int → D) : (rows l).map f = (Mx.lns l).map fun r => f (fp r) := by
  rw [rows, List.map_map]; rfl
local macro_rules | `(tactic| walk_at "w1") => `(tactic| first
  | with_reducible refine ord_sg ?_
  | with_reducible refine ne_p ?_
  | with_reducible refine eq_ptup ?_)
theorem len_is_integer : ∀ ds n P X, R_is_integer A ds n P X → ds.length = 1 := by rintro ds n P X ⟨_, rfl, -⟩; rfl
theorem w_is_integer (T : TxtC K A) : ∀ Z ds n P, R_is_integer A ds n P Z.X → Ws K Z (t_is_integer K A) (startD 1 ds) n { nx := fun _ m => P .non m, rt := P } := by
  rintro Z ds n P ⟨i, rfl, h⟩
  unfold t_is_integer
  walk_at "w"
  exact h
theorem len_is_count : ∀ ds n P X, R_is_count A ds n P X → ds.length = 1 := by rintro ds n P X ⟨_, rfl, -⟩; rfl
theorem w_is_count (T : TxtC K A) : ∀ Z ds n P, R_is_count A ds n P Z.X → Ws K Z (t_is_count K A) (startD 1 ds) n { nx := fun _ m => P .non m, rt := P } := by
  rintro Z ds n P ⟨i, rfl, h⟩
  unfold t_is_count
  walk_at "w"
  exact ⟨i, rfl, by walk_at "w"; exact h⟩
theorem len_is_up_to : ∀ ds n P X, R_is_up_to A ds n P X → ds.length = 2 := by rintro ds n P X ⟨_, _, rfl, -⟩; rfl
theorem w_is_up_to (T : TxtC K A) : ∀ Z ds n P, R_is_up_to A ds n P Z.X → Ws K Z (t_is_up_to K A) (startD 2 ds) n { nx := fun _ m => P .non m, rt := P } := by
  rintro Z ds n P ⟨i, l, rfl, h⟩
  unfold t_is_up_to
  walk_at "w"
  refine ⟨_, rfl, ?_⟩
  walk_at "w"
  refine iteD (fun z => ?_) (fun z => ?_)
  · walk_at "w"
    rw [show isNonD (D.int l) = false from rfl]
    walk_at "w"
    rw [decide_eq_true z, Bool.true_and] at h
    exact h
  · walk_at "w"
    rw [decide_eq_false z, Bool.false_and] at h
    exact h
theorem len_check_text : ∀ ds n P X, R_check_text A ds n P X → ds.length = 1 := by rintro ds n P X ⟨_, rfl, -⟩; rfl
theorem w_check_text (T : TxtC K A) : ∀ Z ds n P, R_check_text A ds n P Z.X → Ws K Z (t_check_text K A) (startD 1 ds) n { nx := fun _ m => P .non m, rt := P } := by
  rintro Z ds n P ⟨x, rfl, h⟩
  unfold t_check_text
  walk_at "w"
  exact h
theorem len_lines_of : ∀ ds n P X, R_lines_of A ds n P X → ds.length = 1 := by rintro ds n P X ⟨_, rfl, -⟩; rfl
theorem w_lines_of (T : TxtC K A) : ∀ Z ds n P, R_lines_of A ds n P Z.X → Ws K Z (t_lines_of K A) (startD 1 ds) n { nx := fun _ m => P .non m, rt := P } := by
  rintro Z ds n P ⟨l, rfl, hl, h⟩
  unfold t_lines_of
  walk_at "w"
  refine ⟨_, rfl, ?_⟩
  have hz : (mk l).length ≤ 1000000 := by rw [mk_len]; omega
  walk_at "w"
  rw [split_nl, List.map_map]
  walk_at "w"
  exact h
theorem len_checksum : ∀ ds n P X, R_checksum A ds n P X → ds.length = 1 := by rintro ds n P X ⟨_, rfl, -⟩; rfl
theorem w_checksum (T : TxtC K A) : ∀ Z ds n P, R_checksum A ds n P Z.X → Ws K Z (t_checksum K A) (startD 3 ds) n { nx := fun _ m => P .non m, rt := P } := by
  rintro Z ds n P ⟨l, rfl, h10, hl, h⟩
  unfold t_checksum
  walk_at "w"
  refine ⟨_, rfl, ?_⟩
  walk_at "w"
  rw [nl_is]
  refine in_sign ?_
  walk_at "w"
  rw [decide_eq_false (show ¬ (10 ∈ (mk l).cps.toList) from h10)]
  walk_at "w"
  refine we_lcm (fun p : Nat × Nat => D.tup [.int (p.2 : Nat), .str ⟨#[p.1]⟩]) (fun p => D.int (((p.2 : Int) + 1) * (p.1 : Int))) l.zipIdx (wi_enumS ?_)
  walk_at "w"
  refine ⟨_, rfl, enum_sg l, by rw [List.length_zipIdx]; omega, fun p hp => ?_, ?_⟩
  · refine wgc_tup rfl rfl (wgsc_cons rfl (wgc_name (by simp) (wgsc_cons rfl (wgc_name (by simp) (wgsc_nil rfl ?_)))))
    have hi := List.snd_lt_of_mem_zipIdx hp
    walk_at "w"
    exact ⟨rfl, rfl⟩
  · rw [show (l.zipIdx.map fun p : Nat × Nat => D.int (((p.2 : Int) + 1) * (p.1 : Int))) = (l.zipIdx.map fun p : Nat × Nat => ((p.2 : Int) + 1) * (p.1 : Int)).map D.int by rw [List.map_map]; rfl]
    walk_at "w"
    refine sum_ints ?_
    rw [cks_sum]
    refine we_int (i := 99999989) ?_
    walk_at "w"
    exact h
theorem len_Fingerprint_init : ∀ ds n P X, R_Fingerprint_init A ds n P X → ds.length + 1 = 2 := by rintro ds n P X ⟨_, rfl, -⟩; rfl
theorem w_Fingerprint_init (T : TxtC K A) : ∀ Z x dx ds n P, R_Fingerprint_init A ds n P Z.X → Ws K Z (t_Fingerprint_init K A) (some (.mob x dx A.c_Fingerprint []) :: startD (3 - 1) ds) n { nx := fun ds' m => m = n ∧ ∃ gs, ds'[0]? = some (some (.mob x dx A.c_Fingerprint gs)) ∧ P gs, rt := fun _ _ => False } := by
  rintro Z x dx ds n P ⟨l, rfl, hl, h⟩
  unfold t_Fingerprint_init
  refine ws_fld rfl T.cl_Fingerprint T.na_Fingerprint__numbers (by decide) ?_
  walk_at "w"
  refine we_lcm (fun r : List Nat => D.str (mk r)) (fun r => pD (fp r)) (Mx.lns l) (wi_tup ?_)
  walk_at "w"
  refine ⟨l, rfl, hl, _, rfl, rfl, ?_, fun r hr => ?_, ?_⟩
  · have := @lns_cnt l
    omega
  · refine wgc_name (by simp) ?_
    have h1 := lns_len hr
    have hz : (mk r).length ≤ 1000000 := by rw [mk_len]; omega
    walk_at "w"
    refine ⟨r, rfl, lns_no hr, by omega, ?_⟩
    walk_at "w"
    rw [mk_len]
    exact ⟨rfl, rfl⟩
  · walk_at "w"
    refine ⟨rfl, _, rfl, ?_⟩
    rw [← rows_map]
    exact h
theorem len_Fingerprint_lengths : ∀ ds n P X, R_Fingerprint_lengths A ds n P X → ds.length = 1 := by rintro ds n P X ⟨_, rfl, -⟩; rfl
theorem w_Fingerprint_lengths (T : TxtC K A) : ∀ Z ds n P, R_Fingerprint_lengths A ds n P Z.X → Ws K Z (t_Fingerprint_lengths K A) (startD 3 ds) n { nx := fun _ m => P .non m, rt := P } := by
  rintro Z ds n P ⟨l, rfl, hl, h⟩
  unfold t_Fingerprint_lengths
  walk_at "w"
  refine we_lcm pD (fun p => D.int (p.1 : Nat)) (rows l) (wi_tup ?_)
  walk_at "w"
  refine ⟨_, _, _, rfl, T.cl_Fingerprint, T.na_Fingerprint__numbers, rfl, _, rfl, rfl, Nat.le_trans (rows_len hl) (by decide), fun p hp => ?_, ?_⟩
  · refine wgc_tup rfl rfl (wgsc_cons rfl (wgc_name (by simp) (wgsc_cons rfl (wgc_name (by simp) (wgsc_nil rfl ?_)))))
    walk_at "w"
    exact ⟨rfl, rfl⟩
  · walk_at "w"
    exact h
theorem len_Fingerprint_checksums : ∀ ds n P X, R_Fingerprint_checksums A ds n P X → ds.length = 1 := by rintro ds n P X ⟨_, rfl, -⟩; rfl
theorem w_Fingerprint_checksums (T : TxtC K A) : ∀ Z ds n P, R_Fingerprint_checksums A ds n P Z.X → Ws K Z (t_Fingerprint_checksums K A) (startD 3 ds) n { nx := fun _ m => P .non m, rt := P } := by
  rintro Z ds n P ⟨l, rfl, hl, h⟩
  unfold t_Fingerprint_checksums
  walk_at "w"
  refine we_lcm pD (fun p => D.int p.2) (rows l) (wi_tup ?_)
  walk_at "w"
  refine ⟨_, _, _, rfl, T.cl_Fingerprint, T.na_Fingerprint__numbers, rfl, _, rfl, rfl, Nat.le_trans (rows_len hl) (by decide), fun p hp => ?_, ?_⟩
  · refine wgc_tup rfl rfl (wgsc_cons rfl (wgc_name (by simp) (wgsc_cons rfl (wgc_name (by simp) (wgsc_nil rfl ?_)))))
    walk_at "w"
    exact ⟨rfl, rfl⟩
  · walk_at "w"
    exact h
theorem len_Fingerprint_len : ∀ ds n P X, R_Fingerprint_len A ds n P X → ds.length = 1 := by rintro ds n P X ⟨_, rfl, -⟩; rfl
theorem w_Fingerprint_len (T : TxtC K A) : ∀ Z ds n P, R_Fingerprint_len A ds n P Z.X → Ws K Z (t_Fingerprint_len K A) (startD 1 ds) n { nx := fun _ m => P .non m, rt := P } := by
  rintro Z ds n P ⟨l, rfl, hl, h⟩
  unfold t_Fingerprint_len
  walk_at "w"
  refine ⟨_, _, _, rfl, T.cl_Fingerprint, T.na_Fingerprint__numbers, rfl, ?_⟩
  walk_at "w"
  rw [List.length_map]
  exact h
theorem len_Fingerprint_eq : ∀ ds n P X, R_Fingerprint_eq A ds n P X → ds.length = 2 := by rintro ds n P X (⟨_, _, rfl, -⟩ | ⟨_, _, rfl, -⟩ | ⟨_, _, rfl, -⟩) <;> rfl
theorem w_Fingerprint_eq (T : TxtC K A) : ∀ Z ds n P, R_Fingerprint_eq A ds n P Z.X → Ws K Z (t_Fingerprint_eq K A) (startD 2 ds) n { nx := fun _ m => P .non m, rt := P } := by
  rintro Z ds n P (⟨x, y, rfl, h⟩ | ⟨x, xs, rfl, h⟩ | ⟨x, s, rfl, h⟩)
  · unfold t_Fingerprint_eq
    walk_at "w"
    refine isiC (.inr ⟨_, _, rfl, rfl, T.ty_Fingerprint⟩) T.ks_Fingerprint ?_
    walk_at "w"
    refine ⟨_, _, _, rfl, T.cl_Fingerprint, T.na_Fingerprint__numbers, rfl, ?_⟩
    walk_at "w"
    refine ⟨_, _, _, rfl, T.cl_Fingerprint, T.na_Fingerprint__numbers, rfl, ?_⟩
    walk_at "w"
    exact h
  · unfold t_Fingerprint_eq
    walk_at "w"
    refine isiC (.inl ⟨"list", rfl, rfl⟩) T.kt_list_Fingerprint ?_
    walk_at "w"
    exact h
  · unfold t_Fingerprint_eq
    walk_at "w"
    refine isiC (.inl ⟨"str", rfl, rfl⟩) T.kt_str_Fingerprint ?_
    walk_at "w"
    exact h
theorem len_Fingerprint_getitem : ∀ ds n P X, R_Fingerprint_getitem A ds n P X → ds.length = 2 := by rintro ds n P X ⟨_, _, _, rfl, -⟩; rfl
theorem w_Fingerprint_getitem (T : TxtC K A) : ∀ Z ds n P, R_Fingerprint_getitem A ds n P Z.X → Ws K Z (t_Fingerprint_getitem K A) (startD 2 ds) n { nx := fun _ m => P .non m, rt := P } := by
  rintro Z ds n P ⟨l, k, p, rfl, hl, hp, h⟩
  unfold t_Fingerprint_getitem
  have hi := (List.getElem?_eq_some_iff.mp hp).1
  walk_at "w"
  refine ⟨_, _, _, rfl, T.cl_Fingerprint, T.na_Fingerprint__numbers, rfl, ?_⟩
  walk_at "w"
  rw [List.length_map]
  refine ⟨_, _, rfl, ?_⟩
  rw [decide_eq_true (show (0 : Int) ≤ (k : Nat) by omega), decide_eq_true (show ((k : Nat) : Int) ≤ ((rows l).length : Nat) - 1 by omega)]
  walk_at "w"
  rw [show (!(true && true)) = false from rfl]
  walk_at "w"
  refine ⟨_, _, _, rfl, T.cl_Fingerprint, T.na_Fingerprint__numbers, rfl, ?_⟩
  walk_at "w"
  refine ix_tup (d := pD p) (by omega) (by rw [Int.toNat_natCast, List.getElem?_map, hp]; rfl) ?_
  walk_at "w"
  exact h
/-- the law's number of a row -/
theorem len__law_number : ∀ ds n P X, R__law_number A ds n P X → ds.length = 1 := by rintro ds n P X ⟨_, rfl, -⟩; rfl
theorem w__law_number (T : TxtC K A) : ∀ Z ds n P, R__law_number A ds n P Z.X → Ws K Z (t__law_number K A) (startD 4 ds) n { nx := fun _ m => P .non m, rt := P } := by
  rintro Z ds n P ⟨l, rfl, hl, h⟩
  unfold t__law_number
  walk_at "w"
  refine ws_fort (fun p : Nat × Nat => D.tup [.int (p.2 : Nat), .str ⟨#[p.1]⟩]) l.zipIdx (wi_enumS ?_)
  walk_at "w"
  refine ⟨_, rfl, enum_sg l, fun i ds' m => m = n ∧ ∃ d2 d3, ds' = [some (.str (mk l)), some (.int (ckS 0 (l.take i) % 99999989)), d2, d3], ⟨rfl, _, _, rfl⟩, ?_, ?_⟩
  · rintro i ⟨c, j⟩ ds' m hx ⟨rfl, d2, d3, rfl⟩
    rw [List.getElem?_zipIdx] at hx
    obtain ⟨c', hc, e⟩ := Option.map_eq_some_iff.mp hx
    simp only [Nat.zero_add, Prod.mk.injEq] at e
    obtain ⟨rfl, rfl⟩ := e
    have hi := (List.getElem?_eq_some_iff.mp hc).1
    walk_at "w"
    have e : ckS 0 (l.take (i + 1)) % 99999989 = (ckS 0 (l.take i) % 99999989 + ((i : Int) + 1) * (c' : Int)) % 99999989 := by
      rw [List.take_add_one, hc, Option.toList_some, ckS_app, List.length_take, Nat.min_eq_left (by omega), Nat.zero_add]
      simp only [ckS, Int.add_zero]
      omega
    exact ⟨rfl, some (.int (i : Nat)), some (.str ⟨#[c']⟩), by rw [e]; rfl⟩
  · rintro ds' m ⟨rfl, d2, d3, rfl⟩
    walk_at "w"
    rw [List.length_zipIdx, List.take_length]
    exact h
theorem len__law_rows : ∀ ds n P X, R__law_rows A ds n P X → ds.length = 1 := by rintro ds n P X ⟨_, rfl, -⟩; rfl
theorem w__law_rows (T : TxtC K A) : ∀ Z ds n P, R__law_rows A ds n P Z.X → Ws K Z (t__law_rows K A) (startD 2 ds) n { nx := fun _ m => P .non m, rt := P } := by
  rintro Z ds n P ⟨l, rfl, hl, h⟩
  unfold t__law_rows
  walk_at "w1"
  refine we_lcm (fun r : List Nat => D.str (mk r)) (fun r => pD (fp r)) (Mx.lns l) (wi_list ?_)
  have hz : (mk l).length ≤ 1000000 := by rw [mk_len]; omega
  walk_at "w"
  rw [split_nl, List.map_map]
  refine ⟨rfl, ?_, fun r hr => ?_, ?_⟩
  · have := @lns_cnt l
    show (Mx.lns l).length ≤ _
    omega
  · refine wgc_name (by simp) ?_
    have h1 := lns_len hr
    have hz : (mk r).length ≤ 1000000 := by rw [mk_len]; show r.length ≤ _; have := h1; omega
    walk_at "w"
    refine ⟨r, rfl, by omega, ?_⟩
    walk_at "w"
    rw [mk_len]
    exact ⟨rfl, rfl⟩
  · rw [← rows_map]
    exact h
theorem enumz (xs ys : List (Nat × Int)) : enumD (zipD (xs.map pD) (ys.map pD)) = ((xs.zip ys).zipIdx).map fun p : ((Nat × Int) × (Nat × Int)) × Nat => D.tup [.int (p.2 : Nat), .tup [pD p.1.1, pD p.1.2]] := by
  rw [← enumD_map fun q : (Nat × Int) × (Nat × Int) => D.tup [pD q.1, pD q.2]]
  congr 1
  simp [zipD, List.zip_eq_zipWith, List.map_zipWith, List.zipWith_map]
theorem fdf_ne {l m : List (Nat × Int)} {i : Nat} {a b : Nat × Int} (h : l.take i = m.take i) (ha : l[i]? = some a) (hb : m[i]? = some b) (hn : a ≠ b) : fdf l m = some i := by
  have h1 := (List.getElem?_eq_some_iff.mp ha).1
  have h2 := (List.getElem?_eq_some_iff.mp hb).1
  rw [fdf_at h (by omega) (by omega), List.drop_eq_getElem_cons h1, List.drop_eq_getElem_cons h2]
  rw [List.getElem?_eq_getElem h1] at ha
  rw [List.getElem?_eq_getElem h2] at hb
  rw [Option.some.inj ha, Option.some.inj hb]
  simp [fdf, hn]
theorem fdf_end {l m : List (Nat × Int)} (h : l.take (min l.length m.length) = m.take (min l.length m.length)) : fdf l m = if l.length = m.length then none else some (min l.length m.length) := by
  rw [fdf_at h (by omega) (by omega)]
  by_cases e : l.length = m.length
  · rw [if_pos e, e, Nat.min_self, List.drop_eq_nil_of_le (by omega), List.drop_eq_nil_of_le (by omega)]; rfl
  · rw [if_neg e]
    rcases Nat.lt_or_gt_of_ne e with q | q
    · rw [Nat.min_eq_left (by omega), List.drop_eq_nil_of_le (by omega), List.drop_eq_getElem_cons q]; simp [fdf]
    · rw [Nat.min_eq_right (by omega), List.drop_eq_nil_of_le (as := m) (by omega), List.drop_eq_getElem_cons q]; simp [fdf]
theorem take_one {l m : List (Nat × Int)} {i : Nat} {a : Nat × Int} (h : l.take i = m.take i) (ha : l[i]? = some a) (hb : m[i]? = some a) : l.take (i + 1) = m.take (i + 1) := by
  rw [List.take_add_one, List.take_add_one, h, ha, hb]
theorem len_Fingerprint_first_stale : ∀ ds n P X, R_Fingerprint_first_stale A ds n P X → ds.length = 2 := by rintro ds n P X ⟨_, _, rfl, -⟩; rfl
theorem w_Fingerprint_first_stale (T : TxtC K A) : ∀ Z ds n P, R_Fingerprint_first_stale A ds n P Z.X → Ws K Z (t_Fingerprint_first_stale K A) (startD 6 ds) n { nx := fun _ m => P .non m, rt := P } := by
  rintro Z ds n P ⟨x, y, rfl, hx, hy, h⟩
  unfold t_Fingerprint_first_stale
  walk_at "w"
  refine ⟨y, rfl, hy, ?_⟩
  refine ⟨_, _, _, rfl, T.cl_Fingerprint, T.na_Fingerprint__numbers, rfl, ?_⟩
  walk_at "w"
  refine ws_fort (fun p : ((Nat × Int) × (Nat × Int)) × Nat => D.tup [.int (p.2 : Nat), .tup [pD p.1.1, pD p.1.2]]) ((rows x).zip (rows y)).zipIdx (wi_enumZ ?_)
  walk_at "w"
  refine ⟨_, _, _, rfl, T.cl_Fingerprint, T.na_Fingerprint__numbers, rfl, ?_⟩
  walk_at "w"
  refine ⟨_, _, rfl, enumz _ _, fun i ds' m => m = n ∧ (rows x).take i = (rows y).take i ∧ ∃ d3 d4 d5, ds' = [some (fpD A x), some (.str (mk y)), some (.tup ((rows y).map pD)), d3, d4, d5], ⟨rfl, rfl, _, _, _, rfl⟩, ?_, ?_⟩
  · rintro i ⟨⟨a, b⟩, j⟩ ds' m hxx ⟨rfl, ht, d3, d4, d5, rfl⟩
    rw [List.getElem?_zipIdx] at hxx
    obtain ⟨c', hc, e⟩ := Option.map_eq_some_iff.mp hxx
    simp only [Nat.zero_add, Prod.mk.injEq] at e
    obtain ⟨rfl, rfl⟩ := e
    rw [List.getElem?_zip_eq_some] at hc
    obtain ⟨ha, hb⟩ := hc
    walk_at "w"
    by_cases q : a = b
    · subst q
      rw [decide_eq_true rfl]
      walk_at "w"
      exact ⟨rfl, take_one ht ha hb, _, _, _, rfl⟩
    · rw [decide_eq_false q]
      walk_at "w"
      rw [fdf_ne ht ha hb q] at h
      exact h
  · rintro ds' m ⟨rfl, ht, d3, d4, d5, rfl⟩
    rw [List.length_zipIdx, List.length_zip] at ht
    rw [fdf_end ht] at h
    walk_at "w"
    refine ⟨_, _, _, rfl, T.cl_Fingerprint, T.na_Fingerprint__numbers, rfl, ?_⟩
    walk_at "w"
    rw [List.length_map, List.length_map]
    refine iteD (fun q => ?_) (fun q => ?_)
    · rw [if_pos (by omega)] at h
      walk_at "w"
      exact h
    · rw [if_neg (by omega)] at h
      walk_at "w"
      refine ⟨_, _, _, rfl, T.cl_Fingerprint, T.na_Fingerprint__numbers, rfl, ?_⟩
      walk_at "w"
      rw [List.length_map, List.length_map]
      have e : (if (((rows y).length : Nat) : Int) < ((rows x).length : Nat) then (((rows y).length : Nat) : Int) else ((rows x).length : Nat)) = ((min (rows x).length (rows y).length : Nat) : Int) := by
        split <;> omega
      rw [e]
      exact h
end
end Lw

namespace Lw
open PySem L2 StX DL MP
section
variable {K : PySem.W.Frag} [Tb K] {Z : ZX} {A : Ad}
/-- one step -/
local macro_rules | `(tactic| walk_at "w1") => `(tactic| first
  | with_reducible refine ws_seq ?_
  | ((with_reducible show Ws _ _ (tAsg (tLst tNil) (gName _)) _ _ _); refine ws_setX (wx_lst (wa_nil ⟨Nat.zero_le _, ?_⟩)))
  | ((with_reducible show Ws _ _ (tAsg tDNewK (gName _)) _ _ _); refine ws_setX (wx_dnew ?_))
  | with_reducible refine ws_parX ?_
  | with_reducible refine ws_par3X ?_
  | ((with_reducible show Wx _ _ (tLst tNil) _ _ _); refine wx_lst (wa_nil ⟨Nat.zero_le _, ?_⟩))
  | ((with_reducible show Wx _ _ tDNewK _ _ _); refine wx_dnew ?_)
  | ((with_reducible show We _ _ tDNewK _ _ _); refine we_dnew ?_)
  | with_reducible refine wx_we ?_
  | with_reducible refine ws_break ?_
  | with_reducible refine ws_cont ?_
  | with_reducible refine ws_retN ?_
  | with_reducible refine ws_if ?_
  | with_reducible refine ws_ret ?_
  | ((fail_if_success (with_reducible show Ws _ _ (tDrop (tBM _ _ _ _ _)) _ _ _)); (with_reducible refine ws_drop ?_))
  | with_reducible refine ws_next ?_
  | with_reducible refine ws_par ?_
  | ((fail_if_success (with_reducible show Ws _ _ (tAsg _ (gSub _ _ _)) _ _ _)); (with_reducible refine ws_asg ?_))
  | with_reducible refine wg_name ?_
  | with_reducible refine we_int ?_
  | with_reducible refine we_bl ?_
  | with_reducible refine we_non ?_
  | with_reducible refine we_str ?_
  | with_reducible refine we_ty ?_
  | with_reducible refine we_cls ?_
  | with_reducible refine we_cmethX ?_
  | with_reducible refine we_cmeth ?_
  | with_reducible refine we_cmethN ?_
  | ((with_reducible show ∃ _, D.str _ = D.str _ ∧ _ ∧ _); refine ⟨_, rfl, ?_, ?_⟩; (focus (first | assumption | omega)))
  | ((with_reducible show We _ _ (tVar _) _ _ _); refine we_var rfl rfl ?_)
  | ((with_reducible show We _ _ (tVar _) _ _ _); refine we_var rfl (mut_td _) ?_)
  | ((with_reducible show We _ _ (tVar _) _ _ _); refine we_var rfl (mut_tg _) ?_)
  | ((with_reducible show We _ _ (tVar _) _ _ _); refine we_var rfl (mut_w _) ?_)
  | ((with_reducible show We _ _ (tVar _) _ _ _); refine we_var rfl (mut_lm _) ?_)
  | ((with_reducible show We _ _ (tVar _) _ _ _); refine we_var rfl (mut_b _) ?_)
  | ((fail_if_success (with_reducible show We _ _ (tOp (rInP _) _ (tVar _)) _ _ _)); with_reducible refine we_op ?_)
  | with_reducible refine we_un ?_
  | with_reducible refine we_lenO ?_
  | with_reducible refine we_cb ?_
  | with_reducible refine we_callX ?_
  | with_reducible refine we_call ?_
  | with_reducible refine we_callNX ?_
  | with_reducible refine we_callN ?_
  | with_reducible refine we_methN ?_
  | with_reducible refine we_callON ?_
  | with_reducible refine we_callOX ?_
  | with_reducible refine ws_raise ?_
  | with_reducible refine we_exf ?_
  | with_reducible refine we_tup ?_
  | with_reducible refine we_lst ?_
  | with_reducible refine we_sl ?_
  | with_reducible refine we_m1 ?_
  | with_reducible refine we_andV ?_
  | with_reducible refine we_orV ?_
  | with_reducible refine we_notV ?_
  | with_reducible refine we_if ?_
  | with_reducible refine we_chain ?_
  | with_reducible refine we_fld ?_
  | with_reducible refine we_methX ?_
  | with_reducible refine we_meth ?_
  | with_reducible refine we_prop ?_
  | with_reducible refine we_callO' ?_
  | with_reducible refine we_make ?_
  | with_reducible refine wt_test ?_
  | with_reducible refine wt_B ?_
  | with_reducible refine wt_yes ?_
  | with_reducible refine wt_and ?_
  | with_reducible refine wt_or ?_
  | with_reducible refine wt_not ?_
  | with_reducible refine wa_nil ?_
  | with_reducible refine wa_cons ?_
  | with_reducible refine wo_none ?_
  | with_reducible refine wo_some ?_
  | with_reducible refine add_int ?_
  | with_reducible refine sub_int ?_
  | with_reducible refine neg_int ?_
  | ((with_reducible refine mod_int ?_ ?_); (focus (first | assumption | omega)))
  | ((with_reducible refine mul_int ?_ ?_); (focus (first | exact Or.inl ⟨by omega, by omega⟩ | exact Or.inr ⟨by omega, by omega⟩)))
  | ((with_reducible refine fdiv_int ?_ ?_); (focus (exact ⟨by omega, by omega⟩)))
  | ((with_reducible refine pow_int ?_ ?_); (focus (exact ⟨by decide, by decide, by decide⟩)))
  | with_reducible refine is_non ?_
  | with_reducible refine not_non ?_
  | with_reducible refine eq_int ?_
  | with_reducible refine ne_int ?_
  | with_reducible refine eq_pos ?_
  | with_reducible refine ne_pos ?_
  | with_reducible refine ne_nn ?_
  | with_reducible refine ne_np ?_
  | with_reducible refine ne_pn ?_
  | with_reducible refine eq_str ?_
  | with_reducible refine ne_str ?_
  | with_reducible refine eq_bl ?_
  | with_reducible refine ne_bl ?_
  | with_reducible refine lt_int ?_
  | with_reducible refine gt_int ?_
  | with_reducible refine le_int ?_
  | with_reducible refine ge_int ?_
  | with_reducible refine lt_pos ?_
  | with_reducible refine gt_pos ?_
  | with_reducible refine le_pos ?_
  | with_reducible refine ge_pos ?_
  | with_reducible refine int_int ?_
  | with_reducible refine min_int ?_
  | with_reducible refine max_int ?_
  | with_reducible refine len_lst ?_
  | with_reducible refine len_tup ?_
  | ((with_reducible refine len_str ?_ ?_); (focus (first | assumption | omega)))
  | with_reducible refine tuple_lst ?_
  | with_reducible refine tuple_tup ?_
  | with_reducible refine sl_lst ?_
  | with_reducible refine sl_tup ?_
  | ((with_reducible refine sl_str ?_ ?_); (focus (first | assumption | omega)))
  | with_reducible refine mt_countD ?_
  | with_reducible refine mt_rfindD ?_
  | ((with_reducible refine mt_splitD ?_ ?_ ?_); (focus rfl); (focus (first | assumption | omega)))
  | ((with_reducible show Op _ (rIx _) (D.tup _) (D.int _) _); refine ix_tup (by decide) rfl ?_)
  | ((with_reducible show Op _ (rIx _) (D.lst _) (D.int _) _); refine ix_lst (by decide) rfl ?_)
  | ((with_reducible show Cb _ (rIsi _) [D.int _, D.ty _] _); first | refine isiI (r := true) (by decide +kernel) ?_ | refine isiI (r := false) (by decide +kernel) ?_)
  | ((with_reducible show Cb _ (rIsi _) [D.str _, D.ty _] _); first | refine isiS (r := true) (by decide +kernel) ?_ | refine isiS (r := false) (by decide +kernel) ?_)
  | ((with_reducible show Cb _ (rIsi _) [D.tup _, D.ty _] _); first | refine isiT (r := true) (by decide +kernel) ?_ | refine isiT (r := false) (by decide +kernel) ?_)
  | ((with_reducible show Wg _ _ (gTup _ _ _) _ _ _); refine wg_tup rfl rfl ?_)
  | ((with_reducible show Wgs _ _ gNil _ _ _); refine wgs_nil rfl ?_)
  | ((with_reducible show Wgs _ _ (gCons _ _) _ _ _); refine wgs_cons rfl ?_)
  | ((with_reducible show ∃ _, D.bl _ = D.bl _ ∧ _); refine ⟨_, rfl, ?_⟩)
  | ((with_reducible show ∃ _, D.int _ = D.int _ ∧ _); refine ⟨_, rfl, ?_⟩)
  | ((with_reducible show ∃ _, D.str _ = D.str _ ∧ _); refine ⟨_, rfl, ?_⟩)
  | ((with_reducible show ∃ _, D.tup _ = D.tup _ ∧ _); refine ⟨_, rfl, ?_⟩)
  | ((with_reducible show ∃ _, D.lst _ = D.lst _ ∧ _); refine ⟨_, rfl, ?_⟩)
  | with_reducible refine wt_tru ?_
  | with_reducible refine list_lst ?_
  | with_reducible refine list_tup ?_
  | with_reducible refine we_makeS ?_
  | with_reducible refine we_makeR ?_
  | with_reducible refine we_smethS ?_
  | with_reducible refine iteNT ?_
  | with_reducible refine iteNF ?_
  | ((with_reducible show if true = true then _ else _); rw [if_pos rfl])
  | ((with_reducible show if false = true then _ else _); rw [if_neg Bool.false_ne_true])
  | ((with_reducible show List.length _ ≤ 1000000 ∧ _); refine ⟨?_, ?_⟩; (focus (simp; done)))
  | fail "no step")
local macro_rules | `(tactic| walk_at "w") => `(tactic| repeat (walk_at "w1"))
local macro_rules | `(tactic| walk_at "ws") => `(tactic| repeat ((fail_if_success (with_reducible show We _ _ (tChain _ _ _ _ _) _ _ _)); (fail_if_success (with_reducible show Wt _ _ (tAnd _ _) _ _ _)); (fail_if_success (with_reducible show We _ _ (tOrT _ _ _) _ _ _)); walk_at "w1"))

theorem we_eq {ds : DS} {n : Nat} {te : TE} {x : D} {k : Nat} {P : D → Nat → Prop} (h : We K Z te ds n fun d m => d = x ∧ m = k) (h2 : P x k) : We K Z te ds n P := h.imp fun d m ⟨a, b⟩ => by subst a b; exact h2
theorem int_bl {P : D → Prop} {b : Bool} (h : P (.int (if b = true then 1 else 0))) : Cb K rInt1 [.bl b] P := fun u vs Q e r k => by
  obtain ⟨v, rfl, r1⟩ := dens1 r
  cases den_bl r1
  exact .inr ⟨b, rfl, k _ _ u (.refl e) (.int _) h⟩
theorem sm_map (l : List (Nat × Int)) (i : Nat) (h : i ≤ l.length) : cutD (l.map pD) (some (i : Int)) (some ((i : Int) + 1)) = ((l.drop i).take 1).map pD := by
  unfold cutD
  rw [show (some ((i : Int) + 1)) = some (((i + 1 : Nat)) : Int) from rfl, HT.sIx_nat, HT.sIx_nat, List.length_map, Nat.min_eq_left h, List.map_take, List.map_drop]
  by_cases q : i = l.length
  · subst q
    rw [List.drop_eq_nil_of_le (by rw [List.length_map]; exact Nat.le_refl _)]; simp
  · rw [Nat.min_eq_left (by omega)]
    congr 1
    omega
/-- the same ahead of i, not at i -/
theorem fdf_cut {l m : List (Nat × Int)} {i : Nat} (h : l.take i = m.take i) (h1 : i ≤ l.length) (h2 : i ≤ m.length) (hn : (l.drop i).take 1 ≠ (m.drop i).take 1) : fdf l m = some i := by
  rw [fdf_at h h1 h2]
  cases e1 : l.drop i with
  | nil =>
    cases e2 : m.drop i with
    | nil => rw [e1, e2] at hn; exact absurd rfl hn
    | cons b bs => simp [fdf]
  | cons a as =>
    cases e2 : m.drop i with
    | nil => simp [fdf]
    | cons b bs =>
      rw [e1, e2] at hn
      have : a ≠ b := fun z => hn (by rw [z]; rfl)
      simp [fdf, this]
theorem both_le {l m : List (Nat × Int)} {i : Nat} (h : l.take i = m.take i) (hi : i < max l.length m.length) : i ≤ l.length ∧ i ≤ m.length := by
  have := congrArg List.length h
  rw [List.length_take, List.length_take] at this
  omega
theorem take_cut {l m : List (Nat × Int)} {i : Nat} (h : l.take i = m.take i) (h1 : (l.drop i).take 1 = (m.drop i).take 1) : l.take (i + 1) = m.take (i + 1) := by
  rw [List.take_add, List.take_add, h, h1]
theorem len__law_first : ∀ ds n P X, R__law_first A ds n P X → ds.length = 2 := by rintro ds n P X ⟨_, _, rfl, -⟩; rfl
theorem w__law_first (T : TxtC K A) : ∀ Z ds n P, R__law_first A ds n P Z.X → Ws K Z (t__law_first K A) (startD 5 ds) n { nx := fun _ m => P .non m, rt := P } := by
  rintro Z ds n P ⟨x, y, rfl, hx, hy, h⟩
  unfold t__law_first
  walk_at "w"
  refine ⟨x, rfl, hx, ?_⟩
  walk_at "w"
  refine ⟨y, rfl, hy, ?_⟩
  walk_at "w"
  refine ws_fort (fun i : Nat => D.int (i : Nat)) (List.range (max (rows x).length (rows y).length)) (wi_range1 ?_)
  walk_at "w"
  rw [List.length_map, List.length_map]
  have b1 := rows_len hx
  have b2 := rows_len hy
  have e : (if (((rows y).length : Nat) : Int) > ((rows x).length : Nat) then (((rows y).length : Nat) : Int) else ((rows x).length : Nat)) = ((max (rows x).length (rows y).length : Nat) : Int) := by split <;> omega
  rw [e]
  refine ⟨_, rfl, ⟨by omega, by omega⟩, rng0_map _, fun i ds' m => m = n ∧ (rows x).take i = (rows y).take i ∧ ∃ d4, ds' = [some (.str (mk x)), some (.str (mk y)), some (.lst ((rows x).map pD)), some (.lst ((rows y).map pD)), d4], ⟨rfl, rfl, _, rfl⟩, ?_, ?_⟩
  · rintro i j ds' m hj ⟨rfl, ht, d4, rfl⟩
    obtain ⟨hi, rfl⟩ := range_at hj
    obtain ⟨c1, c2⟩ := both_le ht hi
    walk_at "w"
    rw [sm_map _ _ c1, sm_map _ _ c2]
    refine ne_plst ?_
    walk_at "w"
    by_cases q : ((rows x).drop j).take 1 = ((rows y).drop j).take 1
    · rw [decide_eq_true q]
      walk_at "w"
      exact ⟨rfl, take_cut ht q, _, rfl⟩
    · rw [decide_eq_false q]
      walk_at "w"
      rw [fdf_cut ht c1 c2 q] at h
      exact h
  · rintro ds' m ⟨rfl, ht, d4, rfl⟩
    rw [List.length_range, List.take_of_length_le (by omega), List.take_of_length_le (by omega)] at ht
    rw [ht, fdf_same] at h
    walk_at "w"
    exact h
theorem len__law_pick : ∀ ds n P X, R__law_pick A ds n P X → ds.length = 2 := by rintro ds n P X ⟨_, _, rfl, -⟩; rfl
theorem w__law_pick (T : TxtC K A) : ∀ Z ds n P, R__law_pick A ds n P Z.X → Ws K Z (t__law_pick K A) (startD 4 ds) n { nx := fun _ m => P .non m, rt := P } := by
  rintro Z ds n P ⟨a, t, rfl, h0, h1, h⟩
  have rest : ∀ p : Int, 0 ≤ p → p < 2 → Ws K Z (tSeq (tAsg (tOp (rI (fun _ j => 0 < j) fun i j => .int (i % j)) (tCB (rInt1) (tCons (tOp (rIx K) (tVar 0) (tVar 2)) tNil)) (tVar 1)) (gName 3))
      (tSeq (tAsg (tOp (rI CDiv fun i j => .int (i / j)) (tOp (rIx K) (tVar 0) (tVar 2)) (tVar 1)) (gSub (tVar 0) (tVar 2) rSetL))
      (tRet (tVar 3)))) [some (.strm a (.nats 2)), some (.int t), some (.int p), none] n { nx := fun _ m => P .non m, rt := P } := fun p p0 p1 => by
    walk_at "w"
    refine ix_nats p0 (by exact_mod_cast p1) fun x x0 => ?_
    walk_at "w"
    refine ws_setN rfl ?_
    walk_at "w"
    refine ix_nats p0 (by exact_mod_cast p1) fun y y0 => ?_
    walk_at "w"
    refine ⟨Int.ediv_nonneg y0 (by omega), ?_⟩
    walk_at "w"
    refine ⟨p0, by exact_mod_cast p1, ?_⟩
    walk_at "w"
    exact h _ (Int.emod_nonneg _ (by omega)) (Int.emod_lt_of_pos _ h0)
  unfold t__law_pick
  walk_at "w"
  refine ix_nats (by decide) (by decide) fun x x0 => ?_
  walk_at "w"
  refine int_bl ?_
  walk_at "w1"
  refine rest _ ?_ ?_
  · split <;> decide
  · split <;> decide
theorem len__law_stream : ∀ ds n P X, R__law_stream A ds n P X → ds.length = 2 := by rintro ds n P X ⟨_, _, rfl, -⟩; rfl
theorem w__law_stream (T : TxtC K A) : ∀ Z ds n P, R__law_stream A ds n P Z.X → Ws K Z (t__law_stream K A) (startD 6 ds) n { nx := fun _ m => P .non m, rt := P } := by
  rintro Z ds n P ⟨ns, k, rfl, hn, h⟩
  unfold t__law_stream
  walk_at "w1"
  walk_at "w1"
  refine we_eq (x := .int (if h : k < ns.length then ns[k] % (2 * 10 ^ 60) else 0)) (k := n) ?_ ?_
  · walk_at "w"
    rw [List.length_map]
    refine iteD (fun q => ?_) (fun q => ?_)
    · have hk : k < ns.length := by omega
      rw [dif_pos hk]
      walk_at "w"
      refine ix_lst (n := 0) (d := .int ns[k]) (by omega) (by rw [Int.toNat_natCast, List.getElem?_map, List.getElem?_eq_getElem hk]; rfl) ?_
      walk_at "w"
      exact mod_int (by decide) ⟨rfl, rfl⟩
    · rw [dif_neg (by omega)]
      walk_at "w"
      exact ⟨rfl, rfl⟩
  generalize hc : (if h : k < ns.length then ns[k] % (2 * 10 ^ 60) else 0) = cell
  have c0 : 0 ≤ cell := by
    rw [← hc]
    split
    · exact Int.emod_nonneg _ (by decide)
    · decide
  walk_at "w"
  refine ws_fort (fun i : Nat => D.int (i : Nat)) (List.range 70) (wi_range1 ?_)
  walk_at "w"
  refine ⟨_, rfl, ⟨by decide, by decide⟩, rng0_map 70, fun i ds' m => m = n ∧ ∃ (x : Int) (d4 d5 : Option D), 0 ≤ x ∧ ds' = [some (.lst (ns.map .int)), some (.int (k : Nat)), some (.int cell), some (.int x), d4, d5], ⟨rfl, 0, _, _, Int.le_refl _, rfl⟩, ?_, ?_⟩
  · rintro i j ds' m hj ⟨rfl, x, d4, d5, x0, rfl⟩
    obtain ⟨hi, rfl⟩ := range_at hj
    walk_at "w"
    have m0 := Int.emod_nonneg (cell * 48271 + 7919 * ((k : Nat) + 64 * (j : Nat)) + 12345) (show (2147483647 : Int) ≠ 0 by decide)
    have m1 := Int.emod_lt_of_pos (cell * 48271 + 7919 * ((k : Nat) + 64 * (j : Nat)) + 12345) (show (0 : Int) < 2147483647 by decide)
    generalize (cell * 48271 + 7919 * ((k : Nat) + 64 * (j : Nat)) + 12345) % 2147483647 = more at *
    refine pow_int ⟨by decide, by decide, by omega⟩ ?_
    walk_at "w"
    refine ⟨rfl, _, _, _, ?_, rfl⟩
    have := Int.emod_nonneg (more ^ Int.toNat 5 + (j : Int) * more) (show (2147483629 : Int) ≠ 0 by decide)
    omega
  · rintro ds' m ⟨rfl, x, d4, d5, x0, rfl⟩
    refine ws_retN2 ?_
    walk_at "w"
    refine int_bl ?_
    refine mul_int (Or.inr ?_) ?_
    · split <;> decide
    walk_at "w"
    refine ⟨_, _, rfl, ?_, x0, h⟩
    split
    · rw [Int.mul_one]; exact c0
    · rw [Int.mul_zero]; exact Int.le_refl _
theorem sg8 : tl (Str.ofString " ~az#\"AB0") = [32, 126, 97, 122, 35, 34, 65, 66, 48] := by decide +kernel
theorem join_sg (cs : List Nat) : Txt.join (Str.ofString "") (cs.map fun c => (⟨#[c]⟩ : Str)) = mk cs := by
  refine TL.ext_tl ?_
  show tl _ = cs
  rw [tl_join0, List.map_map]
  show (List.map (fun c => [c]) cs).flatten = cs
  induction cs with
  | nil => rfl
  | cons c cs ih => simp [ih]
theorem join_nl (ls : List (List Nat)) : Txt.join (Str.ofString "\n") (ls.map mk) = mk (jn ls) := by
  refine TL.ext_tl ?_
  rw [TL.join_eq]
  refine (TL.tl_join _ _).trans ?_
  rw [show TL.tl (Str.ofString "\n") = [10] from tl_nl, jn_joinL, List.map_map]
  show jn (List.map (fun l => l) ls) = _
  rw [List.map_id']
structure Ln (l : List Nat) : Prop where
  len : l.length ≤ 8
  sg : ∀ c ∈ l, c < 128
theorem jn_sg : ∀ {ls : List (List Nat)}, (∀ l ∈ ls, ∀ c ∈ l, c < 128) → ∀ c ∈ jn ls, c < 128
  | [], _, c, hc => by cases hc
  | [r], h, c, hc => h r (List.mem_cons_self ..) c hc
  | r :: q :: rs, h, c, hc => by
    have ih := @jn_sg (q :: rs) fun l hl => h l (List.mem_cons_of_mem _ hl)
    simp only [jn, List.mem_append, List.mem_cons] at hc
    rcases hc with hc | rfl | hc
    · exact h r (List.mem_cons_self ..) c hc
    · decide
    · exact ih c hc
theorem jn_bd : ∀ {ls : List (List Nat)} {b : Nat}, (∀ l ∈ ls, l.length ≤ b) → (jn ls).length ≤ (b + 1) * ls.length
  | [], b, _ => Nat.zero_le _
  | [r], b, h => by have := h r (List.mem_cons_self ..); simp [jn]; omega
  | r :: q :: rs, b, h => by
    have ih := @jn_bd (q :: rs) b fun l hl => h l (List.mem_cons_of_mem _ hl)
    have h1 := h r (List.mem_cons_self ..)
    simp only [jn, List.length_append, List.length_cons] at ih ⊢
    rw [Nat.mul_add (b + 1) (rs.length + 1) 1]
    omega
theorem sg_at {v : Int} (h0 : 0 ≤ v) (h1 : v < 9) : ∃ c, (Str.ofString " ~az#\"AB0").cps.toList[v.toNat]? = some c ∧ c < 128 := by
  have e : (Str.ofString " ~az#\"AB0").cps.toList = [32, 126, 97, 122, 35, 34, 65, 66, 48] := sg8
  rw [e]
  have : v = 0 ∨ v = 1 ∨ v = 2 ∨ v = 3 ∨ v = 4 ∨ v = 5 ∨ v = 6 ∨ v = 7 ∨ v = 8 := by omega
  rcases this with rfl | rfl | rfl | rfl | rfl | rfl | rfl | rfl | rfl <;> exact ⟨_, rfl, by decide⟩
theorem sum_bd : ∀ {zs : List Str} {b : Nat}, (∀ z ∈ zs, z.length ≤ b) → (zs.map (·.length)).sum ≤ b * zs.length
  | [], b, _ => Nat.zero_le _
  | z :: zs, b, h => by
    have ih := @sum_bd zs b fun y hy => h y (List.mem_cons_of_mem _ hy)
    have h1 := h z (List.mem_cons_self ..)
    rw [List.map_cons, List.sum_cons, List.length_cons, Nat.mul_add]
    omega
theorem len__law_text : ∀ ds n P X, R__law_text A ds n P X → ds.length = 1 := by rintro ds n P X ⟨_, rfl, -⟩; rfl
theorem w__law_text (T : TxtC K A) : ∀ Z ds n P, R__law_text A ds n P Z.X → Ws K Z (t__law_text K A) (startD 5 ds) n { nx := fun _ m => P .non m, rt := P } := by
  rintro Z ds n P ⟨a, rfl, h⟩
  unfold t__law_text
  walk_at "w"
  refine ws_fore (fun i : Nat => D.int (i : Nat)) (wi_range1 ?_)
  walk_at "w"
  refine ⟨a, 6, rfl, by decide, by decide, fun r r0 r1 => ?_⟩
  walk_at "w"
  refine ⟨_, rfl, ⟨by omega, by omega⟩, List.range (1 + r).toNat, rng0_map _, fun i ds' m => m = n ∧ ∃ (ls : List (List Nat)) (d2 d3 d4 : Option D), ls.length = i ∧ (∀ l ∈ ls, Ln l) ∧ ds' = [some (.strm a (.nats 2)), some (.mls (ls.map fun l => .str (mk l))), d2, d3, d4], ⟨rfl, [], _, _, _, rfl, (fun l hl => by cases hl), rfl⟩, ?_, ?_⟩
  · rintro i j ds' m hj ⟨rfl, ls, d2, d3, d4, hl, hls, rfl⟩
    obtain ⟨hi, rfl⟩ := range_at hj
    walk_at "w"
    refine ⟨a, 9, rfl, by decide, by decide, fun w w0 w1 => ?_⟩
    walk_at "w"
    refine ws_append rfl (by rw [List.length_map]; omega) ?_
    walk_at "w"
    refine we_lc (wi_range1 ?_)
    walk_at "w"
    refine ⟨_, rfl, ⟨by omega, by omega⟩, fun i ys k => k = m ∧ ∃ cs : List Nat, cs.length = i ∧ i ≤ w.toNat ∧ (∀ c ∈ cs, c < 128) ∧ ys = cs.map fun c => D.str ⟨#[c]⟩, ⟨rfl, [], rfl, Nat.zero_le _, (fun c hc => by cases hc), rfl⟩, ?_, ?_⟩
    · rintro q x ys k hx ⟨rfl, cs, hcs, hq, hsg, rfl⟩
      have hq2 := (List.getElem?_eq_some_iff.mp hx).1
      rw [rng_len] at hq2
      refine wgc_name (by simp) ?_
      refine wt_yes ?_
      rw [if_pos rfl]
      walk_at "w"
      refine ⟨a, 9, rfl, by decide, by decide, fun v v0 v1 => ?_⟩
      obtain ⟨c, hc, hc2⟩ := sg_at v0 v1
      refine ix_str (c := c) (by decide +kernel) v0 hc ?_
      refine ⟨by rw [List.length_map]; omega, rfl, cs ++ [c], by rw [List.length_append, hcs]; rfl, by omega, fun d hd => ?_, by rw [List.map_append]; rfl⟩
      rcases List.mem_append.mp hd with z | z
      · exact hsg d z
      · rw [List.mem_singleton.mp z]; exact hc2
    · rintro ys k ⟨rfl, cs, hcs, hq, hsg, rfl⟩
      rw [rng_len] at hcs
      walk_at "w"
      rw [show (cs.map fun c => D.str ⟨#[c]⟩) = (cs.map fun c => (⟨#[c]⟩ : Str)).map D.str by rw [List.map_map]; rfl]
      refine mt_joinD ?_ ?_
      · rw [List.map_map, show ((fun x : Str => x.length) ∘ fun c => (⟨#[c]⟩ : Str)) = fun _ => 1 from rfl, List.map_const', List.sum_replicate_nat, List.length_map]
        have : (Str.ofString "").length = 0 := by decide +kernel
        rw [this]
        omega
      rw [join_sg]
      refine ⟨rfl, ls ++ [cs], _, _, _, by rw [List.length_append, hl]; rfl, fun l hll => ?_, by rw [List.map_append]; rfl⟩
      rcases List.mem_append.mp hll with z | z
      · exact hls l z
      · rw [List.mem_singleton.mp z]; exact ⟨by omega, hsg⟩
  · rintro ds' m ⟨rfl, ls, d2, d3, d4, hl, hls, rfl⟩
    refine ws_settle (i := 1) rfl ?_
    walk_at "w"
    rw [List.length_range] at hl
    have b1 := @jn_bd ls 8 fun l hh => (hls l hh).len
    rw [show (ls.map fun l => D.str (mk l)) = (ls.map mk).map D.str by rw [List.map_map]; rfl]
    refine mt_joinD ?_ ?_
    · have b2 := @sum_bd (ls.map mk) 8 fun z hz => by
        obtain ⟨l, hh, rfl⟩ := List.mem_map.mp hz
        rw [mk_len]; exact (hls l hh).len
      have : (Str.ofString "\n").length = 1 := by decide +kernel
      rw [List.length_map] at b2 ⊢
      rw [this]
      omega
    rw [join_nl]
    exact h _ ⟨by omega, jn_sg fun l hh => (hls l hh).sg⟩
/-- the lines of a text, one of them taken out -/
theorem split_at {x : List Nat} {a : Nat} (ha : a < (Mx.lns x).length) : ∃ (P Q : List (List Nat)) (r : List Nat), Mx.lns x = P ++ r :: Q ∧ P.length = a ∧ (Mx.lns x)[a]? = some r :=
  ⟨(Mx.lns x).take a, (Mx.lns x).drop (a + 1), (Mx.lns x)[a], by rw [← List.drop_eq_getElem_cons ha, List.take_append_drop], by rw [List.length_take]; omega, List.getElem?_eq_getElem ha⟩
theorem len_jn {zs : List (List Nat)} (h : zs ≠ []) : ((jn zs).length : Int) = ((zs.map List.length).sum : Int) + zs.length - 1 := by
  have := jn_len h
  have e : ∀ ws : List (List Nat), (ws.map fun r => r.length + 1).sum = (ws.map List.length).sum + ws.length := fun ws => by
    induction ws with
    | nil => rfl
    | cons w ws ih => simp only [List.map_cons, List.sum_cons, List.length_cons, ih]; omega
  rw [e] at this
  omega
/-- the signs behind a changed text -/
def sufs : List (List Nat) := [[], [10], [32]]
section
variable {x r r' : List Nat} {P Q : List (List Nat)} (hx : Mx.lns x = P ++ r :: Q)
include hx
theorem x_is : x = jn (P ++ r :: Q) := by rw [← hx, jn_lns]
theorem no10 : (∀ z ∈ P, 10 ∉ z) ∧ 10 ∉ r ∧ ∀ z ∈ Q, 10 ∉ z := by
  have h : ∀ z ∈ P ++ r :: Q, 10 ∉ z := fun z hz => lns_no (hx ▸ hz)
  exact ⟨fun z hz => h z (List.mem_append_left _ hz), h r (List.mem_append_right _ (List.mem_cons_self ..)), fun z hz => h z (List.mem_append_right _ (List.mem_cons_of_mem _ hz))⟩
theorem no10' (h : 10 ∉ r') : ∀ z ∈ P ++ r' :: Q, 10 ∉ z := fun z hz => by
  obtain ⟨h1, h2, h3⟩ := no10 hx
  rcases List.mem_append.mp hz with q | q
  · exact h1 z q
  · rcases List.mem_cons.mp q with q | q
    · rw [q]; exact h
    · exact h3 z q
/-- one line is another one -/
theorem chg_row (h10 : 10 ∉ r') (hf : r'.length = r.length → fp r = fp r' → r = r') (hl : r.length ≤ r'.length) {s : List Nat} (hs : s ∈ sufs) (hb : (jn (P ++ r' :: Q) ++ s).length ≤ 1000) : Chg x (jn (P ++ r' :: Q) ++ s) := by
  refine ⟨hb, fun e1 e2 e3 e4 => e2 ?_⟩
  have n1 : P ++ r :: Q ≠ [] := by simp
  have n2 : P ++ r' :: Q ≠ [] := by simp
  have l1 := len_jn n1
  have l2 := len_jn n2
  simp only [List.map_append, List.map_cons, List.sum_append, List.sum_cons, List.length_append, List.length_cons] at l1 l2
  rw [x_is hx, List.length_append] at e1
  have s0 : s = [] := List.eq_nil_of_length_eq_zero (by omega)
  subst s0
  rw [List.append_nil] at *
  rw [rows, hx, rows_jn n2 (no10' hx h10), List.map_append, List.map_append, List.map_cons, List.map_cons] at e4
  have e5 := (List.cons.inj (List.append_cancel_left e4)).1
  rw [x_is hx, hf (by omega) e5]
/-- one more line -/
theorem chg_more {w s : List Nat} (hw : 10 ∉ w) (hb : (jn (P ++ w :: r :: Q) ++ s).length ≤ 1000) : Chg x (jn (P ++ w :: r :: Q) ++ s) := by
  refine ⟨hb, fun _ _ e3 _ => ?_⟩
  have c1 := lns_count x
  have c2 := count_jn (zs := P ++ w :: r :: Q) (by simp) fun z hz => by
    obtain ⟨h1, h2, h3⟩ := no10 hx
    rcases List.mem_append.mp hz with q | q
    · exact h1 z q
    · rcases List.mem_cons.mp q with q | q
      · rw [q]; exact hw
      · rcases List.mem_cons.mp q with q | q
        · rw [q]; exact h2
        · exact h3 z q
  rw [hx] at c1
  rw [List.count_append] at e3
  simp only [List.length_append, List.length_cons] at c1 c2
  omega
/-- one line less -/
theorem chg_less (hsg : ∀ c ∈ x, c < 128) {s : List Nat} (hs : s ∈ sufs) (hb : (jn (P ++ Q) ++ s).length ≤ 1000) : Chg x (jn (P ++ Q) ++ s) := by
  refine ⟨hb, fun e1 e2 e3 e4 => e2 ?_⟩
  obtain ⟨h1, h2, h3⟩ := no10 hx
  have hPQ : ∀ z ∈ P ++ Q, 10 ∉ z := fun z hz => (List.mem_append.mp hz).elim (h1 z) (h3 z)
  by_cases n0 : P ++ Q = []
  · obtain ⟨rfl, rfl⟩ := List.append_eq_nil_iff.mp n0
    have ex : x = r := x_is hx
    subst ex
    simp only [List.append_nil, jn, List.nil_append] at *
    simp only [sufs, List.mem_cons, List.not_mem_nil, or_false] at hs
    rcases hs with rfl | rfl | rfl
    · exact List.eq_nil_of_length_eq_zero e1
    · rw [List.count_eq_zero_of_not_mem h2] at e3; simp at e3
    · obtain ⟨c, rfl⟩ := List.length_eq_one_iff.mp e1
      have hc := hsg c (List.mem_singleton.mpr rfl)
      have hc10 : c ≠ 10 := fun z => h2 (z ▸ List.mem_singleton.mpr rfl)
      simp [rows, Mx.lns, hc10, fp, ck, ckS] at e4
      have : c = 32 := by omega
      rw [this]
  · have c1 := lns_count x
    have c2 := count_jn n0 hPQ
    rw [hx] at c1
    rw [List.count_append] at e3
    simp only [List.length_append, List.length_cons] at c1 c2
    have s10 : s = [10] := by
      simp only [sufs, List.mem_cons, List.not_mem_nil, or_false] at hs
      rcases hs with rfl | rfl | rfl
      · simp at e3; omega
      · rfl
      · simp at e3; omega
    subst s10
    rw [jn_snoc n0] at *
    have h4 : ∀ z ∈ P ++ Q ++ [[]], 10 ∉ z := fun z hz => by
      rcases List.mem_append.mp hz with q | q
      · exact hPQ z q
      · rw [List.mem_singleton.mp q]; simp
    rw [rows, hx, rows_jn (by simp) h4, List.append_assoc, List.map_append, List.map_append] at e4
    obtain ⟨a1, a2⟩ := all_empty Q r (List.append_cancel_left e4)
    rw [x_is hx, a1, empties Q a2, List.append_assoc]
end
end
end Lw

namespace Lw
open PySem L2 StX DL MP
section
variable {K : PySem.W.Frag} [Tb K] {Z : ZX} {A : Ad}
/-- one step -/
local macro_rules | `(tactic| walk_at "w1") => `(tactic| first
  | with_reducible refine ws_seq ?_
  | ((with_reducible show Ws _ _ (tAsg (tLst tNil) (gName _)) _ _ _); refine ws_setX (wx_lst (wa_nil ⟨Nat.zero_le _, ?_⟩)))
  | ((with_reducible show Ws _ _ (tAsg tDNewK (gName _)) _ _ _); refine ws_setX (wx_dnew ?_))
  | with_reducible refine ws_parX ?_
  | with_reducible refine ws_par3X ?_
  | ((with_reducible show Wx _ _ (tLst tNil) _ _ _); refine wx_lst (wa_nil ⟨Nat.zero_le _, ?_⟩))
  | ((with_reducible show Wx _ _ tDNewK _ _ _); refine wx_dnew ?_)
  | ((with_reducible show We _ _ tDNewK _ _ _); refine we_dnew ?_)
  | with_reducible refine wx_we ?_
  | with_reducible refine ws_break ?_
  | with_reducible refine ws_cont ?_
  | with_reducible refine ws_retN ?_
  | with_reducible refine ws_if ?_
  | with_reducible refine ws_ret ?_
  | ((fail_if_success (with_reducible show Ws _ _ (tDrop (tBM _ _ _ _ _)) _ _ _)); (with_reducible refine ws_drop ?_))
  | with_reducible refine ws_next ?_
  | with_reducible refine ws_par ?_
  | ((fail_if_success (with_reducible show Ws _ _ (tAsg _ (gSub _ _ _)) _ _ _)); (with_reducible refine ws_asg ?_))
  | with_reducible refine wg_name ?_
  | with_reducible refine we_int ?_
  | with_reducible refine we_bl ?_
  | with_reducible refine we_non ?_
  | with_reducible refine we_str ?_
  | with_reducible refine we_ty ?_
  | with_reducible refine we_cls ?_
  | with_reducible refine we_cmethX ?_
  | with_reducible refine we_cmeth ?_
  | with_reducible refine we_cmethN ?_
  | ((with_reducible show ∃ _, D.str _ = D.str _ ∧ _ ∧ _); refine ⟨_, rfl, ?_, ?_⟩; (focus (first | assumption | omega)))
  | ((with_reducible show We _ _ (tVar _) _ _ _); refine we_var rfl rfl ?_)
  | ((with_reducible show We _ _ (tVar _) _ _ _); refine we_var rfl (mut_td _) ?_)
  | ((with_reducible show We _ _ (tVar _) _ _ _); refine we_var rfl (mut_tg _) ?_)
  | ((with_reducible show We _ _ (tVar _) _ _ _); refine we_var rfl (mut_w _) ?_)
  | ((with_reducible show We _ _ (tVar _) _ _ _); refine we_var rfl (mut_lm _) ?_)
  | ((with_reducible show We _ _ (tVar _) _ _ _); refine we_var rfl (mut_b _) ?_)
  | ((fail_if_success (with_reducible show We _ _ (tOp (rInP _) _ (tVar _)) _ _ _)); with_reducible refine we_op ?_)
  | with_reducible refine we_un ?_
  | with_reducible refine we_lenO ?_
  | with_reducible refine we_cb ?_
  | with_reducible refine we_callX ?_
  | with_reducible refine we_call ?_
  | with_reducible refine we_callNX ?_
  | with_reducible refine we_callN ?_
  | with_reducible refine we_methN ?_
  | with_reducible refine we_callON ?_
  | with_reducible refine we_callOX ?_
  | with_reducible refine ws_raise ?_
  | with_reducible refine we_exf ?_
  | with_reducible refine we_tup ?_
  | with_reducible refine we_lst ?_
  | with_reducible refine we_sl ?_
  | with_reducible refine we_m1 ?_
  | with_reducible refine we_andV ?_
  | with_reducible refine we_orV ?_
  | with_reducible refine we_notV ?_
  | with_reducible refine we_if ?_
  | with_reducible refine we_chain ?_
  | with_reducible refine we_fld ?_
  | with_reducible refine we_methX ?_
  | with_reducible refine we_meth ?_
  | with_reducible refine we_prop ?_
  | with_reducible refine we_callO' ?_
  | with_reducible refine we_make ?_
  | with_reducible refine wt_test ?_
  | with_reducible refine wt_B ?_
  | with_reducible refine wt_yes ?_
  | with_reducible refine wt_and ?_
  | with_reducible refine wt_or ?_
  | with_reducible refine wt_not ?_
  | with_reducible refine wa_nil ?_
  | with_reducible refine wa_cons ?_
  | with_reducible refine wo_none ?_
  | with_reducible refine wo_some ?_
  | with_reducible refine add_int ?_
  | with_reducible refine sub_int ?_
  | with_reducible refine neg_int ?_
  | ((with_reducible refine mod_int ?_ ?_); (focus (first | assumption | omega)))
  | ((with_reducible refine mul_int ?_ ?_); (focus (first | exact Or.inl ⟨by omega, by omega⟩ | exact Or.inr ⟨by omega, by omega⟩)))
  | ((with_reducible refine fdiv_int ?_ ?_); (focus (exact ⟨by omega, by omega⟩)))
  | ((with_reducible refine pow_int ?_ ?_); (focus (exact ⟨by decide, by decide, by decide⟩)))
  | with_reducible refine is_non ?_
  | with_reducible refine not_non ?_
  | with_reducible refine eq_int ?_
  | with_reducible refine ne_int ?_
  | with_reducible refine eq_pos ?_
  | with_reducible refine ne_pos ?_
  | with_reducible refine ne_nn ?_
  | with_reducible refine ne_np ?_
  | with_reducible refine ne_pn ?_
  | with_reducible refine eq_str ?_
  | with_reducible refine ne_str ?_
  | with_reducible refine eq_bl ?_
  | with_reducible refine ne_bl ?_
  | with_reducible refine lt_int ?_
  | with_reducible refine gt_int ?_
  | with_reducible refine le_int ?_
  | with_reducible refine ge_int ?_
  | with_reducible refine lt_pos ?_
  | with_reducible refine gt_pos ?_
  | with_reducible refine le_pos ?_
  | with_reducible refine ge_pos ?_
  | with_reducible refine int_int ?_
  | with_reducible refine min_int ?_
  | with_reducible refine max_int ?_
  | with_reducible refine len_lst ?_
  | with_reducible refine len_tup ?_
  | ((with_reducible refine len_str ?_ ?_); (focus (first | assumption | omega)))
  | with_reducible refine tuple_lst ?_
  | with_reducible refine tuple_tup ?_
  | with_reducible refine sl_lst ?_
  | with_reducible refine sl_tup ?_
  | ((with_reducible refine sl_str ?_ ?_); (focus (first | assumption | omega)))
  | with_reducible refine mt_countD ?_
  | with_reducible refine mt_rfindD ?_
  | ((with_reducible refine mt_splitD ?_ ?_ ?_); (focus rfl); (focus (first | assumption | omega)))
  | ((with_reducible show Op _ (rIx _) (D.tup _) (D.int _) _); refine ix_tup (by decide) rfl ?_)
  | ((with_reducible show Op _ (rIx _) (D.lst _) (D.int _) _); refine ix_lst (by decide) rfl ?_)
  | ((with_reducible show Cb _ (rIsi _) [D.int _, D.ty _] _); first | refine isiI (r := true) (by decide +kernel) ?_ | refine isiI (r := false) (by decide +kernel) ?_)
  | ((with_reducible show Cb _ (rIsi _) [D.str _, D.ty _] _); first | refine isiS (r := true) (by decide +kernel) ?_ | refine isiS (r := false) (by decide +kernel) ?_)
  | ((with_reducible show Cb _ (rIsi _) [D.tup _, D.ty _] _); first | refine isiT (r := true) (by decide +kernel) ?_ | refine isiT (r := false) (by decide +kernel) ?_)
  | ((with_reducible show Wg _ _ (gTup _ _ _) _ _ _); refine wg_tup rfl rfl ?_)
  | ((with_reducible show Wgs _ _ gNil _ _ _); refine wgs_nil rfl ?_)
  | ((with_reducible show Wgs _ _ (gCons _ _) _ _ _); refine wgs_cons rfl ?_)
  | ((with_reducible show ∃ _, D.bl _ = D.bl _ ∧ _); refine ⟨_, rfl, ?_⟩)
  | ((with_reducible show ∃ _, D.int _ = D.int _ ∧ _); refine ⟨_, rfl, ?_⟩)
  | ((with_reducible show ∃ _, D.str _ = D.str _ ∧ _); refine ⟨_, rfl, ?_⟩)
  | ((with_reducible show ∃ _, D.tup _ = D.tup _ ∧ _); refine ⟨_, rfl, ?_⟩)
  | ((with_reducible show ∃ _, D.lst _ = D.lst _ ∧ _); refine ⟨_, rfl, ?_⟩)
  | with_reducible refine wt_tru ?_
  | with_reducible refine list_lst ?_
  | with_reducible refine list_tup ?_
  | with_reducible refine we_makeS ?_
  | with_reducible refine we_makeR ?_
  | with_reducible refine we_smethS ?_
  | with_reducible refine iteNT ?_
  | with_reducible refine iteNF ?_
  | ((with_reducible show if true = true then _ else _); rw [if_pos rfl])
  | ((with_reducible show if false = true then _ else _); rw [if_neg Bool.false_ne_true])
  | ((with_reducible show List.length _ ≤ 1000000 ∧ _); refine ⟨?_, ?_⟩; (focus (simp; done)))
  | fail "no step")
local macro_rules | `(tactic| walk_at "w") => `(tactic| repeat (walk_at "w1"))
local macro_rules | `(tactic| walk_at "ws") => `(tactic| repeat ((fail_if_success (with_reducible show We _ _ (tChain _ _ _ _ _) _ _ _)); (fail_if_success (with_reducible show Wt _ _ (tAnd _ _) _ _ _)); (fail_if_success (with_reducible show We _ _ (tOrT _ _ _) _ _ _)); walk_at "w1"))

theorem cutD_to {xs : List D} {k : Nat} (h : k ≤ xs.length) : cutD xs none (some (k : Int)) = xs.take k := by
  unfold cutD
  rw [HT.sIx_nat, HT.sIx_none, Nat.min_eq_left h]; rfl
theorem cutD_from {xs : List D} {k : Nat} (h : k ≤ xs.length) : cutD xs (some (k : Int)) none = xs.drop k := by
  unfold cutD
  rw [HT.sIx_nat, HT.sIx_none, Nat.min_eq_left h]
  exact List.take_of_length_le (by rw [List.length_drop]; exact Nat.le_refl _)
abbrev sD (l : List Nat) : D := .str (mk l)
def smD (w : Int) (s : Int) (r : List Nat) : List (List Nat) := if w = 2 then [if s % 2 = 0 then [] else [110, 101, 119], r] else if w = 3 then [] else [r]
theorem mk_app (a b : List Nat) : mk a ++ mk b = mk (a ++ b) := TL.ext_tl ((TL.tl_append _ _).trans rfl)
theorem suf_len {u : List Nat} (h : u ∈ sufs) : u.length ≤ 1 := by
  simp only [sufs, List.mem_cons, List.not_mem_nil, or_false] at h
  rcases h with rfl | rfl | rfl <;> decide
theorem smD_mem (w s : Int) (r : List Nat) : ∀ z ∈ smD w s r, z = r ∨ z.length ≤ 3 := fun z hz => by
  unfold smD at hz
  split at hz
  · simp only [List.mem_cons, List.not_mem_nil, or_false] at hz
    rcases hz with rfl | rfl
    · right; split <;> decide
    · exact .inl rfl
  · split at hz
    · cases hz
    · rw [List.mem_singleton.mp hz]; exact .inl rfl
theorem all_bd {x r r' : List Nat} {P Q : List (List Nat)} {w s : Int} (hx : Mx.lns x = P ++ r :: Q) (hl : x.length ≤ 100) (hr : r'.length ≤ 101) {z : List Nat} (hz : z ∈ P ++ (smD w s r' ++ Q)) : z.length ≤ 200 := by
  rcases List.mem_append.mp hz with q | q
  · have := lns_len (l := x) (r := z) (by rw [hx]; exact List.mem_append_left _ q); omega
  · rcases List.mem_append.mp q with q | q
    · rcases smD_mem w s r' z q with e | e
      · rw [e]; omega
      · omega
    · have := lns_len (l := x) (r := z) (by rw [hx]; exact List.mem_append_right _ (List.mem_cons_of_mem _ q)); omega
theorem sum_app (a b : List (List Nat)) : ((a ++ b).map List.length).sum = (a.map List.length).sum + (b.map List.length).sum := by rw [List.map_append, List.sum_append]
theorem jn_big {x r r' : List Nat} {P Q ss : List (List Nat)} (hx : Mx.lns x = P ++ r :: Q) (hl : x.length ≤ 100) (hr : r'.length ≤ 101) (hm : ∀ z ∈ ss, z = r' ∨ z.length ≤ 3) (hs : ss.length ≤ 2) : (jn (P ++ (ss ++ Q))).length ≤ 900 := by
  have h1 := len_jn (zs := P ++ r :: Q) (by simp)
  rw [← hx, jn_lns] at h1
  have h0 : ((Mx.lns x).length : Int) = (P.length : Int) + Q.length + 1 := by rw [hx]; simp; omega
  have h2 : ((Mx.lns x).map List.length).sum = (P.map List.length).sum + (r.length + (Q.map List.length).sum) := by rw [hx, sum_app, List.map_cons, List.sum_cons]
  have hP : (ss.map List.length).sum ≤ 202 := by
    have : ∀ zs : List (List Nat), (∀ z ∈ zs, z.length ≤ 101) → (zs.map List.length).sum ≤ 101 * zs.length := fun zs => by
      induction zs with
      | nil => intro _; exact Nat.zero_le _
      | cons z zs ih =>
        intro hz
        have a1 := ih fun y hy => hz y (List.mem_cons_of_mem _ hy)
        have a2 := hz z (List.mem_cons_self ..)
        rw [List.map_cons, List.sum_cons, List.length_cons, Nat.mul_add]
        omega
    have := this ss fun z hz => by
      rcases hm z hz with e | e
      · rw [e]; exact hr
      · omega
    have h3 : 101 * ss.length ≤ 101 * 2 := Nat.mul_le_mul (Nat.le_refl _) hs
    omega
  by_cases n0 : P ++ (ss ++ Q) = []
  · rw [n0]; exact Nat.zero_le _
  · have h4 := len_jn n0
    rw [sum_app, sum_app] at h4
    simp only [List.length_append] at h4
    omega
theorem changed_tail {n : Nat} {P0 : D → Nat → Prop} {a : Addr} {x r r' : List Nat} {P Q : List (List Nat)} {w s f : Int} {d8 d9 : Option D} (hx : Mx.lns x = P ++ r :: Q) (hl : x.length ≤ 100) (hr : r'.length ≤ 101) (w0 : 0 ≤ w) (w1 : w < 6) (s0 : 0 ≤ s)
    (h : ∀ (u : List Nat), u ∈ sufs → w < 5 → P0 (sD (jn (P ++ (smD w s r' ++ Q)) ++ u)) n) (h5 : P0 (sD x) n) :
    Ws K Z     (tSeq (tAsg (tOp (rIx K) (tLst (tCons (tLst (tCons (tVar 5) tNil)) (tCons (tLst (tCons (tVar 5) tNil)) (tCons (tLst (tCons (tOp (rIx K) (tLst (tCons (tC (.str (PySem.Str.ofString ""))) (tCons (tC (.str (PySem.Str.ofString "new"))) tNil))) (tOp (rI (fun _ j => 0 < j) fun i j => .int (i % j)) (tCB (rInt1) (tCons (tVar 6) tNil)) (tC (.int 2)))) (tCons (tVar 5) tNil))) (tCons (tLst tNil) (tCons (tLst (tCons (tVar 5) tNil)) (tCons (tLst (tCons (tVar 5) tNil)) tNil))))))) (tVar 3)) (gName 10))
    (tSeq (tAsg (tOp (rAddU K) (tOp (rAddU K) (tSl (rSlU K) (tVar 2) tNoPart (tPart (tVar 4))) (tVar 10)) (tSl (rSlU K) (tVar 2) (tPart (tOp (rAddU K) (tVar 4) (tC (.int 1)))) tNoPart)) (gName 2))
    (tRet (tIf (tTest (tOp (rLtP K) (tVar 3) (tC (.int 5)))) (tOp (rAddU K) (tM1 (rJoin K) (tC (.str (PySem.Str.ofString "\n"))) (tVar 2)) (tOp (rIx K) (tLst (tCons (tC (.str (PySem.Str.ofString ""))) (tCons (tC (.str (PySem.Str.ofString "\n"))) (tCons (tC (.str (PySem.Str.ofString " "))) tNil)))) (tCall (spD K (R__law_pick A)) [] E0 (tCons (tVar 0) (tCons (tC (.int 3)) tNil))))) (tVar 1))))) [some (.strm a (.nats 2)), some (sD x), some (.lst ((Mx.lns x).map fun l => sD l)), some (.int w), some (.int (P.length : Nat)), some (sD r'), some (.int s), some (.int f), d8, d9, none] n { nx := fun _ m => P0 .non m, rt := P0 } := by
  have e6 : ∀ k : Nat, k < 6 → [D.lst [sD r'], D.lst [sD r'], D.lst [sD (if s % 2 = 0 then [] else [110, 101, 119]), sD r'], D.lst [], D.lst [sD r'], D.lst [sD r']][k]? = some (D.lst ((smD (k : Nat) s r').map sD)) := fun k hk => by
    have : k = 0 ∨ k = 1 ∨ k = 2 ∨ k = 3 ∨ k = 4 ∨ k = 5 := by omega
    rcases this with rfl | rfl | rfl | rfl | rfl | rfl <;> rfl
  have e2 : [D.str (Str.ofString ""), D.str (Str.ofString "new")][(s % 2).toNat]? = some (sD (if s % 2 = 0 then [] else [110, 101, 119])) := by
    have : s % 2 = 0 ∨ s % 2 = 1 := by omega
    rcases this with q | q
    · rw [if_pos q, q]; show some (D.str (Str.ofString "")) = some (D.str _); rw [em_is]
    · rw [if_neg (by omega), q]; show some (D.str (Str.ofString "new")) = some (D.str _); rw [show Str.ofString "new" = mk [110, 101, 119] by decide +kernel]
  obtain ⟨wn, rfl⟩ := Int.eq_ofNat_of_zero_le w0
  have hw : wn < 6 := by omega
  walk_at "w"
  refine ix_lst (n := 0) (by omega) e2 ?_
  walk_at "w"
  repeat (refine ⟨by decide, ?_⟩; walk_at "w")
  refine ix_lst (n := 0) (by omega) (e6 wn hw) ?_
  walk_at "w"
  have hlen : P.length + 1 + Q.length ≤ 101 := by
    have := @lns_cnt x
    rw [hx, List.length_append, List.length_cons] at this
    omega
  have m1 : (Mx.lns x).map (fun l => sD l) = P.map sD ++ (sD r :: Q.map sD) := by rw [hx, List.map_append, List.map_cons]
  rw [m1]
  rw [show (some ((P.length : Nat) : Int)) = some (((P.map sD).length : Nat) : Int) by rw [List.length_map], cutD_to (by rw [List.length_append]; omega), List.take_left]
  have hsm : (smD (wn : Int) s r').length ≤ 2 := by unfold smD; split <;> (try split) <;> simp
  refine add_lst (by rw [List.length_map, List.length_map]; omega) ?_
  walk_at "w"
  rw [show (some (((P.length : Nat) : Int) + 1)) = some (((P.map sD).length + 1 : Nat) : Int) by rw [List.length_map]; rfl, cutD_from (by rw [List.length_append, List.length_cons]; omega), List.drop_append, List.drop_of_length_le (by omega), Nat.add_sub_cancel_left, List.drop_one, List.tail_cons, List.nil_append]
  refine add_lst (by simp only [List.length_append, List.length_map]; omega) ?_
  walk_at "w"
  refine iteD (fun q => ?_) (fun q => ?_)
  · walk_at "w"
    rw [show (P.map sD ++ (smD (wn : Int) s r').map sD) ++ Q.map sD = ((P ++ (smD (wn : Int) s r' ++ Q)).map mk).map D.str by rw [List.map_map, List.map_append, List.map_append, List.append_assoc]; rfl]
    refine mt_joinD ?_ ?_
    · have b2 := @sum_bd ((P ++ (smD (wn : Int) s r' ++ Q)).map mk) 200 fun z hz => by
        obtain ⟨l, hh, rfl⟩ := List.mem_map.mp hz
        rw [mk_len]
        exact all_bd hx hl hr hh
      have e1 : (Str.ofString "\n").length = 1 := by decide +kernel
      rw [e1]
      simp only [List.length_map, List.length_append] at b2 ⊢
      omega
    rw [join_nl]
    walk_at "w"
    refine ⟨a, 3, rfl, by decide, by decide, fun v v0 v1 => ?_⟩
    obtain ⟨u, hu, e3⟩ : ∃ u, u ∈ sufs ∧ [D.str (Str.ofString ""), D.str (Str.ofString "\n"), D.str (Str.ofString " ")][v.toNat]? = some (sD u) := by
      have : v = 0 ∨ v = 1 ∨ v = 2 := by omega
      rcases this with rfl | rfl | rfl
      · exact ⟨[], by simp [sufs], by show some (D.str (Str.ofString "")) = _; rw [em_is]⟩
      · exact ⟨[10], by simp [sufs], by show some (D.str (Str.ofString "\n")) = _; rw [nl_is]⟩
      · exact ⟨[32], by simp [sufs], by show some (D.str (Str.ofString " ")) = some (D.str _); rw [show Str.ofString " " = mk [32] by decide +kernel]⟩
    refine ix_lst (n := 0) v0 e3 ?_
    have hj := jn_big hx hl hr (smD_mem (wn : Int) s r') hsm
    refine add_str (by rw [mk_len, mk_len]; have := suf_len hu; omega) ?_
    rw [mk_app]
    exact h u hu q
  · walk_at "w"
    exact h5
end
end Lw

namespace Lw
open PySem L2 StX DL MP
section
variable {K : PySem.W.Frag} [Tb K] {Z : ZX} {A : Ad}
/-- one step -/
local macro_rules | `(tactic| walk_at "w1") => `(tactic| first
  | with_reducible refine ws_seq ?_
  | ((with_reducible show Ws _ _ (tAsg (tLst tNil) (gName _)) _ _ _); refine ws_setX (wx_lst (wa_nil ⟨Nat.zero_le _, ?_⟩)))
  | ((with_reducible show Ws _ _ (tAsg tDNewK (gName _)) _ _ _); refine ws_setX (wx_dnew ?_))
  | with_reducible refine ws_parX ?_
  | with_reducible refine ws_par3X ?_
  | ((with_reducible show Wx _ _ (tLst tNil) _ _ _); refine wx_lst (wa_nil ⟨Nat.zero_le _, ?_⟩))
  | ((with_reducible show Wx _ _ tDNewK _ _ _); refine wx_dnew ?_)
  | ((with_reducible show We _ _ tDNewK _ _ _); refine we_dnew ?_)
  | with_reducible refine wx_we ?_
  | with_reducible refine ws_break ?_
  | with_reducible refine ws_cont ?_
  | with_reducible refine ws_retN ?_
  | with_reducible refine ws_if ?_
  | with_reducible refine ws_ret ?_
  | ((fail_if_success (with_reducible show Ws _ _ (tDrop (tBM _ _ _ _ _)) _ _ _)); (with_reducible refine ws_drop ?_))
  | with_reducible refine ws_next ?_
  | with_reducible refine ws_par ?_
  | ((fail_if_success (with_reducible show Ws _ _ (tAsg _ (gSub _ _ _)) _ _ _)); (with_reducible refine ws_asg ?_))
  | with_reducible refine wg_name ?_
  | with_reducible refine we_int ?_
  | with_reducible refine we_bl ?_
  | with_reducible refine we_non ?_
  | with_reducible refine we_str ?_
  | with_reducible refine we_ty ?_
  | with_reducible refine we_cls ?_
  | with_reducible refine we_cmethX ?_
  | with_reducible refine we_cmeth ?_
  | with_reducible refine we_cmethN ?_
  | ((with_reducible show ∃ _, D.str _ = D.str _ ∧ _ ∧ _); refine ⟨_, rfl, ?_, ?_⟩; (focus (first | assumption | omega)))
  | ((with_reducible show We _ _ (tVar _) _ _ _); refine we_var rfl rfl ?_)
  | ((with_reducible show We _ _ (tVar _) _ _ _); refine we_var rfl (mut_td _) ?_)
  | ((with_reducible show We _ _ (tVar _) _ _ _); refine we_var rfl (mut_tg _) ?_)
  | ((with_reducible show We _ _ (tVar _) _ _ _); refine we_var rfl (mut_w _) ?_)
  | ((with_reducible show We _ _ (tVar _) _ _ _); refine we_var rfl (mut_lm _) ?_)
  | ((with_reducible show We _ _ (tVar _) _ _ _); refine we_var rfl (mut_b _) ?_)
  | ((fail_if_success (with_reducible show We _ _ (tOp (rInP _) _ (tVar _)) _ _ _)); with_reducible refine we_op ?_)
  | with_reducible refine we_un ?_
  | with_reducible refine we_lenO ?_
  | with_reducible refine we_cb ?_
  | with_reducible refine we_callX ?_
  | with_reducible refine we_call ?_
  | with_reducible refine we_callNX ?_
  | with_reducible refine we_callN ?_
  | with_reducible refine we_methN ?_
  | with_reducible refine we_callON ?_
  | with_reducible refine we_callOX ?_
  | with_reducible refine ws_raise ?_
  | with_reducible refine we_exf ?_
  | with_reducible refine we_tup ?_
  | with_reducible refine we_lst ?_
  | with_reducible refine we_sl ?_
  | with_reducible refine we_m1 ?_
  | with_reducible refine we_andV ?_
  | with_reducible refine we_orV ?_
  | with_reducible refine we_notV ?_
  | with_reducible refine we_if ?_
  | with_reducible refine we_chain ?_
  | with_reducible refine we_fld ?_
  | with_reducible refine we_methX ?_
  | with_reducible refine we_meth ?_
  | with_reducible refine we_prop ?_
  | with_reducible refine we_callO' ?_
  | with_reducible refine we_make ?_
  | with_reducible refine wt_test ?_
  | with_reducible refine wt_B ?_
  | with_reducible refine wt_yes ?_
  | with_reducible refine wt_and ?_
  | with_reducible refine wt_or ?_
  | with_reducible refine wt_not ?_
  | with_reducible refine wa_nil ?_
  | with_reducible refine wa_cons ?_
  | with_reducible refine wo_none ?_
  | with_reducible refine wo_some ?_
  | with_reducible refine add_int ?_
  | with_reducible refine sub_int ?_
  | with_reducible refine neg_int ?_
  | ((with_reducible refine mod_int ?_ ?_); (focus (first | assumption | omega)))
  | ((with_reducible refine mul_int ?_ ?_); (focus (first | exact Or.inl ⟨by omega, by omega⟩ | exact Or.inr ⟨by omega, by omega⟩)))
  | ((with_reducible refine fdiv_int ?_ ?_); (focus (exact ⟨by omega, by omega⟩)))
  | ((with_reducible refine pow_int ?_ ?_); (focus (exact ⟨by decide, by decide, by decide⟩)))
  | with_reducible refine is_non ?_
  | with_reducible refine not_non ?_
  | with_reducible refine eq_int ?_
  | with_reducible refine ne_int ?_
  | with_reducible refine eq_pos ?_
  | with_reducible refine ne_pos ?_
  | with_reducible refine ne_nn ?_
  | with_reducible refine ne_np ?_
  | with_reducible refine ne_pn ?_
  | with_reducible refine eq_str ?_
  | with_reducible refine ne_str ?_
  | with_reducible refine eq_bl ?_
  | with_reducible refine ne_bl ?_
  | with_reducible refine lt_int ?_
  | with_reducible refine gt_int ?_
  | with_reducible refine le_int ?_
  | with_reducible refine ge_int ?_
  | with_reducible refine lt_pos ?_
  | with_reducible refine gt_pos ?_
  | with_reducible refine le_pos ?_
  | with_reducible refine ge_pos ?_
  | with_reducible refine int_int ?_
  | with_reducible refine min_int ?_
  | with_reducible refine max_int ?_
  | with_reducible refine len_lst ?_
  | with_reducible refine len_tup ?_
  | ((with_reducible refine len_str ?_ ?_); (focus (first | assumption | omega)))
  | with_reducible refine tuple_lst ?_
  | with_reducible refine tuple_tup ?_
  | with_reducible refine sl_lst ?_
  | with_reducible refine sl_tup ?_
  | ((with_reducible refine sl_str ?_ ?_); (focus (first | assumption | omega)))
  | with_reducible refine mt_countD ?_
  | with_reducible refine mt_rfindD ?_
  | ((with_reducible refine mt_splitD ?_ ?_ ?_); (focus rfl); (focus (first | assumption | omega)))
  | ((with_reducible show Op _ (rIx _) (D.tup _) (D.int _) _); refine ix_tup (by decide) rfl ?_)
  | ((with_reducible show Op _ (rIx _) (D.lst _) (D.int _) _); refine ix_lst (by decide) rfl ?_)
  | ((with_reducible show Cb _ (rIsi _) [D.int _, D.ty _] _); first | refine isiI (r := true) (by decide +kernel) ?_ | refine isiI (r := false) (by decide +kernel) ?_)
  | ((with_reducible show Cb _ (rIsi _) [D.str _, D.ty _] _); first | refine isiS (r := true) (by decide +kernel) ?_ | refine isiS (r := false) (by decide +kernel) ?_)
  | ((with_reducible show Cb _ (rIsi _) [D.tup _, D.ty _] _); first | refine isiT (r := true) (by decide +kernel) ?_ | refine isiT (r := false) (by decide +kernel) ?_)
  | ((with_reducible show Wg _ _ (gTup _ _ _) _ _ _); refine wg_tup rfl rfl ?_)
  | ((with_reducible show Wgs _ _ gNil _ _ _); refine wgs_nil rfl ?_)
  | ((with_reducible show Wgs _ _ (gCons _ _) _ _ _); refine wgs_cons rfl ?_)
  | ((with_reducible show ∃ _, D.bl _ = D.bl _ ∧ _); refine ⟨_, rfl, ?_⟩)
  | ((with_reducible show ∃ _, D.int _ = D.int _ ∧ _); refine ⟨_, rfl, ?_⟩)
  | ((with_reducible show ∃ _, D.str _ = D.str _ ∧ _); refine ⟨_, rfl, ?_⟩)
  | ((with_reducible show ∃ _, D.tup _ = D.tup _ ∧ _); refine ⟨_, rfl, ?_⟩)
  | ((with_reducible show ∃ _, D.lst _ = D.lst _ ∧ _); refine ⟨_, rfl, ?_⟩)
  | with_reducible refine wt_tru ?_
  | with_reducible refine list_lst ?_
  | with_reducible refine list_tup ?_
  | with_reducible refine we_makeS ?_
  | with_reducible refine we_makeR ?_
  | with_reducible refine we_smethS ?_
  | with_reducible refine iteNT ?_
  | with_reducible refine iteNF ?_
  | ((with_reducible show if true = true then _ else _); rw [if_pos rfl])
  | ((with_reducible show if false = true then _ else _); rw [if_neg Bool.false_ne_true])
  | ((with_reducible show List.length _ ≤ 1000000 ∧ _); refine ⟨?_, ?_⟩; (focus (simp; done)))
  | fail "no step")
local macro_rules | `(tactic| walk_at "w") => `(tactic| repeat (walk_at "w1"))
local macro_rules | `(tactic| walk_at "ws") => `(tactic| repeat ((fail_if_success (with_reducible show We _ _ (tChain _ _ _ _ _) _ _ _)); (fail_if_success (with_reducible show Wt _ _ (tAnd _ _) _ _ _)); (fail_if_success (with_reducible show We _ _ (tOrT _ _ _) _ _ _)); walk_at "w1"))

theorem cut_from' (x : Str) (k : Nat) : cutS x (some (k : Int)) none = mk ((tl x).drop k) := by
  by_cases h : k ≤ x.length
  · exact cut_from x k h
  · have e : cutS x (some (k : Int)) none = cutS x (some ((x.length : Nat) : Int)) none := by
      unfold cutS
      rw [HT.sIx_nat, HT.sIx_nat, Nat.min_eq_right (by omega), Nat.min_self]
    rw [e, cut_from x x.length (Nat.le_refl _), len_tl, List.drop_length, List.drop_of_length_le (by rw [← len_tl]; omega)]
structure Good (w : Int) (r r' : List Nat) : Prop where
  no : 10 ∉ r'
  fp_ : r'.length = r.length → fp r = fp r' → r = r'
  le : r.length ≤ r'.length
  bd : r'.length ≤ 101
  eq_ : w = 2 → r' = r
theorem chg_all {x r r' : List Nat} {P Q : List (List Nat)} {w s : Int} (hx : Mx.lns x = P ++ r :: Q) (ht : Tx x) (g : Good w r r') {u : List Nat} (hu : u ∈ sufs) : Chg x (jn (P ++ (smD w s r' ++ Q)) ++ u) := by
  have hb : (jn (P ++ (smD w s r' ++ Q)) ++ u).length ≤ 1000 := by
    have h1 := jn_big hx ht.len g.bd (smD_mem w s r') (by unfold smD; split <;> (try split) <;> simp)
    have h2 := suf_len hu
    rw [List.length_append]
    omega
  unfold smD at hb ⊢
  by_cases h2 : w = 2
  · rw [if_pos h2] at hb ⊢
    have := g.eq_ h2
    subst this
    exact chg_more hx (by split <;> decide) hb
  · rw [if_neg h2] at hb ⊢
    by_cases h3 : w = 3
    · rw [if_pos h3] at hb ⊢
      exact chg_less hx ht.sg hu hb
    · rw [if_neg h3] at hb ⊢
      exact chg_row hx g.no g.fp_ g.le hu hb
theorem good_same {w : Int} {r : List Nat} (h : 10 ∉ r) (hl : r.length ≤ 100) : Good w r r := ⟨h, fun _ _ => rfl, Nat.le_refl _, by omega, fun _ => rfl⟩
theorem good_put {r : List Nat} {s : Nat} (h : 10 ∉ r) (hl : r.length ≤ 100) (hs : s ≤ r.length) (hsg : ∀ c ∈ r, c < 128) : Good 0 r (r.take s ++ [120] ++ r.drop (s + 1)) := by
  refine ⟨fun z => ?_, fun e f => ?_, ?_, ?_, fun z => by cases z⟩
  · rcases List.mem_append.mp z with z | z
    · rcases List.mem_append.mp z with z | z
      · exact h (List.mem_of_mem_take z)
      · rw [List.mem_singleton] at z; cases z
    · exact h (List.mem_of_mem_drop z)
  · have h1 : s < r.length := by simp at e; omega
    have er : r = r.take s ++ r[s] :: r.drop (s + 1) := by rw [← List.drop_eq_getElem_cons h1, List.take_append_drop]
    rw [List.append_assoc, List.singleton_append] at f ⊢
    have q : fp (r.take s ++ r[s] :: r.drop (s + 1)) = fp (r.take s ++ 120 :: r.drop (s + 1)) := by rw [← er]; exact f
    have hc := fp_put (by rw [List.length_take]; omega) (by have := hsg _ (List.getElem_mem h1); omega) (by decide) q
    rw [← hc]
    exact er
  · simp; omega
  · simp; omega
theorem cut2 {r : List Nat} {s f : Nat} (h1 : s < f) (h2 : f < r.length) : r = r.take s ++ r[s] :: ((r.drop (s + 1)).take (f - (s + 1)) ++ r[f] :: r.drop (f + 1)) := by
  have e1 : r.drop (s + 1) = (r.drop (s + 1)).take (f - (s + 1)) ++ r.drop f := by
    conv => lhs; rw [← List.take_append_drop (f - (s + 1)) (r.drop (s + 1))]
    rw [List.drop_drop, show s + 1 + (f - (s + 1)) = f by omega]
  conv => lhs; rw [← List.take_append_drop s r, List.drop_eq_getElem_cons (show s < r.length by omega), e1, List.drop_eq_getElem_cons h2]
theorem good_swap {r : List Nat} {s f : Nat} (h : 10 ∉ r) (hl : r.length ≤ 100) (h1 : s < f) (h2 : f < r.length) (hsg : ∀ c ∈ r, c < 128) : Good 1 r (r.take s ++ r[f] :: ((r.drop (s + 1)).take (f - (s + 1)) ++ r[s] :: r.drop (f + 1))) := by
  have er := cut2 h1 h2
  refine ⟨fun z => ?_, fun e q => ?_, ?_, ?_, fun z => by cases z⟩
  · rcases List.mem_append.mp z with z | z
    · exact h (List.mem_of_mem_take z)
    · rcases List.mem_cons.mp z with z | z
      · exact h (z ▸ List.getElem_mem h2)
      · rcases List.mem_append.mp z with z | z
        · exact h (List.mem_of_mem_drop (List.mem_of_mem_take z))
        · rcases List.mem_cons.mp z with z | z
          · exact h (z ▸ List.getElem_mem (show s < r.length by omega))
          · exact h (List.mem_of_mem_drop z)
  · have q2 : fp (r.take s ++ r[s] :: ((r.drop (s + 1)).take (f - (s + 1)) ++ r[f] :: r.drop (f + 1))) = fp (r.take s ++ r[f] :: ((r.drop (s + 1)).take (f - (s + 1)) ++ r[s] :: r.drop (f + 1))) := (congrArg fp er).symm.trans q
    have hc := fp_swap (by simp only [List.length_take, List.length_drop]; omega) (by have := hsg _ (List.getElem_mem (show s < r.length by omega)); omega) (by have := hsg _ (List.getElem_mem h2); omega) q2
    rw [hc] at er
    rw [hc]
    exact er
  · simp; omega
  · simp; omega
theorem len__law_changed : ∀ ds n P X, R__law_changed A ds n P X → ds.length = 2 := by rintro ds n P X ⟨_, _, rfl, -⟩; rfl
theorem w__law_changed (T : TxtC K A) : ∀ Z ds n P, R__law_changed A ds n P Z.X → Ws K Z (t__law_changed K A) (startD 11 ds) n { nx := fun _ m => P .non m, rt := P } := by
  rintro Z ds n P0 ⟨a, x, rfl, hx, h⟩
  unfold t__law_changed
  have hz : (mk x).length ≤ 1000000 := by rw [mk_len]; have := hx.len; omega
  walk_at "w"
  rw [split_nl, List.map_map]
  refine ⟨a, 6, rfl, by decide, by decide, fun w w0 w1 => ?_⟩
  walk_at "w"
  rw [List.length_map]
  have hcnt := @lns_cnt (tl (mk x))
  have hne : 0 < (Mx.lns (tl (mk x))).length := List.length_pos_iff.mpr (Mx.lns_ne _)
  have htl : (tl (mk x)).length ≤ 100 := hx.len
  refine ⟨a, _, rfl, by omega, by omega, fun at_ a0 a1 => ?_⟩
  obtain ⟨k, rfl⟩ := Int.eq_ofNat_of_zero_le a0
  obtain ⟨P, Q, r, hxx, rfl, hr⟩ := split_at (x := x) (a := k) (by have : tl (mk x) = x := rfl; rw [this] at a1; omega)
  walk_at "w"
  refine ix_lst (n := 0) (d := sD r) (by omega) (by rw [Int.toNat_natCast, List.getElem?_map]; show Option.map _ (Mx.lns x)[P.length]? = _; rw [hr]; rfl) ?_
  have hrb : r.length ≤ 100 := Nat.le_trans (lns_len (l := x) (r := r) (by rw [hxx]; simp)) hx.len
  have hr10 : 10 ∉ r := (no10 hxx).2.1
  have hrsg : ∀ c ∈ r, c < 128 := fun c hc => hx.sg c (lns_sg (l := x) (r := r) (by rw [hxx]; simp) hc)
  have hzr : (mk r).length ≤ 1000000 := by rw [mk_len]; omega
  walk_at "w"
  rw [mk_len]
  refine ⟨a, _, rfl, by omega, by omega, fun s s0 s1 => ?_⟩
  walk_at "w"
  rw [mk_len]
  refine ⟨a, _, rfl, by omega, by omega, fun f f0 f1 => ?_⟩
  obtain ⟨s, rfl⟩ := Int.eq_ofNat_of_zero_le s0
  obtain ⟨f, rfl⟩ := Int.eq_ofNat_of_zero_le f0
  have fin : ∀ {r' : List Nat} {d8 d9 : Option D}, Good w r r' → Ws K Z     (tSeq (tAsg (tOp (rIx K) (tLst (tCons (tLst (tCons (tVar 5) tNil)) (tCons (tLst (tCons (tVar 5) tNil)) (tCons (tLst (tCons (tOp (rIx K) (tLst (tCons (tC (.str (PySem.Str.ofString ""))) (tCons (tC (.str (PySem.Str.ofString "new"))) tNil))) (tOp (rI (fun _ j => 0 < j) fun i j => .int (i % j)) (tCB (rInt1) (tCons (tVar 6) tNil)) (tC (.int 2)))) (tCons (tVar 5) tNil))) (tCons (tLst tNil) (tCons (tLst (tCons (tVar 5) tNil)) (tCons (tLst (tCons (tVar 5) tNil)) tNil))))))) (tVar 3)) (gName 10))
    (tSeq (tAsg (tOp (rAddU K) (tOp (rAddU K) (tSl (rSlU K) (tVar 2) tNoPart (tPart (tVar 4))) (tVar 10)) (tSl (rSlU K) (tVar 2) (tPart (tOp (rAddU K) (tVar 4) (tC (.int 1)))) tNoPart)) (gName 2))
    (tRet (tIf (tTest (tOp (rLtP K) (tVar 3) (tC (.int 5)))) (tOp (rAddU K) (tM1 (rJoin K) (tC (.str (PySem.Str.ofString "\n"))) (tVar 2)) (tOp (rIx K) (tLst (tCons (tC (.str (PySem.Str.ofString ""))) (tCons (tC (.str (PySem.Str.ofString "\n"))) (tCons (tC (.str (PySem.Str.ofString " "))) tNil)))) (tCall (spD K (R__law_pick A)) [] E0 (tCons (tVar 0) (tCons (tC (.int 3)) tNil))))) (tVar 1))))) [some (.strm a (.nats 2)), some (sD x), some (.lst ((Mx.lns x).map fun l => sD l)), some (.int w), some (.int (P.length : Nat)), some (sD r'), some (.int (s : Nat)), some (.int (f : Nat)), d8, d9, none] n { nx := fun _ m => P0 .non m, rt := P0 } := fun {r' d8 d9} g =>
    changed_tail hxx hx.len g.bd w0 w1 s0 (fun u hu _ => h _ (chg_all hxx hx g hu)) (h _ ⟨by have := hx.len; omega, fun _ e => absurd rfl e⟩)
  walk_at "w"
  by_cases q0 : w = 0
  · subst q0
    rw [decide_eq_true rfl]
    walk_at "w"
    rw [show Str.ofString "x" = mk [120] by decide +kernel, cut_to _ _ (by rw [mk_len]; omega), show tl (mk r) = r from rfl]
    refine add_str (by rw [mk_len, mk_len, List.length_take]; show _ + 1 ≤ _; omega) ?_
    rw [mk_app]
    walk_at "w"
    rw [show (some (((s : Nat) : Int) + 1)) = some ((s + 1 : Nat) : Int) from rfl, cut_from', show tl (mk r) = r from rfl]
    refine add_str (by rw [mk_len, mk_len, List.length_append, List.length_take, List.length_drop]; show _ + 1 + _ ≤ _; omega) ?_
    rw [mk_app]
    walk_at "w"
    rw [decide_eq_false (show ¬ ((0 : Int) = 1) by decide)]
    repeat rw [if_neg Bool.false_ne_true]
    refine ws_next ?_
    exact fin (good_put (s := s) hr10 hrb (by omega) hrsg)
  · rw [decide_eq_false q0]
    walk_at "w"
    by_cases q1 : w = 1
    · subst q1
      rw [decide_eq_true rfl]
      walk_at "w"
      by_cases q2 : (s : Int) < (f : Int)
      · rw [decide_eq_true q2]
        walk_at "w"
        rw [mk_len]
        by_cases q3 : (f : Int) < (r.length : Nat)
        · rw [decide_eq_true q3]
          have hs : s < r.length := by omega
          have hf : f < r.length := by omega
          walk_at "w"
          rw [cut_to _ _ (by rw [mk_len]; omega), show tl (mk r) = r from rfl]
          refine ix_str (c := r[f]) hzr (by omega) (by rw [Int.toNat_natCast]; exact List.getElem?_eq_getElem hf) ?_
          have eA : (⟨#[r[f]]⟩ : Str) = mk [r[f]] := rfl
          have eB : (⟨#[r[s]]⟩ : Str) = mk [r[s]] := rfl
          rw [eA]
          refine add_str (by rw [mk_len, mk_len, List.length_take]; show _ + 1 ≤ _; omega) ?_
          rw [mk_app]
          walk_at "w"
          refine ix_str (c := r[s]) hzr (by omega) (by rw [Int.toNat_natCast]; exact List.getElem?_eq_getElem hs) ?_
          walk_at "w"
          rw [show (some (((f : Nat) : Int) + 1)) = some ((f + 1 : Nat) : Int) from rfl, cut_from', show tl (mk r) = r from rfl, eB]
          refine add_str (by rw [mk_len, mk_len, List.length_drop]; show 1 + _ ≤ _; omega) ?_
          rw [mk_app]
          walk_at "w"
          rw [show (some (((s : Nat) : Int) + 1)) = some ((s + 1 : Nat) : Int) from rfl, cut_mid _ _ _ (by rw [mk_len]; omega) (by rw [mk_len]; omega), show tl (mk r) = r from rfl]
          refine add_str (by rw [mk_len, mk_len]; simp only [List.length_append, List.length_take, List.length_drop, List.length_singleton]; omega) ?_
          rw [mk_app]
          walk_at "w"
          refine add_str (by rw [mk_len, mk_len]; simp only [List.length_append, List.length_take, List.length_drop, List.length_singleton]; omega) ?_
          rw [mk_app]
          refine wg_name ?_
          have g := good_swap hr10 hrb (show s < f by omega) hf hrsg
          rw [show r.take s ++ r[f] :: ((r.drop (s + 1)).take (f - (s + 1)) ++ r[s] :: r.drop (f + 1)) = r.take s ++ [r[f]] ++ (r.drop (s + 1)).take (f - (s + 1)) ++ ([r[s]] ++ r.drop (f + 1)) by simp] at g
          exact fin g
        · rw [decide_eq_false q3]
          repeat rw [if_neg Bool.false_ne_true]
          refine ws_next ?_
          exact fin (good_same hr10 hrb)
      · rw [decide_eq_false q2, if_neg Bool.false_ne_true]
        refine ⟨false, rfl, ?_⟩
        repeat rw [if_neg Bool.false_ne_true]
        refine ws_next ?_
        exact fin (good_same hr10 hrb)
    · rw [decide_eq_false q1]
      repeat rw [if_neg Bool.false_ne_true]
      refine ws_next ?_
      exact fin (good_same hr10 hrb)
theorem tx_big {x : List Nat} (h : Tx x) : x.length ≤ 100000 := Nat.le_trans h.len (by decide)
theorem chg_big {x y : List Nat} (h : Chg x y) : y.length ≤ 100000 := Nat.le_trans h.len (by decide)
theorem ne_fs {P : D → Prop} {o p : Option Nat} (h : P (.bl (!decide (o = p)))) : Op K (rNeP K) (fsD o) (fsD p) P := by
  have key : ∀ (d e : D) (dp ep : PyData), pd d = some dp → pd e = some ep → dp.plain = true → ep.plain = true → dp.depth ≤ 64 → (!PyData.eqv dp ep) = (!decide (o = p)) → Op K (rNeP K) d e P := fun d e dp ep h1 h2 h3 h4 h5 h6 => neP h1 h2 h3 h4 h5 (by rw [h6]; exact h)
  cases o with
  | none =>
    cases p with
    | none => exact key _ _ .none .none rfl rfl rfl rfl (by decide) rfl
    | some b => exact key _ _ .none (.int (b : Nat)) rfl rfl rfl rfl (by decide) (by simp [PyData.eqv])
  | some a =>
    cases p with
    | none => exact key _ _ (.int (a : Nat)) .none rfl rfl rfl rfl (by simp [PyData.depth]) (by simp [PyData.eqv])
    | some b => exact key _ _ (.int (a : Nat)) (.int (b : Nat)) rfl rfl rfl rfl (by simp [PyData.depth]) (by simp only [PyData.eqv, Option.some.injEq]; congr 1; rw [Bool.eq_iff_iff]; simp; exact Int.ofNat_inj)
theorem mut_fs (o : Option Nat) : isMut (fsD o) = false := by cases o <;> rfl
theorem non_fs (o : Option Nat) : isNonD (fsD o) = o.isNone := by cases o <;> rfl
theorem range_getD (l : List (Nat × Int)) : (List.range l.length).map (fun i => pD (l.getD i (0, 0))) = l.map pD := by
  apply List.ext_getElem?
  intro i
  rw [List.getElem?_map, List.getElem?_map]
  by_cases h : i < l.length
  · rw [List.getElem?_range h, List.getElem?_eq_getElem h]
    simp [List.getD, List.getElem?_eq_getElem h]
  · rw [List.getElem?_eq_none (by rw [List.length_range]; omega), List.getElem?_eq_none (by omega)]; rfl
theorem eqv_ints : ∀ l : List Int, PyData.eqvAll (l.map .int) (l.map .int) = true
  | [] => rfl
  | i :: l => by simp [PyData.eqvAll, PyData.eqv, eqv_ints l]
theorem ne_tints {P : D → Prop} (l : List Int) (h : P (.bl false)) : Op K (rNeP K) (.tup (l.map .int)) (.tup (l.map .int)) P :=
  neP (d := .tuple (l.map .int)) (e := .tuple (l.map .int)) (by rw [pd, pdsm D.int PyData.int (fun _ => rfl) l]; rfl) (by rw [pd, pdsm D.int PyData.int (fun _ => rfl) l]; rfl) (by rw [PyData.plain]; exact plainm PyData.int (fun _ => rfl) l) (by rw [PyData.plain]; exact plainm PyData.int (fun _ => rfl) l)
    (by rw [PyData.depth]; have := depthm PyData.int 10 (fun _ => by simp [PyData.depth]) l; omega) (by rw [show PyData.eqv (.tuple (l.map .int)) (.tuple (l.map .int)) = PyData.eqvAll (l.map .int) (l.map .int) by simp [PyData.eqv], eqv_ints]; exact h)
theorem len__law_right : ∀ ds n P X, R__law_right A ds n P X → ds.length = 1 := by rintro ds n P X ⟨_, rfl, -⟩; rfl
theorem w__law_right (T : TxtC K A) : ∀ Z ds n P, R__law_right A ds n P Z.X → Ws K Z (t__law_right K A) (startD 8 ds) n { nx := fun _ m => P .non m, rt := P } := by
  rintro Z ds n P ⟨a, rfl, h⟩
  unfold t__law_right
  walk_at "w"
  refine ⟨a, rfl, fun x hx => ?_⟩
  walk_at "w"
  refine ⟨a, x, rfl, hx, fun y hy => ?_⟩
  walk_at "w"
  refine ⟨x, rfl, tx_big hx, ?_⟩
  walk_at "w"
  refine ⟨x, rfl, tx_big hx, ?_⟩
  walk_at "w"
  have b1 := rows_len (tx_big hx)
  refine we_lcm (fun i : Nat => D.int (i : Nat)) (fun i => pD ((rows x).getD i (0, 0))) (List.range (rows x).length) (wi_range1 ?_)
  walk_at "w"
  refine ⟨_, rfl, x, rfl, tx_big hx, _, rfl, by omega, by omega, ?_⟩
  walk_at "w"
  refine ⟨_, rfl, ⟨by omega, by omega⟩, rng0_map _, by rw [List.length_range]; omega, fun i hi => ?_, ?_⟩
  · have hi2 := List.mem_range.mp hi
    refine wgc_name (by simp) ?_
    walk_at "w"
    refine ixO rfl fun n => ⟨x, i, (rows x).getD i (0, 0), rfl, tx_big hx, by rw [List.getD, List.getElem?_eq_getElem hi2]; rfl, rfl, rfl, rfl⟩
  rw [range_getD]
  walk_at "w"
  refine ne_plst ?_
  rw [decide_eq_true rfl]
  walk_at "w"
  refine ⟨_, rfl, x, rfl, tx_big hx, ?_⟩
  walk_at "w"
  refine we_lcm pD (fun p => D.int (p.1 : Nat)) (rows x) (wi_list ?_)
  walk_at "w"
  refine ⟨rfl, by omega, fun p hp => ?_, ?_⟩
  · refine wgc_name (by simp) ?_
    walk_at "w"
    refine ix_tup (d := .int (p.1 : Nat)) (by decide) rfl ?_
    exact ⟨rfl, rfl⟩
  walk_at "w"
  rw [show ((rows x).map fun p => D.int (p.1 : Nat)) = ((rows x).map fun p => ((p.1 : Nat) : Int)).map D.int by rw [List.map_map]; rfl]
  refine ne_tints _ ?_
  walk_at "w"
  refine ⟨_, rfl, x, rfl, tx_big hx, ?_⟩
  walk_at "w"
  refine we_lcm pD (fun p => D.int p.2) (rows x) (wi_list ?_)
  walk_at "w"
  refine ⟨rfl, by omega, fun p hp => ?_, ?_⟩
  · refine wgc_name (by simp) ?_
    walk_at "w"
    refine ix_tup (d := .int p.2) (by decide) rfl ?_
    exact ⟨rfl, rfl⟩
  walk_at "w"
  rw [show ((rows x).map fun p => D.int p.2) = ((rows x).map fun p => p.2).map D.int by rw [List.map_map]; rfl]
  refine ne_tints _ ?_
  walk_at "w"
  have hb := tx_big hx
  have hc := chg_big hy
  refine ⟨_, rfl, rfl, ?_⟩
  walk_at "w"
  refine ⟨x, x, rfl, hb, hb, ?_⟩
  rw [fdf_same]
  walk_at "w"
  rw [show (!isNonD (fsD none)) = false from rfl]
  walk_at "w"
  refine ⟨x, y, rfl, hb, hc, ?_⟩
  walk_at "w"
  refine ⟨_, rfl, rfl, ?_⟩
  walk_at "w"
  refine ⟨x, y, rfl, hb, hc, ?_⟩
  refine we_var (d := fsD (fdf (rows x) (rows y))) rfl (mut_fs _) ?_
  refine ne_fs ?_
  rw [decide_eq_true rfl]
  walk_at "w"
  refine ⟨y, rfl, hc, ?_⟩
  refine ⟨_, rfl, rfl, ?_⟩
  walk_at "w"
  refine ⟨y, x, rfl, hc, hb, ?_⟩
  refine we_var (d := fsD (fdf (rows x) (rows y))) rfl (mut_fs _) ?_
  rw [fdf_symm (rows y)]
  refine ne_fs ?_
  rw [decide_eq_true rfl]
  walk_at "w"
  refine ⟨y, rfl, hc, ?_⟩
  refine eqO rfl (.inr ⟨_, _, rfl, rfl, T.ty_Fingerprint⟩) T.nf_Fingerprint fun n => .inl ⟨x, y, rfl, rfl, _, rfl, ?_⟩
  refine we_op (we_var (d := fsD (fdf (rows x) (rows y))) rfl (mut_fs _) ?_)
  walk_at "w"
  rw [non_fs, show (fdf (rows x) (rows y)).isNone = decide (rows x = rows y) by rw [Bool.eq_iff_iff, Option.isNone_iff_eq_none, fdf_none, decide_eq_true_eq]]
  walk_at "w"
  rw [decide_eq_true (rfl : decide (rows x = rows y) = decide (rows x = rows y))]
  walk_at "w"
  refine eqO rfl (.inl ⟨"list", rfl, rfl⟩) T.nf_list_Fingerprint fun n => .inr (.inl ⟨x, _, rfl, rfl, _, rfl, ?_⟩)
  walk_at "w"
  refine eqO rfl (.inl ⟨"str", rfl, rfl⟩) T.nf_str_Fingerprint fun n => .inr (.inr ⟨x, _, rfl, rfl, _, rfl, ?_⟩)
  have hzx : (mk x).length ≤ 1000000 := by rw [mk_len]; omega
  have hzy : (mk y).length ≤ 1000000 := by rw [mk_len]; omega
  walk_at "w"
  rw [mk_len, mk_len]
  by_cases q1 : ((x.length : Nat) : Int) = (y.length : Nat)
  · rw [decide_eq_true q1]
    walk_at "w"
    by_cases q2 : mk x = mk y
    · rw [decide_eq_true q2]
      walk_at "w"
      exact h
    · rw [decide_eq_false q2]
      walk_at "w"
      rw [count_nl, count_nl, Mx.beh_cnt, Mx.beh_cnt]
      refine iteD (fun q3 => ?_) (fun q3 => ?_)
      · refine we_op (we_var (d := fsD (fdf (rows x) (rows y))) rfl (mut_fs _) ?_)
        walk_at "w"
        have hne := hy.df (by omega) (fun e => q2 (by rw [e])) (by have : (tl (mk x)).count 10 = (tl (mk y)).count 10 := by omega
                                                                   exact this)
        rw [non_fs, show (fdf (rows x) (rows y)).isNone = false by
          cases e : fdf (rows x) (rows y) with
          | none => exact absurd (fdf_none.mp e) hne
          | some k => rfl]
        exact h
      · walk_at "w"
        exact h
  · rw [decide_eq_false q1]
    walk_at "w"
    exact h
end
end Lw

namespace Lw
open PySem L2 StX DL MP
section
variable {K : PySem.W.Frag} [Tb K] {Z : ZX} {A : Ad}
/-- one step -/
local macro_rules | `(tactic| walk_at "w1") => `(tactic| first
  | with_reducible refine ws_seq ?_
  | ((with_reducible show Ws _ _ (tAsg (tLst tNil) (gName _)) _ _ _); refine ws_setX (wx_lst (wa_nil ⟨Nat.zero_le _, ?_⟩)))
  | ((with_reducible show Ws _ _ (tAsg tDNewK (gName _)) _ _ _); refine ws_setX (wx_dnew ?_))
  | with_reducible refine ws_parX ?_
  | with_reducible refine ws_par3X ?_
  | ((with_reducible show Wx _ _ (tLst tNil) _ _ _); refine wx_lst (wa_nil ⟨Nat.zero_le _, ?_⟩))
  | ((with_reducible show Wx _ _ tDNewK _ _ _); refine wx_dnew ?_)
  | ((with_reducible show We _ _ tDNewK _ _ _); refine we_dnew ?_)
  | with_reducible refine wx_we ?_
  | with_reducible refine ws_break ?_
  | with_reducible refine ws_cont ?_
  | with_reducible refine ws_retN ?_
  | with_reducible refine ws_if ?_
  | with_reducible refine ws_ret ?_
  | ((fail_if_success (with_reducible show Ws _ _ (tDrop (tBM _ _ _ _ _)) _ _ _)); (with_reducible refine ws_drop ?_))
  | with_reducible refine ws_next ?_
  | with_reducible refine ws_par ?_
  | ((fail_if_success (with_reducible show Ws _ _ (tAsg _ (gSub _ _ _)) _ _ _)); (with_reducible refine ws_asg ?_))
  | with_reducible refine wg_name ?_
  | with_reducible refine we_int ?_
  | with_reducible refine we_bl ?_
  | with_reducible refine we_non ?_
  | with_reducible refine we_str ?_
  | with_reducible refine we_ty ?_
  | with_reducible refine we_cls ?_
  | with_reducible refine we_cmethX ?_
  | with_reducible refine we_cmeth ?_
  | with_reducible refine we_cmethN ?_
  | ((with_reducible show ∃ _, D.str _ = D.str _ ∧ _ ∧ _); refine ⟨_, rfl, ?_, ?_⟩; (focus (first | assumption | omega)))
  | ((with_reducible show We _ _ (tVar _) _ _ _); refine we_var rfl rfl ?_)
  | ((with_reducible show We _ _ (tVar _) _ _ _); refine we_var rfl (mut_td _) ?_)
  | ((with_reducible show We _ _ (tVar _) _ _ _); refine we_var rfl (mut_tg _) ?_)
  | ((with_reducible show We _ _ (tVar _) _ _ _); refine we_var rfl (mut_w _) ?_)
  | ((with_reducible show We _ _ (tVar _) _ _ _); refine we_var rfl (mut_lm _) ?_)
  | ((with_reducible show We _ _ (tVar _) _ _ _); refine we_var rfl (mut_b _) ?_)
  | ((fail_if_success (with_reducible show We _ _ (tOp (rInP _) _ (tVar _)) _ _ _)); with_reducible refine we_op ?_)
  | with_reducible refine we_un ?_
  | with_reducible refine we_lenO ?_
  | with_reducible refine we_cb ?_
  | with_reducible refine we_callX ?_
  | with_reducible refine we_call ?_
  | with_reducible refine we_callNX ?_
  | with_reducible refine we_callN ?_
  | with_reducible refine we_methN ?_
  | with_reducible refine we_callON ?_
  | with_reducible refine we_callOX ?_
  | with_reducible refine ws_raise ?_
  | with_reducible refine we_exf ?_
  | with_reducible refine we_tup ?_
  | with_reducible refine we_lst ?_
  | with_reducible refine we_sl ?_
  | with_reducible refine we_m1 ?_
  | with_reducible refine we_andV ?_
  | with_reducible refine we_orV ?_
  | with_reducible refine we_notV ?_
  | with_reducible refine we_if ?_
  | with_reducible refine we_chain ?_
  | with_reducible refine we_fld ?_
  | with_reducible refine we_methX ?_
  | with_reducible refine we_meth ?_
  | with_reducible refine we_prop ?_
  | with_reducible refine we_callO' ?_
  | with_reducible refine we_make ?_
  | with_reducible refine wt_test ?_
  | with_reducible refine wt_B ?_
  | with_reducible refine wt_yes ?_
  | with_reducible refine wt_and ?_
  | with_reducible refine wt_or ?_
  | with_reducible refine wt_not ?_
  | with_reducible refine wa_nil ?_
  | with_reducible refine wa_cons ?_
  | with_reducible refine wo_none ?_
  | with_reducible refine wo_some ?_
  | with_reducible refine add_int ?_
  | with_reducible refine sub_int ?_
  | with_reducible refine neg_int ?_
  | ((with_reducible refine mod_int ?_ ?_); (focus (first | assumption | omega)))
  | ((with_reducible refine mul_int ?_ ?_); (focus (first | exact Or.inl ⟨by omega, by omega⟩ | exact Or.inr ⟨by omega, by omega⟩)))
  | ((with_reducible refine fdiv_int ?_ ?_); (focus (exact ⟨by omega, by omega⟩)))
  | ((with_reducible refine pow_int ?_ ?_); (focus (exact ⟨by decide, by decide, by decide⟩)))
  | with_reducible refine is_non ?_
  | with_reducible refine not_non ?_
  | with_reducible refine eq_int ?_
  | with_reducible refine ne_int ?_
  | with_reducible refine eq_pos ?_
  | with_reducible refine ne_pos ?_
  | with_reducible refine ne_nn ?_
  | with_reducible refine ne_np ?_
  | with_reducible refine ne_pn ?_
  | with_reducible refine eq_str ?_
  | with_reducible refine ne_str ?_
  | with_reducible refine eq_bl ?_
  | with_reducible refine ne_bl ?_
  | with_reducible refine lt_int ?_
  | with_reducible refine gt_int ?_
  | with_reducible refine le_int ?_
  | with_reducible refine ge_int ?_
  | with_reducible refine lt_pos ?_
  | with_reducible refine gt_pos ?_
  | with_reducible refine le_pos ?_
  | with_reducible refine ge_pos ?_
  | with_reducible refine int_int ?_
  | with_reducible refine min_int ?_
  | with_reducible refine max_int ?_
  | with_reducible refine len_lst ?_
  | with_reducible refine len_tup ?_
  | ((with_reducible refine len_str ?_ ?_); (focus (first | assumption | omega)))
  | with_reducible refine tuple_lst ?_
  | with_reducible refine tuple_tup ?_
  | with_reducible refine sl_lst ?_
  | with_reducible refine sl_tup ?_
  | ((with_reducible refine sl_str ?_ ?_); (focus (first | assumption | omega)))
  | with_reducible refine mt_countD ?_
  | with_reducible refine mt_rfindD ?_
  | ((with_reducible refine mt_splitD ?_ ?_ ?_); (focus rfl); (focus (first | assumption | omega)))
  | ((with_reducible show Op _ (rIx _) (D.tup _) (D.int _) _); refine ix_tup (by decide) rfl ?_)
  | ((with_reducible show Op _ (rIx _) (D.lst _) (D.int _) _); refine ix_lst (by decide) rfl ?_)
  | ((with_reducible show Cb _ (rIsi _) [D.int _, D.ty _] _); first | refine isiI (r := true) (by decide +kernel) ?_ | refine isiI (r := false) (by decide +kernel) ?_)
  | ((with_reducible show Cb _ (rIsi _) [D.str _, D.ty _] _); first | refine isiS (r := true) (by decide +kernel) ?_ | refine isiS (r := false) (by decide +kernel) ?_)
  | ((with_reducible show Cb _ (rIsi _) [D.tup _, D.ty _] _); first | refine isiT (r := true) (by decide +kernel) ?_ | refine isiT (r := false) (by decide +kernel) ?_)
  | ((with_reducible show Wg _ _ (gTup _ _ _) _ _ _); refine wg_tup rfl rfl ?_)
  | ((with_reducible show Wgs _ _ gNil _ _ _); refine wgs_nil rfl ?_)
  | ((with_reducible show Wgs _ _ (gCons _ _) _ _ _); refine wgs_cons rfl ?_)
  | ((with_reducible show ∃ _, D.bl _ = D.bl _ ∧ _); refine ⟨_, rfl, ?_⟩)
  | ((with_reducible show ∃ _, D.int _ = D.int _ ∧ _); refine ⟨_, rfl, ?_⟩)
  | ((with_reducible show ∃ _, D.str _ = D.str _ ∧ _); refine ⟨_, rfl, ?_⟩)
  | ((with_reducible show ∃ _, D.tup _ = D.tup _ ∧ _); refine ⟨_, rfl, ?_⟩)
  | ((with_reducible show ∃ _, D.lst _ = D.lst _ ∧ _); refine ⟨_, rfl, ?_⟩)
  | with_reducible refine wt_tru ?_
  | with_reducible refine list_lst ?_
  | with_reducible refine list_tup ?_
  | with_reducible refine we_makeS ?_
  | with_reducible refine we_makeR ?_
  | with_reducible refine we_smethS ?_
  | with_reducible refine iteNT ?_
  | with_reducible refine iteNF ?_
  | ((with_reducible show if true = true then _ else _); rw [if_pos rfl])
  | ((with_reducible show if false = true then _ else _); rw [if_neg Bool.false_ne_true])
  | ((with_reducible show List.length _ ≤ 1000000 ∧ _); refine ⟨?_, ?_⟩; (focus (simp; done)))
  | fail "no step")
local macro_rules | `(tactic| walk_at "w") => `(tactic| repeat (walk_at "w1"))
local macro_rules | `(tactic| walk_at "ws") => `(tactic| repeat ((fail_if_success (with_reducible show We _ _ (tChain _ _ _ _ _) _ _ _)); (fail_if_success (with_reducible show Wt _ _ (tAnd _ _) _ _ _)); (fail_if_success (with_reducible show We _ _ (tOrT _ _ _) _ _ _)); walk_at "w1"))

theorem rep_flat (k c : Nat) : (List.replicate k [c]).flatten = List.replicate k c := by
  induction k with
  | zero => rfl
  | succ k ih => rw [List.replicate_succ, List.flatten_cons, ih]; rfl
theorem tilde : Str.ofString "~" = mk [126] := by decide +kernel
theorem sgA : Str.ofString "a" = mk [97] := by decide +kernel
theorem sgAn : Str.ofString "a\n" = mk [97, 10] := by decide +kernel
theorem long_no (k : Nat) : 10 ∉ List.replicate k 126 := fun h => by cases (List.mem_replicate.mp h).2
theorem rows_long (k : Nat) : rows (List.replicate k 126 ++ [10]) = [fp (List.replicate k 126), fp []] := by
  have e : Mx.lns (List.replicate k 126) = [List.replicate k 126] := lns_jn (zs := [List.replicate k 126]) (by simp) fun r hr => by rw [List.mem_singleton.mp hr]; exact long_no k
  rw [rows, lns_nl, e]; rfl
theorem len_law : ∀ ds n P X, R_law A ds n P X → ds.length = 1 := by rintro ds n P X ⟨_, rfl, -⟩; rfl
theorem law_tail {n : Nat} {P0 : D → Nat → Prop} {ns : List Int} {d1 d2 : Option D} (h : P0 (.bl true) n) (k : Nat) (hk : k = 19999) :
    Ws K Z     (tSeq (tAsg (tOp rMulT (tC (.str (PySem.Str.ofString "~"))) (tC (.int 19999))) (gName 3))
    (tSeq (tIfS (tOr (tTest (tOp (rNeP K) (tCall (spD K (R_checksum A)) [] E0 (tCons (tVar 3) tNil)) (tCall (spD K (R__law_number A)) [] E0 (tCons (tVar 3) tNil)))) (tTest (tOp (rNeP K) (tOp (rIxO A.c_Fingerprint (spD K (R_Fingerprint_getitem A))) (tMake A.c_Fingerprint (spI K A.c_Fingerprint (R_Fingerprint_init A)) [] E0 (tCons (tOp (rAddU K) (tVar 3) (tC (.str (PySem.Str.ofString "\n")))) tNil)) (tC (.int 0))) (tTup (tCons (tC (.int 19999)) (tCons (tCall (spD K (R__law_number A)) [] E0 (tCons (tVar 3) tNil)) tNil)))))) (tRet (tC (.bl false))) tNext)
    (tRet (tAndV (tOp (rEqP K) (tCall (spD K (R_checksum A)) [] E0 (tCons (tC (.str (PySem.Str.ofString ""))) tNil)) (tC (.int 0))) (tAndV (tOp (rEqP K) (tProp A.c_Fingerprint (spD K (R_Fingerprint_lengths A)) [] E0 (tMake A.c_Fingerprint (spI K A.c_Fingerprint (R_Fingerprint_init A)) [] E0 (tCons (tC (.str (PySem.Str.ofString ""))) tNil))) (tTup (tCons (tC (.int 0)) tNil))) (tOp (rEqP K) (tMeth A.c_Fingerprint "first_stale" (spD K (R_Fingerprint_first_stale A)) [] E0 (tMake A.c_Fingerprint (spI K A.c_Fingerprint (R_Fingerprint_init A)) [] E0 (tCons (tC (.str (PySem.Str.ofString "a"))) tNil)) (tCons (tC (.str (PySem.Str.ofString "a\n"))) tNil)) (tC (.int 1)))))))) [some (.lst (ns.map .int)), d1, d2, none] n { nx := fun _ m => P0 .non m, rt := P0 } := by
  have hlr : (List.replicate k 126).length = k := List.length_replicate
  walk_at "w"
  rw [show (D.int 19999) = D.int ((k : Nat) : Int) by rw [hk]; rfl, tilde]
  refine mulT (by omega) (by rw [mk_len]; decide) (by rw [mk_len]; show 1 * k ≤ _; omega) ?_
  rw [show (⟨(List.replicate k (mk [126]).cps.toList).flatten.toArray⟩ : Str) = mk (List.replicate k 126) by show mk ((List.replicate k [126]).flatten) = _; rw [rep_flat]]
  walk_at "w"
  refine ⟨_, rfl, long_no k, by omega, ?_⟩
  walk_at "w"
  refine ⟨_, rfl, by omega, ?_⟩
  walk_at "w"
  rw [decide_eq_true rfl]
  walk_at "w"
  rw [nl_is]
  refine add_str (by rw [mk_len, hlr]; show k + 1 ≤ _; omega) ?_
  rw [show (mk (List.replicate k 126) ++ (⟨#[10]⟩ : Str)) = mk (List.replicate k 126 ++ [10]) from mk_app _ [10]]
  walk_at "w"
  refine ⟨_, rfl, by rw [List.length_append, hlr]; show k + 1 ≤ _; omega, ?_⟩
  walk_at "w"
  refine ixO rfl fun n => ⟨_, 0, fp (List.replicate k 126), rfl, by rw [List.length_append, hlr]; show k + 1 ≤ _; omega, by rw [rows_long]; rfl, rfl, ?_⟩
  walk_at "w"
  refine ⟨_, rfl, by omega, ?_⟩
  walk_at "w"
  rw [show (D.tup [D.int 19999, D.int (ck (List.replicate k 126))]) = pD (fp (List.replicate k 126)) by unfold fp pD; rw [hlr, hk]; rfl]
  refine ne_p ?_
  rw [decide_eq_true rfl]
  walk_at "w"
  rw [em_is, sgA, sgAn]
  refine ⟨[], rfl, by simp, by decide, ?_⟩
  walk_at "w"
  rw [show ck [] = 0 from rfl, decide_eq_true rfl]
  walk_at "w"
  refine ⟨[], rfl, by decide, ?_⟩
  walk_at "w"
  refine ⟨_, rfl, [], rfl, by decide, ?_⟩
  walk_at "w"
  refine eqP (d := .tuple [.int 0]) (e := .tuple [.int 0]) rfl rfl rfl rfl (by simp [PyData.depth, PyData.depthAll]) ?_
  rw [show PyData.eqv (.tuple [.int 0]) (.tuple [.int 0]) = true by simp [PyData.eqv, PyData.eqvAll]]
  walk_at "w"
  refine ⟨[97], rfl, by decide, ?_⟩
  walk_at "w"
  refine ⟨_, rfl, rfl, ?_⟩
  walk_at "w"
  refine ⟨[97], [97, 10], rfl, by decide, by decide, ?_⟩
  rw [show fdf (rows [97]) (rows [97, 10]) = some 1 by decide]
  walk_at "w"
  refine eqP (d := .int 1) (e := .int 1) rfl rfl rfl rfl (by simp [PyData.depth]) ?_
  rw [show PyData.eqv (.int 1) (.int 1) = true by simp [PyData.eqv]]
  exact h
theorem w_law (T : TxtC K A) : ∀ Z ds n P, R_law A ds n P Z.X → Ws K Z (t_law K A) (startD 4 ds) n { nx := fun _ m => P .non m, rt := P } := by
  rintro Z ds n P ⟨ns, rfl, hn, rfl, h⟩
  unfold t_law
  walk_at "w"
  refine ws_fore (fun i : Nat => D.int (i : Nat)) (wi_range1 ?_)
  walk_at "w"
  rw [List.length_map]
  refine ⟨_, rfl, ⟨by split <;> (try split) <;> omega, by split <;> (try split) <;> omega⟩, _, rng0_map _, fun i ds' m => m = 0 ∧ ∃ d1 d2 : Option D, ds' = [some (.lst (ns.map .int)), d1, d2, none], ⟨rfl, _, _, rfl⟩, ?_, ?_⟩
  · rintro i j ds' m hj ⟨rfl, d1, d2, rfl⟩
    walk_at "w"
    refine ⟨ns, j, rfl, by omega, fun a => ?_⟩
    walk_at "w"
    refine ⟨a, rfl, ?_⟩
    walk_at "w"
    refine ⟨a, rfl, ?_⟩
    walk_at "w"
    exact ⟨rfl, _, _, rfl⟩
  · rintro ds' m ⟨rfl, d1, d2, rfl⟩
    exact law_tail (h 0) 19999 rfl
end
end Lw

namespace Lw
open PySem L2 StX DL
open PyProof.Rows (envOfC)
def top (i : Nat) : Stmt := PySem.Challenge.pw_mapstack_k79_fingerprints.main.body.getD i (.Pass ⟨0, 0, 0, 0⟩)
abbrev s_is_integer : Stmt := top 5
abbrev s_check_text : Stmt := top 8
abbrev s_Fingerprint_lengths : Stmt := inClass (top 14) 1
abbrev s_Fingerprint_checksums : Stmt := inClass (top 14) 2
abbrev s_Fingerprint_len : Stmt := inClass (top 14) 4
abbrev s_Fingerprint_eq : Stmt := inClass (top 14) 7
abbrev s__law_stream : Stmt := top 16
abbrev s__law_pick : Stmt := top 17
abbrev s__law_number : Stmt := top 19
abbrev s_is_count : Stmt := top 6
abbrev s_lines_of : Stmt := top 10
abbrev s_checksum : Stmt := top 13
abbrev s__law_text : Stmt := top 18
abbrev s__law_rows : Stmt := top 20
abbrev s__law_changed : Stmt := top 21
abbrev s_is_up_to : Stmt := top 7
abbrev s_Fingerprint_init : Stmt := inClass (top 14) 0
abbrev s__law_first : Stmt := top 22
abbrev s_Fingerprint_getitem : Stmt := inClass (top 14) 5
abbrev s_Fingerprint_first_stale : Stmt := inClass (top 14) 3
abbrev s__law_right : Stmt := top 23
abbrev s_law : Stmt := top 24
structure Fd where
  d_is_integer : FuncData
  d_check_text : FuncData
  d_Fingerprint_lengths : FuncData
  d_Fingerprint_checksums : FuncData
  d_Fingerprint_len : FuncData
  d_Fingerprint_eq : FuncData
  d__law_stream : FuncData
  d__law_pick : FuncData
  d__law_number : FuncData
  d_is_count : FuncData
  d_lines_of : FuncData
  d_checksum : FuncData
  d__law_text : FuncData
  d__law_rows : FuncData
  d__law_changed : FuncData
  d_is_up_to : FuncData
  d_Fingerprint_init : FuncData
  d__law_first : FuncData
  d_Fingerprint_getitem : FuncData
  d_Fingerprint_first_stale : FuncData
  d__law_right : FuncData
  d_law : FuncData
abbrev N_is_integer : List Str := ["value"]
theorem sc_is_integer : FnScope N_is_integer ["value"] (defScope s_is_integer) := ⟨rfl, rfl, rfl, by decide +kernel, rfl, by decide +kernel, by decide +kernel⟩
abbrev N_check_text : List Str := ["value"]
theorem sc_check_text : FnScope N_check_text ["value"] (defScope s_check_text) := ⟨rfl, rfl, rfl, by decide +kernel, rfl, by decide +kernel, by decide +kernel⟩
abbrev N_Fingerprint_lengths : List Str := ["self", "length", "_"]
theorem sc_Fingerprint_lengths : FnScope N_Fingerprint_lengths ["self"] (defScope s_Fingerprint_lengths) := ⟨rfl, rfl, rfl, by decide +kernel, rfl, by decide +kernel, by decide +kernel⟩
abbrev N_Fingerprint_checksums : List Str := ["self", "_", "told"]
theorem sc_Fingerprint_checksums : FnScope N_Fingerprint_checksums ["self"] (defScope s_Fingerprint_checksums) := ⟨rfl, rfl, rfl, by decide +kernel, rfl, by decide +kernel, by decide +kernel⟩
abbrev N_Fingerprint_len : List Str := ["self"]
theorem sc_Fingerprint_len : FnScope N_Fingerprint_len ["self"] (defScope s_Fingerprint_len) := ⟨rfl, rfl, rfl, by decide +kernel, rfl, by decide +kernel, by decide +kernel⟩
abbrev N_Fingerprint_eq : List Str := ["self", "other"]
theorem sc_Fingerprint_eq : FnScope N_Fingerprint_eq ["self", "other"] (defScope s_Fingerprint_eq) := ⟨rfl, rfl, rfl, by decide +kernel, rfl, by decide +kernel, by decide +kernel⟩
abbrev N__law_stream : List Str := ["script", "k", "cell", "mixed", "step", "more"]
theorem sc__law_stream : FnScope N__law_stream ["script", "k"] (defScope s__law_stream) := ⟨rfl, rfl, rfl, by decide +kernel, rfl, by decide +kernel, by decide +kernel⟩
abbrev N__law_pick : List Str := ["stream", "amount", "place", "choice"]
theorem sc__law_pick : FnScope N__law_pick ["stream", "amount"] (defScope s__law_pick) := ⟨rfl, rfl, rfl, by decide +kernel, rfl, by decide +kernel, by decide +kernel⟩
abbrev N__law_number : List Str := ["signs", "found", "at", "sign"]
theorem sc__law_number : FnScope N__law_number ["signs"] (defScope s__law_number) := ⟨rfl, rfl, rfl, by decide +kernel, rfl, by decide +kernel, by decide +kernel⟩
abbrev N_is_count : List Str := ["value"]
theorem sc_is_count : FnScope N_is_count ["value"] (defScope s_is_count) := ⟨rfl, rfl, rfl, by decide +kernel, rfl, by decide +kernel, by decide +kernel⟩
abbrev N_lines_of : List Str := ["text"]
theorem sc_lines_of : FnScope N_lines_of ["text"] (defScope s_lines_of) := ⟨rfl, rfl, rfl, by decide +kernel, rfl, by decide +kernel, by decide +kernel⟩
abbrev N_checksum : List Str := ["signs", "index", "sign"]
theorem sc_checksum : FnScope N_checksum ["signs"] (defScope s_checksum) := ⟨rfl, rfl, rfl, by decide +kernel, rfl, by decide +kernel, by decide +kernel⟩
abbrev N__law_text : List Str := ["stream", "found", "turn", "many", "at"]
theorem sc__law_text : FnScope N__law_text ["stream"] (defScope s__law_text) := ⟨rfl, rfl, rfl, by decide +kernel, rfl, by decide +kernel, by decide +kernel⟩
abbrev N__law_rows : List Str := ["signs", "row"]
theorem sc__law_rows : FnScope N__law_rows ["signs"] (defScope s__law_rows) := ⟨rfl, rfl, rfl, by decide +kernel, rfl, by decide +kernel, by decide +kernel⟩
abbrev N__law_changed : List Str := ["stream", "signs", "parts", "way", "at", "row", "spot", "far", "front", "rest", "some"]
theorem sc__law_changed : FnScope N__law_changed ["stream", "signs"] (defScope s__law_changed) := ⟨rfl, rfl, rfl, by decide +kernel, rfl, by decide +kernel, by decide +kernel⟩
abbrev N_is_up_to : List Str := ["value", "limit"]
theorem sc_is_up_to : FnScope N_is_up_to ["value", "limit"] (defScope s_is_up_to) := ⟨rfl, rfl, rfl, by decide +kernel, rfl, by decide +kernel, by decide +kernel⟩
abbrev N_Fingerprint_init : List Str := ["self", "text", "line"]
theorem sc_Fingerprint_init : FnScope N_Fingerprint_init ["self", "text"] (defScope s_Fingerprint_init) := ⟨rfl, rfl, rfl, by decide +kernel, rfl, by decide +kernel, by decide +kernel⟩
abbrev N__law_first : List Str := ["one", "other", "rows", "far", "at"]
theorem sc__law_first : FnScope N__law_first ["one", "other"] (defScope s__law_first) := ⟨rfl, rfl, rfl, by decide +kernel, rfl, by decide +kernel, by decide +kernel⟩
abbrev N_Fingerprint_getitem : List Str := ["self", "at"]
theorem sc_Fingerprint_getitem : FnScope N_Fingerprint_getitem ["self", "at"] (defScope s_Fingerprint_getitem) := ⟨rfl, rfl, rfl, by decide +kernel, rfl, by decide +kernel, by decide +kernel⟩
abbrev N_Fingerprint_first_stale : List Str := ["self", "text", "numbers", "line", "own", "other"]
theorem sc_Fingerprint_first_stale : FnScope N_Fingerprint_first_stale ["self", "text"] (defScope s_Fingerprint_first_stale) := ⟨rfl, rfl, rfl, by decide +kernel, rfl, by decide +kernel, by decide +kernel⟩
abbrev N__law_right : List Str := ["stream", "one", "other", "prints", "rows", "due", "at", "row"]
theorem sc__law_right : FnScope N__law_right ["stream"] (defScope s__law_right) := ⟨rfl, rfl, rfl, by decide +kernel, rfl, by decide +kernel, by decide +kernel⟩
abbrev N_law : List Str := ["script", "k", "stream", "long"]
theorem sc_law : FnScope N_law ["script"] (defScope s_law) := ⟨rfl, rfl, rfl, by decide +kernel, rfl, by decide +kernel, by decide +kernel⟩
structure Txt (K : PySem.W.Frag) (mg : Str → Option Value) (A : Ad) (B : Fd) : Prop where
  f_is_integer : Fun K "is_integer" "is_integer" s_is_integer A.a_is_integer B.d_is_integer
  b_is_integer : L2.Binds K B.d_is_integer ["value"] []
  f_check_text : Fun K "check_text" "check_text" s_check_text A.a_check_text B.d_check_text
  b_check_text : L2.Binds K B.d_check_text ["value"] []
  f_Fingerprint_lengths : Fun K "lengths" "Fingerprint.lengths" s_Fingerprint_lengths A.a_Fingerprint_lengths B.d_Fingerprint_lengths
  b_Fingerprint_lengths : L2.Binds K B.d_Fingerprint_lengths ["self"] []
  f_Fingerprint_checksums : Fun K "checksums" "Fingerprint.checksums" s_Fingerprint_checksums A.a_Fingerprint_checksums B.d_Fingerprint_checksums
  b_Fingerprint_checksums : L2.Binds K B.d_Fingerprint_checksums ["self"] []
  f_Fingerprint_len : Fun K "__len__" "Fingerprint.__len__" s_Fingerprint_len A.a_Fingerprint_len B.d_Fingerprint_len
  b_Fingerprint_len : L2.Binds K B.d_Fingerprint_len ["self"] []
  f_Fingerprint_eq : Fun K "__eq__" "Fingerprint.__eq__" s_Fingerprint_eq A.a_Fingerprint_eq B.d_Fingerprint_eq
  b_Fingerprint_eq : L2.Binds K B.d_Fingerprint_eq ["self", "other"] []
  f__law_stream : Fun K "_law_stream" "_law_stream" s__law_stream A.a__law_stream B.d__law_stream
  b__law_stream : L2.Binds K B.d__law_stream ["script", "k"] []
  f__law_pick : Fun K "_law_pick" "_law_pick" s__law_pick A.a__law_pick B.d__law_pick
  b__law_pick : L2.Binds K B.d__law_pick ["stream", "amount"] []
  f__law_number : Fun K "_law_number" "_law_number" s__law_number A.a__law_number B.d__law_number
  b__law_number : L2.Binds K B.d__law_number ["signs"] []
  f_is_count : Fun K "is_count" "is_count" s_is_count A.a_is_count B.d_is_count
  b_is_count : L2.Binds K B.d_is_count ["value"] []
  f_lines_of : Fun K "lines_of" "lines_of" s_lines_of A.a_lines_of B.d_lines_of
  b_lines_of : L2.Binds K B.d_lines_of ["text"] []
  f_checksum : Fun K "checksum" "checksum" s_checksum A.a_checksum B.d_checksum
  b_checksum : L2.Binds K B.d_checksum ["signs"] []
  f__law_text : Fun K "_law_text" "_law_text" s__law_text A.a__law_text B.d__law_text
  b__law_text : L2.Binds K B.d__law_text ["stream"] []
  f__law_rows : Fun K "_law_rows" "_law_rows" s__law_rows A.a__law_rows B.d__law_rows
  b__law_rows : L2.Binds K B.d__law_rows ["signs"] []
  f__law_changed : Fun K "_law_changed" "_law_changed" s__law_changed A.a__law_changed B.d__law_changed
  b__law_changed : L2.Binds K B.d__law_changed ["stream", "signs"] []
  f_is_up_to : Fun K "is_up_to" "is_up_to" s_is_up_to A.a_is_up_to B.d_is_up_to
  b_is_up_to : L2.Binds K B.d_is_up_to ["value", "limit"] []
  f_Fingerprint_init : Fun K "__init__" "Fingerprint.__init__" s_Fingerprint_init A.a_Fingerprint_init B.d_Fingerprint_init
  b_Fingerprint_init : L2.Binds K B.d_Fingerprint_init ["self", "text"] []
  f__law_first : Fun K "_law_first" "_law_first" s__law_first A.a__law_first B.d__law_first
  b__law_first : L2.Binds K B.d__law_first ["one", "other"] []
  f_Fingerprint_getitem : Fun K "__getitem__" "Fingerprint.__getitem__" s_Fingerprint_getitem A.a_Fingerprint_getitem B.d_Fingerprint_getitem
  b_Fingerprint_getitem : L2.Binds K B.d_Fingerprint_getitem ["self", "at"] []
  f_Fingerprint_first_stale : Fun K "first_stale" "Fingerprint.first_stale" s_Fingerprint_first_stale A.a_Fingerprint_first_stale B.d_Fingerprint_first_stale
  b_Fingerprint_first_stale : L2.Binds K B.d_Fingerprint_first_stale ["self", "text"] []
  f__law_right : Fun K "_law_right" "_law_right" s__law_right A.a__law_right B.d__law_right
  b__law_right : L2.Binds K B.d__law_right ["stream"] []
  f_law : Fun K "law" "law" s_law A.a_law B.d_law
  b_law : L2.Binds K B.d_law ["script"] []
  g__law_changed : mg "_law_changed" = some (.ref A.a__law_changed)
  g__law_first : mg "_law_first" = some (.ref A.a__law_first)
  g__law_number : mg "_law_number" = some (.ref A.a__law_number)
  g__law_pick : mg "_law_pick" = some (.ref A.a__law_pick)
  g__law_right : mg "_law_right" = some (.ref A.a__law_right)
  g__law_rows : mg "_law_rows" = some (.ref A.a__law_rows)
  g__law_stream : mg "_law_stream" = some (.ref A.a__law_stream)
  g__law_text : mg "_law_text" = some (.ref A.a__law_text)
  g_check_text : mg "check_text" = some (.ref A.a_check_text)
  g_checksum : mg "checksum" = some (.ref A.a_checksum)
  g_is_count : mg "is_count" = some (.ref A.a_is_count)
  g_is_integer : mg "is_integer" = some (.ref A.a_is_integer)
  g_is_up_to : mg "is_up_to" = some (.ref A.a_is_up_to)
  g_lines_of : mg "lines_of" = some (.ref A.a_lines_of)
  gc_Fingerprint : mg "Fingerprint" = some (.ref A.c_Fingerprint)
  k_MODULUS : mg "MODULUS" = some (.int 99999989 A.t_MODULUS)
  me_Fingerprint_first_stale : Meth K A.c_Fingerprint "first_stale" A.a_Fingerprint_first_stale
  mk_Fingerprint : Mk K A.c_Fingerprint A.a_Fingerprint_init
  n_bool : mg "bool" = none
  n_enumerate : mg "enumerate" = none
  n_int : mg "int" = none
  n_isinstance : mg "isinstance" = none
  n_len : mg "len" = none
  n_max : mg "max" = none
  n_min : mg "min" = none
  n_ord : mg "ord" = none
  n_range : mg "range" = none
  n_str : mg "str" = none
  n_sum : mg "sum" = none
  n_tuple : mg "tuple" = none
  n_zip : mg "zip" = none
  es_Fingerprint : PySem.W.findIn K (.ref A.c_Fingerprint) "__eq__" = some (some (.ref A.a_Fingerprint_eq))
  ef_Fingerprint : PySem.W.isFn K (.ref A.a_Fingerprint_eq) = true
  en_Fingerprint : neB K A.c_Fingerprint A.a_Fingerprint_eq = true
  pr_Fingerprint_checksums : PropOf K A.c_Fingerprint "checksums" A.p_Fingerprint_checksums A.a_Fingerprint_checksums
  pr_Fingerprint_lengths : PropOf K A.c_Fingerprint "lengths" A.p_Fingerprint_lengths A.a_Fingerprint_lengths
  ssa_Fingerprint_getitem : PySem.W.findIn K (.ref A.c_Fingerprint) "__getitem__" = some (some (.ref A.a_Fingerprint_getitem))
  ssf_Fingerprint_getitem : PySem.W.isFn K (.ref A.a_Fingerprint_getitem) = true
  ssi_Fingerprint_getitem : PySem.W.fnIn K A.a_Fingerprint_getitem = true
  ssa_Fingerprint_len : PySem.W.findIn K (.ref A.c_Fingerprint) "__len__" = some (some (.ref A.a_Fingerprint_len))
  ssf_Fingerprint_len : PySem.W.isFn K (.ref A.a_Fingerprint_len) = true
  ssi_Fingerprint_len : PySem.W.fnIn K A.a_Fingerprint_len = true
  tc : TxtC K A
section
variable {Pr : Program} {w : World} {K : PySem.W.Frag} [Tb K] {mg : Str → Option Value} {base : Heap} {A : Ad} {B : Fd}
theorem tm_is_integer (T : Txt K mg A B)  {f : Addr} {cdv : Value} {Ar : Around} {outer : List Env} {s : Shared} {H : Hp} {E : XK} (hr : Room 0 (Ar.deeper (envOfC "is_integer" (defScope s_is_integer) s.heap.objs.size f cdv))) :
    PSs (cxOf CX0 Pr w K mg base N_is_integer "is_integer" (defScope s_is_integer) f cdv Ar outer s H E).nox (defBody s_is_integer) (t_is_integer K A) :=
  (pss_one (ps_ret (pe_and (pe_callB call_isi (by rfl) T.n_isinstance (by decide +kernel) (pa_cons (pv 0) (pa_cons (pe_bltn (v := .ty "int") (by rfl) T.n_int (by decide +kernel) rfl) pa_nil))) (pe_one (pe_not (pe_callB call_isi (by rfl) T.n_isinstance (by decide +kernel) (pa_cons (pv 0) (pa_cons (pe_bltn (v := .ty "bool") (by rfl) T.n_bool (by decide +kernel) rfl) pa_nil))))))))
theorem tm_check_text (T : Txt K mg A B)  {f : Addr} {cdv : Value} {Ar : Around} {outer : List Env} {s : Shared} {H : Hp} {E : XK} (hr : Room 0 (Ar.deeper (envOfC "check_text" (defScope s_check_text) s.heap.objs.size f cdv))) :
    PSs (cxOf CX0 Pr w K mg base N_check_text "check_text" (defScope s_check_text) f cdv Ar outer s H E).nox (defBody s_check_text) (t_check_text K A) :=
  (pss_one (ps_if (pt_not (pt_val (pe_callB call_isi (by rfl) T.n_isinstance (by decide +kernel) (pa_cons (pv 0) (pa_cons (pe_bltn (v := .ty "str") (by rfl) T.n_str (by decide +kernel) rfl) pa_nil))))) pss_never pss_nil))
theorem tm_Fingerprint_lengths (T : Txt K mg A B)  {f : Addr} {cdv : Value} {Ar : Around} {outer : List Env} {s : Shared} {H : Hp} {E : XK} (hr : Room 0 (Ar.deeper (envOfC "Fingerprint.lengths" (defScope s_Fingerprint_lengths) s.heap.objs.size f cdv))) :
    PSs (cxOf CX0 Pr w K mg base N_Fingerprint_lengths "Fingerprint.lengths" (defScope s_Fingerprint_lengths) f cdv Ar outer s H E).nox (defBody s_Fingerprint_lengths) (t_Fingerprint_lengths K A) :=
  (pss_one (ps_ret (pe_callTy call_tuple_of (by rfl) T.n_tuple (by decide +kernel) (pa_cons (pe_lc (own := [("length", 1), ("_", 2)]) rfl sc_Fingerprint_lengths.nd (pi_tup (pe_fld (pv 0) rfl)) (blkOk_by (own := [("length", 1), ("_", 2)]) (N := N_Fingerprint_lengths) (sc := defScope s_Fingerprint_lengths) (by decide +kernel)) (fun _ _ _ _ _ => (pg_tup rfl (pgs_cons (pg_name (i := 1) sc_Fingerprint_lengths.nd rfl (Or.inl rfl)) (pgs_cons (pg_name (i := 2) sc_Fingerprint_lengths.nd rfl (Or.inl rfl)) pgs_nil)))) (fun _ _ _ _ _ => pts_nil) (fun _ _ _ _ _ => (pv 1))) pa_nil))))
theorem tm_Fingerprint_checksums (T : Txt K mg A B)  {f : Addr} {cdv : Value} {Ar : Around} {outer : List Env} {s : Shared} {H : Hp} {E : XK} (hr : Room 0 (Ar.deeper (envOfC "Fingerprint.checksums" (defScope s_Fingerprint_checksums) s.heap.objs.size f cdv))) :
    PSs (cxOf CX0 Pr w K mg base N_Fingerprint_checksums "Fingerprint.checksums" (defScope s_Fingerprint_checksums) f cdv Ar outer s H E).nox (defBody s_Fingerprint_checksums) (t_Fingerprint_checksums K A) :=
  (pss_one (ps_ret (pe_callTy call_tuple_of (by rfl) T.n_tuple (by decide +kernel) (pa_cons (pe_lc (own := [("_", 1), ("told", 2)]) rfl sc_Fingerprint_checksums.nd (pi_tup (pe_fld (pv 0) rfl)) (blkOk_by (own := [("_", 1), ("told", 2)]) (N := N_Fingerprint_checksums) (sc := defScope s_Fingerprint_checksums) (by decide +kernel)) (fun _ _ _ _ _ => (pg_tup rfl (pgs_cons (pg_name (i := 1) sc_Fingerprint_checksums.nd rfl (Or.inl rfl)) (pgs_cons (pg_name (i := 2) sc_Fingerprint_checksums.nd rfl (Or.inl rfl)) pgs_nil)))) (fun _ _ _ _ _ => pts_nil) (fun _ _ _ _ _ => (pv 2))) pa_nil))))
theorem tm_Fingerprint_len (T : Txt K mg A B)  {f : Addr} {cdv : Value} {Ar : Around} {outer : List Env} {s : Shared} {H : Hp} {E : XK} (hr : Room 0 (Ar.deeper (envOfC "Fingerprint.__len__" (defScope s_Fingerprint_len) s.heap.objs.size f cdv))) :
    PSs (cxOf CX0 Pr w K mg base N_Fingerprint_len "Fingerprint.__len__" (defScope s_Fingerprint_len) f cdv Ar outer s H E).nox (defBody s_Fingerprint_len) (t_Fingerprint_len K A) :=
  (pss_one (ps_ret (pe_callB call_len (by rfl) T.n_len (by decide +kernel) (pa_cons (pe_fld (pv 0) rfl) pa_nil))))
theorem tm_Fingerprint_eq (T : Txt K mg A B)  {f : Addr} {cdv : Value} {Ar : Around} {outer : List Env} {s : Shared} {H : Hp} {E : XK} (hr : Room 0 (Ar.deeper (envOfC "Fingerprint.__eq__" (defScope s_Fingerprint_eq) s.heap.objs.size f cdv))) :
    PSs (cxOf CX0 Pr w K mg base N_Fingerprint_eq "Fingerprint.__eq__" (defScope s_Fingerprint_eq) f cdv Ar outer s H E).nox (defBody s_Fingerprint_eq) (t_Fingerprint_eq K A) :=
  (pss_one (ps_ret (pe_and (pe_callB call_isi (by rfl) T.n_isinstance (by decide +kernel) (pa_cons (pv 1) (pa_cons (pe_glob (v := .ref A.c_Fingerprint) rfl T.gc_Fingerprint rfl) pa_nil))) (pe_one (pe_cmpR (op_eqP hr.units) (pe_fld (pv 0) rfl) (pe_fld (pv 1) rfl) (nomark _))))))
theorem tm__law_stream (T : Txt K mg A B)  {f : Addr} {cdv : Value} {Ar : Around} {outer : List Env} {s : Shared} {H : Hp} {E : XK} (hr : Room 0 (Ar.deeper (envOfC "_law_stream" (defScope s__law_stream) s.heap.objs.size f cdv))) :
    PSs (cxOf CX0 Pr w K mg base N__law_stream "_law_stream" (defScope s__law_stream) f cdv Ar outer s H E).nox (defBody s__law_stream) (t__law_stream K A) :=
  (pss_cons (ps_set (i := 2) sc__law_stream.nd rfl (Or.inl rfl) (pe_ifExp (pt_cmpR (op_ltP hr.units) (pv 1) (pe_callB call_len (by rfl) T.n_len (by decide +kernel) (pa_cons (pv 0) pa_nil)) (nomark _)) (pe_op op_mod (pe_callTy call_int1 (by rfl) T.n_int (by decide +kernel) (pa_cons (pe_ix ix_seq (pv 0) (pv 1) (fun _ _ => rfl)) pa_nil)) (pe_op op_mul pe_int (pe_op op_pow pe_int pe_int))) pe_int))
      (pss_cons (ps_set (i := 3) sc__law_stream.nd rfl (Or.inl rfl) pe_int)
      (pss_cons (ps_for PassesOwn.never rfl (pi_range1 rfl T.n_range (pa_cons pe_int pa_nil)) (pg_name (i := 4) sc__law_stream.nd rfl (Or.inl rfl)) (pss_cons (ps_set (i := 5) sc__law_stream.nd rfl (Or.inl rfl) (pe_op op_mod (pe_callTy call_int1 (by rfl) T.n_int (by decide +kernel) (pa_cons (pe_op op_addU (pe_op op_addU (pe_op op_mul (pv 2) pe_int) (pe_op op_mul pe_int (pe_op op_addU (pv 1) (pe_op op_mul pe_int (pv 4))))) pe_int) pa_nil)) pe_int))
      (pss_one (ps_set (i := 3) sc__law_stream.nd rfl (Or.inl rfl) (pe_op op_addU (pe_op op_mul (pv 3) pe_int) (pe_op op_mod (pe_callTy call_int1 (by rfl) T.n_int (by decide +kernel) (pa_cons (pe_op op_addU (pe_op op_pow (pv 5) pe_int) (pe_op op_mul (pv 4) (pv 5))) pa_nil)) pe_int))))))
      (pss_one (ps_ret (pe_lst (pa_cons (pe_op op_mul (pv 2) (pe_callTy call_int1 (by rfl) T.n_int (by decide +kernel) (pa_cons (pe_cmpR (op_geP hr.units) (pv 2) (pe_op op_pow pe_int pe_int) (nomark _)) pa_nil))) (pa_cons (pv 3) pa_nil))))))))
theorem tm__law_pick (T : Txt K mg A B)  {f : Addr} {cdv : Value} {Ar : Around} {outer : List Env} {s : Shared} {H : Hp} {E : XK} (hr : Room 0 (Ar.deeper (envOfC "_law_pick" (defScope s__law_pick) s.heap.objs.size f cdv))) :
    PSs (cxOf CX0 Pr w K mg base N__law_pick "_law_pick" (defScope s__law_pick) f cdv Ar outer s H E).nox (defBody s__law_pick) (t__law_pick K A) :=
  (pss_cons (ps_set (i := 2) sc__law_pick.nd rfl (Or.inl rfl) (pe_callTy call_int1 (by rfl) T.n_int (by decide +kernel) (pa_cons (pe_cmpR (op_eqP hr.units) (pe_ix ix_seq (pv 0) pe_int (fun _ _ => rfl)) pe_int (nomark _)) pa_nil)))
      (pss_cons (ps_set (i := 3) sc__law_pick.nd rfl (Or.inl rfl) (pe_op op_mod (pe_callTy call_int1 (by rfl) T.n_int (by decide +kernel) (pa_cons (pe_ix ix_seq (pv 0) (pv 2) (fun _ _ => rfl)) pa_nil)) (pv 1)))
      (pss_cons (ps_asg (pe_op op_fdiv (pe_ix ix_seq (pv 0) (pv 2) (fun _ _ => rfl)) (pv 1)) (pg_sub (pv 0) (pv 2) set_list))
      (pss_one (ps_ret (pv 3))))))
theorem tm__law_number (T : Txt K mg A B)  {f : Addr} {cdv : Value} {Ar : Around} {outer : List Env} {s : Shared} {H : Hp} {E : XK} (hr : Room 0 (Ar.deeper (envOfC "_law_number" (defScope s__law_number) s.heap.objs.size f cdv))) :
    PSs (cxOf CX0 Pr w K mg base N__law_number "_law_number" (defScope s__law_number) f cdv Ar outer s H E).nox (defBody s__law_number) (t__law_number K A) :=
  (pss_cons (ps_set (i := 1) sc__law_number.nd rfl (Or.inl rfl) pe_int)
      (pss_cons (ps_for PassesOwn.never rfl (pi_enumS (by rfl) T.n_enumerate (pa_cons (pv 0) pa_nil)) (pg_tup rfl (pgs_cons (pg_name (i := 2) sc__law_number.nd rfl (Or.inl rfl)) (pgs_cons (pg_name (i := 3) sc__law_number.nd rfl (Or.inl rfl)) pgs_nil))) (pss_one (ps_set (i := 1) sc__law_number.nd rfl (Or.inl rfl) (pe_op op_mod (pe_callTy call_int1 (by rfl) T.n_int (by decide +kernel) (pa_cons (pe_op op_addU (pv 1) (pe_op op_mul (pe_op op_addU (pv 2) pe_int) (pe_callB call_ord (by rfl) T.n_ord (by decide +kernel) (pa_cons (pv 3) pa_nil)))) pa_nil)) pe_int))))
      (pss_one (ps_ret (pv 1)))))
theorem tm_is_count (T : Txt K mg A B) (G_is_integer : FnOk Pr w K mg base CX0 1 A.a_is_integer B.d_is_integer ["value"] (spD K (R_is_integer A))) {f : Addr} {cdv : Value} {Ar : Around} {outer : List Env} {s : Shared} {H : Hp} {E : XK} (hr : Room 1 (Ar.deeper (envOfC "is_count" (defScope s_is_count) s.heap.objs.size f cdv))) :
    PSs (cxOf CX0 Pr w K mg base N_is_count "is_count" (defScope s_is_count) f cdv Ar outer s H E).nox (defBody s_is_count) (t_is_count K A) :=
  (pss_one (ps_ret (pe_and (pe_call G_is_integer (hr.mono (by decide)) (by rfl) T.g_is_integer T.f_is_integer.kp T.b_is_integer .nil pass0 (pa_cons (pv 0) pa_nil)) (pe_one (pe_cmpR (op_geP hr.units) (pv 0) pe_int (nomark _))))))
theorem tm_lines_of (T : Txt K mg A B) (G_check_text : FnOk Pr w K mg base CX0 1 A.a_check_text B.d_check_text ["value"] (spD K (R_check_text A))) {f : Addr} {cdv : Value} {Ar : Around} {outer : List Env} {s : Shared} {H : Hp} {E : XK} (hr : Room 1 (Ar.deeper (envOfC "lines_of" (defScope s_lines_of) s.heap.objs.size f cdv))) :
    PSs (cxOf CX0 Pr w K mg base N_lines_of "lines_of" (defScope s_lines_of) f cdv Ar outer s H E).nox (defBody s_lines_of) (t_lines_of K A) :=
  (pss_cons (ps_expr (pe_call G_check_text (hr.mono (by decide)) (by rfl) T.g_check_text T.f_check_text.kp T.b_check_text .nil pass0 (pa_cons (pv 0) pa_nil)))
      (pss_one (ps_ret (pe_callTy call_tuple_of (by rfl) T.n_tuple (by decide +kernel) (pa_cons (pe_m1 PySem.F.slot_str_split PySem.F.type_str_split mt_split (pv 0) pe_str) pa_nil)))))
theorem tm_checksum (T : Txt K mg A B) (G_check_text : FnOk Pr w K mg base CX0 1 A.a_check_text B.d_check_text ["value"] (spD K (R_check_text A))) {f : Addr} {cdv : Value} {Ar : Around} {outer : List Env} {s : Shared} {H : Hp} {E : XK} (hr : Room 1 (Ar.deeper (envOfC "checksum" (defScope s_checksum) s.heap.objs.size f cdv))) :
    PSs (cxOf CX0 Pr w K mg base N_checksum "checksum" (defScope s_checksum) f cdv Ar outer s H E).nox (defBody s_checksum) (t_checksum K A) :=
  (pss_cons (ps_expr (pe_call G_check_text (hr.mono (by decide)) (by rfl) T.g_check_text T.f_check_text.kp T.b_check_text .nil pass0 (pa_cons (pv 0) pa_nil)))
      (pss_cons (ps_if (pt_cmpR op_inS pe_str (pv 0) rfl) pss_never pss_nil)
      (pss_one (ps_ret (pe_op op_mod (pe_callB (cr_sum rfl) (by rfl) T.n_sum (by decide +kernel) (pa_cons (pe_lc (own := [("index", 1), ("sign", 2)]) rfl sc_checksum.nd (pi_enumS (by rfl) T.n_enumerate (pa_cons (pv 0) pa_nil)) (blkOk_by (own := [("index", 1), ("sign", 2)]) (N := N_checksum) (sc := defScope s_checksum) (by decide +kernel)) (fun _ _ _ _ _ => (pg_tup rfl (pgs_cons (pg_name (i := 1) sc_checksum.nd rfl (Or.inl rfl)) (pgs_cons (pg_name (i := 2) sc_checksum.nd rfl (Or.inl rfl)) pgs_nil)))) (fun _ _ _ _ _ => pts_nil) (fun _ _ _ _ _ => (pe_op op_mul (pe_op op_addU (pv 1) pe_int) (pe_callB call_ord (by rfl) T.n_ord (by decide +kernel) (pa_cons (pv 2) pa_nil))))) pa_nil)) (pe_glob rfl T.k_MODULUS ⟨_, rfl⟩))))))
theorem tm__law_text (T : Txt K mg A B) (G__law_pick : FnOk Pr w K mg base CX0 1 A.a__law_pick B.d__law_pick ["stream", "amount"] (spD K (R__law_pick A))) {f : Addr} {cdv : Value} {Ar : Around} {outer : List Env} {s : Shared} {H : Hp} {E : XK} (hr : Room 1 (Ar.deeper (envOfC "_law_text" (defScope s__law_text) s.heap.objs.size f cdv))) :
    PSs (cxOf CX0 Pr w K mg base N__law_text "_law_text" (defScope s__law_text) f cdv Ar outer s H E).nox (defBody s__law_text) (t__law_text K A) :=
  (pss_cons (ps_set (i := 1) sc__law_text.nd rfl (Or.inl rfl) (pe_lst pa_nil))
      (pss_cons (ps_for PassesOwn.never rfl (pi_range1 rfl T.n_range (pa_cons (pe_op op_addU pe_int (pe_call G__law_pick (hr.mono (by decide)) (by rfl) T.g__law_pick T.f__law_pick.kp T.b__law_pick .nil pass0 (pa_cons (pv 0) (pa_cons pe_int pa_nil)))) pa_nil)) (pg_name (i := 2) sc__law_text.nd rfl (Or.inl rfl)) (pss_cons (ps_set (i := 3) sc__law_text.nd rfl (Or.inl rfl) (pe_call G__law_pick (hr.mono (by decide)) (by rfl) T.g__law_pick T.f__law_pick.kp T.b__law_pick .nil pass0 (pa_cons (pv 0) (pa_cons pe_int pa_nil))))
      (pss_one (ps_expr (pe_bm PySem.F.plainAttrs_list PySem.F.slot_list_append PySem.F.type_list_append mt_append (pv 1) (pa_cons (pe_m1 PySem.F.slot_str_join PySem.F.type_str_join mt_join pe_str (pe_lc (own := [("at", 4)]) rfl sc__law_text.nd (pi_range1 rfl T.n_range (pa_cons (pv 3) pa_nil)) (blkOk_by (own := [("at", 4)]) (N := N__law_text) (sc := defScope s__law_text) (by decide +kernel)) (fun _ _ _ _ _ => (pg_name (i := 4) sc__law_text.nd rfl (Or.inl rfl))) (fun _ _ _ _ _ => pts_nil) (fun _ _ _ _ _ => (pe_ix ix_seq pe_str (pe_call G__law_pick (hr.mono (by decide)) (by rfl) T.g__law_pick T.f__law_pick.kp T.b__law_pick .nil pass0 (pa_cons (pv 0) (pa_cons pe_int pa_nil))) (fun _ _ => rfl))))) pa_nil))))))
      (pss_one (ps_ret (pe_m1 PySem.F.slot_str_join PySem.F.type_str_join mt_join pe_str (pv 1))))))
theorem tm__law_rows (T : Txt K mg A B) (G__law_number : FnOk Pr w K mg base CX0 1 A.a__law_number B.d__law_number ["signs"] (spD K (R__law_number A))) {f : Addr} {cdv : Value} {Ar : Around} {outer : List Env} {s : Shared} {H : Hp} {E : XK} (hr : Room 1 (Ar.deeper (envOfC "_law_rows" (defScope s__law_rows) s.heap.objs.size f cdv))) :
    PSs (cxOf CX0 Pr w K mg base N__law_rows "_law_rows" (defScope s__law_rows) f cdv Ar outer s H E).nox (defBody s__law_rows) (t__law_rows K A) :=
  (pss_one (ps_ret (pe_lc (own := [("row", 1)]) rfl sc__law_rows.nd (pi_list (pe_m1 PySem.F.slot_str_split PySem.F.type_str_split mt_split (pv 0) pe_str)) (blkOk_by (own := [("row", 1)]) (N := N__law_rows) (sc := defScope s__law_rows) (by decide +kernel)) (fun _ _ _ _ _ => (pg_name (i := 1) sc__law_rows.nd rfl (Or.inl rfl))) (fun _ _ _ _ _ => pts_nil) (fun _ _ _ _ _ => (pe_tup (pa_cons (pe_callB call_len (by rfl) T.n_len (by decide +kernel) (pa_cons (pv 1) pa_nil)) (pa_cons (pe_call G__law_number (hr.mono (by decide)) (by rfl) T.g__law_number T.f__law_number.kp T.b__law_number .nil pass0 (pa_cons (pv 1) pa_nil)) pa_nil)))))))
theorem tm__law_changed (T : Txt K mg A B) (G__law_pick : FnOk Pr w K mg base CX0 1 A.a__law_pick B.d__law_pick ["stream", "amount"] (spD K (R__law_pick A))) {f : Addr} {cdv : Value} {Ar : Around} {outer : List Env} {s : Shared} {H : Hp} {E : XK} (hr : Room 1 (Ar.deeper (envOfC "_law_changed" (defScope s__law_changed) s.heap.objs.size f cdv))) :
    PSs (cxOf CX0 Pr w K mg base N__law_changed "_law_changed" (defScope s__law_changed) f cdv Ar outer s H E).nox (defBody s__law_changed) (t__law_changed K A) :=
  (pss_cons (ps_par (i := 2) (j := 3) (by rfl) sc__law_changed.nd rfl rfl (by decide) rfl rfl (pa_cons (pe_m1 PySem.F.slot_str_split PySem.F.type_str_split mt_split (pv 1) pe_str) (pa_cons (pe_call G__law_pick (hr.mono (by decide)) (by rfl) T.g__law_pick T.f__law_pick.kp T.b__law_pick .nil pass0 (pa_cons (pv 0) (pa_cons pe_int pa_nil))) pa_nil)) (by rfl))
      (pss_cons (ps_set (i := 4) sc__law_changed.nd rfl (Or.inl rfl) (pe_call G__law_pick (hr.mono (by decide)) (by rfl) T.g__law_pick T.f__law_pick.kp T.b__law_pick .nil pass0 (pa_cons (pv 0) (pa_cons (pe_callB call_len (by rfl) T.n_len (by decide +kernel) (pa_cons (pv 2) pa_nil)) pa_nil))))
      (pss_cons (ps_set (i := 5) sc__law_changed.nd rfl (Or.inl rfl) (pe_ix ix_seq (pv 2) (pv 4) (fun _ _ => rfl)))
      (pss_cons (ps_par (i := 6) (j := 7) (by rfl) sc__law_changed.nd rfl rfl (by decide) rfl rfl (pa_cons (pe_call G__law_pick (hr.mono (by decide)) (by rfl) T.g__law_pick T.f__law_pick.kp T.b__law_pick .nil pass0 (pa_cons (pv 0) (pa_cons (pe_op op_addU (pe_callB call_len (by rfl) T.n_len (by decide +kernel) (pa_cons (pv 5) pa_nil)) pe_int) pa_nil))) (pa_cons (pe_call G__law_pick (hr.mono (by decide)) (by rfl) T.g__law_pick T.f__law_pick.kp T.b__law_pick .nil pass0 (pa_cons (pv 0) (pa_cons (pe_op op_addU (pe_callB call_len (by rfl) T.n_len (by decide +kernel) (pa_cons (pv 5) pa_nil)) pe_int) pa_nil))) pa_nil)) (by rfl))
      (pss_cons (ps_if (pt_cmpR (op_eqP hr.units) (pv 3) pe_int (nomark _)) (pss_one (ps_set (i := 5) sc__law_changed.nd rfl (Or.inl rfl) (pe_op op_addU (pe_op op_addU (pe_slice sl_U (pv 5) po_none (po_some (pv 6))) pe_str) (pe_slice sl_U (pv 5) (po_some (pe_op op_addU (pv 6) pe_int)) po_none)))) pss_nil)
      (pss_cons (ps_if (PW.pt (pw_and (pt_cmpR (op_eqP hr.units) (pv 3) pe_int (nomark _)) (pw_and1 (pt_chain (op_ltP hr.units) (op_ltP hr.units) (pv 6) (pv 7) (pe_callB call_len (by rfl) T.n_len (by decide +kernel) (pa_cons (pv 5) pa_nil)))))) (pss_cons (ps_par (i := 8) (j := 9) (by rfl) sc__law_changed.nd rfl rfl (by decide) rfl rfl (pa_cons (pe_op op_addU (pe_slice sl_U (pv 5) po_none (po_some (pv 6))) (pe_ix ix_seq (pv 5) (pv 7) (fun _ _ => rfl))) (pa_cons (pe_op op_addU (pe_ix ix_seq (pv 5) (pv 6) (fun _ _ => rfl)) (pe_slice sl_U (pv 5) (po_some (pe_op op_addU (pv 7) pe_int)) po_none)) pa_nil)) (by rfl))
      (pss_one (ps_set (i := 5) sc__law_changed.nd rfl (Or.inl rfl) (pe_op op_addU (pe_op op_addU (pv 8) (pe_slice sl_U (pv 5) (po_some (pe_op op_addU (pv 6) pe_int)) (po_some (pv 7)))) (pv 9))))) pss_nil)
      (pss_cons (ps_set (i := 10) sc__law_changed.nd rfl (Or.inl rfl) (pe_ix ix_seq (pe_lst (pa_cons (pe_lst (pa_cons (pv 5) pa_nil)) (pa_cons (pe_lst (pa_cons (pv 5) pa_nil)) (pa_cons (pe_lst (pa_cons (pe_ix ix_seq (pe_lst (pa_cons pe_str (pa_cons pe_str pa_nil))) (pe_op op_mod (pe_callTy call_int1 (by rfl) T.n_int (by decide +kernel) (pa_cons (pv 6) pa_nil)) pe_int) (fun _ _ => rfl)) (pa_cons (pv 5) pa_nil))) (pa_cons (pe_lst pa_nil) (pa_cons (pe_lst (pa_cons (pv 5) pa_nil)) (pa_cons (pe_lst (pa_cons (pv 5) pa_nil)) pa_nil))))))) (pv 3) (fun _ _ => rfl)))
      (pss_cons (ps_set (i := 2) sc__law_changed.nd rfl (Or.inl rfl) (pe_op op_addU (pe_op op_addU (pe_slice sl_U (pv 2) po_none (po_some (pv 4))) (pv 10)) (pe_slice sl_U (pv 2) (po_some (pe_op op_addU (pv 4) pe_int)) po_none)))
      (pss_one (ps_ret (pe_ifExp (pt_cmpR (op_ltP hr.units) (pv 3) pe_int (nomark _)) (pe_op op_addU (pe_m1 PySem.F.slot_str_join PySem.F.type_str_join mt_join pe_str (pv 2)) (pe_ix ix_seq (pe_lst (pa_cons pe_str (pa_cons pe_str (pa_cons pe_str pa_nil)))) (pe_call G__law_pick (hr.mono (by decide)) (by rfl) T.g__law_pick T.f__law_pick.kp T.b__law_pick .nil pass0 (pa_cons (pv 0) (pa_cons pe_int pa_nil))) (fun _ _ => rfl))) (pv 1))))))))))))
theorem tm_is_up_to (T : Txt K mg A B) (G_is_count : FnOk Pr w K mg base CX0 2 A.a_is_count B.d_is_count ["value"] (spD K (R_is_count A))) {f : Addr} {cdv : Value} {Ar : Around} {outer : List Env} {s : Shared} {H : Hp} {E : XK} (hr : Room 2 (Ar.deeper (envOfC "is_up_to" (defScope s_is_up_to) s.heap.objs.size f cdv))) :
    PSs (cxOf CX0 Pr w K mg base N_is_up_to "is_up_to" (defScope s_is_up_to) f cdv Ar outer s H E).nox (defBody s_is_up_to) (t_is_up_to K A) :=
  (pss_one (ps_ret (pe_and (pe_call G_is_count (hr.mono (by decide)) (by rfl) T.g_is_count T.f_is_count.kp T.b_is_count .nil pass0 (pa_cons (pv 0) pa_nil)) (pe_one (pe_or (pe_cmpR op_isN (pv 1) pe_non (nomark _)) (pe_one (pe_cmpR (op_leP hr.units) (pv 0) (pv 1) (nomark _))))))))
theorem tm_Fingerprint_init (T : Txt K mg A B) (G_checksum : FnOk Pr w K mg base CX0 2 A.a_checksum B.d_checksum ["signs"] (spD K (R_checksum A))) (G_lines_of : FnOk Pr w K mg base CX0 2 A.a_lines_of B.d_lines_of ["text"] (spD K (R_lines_of A))) {f : Addr} {cdv : Value} {Ar : Around} {outer : List Env} {s : Shared} {H : Hp} {E : XK} (hr : Room 2 (Ar.deeper (envOfC "Fingerprint.__init__" (defScope s_Fingerprint_init) s.heap.objs.size f cdv))) :
    PSs (cxOf CX0 Pr w K mg base N_Fingerprint_init "Fingerprint.__init__" (defScope s_Fingerprint_init) f cdv Ar outer s H E).nox (defBody s_Fingerprint_init) (t_Fingerprint_init K A) :=
  (pss_one (ps_fld (pv 0) (pe_callTy call_tuple_of (by rfl) T.n_tuple (by decide +kernel) (pa_cons (pe_lc (own := [("line", 2)]) rfl sc_Fingerprint_init.nd (pi_tup (pe_call G_lines_of (hr.mono (by decide)) (by rfl) T.g_lines_of T.f_lines_of.kp T.b_lines_of .nil pass0 (pa_cons (pv 1) pa_nil))) (blkOk_by (own := [("line", 2)]) (N := N_Fingerprint_init) (sc := defScope s_Fingerprint_init) (by decide +kernel)) (fun _ _ _ _ _ => (pg_name (i := 2) sc_Fingerprint_init.nd rfl (Or.inl rfl))) (fun _ _ _ _ _ => pts_nil) (fun _ _ _ _ _ => (pe_tup (pa_cons (pe_callB call_len (by rfl) T.n_len (by decide +kernel) (pa_cons (pv 2) pa_nil)) (pa_cons (pe_call G_checksum (hr.mono (by decide)) (by rfl) T.g_checksum T.f_checksum.kp T.b_checksum .nil pass0 (pa_cons (pv 2) pa_nil)) pa_nil))))) pa_nil)) rfl))
theorem tm__law_first (T : Txt K mg A B) (G__law_rows : FnOk Pr w K mg base CX0 2 A.a__law_rows B.d__law_rows ["signs"] (spD K (R__law_rows A))) {f : Addr} {cdv : Value} {Ar : Around} {outer : List Env} {s : Shared} {H : Hp} {E : XK} (hr : Room 2 (Ar.deeper (envOfC "_law_first" (defScope s__law_first) s.heap.objs.size f cdv))) :
    PSs (cxOf CX0 Pr w K mg base N__law_first "_law_first" (defScope s__law_first) f cdv Ar outer s H E).nox (defBody s__law_first) (t__law_first K A) :=
  (pss_cons (ps_par (i := 2) (j := 3) (by rfl) sc__law_first.nd rfl rfl (by decide) rfl rfl (pa_cons (pe_call G__law_rows (hr.mono (by decide)) (by rfl) T.g__law_rows T.f__law_rows.kp T.b__law_rows .nil pass0 (pa_cons (pv 0) pa_nil)) (pa_cons (pe_call G__law_rows (hr.mono (by decide)) (by rfl) T.g__law_rows T.f__law_rows.kp T.b__law_rows .nil pass0 (pa_cons (pv 1) pa_nil)) pa_nil)) (by rfl))
      (pss_cons (ps_for PassesOwn.never rfl (pi_range1 rfl T.n_range (pa_cons (pe_callB (call_max2 rfl) (by rfl) T.n_max (by decide +kernel) (pa_cons (pe_callB call_len (by rfl) T.n_len (by decide +kernel) (pa_cons (pv 2) pa_nil)) (pa_cons (pe_callB call_len (by rfl) T.n_len (by decide +kernel) (pa_cons (pv 3) pa_nil)) pa_nil))) pa_nil)) (pg_name (i := 4) sc__law_first.nd rfl (Or.inl rfl)) (pss_one (ps_if (pt_cmpR (op_neP hr.units) (pe_slice sl_U (pv 2) (po_some (pv 4)) (po_some (pe_op op_addU (pv 4) pe_int))) (pe_slice sl_U (pv 3) (po_some (pv 4)) (po_some (pe_op op_addU (pv 4) pe_int))) (nomark _)) (pss_one (ps_ret (pv 4))) pss_nil)))
      (pss_one (ps_ret pe_non))))
theorem tm_Fingerprint_getitem (T : Txt K mg A B) (G_is_up_to : FnOk Pr w K mg base CX0 3 A.a_is_up_to B.d_is_up_to ["value", "limit"] (spD K (R_is_up_to A))) {f : Addr} {cdv : Value} {Ar : Around} {outer : List Env} {s : Shared} {H : Hp} {E : XK} (hr : Room 3 (Ar.deeper (envOfC "Fingerprint.__getitem__" (defScope s_Fingerprint_getitem) s.heap.objs.size f cdv))) :
    PSs (cxOf CX0 Pr w K mg base N_Fingerprint_getitem "Fingerprint.__getitem__" (defScope s_Fingerprint_getitem) f cdv Ar outer s H E).nox (defBody s_Fingerprint_getitem) (t_Fingerprint_getitem K A) :=
  (pss_cons (ps_if (pt_not (pt_val (pe_call G_is_up_to (hr.mono (by decide)) (by rfl) T.g_is_up_to T.f_is_up_to.kp T.b_is_up_to .nil pass0 (pa_cons (pv 1) (pa_cons (pe_op op_sub (pe_callB call_len (by rfl) T.n_len (by decide +kernel) (pa_cons (pe_fld (pv 0) rfl) pa_nil)) pe_int) pa_nil))))) pss_never pss_nil)
      (pss_one (ps_ret (pe_ix ix_seq (pe_fld (pv 0) rfl) (pv 1) (fun _ _ => rfl)))))
theorem tm_Fingerprint_first_stale (T : Txt K mg A B) (G_Fingerprint_init : FnOk Pr w K mg base CX0 3 A.a_Fingerprint_init B.d_Fingerprint_init ["self", "text"] (spI K A.c_Fingerprint (R_Fingerprint_init A))) {f : Addr} {cdv : Value} {Ar : Around} {outer : List Env} {s : Shared} {H : Hp} {E : XK} (hr : Room 4 (Ar.deeper (envOfC "Fingerprint.first_stale" (defScope s_Fingerprint_first_stale) s.heap.objs.size f cdv))) :
    PSs (cxOf CX0 Pr w K mg base N_Fingerprint_first_stale "Fingerprint.first_stale" (defScope s_Fingerprint_first_stale) f cdv Ar outer s H E).nox (defBody s_Fingerprint_first_stale) (t_Fingerprint_first_stale K A) :=
  (pss_cons (ps_set (i := 2) sc_Fingerprint_first_stale.nd rfl (Or.inl rfl) (pe_fld (pe_make T.mk_Fingerprint G_Fingerprint_init (hr.mono (by decide)) rfl T.gc_Fingerprint T.b_Fingerprint_init .nil pass0 (pa_cons (pv 1) pa_nil)) rfl))
      (pss_cons (ps_for PassesOwn.never rfl (pi_enumZ (by rfl) T.n_enumerate (by rfl) T.n_zip (pa_cons (pe_fld (pv 0) rfl) (pa_cons (pv 2) pa_nil))) (pg_tup rfl (pgs_cons (pg_name (i := 3) sc_Fingerprint_first_stale.nd rfl (Or.inl rfl)) (pgs_cons (pg_tup rfl (pgs_cons (pg_name (i := 4) sc_Fingerprint_first_stale.nd rfl (Or.inl rfl)) (pgs_cons (pg_name (i := 5) sc_Fingerprint_first_stale.nd rfl (Or.inl rfl)) pgs_nil))) pgs_nil))) (pss_one (ps_if (pt_cmpR (op_neP hr.units) (pv 4) (pv 5) (nomark _)) (pss_one (ps_ret (pv 3))) pss_nil)))
      (pss_cons (ps_if (pt_cmpR (op_eqP hr.units) (pe_callB call_len (by rfl) T.n_len (by decide +kernel) (pa_cons (pe_fld (pv 0) rfl) pa_nil)) (pe_callB call_len (by rfl) T.n_len (by decide +kernel) (pa_cons (pv 2) pa_nil)) (nomark _)) (pss_one (ps_ret pe_non)) pss_nil)
      (pss_one (ps_ret (pe_callB (call_min2 rfl) (by rfl) T.n_min (by decide +kernel) (pa_cons (pe_callB call_len (by rfl) T.n_len (by decide +kernel) (pa_cons (pe_fld (pv 0) rfl) pa_nil)) (pa_cons (pe_callB call_len (by rfl) T.n_len (by decide +kernel) (pa_cons (pv 2) pa_nil)) pa_nil))))))))
theorem tm__law_right (T : Txt K mg A B) (G_Fingerprint_checksums : FnOk Pr w K mg base CX0 1 A.a_Fingerprint_checksums B.d_Fingerprint_checksums ["self"] (spD K (R_Fingerprint_checksums A))) (G_Fingerprint_eq : FnOk Pr w K mg base CX0 1 A.a_Fingerprint_eq B.d_Fingerprint_eq ["self", "other"] (spD K (R_Fingerprint_eq A))) (G_Fingerprint_first_stale : FnOk Pr w K mg base CX0 5 A.a_Fingerprint_first_stale B.d_Fingerprint_first_stale ["self", "text"] (spD K (R_Fingerprint_first_stale A))) (G_Fingerprint_getitem : FnOk Pr w K mg base CX0 4 A.a_Fingerprint_getitem B.d_Fingerprint_getitem ["self", "at"] (spD K (R_Fingerprint_getitem A))) (G_Fingerprint_init : FnOk Pr w K mg base CX0 3 A.a_Fingerprint_init B.d_Fingerprint_init ["self", "text"] (spI K A.c_Fingerprint (R_Fingerprint_init A))) (G_Fingerprint_len : FnOk Pr w K mg base CX0 1 A.a_Fingerprint_len B.d_Fingerprint_len ["self"] (spD K (R_Fingerprint_len A))) (G_Fingerprint_lengths : FnOk Pr w K mg base CX0 1 A.a_Fingerprint_lengths B.d_Fingerprint_lengths ["self"] (spD K (R_Fingerprint_lengths A))) (G__law_changed : FnOk Pr w K mg base CX0 2 A.a__law_changed B.d__law_changed ["stream", "signs"] (spD K (R__law_changed A))) (G__law_first : FnOk Pr w K mg base CX0 3 A.a__law_first B.d__law_first ["one", "other"] (spD K (R__law_first A))) (G__law_rows : FnOk Pr w K mg base CX0 2 A.a__law_rows B.d__law_rows ["signs"] (spD K (R__law_rows A))) (G__law_text : FnOk Pr w K mg base CX0 2 A.a__law_text B.d__law_text ["stream"] (spD K (R__law_text A))) {f : Addr} {cdv : Value} {Ar : Around} {outer : List Env} {s : Shared} {H : Hp} {E : XK} (hr : Room 6 (Ar.deeper (envOfC "_law_right" (defScope s__law_right) s.heap.objs.size f cdv))) :
    PSs (cxOf CX0 Pr w K mg base N__law_right "_law_right" (defScope s__law_right) f cdv Ar outer s H E).nox (defBody s__law_right) (t__law_right K A) :=
  (pss_cons (ps_set (i := 1) sc__law_right.nd rfl (Or.inl rfl) (pe_call G__law_text (hr.mono (by decide)) (by rfl) T.g__law_text T.f__law_text.kp T.b__law_text .nil pass0 (pa_cons (pv 0) pa_nil)))
      (pss_cons (ps_asg (pe_tup (pa_cons (pe_call G__law_changed (hr.mono (by decide)) (by rfl) T.g__law_changed T.f__law_changed.kp T.b__law_changed .nil pass0 (pa_cons (pv 0) (pa_cons (pv 1) pa_nil))) (pa_cons (pe_make T.mk_Fingerprint G_Fingerprint_init (hr.mono (by decide)) rfl T.gc_Fingerprint T.b_Fingerprint_init .nil pass0 (pa_cons (pv 1) pa_nil)) (pa_cons (pe_call G__law_rows (hr.mono (by decide)) (by rfl) T.g__law_rows T.f__law_rows.kp T.b__law_rows .nil pass0 (pa_cons (pv 1) pa_nil)) pa_nil)))) (pg_tup rfl (pgs_cons (pg_name (i := 2) sc__law_right.nd rfl (Or.inl rfl)) (pgs_cons (pg_name (i := 3) sc__law_right.nd rfl (Or.inr rfl)) (pgs_cons (pg_name (i := 4) sc__law_right.nd rfl (Or.inl rfl)) pgs_nil)))))
      (pss_cons (ps_if (PW.pt (pw_or (pt_cmpR (op_neP hr.units) (pe_lc (own := [("at", 6)]) rfl sc__law_right.nd (pi_range1 rfl T.n_range (pa_cons (pe_callB (call_lenO G_Fingerprint_len T.ssa_Fingerprint_len T.ssf_Fingerprint_len T.b_Fingerprint_len pass0 (hr.mono (by decide))) (by rfl) T.n_len (by decide +kernel) (pa_cons (pv 3) pa_nil)) pa_nil)) (blkOk_by (own := [("at", 6)]) (N := N__law_right) (sc := defScope s__law_right) (by decide +kernel)) (fun _ _ _ _ _ => (pg_name (i := 6) sc__law_right.nd rfl (Or.inl rfl))) (fun _ _ _ _ _ => pts_nil) (fun _ _ _ _ _ => (pe_ixO G_Fingerprint_getitem T.ssa_Fingerprint_getitem T.ssf_Fingerprint_getitem T.ssi_Fingerprint_getitem T.b_Fingerprint_getitem pass0 (hr.mono (by decide)) (pv 3) (pv 6)))) (pv 4) (nomark _)) (pw_or1 (pt_cmpR (op_neP hr.units) (pe_prop (pv 3) T.tc.cl_Fingerprint T.pr_Fingerprint_lengths G_Fingerprint_lengths (hr.mono (by decide)) T.b_Fingerprint_lengths .nil pass0 rfl) (pe_callTy call_tuple_of (by rfl) T.n_tuple (by decide +kernel) (pa_cons (pe_lc (own := [("row", 7)]) rfl sc__law_right.nd (pi_list (pv 4)) (blkOk_by (own := [("row", 7)]) (N := N__law_right) (sc := defScope s__law_right) (by decide +kernel)) (fun _ _ _ _ _ => (pg_name (i := 7) sc__law_right.nd rfl (Or.inl rfl))) (fun _ _ _ _ _ => pts_nil) (fun _ _ _ _ _ => (pe_ix ix_seq (pv 7) pe_int (fun _ _ => rfl)))) pa_nil)) (nomark _))))) (pss_one (ps_ret pe_bl)) pss_nil)
      (pss_cons (ps_if (PW.pt (pw_or (pt_cmpR (op_neP hr.units) (pe_prop (pv 3) T.tc.cl_Fingerprint T.pr_Fingerprint_checksums G_Fingerprint_checksums (hr.mono (by decide)) T.b_Fingerprint_checksums .nil pass0 rfl) (pe_callTy call_tuple_of (by rfl) T.n_tuple (by decide +kernel) (pa_cons (pe_lc (own := [("row", 7)]) rfl sc__law_right.nd (pi_list (pv 4)) (blkOk_by (own := [("row", 7)]) (N := N__law_right) (sc := defScope s__law_right) (by decide +kernel)) (fun _ _ _ _ _ => (pg_name (i := 7) sc__law_right.nd rfl (Or.inl rfl))) (fun _ _ _ _ _ => pts_nil) (fun _ _ _ _ _ => (pe_ix ix_seq (pv 7) pe_int (fun _ _ => rfl)))) pa_nil)) (nomark _)) (pw_or1 (pt_cmpR op_notN (pe_meth (pv 3) T.tc.cl_Fingerprint T.me_Fingerprint_first_stale G_Fingerprint_first_stale (hr.mono (by decide)) T.b_Fingerprint_first_stale .nil pass0 (pa_cons (pv 1) pa_nil)) pe_non (nomark _))))) (pss_one (ps_ret pe_bl)) pss_nil)
      (pss_cons (ps_set (i := 5) sc__law_right.nd rfl (Or.inl rfl) (pe_call G__law_first (hr.mono (by decide)) (by rfl) T.g__law_first T.f__law_first.kp T.b__law_first .nil pass0 (pa_cons (pv 1) (pa_cons (pv 2) pa_nil))))
      (pss_cons (ps_if (PW.pt (pw_or (pt_cmpR (op_neP hr.units) (pe_meth (pv 3) T.tc.cl_Fingerprint T.me_Fingerprint_first_stale G_Fingerprint_first_stale (hr.mono (by decide)) T.b_Fingerprint_first_stale .nil pass0 (pa_cons (pv 2) pa_nil)) (pv 5) (nomark _)) (pw_or1 (pt_cmpR (op_neP hr.units) (pe_meth (pe_make T.mk_Fingerprint G_Fingerprint_init (hr.mono (by decide)) rfl T.gc_Fingerprint T.b_Fingerprint_init .nil pass0 (pa_cons (pv 2) pa_nil)) T.tc.cl_Fingerprint T.me_Fingerprint_first_stale G_Fingerprint_first_stale (hr.mono (by decide)) T.b_Fingerprint_first_stale .nil pass0 (pa_cons (pv 1) pa_nil)) (pv 5) (nomark _))))) (pss_one (ps_ret pe_bl)) pss_nil)
      (pss_cons (ps_if (PW.pt (pw_or (pt_cmpR (op_neP hr.units) (pe_cmpR (op_eqO G_Fingerprint_eq T.es_Fingerprint T.ef_Fingerprint T.b_Fingerprint_eq pass0 (hr.mono (by decide))) (pv 3) (pe_make T.mk_Fingerprint G_Fingerprint_init (hr.mono (by decide)) rfl T.gc_Fingerprint T.b_Fingerprint_init .nil pass0 (pa_cons (pv 2) pa_nil)) (nomark _)) (pe_cmpR op_isN (pv 5) pe_non (nomark _)) (nomark _)) (pw_or (pt_cmpR (op_eqO G_Fingerprint_eq T.es_Fingerprint T.ef_Fingerprint T.b_Fingerprint_eq pass0 (hr.mono (by decide))) (pv 3) (pv 4) (nomark _)) (pw_or1 (pt_cmpR (op_eqO G_Fingerprint_eq T.es_Fingerprint T.ef_Fingerprint T.b_Fingerprint_eq pass0 (hr.mono (by decide))) (pv 3) (pv 1) (nomark _)))))) (pss_one (ps_ret pe_bl)) pss_nil)
      (pss_one (ps_ret (pe_ifExp (PW.pt (pw_and (pt_cmpR (op_eqP hr.units) (pe_callB call_len (by rfl) T.n_len (by decide +kernel) (pa_cons (pv 1) pa_nil)) (pe_callB call_len (by rfl) T.n_len (by decide +kernel) (pa_cons (pv 2) pa_nil)) (nomark _)) (pw_and (pt_cmpR (op_neP hr.units) (pv 1) (pv 2) (nomark _)) (pw_and1 (pt_cmpR (op_eqP hr.units) (pe_m1 PySem.F.slot_str_count PySem.F.type_str_count mt_count (pv 1) pe_str) (pe_m1 PySem.F.slot_str_count PySem.F.type_str_count mt_count (pv 2) pe_str) (nomark _)))))) (pe_cmpR op_notN (pv 5) pe_non (nomark _)) pe_bl))))))))))
theorem tm_law (T : Txt K mg A B) (G_Fingerprint_first_stale : FnOk Pr w K mg base CX0 5 A.a_Fingerprint_first_stale B.d_Fingerprint_first_stale ["self", "text"] (spD K (R_Fingerprint_first_stale A))) (G_Fingerprint_getitem : FnOk Pr w K mg base CX0 4 A.a_Fingerprint_getitem B.d_Fingerprint_getitem ["self", "at"] (spD K (R_Fingerprint_getitem A))) (G_Fingerprint_init : FnOk Pr w K mg base CX0 3 A.a_Fingerprint_init B.d_Fingerprint_init ["self", "text"] (spI K A.c_Fingerprint (R_Fingerprint_init A))) (G_Fingerprint_lengths : FnOk Pr w K mg base CX0 1 A.a_Fingerprint_lengths B.d_Fingerprint_lengths ["self"] (spD K (R_Fingerprint_lengths A))) (G__law_number : FnOk Pr w K mg base CX0 1 A.a__law_number B.d__law_number ["signs"] (spD K (R__law_number A))) (G__law_right : FnOk Pr w K mg base CX0 7 A.a__law_right B.d__law_right ["stream"] (spD K (R__law_right A))) (G__law_stream : FnOk Pr w K mg base CX0 1 A.a__law_stream B.d__law_stream ["script", "k"] (spD K (R__law_stream A))) (G_checksum : FnOk Pr w K mg base CX0 2 A.a_checksum B.d_checksum ["signs"] (spD K (R_checksum A))) {f : Addr} {cdv : Value} {Ar : Around} {outer : List Env} {s : Shared} {H : Hp} {E : XK} (hgu : (Ar.deeper (envOfC "law" (defScope s_law) s.heap.objs.size f cdv)).guards = some []) (hr : Room 7 (Ar.deeper (envOfC "law" (defScope s_law) s.heap.objs.size f cdv))) :
    PSs (cxOf CX0 Pr w K mg base N_law "law" (defScope s_law) f cdv Ar outer s H E).nox (defBody s_law) (t_law K A) :=
  (pss_cons (ps_for PassesOwn.never rfl (pi_range1 rfl T.n_range (pa_cons (pe_callB (call_max2 rfl) (by rfl) T.n_max (by decide +kernel) (pa_cons pe_int (pa_cons (pe_callB (call_min2 rfl) (by rfl) T.n_min (by decide +kernel) (pa_cons (pe_callB call_len (by rfl) T.n_len (by decide +kernel) (pa_cons (pv 0) pa_nil)) (pa_cons pe_int pa_nil))) pa_nil))) pa_nil)) (pg_name (i := 1) sc_law.nd rfl (Or.inl rfl)) (pss_cons (ps_set (i := 2) sc_law.nd rfl (Or.inl rfl) (pe_call G__law_stream (hr.mono (by decide)) (by rfl) T.g__law_stream T.f__law_stream.kp T.b__law_stream .nil pass0 (pa_cons (pv 0) (pa_cons (pv 1) pa_nil))))
      (pss_one (ps_if (PW.pt (pw_or (pt_not (pt_val (pe_call G__law_right (hr.mono (by decide)) (by rfl) T.g__law_right T.f__law_right.kp T.b__law_right .nil pass0 (pa_cons (pv 2) pa_nil)))) (pw_or1 (pt_not (pt_val (pe_call G__law_right (hr.mono (by decide)) (by rfl) T.g__law_right T.f__law_right.kp T.b__law_right .nil pass0 (pa_cons (pv 2) pa_nil))))))) (pss_one (ps_ret pe_bl)) pss_nil))))
      (pss_cons (ps_set (i := 3) sc_law.nd rfl (Or.inl rfl) (pe_op op_mulT pe_str pe_int))
      (pss_cons (ps_if (PW.pt (pw_or (pt_cmpR (op_neP hr.units) (pe_call G_checksum (hr.mono (by decide)) (by rfl) T.g_checksum T.f_checksum.kp T.b_checksum .nil pass0 (pa_cons (pv 3) pa_nil)) (pe_call G__law_number (hr.mono (by decide)) (by rfl) T.g__law_number T.f__law_number.kp T.b__law_number .nil pass0 (pa_cons (pv 3) pa_nil)) (nomark _)) (pw_or1 (pt_cmpR (op_neP hr.units) (pe_ixO G_Fingerprint_getitem T.ssa_Fingerprint_getitem T.ssf_Fingerprint_getitem T.ssi_Fingerprint_getitem T.b_Fingerprint_getitem pass0 (hr.mono (by decide)) (pe_make T.mk_Fingerprint G_Fingerprint_init (hr.mono (by decide)) rfl T.gc_Fingerprint T.b_Fingerprint_init .nil pass0 (pa_cons (pe_op op_addU (pv 3) pe_str) pa_nil)) pe_int) (pe_tup (pa_cons pe_int (pa_cons (pe_call G__law_number (hr.mono (by decide)) (by rfl) T.g__law_number T.f__law_number.kp T.b__law_number .nil pass0 (pa_cons (pv 3) pa_nil)) pa_nil))) (nomark _))))) (pss_one (ps_ret pe_bl)) pss_nil)
      (pss_one (ps_ret (pe_and (pe_cmpR (op_eqP hr.units) (pe_call G_checksum (hr.mono (by decide)) (by rfl) T.g_checksum T.f_checksum.kp T.b_checksum .nil pass0 (pa_cons pe_str pa_nil)) pe_int (nomark _)) (pe_and (pe_cmpR (op_eqP hr.units) (pe_prop (pe_make T.mk_Fingerprint G_Fingerprint_init (hr.mono (by decide)) rfl T.gc_Fingerprint T.b_Fingerprint_init .nil pass0 (pa_cons pe_str pa_nil)) T.tc.cl_Fingerprint T.pr_Fingerprint_lengths G_Fingerprint_lengths (hr.mono (by decide)) T.b_Fingerprint_lengths .nil pass0 rfl) (pe_tup (pa_cons pe_int pa_nil)) (nomark _)) (pe_one (pe_cmpR (op_eqP hr.units) (pe_meth (pe_make T.mk_Fingerprint G_Fingerprint_init (hr.mono (by decide)) rfl T.gc_Fingerprint T.b_Fingerprint_init .nil pass0 (pa_cons pe_str pa_nil)) T.tc.cl_Fingerprint T.me_Fingerprint_first_stale G_Fingerprint_first_stale (hr.mono (by decide)) T.b_Fingerprint_first_stale .nil pass0 (pa_cons pe_str pa_nil)) pe_int (nomark _))))))))))
end
section
variable {Pr : Program} {w : World} {K : PySem.W.Frag} [Tb K] {mg : Str → Option Value} {base : Heap} {A : Ad} {B : Fd}
theorem ok_is_integer (T : Txt K mg A B)  : FnOk Pr w K mg base CX0 1 A.a_is_integer B.d_is_integer ["value"] (spD K (R_is_integer A)) :=
  dok T.f_is_integer sc_is_integer len_is_integer (by decide) fun cdv Ar outer s H E hr => ⟨t_is_integer K A, tm_is_integer T  hr, w_is_integer T.tc⟩
theorem ok_check_text (T : Txt K mg A B)  : FnOk Pr w K mg base CX0 1 A.a_check_text B.d_check_text ["value"] (spD K (R_check_text A)) :=
  dok T.f_check_text sc_check_text len_check_text (by decide) fun cdv Ar outer s H E hr => ⟨t_check_text K A, tm_check_text T  hr, w_check_text T.tc⟩
theorem ok_Fingerprint_lengths (T : Txt K mg A B)  : FnOk Pr w K mg base CX0 1 A.a_Fingerprint_lengths B.d_Fingerprint_lengths ["self"] (spD K (R_Fingerprint_lengths A)) :=
  dok T.f_Fingerprint_lengths sc_Fingerprint_lengths len_Fingerprint_lengths (by decide) fun cdv Ar outer s H E hr => ⟨t_Fingerprint_lengths K A, tm_Fingerprint_lengths T  hr, w_Fingerprint_lengths T.tc⟩
theorem ok_Fingerprint_checksums (T : Txt K mg A B)  : FnOk Pr w K mg base CX0 1 A.a_Fingerprint_checksums B.d_Fingerprint_checksums ["self"] (spD K (R_Fingerprint_checksums A)) :=
  dok T.f_Fingerprint_checksums sc_Fingerprint_checksums len_Fingerprint_checksums (by decide) fun cdv Ar outer s H E hr => ⟨t_Fingerprint_checksums K A, tm_Fingerprint_checksums T  hr, w_Fingerprint_checksums T.tc⟩
theorem ok_Fingerprint_len (T : Txt K mg A B)  : FnOk Pr w K mg base CX0 1 A.a_Fingerprint_len B.d_Fingerprint_len ["self"] (spD K (R_Fingerprint_len A)) :=
  dok T.f_Fingerprint_len sc_Fingerprint_len len_Fingerprint_len (by decide) fun cdv Ar outer s H E hr => ⟨t_Fingerprint_len K A, tm_Fingerprint_len T  hr, w_Fingerprint_len T.tc⟩
theorem ok_Fingerprint_eq (T : Txt K mg A B)  : FnOk Pr w K mg base CX0 1 A.a_Fingerprint_eq B.d_Fingerprint_eq ["self", "other"] (spD K (R_Fingerprint_eq A)) :=
  dok T.f_Fingerprint_eq sc_Fingerprint_eq len_Fingerprint_eq (by decide) fun cdv Ar outer s H E hr => ⟨t_Fingerprint_eq K A, tm_Fingerprint_eq T  hr, w_Fingerprint_eq T.tc⟩
theorem ok__law_stream (T : Txt K mg A B)  : FnOk Pr w K mg base CX0 1 A.a__law_stream B.d__law_stream ["script", "k"] (spD K (R__law_stream A)) :=
  dok T.f__law_stream sc__law_stream len__law_stream (by decide) fun cdv Ar outer s H E hr => ⟨t__law_stream K A, tm__law_stream T  hr, w__law_stream T.tc⟩
theorem ok__law_pick (T : Txt K mg A B)  : FnOk Pr w K mg base CX0 1 A.a__law_pick B.d__law_pick ["stream", "amount"] (spD K (R__law_pick A)) :=
  dok T.f__law_pick sc__law_pick len__law_pick (by decide) fun cdv Ar outer s H E hr => ⟨t__law_pick K A, tm__law_pick T  hr, w__law_pick T.tc⟩
theorem ok__law_number (T : Txt K mg A B)  : FnOk Pr w K mg base CX0 1 A.a__law_number B.d__law_number ["signs"] (spD K (R__law_number A)) :=
  dok T.f__law_number sc__law_number len__law_number (by decide) fun cdv Ar outer s H E hr => ⟨t__law_number K A, tm__law_number T  hr, w__law_number T.tc⟩
theorem ok_is_count (T : Txt K mg A B) (G_is_integer : FnOk Pr w K mg base CX0 1 A.a_is_integer B.d_is_integer ["value"] (spD K (R_is_integer A))) : FnOk Pr w K mg base CX0 2 A.a_is_count B.d_is_count ["value"] (spD K (R_is_count A)) :=
  dok T.f_is_count sc_is_count len_is_count (by decide) fun cdv Ar outer s H E hr => ⟨t_is_count K A, tm_is_count T G_is_integer hr, w_is_count T.tc⟩
theorem ok_lines_of (T : Txt K mg A B) (G_check_text : FnOk Pr w K mg base CX0 1 A.a_check_text B.d_check_text ["value"] (spD K (R_check_text A))) : FnOk Pr w K mg base CX0 2 A.a_lines_of B.d_lines_of ["text"] (spD K (R_lines_of A)) :=
  dok T.f_lines_of sc_lines_of len_lines_of (by decide) fun cdv Ar outer s H E hr => ⟨t_lines_of K A, tm_lines_of T G_check_text hr, w_lines_of T.tc⟩
theorem ok_checksum (T : Txt K mg A B) (G_check_text : FnOk Pr w K mg base CX0 1 A.a_check_text B.d_check_text ["value"] (spD K (R_check_text A))) : FnOk Pr w K mg base CX0 2 A.a_checksum B.d_checksum ["signs"] (spD K (R_checksum A)) :=
  dok T.f_checksum sc_checksum len_checksum (by decide) fun cdv Ar outer s H E hr => ⟨t_checksum K A, tm_checksum T G_check_text hr, w_checksum T.tc⟩
theorem ok__law_text (T : Txt K mg A B) (G__law_pick : FnOk Pr w K mg base CX0 1 A.a__law_pick B.d__law_pick ["stream", "amount"] (spD K (R__law_pick A))) : FnOk Pr w K mg base CX0 2 A.a__law_text B.d__law_text ["stream"] (spD K (R__law_text A)) :=
  dok T.f__law_text sc__law_text len__law_text (by decide) fun cdv Ar outer s H E hr => ⟨t__law_text K A, tm__law_text T G__law_pick hr, w__law_text T.tc⟩
theorem ok__law_rows (T : Txt K mg A B) (G__law_number : FnOk Pr w K mg base CX0 1 A.a__law_number B.d__law_number ["signs"] (spD K (R__law_number A))) : FnOk Pr w K mg base CX0 2 A.a__law_rows B.d__law_rows ["signs"] (spD K (R__law_rows A)) :=
  dok T.f__law_rows sc__law_rows len__law_rows (by decide) fun cdv Ar outer s H E hr => ⟨t__law_rows K A, tm__law_rows T G__law_number hr, w__law_rows T.tc⟩
theorem ok__law_changed (T : Txt K mg A B) (G__law_pick : FnOk Pr w K mg base CX0 1 A.a__law_pick B.d__law_pick ["stream", "amount"] (spD K (R__law_pick A))) : FnOk Pr w K mg base CX0 2 A.a__law_changed B.d__law_changed ["stream", "signs"] (spD K (R__law_changed A)) :=
  dok T.f__law_changed sc__law_changed len__law_changed (by decide) fun cdv Ar outer s H E hr => ⟨t__law_changed K A, tm__law_changed T G__law_pick hr, w__law_changed T.tc⟩
theorem ok_is_up_to (T : Txt K mg A B) (G_is_count : FnOk Pr w K mg base CX0 2 A.a_is_count B.d_is_count ["value"] (spD K (R_is_count A))) : FnOk Pr w K mg base CX0 3 A.a_is_up_to B.d_is_up_to ["value", "limit"] (spD K (R_is_up_to A)) :=
  dok T.f_is_up_to sc_is_up_to len_is_up_to (by decide) fun cdv Ar outer s H E hr => ⟨t_is_up_to K A, tm_is_up_to T G_is_count hr, w_is_up_to T.tc⟩
theorem ok_Fingerprint_init (T : Txt K mg A B) (G_checksum : FnOk Pr w K mg base CX0 2 A.a_checksum B.d_checksum ["signs"] (spD K (R_checksum A))) (G_lines_of : FnOk Pr w K mg base CX0 2 A.a_lines_of B.d_lines_of ["text"] (spD K (R_lines_of A))) : FnOk Pr w K mg base CX0 3 A.a_Fingerprint_init B.d_Fingerprint_init ["self", "text"] (spI K A.c_Fingerprint (R_Fingerprint_init A)) :=
  dokI T.f_Fingerprint_init sc_Fingerprint_init len_Fingerprint_init (by decide) fun cdv Ar outer s H E hr => ⟨t_Fingerprint_init K A, tm_Fingerprint_init T G_checksum G_lines_of hr, w_Fingerprint_init T.tc⟩
theorem ok__law_first (T : Txt K mg A B) (G__law_rows : FnOk Pr w K mg base CX0 2 A.a__law_rows B.d__law_rows ["signs"] (spD K (R__law_rows A))) : FnOk Pr w K mg base CX0 3 A.a__law_first B.d__law_first ["one", "other"] (spD K (R__law_first A)) :=
  dok T.f__law_first sc__law_first len__law_first (by decide) fun cdv Ar outer s H E hr => ⟨t__law_first K A, tm__law_first T G__law_rows hr, w__law_first T.tc⟩
theorem ok_Fingerprint_getitem (T : Txt K mg A B) (G_is_up_to : FnOk Pr w K mg base CX0 3 A.a_is_up_to B.d_is_up_to ["value", "limit"] (spD K (R_is_up_to A))) : FnOk Pr w K mg base CX0 4 A.a_Fingerprint_getitem B.d_Fingerprint_getitem ["self", "at"] (spD K (R_Fingerprint_getitem A)) :=
  dok T.f_Fingerprint_getitem sc_Fingerprint_getitem len_Fingerprint_getitem (by decide) fun cdv Ar outer s H E hr => ⟨t_Fingerprint_getitem K A, tm_Fingerprint_getitem T G_is_up_to hr, w_Fingerprint_getitem T.tc⟩
theorem ok_Fingerprint_first_stale (T : Txt K mg A B) (G_Fingerprint_init : FnOk Pr w K mg base CX0 3 A.a_Fingerprint_init B.d_Fingerprint_init ["self", "text"] (spI K A.c_Fingerprint (R_Fingerprint_init A))) : FnOk Pr w K mg base CX0 5 A.a_Fingerprint_first_stale B.d_Fingerprint_first_stale ["self", "text"] (spD K (R_Fingerprint_first_stale A)) :=
  dok T.f_Fingerprint_first_stale sc_Fingerprint_first_stale len_Fingerprint_first_stale (by decide) fun cdv Ar outer s H E hr => ⟨t_Fingerprint_first_stale K A, tm_Fingerprint_first_stale T G_Fingerprint_init hr, w_Fingerprint_first_stale T.tc⟩
theorem ok__law_right (T : Txt K mg A B) (G_Fingerprint_checksums : FnOk Pr w K mg base CX0 1 A.a_Fingerprint_checksums B.d_Fingerprint_checksums ["self"] (spD K (R_Fingerprint_checksums A))) (G_Fingerprint_eq : FnOk Pr w K mg base CX0 1 A.a_Fingerprint_eq B.d_Fingerprint_eq ["self", "other"] (spD K (R_Fingerprint_eq A))) (G_Fingerprint_first_stale : FnOk Pr w K mg base CX0 5 A.a_Fingerprint_first_stale B.d_Fingerprint_first_stale ["self", "text"] (spD K (R_Fingerprint_first_stale A))) (G_Fingerprint_getitem : FnOk Pr w K mg base CX0 4 A.a_Fingerprint_getitem B.d_Fingerprint_getitem ["self", "at"] (spD K (R_Fingerprint_getitem A))) (G_Fingerprint_init : FnOk Pr w K mg base CX0 3 A.a_Fingerprint_init B.d_Fingerprint_init ["self", "text"] (spI K A.c_Fingerprint (R_Fingerprint_init A))) (G_Fingerprint_len : FnOk Pr w K mg base CX0 1 A.a_Fingerprint_len B.d_Fingerprint_len ["self"] (spD K (R_Fingerprint_len A))) (G_Fingerprint_lengths : FnOk Pr w K mg base CX0 1 A.a_Fingerprint_lengths B.d_Fingerprint_lengths ["self"] (spD K (R_Fingerprint_lengths A))) (G__law_changed : FnOk Pr w K mg base CX0 2 A.a__law_changed B.d__law_changed ["stream", "signs"] (spD K (R__law_changed A))) (G__law_first : FnOk Pr w K mg base CX0 3 A.a__law_first B.d__law_first ["one", "other"] (spD K (R__law_first A))) (G__law_rows : FnOk Pr w K mg base CX0 2 A.a__law_rows B.d__law_rows ["signs"] (spD K (R__law_rows A))) (G__law_text : FnOk Pr w K mg base CX0 2 A.a__law_text B.d__law_text ["stream"] (spD K (R__law_text A))) : FnOk Pr w K mg base CX0 7 A.a__law_right B.d__law_right ["stream"] (spD K (R__law_right A)) :=
  dok T.f__law_right sc__law_right len__law_right (by decide) fun cdv Ar outer s H E hr => ⟨t__law_right K A, tm__law_right T G_Fingerprint_checksums G_Fingerprint_eq G_Fingerprint_first_stale G_Fingerprint_getitem G_Fingerprint_init G_Fingerprint_len G_Fingerprint_lengths G__law_changed G__law_first G__law_rows G__law_text hr, w__law_right T.tc⟩
theorem ok_law (T : Txt K mg A B) (G_Fingerprint_first_stale : FnOk Pr w K mg base CX0 5 A.a_Fingerprint_first_stale B.d_Fingerprint_first_stale ["self", "text"] (spD K (R_Fingerprint_first_stale A))) (G_Fingerprint_getitem : FnOk Pr w K mg base CX0 4 A.a_Fingerprint_getitem B.d_Fingerprint_getitem ["self", "at"] (spD K (R_Fingerprint_getitem A))) (G_Fingerprint_init : FnOk Pr w K mg base CX0 3 A.a_Fingerprint_init B.d_Fingerprint_init ["self", "text"] (spI K A.c_Fingerprint (R_Fingerprint_init A))) (G_Fingerprint_lengths : FnOk Pr w K mg base CX0 1 A.a_Fingerprint_lengths B.d_Fingerprint_lengths ["self"] (spD K (R_Fingerprint_lengths A))) (G__law_number : FnOk Pr w K mg base CX0 1 A.a__law_number B.d__law_number ["signs"] (spD K (R__law_number A))) (G__law_right : FnOk Pr w K mg base CX0 7 A.a__law_right B.d__law_right ["stream"] (spD K (R__law_right A))) (G__law_stream : FnOk Pr w K mg base CX0 1 A.a__law_stream B.d__law_stream ["script", "k"] (spD K (R__law_stream A))) (G_checksum : FnOk Pr w K mg base CX0 2 A.a_checksum B.d_checksum ["signs"] (spD K (R_checksum A))) : FnG Pr w K mg base CX0 8 A.a_law B.d_law ["script"] (spD K (R_law A)) :=
  dokG T.f_law sc_law len_law (by decide) fun cdv Ar outer s H E hcd hgu hr => ⟨t_law K A, tm_law T G_Fingerprint_first_stale G_Fingerprint_getitem G_Fingerprint_init G_Fingerprint_lengths G__law_number G__law_right G__law_stream G_checksum hgu hr, w_law T.tc⟩
theorem ok_all (T : Txt K mg A B)  : FnG Pr w K mg base CX0 8 A.a_law B.d_law ["script"] (spD K (R_law A)) := by
  have h_is_integer := ok_is_integer (Pr := Pr) (w := w) (base := base) T 
  have h_check_text := ok_check_text (Pr := Pr) (w := w) (base := base) T 
  have h_Fingerprint_lengths := ok_Fingerprint_lengths (Pr := Pr) (w := w) (base := base) T 
  have h_Fingerprint_checksums := ok_Fingerprint_checksums (Pr := Pr) (w := w) (base := base) T 
  have h_Fingerprint_len := ok_Fingerprint_len (Pr := Pr) (w := w) (base := base) T 
  have h_Fingerprint_eq := ok_Fingerprint_eq (Pr := Pr) (w := w) (base := base) T 
  have h__law_stream := ok__law_stream (Pr := Pr) (w := w) (base := base) T 
  have h__law_pick := ok__law_pick (Pr := Pr) (w := w) (base := base) T 
  have h__law_number := ok__law_number (Pr := Pr) (w := w) (base := base) T 
  have h_is_count := ok_is_count (Pr := Pr) (w := w) (base := base) T h_is_integer
  have h_lines_of := ok_lines_of (Pr := Pr) (w := w) (base := base) T h_check_text
  have h_checksum := ok_checksum (Pr := Pr) (w := w) (base := base) T h_check_text
  have h__law_text := ok__law_text (Pr := Pr) (w := w) (base := base) T h__law_pick
  have h__law_rows := ok__law_rows (Pr := Pr) (w := w) (base := base) T h__law_number
  have h__law_changed := ok__law_changed (Pr := Pr) (w := w) (base := base) T h__law_pick
  have h_is_up_to := ok_is_up_to (Pr := Pr) (w := w) (base := base) T h_is_count
  have h_Fingerprint_init := ok_Fingerprint_init (Pr := Pr) (w := w) (base := base) T h_checksum h_lines_of
  have h__law_first := ok__law_first (Pr := Pr) (w := w) (base := base) T h__law_rows
  have h_Fingerprint_getitem := ok_Fingerprint_getitem (Pr := Pr) (w := w) (base := base) T h_is_up_to
  have h_Fingerprint_first_stale := ok_Fingerprint_first_stale (Pr := Pr) (w := w) (base := base) T h_Fingerprint_init
  have h__law_right := ok__law_right (Pr := Pr) (w := w) (base := base) T h_Fingerprint_checksums h_Fingerprint_eq h_Fingerprint_first_stale h_Fingerprint_getitem h_Fingerprint_init h_Fingerprint_len h_Fingerprint_lengths h__law_changed h__law_first h__law_rows h__law_text
  have h_law := ok_law (Pr := Pr) (w := w) (base := base) T h_Fingerprint_first_stale h_Fingerprint_getitem h_Fingerprint_init h_Fingerprint_lengths h__law_number h__law_right h__law_stream h_checksum
  exact h_law
end
theorem all_mk {l : PySem.W.OpenLaw} {w : World} {K : PySem.W.Frag} {h : Heap} {mg : Str → Option Value} {fa : Addr} (X : K.In h) (G : h.Ns mainGlobals mg) (hfa : mg "law" = some (.ref fa))
    {c_Fingerprint a_is_integer a_check_text a_Fingerprint_lengths a_Fingerprint_checksums a_Fingerprint_len a_Fingerprint_eq a__law_stream a__law_pick a__law_number a_is_count a_lines_of a_checksum a__law_text a__law_rows a__law_changed a_is_up_to a_Fingerprint_init a__law_first a_Fingerprint_getitem a_Fingerprint_first_stale a__law_right a_law p_Fingerprint_checksums p_Fingerprint_lengths : Addr}
    {od0 an0 : Option Addr} {sl0 : Array (Option Value)} {oc0 kV0 dc0 pm0 cd0 ct0 : Value}
    {od1 an1 : Option Addr} {sl1 : Array (Option Value)} {oc1 kV1 dc1 pm1 cd1 ct1 : Value}
    {od2 an2 : Option Addr} {sl2 : Array (Option Value)} {oc2 kV2 dc2 pm2 cd2 ct2 : Value}
    {od3 an3 : Option Addr} {sl3 : Array (Option Value)} {oc3 kV3 dc3 pm3 cd3 ct3 : Value}
    {od4 an4 : Option Addr} {sl4 : Array (Option Value)} {oc4 kV4 dc4 pm4 cd4 ct4 : Value}
    {od5 an5 : Option Addr} {sl5 : Array (Option Value)} {oc5 kV5 dc5 pm5 cd5 ct5 : Value}
    {od6 an6 : Option Addr} {sl6 : Array (Option Value)} {oc6 kV6 dc6 pm6 cd6 ct6 : Value}
    {od7 an7 : Option Addr} {sl7 : Array (Option Value)} {oc7 kV7 dc7 pm7 cd7 ct7 : Value}
    {od8 an8 : Option Addr} {sl8 : Array (Option Value)} {oc8 kV8 dc8 pm8 cd8 ct8 : Value}
    {od9 an9 : Option Addr} {sl9 : Array (Option Value)} {oc9 kV9 dc9 pm9 cd9 ct9 : Value}
    {od10 an10 : Option Addr} {sl10 : Array (Option Value)} {oc10 kV10 dc10 pm10 cd10 ct10 : Value}
    {od11 an11 : Option Addr} {sl11 : Array (Option Value)} {oc11 kV11 dc11 pm11 cd11 ct11 : Value}
    {od12 an12 : Option Addr} {sl12 : Array (Option Value)} {oc12 kV12 dc12 pm12 cd12 ct12 : Value}
    {od13 an13 : Option Addr} {sl13 : Array (Option Value)} {oc13 kV13 dc13 pm13 cd13 ct13 : Value}
    {od14 an14 : Option Addr} {sl14 : Array (Option Value)} {oc14 kV14 dc14 pm14 cd14 ct14 : Value}
    {od15 an15 : Option Addr} {sl15 : Array (Option Value)} {oc15 kV15 dc15 pm15 cd15 ct15 : Value}
    {od16 an16 : Option Addr} {sl16 : Array (Option Value)} {oc16 kV16 dc16 pm16 cd16 ct16 : Value}
    {od17 an17 : Option Addr} {sl17 : Array (Option Value)} {oc17 kV17 dc17 pm17 cd17 ct17 : Value}
    {od18 an18 : Option Addr} {sl18 : Array (Option Value)} {oc18 kV18 dc18 pm18 cd18 ct18 : Value}
    {od19 an19 : Option Addr} {sl19 : Array (Option Value)} {oc19 kV19 dc19 pm19 cd19 ct19 : Value}
    {od20 an20 : Option Addr} {sl20 : Array (Option Value)} {oc20 kV20 dc20 pm20 cd20 ct20 : Value}
    {od21 an21 : Option Addr} {sl21 : Array (Option Value)} {oc21 kV21 dc21 pm21 cd21 ct21 : Value}
    {t_MODULUS : Tok}
    {rs_Fingerprint_checksums : List Value}
    {rs_Fingerprint_lengths : List Value}
    (zg__law_changed : PySem.W.nsIn K mainGlobals "_law_changed" = some (some (.ref a__law_changed)))
    (zg__law_first : PySem.W.nsIn K mainGlobals "_law_first" = some (some (.ref a__law_first)))
    (zg__law_number : PySem.W.nsIn K mainGlobals "_law_number" = some (some (.ref a__law_number)))
    (zg__law_pick : PySem.W.nsIn K mainGlobals "_law_pick" = some (some (.ref a__law_pick)))
    (zg__law_right : PySem.W.nsIn K mainGlobals "_law_right" = some (some (.ref a__law_right)))
    (zg__law_rows : PySem.W.nsIn K mainGlobals "_law_rows" = some (some (.ref a__law_rows)))
    (zg__law_stream : PySem.W.nsIn K mainGlobals "_law_stream" = some (some (.ref a__law_stream)))
    (zg__law_text : PySem.W.nsIn K mainGlobals "_law_text" = some (some (.ref a__law_text)))
    (zg_check_text : PySem.W.nsIn K mainGlobals "check_text" = some (some (.ref a_check_text)))
    (zg_checksum : PySem.W.nsIn K mainGlobals "checksum" = some (some (.ref a_checksum)))
    (zg_is_count : PySem.W.nsIn K mainGlobals "is_count" = some (some (.ref a_is_count)))
    (zg_is_integer : PySem.W.nsIn K mainGlobals "is_integer" = some (some (.ref a_is_integer)))
    (zg_is_up_to : PySem.W.nsIn K mainGlobals "is_up_to" = some (some (.ref a_is_up_to)))
    (zg_lines_of : PySem.W.nsIn K mainGlobals "lines_of" = some (some (.ref a_lines_of)))
    (zc_Fingerprint : PySem.W.nsIn K mainGlobals "Fingerprint" = some (some (.ref c_Fingerprint)))
    (zk_MODULUS : PySem.W.nsIn K mainGlobals "MODULUS" = some (some (.int 99999989 t_MODULUS)))
    (zme_Fingerprint_first_stale : PySem.W.findIn K (.ref c_Fingerprint) "first_stale" = some (some (.ref a_Fingerprint_first_stale)))
    (zmf_Fingerprint_first_stale : PySem.W.isFn K (.ref a_Fingerprint_first_stale) = true)
    (zki_Fingerprint : PySem.W.findIn K (.ref c_Fingerprint) "__init__" = some (some (.ref a_Fingerprint_init)))
    (zkf_Fingerprint : PySem.W.isFn K (.ref a_Fingerprint_init) = true)
    (zkm_Fingerprint : PySem.W.makesIn K c_Fingerprint = true)
    (zkk_Fingerprint : PySem.W.keepIn K (.ref c_Fingerprint) = true)
    (zn_bool : PySem.W.nsIn K mainGlobals "bool" = some none)
    (zn_enumerate : PySem.W.nsIn K mainGlobals "enumerate" = some none)
    (zn_int : PySem.W.nsIn K mainGlobals "int" = some none)
    (zn_isinstance : PySem.W.nsIn K mainGlobals "isinstance" = some none)
    (zn_len : PySem.W.nsIn K mainGlobals "len" = some none)
    (zn_max : PySem.W.nsIn K mainGlobals "max" = some none)
    (zn_min : PySem.W.nsIn K mainGlobals "min" = some none)
    (zn_ord : PySem.W.nsIn K mainGlobals "ord" = some none)
    (zn_range : PySem.W.nsIn K mainGlobals "range" = some none)
    (zn_str : PySem.W.nsIn K mainGlobals "str" = some none)
    (zn_sum : PySem.W.nsIn K mainGlobals "sum" = some none)
    (zn_tuple : PySem.W.nsIn K mainGlobals "tuple" = some none)
    (zn_zip : PySem.W.nsIn K mainGlobals "zip" = some none)
    (zea_Fingerprint : PySem.W.findIn K (.ref c_Fingerprint) "__eq__" = some (some (.ref a_Fingerprint_eq)))
    (zef_Fingerprint : PySem.W.isFn K (.ref a_Fingerprint_eq) = true)
    (zen_Fingerprint : neB K c_Fingerprint a_Fingerprint_eq = true)
    (zpa_Fingerprint_checksums : PySem.W.findIn K (.ref c_Fingerprint) "checksums" = some (some (.ref p_Fingerprint_checksums)))
    (zpg_Fingerprint_checksums : PySem.W.specialIn K (.ref p_Fingerprint_checksums) "__get__" = some (some (.builtin "property.__get__")))
    (zpt_Fingerprint_checksums : PySem.W.takesIn K (.ref p_Fingerprint_checksums) = some true)
    (zpr_Fingerprint_checksums : PySem.W.recIn K p_Fingerprint_checksums "property" = some (.ref a_Fingerprint_checksums :: rs_Fingerprint_checksums))
    (zpa_Fingerprint_lengths : PySem.W.findIn K (.ref c_Fingerprint) "lengths" = some (some (.ref p_Fingerprint_lengths)))
    (zpg_Fingerprint_lengths : PySem.W.specialIn K (.ref p_Fingerprint_lengths) "__get__" = some (some (.builtin "property.__get__")))
    (zpt_Fingerprint_lengths : PySem.W.takesIn K (.ref p_Fingerprint_lengths) = some true)
    (zpr_Fingerprint_lengths : PySem.W.recIn K p_Fingerprint_lengths "property" = some (.ref a_Fingerprint_lengths :: rs_Fingerprint_lengths))
    (zsa_Fingerprint_getitem : PySem.W.findIn K (.ref c_Fingerprint) "__getitem__" = some (some (.ref a_Fingerprint_getitem)))
    (zsf_Fingerprint_getitem : PySem.W.isFn K (.ref a_Fingerprint_getitem) = true)
    (zsi_Fingerprint_getitem : PySem.W.fnIn K a_Fingerprint_getitem = true)
    (zsa_Fingerprint_len : PySem.W.findIn K (.ref c_Fingerprint) "__len__" = some (some (.ref a_Fingerprint_len)))
    (zsf_Fingerprint_len : PySem.W.isFn K (.ref a_Fingerprint_len) = true)
    (zsi_Fingerprint_len : PySem.W.fnIn K a_Fingerprint_len = true)
    (zg_law : PySem.W.nsIn K mainGlobals "law" = some (some (.ref a_law)))
    (zcg_Fingerprint : PySem.W.plainGet K c_Fingerprint Str.empty = true)
    (zch_Fingerprint : PySem.W.hasDictIn K c_Fingerprint = true)
    (zcp_Fingerprint : PySem.W.plainOver K c_Fingerprint = true)
    (zcs_Fingerprint : PySem.W.findIn K (.ref c_Fingerprint) "__setattr__" = some (some (.builtin "object.__setattr__")))
    (zna_Fingerprint__numbers : PySem.W.findIn K (.ref c_Fingerprint) "_numbers" = some none)
    (zyc_Fingerprint : PySem.W.findIn K (.ref c_Fingerprint) "__class__" = some (some (.builtin "object.__class__")))
    (zyn_Fingerprint : PySem.W.specialIn K (.builtin "object.__class__") "__get__" = some (some (.builtin "getset_descriptor.__get__")))
    (zyp_Fingerprint : PySem.W.takesIn K (.builtin "object.__class__") = some true)
    (zym_Fingerprint : PySem.W.mroIn K c_Fingerprint (.type "object") = some true)
    (yks_Fingerprint : PySem.W.kitOne K (.ref c_Fingerprint) (.ref c_Fingerprint) = some true)
    (ynf_Fingerprint : PySem.W.notFirst K c_Fingerprint (.ref c_Fingerprint) = true)
    (ykt_list_Fingerprint : PySem.W.kitOne K (.type "list") (.ref c_Fingerprint) = some false)
    (ynf_list_Fingerprint : PySem.W.notFirst K c_Fingerprint (.type "list") = true)
    (ykt_str_Fingerprint : PySem.W.kitOne K (.type "str") (.ref c_Fingerprint) = some false)
    (ynf_str_Fingerprint : PySem.W.notFirst K c_Fingerprint (.type "str") = true)
    (zl_is_integer : K.lookup a_is_integer = some ⟨oc0, od0, .func (PySem.W.fnOf "is_integer" "is_integer" (defArgs s_is_integer) (defBody s_is_integer) (defScope s_is_integer) .none kV0 dc0 pm0 an0 cd0 ct0), sl0⟩)
    (zd_is_integer : PySem.W.codeIn K cd0 "is_integer" = true)
    (ze_is_integer : PySem.W.keepIn K (.ref a_is_integer) = true)
    (zl_check_text : K.lookup a_check_text = some ⟨oc1, od1, .func (PySem.W.fnOf "check_text" "check_text" (defArgs s_check_text) (defBody s_check_text) (defScope s_check_text) .none kV1 dc1 pm1 an1 cd1 ct1), sl1⟩)
    (zd_check_text : PySem.W.codeIn K cd1 "check_text" = true)
    (ze_check_text : PySem.W.keepIn K (.ref a_check_text) = true)
    (zl_Fingerprint_lengths : K.lookup a_Fingerprint_lengths = some ⟨oc2, od2, .func (PySem.W.fnOf "lengths" "Fingerprint.lengths" (defArgs s_Fingerprint_lengths) (defBody s_Fingerprint_lengths) (defScope s_Fingerprint_lengths) .none kV2 dc2 pm2 an2 cd2 ct2), sl2⟩)
    (zd_Fingerprint_lengths : PySem.W.codeIn K cd2 "Fingerprint.lengths" = true)
    (ze_Fingerprint_lengths : PySem.W.keepIn K (.ref a_Fingerprint_lengths) = true)
    (zl_Fingerprint_checksums : K.lookup a_Fingerprint_checksums = some ⟨oc3, od3, .func (PySem.W.fnOf "checksums" "Fingerprint.checksums" (defArgs s_Fingerprint_checksums) (defBody s_Fingerprint_checksums) (defScope s_Fingerprint_checksums) .none kV3 dc3 pm3 an3 cd3 ct3), sl3⟩)
    (zd_Fingerprint_checksums : PySem.W.codeIn K cd3 "Fingerprint.checksums" = true)
    (ze_Fingerprint_checksums : PySem.W.keepIn K (.ref a_Fingerprint_checksums) = true)
    (zl_Fingerprint_len : K.lookup a_Fingerprint_len = some ⟨oc4, od4, .func (PySem.W.fnOf "__len__" "Fingerprint.__len__" (defArgs s_Fingerprint_len) (defBody s_Fingerprint_len) (defScope s_Fingerprint_len) .none kV4 dc4 pm4 an4 cd4 ct4), sl4⟩)
    (zd_Fingerprint_len : PySem.W.codeIn K cd4 "Fingerprint.__len__" = true)
    (ze_Fingerprint_len : PySem.W.keepIn K (.ref a_Fingerprint_len) = true)
    (zl_Fingerprint_eq : K.lookup a_Fingerprint_eq = some ⟨oc5, od5, .func (PySem.W.fnOf "__eq__" "Fingerprint.__eq__" (defArgs s_Fingerprint_eq) (defBody s_Fingerprint_eq) (defScope s_Fingerprint_eq) .none kV5 dc5 pm5 an5 cd5 ct5), sl5⟩)
    (zd_Fingerprint_eq : PySem.W.codeIn K cd5 "Fingerprint.__eq__" = true)
    (ze_Fingerprint_eq : PySem.W.keepIn K (.ref a_Fingerprint_eq) = true)
    (zl__law_stream : K.lookup a__law_stream = some ⟨oc6, od6, .func (PySem.W.fnOf "_law_stream" "_law_stream" (defArgs s__law_stream) (defBody s__law_stream) (defScope s__law_stream) .none kV6 dc6 pm6 an6 cd6 ct6), sl6⟩)
    (zd__law_stream : PySem.W.codeIn K cd6 "_law_stream" = true)
    (ze__law_stream : PySem.W.keepIn K (.ref a__law_stream) = true)
    (zl__law_pick : K.lookup a__law_pick = some ⟨oc7, od7, .func (PySem.W.fnOf "_law_pick" "_law_pick" (defArgs s__law_pick) (defBody s__law_pick) (defScope s__law_pick) .none kV7 dc7 pm7 an7 cd7 ct7), sl7⟩)
    (zd__law_pick : PySem.W.codeIn K cd7 "_law_pick" = true)
    (ze__law_pick : PySem.W.keepIn K (.ref a__law_pick) = true)
    (zl__law_number : K.lookup a__law_number = some ⟨oc8, od8, .func (PySem.W.fnOf "_law_number" "_law_number" (defArgs s__law_number) (defBody s__law_number) (defScope s__law_number) .none kV8 dc8 pm8 an8 cd8 ct8), sl8⟩)
    (zd__law_number : PySem.W.codeIn K cd8 "_law_number" = true)
    (ze__law_number : PySem.W.keepIn K (.ref a__law_number) = true)
    (zl_is_count : K.lookup a_is_count = some ⟨oc9, od9, .func (PySem.W.fnOf "is_count" "is_count" (defArgs s_is_count) (defBody s_is_count) (defScope s_is_count) .none kV9 dc9 pm9 an9 cd9 ct9), sl9⟩)
    (zd_is_count : PySem.W.codeIn K cd9 "is_count" = true)
    (ze_is_count : PySem.W.keepIn K (.ref a_is_count) = true)
    (zl_lines_of : K.lookup a_lines_of = some ⟨oc10, od10, .func (PySem.W.fnOf "lines_of" "lines_of" (defArgs s_lines_of) (defBody s_lines_of) (defScope s_lines_of) .none kV10 dc10 pm10 an10 cd10 ct10), sl10⟩)
    (zd_lines_of : PySem.W.codeIn K cd10 "lines_of" = true)
    (ze_lines_of : PySem.W.keepIn K (.ref a_lines_of) = true)
    (zl_checksum : K.lookup a_checksum = some ⟨oc11, od11, .func (PySem.W.fnOf "checksum" "checksum" (defArgs s_checksum) (defBody s_checksum) (defScope s_checksum) .none kV11 dc11 pm11 an11 cd11 ct11), sl11⟩)
    (zd_checksum : PySem.W.codeIn K cd11 "checksum" = true)
    (ze_checksum : PySem.W.keepIn K (.ref a_checksum) = true)
    (zl__law_text : K.lookup a__law_text = some ⟨oc12, od12, .func (PySem.W.fnOf "_law_text" "_law_text" (defArgs s__law_text) (defBody s__law_text) (defScope s__law_text) .none kV12 dc12 pm12 an12 cd12 ct12), sl12⟩)
    (zd__law_text : PySem.W.codeIn K cd12 "_law_text" = true)
    (ze__law_text : PySem.W.keepIn K (.ref a__law_text) = true)
    (zl__law_rows : K.lookup a__law_rows = some ⟨oc13, od13, .func (PySem.W.fnOf "_law_rows" "_law_rows" (defArgs s__law_rows) (defBody s__law_rows) (defScope s__law_rows) .none kV13 dc13 pm13 an13 cd13 ct13), sl13⟩)
    (zd__law_rows : PySem.W.codeIn K cd13 "_law_rows" = true)
    (ze__law_rows : PySem.W.keepIn K (.ref a__law_rows) = true)
    (zl__law_changed : K.lookup a__law_changed = some ⟨oc14, od14, .func (PySem.W.fnOf "_law_changed" "_law_changed" (defArgs s__law_changed) (defBody s__law_changed) (defScope s__law_changed) .none kV14 dc14 pm14 an14 cd14 ct14), sl14⟩)
    (zd__law_changed : PySem.W.codeIn K cd14 "_law_changed" = true)
    (ze__law_changed : PySem.W.keepIn K (.ref a__law_changed) = true)
    (zl_is_up_to : K.lookup a_is_up_to = some ⟨oc15, od15, .func (PySem.W.fnOf "is_up_to" "is_up_to" (defArgs s_is_up_to) (defBody s_is_up_to) (defScope s_is_up_to) .none kV15 dc15 pm15 an15 cd15 ct15), sl15⟩)
    (zd_is_up_to : PySem.W.codeIn K cd15 "is_up_to" = true)
    (ze_is_up_to : PySem.W.keepIn K (.ref a_is_up_to) = true)
    (zl_Fingerprint_init : K.lookup a_Fingerprint_init = some ⟨oc16, od16, .func (PySem.W.fnOf "__init__" "Fingerprint.__init__" (defArgs s_Fingerprint_init) (defBody s_Fingerprint_init) (defScope s_Fingerprint_init) .none kV16 dc16 pm16 an16 cd16 ct16), sl16⟩)
    (zd_Fingerprint_init : PySem.W.codeIn K cd16 "Fingerprint.__init__" = true)
    (ze_Fingerprint_init : PySem.W.keepIn K (.ref a_Fingerprint_init) = true)
    (zl__law_first : K.lookup a__law_first = some ⟨oc17, od17, .func (PySem.W.fnOf "_law_first" "_law_first" (defArgs s__law_first) (defBody s__law_first) (defScope s__law_first) .none kV17 dc17 pm17 an17 cd17 ct17), sl17⟩)
    (zd__law_first : PySem.W.codeIn K cd17 "_law_first" = true)
    (ze__law_first : PySem.W.keepIn K (.ref a__law_first) = true)
    (zl_Fingerprint_getitem : K.lookup a_Fingerprint_getitem = some ⟨oc18, od18, .func (PySem.W.fnOf "__getitem__" "Fingerprint.__getitem__" (defArgs s_Fingerprint_getitem) (defBody s_Fingerprint_getitem) (defScope s_Fingerprint_getitem) .none kV18 dc18 pm18 an18 cd18 ct18), sl18⟩)
    (zd_Fingerprint_getitem : PySem.W.codeIn K cd18 "Fingerprint.__getitem__" = true)
    (ze_Fingerprint_getitem : PySem.W.keepIn K (.ref a_Fingerprint_getitem) = true)
    (zl_Fingerprint_first_stale : K.lookup a_Fingerprint_first_stale = some ⟨oc19, od19, .func (PySem.W.fnOf "first_stale" "Fingerprint.first_stale" (defArgs s_Fingerprint_first_stale) (defBody s_Fingerprint_first_stale) (defScope s_Fingerprint_first_stale) .none kV19 dc19 pm19 an19 cd19 ct19), sl19⟩)
    (zd_Fingerprint_first_stale : PySem.W.codeIn K cd19 "Fingerprint.first_stale" = true)
    (ze_Fingerprint_first_stale : PySem.W.keepIn K (.ref a_Fingerprint_first_stale) = true)
    (zl__law_right : K.lookup a__law_right = some ⟨oc20, od20, .func (PySem.W.fnOf "_law_right" "_law_right" (defArgs s__law_right) (defBody s__law_right) (defScope s__law_right) .none kV20 dc20 pm20 an20 cd20 ct20), sl20⟩)
    (zd__law_right : PySem.W.codeIn K cd20 "_law_right" = true)
    (ze__law_right : PySem.W.keepIn K (.ref a__law_right) = true)
    (zl_law : K.lookup a_law = some ⟨oc21, od21, .func (PySem.W.fnOf "law" "law" (defArgs s_law) (defBody s_law) (defScope s_law) .none kV21 dc21 pm21 an21 cd21 ct21), sl21⟩)
    (zd_law : PySem.W.codeIn K cd21 "law" = true)
    (ze_law : PySem.W.keepIn K (.ref a_law) = true) :
    LamX.LawAtG l w K CX0 8 63 "script" mg fa h := by
  have e := hfa.symm.trans (PySem.W.mg_of X G zg_law)
  cases e
  have F_is_integer := fun_mk (st := s_is_integer) zl_is_integer zd_is_integer ze_is_integer
  have B_is_integer := F_is_integer.binds (ps := ["value"]) fun _ _ _ _ _ _ us hl => match us, hl with | [_], _ => rfl
  have F_check_text := fun_mk (st := s_check_text) zl_check_text zd_check_text ze_check_text
  have B_check_text := F_check_text.binds (ps := ["value"]) fun _ _ _ _ _ _ us hl => match us, hl with | [_], _ => rfl
  have F_Fingerprint_lengths := fun_mk (st := s_Fingerprint_lengths) zl_Fingerprint_lengths zd_Fingerprint_lengths ze_Fingerprint_lengths
  have B_Fingerprint_lengths := F_Fingerprint_lengths.binds (ps := ["self"]) fun _ _ _ _ _ _ us hl => match us, hl with | [_], _ => rfl
  have F_Fingerprint_checksums := fun_mk (st := s_Fingerprint_checksums) zl_Fingerprint_checksums zd_Fingerprint_checksums ze_Fingerprint_checksums
  have B_Fingerprint_checksums := F_Fingerprint_checksums.binds (ps := ["self"]) fun _ _ _ _ _ _ us hl => match us, hl with | [_], _ => rfl
  have F_Fingerprint_len := fun_mk (st := s_Fingerprint_len) zl_Fingerprint_len zd_Fingerprint_len ze_Fingerprint_len
  have B_Fingerprint_len := F_Fingerprint_len.binds (ps := ["self"]) fun _ _ _ _ _ _ us hl => match us, hl with | [_], _ => rfl
  have F_Fingerprint_eq := fun_mk (st := s_Fingerprint_eq) zl_Fingerprint_eq zd_Fingerprint_eq ze_Fingerprint_eq
  have B_Fingerprint_eq := F_Fingerprint_eq.binds (ps := ["self", "other"]) fun _ _ _ _ _ _ us hl => match us, hl with | [_, _], _ => rfl
  have F__law_stream := fun_mk (st := s__law_stream) zl__law_stream zd__law_stream ze__law_stream
  have B__law_stream := F__law_stream.binds (ps := ["script", "k"]) fun _ _ _ _ _ _ us hl => match us, hl with | [_, _], _ => rfl
  have F__law_pick := fun_mk (st := s__law_pick) zl__law_pick zd__law_pick ze__law_pick
  have B__law_pick := F__law_pick.binds (ps := ["stream", "amount"]) fun _ _ _ _ _ _ us hl => match us, hl with | [_, _], _ => rfl
  have F__law_number := fun_mk (st := s__law_number) zl__law_number zd__law_number ze__law_number
  have B__law_number := F__law_number.binds (ps := ["signs"]) fun _ _ _ _ _ _ us hl => match us, hl with | [_], _ => rfl
  have F_is_count := fun_mk (st := s_is_count) zl_is_count zd_is_count ze_is_count
  have B_is_count := F_is_count.binds (ps := ["value"]) fun _ _ _ _ _ _ us hl => match us, hl with | [_], _ => rfl
  have F_lines_of := fun_mk (st := s_lines_of) zl_lines_of zd_lines_of ze_lines_of
  have B_lines_of := F_lines_of.binds (ps := ["text"]) fun _ _ _ _ _ _ us hl => match us, hl with | [_], _ => rfl
  have F_checksum := fun_mk (st := s_checksum) zl_checksum zd_checksum ze_checksum
  have B_checksum := F_checksum.binds (ps := ["signs"]) fun _ _ _ _ _ _ us hl => match us, hl with | [_], _ => rfl
  have F__law_text := fun_mk (st := s__law_text) zl__law_text zd__law_text ze__law_text
  have B__law_text := F__law_text.binds (ps := ["stream"]) fun _ _ _ _ _ _ us hl => match us, hl with | [_], _ => rfl
  have F__law_rows := fun_mk (st := s__law_rows) zl__law_rows zd__law_rows ze__law_rows
  have B__law_rows := F__law_rows.binds (ps := ["signs"]) fun _ _ _ _ _ _ us hl => match us, hl with | [_], _ => rfl
  have F__law_changed := fun_mk (st := s__law_changed) zl__law_changed zd__law_changed ze__law_changed
  have B__law_changed := F__law_changed.binds (ps := ["stream", "signs"]) fun _ _ _ _ _ _ us hl => match us, hl with | [_, _], _ => rfl
  have F_is_up_to := fun_mk (st := s_is_up_to) zl_is_up_to zd_is_up_to ze_is_up_to
  have B_is_up_to := F_is_up_to.binds (ps := ["value", "limit"]) fun _ _ _ _ _ _ us hl => match us, hl with | [_, _], _ => rfl
  have F_Fingerprint_init := fun_mk (st := s_Fingerprint_init) zl_Fingerprint_init zd_Fingerprint_init ze_Fingerprint_init
  have B_Fingerprint_init := F_Fingerprint_init.binds (ps := ["self", "text"]) fun _ _ _ _ _ _ us hl => match us, hl with | [_, _], _ => rfl
  have F__law_first := fun_mk (st := s__law_first) zl__law_first zd__law_first ze__law_first
  have B__law_first := F__law_first.binds (ps := ["one", "other"]) fun _ _ _ _ _ _ us hl => match us, hl with | [_, _], _ => rfl
  have F_Fingerprint_getitem := fun_mk (st := s_Fingerprint_getitem) zl_Fingerprint_getitem zd_Fingerprint_getitem ze_Fingerprint_getitem
  have B_Fingerprint_getitem := F_Fingerprint_getitem.binds (ps := ["self", "at"]) fun _ _ _ _ _ _ us hl => match us, hl with | [_, _], _ => rfl
  have F_Fingerprint_first_stale := fun_mk (st := s_Fingerprint_first_stale) zl_Fingerprint_first_stale zd_Fingerprint_first_stale ze_Fingerprint_first_stale
  have B_Fingerprint_first_stale := F_Fingerprint_first_stale.binds (ps := ["self", "text"]) fun _ _ _ _ _ _ us hl => match us, hl with | [_, _], _ => rfl
  have F__law_right := fun_mk (st := s__law_right) zl__law_right zd__law_right ze__law_right
  have B__law_right := F__law_right.binds (ps := ["stream"]) fun _ _ _ _ _ _ us hl => match us, hl with | [_], _ => rfl
  have F_law := fun_mk (st := s_law) zl_law zd_law ze_law
  have B_law := F_law.binds (ps := ["script"]) fun _ _ _ _ _ _ us hl => match us, hl with | [_], _ => rfl
  letI : Tb K := ⟨[]⟩
  have T : Txt K mg ⟨c_Fingerprint, a_is_integer, a_check_text, a_Fingerprint_lengths, a_Fingerprint_checksums, a_Fingerprint_len, a_Fingerprint_eq, a__law_stream, a__law_pick, a__law_number, a_is_count, a_lines_of, a_checksum, a__law_text, a__law_rows, a__law_changed, a_is_up_to, a_Fingerprint_init, a__law_first, a_Fingerprint_getitem, a_Fingerprint_first_stale, a__law_right, fa, p_Fingerprint_checksums, p_Fingerprint_lengths, t_MODULUS⟩ ⟨_, _, _, _, _, _, _, _, _, _, _, _, _, _, _, _, _, _, _, _, _, _⟩ := {
    f_is_integer := F_is_integer,
    b_is_integer := B_is_integer,
    f_check_text := F_check_text,
    b_check_text := B_check_text,
    f_Fingerprint_lengths := F_Fingerprint_lengths,
    b_Fingerprint_lengths := B_Fingerprint_lengths,
    f_Fingerprint_checksums := F_Fingerprint_checksums,
    b_Fingerprint_checksums := B_Fingerprint_checksums,
    f_Fingerprint_len := F_Fingerprint_len,
    b_Fingerprint_len := B_Fingerprint_len,
    f_Fingerprint_eq := F_Fingerprint_eq,
    b_Fingerprint_eq := B_Fingerprint_eq,
    f__law_stream := F__law_stream,
    b__law_stream := B__law_stream,
    f__law_pick := F__law_pick,
    b__law_pick := B__law_pick,
    f__law_number := F__law_number,
    b__law_number := B__law_number,
    f_is_count := F_is_count,
    b_is_count := B_is_count,
    f_lines_of := F_lines_of,
    b_lines_of := B_lines_of,
    f_checksum := F_checksum,
    b_checksum := B_checksum,
    f__law_text := F__law_text,
    b__law_text := B__law_text,
    f__law_rows := F__law_rows,
    b__law_rows := B__law_rows,
    f__law_changed := F__law_changed,
    b__law_changed := B__law_changed,
    f_is_up_to := F_is_up_to,
    b_is_up_to := B_is_up_to,
    f_Fingerprint_init := F_Fingerprint_init,
    b_Fingerprint_init := B_Fingerprint_init,
    f__law_first := F__law_first,
    b__law_first := B__law_first,
    f_Fingerprint_getitem := F_Fingerprint_getitem,
    b_Fingerprint_getitem := B_Fingerprint_getitem,
    f_Fingerprint_first_stale := F_Fingerprint_first_stale,
    b_Fingerprint_first_stale := B_Fingerprint_first_stale,
    f__law_right := F__law_right,
    b__law_right := B__law_right,
    f_law := F_law,
    b_law := B_law,
    g__law_changed := PySem.W.mg_of X G zg__law_changed,
    g__law_first := PySem.W.mg_of X G zg__law_first,
    g__law_number := PySem.W.mg_of X G zg__law_number,
    g__law_pick := PySem.W.mg_of X G zg__law_pick,
    g__law_right := PySem.W.mg_of X G zg__law_right,
    g__law_rows := PySem.W.mg_of X G zg__law_rows,
    g__law_stream := PySem.W.mg_of X G zg__law_stream,
    g__law_text := PySem.W.mg_of X G zg__law_text,
    g_check_text := PySem.W.mg_of X G zg_check_text,
    g_checksum := PySem.W.mg_of X G zg_checksum,
    g_is_count := PySem.W.mg_of X G zg_is_count,
    g_is_integer := PySem.W.mg_of X G zg_is_integer,
    g_is_up_to := PySem.W.mg_of X G zg_is_up_to,
    g_lines_of := PySem.W.mg_of X G zg_lines_of,
    gc_Fingerprint := PySem.W.mg_of X G zc_Fingerprint,
    k_MODULUS := PySem.W.mg_of X G zk_MODULUS,
    me_Fingerprint_first_stale := ⟨zme_Fingerprint_first_stale, zmf_Fingerprint_first_stale, ze_Fingerprint_first_stale⟩,
    mk_Fingerprint := ⟨zkm_Fingerprint, zki_Fingerprint, zkf_Fingerprint, zkk_Fingerprint⟩,
    n_bool := PySem.W.mg_none_of X G zn_bool,
    n_enumerate := PySem.W.mg_none_of X G zn_enumerate,
    n_int := PySem.W.mg_none_of X G zn_int,
    n_isinstance := PySem.W.mg_none_of X G zn_isinstance,
    n_len := PySem.W.mg_none_of X G zn_len,
    n_max := PySem.W.mg_none_of X G zn_max,
    n_min := PySem.W.mg_none_of X G zn_min,
    n_ord := PySem.W.mg_none_of X G zn_ord,
    n_range := PySem.W.mg_none_of X G zn_range,
    n_str := PySem.W.mg_none_of X G zn_str,
    n_sum := PySem.W.mg_none_of X G zn_sum,
    n_tuple := PySem.W.mg_none_of X G zn_tuple,
    n_zip := PySem.W.mg_none_of X G zn_zip,
    es_Fingerprint := zea_Fingerprint,
    ef_Fingerprint := zef_Fingerprint,
    en_Fingerprint := zen_Fingerprint,
    pr_Fingerprint_checksums := ⟨zpa_Fingerprint_checksums, zpg_Fingerprint_checksums, zpt_Fingerprint_checksums, ⟨_, zpr_Fingerprint_checksums⟩⟩,
    pr_Fingerprint_lengths := ⟨zpa_Fingerprint_lengths, zpg_Fingerprint_lengths, zpt_Fingerprint_lengths, ⟨_, zpr_Fingerprint_lengths⟩⟩,
    ssa_Fingerprint_getitem := zsa_Fingerprint_getitem,
    ssf_Fingerprint_getitem := zsf_Fingerprint_getitem,
    ssi_Fingerprint_getitem := zsi_Fingerprint_getitem,
    ssa_Fingerprint_len := zsa_Fingerprint_len,
    ssf_Fingerprint_len := zsf_Fingerprint_len,
    ssi_Fingerprint_len := zsi_Fingerprint_len,
    tc := { cl_Fingerprint := ⟨zcg_Fingerprint, zch_Fingerprint, zcp_Fingerprint, zcs_Fingerprint⟩, na_Fingerprint__numbers := zna_Fingerprint__numbers, ty_Fingerprint := ⟨⟨zcg_Fingerprint, zch_Fingerprint, zcp_Fingerprint, zcs_Fingerprint⟩, zyc_Fingerprint, zyn_Fingerprint, zyp_Fingerprint, zym_Fingerprint⟩, ks_Fingerprint := yks_Fingerprint, nf_Fingerprint := ynf_Fingerprint, kt_list_Fingerprint := ykt_list_Fingerprint, nf_list_Fingerprint := ynf_list_Fingerprint, kt_str_Fingerprint := ykt_str_Fingerprint, nf_str_Fingerprint := ynf_str_Fingerprint } }
  exact ⟨_, [], spL K, fun p hp => absurd hp (by simp), fun s v => .of_eq rfl, fun H a ns hl hT hS => law_start hl hS (tb := []) rfl .nil (fun p hp => absurd hp (by simp)), fun base _ _ hTB => ok_all T⟩
end Lw
open PySem PySem.W PyProof.Rows in
set_option maxRecDepth 100000 in
set_option maxHeartbeats 0 in
theorem PySem.Challenge.cw_mapstack_k79_fingerprints_holds : PySem.Challenge.rw_mapstack_k79_fingerprints.Holds := by
  refine Lw.hd ?_
  k_fill
  refine LamX.walkG (l := PySem.Challenge.rw_mapstack_k79_fingerprints) (n := 63) (k := 8) (x := "script") (CX := fun _ => L2.CX0) rfl (by decide) rfl ⟨rfl, by decide, by decide⟩ (fun w h Y => PySem.W.kIn_of Y) ?F fun _ _ _ _ _ z => z
  case F =>
    intro w mg fa h Y KX G hmg
    refine' Lw.all_mk KX G hmg ?zg__law_changed ?zg__law_first ?zg__law_number ?zg__law_pick ?zg__law_right ?zg__law_rows ?zg__law_stream ?zg__law_text ?zg_check_text ?zg_checksum ?zg_is_count ?zg_is_integer ?zg_is_up_to ?zg_lines_of ?zc_Fingerprint ?zk_MODULUS ?zme_Fingerprint_first_stale ?zmf_Fingerprint_first_stale ?zki_Fingerprint ?zkf_Fingerprint ?zkm_Fingerprint ?zkk_Fingerprint ?zn_bool ?zn_enumerate ?zn_int ?zn_isinstance ?zn_len ?zn_max ?zn_min ?zn_ord ?zn_range ?zn_str ?zn_sum ?zn_tuple ?zn_zip ?zea_Fingerprint ?zef_Fingerprint ?zen_Fingerprint ?zpa_Fingerprint_checksums ?zpg_Fingerprint_checksums ?zpt_Fingerprint_checksums ?zpr_Fingerprint_checksums ?zpa_Fingerprint_lengths ?zpg_Fingerprint_lengths ?zpt_Fingerprint_lengths ?zpr_Fingerprint_lengths ?zsa_Fingerprint_getitem ?zsf_Fingerprint_getitem ?zsi_Fingerprint_getitem ?zsa_Fingerprint_len ?zsf_Fingerprint_len ?zsi_Fingerprint_len ?zg_law ?zcg_Fingerprint ?zch_Fingerprint ?zcp_Fingerprint ?zcs_Fingerprint ?zna_Fingerprint__numbers ?zyc_Fingerprint ?zyn_Fingerprint ?zyp_Fingerprint ?zym_Fingerprint ?yks_Fingerprint ?ynf_Fingerprint ?ykt_list_Fingerprint ?ynf_list_Fingerprint ?ykt_str_Fingerprint ?ynf_str_Fingerprint ?zl_is_integer ?zd_is_integer ?ze_is_integer ?zl_check_text ?zd_check_text ?ze_check_text ?zl_Fingerprint_lengths ?zd_Fingerprint_lengths ?ze_Fingerprint_lengths ?zl_Fingerprint_checksums ?zd_Fingerprint_checksums ?ze_Fingerprint_checksums ?zl_Fingerprint_len ?zd_Fingerprint_len ?ze_Fingerprint_len ?zl_Fingerprint_eq ?zd_Fingerprint_eq ?ze_Fingerprint_eq ?zl__law_stream ?zd__law_stream ?ze__law_stream ?zl__law_pick ?zd__law_pick ?ze__law_pick ?zl__law_number ?zd__law_number ?ze__law_number ?zl_is_count ?zd_is_count ?ze_is_count ?zl_lines_of ?zd_lines_of ?ze_lines_of ?zl_checksum ?zd_checksum ?ze_checksum ?zl__law_text ?zd__law_text ?ze__law_text ?zl__law_rows ?zd__law_rows ?ze__law_rows ?zl__law_changed ?zd__law_changed ?ze__law_changed ?zl_is_up_to ?zd_is_up_to ?ze_is_up_to ?zl_Fingerprint_init ?zd_Fingerprint_init ?ze_Fingerprint_init ?zl__law_first ?zd__law_first ?ze__law_first ?zl_Fingerprint_getitem ?zd_Fingerprint_getitem ?ze_Fingerprint_getitem ?zl_Fingerprint_first_stale ?zd_Fingerprint_first_stale ?ze_Fingerprint_first_stale ?zl__law_right ?zd__law_right ?ze__law_right ?zl_law ?zd_law ?ze_law 
    (case zg__law_changed => k_is)
    (case zg__law_first => k_is)
    (case zg__law_number => k_is)
    (case zg__law_pick => k_is)
    (case zg__law_right => k_is)
    (case zg__law_rows => k_is)
    (case zg__law_stream => k_is)
    (case zg__law_text => k_is)
    (case zg_check_text => k_is)
    (case zg_checksum => k_is)
    (case zg_is_count => k_is)
    (case zg_is_integer => k_is)
    (case zg_is_up_to => k_is)
    (case zg_lines_of => k_is)
    (case zc_Fingerprint => k_is)
    (case zk_MODULUS => k_is)
    (case zn_bool => k_is)
    (case zn_enumerate => k_is)
    (case zn_int => k_is)
    (case zn_isinstance => k_is)
    (case zn_len => k_is)
    (case zn_max => k_is)
    (case zn_min => k_is)
    (case zn_ord => k_is)
    (case zn_range => k_is)
    (case zn_str => k_is)
    (case zn_sum => k_is)
    (case zn_tuple => k_is)
    (case zn_zip => k_is)
    (case zg_law => k_is)
    (case zme_Fingerprint_first_stale => k_is)
    (case zki_Fingerprint => k_is)
    (case zea_Fingerprint => k_is)
    (case zpa_Fingerprint_checksums => k_is)
    (case zpa_Fingerprint_lengths => k_is)
    (case zsa_Fingerprint_getitem => k_is)
    (case zsa_Fingerprint_len => k_is)
    (case zpr_Fingerprint_checksums => k_is)
    (case zpr_Fingerprint_lengths => k_is)
    (case zl_is_integer => k_is)
    (case zl_check_text => k_is)
    (case zl_Fingerprint_lengths => k_is)
    (case zl_Fingerprint_checksums => k_is)
    (case zl_Fingerprint_len => k_is)
    (case zl_Fingerprint_eq => k_is)
    (case zl__law_stream => k_is)
    (case zl__law_pick => k_is)
    (case zl__law_number => k_is)
    (case zl_is_count => k_is)
    (case zl_lines_of => k_is)
    (case zl_checksum => k_is)
    (case zl__law_text => k_is)
    (case zl__law_rows => k_is)
    (case zl__law_changed => k_is)
    (case zl_is_up_to => k_is)
    (case zl_Fingerprint_init => k_is)
    (case zl__law_first => k_is)
    (case zl_Fingerprint_getitem => k_is)
    (case zl_Fingerprint_first_stale => k_is)
    (case zl__law_right => k_is)
    (case zl_law => k_is)
    (case zmf_Fingerprint_first_stale => k_is)
    (case zkf_Fingerprint => k_is)
    (case zkm_Fingerprint => k_is)
    (case zkk_Fingerprint => k_is)
    (case zef_Fingerprint => k_is)
    (case zen_Fingerprint => kernel_rfl)
    (case zpg_Fingerprint_checksums => k_is)
    (case zpt_Fingerprint_checksums => k_is)
    (case zpg_Fingerprint_lengths => k_is)
    (case zpt_Fingerprint_lengths => k_is)
    (case zsf_Fingerprint_getitem => k_is)
    (case zsi_Fingerprint_getitem => k_is)
    (case zsf_Fingerprint_len => k_is)
    (case zsi_Fingerprint_len => k_is)
    (case zcg_Fingerprint => k_is)
    (case zch_Fingerprint => k_is)
    (case zcp_Fingerprint => k_is)
    (case zcs_Fingerprint => k_is)
    (case zna_Fingerprint__numbers => k_is)
    (case zyc_Fingerprint => k_is)
    (case zyn_Fingerprint => k_is)
    (case zyp_Fingerprint => k_is)
    (case zym_Fingerprint => k_is)
    (case yks_Fingerprint => kernel_rfl)
    (case ynf_Fingerprint => kernel_rfl)
    (case ykt_list_Fingerprint => kernel_rfl)
    (case ynf_list_Fingerprint => kernel_rfl)
    (case ykt_str_Fingerprint => kernel_rfl)
    (case ynf_str_Fingerprint => kernel_rfl)
    (case zd_is_integer => k_is)
    (case ze_is_integer => k_is)
    (case zd_check_text => k_is)
    (case ze_check_text => k_is)
    (case zd_Fingerprint_lengths => k_is)
    (case ze_Fingerprint_lengths => k_is)
    (case zd_Fingerprint_checksums => k_is)
    (case ze_Fingerprint_checksums => k_is)
    (case zd_Fingerprint_len => k_is)
    (case ze_Fingerprint_len => k_is)
    (case zd_Fingerprint_eq => k_is)
    (case ze_Fingerprint_eq => k_is)
    (case zd__law_stream => k_is)
    (case ze__law_stream => k_is)
    (case zd__law_pick => k_is)
    (case ze__law_pick => k_is)
    (case zd__law_number => k_is)
    (case ze__law_number => k_is)
    (case zd_is_count => k_is)
    (case ze_is_count => k_is)
    (case zd_lines_of => k_is)
    (case ze_lines_of => k_is)
    (case zd_checksum => k_is)
    (case ze_checksum => k_is)
    (case zd__law_text => k_is)
    (case ze__law_text => k_is)
    (case zd__law_rows => k_is)
    (case ze__law_rows => k_is)
    (case zd__law_changed => k_is)
    (case ze__law_changed => k_is)
    (case zd_is_up_to => k_is)
    (case ze_is_up_to => k_is)
    (case zd_Fingerprint_init => k_is)
    (case ze_Fingerprint_init => k_is)
    (case zd__law_first => k_is)
    (case ze__law_first => k_is)
    (case zd_Fingerprint_getitem => k_is)
    (case ze_Fingerprint_getitem => k_is)
    (case zd_Fingerprint_first_stale => k_is)
    (case ze_Fingerprint_first_stale => k_is)
    (case zd__law_right => k_is)
    (case ze__law_right => k_is)
    (case zd_law => k_is)
    (case ze_law => k_is)
