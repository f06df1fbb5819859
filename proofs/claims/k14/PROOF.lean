import PyProof.Rows.All
import Wide.All
import OpenK.AllK
import Wide.FinOn
import HandS.ForMost
import HandS.Evl
import HandS.Walk
import HandS.IsInst
import HandS.Flow
import HandS.TupLe
import HandS.TupAny
import HandS.Property
import HandS.StrMore
import HandS.Conv
import HandS.Star
import HandS.Style
import HandS.Steps
import HandS.WordsExc
import HandS.ExcInit
import PyProof.Rows.SeqMore
import KE.DataEq
import KE.DataCmp
import KE.DatumOrd
import KE.DataMinMax
import HandS.ExcIs
import HandS.ExcField
import HandS.Lambda
import HandS.ExcValue
import HandS.EndTab
import HandS.Defaults
import HandS.MakeKw
import KE.KExcIs
import KE.KTryMore
import KE.KDflt
import KE.KNestM
import HandS.OwnEq
import PyProof.InstNe
import HandS.TupMul
import HandS.ClsMeth
import PyProof.Rows.StrRev
import HandS.MakeKwOnly
import PyProof.ExcBaseAll.RuntimeError
import HandS.Strs
import HandS.DictComp
import HandS.WideBits
import HandS.SortInts
import KE.GoesMore
import OpenK.KMeth
import OpenK.KOps
import KE.SortKeyHeap
import KE.KSortKey
import HandS.SortKw
import PyProof.Rows.Own
import PyProof.AutoSeq1
import HandS.SetKeys
import HandS.More
import KE.KDictSum
import PyProof.EqKinds
import PyProof.EqAt
import HandS.GenList
import PyProof.Rows.Range3
import PySem.Challenge.RW_mapstack_k14_whole_pieces
set_option Elab.async false
set_option linter.all false
set_option maxRecDepth 100000
set_option maxHeartbeats 2000000
section
open PySem PySem.W PyProof.Rows
set_option maxRecDepth 100000
set_option maxHeartbeats 0
open_top Lw.hd for PySem.Challenge.rw_mapstack_k14_whole_pieces
end

/-! Exceptions that were caught and are kept: tracked as things of their own. -/
namespace L2
open PySem PySem.Spec PyProof.Rows
/-- at a: an exception object of the class C with the dict d, caught or not -/
def xo (a : Addr) (C : Value) (d : Option Addr) : HO := .ext fun h => ∃ (oe : Obj) (vs : Array Value), h.get? a = some oe ∧ oe.cls = C ∧ oe.dict = d ∧ oe.data = .fields vs
section
variable {X : Cx} {pins : List (Addr × Obj)} {σ : St} {H : Hp} {s sI s' : Shared} {B : Heap}
end
/-- an except clause's test: it names the classes cs -/
def Clause (X : Cx) (t : Expr) (cs : List Value) : Prop :=
  ∀ (a : Addr) (pn : List (Addr × Obj)) (σ : St) (H : Hp) (s : Shared) (cls : Value) (b : Bool) (Q : Bool → Shared → Prop) (E : Value → Shared → Prop), Inv (X.suite a pn) [] σ H s → PySem.W.Looks (model X.prog X.w) s.heap (typeOf (.ref a)) cls →
    PySem.W.exmAny X.K cls cs = some b → (∀ h', (∀ q o, s.heap.get? q = some o → h'.get? q = some o) → Q b { s with heap := h' }) →
    wpAny (model X.prog X.w) (X.A.mark (some (.ref a))) (eval t X.env) (fun c s1 => wpAny (model X.prog X.w) (X.A.mark (some (.ref a))) (excMatches (.ref a) c) Q E s1) E s
section
variable {X : Cx} {a : Addr} {pn : List (Addr × Obj)} {σ : St} {H : Hp} {s : Shared} {x x1 x2 x3 x4 : Str} {c c1 c2 c3 c4 : Value} {p p1 p2 p3 p4 : Pos} {k : Nat}
end
/-- the wish of a clause that keeps what it catches: it catches all, slot i is the name's -/
def wKeep (K : PySem.W.Frag) (cs : List Value) (i : Nat) (ts : TS) (D : Ends) : WX := fun cls d σ H =>
  PySem.W.exmAny K cls cs = some true ∧ ∀ a, H a = none → ts { nx := fun σ' H' => D.nx (σ'.set i none) H', rt := D.rt, bk := fun σ' H' => D.bk (σ'.set i none) H', ct := fun σ' H' => D.ct (σ'.set i none) H' } (σ.set i (some (.ref a))) (upd H a (xo a cls d))
def tTryK (K : PySem.W.Frag) (cs : List Value) (i : Nat) (ts : TS) (tb : WX → TS) : TS := fun D σ H => tb (wKeep K cs i ts D) D σ H
section
variable {X : Cx} {t : Expr} {n : Str} {cs : List Value} {i : Nat} {body suite : List Stmt} {b₀ : Stmt} {pos pos' : Pos} {tb : WX → TS} {ts : TS}
end
end L2

/-! Own exceptions of any base: made (raised, or as values), their one field, asked by isinstance. -/
namespace PySem
namespace XG
open PySem.W PySem.Calls PyProof.Rows PySem.HandSPX Builtin Builtin.ObjectAttr
/-- classes of the program, then the row tl -/
def ownThen (tl : List Value) : List Value → Bool
  | .ref _ :: r => ownThen tl r
  | l => l == tl
/-- what is asked of a base: its row tl -/
structure BaseX (tl : List Value) (B newId initId : String) : Prop where
  F : ExcBaseFacts B newId initId tl
  pass : ∀ self : Value, refuseLoop self "__setattr__" tl = pure ()
  ob : tl.contains (.type "object") = true
  ne : tl.isEmpty = false
section
variable {tl : List Value} {B newId initId : String} {l : List Value}
end
section
variable {prog : Program} {w : World} {A : Around} {R : Result → Shared → Prop} {hp : Heap} {g : Array GenState} {d : Drawn} {t : Nat} {os : OsState} {tl : List Value} {B newId initId : String}
end
end XG
end PySem
namespace L2
open PySem PySem.Spec PyProof.Rows PySem.XG
/-- what the written part says of an own exception class whose row ends in tl -/
structure OexG (K : PySem.W.Frag) (C : Addr) (tl : List Value) (newId : String) : Prop where
  cls : ∃ nm q N bs bm sn sub ab col dd k0 k1 k2 k3 k5, K.lookup C = some (excClassObj nm q C N bs bm true sn sub ab col dd k0 k1 k2 k3 k5 newId) ∧ ownThen tl bm = true
  sa : PySem.W.findIn K (.ref C) "__setattr__" = some (some (.builtin "object.__setattr__"))
  ty : PySem.W.typeIn K (.ref C) = some (.type "type")
  kp : PySem.W.keepIn K (.ref C) = true
  ga : PySem.W.findIn K (.ref C) "__getattribute__" = some (some (.builtin "BaseException.__getattribute__"))
  gg : PySem.W.findIn K (.ref C) "__getattr__" = some none
  ex : PySem.W.subIn K (.ref C) (.type "BaseException") = some true
  hd : PySem.W.hasDictIn K C = true
  ha : PySem.W.findIn K (.ref C) "__class__" = some (some (.builtin "object.__class__"))
  hn : PySem.W.specialIn K (.builtin "object.__class__") "__get__" = some (some (.builtin "getset_descriptor.__get__"))
  ht : PySem.W.takesIn K (.builtin "object.__class__") = some true
  hm : PySem.W.mroIn K C (.type "object") = some true
/-- the class's own part, by a look at what is written -/
def oexB (K : PySem.W.Frag) (C : Addr) (tl : List Value) (newId : String) : Bool :=
  match K.lookup C with
  | some ⟨.type "type", _, .cls cd, sl⟩ =>
    match cd.mro, sl.toList with
    | .ref C' :: bm, [_, _, _, _, some (.builtin n), _] => C' == C && n == newId && !cd.hasDel && cd.hasDict && ownThen tl bm
    | _, _ => false
  | _ => false
section
variable {X : Cx} {pins : List (Addr × Obj)} {σ : St} {H : Hp} {s : Shared} {a C dx : Addr} {f : Str} {y : V} {u : Value} {A : Around} {tl : List Value} {B newId initId : String}
end
/-- self.f = e, of a new exception -/
def tOsx (K : PySem.W.Frag) (C : Addr) (f : Str) (to te : TE) : TS := fun D σ H => te σ H fun y H1 => to σ H1 fun x H2 => ∃ a : Addr, x = .ref a ∧ H2 a = some (exo a C none) ∧ ∀ dx, H2 dx = none → dx ≠ a → D.nx σ (upd (upd H2 dx (exd dx [(f, y)])) a (exo a C (some dx)))
section
variable {X : Cx} {o e : Expr} {es : List Expr} {to te : TE} {ta : TA} {f : Str} {p p' pos : Pos} {C : Addr} {tl : List Value} {B newId initId : String}
/-- C(e), as a value -/
def tMkX (C : Addr) (sp : Sp) (ta : TA) : TE := fun σ H Q => ta σ H fun vs H1 => vs.length ≤ 1000 ∧ ∀ a, H1 a = none → sp (.ref a :: vs) (upd H1 a (exo a C none))
  (fun v H2 => v = .non ∧ ∃ (d : Addr) (fs : List (Str × V)), H2 a = some (exo a C (some d)) ∧ H2 d = some (exd d fs) ∧ H1 d = none ∧ Q (.ref a) (upd (upd (del H2 a) d (.xd fs)) a (xo a (.ref C) (some d)))) (fun _ _ _ => False)
end
/-! ### a tracked exception asked -/
/-- error.f -/
def tExf (K : PySem.W.Frag) (f : Str) (te : TE) : TE := fun σ H Q => te σ H fun x H1 => ∃ (a C dx : Addr) (fs : List (Str × V)) (v : V), x = .ref a ∧ H1 a = some (xo a (.ref C) (some dx)) ∧ H1 dx = some (.xd fs) ∧ XfC K C ∧ PySem.W.findIn K (.ref C) f = some none ∧ fs.lookup f = some v ∧ Q v H1
section
variable {X : Cx}
/-- isinstance(e, c) of a tracked exception -/
def rIsX (K : PySem.W.Frag) : List V → Hp → VK → Prop := fun xs H Q => ∃ (a C : Addr) (d : Option Addr) (c : V) (cv : Value) (b : Bool), xs = [.ref a, c] ∧ H a = some (xo a (.ref C) d) ∧ (d = none ∨ ∃ dx fs, d = some dx ∧ H dx = some (.xd fs)) ∧ ExcC K C ∧ (∀ u, RelV c u → u = cv) ∧ PySem.W.kitOne K (.ref C) cv = some b ∧ Q (.bl b) H
end
end L2

/-! A lambda without parameters, or with one that has the default 0, handed to a def that calls it. -/
namespace L2
open PySem PySem.Spec PyProof.Rows LamX
/-- the function object of a lambda -/
abbrev lfn (q : Str) (params : Arguments) (body : Expr) (scope : Scope) (cl : List (Str × Addr)) (dV doc pm : Value) (c' : Addr) (ct : Value) : FuncData := PySem.W.kdv_fn "<lambda>" q params (.expr body) scope cl dV doc pm (.ref c') ct
/-- how its defaults stand: none, or a tuple of 0 -/
def DefAt (H : Hp) (fr : List Addr) (h : Heap) (params : Arguments) (bs : List (Str × Value)) (dV : Value) : Prop :=
  (params.defaults = [] ∧ bs = [] ∧ dV = .none) ∨ ∃ (T : Addr) (tk : Tok) (x : Str), dV = .ref T ∧ bs = [(x, .int 0 tk)] ∧ h.get? T = some (PySem.W.kdv_tup [.int 0 tk]) ∧ H T = none ∧ T ∉ fr
/-- how a call without arguments binds -/
structure LamB (params : Arguments) (one : Option Str) : Prop where
  kd : params.kw_defaults = []
  no : one = none → params.defaults = [] ∧ ∀ (q : Str) (body : FuncBody) (scope : Scope) (cl : List (Str × Addr)) (doc pm cv ct : Value), bindArgs (PySem.W.kdv_fn "<lambda>" q params body scope cl .none doc pm cv ct) ⟨[], []⟩ = pure []
  yes : ∀ x, one = some x → (∃ j p, params.defaults = [.Constant (.int 0) j p]) ∧ ∀ (q : Str) (body : FuncBody) (scope : Scope) (cl : List (Str × Addr)) (T : Addr) (tk : Tok) (doc pm cv ct : Value), ∃ k : Option (Array Value) → Sem (List (Str × Value)), bindArgs (PySem.W.kdv_fn "<lambda>" q params body scope cl (.ref T) doc pm cv ct) ⟨[], []⟩ = seqItems? (.ref T) >>= k ∧ k (some #[.int 0 tk]) = pure [(x, .int 0 tk)]
/-- its names: captured ones and globals; the one parameter isn't among the maker's -/
structure LamN (N : List Str) (sc scope : Scope) (one : Option Str) : Prop where
  kind : scope.kind = .function
  co : scope.isCoroutine = false
  gen : scope.isGenerator = false
  cell : ∀ y ∈ scope.names, y.2 ≠ .cell
  own : ∀ y ∈ scope.names, y.2 = .local → y.1 ∉ N
  par : ∀ x, one = some x → scope.names.lookup x = some .local
  free : ∀ y ∈ scope.names, y.2 = .free → sc.names.lookup y.1 = some .cell ∨ sc.names.lookup y.1 = some .free
def lamNB (N : List Str) (sc scope : Scope) (one : Option Str) : Bool :=
  decide (scope.kind = .function) && !scope.isCoroutine && !scope.isGenerator && (scope.names.all fun y => !decide (y.2 = .cell) && (!decide (y.2 = .local) || !decide (y.1 ∈ N)) && (!decide (y.2 = .free) || decide (sc.names.lookup y.1 = some .cell) || decide (sc.names.lookup y.1 = some .free))) &&
    (match one with | none => true | some x => decide (scope.names.lookup x = some .local))
theorem LamN.has {X : Cx} {scope : Scope} {one : Option Str} (L : LamN X.N X.env.scope scope one) (ok : X.Ok) : ∀ y ∈ scope.names, y.2 = .free → ∃ c, X.env.cells.lookup y.1 = some c := fun y hy e => (L.free y hy e).elim (fun k => ok.has _ (.inl k)) fun k => ok.has _ (.inr k)
/-- the table at P tells code objects of the name q -/
def TabO (H : Hp) (ps : Array Value) (q : Str) : Prop := TriplesOk ps.toList ∧ ∀ (pos : Pos) (cv : Value), codeAmong pos ps.toList = some cv → ∃ c, cv = .ref c ∧ H c = some (CodeO c q)
/-- what the making of a lambda does to what is tracked: its code object c' is found in the table ps, or new -/
def LamStep (H : Hp) (P : Addr) (ps : Array Value) (q : Str) (c' : Addr) (H1 : Hp) : Prop :=
  (H1 = H ∧ ∃ p, codeAmong p ps.toList = some (.ref c')) ∨ ∃ ps', H c' = none ∧ c' ≠ P ∧ H1 = upd (upd H P (.tbl ps')) c' (CodeO c' q) ∧ TriplesOk ps'.toList ∧ ∀ p cv, codeAmong p ps'.toList = some cv → cv = .ref c' ∨ codeAmong p ps.toList = some cv
section
variable {X : Cx} {pins : List (Addr × Obj)} {σ : St} {H : Hp} {s : Shared} {P c : Addr} {params : Arguments} {body : Expr} {scope : Scope} {pos : Pos} {ps : Array Value} {E : Value → Shared → Prop}
end

section
variable {X : Cx} {pins : List (Addr × Obj)} {σ : L2.St} {H HZ : Hp} {s s1 : Shared}
/-- what a lambda's call reads: f in the slot, its code object, its own reading -/
def tAct (j : Nat) (f c' : Addr) (q : Str) (tl : Hp → VK → Prop) : TE := fun σZ HZ Q => σZ[j]? = some (some (.ref f)) ∧ HZ c' = some (CodeO c' q) ∧ tl HZ Q
end
/-- the def that calls what it got: TT is what it makes of the lambda's reading -/
def GivesG (X : Cx) (Ng : List Str) (x : Str) (sg : Scope) (g : Addr) (cdg : Value) (bg : List Stmt) (a : Str) (q : Str) (TT : (XK → Hp → VK → Prop) → Addr → Addr → Hp → VK → Prop) : Prop :=
  ∀ (f c' : Addr) (s : Shared) (H : Hp) (Q : VK) (tl : XK → Hp → VK → Prop),
    (∀ (W : WX) (pn : List (Addr × Obj)) (xe : Value → Shared → Prop) (E : XK) (p1 p2 : Pos), Takes ((cxOf C8.CX0 X.prog X.w X.K X.mg X.base Ng x sg g cdg X.A X.stack s H C8.E0).tr pn xe) W → (∀ cls d σ' H', E cls d H' → σ'.length = Ng.length → W cls d σ' H') →
      PE ((cxOf C8.CX0 X.prog X.w X.K X.mg X.base Ng x sg g cdg X.A X.stack s H C8.E0).tr pn xe) (.Call (.Name a p1) [] [] p2) (tAct 0 f c' q (tl E))) → H c' = some (CodeO c' q) → TT tl f c' H Q →
    ∃ t, PSs (cxOf C8.CX0 X.prog X.w X.K X.mg X.base Ng x sg g cdg X.A X.stack s H C8.E0).nox bg t ∧ t { nx := fun _ H' => Q .non H', rt := Q } (L2.start Ng [.ref f]) H
/-- g(lambda: ..): its table at P -/
def tLamG (P : Addr) (q : Str) (TT : (XK → Hp → VK → Prop) → Addr → Addr → Hp → VK → Prop) (t : XK → TE) : TE := fun σ H Q => ∃ ps, H P = some (.tbl ps) ∧ TabO H ps q ∧
  ∀ (f c' : Addr) (H1 : Hp), LamStep H P ps q c' H1 → H1 c' = some (CodeO c' q) → TT (fun E H' Q' => t E σ H' Q') f c' H1 Q
section
variable {X : Cx}
end
end L2

/-! Calls by keywords; defs with a known code object; a try's body for whatever slots. -/
namespace L2
open PySem PySem.Spec PyProof.Rows LamX
/-- the values us, then ws, in another order -/
def perm {α : Type} (ix : List Nat) (us ws : List α) : List α := ix.filterMap fun i => (us ++ ws)[i]?
theorem vals_at : ∀ {vs : List V} {us : List Value}, Vals vs us → ∀ i : Nat, (vs[i]? = none ∧ us[i]? = none) ∨ ∃ v u, vs[i]? = some v ∧ us[i]? = some u ∧ RelV v u
  | _, _, .nil, i => .inl ⟨by simp, by simp⟩
  | _, _, .cons r _, 0 => .inr ⟨_, _, rfl, rfl, r⟩
  | _, _, .cons _ rs, i + 1 => by
    rcases vals_at rs i with ⟨a, b⟩ | ⟨v, u, a, b, r⟩
    · exact .inl ⟨by simpa using a, by simpa using b⟩
    · exact .inr ⟨v, u, by simpa using a, by simpa using b, r⟩
section
variable {K : PySem.W.Frag}
end
section
variable {X : Cx} {CX : CXT} {k : Nat} {f : Addr} {fd : FuncData} {ps ks : List Str} {sp : Sp} {E : XK} {x : Str} {p pos : Pos} {kws : List Keyword} {tk : TA} {g : List Value → List Value → List Value} {gV : List V → List V → List V} {nk : Nat}
/-- try: the reading t E of the body, E what is wished of exceptions, whatever the slots hold -/
def tTryB (len : Nat) (t : XK → TS) : WX → TS := fun W D σ H => ∃ E : XK, (∀ cls d σ' H', E cls d H' → σ'.length = len → W cls d σ' H') ∧ t E D σ H
end
section
variable {X : Cx} {one : Option Str} {TT : (XK → Hp → VK → Prop) → Addr → Addr → Hp → VK → Prop} {x a : Str} {g c P : Addr} {k : Nat} {stg : Stmt} {fdg : FuncData} {Ng : List Str} {params : Arguments} {body : Expr} {scope : Scope} {t : XK → TE} {p lpos pos : Pos}
end
section
variable {P : Program} {w : World} {K : PySem.W.Frag} {mg : Str → Option Value} {base : Heap}
end
end L2

/-! == and != by an own __eq__; methods and instances called by keywords. -/
namespace L2
open PySem PySem.Spec PyProof.Rows LamX
/-- x == y, x an instance of C, whose __eq__ keeps sp -/
def rEqO (K : PySem.W.Frag) (C : Addr) (sp : Sp) : R2 := fun x y H Q => ∃ (a dx : Addr) (fs : List (Str × V)) (t : Value), x = .ref a ∧ H a = some (.ins C dx fs) ∧ TyX K H y t ∧ PySem.W.notFirst K C t = true ∧ sp [x, y] H (fun z H' => ∃ b, z = .bl b ∧ Q (.bl b) H') E0
/-- x != y, both instances of C -/
def rNeO (C : Addr) (sp : Sp) : R2 := fun x y H Q => ∃ (a dx : Addr) (fs : List (Str × V)) (a' dx' : Addr) (fs' : List (Str × V)), x = .ref a ∧ H a = some (.ins C dx fs) ∧ y = .ref a' ∧ H a' = some (.ins C dx' fs') ∧ sp [x, y] H (fun z H' => ∃ b, z = .bl b ∧ Q (.bl (!b)) H') E0
/-- C has an own __eq__, f, and no __ne__ -/
def neB (K : PySem.W.Frag) (C f : Addr) : Bool := match K.lookup C with
  | some ⟨.type "type", _, .cls cd, sl⟩ => (match cd.mro, sl.toList with
    | [.ref C', .type "object"], [_, _, _, _, some (.builtin _), _] => C' == C && !cd.hasDel && PySem.W.nsOkIn K cd.ns && PySem.W.nsIn K cd.ns "__eq__" == some (some (.ref f)) && PySem.W.nsIn K cd.ns "__ne__" == some none
    | _, _ => false)
  | _ => false
section
variable {X : Cx} {CX : CXT} {k : Nat} {C f : Addr} {fd : FuncData} {ps : List Str} {sp : Sp} {R : Value → Shared → Prop}
/-- the own __eq__ runs, at A below X -/
theorem run_eq {A : Around} {pins : List (Addr × Obj)} {σ : St} {H : Hp} {s : Shared} {x y : V} {v u : Value} {Q : VK} (F : FnOk X.prog X.w X.K X.mg X.base CX k f fd ps sp) (hb : Binds X.K fd ps []) (hx : Passes CX X E0) (hr : Room k A) (hfr : A.frames = X.A.frames) (I : Inv X pins σ H s) (rx : RelV x v) (ry : RelV y u) (h : sp [x, y] H Q E0) :
    wpAny (model X.prog X.w) A (call (.ref f) [v, u]) (EP X pins σ Q) X.xe s := by
  have e := I.env0
  have e0 : Env0 X.prog X.w X.K X.mg X.base A X.stack s H := ⟨by rw [hfr]; exact e.frames, e.mod, e.bs, e.bsz, e.funs, e.frf, e.hok, e.bare⟩
  have hl := F.len _ _ _ _ h
  have r2 : Vals [x, y] [v, u] := .cons rx (.cons ry .nil)
  refine wpAny_call (codeAny_mono (F.run A X.stack s H ⟨[v, u], []⟩ [v, u] [x, y] _ E0 hr e0 (by
    have := hb s [v, u] I.kIn (by simpa using hl)
    simpa using this) r2 h) fun r s' hq => ?_)
  cases r with
  | error e => exact hx pins σ H s e s' I hq
  | ok fl =>
    cases fl with
    | ret w => exact I.after hq
    | next => exact False.elim hq
    | brk => exact False.elim hq
    | cont => exact False.elim hq
theorem op_eqO (F : FnOk X.prog X.w X.K X.mg X.base CX k f fd ps sp) (hs : PySem.W.findIn X.K (.ref C) "__eq__" = some (some (.ref f))) (hf : PySem.W.isFn X.K (.ref f) = true) (hb : Binds X.K fd ps []) (hx : Passes CX X E0) (hr : Room k X.A) : OpR X (compareOp .Eq) (rEqO X.K C sp) := by
  intro pins s σ H x y v u Q I rx ry ⟨a, dx, fs, t, hxa, ha, ty, nf, h⟩
  subst hxa
  obtain rfl : v = Value.ref a := rx
  obtain ⟨mA, J, _⟩ := ins_get I.hok ha
  obtain ⟨od, J, _⟩ := J.look
  obtain ⟨Pk, kx, hp, _⟩ := kit_of I ry ty
  obtain ⟨m, hF⟩ := I.fr
  unfold compareOp
  refine PySem.W.cmp_K (op := .Eq) (tb := t) hr.units0 hF I.ok.mod.kin J (kx.ty _ _ I.kIn hp) nf hs hf (wpAny_mono (run_eq (x := .ref a) F hb hx hr rfl I rfl ry h) (fun w s' hq => ?_) fun _ _ z => z)
  obtain ⟨z, H', I', rz, b, rfl, q⟩ := hq
  cases rz
  exact ⟨.bl b, H', I', rfl, q⟩
end
section
variable {X : Cx} {CX : CXT} {k : Nat} {C f g : Addr} {fd : FuncData} {ps ks : List Str} {sp : Sp} {E : XK} {x m : Str} {p pos apos : Pos} {o fe : Expr} {kws : List Keyword} {ta tf : TE} {t tk : TA} {gL : List Value → List Value → List Value} {gV : List V → List V → List V}
/-- o.m(k = v, ..) -/
def tMethN (C : Addr) (m : Str) (nk : Nat) (sp : Sp) (gV : List V → List V → List V) (E : XK) (ta : TE) (tk : TA) : TE := fun σ H Q => ta σ H fun y H1 => ∃ (a dx : Addr) (fs : List (Str × V)), y = .ref a ∧ H1 a = some (.ins C dx fs) ∧ fs.lookup m = none ∧ tk σ H1 fun zs H2 => zs.length = nk ∧ sp (gV [.ref a] zs) H2 Q E
end
section
variable {X : Cx} {CX : CXT} {k : Nat} {C g : Addr} {fd : FuncData} {ps ks : List Str} {sp : Sp} {E : XK} {pos : Pos} {fe : Expr} {kws : List Keyword} {tf : TE} {tk : TA} {gL : List Value → List Value → List Value} {gV : List V → List V → List V}
/-- o(k = v, ..), o an instance -/
def tCallON (C : Addr) (nk : Nat) (sp : Sp) (gV : List V → List V → List V) (E : XK) (tf : TE) (tk : TA) : TE := fun σ H Q => tf σ H fun y H1 => ∃ a, y = V.ref a ∧ tk σ H1 fun zs H2 => (∃ dx fs, H2 a = some (.ins C dx fs)) ∧ zs.length = nk ∧ sp (gV [.ref a] zs) H2 Q E
end
end L2

/-! A calculus over data: what a reading gives, told by plain data; the heap stays out of sight.
    Streams: objects of the law's own that draws change; all that is told of them is SO. -/
namespace DL
open PySem L2
abbrev Ex := Evl.Ex
/-- kinds of streams: the list of three; the dict with cells; the dict with a list of what is left, and that list -/
inductive SK where
  | l3 | cells | mp (len : Nat) | nats (len : Nat) | tbl (q : Str)
/-- the tables of code objects that defs with lambdas have -/
class Tb (K : PySem.W.Frag) where
  tb : List (Addr × Str)
/-- what is known: the streams and a bound of their counters; what is settled, all that is tracked -/
structure Wd where
  S : Addr → Prop
  T : Addr → SK
  n : Nat
  H0 : Hp
  H1 : Hp
/-- data: what a value stands for; the last three are things that a def is still making (they stand in a slot alone) -/
inductive D where
  | non | bl (b : Bool) | int (i : Int) | str (x : Str)
  | lst (xs : List D) | tup (xs : List D)
  | obj (C : Addr) (fs : List (Str × D))
  | dct (kvs : List (Key × D))
  | fdc (kvs : List (Key × D))
  | ty (n : String) | cls (a : Addr)
  | strm (a : Addr) (k : SK)
  | exc (C : Addr) (fs : List (Str × D)) | lam (f c' : Addr) (q : Str) (u0 : Wd)
  | mls (xs : List D) | mob (a dx C : Addr) (fs : List (Str × D)) | mdk (kvs : List (Key × D))
/-- nothing that is known is lost -/
structure Le (u v : Wd) : Prop where
  s : ∀ a, u.S a → v.S a
  t : ∀ a, u.S a → v.T a = u.T a
  h : Ex u.H0 v.H0
theorem Le.refl {u : Wd} : Le u u := ⟨fun _ h => h, fun _ _ => rfl, .refl _⟩
theorem Le.trans {u u' u'' : Wd} (a : Le u u') (b : Le u' u'') : Le u u'' := ⟨fun x h => b.s x (a.s x h), fun x h => (b.t x (a.s x h)).trans (a.t x h), a.h.trans b.h⟩
mutual
inductive Den (K : PySem.W.Frag) (u : Wd) : V → D → Prop
  | non : Den K u .non .non
  | bl (b : Bool) : Den K u (.bl b) (.bl b)
  | int (i : Int) : Den K u (.int i) (.int i)
  | str (x : Str) : Den K u (.str x) (.str x)
  | ty (n : String) : Den K u (.ty n) (.ty n)
  | cls (a : Addr) : Den K u (.ref a) (.cls a)
  | strm {a : Addr} {k : SK} : u.S a → u.T a = k → Den K u (.ref a) (.strm a k)
  | lst {a : Addr} {xs : List V} {ds : List D} : SqL K u.H0 a xs → Dens K u xs ds → Den K u (.ref a) (.lst ds)
  | tup {a : Addr} {xs : List V} {ds : List D} : SqT K u.H0 a xs → Dens K u xs ds → Den K u (.ref a) (.tup ds)
  | obj {a C dx : Addr} {fs : List (Str × V)} {gs : List (Str × D)} : u.H0 a = some (.ins C dx fs) → DenF K u fs gs → Den K u (.ref a) (.obj C gs)
  | dct {a : Addr} {kvs : List (Key × V)} {gs : List (Key × D)} : Rd u.H0 a (.dK kvs) → DenK K u kvs gs → Den K u (.ref a) (.dct gs)
  | fdc {a : Addr} {o : Obj} {kvs : List (Key × V)} {gs : List (Key × D)} : u.H0 a = some (.frz o (.dK kvs)) → DenK K u kvs gs → Den K u (.ref a) (.fdc gs)
  | exc {a C dx : Addr} {fs : List (Str × V)} {gs : List (Str × D)} : u.H0 a = some (xo a (.ref C) (some dx)) → u.H0 dx = some (.xd fs) → DenF K u fs gs → Den K u (.ref a) (.exc C gs)
  | exc0 {a C : Addr} : u.H0 a = some (xo a (.ref C) none) → Den K u (.ref a) (.exc C [])
  | lam {f c' : Addr} {q : Str} {u0 : Wd} : Le u0 u → u.H0 c' = some (LamX.CodeO c' q) → Den K u (.ref f) (.lam f c' q u0)
inductive Dens (K : PySem.W.Frag) (u : Wd) : List V → List D → Prop
  | nil : Dens K u [] []
  | cons {v : V} {d : D} {vs : List V} {ds : List D} : Den K u v d → Dens K u vs ds → Dens K u (v :: vs) (d :: ds)
inductive DenF (K : PySem.W.Frag) (u : Wd) : List (Str × V) → List (Str × D) → Prop
  | nil : DenF K u [] []
  | cons {f : Str} {v : V} {d : D} {vs : List (Str × V)} {ds : List (Str × D)} : Den K u v d → DenF K u vs ds → DenF K u ((f, v) :: vs) ((f, d) :: ds)
inductive DenK (K : PySem.W.Frag) (u : Wd) : List (Key × V) → List (Key × D) → Prop
  | nil : DenK K u [] []
  | cons {f : Key} {v : V} {d : D} {vs : List (Key × V)} {ds : List (Key × D)} : Den K u v d → DenK K u vs ds → DenK K u ((f, v) :: vs) ((f, d) :: ds)
end
section
variable {K : PySem.W.Frag} [Tb K] {H H' : Hp} {u u' u'' v' : Wd}
theorem ex_new {p : Addr} {o : HO} (h : H p = none) : Ex H (upd H p o) := Evl.Ex.new h
mutual
theorem Den.mono (e : Le u u') : ∀ {v : V} {d : D}, Den K u v d → Den K u' v d
  | _, _, .non => .non
  | _, _, .bl b => .bl b
  | _, _, .int i => .int i
  | _, _, .str x => .str x
  | _, _, .ty x => .ty x
  | _, _, .cls x => .cls x
  | _, _, .strm h q => .strm (e.s _ h) ((e.t _ h).trans q)
  | _, _, .lst h r => .lst (Evl.ex_l e.h h) (Dens.mono e r)
  | _, _, .tup h r => .tup (Evl.ex_t e.h h) (Dens.mono e r)
  | _, _, .obj h r => .obj (e.h _ _ h) (DenF.mono e r)
  | _, _, .dct h r => .dct (Evl.ex_rd e.h h) (DenK.mono e r)
  | _, _, .fdc h r => .fdc (e.h _ _ h) (DenK.mono e r)
  | _, _, .exc h1 h2 r => .exc (e.h _ _ h1) (e.h _ _ h2) (DenF.mono e r)
  | _, _, .exc0 h => .exc0 (e.h _ _ h)
  | _, _, .lam l h => .lam (l.trans e) (e.h _ _ h)
theorem Dens.mono (e : Le u u') : ∀ {v : List V} {d : List D}, Dens K u v d → Dens K u' v d
  | _, _, .nil => .nil
  | _, _, .cons h r => .cons (Den.mono e h) (Dens.mono e r)
theorem DenF.mono (e : Le u u') : ∀ {v : List (Str × V)} {d : List (Str × D)}, DenF K u v d → DenF K u' v d
  | _, _, .nil => .nil
  | _, _, .cons h r => .cons (Den.mono e h) (DenF.mono e r)
theorem DenK.mono (e : Le u u') : ∀ {v : List (Key × V)} {d : List (Key × D)}, DenK K u v d → DenK K u' v d
  | _, _, .nil => .nil
  | _, _, .cons h r => .cons (Den.mono e h) (DenK.mono e r)
end
theorem Dens.len : ∀ {v : List V} {d : List D}, Dens K u v d → v.length = d.length
  | _, _, .nil => rfl
  | _, _, .cons _ r => by simp [Dens.len r]
theorem Dens.get : ∀ {v : List V} {d : List D} {i : Nat} {x : V}, Dens K u v d → v[i]? = some x → ∃ y, d[i]? = some y ∧ Den K u x y
  | _, _, _, _, .nil, e => by simp at e
  | _, _, 0, _, .cons r _, e => by simp at e; subst e; exact ⟨_, rfl, r⟩
  | _, _, i + 1, x, .cons _ t, e => by
    obtain ⟨u, h1, h2⟩ := Dens.get (i := i) (x := x) t (by simpa using e)
    exact ⟨u, by simpa using h1, h2⟩
theorem Dens.getD : ∀ {v : List V} {d : List D} {i : Nat} {y : D}, Dens K u v d → d[i]? = some y → ∃ x, v[i]? = some x ∧ Den K u x y
  | _, _, _, _, .nil, e => by simp at e
  | _, _, 0, _, .cons r _, e => by simp at e; subst e; exact ⟨_, rfl, r⟩
  | _, _, i + 1, x, .cons _ t, e => by
    obtain ⟨u, h1, h2⟩ := Dens.getD (i := i) (y := x) t (by simpa using e)
    exact ⟨u, by simpa using h1, h2⟩
theorem Dens.app : ∀ {v v' : List V} {d d' : List D}, Dens K u v d → Dens K u v' d' → Dens K u (v ++ v') (d ++ d')
  | _, _, _, _, .nil, s => s
  | _, _, _, _, .cons r t, s => .cons r (Dens.app t s)
theorem Dens.take : ∀ {v : List V} {d : List D} (n : Nat), Dens K u v d → Dens K u (v.take n) (d.take n)
  | _, _, 0, _ => .nil
  | _, _, _ + 1, .nil => .nil
  | _, _, n + 1, .cons r t => .cons r (Dens.take n t)
theorem Dens.drop : ∀ {v : List V} {d : List D} (n : Nat), Dens K u v d → Dens K u (v.drop n) (d.drop n)
  | _, _, 0, r => r
  | _, _, _ + 1, .nil => .nil
  | _, _, n + 1, .cons _ t => Dens.drop n t
theorem DenF.keys : ∀ {v : List (Str × V)} {d : List (Str × D)}, DenF K u v d → v.map (·.1) = d.map (·.1)
  | _, _, .nil => rfl
  | _, _, .cons _ r => by simp [DenF.keys r]
theorem DenF.len {v : List (Str × V)} {d : List (Str × D)} (h : DenF K u v d) : v.length = d.length := by
  have := congrArg List.length h.keys
  simpa using this
theorem DenF.look : ∀ {v : List (Str × V)} {d : List (Str × D)} {f : Str} {y : D}, DenF K u v d → d.lookup f = some y → ∃ x, v.lookup f = some x ∧ Den K u x y
  | _, _, _, _, .nil, e => by simp at e
  | _, _, f, y, .cons (f := g) (v := v) (d := d) r t, e => by
    rw [List.lookup_cons] at e ⊢
    cases hq : f == g with
    | true => rw [hq] at e; cases e; exact ⟨v, rfl, r⟩
    | false => rw [hq] at e; exact DenF.look t e
theorem DenF.miss : ∀ {v : List (Str × V)} {d : List (Str × D)} {f : Str}, DenF K u v d → d.lookup f = none → v.lookup f = none
  | _, _, _, .nil, _ => rfl
  | _, _, f, .cons (f := g) r t, e => by
    rw [List.lookup_cons] at e ⊢
    cases hq : f == g with
    | true => rw [hq] at e; cases e
    | false => rw [hq] at e; exact DenF.miss t e
theorem den_int {v : V} {i : Int} (h : Den K u v (.int i)) : v = .int i := by cases h; rfl
theorem den_bl {v : V} {i : Bool} (h : Den K u v (.bl i)) : v = .bl i := by cases h; rfl
theorem den_str {v : V} {i : Str} (h : Den K u v (.str i)) : v = .str i := by cases h; rfl
theorem den_non {v : V} (h : Den K u v .non) : v = .non := by cases h; rfl
theorem den_strm {v : V} {a : Addr} {k : SK} (h : Den K u v (.strm a k)) : v = .ref a ∧ u.S a ∧ u.T a = k := by cases h with | strm h q => exact ⟨rfl, h, q⟩
theorem den_lst {v : V} {xs : List D} (h : Den K u v (.lst xs)) : ∃ a vs, v = .ref a ∧ SqL K u.H0 a vs ∧ Dens K u vs xs := by cases h with | lst q r => exact ⟨_, _, rfl, q, r⟩
theorem den_tup {v : V} {xs : List D} (h : Den K u v (.tup xs)) : ∃ a vs, v = .ref a ∧ SqT K u.H0 a vs ∧ Dens K u vs xs := by cases h with | tup q r => exact ⟨_, _, rfl, q, r⟩
theorem den_obj {v : V} {C : Addr} {gs : List (Str × D)} (h : Den K u v (.obj C gs)) : ∃ a dx fs, v = .ref a ∧ u.H0 a = some (.ins C dx fs) ∧ DenF K u fs gs := by cases h with | obj q r => exact ⟨_, _, _, rfl, q, r⟩
theorem den_fdc {v : V} {gs : List (Key × D)} (h : Den K u v (.fdc gs)) : ∃ a o kvs, v = .ref a ∧ u.H0 a = some (.frz o (.dK kvs)) ∧ DenK K u kvs gs := by cases h with | fdc q r => exact ⟨_, _, _, rfl, q, r⟩
theorem dens0 {vs : List V} (h : Dens K u vs []) : vs = [] := by cases h; rfl
theorem dens1 {vs : List V} {x : D} (h : Dens K u vs [x]) : ∃ v, vs = [v] ∧ Den K u v x := by cases h with | cons a r => cases r; exact ⟨_, rfl, a⟩
theorem dens2 {vs : List V} {x y : D} (h : Dens K u vs [x, y]) : ∃ v w, vs = [v, w] ∧ Den K u v x ∧ Den K u w y := by cases h with | cons a r => obtain ⟨w, rfl, b⟩ := dens1 r; exact ⟨_, _, rfl, a, b⟩
/-- a field stored -/
def putD (f : Str) (d : D) : List (Str × D) → List (Str × D)
  | [] => [(f, d)]
  | (g, e) :: r => if g = f then (f, d) :: r else (g, e) :: putD f d r
theorem DenF.put {f : Str} {v : V} {d : D} (r : Den K u v d) : ∀ {fs : List (Str × V)} {gs : List (Str × D)}, DenF K u fs gs → DenF K u (putF f v fs) (putD f d gs)
  | _, _, .nil => .cons r .nil
  | _, _, .cons (f := f') (v := v') (d := d') (vs := vs') (ds := ds') h1 h2 => by
    show DenF K u (if f' = f then (f', v) :: vs' else (f', v') :: putF f v vs') (if f' = f then (f, d) :: ds' else (f', d') :: putD f d ds')
    by_cases e : f' = f
    · rw [if_pos e, if_pos e, e]; exact .cons r h2
    · rw [if_neg e, if_neg e]; exact .cons h1 (DenF.put r h2)
theorem ex_none (e : Ex H H') {x : Addr} (h : H' x = none) : H x = none := Evl.fresh_back e h
abbrev ky (x : String) : Key := .inr (Str.ofString x)
/-- what is told of a stream of the law -/
def SO (K : PySem.W.Frag) [Tb K] (u : Wd) : SK → HO → Prop
  | .l3, o => ∃ x c m : Int, o = .lst [.int x, .int c, .int m] ∧ 0 ≤ x ∧ 0 ≤ c ∧ c ≤ u.n ∧ 0 ≤ m ∧ m < 2147483648
  | .cells, o => ∃ (l : Addr) (cs : List Int) (c x : Int), o = .dK [(ky "cells", .ref l), (ky "at", .int c), (ky "left", .int x)] ∧ SqL K u.H0 l (cs.map V.int) ∧ cs ≠ [] ∧ cs.length ≤ 1000 ∧ 0 ≤ c ∧ c ≤ u.n ∧ 0 ≤ x
  | .mp len, o => ∃ (l l2 : Addr) (cs : List Int) (c : Int), o = .dK [(ky "script", .ref l), (ky "at", .int c), (ky "left", .ref l2)] ∧ SqL K u.H0 l (cs.map V.int) ∧ cs.length = len ∧ 0 ≤ c ∧ c ≤ u.n ∧ u.S l2 ∧ u.T l2 = .nats len
  | .tbl q, o => ∃ ps, o = .tbl ps ∧ TabO u.H0 ps q
  | .nats len, o => ∃ xs : List Int, o = .lst (xs.map V.int) ∧ xs.length = len ∧ ∀ x ∈ xs, 0 ≤ x
theorem SO.mono {u v : Wd} {k : SK} {o : HO} (h : SO K u k o) (l : Le u v) (hn : u.n ≤ v.n) : SO K v k o := by
  cases k with
  | l3 =>
    obtain ⟨x, c, m, e, h1, h2, h3, h4⟩ := h
    exact ⟨x, c, m, e, h1, h2, by omega, h4⟩
  | cells =>
    obtain ⟨a, cs, c, x, e, q, h1, h2, h3, h4, h5⟩ := h
    exact ⟨a, cs, c, x, e, Evl.ex_l l.h q, h1, h2, h3, by omega, h5⟩
  | mp len =>
    obtain ⟨a, a2, cs, c, e, q, h1, h2, h3, h4, h5⟩ := h
    exact ⟨a, a2, cs, c, e, Evl.ex_l l.h q, h1, h2, by omega, l.s _ h4, (l.t _ h4).trans h5⟩
  | nats len => exact h
  | tbl q =>
    obtain ⟨ps, e, ht, ha⟩ := h
    exact ⟨ps, e, ht, fun p cv hc => let ⟨c, e1, e2⟩ := ha p cv hc; ⟨c, e1, l.h _ _ e2⟩⟩
/-- one step on: all that is tracked stands, but streams may change; what is settled now was settled or is new -/
structure Gs (u v : Wd) : Prop where
  a : Ex u.H0 v.H0
  b : ∀ x o, ¬ u.S x → u.H1 x = some o → v.H1 x = some o
  b' : ∀ x, u.H1 x ≠ none → v.H1 x ≠ none
  c : Ex v.H0 v.H1
  n : ∀ x, u.H0 x = none → v.H0 x ≠ none → u.H1 x = none
  sub : ∀ x, u.S x → v.S x
  kd : ∀ x, u.S x → v.T x = u.T x
  new : ∀ x, v.S x → u.S x ∨ u.H1 x = none
  le : u.n ≤ v.n
theorem Gs.ls (g : Gs u v') : Le u v' := ⟨g.sub, g.kd, g.a⟩
theorem Gs.refl (e : Ex u.H0 u.H1) : Gs u u := ⟨.refl _, fun _ _ _ h => h, fun _ h => h, e, fun _ h h' => absurd h h', fun _ h => h, fun _ _ => rfl, fun _ h => .inl h, Nat.le_refl _⟩
theorem Gs.trans (g : Gs u u') (k : Gs u' u'') : Gs u u'' :=
  ⟨g.a.trans k.a, fun x o s h => k.b x o (fun s' => (g.new x s').elim s (fun z => by rw [z] at h; cases h)) (g.b x o s h), fun x h => k.b' x (g.b' x h), k.c, fun x h h' => by
    cases e : u'.H0 x with
    | none =>
      have z := k.n x e h'
      cases q : u.H1 x with
      | none => rfl
      | some o => exact absurd z (g.b' x (by rw [q]; simp))
    | some o => exact g.n x h (by rw [e]; simp), fun x h => k.sub x (g.sub x h), fun x h => (k.kd x (g.sub x h)).trans (g.kd x h), fun x h => by
    rcases k.new x h with h | h
    · exact g.new x h
    · refine .inr ?_
      cases q : u.H1 x with
      | none => rfl
      | some o => exact absurd h (g.b' x (by rw [q]; simp)), Nat.le_trans g.le k.le⟩
/-- the same world with a new object p, settled -/
abbrev Wd.put (u : Wd) (p : Addr) (o : HO) : Wd := ⟨u.S, u.T, u.n, upd u.H0 p o, upd u.H1 p o⟩
/-- streams stand as told -/
structure StOk (K : PySem.W.Frag) [Tb K] (u : Wd) : Prop where
  at_ : ∀ a, u.S a → u.H0 a = none ∧ ∃ o, u.H1 a = some o ∧ SO K u (u.T a) o
  tb : ∀ p ∈ Tb.tb K, u.S p.1 ∧ u.T p.1 = .tbl p.2
  on : ∀ a q, u.S a → u.T a = .tbl q → (a, q) ∈ Tb.tb K
instance : CoeFun (StOk K u) (fun _ => ∀ a, u.S a → u.H0 a = none ∧ ∃ o, u.H1 a = some o ∧ SO K u (u.T a) o) := ⟨StOk.at_⟩
theorem Gs.put (e : Ex u.H0 u.H1) {p : Addr} {o : HO} (h : u.H1 p = none) : Gs u (u.put p o) :=
  ⟨ex_new (ex_none e h), fun x w _ hx => (ex_new h) x w hx, fun x hx => by
      show upd u.H1 p o x ≠ none
      by_cases q : x = p
      · subst q; rw [upd_same]; simp
      · rw [upd_ne q]; exact hx, fun x w (hx : upd u.H0 p o x = some w) => by
      show upd u.H1 p o x = some w
      by_cases q : x = p
      · subst q; rw [upd_same] at hx ⊢; exact hx
      · rw [upd_ne q] at hx ⊢; exact e x w hx, fun x h0 (h1 : upd u.H0 p o x ≠ none) => by
      by_cases q : x = p
      · subst q; exact h
      · rw [upd_ne q] at h1; exact absurd h0 h1, fun _ h => h, fun _ _ => rfl, fun _ h => .inl h, Nat.le_refl _⟩
theorem StOk.put (e : Ex u.H0 u.H1) (s : StOk K u) {p : Addr} {o : HO} (h : u.H1 p = none) : StOk K (u.put p o) := by
  refine ⟨fun a ha => ?_, s.tb, s.on⟩
  obtain ⟨h0, w, h1, hs⟩ := s a ha
  have q : a ≠ p := fun q => by rw [q, h] at h1; cases h1
  exact ⟨(upd_ne q).trans h0, w, (upd_ne q).trans h1, hs.mono ⟨fun _ h => h, fun _ _ => rfl, (Gs.put e h).a⟩ (Nat.le_refl _)⟩
/-- more settled: an object that was not, and is no stream -/
theorem Gs.settle {b : Wd} (g : Gs b u) {p : Addr} {o : HO} (hb : b.H1 p = none) (h0 : u.H0 p = none) (h1 : u.H1 p = some o) : Gs b ⟨u.S, u.T, u.n, upd u.H0 p o, u.H1⟩ :=
  ⟨g.a.trans (ex_new h0), g.b, g.b', fun x w (hx : upd u.H0 p o x = some w) => by
      show u.H1 x = some w
      by_cases q : x = p
      · subst q; rw [upd_same] at hx; rw [h1]; exact hx
      · rw [upd_ne q] at hx; exact g.c x w hx, fun x h (h' : upd u.H0 p o x ≠ none) => by
      by_cases q : x = p
      · subst q; exact hb
      · rw [upd_ne q] at h'; exact g.n x h h', g.sub, g.kd, g.new, g.le⟩
theorem StOk.settle (s : StOk K u) {p : Addr} {o : HO} (h0' : u.H0 p = none) (n : ¬ u.S p) : StOk K ⟨u.S, u.T, u.n, upd u.H0 p o, u.H1⟩ := by
  refine ⟨fun a ha => ?_, s.tb, s.on⟩
  obtain ⟨h0, w, h1, hs⟩ := s a ha
  have q : a ≠ p := fun q => n (q ▸ ha)
  exact ⟨(upd_ne q).trans h0, w, h1, hs.mono ⟨fun _ h => h, fun _ _ => rfl, ex_new h0'⟩ (Nat.le_refl _)⟩
/-- an object that is not settled changes -/
theorem Gs.write {b : Wd} (g : Gs b u) {p : Addr} {o : HO} (hb : b.H1 p = none) (h0 : u.H0 p = none) : Gs b ⟨u.S, u.T, u.n, u.H0, upd u.H1 p o⟩ :=
  ⟨g.a, fun x w s hx => by
      show upd u.H1 p o x = some w
      have q : x ≠ p := fun q => by rw [q, hb] at hx; cases hx
      rw [upd_ne q]; exact g.b x w s hx, fun x hx => by
      show upd u.H1 p o x ≠ none
      by_cases q : x = p
      · subst q; rw [upd_same]; simp
      · rw [upd_ne q]; exact g.b' x hx, fun x w hx => by
      show upd u.H1 p o x = some w
      have q : x ≠ p := fun q => by rw [q, h0] at hx; cases hx
      rw [upd_ne q]; exact g.c x w hx, g.n, g.sub, g.kd, g.new, g.le⟩
theorem StOk.write (s : StOk K u) {p : Addr} {o : HO} (n : ¬ u.S p) : StOk K ⟨u.S, u.T, u.n, u.H0, upd u.H1 p o⟩ := by
  refine ⟨fun a ha => ?_, s.tb, s.on⟩
  obtain ⟨h0, w, h1, hs⟩ := s a ha
  have q : a ≠ p := fun q => n (q ▸ ha)
  exact ⟨h0, w, (upd_ne q).trans h1, hs.mono ⟨fun _ h => h, fun _ _ => rfl, .refl _⟩ (Nat.le_refl _)⟩
end
end DL

namespace DL
open PySem L2
section
variable {K : PySem.W.Frag} [Tb K] {Z : ZX} {b u u' u'' : Wd}
/-- whether a thing stands in a slot alone, still being made -/
def isMut : D → Bool
  | .mls _ | .mob _ _ _ _ | .mdk _ => true
  | _ => false
/-- what a slot holds -/
inductive DenS (K : PySem.W.Frag) (b u : Wd) : V → D → Prop
  | den {v : V} {d : D} : Den K u v d → DenS K b u v d
  | mls {a : Addr} {xs : List V} {ds : List D} : b.H1 a = none → u.H0 a = none → ¬ u.S a → u.H1 a = some (.lst xs) → Dens K u xs ds → DenS K b u (.ref a) (.mls ds)
  | mob {a C dx : Addr} {fs : List (Str × V)} {gs : List (Str × D)} : b.H1 a = none → u.H0 a = none → ¬ u.S a → u.H1 a = some (.ins C dx fs) → u.H1 dx = some (.own a) → ¬ u.S dx → DenF K u fs gs → DenS K b u (.ref a) (.mob a dx C gs)
  | mdk {a : Addr} {kvs : List (Key × V)} {gs : List (Key × D)} : b.H1 a = none → u.H0 a = none → ¬ u.S a → u.H1 a = some (.dK kvs) → DenK K u kvs gs → DenS K b u (.ref a) (.mdk gs)
theorem Den.notMut {v : V} {d : D} (h : Den K u v d) : isMut d = false := by
  cases h <;> rfl
theorem DenS.imm {v : V} {d : D} (h : DenS K b u v d) (i : isMut d = false) : Den K u v d := by
  cases h with
  | den h => exact h
  | mls => cases i
  | mob => cases i
  | mdk => cases i
theorem Gs.nn (g : Gs u u') {a : Addr} {o : HO} (e0 : u.H0 a = none) (e1 : u.H1 a = some o) : u'.H0 a = none := by
  cases q : u'.H0 a with
  | none => rfl
  | some w =>
    have z := g.n a e0 (by rw [q]; simp)
    rw [z] at e1; cases e1
theorem Gs.ns (g : Gs u u') {a : Addr} {o : HO} (e0 : ¬ u.S a) (e1 : u.H1 a = some o) : ¬ u'.S a := fun h => by
  rcases g.new a h with h | h
  · exact e0 h
  · rw [h] at e1; cases e1
theorem DenS.mono {v : V} {d : D} (g : Gs u u') (h : DenS K b u v d) : DenS K b u' v d := by
  cases h with
  | den h => exact .den (h.mono g.ls)
  | mls hb h0 hs h1 r => exact .mls hb (g.nn h0 h1) (g.ns hs h1) (g.b _ _ hs h1) (r.mono g.ls)
  | mob hb h0 hs h1 h2 hx r => exact .mob hb (g.nn h0 h1) (g.ns hs h1) (g.b _ _ hs h1) (g.b _ _ hx h2) (g.ns hx h2) (r.mono g.ls)
  | mdk hb h0 hs h1 r => exact .mdk hb (g.nn h0 h1) (g.ns hs h1) (g.b _ _ hs h1) (r.mono g.ls)
/-- where exceptions go, and what is told of them: class, fields, the bound of the streams -/
structure ZX where
  E : XK
  X : Addr → List (Str × D) → Nat → Prop
/-- an exception that flies: of the class C, with these fields -/
def DenE (K : PySem.W.Frag) [Tb K] (u : Wd) (cls : Value) (d : Option Addr) (C : Addr) (fs : List (Str × D)) : Prop :=
  cls = .ref C ∧ ((d = none ∧ fs = []) ∨ ∃ dx vs, d = some dx ∧ u.H0 dx = some (.xd vs) ∧ DenF K u vs fs)
def XOk (K : PySem.W.Frag) [Tb K] (Z : ZX) (b : Wd) : Prop := ∀ cls d C fs u', Gs b u' → StOk K u' → DenE K u' cls d C fs → Z.X C fs u'.n → Z.E cls d u'.H1
abbrev DS := List (Option D)
/-- the slots, told by data; b: the world that the def was handed -/
structure Sd (K : PySem.W.Frag) [Tb K] (Z : ZX) (b u : Wd) (σ : St) (ds : DS) : Prop where
  gr : Gs b u
  xk : XOk K Z b
  st : StOk K u
  len : σ.length = ds.length
  sl : ∀ (i : Nat) (d : D), ds[i]? = some (some d) → ∃ v, σ[i]? = some (some v) ∧ DenS K b u v d
  ap : ∀ (i j : Nat) (d e : D) (a c : Addr), ds[i]? = some (some d) → ds[j]? = some (some e) → isMut d = true → isMut e = true → i ≠ j → σ[i]? = some (some (.ref a)) → σ[j]? = some (some (.ref c)) → a ≠ c
variable {σ : St} {ds : DS}
theorem Sd.ex (S : Sd K Z b u σ ds) : Ex u.H0 u.H1 := S.gr.c
theorem Sd.go (S : Sd K Z b u σ ds) (g : Gs u u') (s : StOk K u') : Sd K Z b u' σ ds :=
  ⟨S.gr.trans g, S.xk, s, S.len, fun i d e => let ⟨v, h1, h2⟩ := S.sl i d e; ⟨v, h1, h2.mono g⟩, S.ap⟩
theorem get_set {α : Type} (l : List α) (i j : Nat) (x : α) : (l.set i x)[j]? = if i = j then (if i < l.length then some x else none) else l[j]? := by
  rw [List.getElem?_set]
/-- a value stored -/
theorem Sd.set {i : Nat} {v : V} {d : D} (S : Sd K Z b u σ ds) (h : Den K u v d) : Sd K Z b u (σ.set i (some v)) (ds.set i (some d)) := by
  refine ⟨S.gr, S.xk, S.st, by simp [S.len], fun j e q => ?_, fun j k e f a b h1 h2 m1 m2 ne q1 q2 => ?_⟩
  · by_cases q' : i = j
    · subst q'
      rw [get_set] at q
      by_cases hl : i < ds.length
      · simp [hl] at q
        subst q
        exact ⟨v, by simp [get_set, S.len, hl], .den h⟩
      · simp [hl] at q
    · rw [get_set, if_neg q'] at q
      obtain ⟨w, h1, h2⟩ := S.sl j e q
      exact ⟨w, by rw [get_set, if_neg q']; exact h1, h2⟩
  · have nd := h.notMut
    have k1 : i ≠ j := fun z => by
      subst z
      rw [get_set] at h1
      by_cases hl : i < ds.length
      · simp [hl] at h1; subst h1; rw [nd] at m1; cases m1
      · simp [hl] at h1
    have k2 : i ≠ k := fun z => by
      subst z
      rw [get_set] at h2
      by_cases hl : i < ds.length
      · simp [hl] at h2; subst h2; rw [nd] at m2; cases m2
      · simp [hl] at h2
    rw [get_set, if_neg k1] at h1 q1
    rw [get_set, if_neg k2] at h2 q2
    exact S.ap j k e f a b h1 h2 m1 m2 ne q1 q2

/-! ### judgements: P of what comes out, and of the bound of the streams behind -/
def We (K : PySem.W.Frag) [Tb K] (Z : ZX) (te : TE) (ds : DS) (n : Nat) (P : D → Nat → Prop) : Prop :=
  ∀ (b u : Wd) (σ : St) (Q : VK), u.n = n → Sd K Z b u σ ds → (∀ v d u', Gs u u' → StOk K u' → Den K u' v d → P d u'.n → Q v u'.H1) → te σ u.H1 Q
def Wt (K : PySem.W.Frag) [Tb K] (Z : ZX) (tt : TT) (ds : DS) (n : Nat) (P : Bool → Nat → Prop) : Prop :=
  ∀ (b u : Wd) (σ : St) (Q : Bool → Hp → Prop), u.n = n → Sd K Z b u σ ds → (∀ c u', Gs u u' → StOk K u' → P c u'.n → Q c u'.H1) → tt σ u.H1 Q
def Wa (K : PySem.W.Frag) [Tb K] (Z : ZX) (ta : TA) (ds : DS) (n : Nat) (P : List D → Nat → Prop) : Prop :=
  ∀ (b u : Wd) (σ : St) (Q : List V → Hp → Prop), u.n = n → Sd K Z b u σ ds → (∀ vs xs u', Gs u u' → StOk K u' → Dens K u' vs xs → P xs u'.n → Q vs u'.H1) → ta σ u.H1 Q
def Wo (K : PySem.W.Frag) [Tb K] (Z : ZX) (to : TO) (ds : DS) (n : Nat) (P : Option Int → Nat → Prop) : Prop :=
  ∀ (b u : Wd) (σ : St) (Q : Option Int → Hp → Prop), u.n = n → Sd K Z b u σ ds → (∀ c u', Gs u u' → StOk K u' → P c u'.n → Q c u'.H1) → to σ u.H1 Q
structure Nd where
  nx : DS → Nat → Prop
  rt : D → Nat → Prop
  bk : DS → Nat → Prop := fun _ _ => False
  ct : DS → Nat → Prop := fun _ _ => False
/-- the ends of a statement at the heaps, where the ends at the data are N; s: where it began -/
structure EndsOk (K : PySem.W.Frag) [Tb K] (Z : ZX) (b s : Wd) (De : Ends) (N : Nd) : Prop where
  nx : ∀ ds u σ, Le s u → Sd K Z b u σ ds → N.nx ds u.n → De.nx σ u.H1
  rt : ∀ d v u, Gs b u → StOk K u → Den K u v d → N.rt d u.n → De.rt v u.H1
  bk : ∀ ds u σ, Le s u → Sd K Z b u σ ds → N.bk ds u.n → De.bk σ u.H1
  ct : ∀ ds u σ, Le s u → Sd K Z b u σ ds → N.ct ds u.n → De.ct σ u.H1
theorem EndsOk.mono {s s' : Wd} {De : Ends} {N : Nd} (O : EndsOk K Z b s De N) (e : Le s s') : EndsOk K Z b s' De N :=
  ⟨fun ds u σ x => O.nx ds u σ (e.trans x), O.rt, fun ds u σ x => O.bk ds u σ (e.trans x), fun ds u σ x => O.ct ds u σ (e.trans x)⟩
def Ws (K : PySem.W.Frag) [Tb K] (Z : ZX) (ts : TS) (ds : DS) (n : Nat) (N : Nd) : Prop :=
  ∀ (b u : Wd) (σ : St) (De : Ends), u.n = n → Sd K Z b u σ ds → EndsOk K Z b u De N → ts De σ u.H1
/-- a target: x is stored -/
def Wg (K : PySem.W.Frag) [Tb K] (Z : ZX) (g : TG) (x : D) (ds : DS) (P : DS → Prop) : Prop :=
  ∀ (b u : Wd) (σ : St) (v : V) (Q : St → Hp → Prop), Sd K Z b u σ ds → Den K u v x → (∀ ds' σ', Sd K Z b u σ' ds' → P ds' → Q σ' u.H1) → g v σ u.H1 Q
def Wgs (K : PySem.W.Frag) [Tb K] (Z : ZX) (g : TGs) (xs : List D) (ds : DS) (P : DS → Prop) : Prop :=
  ∀ (b u : Wd) (σ : St) (vs : List V) (Q : St → Hp → Prop), Sd K Z b u σ ds → Dens K u vs xs → (∀ ds' σ', Sd K Z b u σ' ds' → P ds' → Q σ' u.H1) → g vs σ u.H1 Q

/-! ### expressions -/
variable {n : Nat} {P : D → Nat → Prop} {te ta tb tc : TE} {N : Nd}
theorem We.imp {P' : D → Nat → Prop} (h : We K Z te ds n P) (i : ∀ d m, P d m → P' d m) : We K Z te ds n P' := fun b u σ Q e S k => h b u σ Q e S fun v d u' g s r p => k v d u' g s r (i d _ p)
theorem we_here {v : V} {d : D} (hd : ∀ u, Den K u v d) (p : P d n) : We K Z (tC v) ds n P := fun b u σ Q e S k => k _ d u (.refl S.ex) S.st (hd u) (e ▸ p)
theorem we_var {i : Nat} {d : D} (h : ds[i]? = some (some d)) (m : isMut d = false) (p : P d n) : We K Z (tVar i) ds n P := fun b u σ Q e S k => by
  obtain ⟨v, h1, h2⟩ := S.sl i d h
  exact ⟨v, h1, k v d u (.refl S.ex) S.st (h2.imm m) (e ▸ p)⟩
theorem we_int {i : Int} (p : P (.int i) n) : We K Z (tC (.int i)) ds n P := we_here (fun _ => .int i) p
theorem we_non (p : P .non n) : We K Z (tC .non) ds n P := we_here (fun _ => .non) p
theorem we_str {x : Str} (p : P (.str x) n) : We K Z (tC (.str x)) ds n P := we_here (fun _ => .str x) p
theorem we_ty {x : String} (p : P (.ty x) n) : We K Z (tC (.ty x)) ds n P := we_here (fun _ => .ty x) p
theorem we_cls {x : Addr} (p : P (.cls x) n) : We K Z (tC (.ref x)) ds n P := we_here (fun _ => .cls x) p
/-- pure growth -/
structure Gp (K : PySem.W.Frag) [Tb K] (u v : Wd) : Prop where
  g : Gs u v
  st : StOk K u → StOk K v
  n : v.n = u.n
theorem Gp.refl (e : Ex u.H0 u.H1) : Gp K u u := ⟨.refl e, fun h => h, rfl⟩
theorem Gp.put (e : Ex u.H0 u.H1) {p : Addr} {o : HO} (h : u.H1 p = none) : Gp K u (u.put p o) := ⟨.put e h, fun s => s.put e h, rfl⟩
/-- an operator on data -/
def Op (K : PySem.W.Frag) [Tb K] (r : R2) (x y : D) (P : D → Prop) : Prop :=
  ∀ (u : Wd) (v w : V) (Q : VK), Ex u.H0 u.H1 → StOk K u → Den K u v x → Den K u w y → (∀ z d u', Gp K u u' → Den K u' z d → P d → Q z u'.H1) → r v w u.H1 Q
theorem we_op {r : R2} (h : We K Z ta ds n fun x m => We K Z tb ds m fun y k => Op K r x y fun z => P z k) : We K Z (tOp r ta tb) ds n P := fun b u σ Q e S k =>
  h b u σ _ e S fun v x u1 g1 s1 d1 h2 => h2 b u1 σ _ rfl (S.go g1 s1) fun w y u2 g2 s2 d2 h3 => h3 u2 v w Q g2.c s2 (d1.mono g2.ls) d2 fun z d u3 g3 d3 p => k z d u3 ((g1.trans g2).trans g3.g) (g3.st s2) d3 (g3.n ▸ p)
def Un (K : PySem.W.Frag) [Tb K] (r : V → Hp → VK → Prop) (x : D) (P : D → Prop) : Prop :=
  ∀ (u : Wd) (v : V) (Q : VK), Ex u.H0 u.H1 → Den K u v x → (∀ z d u', Gp K u u' → Den K u' z d → P d → Q z u'.H1) → r v u.H1 Q
theorem we_un {r : V → Hp → VK → Prop} (h : We K Z ta ds n fun x m => Un K r x fun z => P z m) : We K Z (tUn r ta) ds n P := fun b u σ Q e S k =>
  h b u σ _ e S fun v x u1 g1 s1 d1 h2 => h2 u1 v Q g1.c d1 fun z d u3 g3 d3 p => k z d u3 (g1.trans g3.g) (g3.st s1) d3 (g3.n ▸ p)
theorem wa_nil {P : List D → Nat → Prop} (p : P [] n) : Wa K Z tNil ds n P := fun b u σ Q e S k => k _ [] u (.refl S.ex) S.st .nil (e ▸ p)
theorem wa_cons {P : List D → Nat → Prop} {tr : TA} (h : We K Z ta ds n fun x m => Wa K Z tr ds m fun xs k => P (x :: xs) k) : Wa K Z (tCons ta tr) ds n P := fun b u σ Q e S k =>
  h b u σ _ e S fun v x u1 g1 s1 d1 h2 => h2 b u1 σ _ rfl (S.go g1 s1) fun vs xs u2 g2 s2 d2 p => k (v :: vs) (x :: xs) u2 (g1.trans g2) s2 (.cons (d1.mono g2.ls) d2) p
/-- what a call of a built-in gives -/
def Cb (K : PySem.W.Frag) [Tb K] (r : List V → Hp → VK → Prop) (xs : List D) (P : D → Prop) : Prop :=
  ∀ (u : Wd) (vs : List V) (Q : VK), Ex u.H0 u.H1 → Dens K u vs xs → (∀ z d u', Gp K u u' → Den K u' z d → P d → Q z u'.H1) → r vs u.H1 Q
theorem we_cb {r : List V → Hp → VK → Prop} {t : TA} (h : Wa K Z t ds n fun xs m => Cb K r xs fun z => P z m) : We K Z (tCB r t) ds n P := fun b u σ Q e S k =>
  h b u σ _ e S fun vs xs u1 g1 s1 d1 h2 => h2 u1 vs Q g1.c d1 fun z d u3 g3 d3 p => k z d u3 (g1.trans g3.g) (g3.st s1) d3 (g3.n ▸ p)
theorem sz100 {n : Nat} (h : n ≤ 1000000) : n ≤ sizeLine := Nat.le_trans h (by decide)
theorem we_tup {t : TA} (h : Wa K Z t ds n fun xs m => xs.length ≤ 1000000 ∧ P (.tup xs) m) : We K Z (tTup t) ds n P := fun b u σ Q e S k =>
  h b u σ _ e S fun vs xs u1 g1 s1 d1 h2 => ⟨by rw [d1.len]; exact sz100 h2.1, fun p hp => k _ _ (u1.put p _) (g1.trans (.put g1.c hp)) (s1.put g1.c hp) (.tup (SqT.of upd_same) (d1.mono (Gs.put g1.c hp).ls)) h2.2⟩
theorem we_lst {t : TA} (h : Wa K Z t ds n fun xs m => xs.length ≤ 1000000 ∧ P (.lst xs) m) : We K Z (tLst t) ds n P := fun b u σ Q e S k =>
  h b u σ _ e S fun vs xs u1 g1 s1 d1 h2 => ⟨by rw [d1.len]; exact sz100 h2.1, fun p hp => k _ _ (u1.put p _) (g1.trans (.put g1.c hp)) (s1.put g1.c hp) (.lst (SqL.of upd_same) (d1.mono (Gs.put g1.c hp).ls)) h2.2⟩
/-! ### tests -/
theorem wt_test {P : Bool → Nat → Prop} (h : We K Z te ds n fun d m => ∃ c, d = .bl c ∧ P c m) : Wt K Z (tTest te) ds n P := fun b u σ Q e S k =>
  h b u σ _ e S fun v d u1 g1 s1 d1 ⟨c, q, p⟩ => by
    subst q
    cases den_bl d1
    exact ⟨c, rfl, k c u1 g1 s1 p⟩
theorem wt_B {P : Bool → Nat → Prop} (h : We K Z te ds n fun d m => ∃ c, d = .bl c ∧ P c m) : Wt K Z (tB te) ds n P := fun b u σ Q e S k =>
  h b u σ _ e S fun v d u1 g1 s1 d1 ⟨c, q, p⟩ => by
    subst q
    cases den_bl d1
    exact ⟨c, rfl, k c u1 g1 s1 p⟩
theorem wt_yes {P : Bool → Nat → Prop} (p : P true n) : Wt K Z tYes ds n P := fun b u σ Q e S k => k true u (.refl S.ex) S.st (e ▸ p)
variable {tt tu : TT}
theorem wt_and {P : Bool → Nat → Prop} (h : Wt K Z tt ds n fun c m => if c = true then Wt K Z tu ds m P else P false m) : Wt K Z (tAnd tt tu) ds n P := fun b u σ Q e S k =>
  h b u σ _ e S fun c u1 g1 s1 q => by
    cases c with
    | true => exact q b u1 σ Q rfl (S.go g1 s1) fun c u2 g2 s2 p => k c u2 (g1.trans g2) s2 p
    | false => exact k false u1 g1 s1 q
theorem wt_or {P : Bool → Nat → Prop} (h : Wt K Z tt ds n fun c m => if c = true then P true m else Wt K Z tu ds m P) : Wt K Z (tOr tt tu) ds n P := fun b u σ Q e S k =>
  h b u σ _ e S fun c u1 g1 s1 q => by
    cases c with
    | true => exact k true u1 g1 s1 q
    | false => exact q b u1 σ Q rfl (S.go g1 s1) fun c u2 g2 s2 p => k c u2 (g1.trans g2) s2 p
theorem wt_not {P : Bool → Nat → Prop} (h : Wt K Z tt ds n fun c m => P (!c) m) : Wt K Z (tNot tt) ds n P := fun b u σ Q e S k =>
  h b u σ _ e S fun c u1 g1 s1 q => k (!c) u1 g1 s1 q
theorem we_andV (h : We K Z ta ds n fun d m => ∃ c, d = .bl c ∧ if c = true then We K Z tb ds m P else P (.bl false) m) : We K Z (tAndV ta tb) ds n P := fun b u σ Q e S k =>
  h b u σ _ e S fun v d u1 g1 s1 d1 ⟨c, z, q⟩ => by
    subst z
    cases den_bl d1
    refine ⟨c, rfl, ?_⟩
    cases c with
    | true => exact q b u1 σ Q rfl (S.go g1 s1) fun v d u2 g2 s2 r p => k v d u2 (g1.trans g2) s2 r p
    | false => exact k _ _ u1 g1 s1 (.bl false) q
theorem we_orV (h : We K Z ta ds n fun d m => ∃ c, d = .bl c ∧ if c = true then P (.bl true) m else We K Z tb ds m P) : We K Z (tOrV ta tb) ds n P := fun b u σ Q e S k =>
  h b u σ _ e S fun v d u1 g1 s1 d1 ⟨c, z, q⟩ => by
    subst z
    cases den_bl d1
    refine ⟨c, rfl, ?_⟩
    cases c with
    | true => exact k _ _ u1 g1 s1 (.bl true) q
    | false => exact q b u1 σ Q rfl (S.go g1 s1) fun v d u2 g2 s2 r p => k v d u2 (g1.trans g2) s2 r p
theorem we_notV (h : We K Z ta ds n fun d m => ∃ c, d = .bl c ∧ P (.bl (!c)) m) : We K Z (tNotV ta) ds n P := fun b u σ Q e S k =>
  h b u σ _ e S fun v d u1 g1 s1 d1 ⟨c, z, q⟩ => by
    subst z
    cases den_bl d1
    exact ⟨c, rfl, k _ _ u1 g1 s1 (.bl (!c)) q⟩
theorem we_if (h : Wt K Z tt ds n fun c m => if c = true then We K Z ta ds m P else We K Z tb ds m P) : We K Z (tIf tt ta tb) ds n P := fun b u σ Q e S k =>
  h b u σ _ e S fun c u1 g1 s1 q => by
    cases c with
    | true => exact q b u1 σ Q rfl (S.go g1 s1) fun v d u2 g2 s2 r p => k v d u2 (g1.trans g2) s2 r p
    | false => exact q b u1 σ Q rfl (S.go g1 s1) fun v d u2 g2 s2 r p => k v d u2 (g1.trans g2) s2 r p
theorem wo_none {P : Option Int → Nat → Prop} (p : P none n) : Wo K Z tNoPart ds n P := fun b u σ Q e S k => k _ u (.refl S.ex) S.st (e ▸ p)
theorem wo_some {P : Option Int → Nat → Prop} (h : We K Z te ds n fun d m => ∃ i, d = .int i ∧ P (some i) m) : Wo K Z (tPart te) ds n P := fun b u σ Q e S k =>
  h b u σ _ e S fun v d u1 g1 s1 d1 ⟨i, z, q⟩ => by
    subst z
    cases den_int d1
    exact ⟨i, rfl, k _ u1 g1 s1 q⟩
def Sl (K : PySem.W.Frag) [Tb K] (r : V → Option Int → Option Int → Hp → VK → Prop) (x : D) (lo hi : Option Int) (P : D → Prop) : Prop :=
  ∀ (u : Wd) (v : V) (Q : VK), Ex u.H0 u.H1 → Den K u v x → (∀ z d u', Gp K u u' → Den K u' z d → P d → Q z u'.H1) → r v lo hi u.H1 Q
theorem we_sl {r : V → Option Int → Option Int → Hp → VK → Prop} {tl th : TO} (h : We K Z te ds n fun x m => Wo K Z tl ds m fun lo k => Wo K Z th ds k fun hi j => Sl K r x lo hi fun z => P z j) : We K Z (tSl r te tl th) ds n P := fun b u σ Q e S k =>
  h b u σ _ e S fun v x u1 g1 s1 d1 h1 => h1 b u1 σ _ rfl (S.go g1 s1) fun lo u2 g2 s2 h2 => h2 b u2 σ _ rfl ((S.go g1 s1).go g2 s2) fun hi u3 g3 s3 h3 =>
    h3 u3 v Q g3.c (d1.mono (g2.ls.trans g3.ls)) fun z d u4 g4 r p => k z d u4 (((g1.trans g2).trans g3).trans g4.g) (g4.st s3) r (g4.n ▸ p)
theorem we_fld {f : Str} (h : We K Z te ds n fun x m => ∃ C fs d, x = .obj C fs ∧ Cls K C ∧ NoAttr K C f ∧ fs.lookup f = some d ∧ P d m) : We K Z (tFld K te f) ds n P := fun b u σ Q e S k =>
  h b u σ _ e S fun v x u1 g1 s1 d1 ⟨C, fs, d, z, hc, hn, hl, p⟩ => by
    subst z
    obtain ⟨a, dx, fv, rfl, ha, hf⟩ := den_obj d1
    obtain ⟨w, h1, h2⟩ := hf.look hl
    exact ⟨_, _, _, _, w, rfl, g1.c _ _ ha, hc, hn, h1, k w d u1 g1 s1 h2 p⟩
theorem we_chain {r r' : R2} (h : We K Z ta ds n fun x m => We K Z tb ds m fun y k => Op K r x y fun z => ∃ c, z = .bl c ∧ if c = true then We K Z tc ds k fun w j => Op K r' y w fun z => P z j else P (.bl false) k) : We K Z (tChain r r' ta tb tc) ds n P := fun b u σ Q e S k =>
  h b u σ _ e S fun v x u1 g1 s1 d1 h1 => h1 b u1 σ _ rfl (S.go g1 s1) fun w y u2 g2 s2 d2 h2 => h2 u2 v w _ g2.c s2 (d1.mono g2.ls) d2 fun t z u3 g3 d3 ⟨c, q, p⟩ => by
    subst q
    cases den_bl d3
    refine ⟨c, rfl, ?_⟩
    cases c with
    | false => exact k _ _ u3 ((g1.trans g2).trans g3.g) (g3.st s2) (.bl false) (g3.n ▸ p)
    | true => exact p b u3 σ _ g3.n (((S.go g1 s1).go g2 s2).go g3.g (g3.st s2)) fun w' y' u4 g4 s4 d4 h4 => h4 u4 w w' Q g4.c s4 ((d2.mono g3.g.ls).mono g4.ls) d4 fun t d u5 g5 d5 p => k t d u5 ((((g1.trans g2).trans g3.g).trans g4).trans g5.g) (g5.st s4) d5 (g5.n ▸ p)
/-! ### statements -/
variable {ts t1 t2 : TS} {g : TG} {De : Ends}
theorem ws_next (p : N.nx ds n) : Ws K Z tNext ds n N := fun b u σ De e S O => O.nx _ u σ .refl S (e ▸ p)
theorem ws_seq (h : Ws K Z t1 ds n { N with nx := fun ds' m => Ws K Z t2 ds' m N }) : Ws K Z (tSeq t1 t2) ds n N := fun b u σ De e S O =>
  h b u σ _ e S ⟨fun ds' u' σ' x S' q => q b u' σ' De rfl S' (O.mono x), O.rt, O.bk, O.ct⟩
theorem ws_cont (p : N.ct ds n) : Ws K Z tCont ds n N := fun b u σ De e S O => O.ct _ u σ .refl S (e ▸ p)
theorem ws_drop (h : We K Z te ds n fun _ m => N.nx ds m) : Ws K Z (tDrop te) ds n N := fun b u σ De e S O =>
  h b u σ _ e S fun v d u1 g1 s1 r p => O.nx _ u1 _ g1.ls (S.go g1 s1) p
theorem ws_ret (h : We K Z te ds n N.rt) : Ws K Z (tRet te) ds n N := fun b u σ De e S O =>
  h b u σ _ e S fun v d u1 g1 s1 r p => O.rt d v u1 (S.gr.trans g1) s1 r p
theorem ws_if (h : Wt K Z tt ds n fun c m => if c = true then Ws K Z t1 ds m N else Ws K Z t2 ds m N) : Ws K Z (tIfS tt t1 t2) ds n N := fun b u σ De e S O =>
  h b u σ _ e S fun c u1 g1 s1 q => by
    cases c with
    | true => exact q b u1 σ De rfl (S.go g1 s1) (O.mono g1.ls)
    | false => exact q b u1 σ De rfl (S.go g1 s1) (O.mono g1.ls)
theorem ws_asg (h : We K Z te ds n fun d m => Wg K Z g d ds fun ds' => N.nx ds' m) : Ws K Z (tAsg te g) ds n N := fun b u σ De e S O =>
  h b u σ _ e S fun v d u1 g1 s1 r p => p b u1 σ v _ (S.go g1 s1) r fun ds' σ' S' q => O.nx _ u1 _ g1.ls S' q
theorem wg_name {i : Nat} {x : D} {P : DS → Prop} (p : P (ds.set i (some x))) : Wg K Z (gName i) x ds P := fun b u σ v Q S r k => k _ _ (S.set r) p
theorem wgs_nil {P : DS → Prop} {xs : List D} (e : xs = []) (p : P ds) : Wgs K Z gNil xs ds P := fun b u σ v Q S r k => by
  subst e
  cases r
  exact ⟨rfl, k _ _ S p⟩
theorem wgs_cons {P : DS → Prop} {x : D} {xs ys : List D} {gs : TGs} (e : ys = x :: xs) (h : Wg K Z g x ds fun ds' => Wgs K Z gs xs ds' P) : Wgs K Z (gCons g gs) ys ds P := fun b u σ v Q S r k => by
  subst e
  cases r with
  | cons r1 r2 =>
    rename_i v vs
    exact ⟨v, vs, rfl, h b u σ v _ S r1 fun ds' σ' S' q => q b u σ' vs _ S' r2 k⟩
theorem wg_tup {P : DS → Prop} {j : Nat} {x : D} {xs : List D} {gs : TGs} (e : x = .tup xs) (hn : xs.length = j) (h : Wgs K Z gs xs ds P) : Wg K Z (gTup K j gs) x ds P := fun b u σ v Q S r k => by
  subst e
  obtain ⟨a, vs, rfl, q, r2⟩ := den_tup r
  exact ⟨_, _, rfl, Evl.ex_t S.ex q, r2.len.trans hn, h b u σ _ Q S r2 k⟩
/-- a slot forgotten -/
theorem Sd.drop {i : Nat} {y : Option V} (S : Sd K Z b u σ ds) : Sd K Z b u (σ.set i y) (ds.set i none) := by
  refine ⟨S.gr, S.xk, S.st, by simp [S.len], fun j e q => ?_, fun j k e f a b h1 h2 m1 m2 ne q1 q2 => ?_⟩
  · by_cases q' : i = j
    · subst q'
      rw [get_set] at q
      by_cases hl : i < ds.length <;> simp [hl] at q
    · rw [get_set, if_neg q'] at q
      obtain ⟨w, h1, h2⟩ := S.sl j e q
      exact ⟨w, by rw [get_set, if_neg q']; exact h1, h2⟩
  · have k1 : i ≠ j := fun z => by
      subst z
      rw [get_set] at h1
      by_cases hl : i < ds.length <;> simp [hl] at h1
    have k2 : i ≠ k := fun z => by
      subst z
      rw [get_set] at h2
      by_cases hl : i < ds.length <;> simp [hl] at h2
    rw [get_set, if_neg k1] at h1 q1
    rw [get_set, if_neg k2] at h2 q2
    exact S.ap j k e f a b h1 h2 m1 m2 ne q1 q2
/-- what a slot is making changes -/
theorem Sd.change {i : Nat} {a : Addr} {o : HO} {d d' : D} (S : Sd K Z b u σ ds) (hd : ds[i]? = some (some d)) (m : isMut d = true) (hs : σ[i]? = some (some (.ref a))) (m' : isMut d' = true) (hb : b.H1 a = none) (h0 : u.H0 a = none) (hS : ¬ u.S a)
    (hx' : ∀ x, u.H1 a ≠ some (.own x)) (new : DenS K b ⟨u.S, u.T, u.n, u.H0, upd u.H1 a o⟩ (.ref a) d') : Sd K Z b ⟨u.S, u.T, u.n, u.H0, upd u.H1 a o⟩ σ (ds.set i (some d')) := by
  have l1 : Le u ⟨u.S, u.T, u.n, u.H0, upd u.H1 a o⟩ := ⟨fun _ h => h, fun _ _ => rfl, .refl _⟩
  refine ⟨S.gr.write hb h0, S.xk, S.st.write hS, by simp [S.len], fun j e q => ?_, fun j k e f b c h1 h2 m1 m2 ne q1 q2 => ?_⟩
  · by_cases q' : i = j
    · subst q'
      have hl : i < ds.length := (List.getElem?_eq_some_iff.mp hd).1
      rw [get_set] at q
      simp [hl] at q
      subst q
      exact ⟨.ref a, hs, new⟩
    · rw [get_set, if_neg q'] at q
      obtain ⟨w, h1, h2⟩ := S.sl j e q
      refine ⟨w, h1, ?_⟩
      cases h2 with
      | den h => exact .den (h.mono l1)
      | mls b0 b1 b5 b2 b3 =>
        have z := S.ap i j _ _ _ _ hd q m rfl q' hs h1
        exact .mls b0 b1 b5 ((upd_ne z.symm).trans b2) (b3.mono l1)
      | mob b0 b1 b5 b2 b4 b6 b3 =>
        have z := S.ap i j _ _ _ _ hd q m rfl q' hs h1
        exact .mob b0 b1 b5 ((upd_ne z.symm).trans b2) ((upd_ne (fun z : _ = a => by rw [z] at b4; exact hx' _ b4)).trans b4) b6 (b3.mono l1)
      | mdk b0 b1 b5 b2 b3 =>
        have z := S.ap i j _ _ _ _ hd q m rfl q' hs h1
        exact .mdk b0 b1 b5 ((upd_ne z.symm).trans b2) (b3.mono l1)
  · have hl : i < ds.length := (List.getElem?_eq_some_iff.mp hd).1
    have at_ : ∀ (j : Nat) (e : D), (ds.set i (some d'))[j]? = some (some e) → isMut e = true → ∃ e', ds[j]? = some (some e') ∧ isMut e' = true := fun j e h m1 => by
      by_cases q : i = j
      · subst q; exact ⟨d, hd, m⟩
      · rw [get_set, if_neg q] at h; exact ⟨e, h, m1⟩
    obtain ⟨e', h1', m1'⟩ := at_ j e h1 m1
    obtain ⟨f', h2', m2'⟩ := at_ k f h2 m2
    exact S.ap j k e' f' b c h1' h2' m1' m2' ne q1 q2
/-- xs.append(e) -/
theorem ws_append {i : Nat} {xs : List D} (hd : ds[i]? = some (some (.mls xs))) (hz : xs.length < 1000000) (h : We K Z te ds n fun d m => N.nx (ds.set i (some (.mls (xs ++ [d])))) m) : Ws K Z (tDrop (tBM K "list" rAppend (tVar i) (tCons te tNil))) ds n N := fun b u σ De e S O => by
  obtain ⟨v, hv, hS⟩ := S.sl i _ hd
  cases hS with
  | den h => cases h
  | mls b0 b1 b5 b2 b3 =>
    rename_i a vs
    refine ⟨.ref a, hv, ⟨Or.inl ⟨rfl, vs, SqL.of b2⟩, h b u σ _ e S fun w d u1 g1 s1 r p => ?_⟩⟩
    have S' := S.go g1 s1
    obtain ⟨v', hv', hS'⟩ := S'.sl i _ hd
    rw [hv] at hv'
    cases hv'
    cases hS' with
    | den h => cases h
    | mls c0 c1 c5 c2 c3 =>
      have z : vs = _ := HO.lst.inj (Option.some.inj ((g1.b _ _ b5 b2).symm.trans c2))
      subst z
      have l1 : Le u1 ⟨u1.S, u1.T, u1.n, u1.H0, upd u1.H1 a (.lst (vs ++ [w]))⟩ := ⟨fun _ h => h, fun _ _ => rfl, .refl _⟩
      exact ⟨a, vs, w, rfl, rfl, c2, by rw [c3.len]; exact Nat.lt_of_lt_of_le hz (by decide), O.nx _ ⟨u1.S, u1.T, u1.n, u1.H0, _⟩ _ ⟨g1.sub, g1.kd, g1.a⟩ (S'.change hd rfl hv rfl c0 c1 c5 (fun _ z => by rw [c2] at z; cases z) (.mls c0 c1 c5 upd_same ((c3.app (.cons r .nil)).mono l1))) p⟩
/-- what a slot is making is done -/
theorem Sd.settle {i : Nat} {xs : List D} (S : Sd K Z b u σ ds) (hd : ds[i]? = some (some (.mls xs))) : ∃ u', Le u u' ∧ u'.n = u.n ∧ u'.H1 = u.H1 ∧ Sd K Z b u' σ (ds.set i (some (.lst xs))) := by
  obtain ⟨v, hv, hS⟩ := S.sl i _ hd
  cases hS with
  | den h => cases h
  | mls b0 b1 b5 b2 b3 =>
    rename_i a vs
    have l1 : Le u ⟨u.S, u.T, u.n, upd u.H0 a (.lst vs), u.H1⟩ := ⟨fun _ h => h, fun _ _ => rfl, ex_new b1⟩
    refine ⟨⟨u.S, u.T, u.n, upd u.H0 a (.lst vs), u.H1⟩, l1, rfl, rfl, S.gr.settle b0 b1 b2, S.xk, S.st.settle b1 b5, by simp [S.len], fun j e q => ?_, fun j k e f b c h1 h2 m1 m2 ne q1 q2 => ?_⟩
    · by_cases q' : i = j
      · subst q'
        have hl : i < ds.length := (List.getElem?_eq_some_iff.mp hd).1
        rw [get_set] at q
        simp [hl] at q
        subst q
        exact ⟨.ref a, hv, .den (.lst (SqL.of upd_same) (b3.mono l1))⟩
      · rw [get_set, if_neg q'] at q
        obtain ⟨w, h1, h2⟩ := S.sl j e q
        refine ⟨w, h1, ?_⟩
        cases h2 with
        | den h => exact .den (h.mono l1)
        | mls c0 c1 c5 c2 c3 => exact .mls c0 ((upd_ne (S.ap i j _ _ _ _ hd q rfl rfl q' hv h1).symm).trans c1) c5 c2 (c3.mono l1)
        | mob c0 c1 c5 c2 c4 c6 c3 => exact .mob c0 ((upd_ne (S.ap i j _ _ _ _ hd q rfl rfl q' hv h1).symm).trans c1) c5 c2 c4 c6 (c3.mono l1)
        | mdk c0 c1 c5 c2 c3 => exact .mdk c0 ((upd_ne (S.ap i j _ _ _ _ hd q rfl rfl q' hv h1).symm).trans c1) c5 c2 (c3.mono l1)
    · have hl : i < ds.length := (List.getElem?_eq_some_iff.mp hd).1
      have ni : ∀ (j : Nat) (e : D), (ds.set i (some (D.lst xs)))[j]? = some (some e) → isMut e = true → ds[j]? = some (some e) := fun j e h m => by
        by_cases q : i = j
        · subst q
          rw [get_set] at h
          simp [hl] at h
          subst h
          cases m
        · rw [get_set, if_neg q] at h; exact h
      exact S.ap j k e f b c (ni _ _ h1 m1) (ni _ _ h2 m2) m1 m2 ne q1 q2
theorem ws_settle {i : Nat} {xs : List D} (hd : ds[i]? = some (some (.mls xs))) (h : Ws K Z ts (ds.set i (some (.lst xs))) n N) : Ws K Z ts ds n N := fun b u σ De e S O => by
  obtain ⟨u', x, en, eh, S'⟩ := S.settle hd
  have := h b u' σ De (en.trans e) S' (O.mono x)
  rw [eh] at this
  exact this
end
end DL

namespace DL
open PySem L2 StX
open PyProof.Rows (envOfC)
section
variable {K : PySem.W.Frag} [Tb K] {Z : ZX} {b u u' u'' : Wd} {σ : L2.St} {ds : DS} {n : Nat} {P : D → Nat → Prop} {te ta tb tc : TE} {tt tu : TT} {N : Nd} {ts t1 t2 : TS} {g : TG} {De : Ends} {Pl : List D → Nat → Prop}
theorem ws_while (Iv : Nat → DS → Nat → Prop) (h0 : ∃ m, Iv m ds n) (hs : ∀ m ds' n', Iv m ds' n' → Wt K Z tt ds' n' fun c k => if c = true then Ws K Z ts ds' k { nx := fun d j => ∃ m', m' < m ∧ Iv m' d j, rt := N.rt, bk := N.nx, ct := fun d j => ∃ m', m' < m ∧ Iv m' d j } else N.nx ds' k) :
    Ws K Z (tWhile tt ts) ds n N := fun b u σ De e S O => by
  obtain ⟨m0, h0⟩ := h0
  refine ⟨fun m σ' H' => ∃ w ds', w.H1 = H' ∧ Le u w ∧ Sd K Z b w σ' ds' ∧ Iv m ds' w.n, ⟨m0, u, ds, rfl, .refl, S, e ▸ h0⟩, ?_⟩
  rintro m σ' H' ⟨w, ds', rfl, l, S', iv⟩
  refine hs m ds' w.n iv b w σ' _ rfl S' fun c u1 g1 s1 q => ?_
  cases c with
  | false => exact O.nx _ u1 _ (l.trans g1.ls) (S'.go g1 s1) q
  | true =>
    refine ⟨fun σ2 H2 => ∃ m', m' < m ∧ ∃ w ds', w.H1 = H2 ∧ Le u w ∧ Sd K Z b w σ2 ds' ∧ Iv m' ds' w.n, fun σ2 H2 q => q, ?_⟩
    refine q b u1 σ' _ rfl (S'.go g1 s1) ⟨?_, O.rt, ?_, ?_⟩
    · rintro ds3 u3 σ3 x S3 ⟨m', hm, q3⟩
      exact ⟨m', hm, u3, ds3, rfl, (l.trans g1.ls).trans x, S3, q3⟩
    · exact fun ds3 u3 σ3 x S3 q3 => O.nx _ u3 _ ((l.trans g1.ls).trans x) S3 q3
    · rintro ds3 u3 σ3 x S3 ⟨m', hm, q3⟩
      exact ⟨m', hm, u3, ds3, rfl, (l.trans g1.ls).trans x, S3, q3⟩
/-! ### what is walked gives the data xs -/
def Wi (K : PySem.W.Frag) [Tb K] (Z : ZX) (wi : TI) (ds : DS) (n : Nat) (P : List D → Nat → Prop) : Prop :=
  ∀ (b u : Wd) (σ : St) (R : It → Hp → Prop), u.n = n → Sd K Z b u σ ds → (∀ J xs u' G Y, Gs u u' → StOk K u' → P xs u'.n → Walk J xs.length G Y → (∀ w, Le u' w → Ex w.H0 w.H1 → G w.H1) →
    (∀ w i v A, Le u' w → Ex w.H0 w.H1 → StOk K w → i < xs.length → Y i w.H1 v A → ∃ x w', w'.H1 = A ∧ xs[i]? = some x ∧ Gp K w w' ∧ Den K w' v x) → R J u'.H1) → wi σ u.H1 R
theorem ws_for {wi : TI} {g : TG} {tb : TS} (h : Wi K Z wi ds n fun xs m => ∃ Iv : Nat → DS → Nat → Prop, Iv 0 ds m ∧
    (∀ i x ds' k, xs[i]? = some x → Iv i ds' k → Wg K Z g x ds' fun ds2 => Ws K Z tb ds2 k { nx := Iv (i + 1), rt := N.rt, bk := N.nx, ct := Iv (i + 1) }) ∧ (∀ ds' k, Iv xs.length ds' k → N.nx ds' k)) : Ws K Z (tFor wi g tb) ds n N := fun b u σ De e S O =>
  h b u σ _ e S fun J xs u1 G Y g1 s1 ⟨Iv, i0, is, idn⟩ w hG hY => by
    refine for_it w (fun i σ' H' => ∃ w ds', w.H1 = H' ∧ Le u1 w ∧ Sd K Z b w σ' ds' ∧ Iv i ds' w.n) ⟨u1, ds, rfl, .refl, S.go g1 s1, i0⟩ (fun i σ' H' _ ⟨w, ds', eh, l, S', _⟩ => eh ▸ hG w l S'.ex) ?_ ?_
    · rintro i v σ' H' H'' hi ⟨w, ds', rfl, l, S', iv⟩ y
      obtain ⟨x, w', rfl, hx, g2, r⟩ := hY w i v H'' l S'.ex S'.st hi y
      have q := is i x ds' w.n hx iv
      rw [← g2.n] at q
      refine q b w' σ' v _ (S'.go g2.g (g2.st S'.st)) r fun ds2 σ2 S2 q => q b w' σ2 _ rfl S2 ⟨fun ds3 u3 σ3 x S3 q3 => ⟨u3, ds3, rfl, (l.trans g2.g.ls).trans x, S3, q3⟩, O.rt, fun ds3 u3 σ3 x S3 q3 => O.nx _ u3 _ (g1.ls.trans ((l.trans g2.g.ls).trans x)) S3 q3, fun ds3 u3 σ3 x S3 q3 => ⟨u3, ds3, rfl, (l.trans g2.g.ls).trans x, S3, q3⟩⟩
    · rintro σ' H' ⟨w, ds', rfl, l, S', iv⟩
      exact O.nx _ w _ (g1.ls.trans l) S' (idn ds' _ iv)
theorem wi_list (h : We K Z te ds n fun d m => ∃ xs, d = .lst xs ∧ Pl xs m) : Wi K Z (iList K te) ds n Pl := fun b u σ R e S k =>
  h b u σ _ e S fun v d u1 g1 s1 r ⟨xs, z, p⟩ => by
    subst z
    obtain ⟨a, vs, rfl, q, r⟩ := den_lst r
    refine ⟨a, rfl, ⟨vs, Evl.ex_l g1.c q⟩, k _ xs u1 _ _ g1 s1 p (r.len ▸ walk_list (K := K) (a := a) (xs := vs)) (fun w l e => Evl.ex_l e (Evl.ex_l l.h q)) fun w i v A l e1 _ hi y => ?_⟩
    obtain ⟨rfl, y⟩ := y
    obtain ⟨z, hz, hd⟩ := r.get y
    exact ⟨z, w, rfl, hz, .refl e1, hd.mono l⟩
theorem wi_tup (h : We K Z te ds n fun d m => ∃ xs, d = .tup xs ∧ Pl xs m) : Wi K Z (iTup K te) ds n Pl := fun b u σ R e S k =>
  h b u σ _ e S fun v d u1 g1 s1 r ⟨xs, z, p⟩ => by
    subst z
    obtain ⟨a, vs, rfl, q, r⟩ := den_tup r
    refine ⟨a, rfl, ⟨vs, Evl.ex_t g1.c q⟩, k _ xs u1 _ _ g1 s1 p (r.len ▸ walk_tup (K := K) (a := a) (xs := vs)) (fun w l e => Evl.ex_t e (Evl.ex_t l.h q)) fun w i v A l e1 _ hi y => ?_⟩
    obtain ⟨rfl, y⟩ := y
    obtain ⟨z, hz, hd⟩ := r.get y
    exact ⟨z, w, rfl, hz, .refl e1, hd.mono l⟩
def rng (lo : Int) (n : Nat) : List D := (List.range n).map fun (i : Nat) => D.int (lo + (i : Int))
theorem rng_len (lo : Int) (n : Nat) : (rng lo n).length = n := by simp [rng]
theorem rng_get {lo : Int} {n i : Nat} (h : i < n) : (rng lo n)[i]? = some (.int (lo + i)) := by simp [rng, h]
theorem wi_rng {lo : Int} {n : Nat} {R : It → Hp → Prop} (g : Gs u u') (s : StOk K u') (p : Pl (rng lo n) u'.n) (k : ∀ J xs u' G Y, Gs u u' → StOk K u' → Pl xs u'.n → Walk J xs.length G Y → (∀ w, Le u' w → Ex w.H0 w.H1 → G w.H1) →
    (∀ w i v A, Le u' w → Ex w.H0 w.H1 → StOk K w → i < xs.length → Y i w.H1 v A → ∃ x w', w'.H1 = A ∧ xs[i]? = some x ∧ Gp K w w' ∧ Den K w' v x) → R J u'.H1) : R (Itr lo n) u'.H1 := by
  refine k _ (rng lo n) u' _ _ g s p (by rw [rng_len]; exact walk_range (lo := lo) (n := n)) (fun _ _ _ => trivial) fun w i v A l e1 _ hi y => ?_
  obtain ⟨rfl, rfl⟩ := y
  exact ⟨.int (lo + i), w, rfl, rng_get (by simpa [rng_len] using hi), .refl e1, .int _⟩
theorem wi_range1 {t : TA} (h : Wa K Z t ds n fun xs m => ∃ j : Int, xs = [.int j] ∧ (-(2 ^ 62) ≤ j ∧ j < 2 ^ 62) ∧ Pl (rng 0 j.toNat) m) : Wi K Z (iRng1 t) ds n Pl := fun b u σ R e S k =>
  h b u σ _ e S fun vs d u1 g1 s1 r ⟨j, z, ⟨b1, b2⟩, p⟩ => by
    subst z
    obtain ⟨v, rfl, r1⟩ := dens1 r
    cases den_int r1
    exact ⟨j, rfl, b1, b2, wi_rng g1 s1 p k⟩
def signs (z : Str) : List D := z.cps.toList.map fun c => D.str ⟨#[c]⟩
theorem signs_len (z : Str) : (signs z).length = z.cps.size := by simp [signs]
theorem wi_str (h : We K Z te ds n fun d m => ∃ z, d = .str z ∧ Pl (signs z) m) : Wi K Z (iStr te) ds n Pl := fun b u σ R e S k =>
  h b u σ _ e S fun v d u1 g1 s1 r ⟨z, hz, p⟩ => by
    subst hz
    cases den_str r
    refine ⟨z, rfl, k _ (signs z) u1 _ _ g1 s1 p ((signs_len z).symm ▸ walk_str (z := z)) (fun _ _ _ => trivial) fun w i v A l e1 _ hi y => ?_⟩
    obtain ⟨rfl, c, hc, rfl⟩ := y
    exact ⟨.str ⟨#[c]⟩, w, rfl, by simp [signs, hc], .refl e1, .str _⟩
def enumD (xs : List D) : List D := (List.range xs.length).zipWith (fun (i : Nat) x => D.tup [.int (i : Int), x]) xs
theorem enumD_len (xs : List D) : (enumD xs).length = xs.length := by simp [enumD]
theorem enumD_get {xs : List D} {i : Nat} {x : D} (h : xs[i]? = some x) : (enumD xs)[i]? = some (.tup [.int (i : Nat), x]) := by
  have hl := (List.getElem?_eq_some_iff.mp h).1
  simp only [enumD, List.getElem?_zipWith, h, List.getElem?_range hl]
/-- a new pair -/
theorem gp_pair {w : Wd} {T : Addr} {x y : V} {d e : D} (e1 : Ex w.H0 w.H1) (hT : w.H1 T = none) (hx : Den K w x d) (hy : Den K w y e) : Gp K w (w.put T (.tup [x, y])) ∧ Den K (w.put T (.tup [x, y])) (.ref T) (.tup [d, e]) :=
  ⟨.put e1 hT, .tup (SqT.of upd_same) (.cons (hx.mono (Gs.put e1 hT).ls) (.cons (hy.mono (Gs.put e1 hT).ls) .nil))⟩
theorem wi_enum {t : TA} (h : Wa K Z t ds n fun ys m => ∃ xs, ys = [.lst xs] ∧ Pl (enumD xs) m) : Wi K Z (iEnum K t) ds n Pl := fun b u σ R e S k =>
  h b u σ _ e S fun vs d u1 g1 s1 r ⟨xs, z, p⟩ => by
    subst z
    obtain ⟨v, rfl, r1⟩ := dens1 r
    clear r
    obtain ⟨a, ws, rfl, q, r⟩ := den_lst r1
    refine ⟨a, ws, rfl, Evl.ex_l g1.c q, k _ (enumD xs) u1 _ _ g1 s1 p (by rw [enumD_len, ← r.len]; exact walk_enum (K := K) (a := a) (xs := ws)) (fun w l e => Evl.ex_l e (Evl.ex_l l.h q)) fun w i v A l e1 _ hi y => ?_⟩
    obtain ⟨T, x, y, rfl, hT, rfl, hx, hy⟩ := y
    cases hx
    obtain ⟨z, hz, hd⟩ := r.get hy
    obtain ⟨g2, d2⟩ := gp_pair e1 hT (.int (i : Nat)) (hd.mono l)
    exact ⟨_, _, rfl, enumD_get hz, g2, d2⟩
def zipD (xs ys : List D) : List D := xs.zipWith (fun x y => D.tup [x, y]) ys
/-! ### comprehensions -/
def wipeD (ds : DS) : List Nat → DS
  | [] => ds
  | v :: vs => (wipeD ds vs).set v none
theorem Sd.wipe (S : Sd K Z b u σ ds) : ∀ vs : List Nat, Sd K Z b u (L2.wipe σ vs) (wipeD ds vs)
  | [] => S
  | v :: vs => (Sd.wipe S vs).drop
theorem wipe_get (σ : St) (i : Nat) : ∀ vs : List Nat, (L2.wipe σ vs)[i]? = if i ∈ vs then (if i < σ.length then some none else none) else σ[i]?
  | [] => by simp [L2.wipe]
  | v :: vs => by
    show ((L2.wipe σ vs).set v none)[i]? = _
    rw [get_set, wipe_length, wipe_get σ i vs]
    by_cases h : v = i
    · subst h; simp
    · have h' : i ≠ v := fun z => h z.symm
      simp [h, h']
theorem wipe_of {σ σ' : St} {vs : List Nat} (hl : σ'.length = σ.length) (h : ∀ j, j ∉ vs → σ'[j]? = (L2.wipe σ vs)[j]?) : L2.wipe σ' vs = L2.wipe σ vs := by
  apply List.ext_getElem?
  intro i
  rw [wipe_get]
  by_cases q : i ∈ vs
  · rw [if_pos q, wipe_get, if_pos q, hl]
  · rw [if_neg q, h i q]
def Wgc (K : PySem.W.Frag) [Tb K] (Z : ZX) (g : TG) (js : List Nat) (x : D) (ds : DS) (P : DS → Prop) : Prop :=
  ∀ (b u : Wd) (σ : St) (v : V) (Q : St → Hp → Prop), Sd K Z b u σ ds → Den K u v x → (∀ ds' σ', Sd K Z b u σ' ds' → σ'.length = σ.length → (∀ j, j ∉ js → σ'[j]? = σ[j]?) → P ds' → Q σ' u.H1) → g v σ u.H1 Q
def Wgsc (K : PySem.W.Frag) [Tb K] (Z : ZX) (g : TGs) (js : List Nat) (xs : List D) (ds : DS) (P : DS → Prop) : Prop :=
  ∀ (b u : Wd) (σ : St) (vs : List V) (Q : St → Hp → Prop), Sd K Z b u σ ds → Dens K u vs xs → (∀ ds' σ', Sd K Z b u σ' ds' → σ'.length = σ.length → (∀ j, j ∉ js → σ'[j]? = σ[j]?) → P ds' → Q σ' u.H1) → g vs σ u.H1 Q
theorem wgc_name {i : Nat} {js : List Nat} {x : D} {P : DS → Prop} (hi : i ∈ js) (p : P (ds.set i (some x))) : Wgc K Z (gName i) js x ds P := fun b u σ v Q S r k =>
  k _ _ (S.set r) (by simp) (fun j hj => by rw [get_set, if_neg (fun z : i = j => hj (by rw [← z]; exact hi))]) p
theorem we_lc {wi : TI} {vs : List Nat} (h : Wi K Z wi ds n fun xs m => ∃ Iv : Nat → List D → Nat → Prop, Iv 0 [] m ∧
    (∀ i x ys k, xs[i]? = some x → Iv i ys k → Wgc K Z g vs x (wipeD ds vs) fun ds2 => Wt K Z tt ds2 k fun c j => if c = true then We K Z te ds2 j (fun y l => ys.length < 1000000 ∧ Iv (i + 1) (ys ++ [y]) l) else Iv (i + 1) ys j) ∧
    (∀ ys k, Iv xs.length ys k → P (.lst ys) k)) : We K Z (tLc wi g tt te vs) ds n P := fun b u σ Q e S k =>
  h b u σ _ e S fun J xs u1 G Y g1 s1 ⟨Iv, i0, is, idn⟩ w hG hY => fun Dl hD => by
    have n0 : u1.H0 Dl = none := ex_none g1.c hD
    have nS : ¬ u1.S Dl := fun h => by
      obtain ⟨_, o, h1, _⟩ := s1 Dl h
      rw [hD] at h1; cases h1
    refine lc_it w (fun i H' => ∃ w ys acc, w.H1 = H' ∧ Gs u1 w ∧ StOk K w ∧ w.H0 Dl = none ∧ ¬ w.S Dl ∧ H' Dl = some (.lst acc) ∧ Dens K w acc ys ∧ Iv i ys w.n)
      ⟨⟨u1.S, u1.T, u1.n, u1.H0, upd u1.H1 Dl (.lst [])⟩, [], [], rfl, (Gs.refl g1.c).write hD n0, s1.write nS, n0, nS, upd_same, .nil, i0⟩ (fun i H' _ ⟨w, ys, acc, eh, g', _⟩ => eh ▸ hG w g'.ls g'.c) ?_ ?_
    · rintro i v H' H'' hi ⟨w, ys, acc, rfl, g', sw, c0, cS, hc, hr, iv⟩ y
      obtain ⟨x, w', rfl, hx, g2, r⟩ := hY w i v H'' g'.ls g'.c sw hi y
      have c1 := g2.g.nn c0 hc
      have cS1 := g2.g.ns cS hc
      have hc1 := g2.g.b _ _ cS hc
      have S1 := ((S.go g1 s1).go (g'.trans g2.g) (g2.st sw)).wipe vs
      have q := is i x ys w.n hx iv
      rw [← g2.n] at q
      refine q b w' (L2.wipe σ vs) v _ S1 r fun ds2 σ2 S2 l2 f2 q => ⟨wipe_of (l2.trans (wipe_length _ _)) f2, q b w' σ2 _ rfl S2 fun c u3 g3 s3 q3 => ?_⟩
      have c2 := g3.nn c1 hc1
      have cS2 := g3.ns cS1 hc1
      have hc2 := g3.b _ _ cS1 hc1
      cases c with
      | false => exact ⟨u3, ys, acc, rfl, (g'.trans g2.g).trans g3, s3, c2, cS2, hc2, hr.mono (g2.g.ls.trans g3.ls), q3⟩
      | true =>
        refine q3 b u3 σ2 _ rfl (S2.go g3 s3) fun y d u4 g4 s4 r4 ⟨hl, p4⟩ => ?_
        have c3 := g4.nn c2 hc2
        have cS3 := g4.ns cS2 hc2
        have hc3 := g4.b _ _ cS2 hc2
        have l4 : Le u4 ⟨u4.S, u4.T, u4.n, u4.H0, upd u4.H1 Dl (.lst (acc ++ [y]))⟩ := ⟨fun _ h => h, fun _ _ => rfl, .refl _⟩
        exact ⟨acc, hc3, by rw [hr.len]; exact Nat.lt_of_lt_of_le hl (by decide), ⟨u4.S, u4.T, u4.n, u4.H0, upd u4.H1 Dl (.lst (acc ++ [y]))⟩, ys ++ [d], acc ++ [y], rfl, (((g'.trans g2.g).trans g3).trans g4).write hD c3, s4.write cS3, c3, cS3, upd_same, ((hr.mono ((g2.g.ls.trans g3.ls).trans g4.ls)).app (.cons r4 .nil)).mono l4, p4⟩
    · rintro H' ⟨w, ys, acc, rfl, g', sw, c0, cS, hc, hr, iv⟩
      have l1 : Le w ⟨w.S, w.T, w.n, upd w.H0 Dl (.lst acc), w.H1⟩ := ⟨fun _ h => h, fun _ _ => rfl, ex_new c0⟩
      exact k _ _ ⟨w.S, w.T, w.n, upd w.H0 Dl (.lst acc), w.H1⟩ (g1.trans (g'.settle hD c0 hc)) (sw.settle c0 cS) (.lst (SqL.of upd_same) (hr.mono l1)) (idn ys _ iv)
end
/-! ### defs -/
abbrev Xp := Addr → List (Str × D) → Nat → Prop
abbrev Rl := List D → Nat → (D → Nat → Prop) → Xp → Prop
/-- a def that draws nothing and raises nothing -/
abbrev pr (R : List D → (D → Prop) → Prop) : Rl := fun ds n P _ => R ds fun d => P d n
/-- a def that draws nothing -/
abbrev px (R : List D → (D → Prop) → (Addr → List (Str × D) → Prop) → Prop) : Rl := fun ds n P X => R ds (fun d => P d n) fun C fs => X C fs n
def spD (K : PySem.W.Frag) [Tb K] (R : Rl) : Sp := fun vs H Q E => ∃ (u : Wd) (ds : List D) (P : D → Nat → Prop) (X : Xp), u.H1 = H ∧ Ex u.H0 u.H1 ∧ StOk K u ∧ Dens K u vs ds ∧ R ds u.n P X ∧ (∀ v d u', Gs u u' → StOk K u' → Den K u' v d → P d u'.n → Q v u'.H1) ∧ XOk K ⟨E, X⟩ u
abbrev noX : Xp := fun _ _ _ => False
theorem xok_no {K : PySem.W.Frag} [Tb K] {E : XK} {u : Wd} : XOk K ⟨E, noX⟩ u := fun _ _ _ _ _ _ _ _ z => z.elim
theorem XOk.at {K : PySem.W.Frag} [Tb K] {Z : ZX} {b u : Wd} (x : XOk K Z b) (g : Gs b u) : XOk K Z u := fun cls d C fs u' g' s e z => x cls d C fs u' (g.trans g') s e z
/-- of an __init__: the fields that the new object has -/
abbrev Ri := List D → Nat → (List (Str × D) → Prop) → Xp → Prop
def spI (K : PySem.W.Frag) [Tb K] (C : Addr) (R : Ri) : Sp := fun vs H Q E => ∃ (x dx : Addr) (ws : List V) (u : Wd) (ds : List D) (P : List (Str × D) → Prop) (X : Xp), vs = .ref x :: ws ∧ u.H1 x = none ∧ u.H1 dx = none ∧ dx ≠ x ∧ H = upd (upd u.H1 dx (.own x)) x (.ins C dx []) ∧ Ex u.H0 u.H1 ∧ StOk K u ∧ Dens K u ws ds ∧ R ds u.n P X ∧
  (∀ fs gs u', Gs u u' → StOk K u' → u'.n = u.n → u'.H0 x = none → ¬ u'.S x → u'.H1 x = some (.ins C dx fs) → u'.H1 dx = some (.own x) → DenF K u' fs gs → P gs → Q .non u'.H1) ∧ XOk K ⟨E, X⟩ u
section
variable {K : PySem.W.Frag} [Tb K] {Z : ZX} {b u u' u'' : Wd} {σ : L2.St} {ds : DS} {n : Nat} {P : D → Nat → Prop} {te ta tb tc : TE} {tt tu : TT} {N : Nd} {ts t1 t2 : TS} {g : TG} {De : Ends} {E : XK} {C : Addr} {R : Rl}
theorem we_call {t : TA} (h : Wa K Z t ds n fun xs m => R xs m P noX) : We K Z (tCall (spD K R) [] E t) ds n P := fun b u σ Q e S k =>
  h b u σ _ e S fun vs xs u1 g1 s1 r p => ⟨u1, xs, P, noX, rfl, g1.c, s1, by rw [List.append_nil]; exact r, p, fun v d u2 g2 s2 r' p' => k v d u2 (g1.trans g2) s2 r' p', xok_no⟩
theorem we_meth {m : Str} {t : TA} (h : We K Z ta ds n fun o j => ∃ fs, o = .obj C fs ∧ fs.lookup m = none ∧ Wa K Z t ds j fun xs k => R (o :: xs) k P noX) : We K Z (tMeth C m (spD K R) [] E ta t) ds n P := fun b u σ Q e S k =>
  h b u σ _ e S fun v o u1 g1 s1 r ⟨fs, z, hl, q⟩ => by
    subst z
    obtain ⟨a, dx, fv, rfl, ha, hf⟩ := den_obj r
    refine ⟨a, dx, fv, rfl, g1.c _ _ ha, hf.miss hl, q b u1 σ _ rfl (S.go g1 s1) fun vs xs u2 g2 s2 r2 p2 => ?_⟩
    exact ⟨u2, _ :: xs, P, noX, rfl, g2.c, s2, by rw [List.append_nil]; exact .cons (r.mono g2.ls) r2, p2, fun v d u3 g3 s3 r' p' => k v d u3 ((g1.trans g2).trans g3) s3 r' p', xok_no⟩
/-- self.f = e, in an __init__ -/
theorem ws_fld {i : Nat} {f : Str} {a dx : Addr} {fs : List (Str × D)} (hd : ds[i]? = some (some (.mob a dx C fs))) (hc : Cls K C) (hn : NoAttr K C f) (hz : fs.length < 1000) (h : We K Z te ds n fun d m => N.nx (ds.set i (some (.mob a dx C (putD f d fs)))) m) : Ws K Z (sFld K (tVar i) te f) ds n N := fun b u σ De e S O =>
  h b u σ _ e S fun w d u1 g1 s1 r p => by
    have S' := S.go g1 s1
    obtain ⟨v, hv, hS⟩ := S'.sl i _ hd
    cases hS with
    | den h => cases h
    | mob c0 c1 c5 c2 c4 c6 c3 =>
      rename_i fv
      have na : dx ≠ a := fun z => by rw [z, c2] at c4; cases c4
      have l1 : Le u1 ⟨u1.S, u1.T, u1.n, u1.H0, upd u1.H1 a (.ins C dx (putF f w fv))⟩ := ⟨fun _ h => h, fun _ _ => rfl, .refl _⟩
      exact ⟨.ref a, hv, a, C, dx, fv, rfl, c2, hc, hn, by rw [c3.len]; exact hz, O.nx _ ⟨u1.S, u1.T, u1.n, u1.H0, _⟩ _ ⟨g1.sub, g1.kd, g1.a⟩ (S'.change hd rfl hv rfl c0 c1 c5 (fun _ z => by rw [c2] at z; cases z) (.mob c0 c1 c5 upd_same ((upd_ne na).trans c4) c6 ((DenF.put r c3).mono l1))) p⟩
variable {Pr : Program} {w : World} {mg : Str → Option Value} {base : Heap}
theorem start_get {N : List Str} {vs : List V} (h : vs.length ≤ N.length) : (L2.start N vs).length = N.length := by simp [L2.start]; omega
def startD (n : Nat) (ds : List D) : DS := ds.map some ++ List.replicate (n - ds.length) none
theorem sd_start {N : List Str} {vs : List V} {xs : List D} (e : Ex u.H0 u.H1) (xk : XOk K Z u) (st : StOk K u) (r : Dens K u vs xs) (hl : vs.length ≤ N.length) : Sd K Z u u (L2.start N vs) (startD N.length xs) := by
  have get : ∀ (i : Nat) (d : D), (startD N.length xs)[i]? = some (some d) → xs[i]? = some d := fun i d h => by
    unfold startD at h
    rw [List.getElem?_append] at h
    by_cases q : i < (xs.map some).length
    · rw [if_pos q] at h
      simpa using h
    · rw [if_neg q, List.getElem?_replicate] at h
      split at h <;> cases h
  refine ⟨.refl e, xk, st, by rw [start_get hl]; simp [startD, r.len.symm]; omega, fun i d h => ?_, fun i j d e a b h1 h2 m1 m2 => ?_⟩
  · obtain ⟨v, hv, hd⟩ := r.getD (get i d h)
    refine ⟨v, ?_, .den hd⟩
    unfold L2.start
    rw [List.getElem?_append_left (by simpa using (List.getElem?_eq_some_iff.mp hv).1)]
    simp [hv]
  · obtain ⟨v, hv, hd⟩ := r.getD (get i d h1)
    rw [hd.notMut] at m1
    cases m1
/-- a def keeps its promise: its body, told by data -/
theorem dok {x qual : Str} {st : Stmt} {f : Addr} {fd : FuncData} {N ps : List Str} {k : Nat} (F : Fun K x qual st f fd) (S : FnScope N ps (defScope st)) (len : ∀ ds n P X, R ds n P X → ds.length = ps.length) (hNp : ps.length ≤ N.length)
    (hbody : ∀ (cdv : Value) (A : Around) (outer : List Env) (s : Shared) (H : Hp) (E : XK), Room k (A.deeper (envOfC qual (defScope st) s.heap.objs.size f cdv)) →
      ∃ t, PSs (cxOf CX0 Pr w K mg base N qual (defScope st) f cdv A outer s H E).nox (defBody st) t ∧ ∀ Z ds n P, R ds n P Z.X → Ws K Z t (startD N.length ds) n { nx := fun _ m => P .non m, rt := P }) : FnOk Pr w K mg base CX0 (k + 1) f fd ps (spD K R) := by
  refine F.ok S (fun vs H Q E ⟨u, ds, P, X, _, e, _, r, h, _⟩ => by rw [r.len]; exact len ds _ P X h) (fun cdv A outer s H vs Q E hr ⟨u, ds, P, X, eh, e, st, r, h, q, xk⟩ => ?_)
  obtain ⟨t, ht, hW⟩ := hbody cdv A outer s H E hr
  subst eh
  refine ⟨t, ht, hW ⟨E, X⟩ ds u.n P h u u _ _ rfl (sd_start e xk st r (by rw [r.len, len ds _ P X h]; exact hNp)) ⟨fun ds' v σ' _ S' p => q _ _ _ S'.gr S'.st .non p, fun d v v' g s r p => q v d v' g s r p, fun _ _ _ _ _ z => z.elim, fun _ _ _ _ _ z => z.elim⟩⟩
end
end DL

namespace L2
open PySem PySem.Spec PyProof.Rows
section
variable {X : Cx}
/-- list + list, whatever the lists are -/
def rCatL (K : PySem.W.Frag) : R2 := fun x y H Q => ∃ l b xs zs, x = .ref l ∧ y = .ref b ∧ SqL K H l xs ∧ SqL K H b zs ∧ xs.length + zs.length ≤ sizeLine ∧ ∀ p, H p = none → Q (.ref p) (upd H p (.lst (xs ++ zs)))
theorem op_catL : OpR X (binaryOp .Add) (rCatL X.K) := by
  intro pins s σ H x y v u Q I rx ry h
  obtain ⟨l, b, xs, zs, rfl, rfl, hH, hB, hz, q⟩ := h
  cases rx
  cases ry
  obtain ⟨its, r, pl, hl⟩ := I.list hH
  obtain ⟨its2, r2, pl2, hl2⟩ := I.list hB
  obtain ⟨⟨cls, dd, data, sl⟩, ho, hc, n, hd⟩ := pl.isList
  obtain ⟨⟨cls2, dd2, data2, sl2⟩, ho2, hc2, n2, hd2⟩ := pl2.isList
  simp only at hc hd hc2 hd2
  subst hc hd hc2 hd2
  have ea : its.toArray ++ its2.toArray = (its ++ its2).toArray := by simp
  have l1 := r.length
  have l2 := r2.length
  refine concat_meets ⟨_, ho, rfl⟩ ⟨_, ho2, rfl⟩ noFill_list_add seq_list_add PySem.F.slot_list_add PySem.F.entry_list_add (PySem.F.args_list_add_2 _ _) (list_addW l b its.toArray its2.toArray n n2 dd dd2 sl sl2 (by simp; omega)) ⟨ho, ho2, ?_⟩
  rw [ea]
  exact ⟨.ref _, _, I.lnew (t' := s.toks) (r.append r2) (by rw [List.length_append]; omega), rfl, q _ I.fresh⟩
/-- a + b: ints, texts, lists, tuples -/
def rAddI : R2 := rI0 fun i j => .int (i + j)
def rAddT : R2 := fun x y H Q => ∃ i j, x = .str i ∧ y = .str j ∧ i.length + j.length ≤ sizeLine ∧ Q (.str (i ++ j)) H
def rAddU (K : PySem.W.Frag) : R2 := fun x y H Q => rAddI x y H Q ∨ rAddT x y H Q ∨ rCatL K x y H Q ∨ rCatA K x y H Q
theorem op_addU : OpR X (binaryOp .Add) (rAddU X.K) := (show OpR X (binaryOp .Add) rAddI from op_add).or ((show OpR X (binaryOp .Add) rAddT from op_add_str).or (op_catL.or op_catA))
end
end L2
namespace DL
open PySem L2 StX
section
variable {K : PySem.W.Frag} [Tb K] {Z : ZX} {u u' : Wd} {σ : L2.St} {ds : DS} {P : D → Prop} {te ta tb tc : TE} {tt tu : TT} {i j : Int} {x y : Str} {xs ys : List D} {C : Addr} {a b : D} {p q : Bool}
theorem Op.or {r r' : R2} (h : Op K r a b P) : Op K (fun x y H Q => r x y H Q ∨ r' x y H Q) a b P := fun u v w Q e s d1 d2 k => .inl (h u v w Q e s d1 d2 k)
theorem op_I0 {g : Int → Int → V} {d : D} (hd : ∀ u, Den K u (g i j) d) (h : P d) : Op K (rI0 g) (.int i) (.int j) P := fun u v w Q e _ d1 d2 k => by
  cases den_int d1
  cases den_int d2
  exact ⟨i, j, rfl, rfl, k _ _ u (.refl e) (hd _) h⟩
theorem op_I {c : Int → Int → Prop} {g : Int → Int → V} {d : D} (hd : ∀ u, Den K u (g i j) d) (hc : c i j) (h : P d) : Op K (rI c g) (.int i) (.int j) P := fun u v w Q e _ d1 d2 k => by
  cases den_int d1
  cases den_int d2
  exact ⟨i, j, rfl, rfl, hc, k _ _ u (.refl e) (hd _) h⟩
/-! ### + -/
theorem add_int (h : P (.int (i + j))) : Op K (rAddU K) (.int i) (.int j) P := Op.or (op_I0 (fun _ => .int _) h)
theorem add_lst (hz : xs.length + ys.length ≤ 1000000) (h : P (.lst (xs ++ ys))) : Op K (rAddU K) (.lst xs) (.lst ys) P := fun u v w Q e _ d1 d2 k => by
  obtain ⟨a, vs, rfl, q, r⟩ := den_lst d1
  obtain ⟨a', vs', rfl, q', r'⟩ := den_lst d2
  refine .inr (.inr (.inl ⟨a, a', vs, vs', rfl, rfl, Evl.ex_l e q, Evl.ex_l e q', by rw [r.len, r'.len]; exact sz100 hz, fun p hp => k _ _ (u.put p _) (.put e hp) (.lst (SqL.of upd_same) ((r.app r').mono (Gs.put e hp).ls)) h⟩))
theorem add_tup (hz : xs.length + ys.length ≤ 1000000) (h : P (.tup (xs ++ ys))) : Op K (rAddU K) (.tup xs) (.tup ys) P := fun u v w Q e _ d1 d2 k => by
  obtain ⟨a, vs, rfl, q, r⟩ := den_tup d1
  obtain ⟨a', vs', rfl, q', r'⟩ := den_tup d2
  refine .inr (.inr (.inr ⟨a, a', vs, vs', rfl, rfl, Evl.ex_t e q, Evl.ex_t e q', by rw [r.len, r'.len]; exact sz100 hz, fun e0 => ?_, fun _ e0 => ?_, fun _ _ p hp => k _ _ (u.put p _) (.put e hp) (.tup (SqT.of upd_same) ((r.app r').mono (Gs.put e hp).ls)) h⟩))
  · subst e0
    cases r
    exact k _ _ u (.refl e) (.tup q' r') h
  · subst e0
    cases r'
    rw [List.append_nil] at h
    exact k _ _ u (.refl e) (.tup q r) h
/-! ### other operators on ints -/
theorem sub_int (h : P (.int (i - j))) : Op K (rI0 fun i j => .int (i - j)) (.int i) (.int j) P := op_I0 (fun _ => .int _) h
theorem mul_int (hc : CMul i j) (h : P (.int (i * j))) : Op K (rI CMul fun i j => .int (i * j)) (.int i) (.int j) P := op_I (fun _ => .int _) hc h
theorem fdiv_int (hc : 0 < j ∧ j < 1073741824) (h : P (.int (i / j))) : Op K (rI CDiv fun i j => .int (i / j)) (.int i) (.int j) P := op_I (fun _ => .int _) hc h
theorem mod_int (hc : 0 < j) (h : P (.int (i % j))) : Op K (rI (fun _ j => 0 < j) fun i j => .int (i % j)) (.int i) (.int j) P := op_I (fun _ => .int _) hc h
theorem pow_int (hc : CPow i j) (h : P (.int (i ^ j.toNat))) : Op K (rI CPow fun i j => .int (i ^ j.toNat)) (.int i) (.int j) P := op_I (fun _ => .int _) hc h
theorem neg_int (h : P (.int (-i))) : Un K (rU fun i => .int (-i)) (.int i) P := fun u v Q e d1 k => by
  cases den_int d1
  exact ⟨i, rfl, k _ _ u (.refl e) (.int _) h⟩
/-! ### is None -/
abbrev rIsN' : R2 := fun x y H Q => y = .non ∧ Q (.bl (decide (x = .non))) H
abbrev rNotN' : R2 := fun x y H Q => y = .non ∧ Q (.bl (!decide (x = .non))) H
def isNonD : D → Bool
  | .non => true
  | _ => false
theorem den_isNon {v : V} {d : D} (h : Den K u v d) : decide (v = .non) = isNonD d := by cases h <;> rfl
theorem is_non (h : P (.bl (isNonD a))) : Op K rIsN' a .non P := fun u v w Q e _ d1 d2 k => by
  cases den_non d2
  exact ⟨rfl, by rw [den_isNon d1]; exact k _ _ u (.refl e) (.bl _) h⟩
theorem not_non (h : P (.bl (!isNonD a))) : Op K rNotN' a .non P := fun u v w Q e _ d1 d2 k => by
  cases den_non d2
  exact ⟨rfl, by rw [den_isNon d1]; exact k _ _ u (.refl e) (.bl _) h⟩
end
/-! ### plain data: ==, !=, <, <=, >, >=, in -/
mutual
def pd : D → Option PyData
  | .non => some .none
  | .bl b => some (.bool b)
  | .int i => some (.int i)
  | .str x => some (.str x)
  | .lst xs => (pds xs).map .list
  | .tup xs => (pds xs).map .tuple
  | _ => none
def pds : List D → Option (List PyData)
  | [] => some []
  | x :: xs => (pd x).bind fun y => (pds xs).map fun ys => y :: ys
end
section
variable {K : PySem.W.Frag} [Tb K] {Z : ZX} {H : Hp} {u : Wd}
mutual
theorem den_dp (x : Ex u.H0 H) : ∀ {v : V} {d : D} {e : PyData}, Den K u v d → pd d = some e → Dp K H v e
  | _, _, e, .non, h => by simp only [pd] at h; cases h; exact .non
  | _, _, e, .bl b, h => by simp only [pd] at h; cases h; exact .bl b
  | _, _, e, .int i, h => by simp only [pd] at h; cases h; exact .int i
  | _, _, e, .str y, h => by simp only [pd] at h; cases h; exact .str y
  | _, _, e, .lst (ds := ds) q r, h => by
    simp only [pd] at h
    cases hp : pds ds with
    | none => rw [hp] at h; cases h
    | some es => rw [hp] at h; cases h; exact .lst (Evl.ex_l x q) (dens_dp x r hp)
  | _, _, e, .tup (ds := ds) q r, h => by
    simp only [pd] at h
    cases hp : pds ds with
    | none => rw [hp] at h; cases h
    | some es => rw [hp] at h; cases h; exact .tup (Evl.ex_t x q) (dens_dp x r hp)
  | _, _, e, .ty _, h => by simp only [pd] at h; cases h
  | _, _, e, .cls _, h => by simp only [pd] at h; cases h
  | _, _, e, .strm _ _, h => by simp only [pd] at h; cases h
  | _, _, e, .obj _ _, h => by simp only [pd] at h; cases h
  | _, _, e, .dct _ _, h => by simp only [pd] at h; cases h
  | _, _, e, .fdc _ _, h => by simp only [pd] at h; cases h
theorem dens_dp (x : Ex u.H0 H) : ∀ {v : List V} {d : List D} {e : List PyData}, Dens K u v d → pds d = some e → DpAll K H v e
  | _, _, e, .nil, h => by simp only [pds] at h; cases h; exact .nil
  | _, _, e, .cons (d := d) (ds := ds) r rs, h => by
    simp only [pds] at h
    cases hp : pd d with
    | none => rw [hp] at h; cases h
    | some y =>
      rw [hp] at h
      cases hq : pds ds with
      | none => rw [hq] at h; cases h
      | some ys => rw [hq] at h; cases h; exact .cons (den_dp x r hp) (dens_dp x rs hq)
end
end
end DL
namespace L2
open PySem PySem.Spec PyProof.Rows
section
variable {X : Cx}
def rEqP (K : PySem.W.Frag) : R2 := fun x y H Q => ∃ d e, Dp K H x d ∧ Dp K H y e ∧ d.plain = true ∧ e.plain = true ∧ d.depth ≤ 64 ∧ Q (.bl (PyData.eqv d e)) H
def rNeP (K : PySem.W.Frag) : R2 := fun x y H Q => ∃ d e, Dp K H x d ∧ Dp K H y e ∧ d.plain = true ∧ e.plain = true ∧ d.depth ≤ 64 ∧ Q (.bl (!PyData.eqv d e)) H
def rLtP (K : PySem.W.Frag) : R2 := fun x y H Q => ∃ d e, Dp K H x d ∧ Dp K H y e ∧ PySem.W.alike d e = true ∧ d ≠ .none ∧ d.depth ≤ 64 ∧ Q (.bl (PySem.W.dataLt d e)) H
def rGtP (K : PySem.W.Frag) : R2 := fun x y H Q => ∃ d e, Dp K H x d ∧ Dp K H y e ∧ PySem.W.alike d e = true ∧ d ≠ .none ∧ d.depth ≤ 64 ∧ Q (.bl (PySem.W.dataLt e d)) H
def rLeP (K : PySem.W.Frag) : R2 := fun x y H Q => ∃ d e, Dp K H x d ∧ Dp K H y e ∧ PySem.W.alike d e = true ∧ d ≠ .none ∧ d.depth ≤ 64 ∧ Q (.bl (!PySem.W.dataLt e d)) H
def rGeP (K : PySem.W.Frag) : R2 := fun x y H Q => ∃ d e, Dp K H x d ∧ Dp K H y e ∧ PySem.W.alike d e = true ∧ d ≠ .none ∧ d.depth ≤ 64 ∧ Q (.bl (!PySem.W.dataLt d e)) H
theorem room_min {u a b : Nat} (hu : u + 64 < cLine) (h : a ≤ 64) : u + min a b < cLine := by have := Nat.min_le_left a b; omega
theorem op_eqP (hu : X.A.units + 64 < cLine) : OpR X (compareOp .Eq) (rEqP X.K) := by
  intro pins s σ H x y v u Q I rx ry ⟨d, e, hd, he, pd, pe, dd, q⟩
  obtain ⟨as, r1⟩ := Dp.reads I d x v hd rx
  obtain ⟨bs, r2⟩ := Dp.reads I e y u he ry
  exact PySem.SeqAt.eq_plain r1 r2 pd pe (room_min hu dd) ⟨.bl _, H, I, rfl, q⟩
theorem op_neP (hu : X.A.units + 64 < cLine) : OpR X (compareOp .NotEq) (rNeP X.K) := by
  intro pins s σ H x y v u Q I rx ry ⟨d, e, hd, he, pd, pe, dd, q⟩
  obtain ⟨as, r1⟩ := Dp.reads I d x v hd rx
  obtain ⟨bs, r2⟩ := Dp.reads I e y u he ry
  exact PySem.SeqAt.ne_plain r1 r2 pd pe (room_min hu dd) ⟨.bl _, H, I, rfl, q⟩
theorem op_ltP (hu : X.A.units + 64 < cLine) : OpR X (compareOp .Lt) (rLtP X.K) := by
  intro pins s σ H x y v u Q I rx ry ⟨d, e, hd, he, al, nn, dd, q⟩
  obtain ⟨as, r1⟩ := Dp.reads I d x v hd rx
  obtain ⟨bs, r2⟩ := Dp.reads I e y u he ry
  exact PySem.W.lt_data r1 r2 al nn (room_min hu dd) ⟨.bl _, H, I, rfl, q⟩
theorem op_gtP (hu : X.A.units + 64 < cLine) : OpR X (compareOp .Gt) (rGtP X.K) := by
  intro pins s σ H x y v u Q I rx ry ⟨d, e, hd, he, al, nn, dd, q⟩
  obtain ⟨as, r1⟩ := Dp.reads I d x v hd rx
  obtain ⟨bs, r2⟩ := Dp.reads I e y u he ry
  exact PySem.W.gt_data r1 r2 al nn (room_min hu dd) ⟨.bl _, H, I, rfl, q⟩
theorem op_leP (hu : X.A.units + 64 < cLine) : OpR X (compareOp .LtE) (rLeP X.K) := by
  intro pins s σ H x y v u Q I rx ry ⟨d, e, hd, he, al, nn, dd, q⟩
  obtain ⟨as, r1⟩ := Dp.reads I d x v hd rx
  obtain ⟨bs, r2⟩ := Dp.reads I e y u he ry
  exact PySem.W.le_data r1 r2 al nn (room_min hu dd) ⟨.bl _, H, I, rfl, q⟩
theorem op_geP (hu : X.A.units + 64 < cLine) : OpR X (compareOp .GtE) (rGeP X.K) := by
  intro pins s σ H x y v u Q I rx ry ⟨d, e, hd, he, al, nn, dd, q⟩
  obtain ⟨as, r1⟩ := Dp.reads I d x v hd rx
  obtain ⟨bs, r2⟩ := Dp.reads I e y u he ry
  exact PySem.W.ge_data r1 r2 al nn (room_min hu dd) ⟨.bl _, H, I, rfl, q⟩
/-- x in a list or a tuple of data; c in a text -/
def rInP (K : PySem.W.Frag) : R2 := fun x y H Q => ∃ d xs, Dp K H x d ∧ (Dp K H y (.list xs) ∨ Dp K H y (.tuple xs)) ∧ d.plain = true ∧ PyData.plainAll xs = true ∧ d.depth ≤ 60 ∧ Q (.bl (xs.any fun z => PyData.eqv z d)) H
def rNiP (K : PySem.W.Frag) : R2 := fun x y H Q => ∃ d xs, Dp K H x d ∧ (Dp K H y (.list xs) ∨ Dp K H y (.tuple xs)) ∧ d.plain = true ∧ PyData.plainAll xs = true ∧ d.depth ≤ 60 ∧ Q (.bl (!xs.any fun z => PyData.eqv z d)) H
theorem room_in {u a b : Nat} (hu : u + 64 < cLine) (h : b ≤ 60) : u + 1 + min a b < cLine := by have := Nat.min_le_right a b; omega
theorem op_inP (hu : X.A.units + 64 < cLine) : OpR X (compareOp .In) (rInP X.K) := by
  intro pins s σ H x y v u Q I rx ry ⟨d, xs, hd, he, pd, pe, dd, q⟩
  obtain ⟨as, r1⟩ := Dp.reads I d x v hd rx
  rcases he with he | he
  · obtain ⟨bs, r2⟩ := Dp.reads I _ y u he ry
    exact PySem.SeqAt.in_list_data r2 r1 pe pd (room_in hu dd) ⟨.bl _, H, I, rfl, q⟩
  · obtain ⟨bs, r2⟩ := Dp.reads I _ y u he ry
    exact PySem.SeqAt.in_tuple_data r2 r1 pe pd (room_in hu dd) ⟨.bl _, H, I, rfl, q⟩
theorem op_niP (hu : X.A.units + 64 < cLine) : OpR X (compareOp .NotIn) (rNiP X.K) := by
  intro pins s σ H x y v u Q I rx ry ⟨d, xs, hd, he, pd, pe, dd, q⟩
  obtain ⟨as, r1⟩ := Dp.reads I d x v hd rx
  rcases he with he | he
  · obtain ⟨bs, r2⟩ := Dp.reads I _ y u he ry
    exact PySem.SeqAt.notIn_list_data r2 r1 pe pd (room_in hu dd) ⟨.bl _, H, I, rfl, q⟩
  · obtain ⟨bs, r2⟩ := Dp.reads I _ y u he ry
    exact PySem.SeqAt.notIn_tuple_data r2 r1 pe pd (room_in hu dd) ⟨.bl _, H, I, rfl, q⟩
end
end L2
namespace DL
open PySem L2 StX
section
variable {K : PySem.W.Frag} [Tb K] {Z : ZX} {u u' : Wd} {P : D → Prop} {a b : D} {d e : PyData} {xs : List PyData} {ys : List D}
theorem eqP (h1 : pd a = some d) (h2 : pd b = some e) (p1 : d.plain = true) (p2 : e.plain = true) (hd : d.depth ≤ 64) (h : P (.bl (PyData.eqv d e))) : Op K (rEqP K) a b P := fun u v w Q ex _ d1 d2 k =>
  ⟨d, e, den_dp ex d1 h1, den_dp ex d2 h2, p1, p2, hd, k _ _ u (.refl ex) (.bl _) h⟩
theorem neP (h1 : pd a = some d) (h2 : pd b = some e) (p1 : d.plain = true) (p2 : e.plain = true) (hd : d.depth ≤ 64) (h : P (.bl (!PyData.eqv d e))) : Op K (rNeP K) a b P := fun u v w Q ex _ d1 d2 k =>
  ⟨d, e, den_dp ex d1 h1, den_dp ex d2 h2, p1, p2, hd, k _ _ u (.refl ex) (.bl _) h⟩
theorem ltP (h1 : pd a = some d) (h2 : pd b = some e) (p1 : PySem.W.alike d e = true) (p2 : d ≠ .none) (hd : d.depth ≤ 64) (h : P (.bl (PySem.W.dataLt d e))) : Op K (rLtP K) a b P := fun u v w Q ex _ d1 d2 k =>
  ⟨d, e, den_dp ex d1 h1, den_dp ex d2 h2, p1, p2, hd, k _ _ u (.refl ex) (.bl _) h⟩
theorem gtP (h1 : pd a = some d) (h2 : pd b = some e) (p1 : PySem.W.alike d e = true) (p2 : d ≠ .none) (hd : d.depth ≤ 64) (h : P (.bl (PySem.W.dataLt e d))) : Op K (rGtP K) a b P := fun u v w Q ex _ d1 d2 k =>
  ⟨d, e, den_dp ex d1 h1, den_dp ex d2 h2, p1, p2, hd, k _ _ u (.refl ex) (.bl _) h⟩
theorem leP (h1 : pd a = some d) (h2 : pd b = some e) (p1 : PySem.W.alike d e = true) (p2 : d ≠ .none) (hd : d.depth ≤ 64) (h : P (.bl (!PySem.W.dataLt e d))) : Op K (rLeP K) a b P := fun u v w Q ex _ d1 d2 k =>
  ⟨d, e, den_dp ex d1 h1, den_dp ex d2 h2, p1, p2, hd, k _ _ u (.refl ex) (.bl _) h⟩
theorem geP (h1 : pd a = some d) (h2 : pd b = some e) (p1 : PySem.W.alike d e = true) (p2 : d ≠ .none) (hd : d.depth ≤ 64) (h : P (.bl (!PySem.W.dataLt d e))) : Op K (rGeP K) a b P := fun u v w Q ex _ d1 d2 k =>
  ⟨d, e, den_dp ex d1 h1, den_dp ex d2 h2, p1, p2, hd, k _ _ u (.refl ex) (.bl _) h⟩
theorem inPl (h1 : pd a = some d) (h2 : pds ys = some xs) (p1 : d.plain = true) (p2 : PyData.plainAll xs = true) (hd : d.depth ≤ 60) (h : P (.bl (xs.any fun z => PyData.eqv z d))) : Op K (rInP K) a (.lst ys) P := fun u v w Q ex _ d1 d2 k =>
  ⟨d, xs, den_dp ex d1 h1, .inl (den_dp ex d2 (by simp only [pd, h2]; rfl)), p1, p2, hd, k _ _ u (.refl ex) (.bl _) h⟩
theorem inPt (h1 : pd a = some d) (h2 : pds ys = some xs) (p1 : d.plain = true) (p2 : PyData.plainAll xs = true) (hd : d.depth ≤ 60) (h : P (.bl (xs.any fun z => PyData.eqv z d))) : Op K (rInP K) a (.tup ys) P := fun u v w Q ex _ d1 d2 k =>
  ⟨d, xs, den_dp ex d1 h1, .inr (den_dp ex d2 (by simp only [pd, h2]; rfl)), p1, p2, hd, k _ _ u (.refl ex) (.bl _) h⟩
theorem niPt (h1 : pd a = some d) (h2 : pds ys = some xs) (p1 : d.plain = true) (p2 : PyData.plainAll xs = true) (hd : d.depth ≤ 60) (h : P (.bl (!xs.any fun z => PyData.eqv z d))) : Op K (rNiP K) a (.tup ys) P := fun u v w Q ex _ d1 d2 k =>
  ⟨d, xs, den_dp ex d1 h1, .inr (den_dp ex d2 (by simp only [pd, h2]; rfl)), p1, p2, hd, k _ _ u (.refl ex) (.bl _) h⟩
end
end DL
namespace L2
open PySem PySem.Spec PyProof.Rows
section
variable {X : Cx}
def rSlU (K : PySem.W.Frag) : V → Option Int → Option Int → Hp → VK → Prop := fun x lo hi H Q => rSlS x lo hi H Q ∨ (rSlL K x lo hi H Q ∨ rSlA K x lo hi H Q)
theorem sl_U : SlR X (rSlU X.K) := sl_str.or (sl_list.or sl_tupA)
/-- min, max of a list of data -/
def rMinP (K : PySem.W.Frag) : List V → Hp → VK → Prop := fun xs H Q => ∃ p vs d ds, xs = [.ref p] ∧ SqL K H p vs ∧ DpAll K H vs (d :: ds) ∧ PySem.W.AlikeAll (d :: ds) ∧ PyData.depthAll (d :: ds) ≤ 60 ∧ ∀ (i : Nat) v, vs[i]? = some v → Dp K H v (PySem.W.minD d ds) → Q v H
def rMaxP (K : PySem.W.Frag) : List V → Hp → VK → Prop := fun xs H Q => ∃ p vs d ds, xs = [.ref p] ∧ SqL K H p vs ∧ DpAll K H vs (d :: ds) ∧ PySem.W.AlikeAll (d :: ds) ∧ PyData.depthAll (d :: ds) ≤ 60 ∧ ∀ (i : Nat) v, vs[i]? = some v → Dp K H v (PySem.W.maxD d ds) → Q v H
end
end L2
namespace DL
open PySem L2 StX
section
variable {K : PySem.W.Frag} [Tb K] {Z : ZX} {u u' : Wd} {σ : L2.St} {ds : DS} {P : D → Prop} {te ta tb tc : TE} {tt tu : TT} {i j : Int} {x y : Str} {xs ys : List D} {C : Addr} {a b : D} {p q : Bool}
/-! ### subscripts -/
theorem atI_of {α : Type} {xs : List α} {i : Int} {n : Nat} (h : (0 ≤ i ∧ i.toNat = n ∨ i < 0 ∧ (i + xs.length).toNat = n ∧ -(xs.length : Int) ≤ i)) (hn : n < xs.length) : atI xs i = xs[n]? := by
  unfold atI ixN
  rcases h with ⟨h1, h2⟩ | ⟨h1, h2, h3⟩
  · rw [if_pos h1, if_pos (by omega)]; simp [h2]
  · rw [if_neg (by omega), if_pos h3]; simp [h2]
theorem ix_lst {n : Nat} {d : D} (h0 : 0 ≤ i) (hn : xs[i.toNat]? = some d) (h : P d) : Op K (rIx K) (.lst xs) (.int i) P := fun u v w Q e _ d1 d2 k => by
  obtain ⟨a, vs, rfl, q, r⟩ := den_lst d1
  cases den_int d2
  obtain ⟨z, hz, hd⟩ := r.getD hn
  refine .inl ⟨a, vs, i, z, rfl, rfl, Evl.ex_l e q, ?_, k _ _ u (.refl e) hd h⟩
  rw [atI_of (.inl ⟨h0, rfl⟩) (List.getElem?_eq_some_iff.mp hz).1, hz]
theorem ix_tup {d : D} (h0 : 0 ≤ i) (hn : xs[i.toNat]? = some d) (h : P d) : Op K (rIx K) (.tup xs) (.int i) P := fun u v w Q e _ d1 d2 k => by
  obtain ⟨a, vs, rfl, q, r⟩ := den_tup d1
  cases den_int d2
  obtain ⟨z, hz, hd⟩ := r.getD hn
  refine .inr (.inl ⟨a, vs, i, z, rfl, rfl, Evl.ex_t e q, ?_, k _ _ u (.refl e) hd h⟩)
  rw [atI_of (.inl ⟨h0, rfl⟩) (List.getElem?_eq_some_iff.mp hz).1, hz]
/-! ### slices -/
def cutD (xs : List D) (lo hi : Option Int) : List D := (xs.drop (HT.sIx xs.length 0 lo)).take (HT.sIx xs.length xs.length hi - HT.sIx xs.length 0 lo)
theorem Dens.cut {vs : List V} (r : Dens K u vs xs) (lo hi : Option Int) : Dens K u (cutV vs lo hi) (cutD xs lo hi) := by
  unfold cutV cutD
  rw [r.len]
  exact (r.drop _).take _
theorem sl_lst {lo hi : Option Int} (h : P (.lst (cutD xs lo hi))) : Sl K (rSlU K) (.lst xs) lo hi P := fun u v Q e d1 k => by
  obtain ⟨a, vs, rfl, q, r⟩ := den_lst d1
  exact .inr (.inl ⟨a, vs, rfl, Evl.ex_l e q, fun p hp => k _ _ (u.put p _) (.put e hp) (.lst (SqL.of upd_same) ((r.cut lo hi).mono (Gs.put e hp).ls)) h⟩)
theorem sl_tup {lo hi : Option Int} (h : P (.tup (cutD xs lo hi))) : Sl K (rSlU K) (.tup xs) lo hi P := fun u v Q e d1 k => by
  obtain ⟨a, vs, rfl, q, r⟩ := den_tup d1
  refine .inr (.inr ⟨a, vs, rfl, Evl.ex_t e q, fun ⟨h1, h2⟩ => ?_, fun _ p hp => k _ _ (u.put p _) (.put e hp) (.tup (SqT.of upd_same) ((r.cut lo hi).mono (Gs.put e hp).ls)) h⟩)
  have z : cutD xs lo hi = xs := by
    unfold cutD
    rw [r.len] at h1 h2
    rw [h1, h2]
    simp
  rw [z] at h
  exact k _ _ u (.refl e) (.tup q r) h
/-! ### built-ins -/
abbrev rLen' (K : PySem.W.Frag) [Tb K] : List V → Hp → VK → Prop := fun xs H Q => ∃ x n, xs = [x] ∧ LenV K x H n ∧ Q (.int n) H
theorem len_lst (h : P (.int xs.length)) : Cb K (rLen' K) [.lst xs] P := fun u vs Q e r k => by
  obtain ⟨v, rfl, r1⟩ := dens1 r
  obtain ⟨a, ws, rfl, q, r2⟩ := den_lst r1
  exact ⟨_, ws.length, rfl, .inl ⟨ws, Evl.ex_l e q, rfl⟩, by rw [r2.len]; exact k _ _ u (.refl e) (.int _) h⟩
theorem len_tup (h : P (.int xs.length)) : Cb K (rLen' K) [.tup xs] P := fun u vs Q e r k => by
  obtain ⟨v, rfl, r1⟩ := dens1 r
  obtain ⟨a, ws, rfl, q, r2⟩ := den_tup r1
  exact ⟨_, ws.length, rfl, .inr ⟨ws, Evl.ex_t e q, rfl⟩, by rw [r2.len]; exact k _ _ u (.refl e) (.int _) h⟩
theorem len_str (hz : x.length ≤ 1000000) (h : P (.int x.length)) : Cb K (rLen' K) [.str x] P := fun u vs Q e r k => by
  obtain ⟨v, rfl, r1⟩ := dens1 r
  cases den_str r1
  exact ⟨_, x.length, rfl, ⟨sz100 hz, rfl⟩, k _ _ u (.refl e) (.int _) h⟩
abbrev rInt1 : List V → Hp → VK → Prop := fun xs H Q => (∃ i, xs = [.int i] ∧ Q (.int i) H) ∨ ∃ k, xs = [.bl k] ∧ Q (.int (if k then 1 else 0)) H
theorem int_int (h : P (.int i)) : Cb K rInt1 [.int i] P := fun u vs Q e r k => by
  obtain ⟨v, rfl, r1⟩ := dens1 r
  cases den_int r1
  exact .inl ⟨i, rfl, k _ _ u (.refl e) (.int _) h⟩
abbrev rMin2 : List V → Hp → VK → Prop := fun xs H Q => ∃ i j, xs = [.int i, .int j] ∧ Q (.int (if j < i then j else i)) H
abbrev rMax2 : List V → Hp → VK → Prop := fun xs H Q => ∃ i j, xs = [.int i, .int j] ∧ Q (.int (if j > i then j else i)) H
theorem min_int (h : P (.int (if j < i then j else i))) : Cb K rMin2 [.int i, .int j] P := fun u vs Q e r k => by
  obtain ⟨v, w, rfl, r1, r2⟩ := dens2 r
  cases den_int r1
  cases den_int r2
  exact ⟨i, j, rfl, k _ _ u (.refl e) (.int _) h⟩
theorem max_int (h : P (.int (if j > i then j else i))) : Cb K rMax2 [.int i, .int j] P := fun u vs Q e r k => by
  obtain ⟨v, w, rfl, r1, r2⟩ := dens2 r
  cases den_int r1
  cases den_int r2
  exact ⟨i, j, rfl, k _ _ u (.refl e) (.int _) h⟩
theorem dens_ints {vs : List V} {ns : List Int} (r : Dens K u vs (ns.map D.int)) : vs = ns.map V.int := by
  induction ns generalizing vs with
  | nil => exact dens0 r
  | cons n ns ih =>
    cases r with
    | cons a b => rw [den_int a, ih b]; rfl
theorem ints_dens (ns : List Int) : Dens K u (ns.map V.int) (ns.map D.int) := by
  induction ns with
  | nil => exact .nil
  | cons n ns ih => exact .cons (.int n) ih
abbrev rTupOf (K : PySem.W.Frag) [Tb K] : List V → Hp → VK → Prop := fun xs H Q => ∃ p ys, xs = [.ref p] ∧ ((SqL K H p ys ∧ ∀ l, H l = none → Q (.ref l) (upd H l (.tup ys))) ∨ (SqT K H p ys ∧ Q (.ref p) H))
theorem tuple_lst (h : P (.tup xs)) : Cb K (rTupOf K) [.lst xs] P := fun u vs Q e r k => by
  obtain ⟨v, rfl, r1⟩ := dens1 r
  obtain ⟨a, ws, rfl, q, r2⟩ := den_lst r1
  exact ⟨a, ws, rfl, .inl ⟨Evl.ex_l e q, fun p hp => k _ _ (u.put p _) (.put e hp) (.tup (SqT.of upd_same) (r2.mono (Gs.put e hp).ls)) h⟩⟩
abbrev rLstOf (K : PySem.W.Frag) [Tb K] : List V → Hp → VK → Prop := fun xs H Q => ∃ p ys, xs = [.ref p] ∧ (SqL K H p ys ∨ SqT K H p ys) ∧ ∀ l, H l = none → Q (.ref l) (upd H l (.lst ys))
/-! ### isinstance -/
def tyD : D → Option String
  | .non => some "NoneType"
  | .bl _ => some "bool"
  | .int _ => some "int"
  | .str _ => some "str"
  | .lst _ => some "list"
  | .tup _ => some "tuple"
  | .dct _ => some "dict"
  | .fdc _ => some "dict"
  | _ => none
theorem den_ty {v : V} {d : D} {T : String} (h : Den K u v d) (ht : tyD d = some T) : TyX K u.H0 v (.type T) := by
  cases h with
  | non => cases ht; exact .base .non
  | bl => cases ht; exact .base (.bl _)
  | int => cases ht; exact .base (.int _)
  | str => cases ht; exact .base (.str _)
  | lst q r =>
    cases ht
    rcases q with (q | ⟨o, q⟩) | ⟨o, its, n, hk, hc, _⟩
    · exact .base (.lst q)
    · exact .base (.frz q)
    · exact .kList hk hc
  | tup q r =>
    cases ht
    rcases q with (q | ⟨o, q⟩) | ⟨o, its, n, hk, hc, _⟩
    · exact .base (.tup q)
    · exact .fTuple q
    · exact .kTuple hk hc
  | dct q r =>
    cases ht
    rcases q with q | ⟨o, q⟩
    · exact .base (.dK q)
    · exact .fDict q
  | fdc q r => cases ht; exact .fDict q
  | _ => cases ht
theorem isi_ty {T T' : String} {r : Bool} (ht : tyD a = some T) (hk : kitB T T' = some r) (h : P (.bl r)) : Cb K (rIsi K) [a, .ty T'] P := fun u vs Q e rs k => by
  obtain ⟨v, w, rfl, r1, r2⟩ := dens2 rs
  cases r2
  exact ⟨v, .ty T', .type T, .type T', r, rfl, .ty _, den_ty (u := ⟨u.S, u.T, u.n, u.H1, u.H1⟩) (Den.mono (show Le u ⟨u.S, u.T, u.n, u.H1, u.H1⟩ from ⟨fun _ h => h, fun _ _ => rfl, e⟩) r1) ht, kit_ty hk, k _ _ u (.refl e) (.bl _) h⟩
/-! ### truth -/
def truD : D → Option Bool
  | .non => some false
  | .bl b => some b
  | .int i => some (i != 0)
  | .lst xs => some (!xs.isEmpty)
  | .tup xs => some (!xs.isEmpty)
  | _ => none
theorem isEmpty_den {vs : List V} (r : Dens K u vs xs) : vs.isEmpty = xs.isEmpty := by cases r <;> rfl
theorem den_tru {v : V} {d : D} {b : Bool} (h : Den K u v d) (ht : truD d = some b) : TruV K v u.H0 b := by
  cases h with
  | non => cases ht; rfl
  | bl => cases ht; rfl
  | int => cases ht; rfl
  | lst q r => cases ht; exact .inl ⟨_, q, by rw [isEmpty_den r]⟩
  | tup q r => cases ht; exact .inr (.inl ⟨_, q, by rw [isEmpty_den r]⟩)
  | _ => cases ht
theorem den_truE {H : Hp} {v : V} {d : D} {b : Bool} (x : Ex u.H0 H) (h : Den K u v d) (ht : truD d = some b) : TruV K v H b := den_tru (u := ⟨u.S, u.T, u.n, H, H⟩) (Den.mono (show Le u ⟨u.S, u.T, u.n, H, H⟩ from ⟨fun _ h => h, fun _ _ => rfl, x⟩) h) ht
theorem wt_tru {ds : DS} {n : Nat} {P : Bool → Nat → Prop} (h : We K Z ta ds n fun d m => ∃ k, truD d = some k ∧ P k m) : Wt K Z (L2.tTru K ta) ds n P := fun b u σ Q e S k =>
  h b u σ _ e S fun v d u1 g1 s1 r ⟨c, ht, q⟩ => ⟨c, den_truE g1.c r ht, k _ u1 g1 s1 q⟩
/-! ### methods of texts -/
/-- s.m(e), s a text -/
def Mt (K : PySem.W.Frag) [Tb K] (r : V → List V → Hp → VK → Prop) (a : Str) (y : D) (P : D → Prop) : Prop :=
  ∀ (u : Wd) (w : V) (Q : VK), Ex u.H0 u.H1 → Den K u w y → (∀ z d u', Gp K u u' → Den K u' z d → P d → Q z u'.H1) → r (.str a) [w] u.H1 Q
end
end DL
namespace L2
open PySem PySem.Spec PyProof.Rows StX
section
variable {X : Cx}
theorem min_at {σ : L2.St} {pins : List (Addr × Obj)} {H : Hp} {s : Shared} {vs : List V} {its : List Value} {ds : List PyData} {h' : Heap} {m : PyData} {i : Nat} {v : Value} {bs : List Addr} (I : Inv X pins σ H s) (r : Vals vs its) (hd : DpAll X.K H vs ds) (hp : PyData.plainAll ds = true)
    (k : ∀ b o, s.heap.get? b = some o → h'.get? b = some o) (hv : its.toArray[i]? = some v) (hr : Reads h' v m bs) : ∃ w, vs[i]? = some w ∧ RelV w v ∧ ds[i]? = some m := by
  have hv' : its[i]? = some v := by simpa using hv
  obtain ⟨w, hw, rw_, d, hdi, hdd⟩ : ∃ w, vs[i]? = some w ∧ RelV w v ∧ ∃ d, ds[i]? = some d ∧ Dp X.K H w d := by
    clear hv hr hp
    induction ds generalizing vs its i with
    | nil => cases hd; cases r; simp at hv'
    | cons d0 ds ih =>
      cases hd with
      | cons h1 h2 =>
        cases r with
        | cons r1 r2 =>
          cases i with
          | zero => simp at hv'; subst hv'; exact ⟨_, rfl, r1, _, rfl, h1⟩
          | succ i =>
            obtain ⟨w, a, b, d, c, e⟩ := ih r2 h2 (by simpa using hv')
            exact ⟨w, by simpa using a, b, d, by simpa using c, e⟩
  obtain ⟨as, q⟩ := Dp.reads I d w v hdd rw_
  have pl : d.plain = true := by
    clear hdd q hd r hv' hv rw_ hw hr
    induction ds generalizing i with
    | nil => simp at hdi
    | cons x xs ih =>
      rw [PyData.plainAll, Bool.and_eq_true] at hp
      cases i with
      | zero => simp at hdi; subst hdi; exact hp.1
      | succ i => exact ih hp.2 (by simpa using hdi)
  have e : d = m := PySem.SeqAt.plain_unique d m v _ _ pl (Reads.keeps k q) hr
  subst e
  exact ⟨w, hw, rw_, hdi⟩
def rMinQ (K : PySem.W.Frag) : List V → Hp → VK → Prop := fun xs H Q => ∃ p vs d ds, xs = [.ref p] ∧ SqL K H p vs ∧ DpAll K H vs (d :: ds) ∧ PySem.W.AlikeAll (d :: ds) ∧ PyData.plainAll (d :: ds) = true ∧ PyData.depthAll (d :: ds) ≤ 60 ∧ ∀ (i : Nat) v, vs[i]? = some v → (d :: ds)[i]? = some (PySem.W.minD d ds) → Q v H
def rMaxQ (K : PySem.W.Frag) : List V → Hp → VK → Prop := fun xs H Q => ∃ p vs d ds, xs = [.ref p] ∧ SqL K H p vs ∧ DpAll K H vs (d :: ds) ∧ PySem.W.AlikeAll (d :: ds) ∧ PyData.plainAll (d :: ds) = true ∧ PyData.depthAll (d :: ds) ≤ 60 ∧ ∀ (i : Nat) v, vs[i]? = some v → (d :: ds)[i]? = some (PySem.W.maxD d ds) → Q v H
theorem call_minP (hc : X.calm = true) (hu : X.A.units + 64 < cLine) : CallR X (.builtin "min") (rMinQ X.K) := by
  intro pins s σ H xs us Q I r ⟨p, vs, d, ds, e, hq, hd, ha, hp, hz, q⟩
  subst e
  obtain ⟨u1, rfl, r1⟩ := vals1 r
  cases r1
  obtain ⟨its, rv, pl, _⟩ := I.list hq
  obtain ⟨as, hr⟩ := Dp.readsAll I (d :: ds) vs its hd rv
  refine PySem.W.min_list_data (I.ok.hd hc) pl.isList (by simpa using hr) ha (by have := hz; omega) fun i v h' tk bs hv hr' hk => ?_
  obtain ⟨w, hw, rw_, hdw⟩ := min_at I rv hd hp hk hv hr'
  exact ⟨w, H, I.kept hk, rw_, q i w hw hdw⟩
theorem call_maxP (hc : X.calm = true) (hu : X.A.units + 64 < cLine) : CallR X (.builtin "max") (rMaxQ X.K) := by
  intro pins s σ H xs us Q I r ⟨p, vs, d, ds, e, hq, hd, ha, hp, hz, q⟩
  subst e
  obtain ⟨u1, rfl, r1⟩ := vals1 r
  cases r1
  obtain ⟨its, rv, pl, _⟩ := I.list hq
  obtain ⟨as, hr⟩ := Dp.readsAll I (d :: ds) vs its hd rv
  refine PySem.W.max_list_data (I.ok.hd hc) pl.isList (by simpa using hr) ha (by have := hz; omega) fun i v h' tk bs hv hr' hk => ?_
  obtain ⟨w, hw, rw_, hdw⟩ := min_at I rv hd hp hk hv hr'
  exact ⟨w, H, I.kept hk, rw_, q i w hw hdw⟩
/-- x(e, ..), x an instance -/
def tCallO' (C : Addr) (sp : Sp) (E : XK) (tf : TE) (t : TA) : TE := fun σ H Q => tf σ H fun y H1 => ∃ a, y = V.ref a ∧ t σ H1 fun vs H2 => (∃ dx fs, H2 a = some (.ins C dx fs)) ∧ sp (V.ref a :: vs) H2 Q E
variable {CX : CXT} {k : Nat} {C : Addr} {sp : Sp} {E : XK} {e fe : Expr} {es : List Expr} {tf : TE} {t : TA} {pos : Pos} {g : Addr}
theorem FnOk.raw0 {P : Program} {w : World} {K : PySem.W.Frag} {mg : Str → Option Value} {base : Heap} {f : Addr} {fd : FuncData} {ps : List Str} (F : FnOk P w K mg base CX k f fd ps sp) (hb : Binds K fd ps []) : FnR P w K mg base CX k f sp :=
  (F.raw hb .nil).imp fun vs H Q E h => by rw [List.append_nil]; exact h
end
abbrev rCount : V → List V → Hp → VK → Prop := fun x xs H Q => ∃ a b, x = .str a ∧ xs = [.str b] ∧ Q (.int (Txt.count a b)) H
abbrev rRfind : V → List V → Hp → VK → Prop := fun x xs H Q => ∃ a b, x = .str a ∧ xs = [.str b] ∧ Q (.int (Txt.rfind a b)) H
abbrev rSplit : V → List V → Hp → VK → Prop := fun x xs H Q => ∃ a b, x = .str a ∧ xs = [.str b] ∧ (b.length == 0) = false ∧ a.length + 2 ≤ sizeLine ∧ rNewStrs (Txt.split a b) H Q
abbrev rJoin (K : PySem.W.Frag) : V → List V → Hp → VK → Prop := fun x xs H Q => ∃ a p, ∃ ys : List Str, x = .str a ∧ xs = [.ref p] ∧ (SqL K H p (ys.map V.str) ∨ SqT K H p (ys.map V.str)) ∧ (ys.map (·.length)).sum + ys.length * a.length ≤ 16777216 ∧ Q (.str (Txt.join a ys)) H
abbrev rOrd' : List V → Hp → VK → Prop := fun xs H Q => ∃ x, xs = [.str x] ∧ x.length = 1 ∧ Q (.int (x.cps.getD 0 0 : Nat)) H
end L2
namespace DL
open PySem L2 StX
section
variable {K : PySem.W.Frag} [Tb K] {Z : ZX} {u u' : Wd} {σ : L2.St} {ds : DS} {P : D → Prop} {te ta tb tc : TE} {tt tu : TT} {C : Addr} {E : XK} {R : Rl} {N : Nd}
theorem pds_get : ∀ {xs : List D} {es : List PyData} {i : Nat} {x : D} {e : PyData}, pds xs = some es → xs[i]? = some x → es[i]? = some e → pd x = some e
  | [], _, _, _, _, _, h, _ => by simp at h
  | y :: ys, es, i, x, e, h, hx, he => by
    simp only [pds] at h
    cases hp : pd y with
    | none => rw [hp] at h; cases h
    | some d =>
      rw [hp] at h
      cases hq : pds ys with
      | none => rw [hq] at h; cases h
      | some ds =>
        rw [hq] at h
        cases h
        cases i with
        | zero => simp at hx he; subst hx he; exact hp
        | succ i => exact pds_get hq (by simpa using hx) (by simpa using he)
theorem max_lst {xs : List D} {d : PyData} {es : List PyData} (h1 : pds xs = some (d :: es)) (ha : PySem.W.AlikeAll (d :: es)) (hp : PyData.plainAll (d :: es) = true) (hz : PyData.depthAll (d :: es) ≤ 60) (h : ∀ x, x ∈ xs → pd x = some (PySem.W.maxD d es) → P x) : Cb K (rMaxQ K) [.lst xs] P := fun u vs Q e r k => by
  obtain ⟨v, rfl, r1⟩ := dens1 r
  obtain ⟨a, ws, rfl, q, r2⟩ := den_lst r1
  refine ⟨a, ws, d, es, rfl, Evl.ex_l e q, dens_dp e r2 h1, ha, hp, hz, fun i v hv hd => ?_⟩
  obtain ⟨x, hx, hdx⟩ := r2.get hv
  exact k v x u (.refl e) hdx (h x (List.mem_of_getElem? hx) (pds_get h1 hx hd))
end
end DL

namespace DL
open PySem L2 StX
section
variable {K : PySem.W.Frag} [Tb K] {Z : ZX} {b u u' u'' : Wd} {σ : L2.St} {ds : DS} {n : Nat} {P : D → Nat → Prop} {te ta tb tc : TE} {tt tu : TT} {N : Nd} {ts t1 t2 : TS} {g : TG} {De : Ends}
/-! ### streams -/
theorem strm_at {i : Nat} {a : Addr} {k : SK} (S : Sd K Z b u σ ds) (hd : ds[i]? = some (some (.strm a k))) : σ[i]? = some (some (.ref a)) ∧ u.S a ∧ u.T a = k ∧ u.H0 a = none ∧ ∃ o, u.H1 a = some o ∧ SO K u k o := by
  obtain ⟨v, hv, hS⟩ := S.sl i _ hd
  obtain ⟨rfl, hs, ht⟩ := den_strm (hS.imm rfl)
  obtain ⟨h0, o, h1, q⟩ := S.st a hs
  rw [ht] at q
  exact ⟨hv, hs, ht, h0, o, h1, q⟩
theorem gs_strm {a : Addr} {o : HO} {k : Nat} (e : Ex u.H0 u.H1) (s : StOk K u) (hs : u.S a) (hk : u.n ≤ k) (ho : SO K ⟨u.S, u.T, k, u.H0, upd u.H1 a o⟩ (u.T a) o) : Gs u ⟨u.S, u.T, k, u.H0, upd u.H1 a o⟩ ∧ StOk K ⟨u.S, u.T, k, u.H0, upd u.H1 a o⟩ := by
  obtain ⟨a0, o1, a1, _⟩ := s a hs
  refine ⟨⟨.refl _, fun x w ns hx => ?_, fun x hx => ?_, fun x w hx => ?_, fun x h h' => absurd h h', fun _ h => h, fun _ _ => rfl, fun _ h => .inl h, hk⟩, ⟨fun x hx => ?_, s.tb, s.on⟩⟩
  · exact (upd_ne (fun q : x = a => ns (by rw [q]; exact hs))).trans hx
  · show upd u.H1 a o x ≠ none
    by_cases q : x = a
    · rw [q, upd_same]; simp
    · rw [upd_ne q]; exact hx
  · exact (upd_ne (fun q => by rw [q, a0] at hx; cases hx)).trans (e x w hx)
  · obtain ⟨x0, w, x1, xs⟩ := s x hx
    by_cases q : x = a
    · subst q
      exact ⟨x0, o, upd_same, ho⟩
    · exact ⟨x0, w, (upd_ne q).trans x1, xs.mono ⟨fun _ h => h, fun _ _ => rfl, .refl _⟩ hk⟩
end
/-! ### comparisons of known forms -/
section
variable {K : PySem.W.Frag} [Tb K] {Z : ZX} {P : D → Prop} {i j k l : Int} {p q : Bool} {x y : Str}
theorem b_eq {α : Type} [DecidableEq α] (a b : α) : (a == b) = decide (a = b) := by
  by_cases h : a = b
  · subst h; simp
  · simp [h]
theorem eq_int (h : P (.bl (decide (i = j)))) : Op K (rEqP K) (.int i) (.int j) P := eqP (d := .int i) (e := .int j) rfl rfl rfl rfl (by simp [PyData.depth, PyData.depthAll]) (by simpa [PyData.eqv, b_eq] using h)
theorem ne_int (h : P (.bl (!decide (i = j)))) : Op K (rNeP K) (.int i) (.int j) P := neP (d := .int i) (e := .int j) rfl rfl rfl rfl (by simp [PyData.depth, PyData.depthAll]) (by simpa [PyData.eqv, b_eq] using h)
theorem eq_str (h : P (.bl (decide (x = y)))) : Op K (rEqP K) (.str x) (.str y) P := eqP (d := .str x) (e := .str y) rfl rfl rfl rfl (by simp [PyData.depth, PyData.depthAll]) (by simpa [PyData.eqv, b_eq] using h)
theorem ne_str (h : P (.bl (!decide (x = y)))) : Op K (rNeP K) (.str x) (.str y) P := neP (d := .str x) (e := .str y) rfl rfl rfl rfl (by simp [PyData.depth, PyData.depthAll]) (by simpa [PyData.eqv, b_eq] using h)
abbrev pos (a b : Int) : D := .tup [.int a, .int b]
abbrev ppos (a b : Int) : PyData := .tuple [.int a, .int b]
theorem lt_int (h : P (.bl (decide (i < j)))) : Op K (rLtP K) (.int i) (.int j) P := ltP (d := .int i) (e := .int j) rfl rfl rfl (fun z => by cases z) (by simp [PyData.depth, PyData.depthAll]) (by rw [PySem.W.dataLt_int]; exact h)
theorem gt_int (h : P (.bl (decide (j < i)))) : Op K (rGtP K) (.int i) (.int j) P := gtP (d := .int i) (e := .int j) rfl rfl rfl (fun z => by cases z) (by simp [PyData.depth, PyData.depthAll]) (by rw [PySem.W.dataLt_int]; exact h)
theorem le_int (h : P (.bl (decide (i ≤ j)))) : Op K (rLeP K) (.int i) (.int j) P := leP (d := .int i) (e := .int j) rfl rfl rfl (fun z => by cases z) (by simp [PyData.depth, PyData.depthAll]) (by
  rw [PySem.W.dataLt_int]
  have e : (!decide (j < i)) = decide (i ≤ j) := by by_cases q : i ≤ j <;> simp [q] <;> omega
  rw [e]; exact h)
theorem ge_int (h : P (.bl (decide (j ≤ i)))) : Op K (rGeP K) (.int i) (.int j) P := geP (d := .int i) (e := .int j) rfl rfl rfl (fun z => by cases z) (by simp [PyData.depth, PyData.depthAll]) (by
  rw [PySem.W.dataLt_int]
  have e : (!decide (i < j)) = decide (j ≤ i) := by by_cases q : j ≤ i <;> simp [q] <;> omega
  rw [e]; exact h)
/-- positions in order -/
abbrev plt (i j k l : Int) : Prop := i < k ∨ i = k ∧ j < l
theorem isiI {T' : String} {r : Bool} (hk : kitB "int" T' = some r) (h : P (.bl r)) : Cb K (rIsi K) [.int i, .ty T'] P := isi_ty (a := .int i) rfl hk h
theorem isiS {T' : String} {r : Bool} (hk : kitB "str" T' = some r) (h : P (.bl r)) : Cb K (rIsi K) [.str x, .ty T'] P := isi_ty (a := .str x) rfl hk h
theorem isiT {xs : List D} {T' : String} {r : Bool} (hk : kitB "tuple" T' = some r) (h : P (.bl r)) : Cb K (rIsi K) [.tup xs, .ty T'] P := isi_ty (a := .tup xs) rfl hk h
theorem iteD {c A B : Prop} [Decidable c] (h1 : c → A) (h2 : ¬ c → B) : if decide c = true then A else B := by
  by_cases h : c
  · rw [if_pos (decide_eq_true h)]; exact h1 h
  · rw [if_neg (by simp [h])]; exact h2 h
theorem iteNT {A B : Prop} (h : B) : if (!true) = true then A else B := by simpa using h
theorem iteNF {A B : Prop} (h : A) : if (!false) = true then A else B := by simpa using h
end
end DL

namespace DL
open PySem L2 StX
section
variable {K : PySem.W.Frag} [Tb K] {Z : ZX} {b u u' u'' : Wd} {σ : L2.St} {ds : DS} {n : Nat} {P : D → Nat → Prop} {te ta tb tc : TE} {tt tu : TT} {N : Nd} {ts t1 t2 : TS} {g : TG} {De : Ends}
/-- an object that nothing tells of -/
theorem Gs.junk (e : Ex u.H0 u.H1) {p : Addr} {o : HO} (hp : u.H1 p = none) : Gs u ⟨u.S, u.T, u.n, u.H0, upd u.H1 p o⟩ :=
  ⟨.refl _, fun x w _ hx => ex_new hp x w hx, fun x hx => by
      show upd u.H1 p o x ≠ none
      by_cases q : x = p
      · subst q; rw [upd_same]; simp
      · rw [upd_ne q]; exact hx, e.trans (ex_new hp), fun _ a b => absurd a b, fun _ h => h, fun _ _ => rfl, fun _ h => .inl h, Nat.le_refl _⟩
theorem StOk.not (s : StOk K u) {p : Addr} (hp : u.H1 p = none) : ¬ u.S p := fun h => by
  obtain ⟨_, o, h1, _⟩ := s p h
  rw [hp] at h1; cases h1
end
end DL

namespace DL
open PySem L2 StX
section
variable {K : PySem.W.Frag} [Tb K] {Z : ZX} {b u u' u'' : Wd} {σ : L2.St} {ds : DS} {n : Nat} {P : D → Nat → Prop} {te ta tb tc tv : TE} {N : Nd} {De : Ends}
/-! ### three keys -/
theorem get1 {k1 k2 k3 : Key} {x y z : V} : valV [(k1, x), (k2, y), (k3, z)] k1 = some x := valV_pos rfl
theorem get2 {k1 k2 k3 : Key} {x y z : V} (h : ¬ k1 = k2) : valV [(k1, x), (k2, y), (k3, z)] k2 = some y := (valV_neg h).trans (valV_pos rfl)
theorem get3 {k1 k2 k3 : Key} {x y z : V} (h : ¬ k1 = k3) (h' : ¬ k2 = k3) : valV [(k1, x), (k2, y), (k3, z)] k3 = some z := (valV_neg h).trans ((valV_neg h').trans (valV_pos rfl))
theorem put2 {k1 k2 k3 : Key} {x y z v : V} (h : ¬ k1 = k2) (h' : ¬ k3 = k2) : putK [(k1, x), (k2, y), (k3, z)] k2 v = [(k1, x), (k2, v), (k3, z)] := by
  simp [putK, h, h']
theorem merge3 {k1 k2 k3 : Key} {x y z : V} (h1 : ¬ k1 = k2) (h2 : ¬ k1 = k3) (h3 : ¬ k2 = k3) : mergeK [] [(k1, x), (k2, y), (k3, z)] = [(k1, x), (k2, y), (k3, z)] := by
  show putK (putK (putK [] k1 x) k2 y) k3 z = _
  rw [putK_new x valV_nil, putK_new (kvs := [] ++ [(k1, x)]) y ((valV_neg h1).trans valV_nil), putK_new (kvs := [] ++ [(k1, x)] ++ [(k2, y)]) z ((valV_neg h2).trans ((valV_neg h3).trans valV_nil))]
  rfl
theorem kal : ¬ ky "at" = ky "left" := by decide +kernel
theorem kla : ¬ ky "left" = ky "at" := by decide +kernel
theorem ksa : ¬ ky "script" = ky "at" := by decide +kernel
theorem ksl : ¬ ky "script" = ky "left" := by decide +kernel
/-! ### the dict with cells -/
/-- what was made apart becomes a stream -/
theorem Gs.toStrm {k : SK} {o : HO} {p : Addr} (g : Gs b u) (s : StOk K u) (hb : b.H1 p = none) (h0 : u.H0 p = none) (hS : ¬ u.S p) (ho : SO K u k o) (hkt : ∀ z, k ≠ .tbl z := by intro _ z; cases z) :
    Gs b ⟨fun a => u.S a ∨ a = p, fun a => if a = p then k else u.T a, u.n, u.H0, upd u.H1 p o⟩ ∧ StOk K ⟨fun a => u.S a ∨ a = p, fun a => if a = p then k else u.T a, u.n, u.H0, upd u.H1 p o⟩ := by
  have nq : ∀ a, u.S a → a ≠ p := fun a ha z => hS (z ▸ ha)
  have l : Le u ⟨fun a => u.S a ∨ a = p, fun a => if a = p then k else u.T a, u.n, u.H0, upd u.H1 p o⟩ := ⟨fun _ h => .inl h, fun a ha => if_neg (nq a ha), .refl _⟩
  have w := Gs.write (o := o) g hb h0
  refine ⟨⟨w.a, w.b, w.b', w.c, w.n, fun x h => .inl (g.sub x h), fun x h => (if_neg (nq x (g.sub x h))).trans (g.kd x h), fun x h => h.elim (g.new x) fun z => .inr (by rw [z]; exact hb), g.le⟩, ⟨?_, fun p hp => ⟨.inl (s.tb p hp).1, (if_neg (nq p.1 (s.tb p hp).1)).trans (s.tb p hp).2⟩, fun a z ha hz => ?_⟩⟩
  rotate_left
  · have hz' : (if a = p then k else u.T a) = .tbl z := hz
    by_cases h : a = p
    · rw [if_pos h] at hz'; exact absurd hz' (hkt z)
    · rw [if_neg h] at hz'; exact s.on a z (ha.resolve_right h) hz'
  rintro a (ha | rfl)
  · obtain ⟨a0, w, a1, as⟩ := s a ha
    refine ⟨a0, w, (upd_ne (nq a ha)).trans a1, ?_⟩
    show SO K _ (if a = p then k else u.T a) w
    rw [if_neg (nq a ha)]
    exact as.mono l (Nat.le_refl _)
  · refine ⟨h0, _, upd_same, ?_⟩
    show SO K _ (if a = a then k else u.T a) o
    rw [if_pos rfl]
    exact ho.mono l (Nat.le_refl _)
end
end DL

namespace DL
open PySem L2 StX
/-- an own exception's __init__ that stores its one argument in the field f -/
def spX1 (C : Addr) (f : Str) : Sp := fun vs H Q _ => ∃ a y, vs = [.ref a, y] ∧ H a = some (exo a C none) ∧ ∀ dx, H dx = none → dx ≠ a → Q .non (upd (upd H dx (exd dx [(f, y)])) a (exo a C (some dx)))
/-- raise C(..) -/
def tRaise (E : XK) (C : Addr) (sp : Sp) (ta : TA) : TS := fun _ σ H => tMkO C sp [] ta σ H E
section
variable {K : PySem.W.Frag} [Tb K] {Z : ZX} {b u u' u'' : Wd} {σ : L2.St} {ds : DS} {n : Nat} {P : D → Nat → Prop} {te ta tb tc tv : TE} {N : Nd} {De : Ends} {C : Addr} {f : Str}
end
section
variable {Pr : Program} {w : World} {K : PySem.W.Frag} [Tb K] {mg : Str → Option Value} {base : Heap} {C fI : Addr} {f : Str}
end
end DL

namespace DL
open PySem L2 StX
section
variable {K : PySem.W.Frag} [Tb K] {Z : ZX} {b u u' u'' : Wd} {σ : L2.St} {ds : DS} {n : Nat} {P : D → Nat → Prop} {te ta tb tc tv : TE} {N : Nd} {De : Ends} {tt : TT} {g : TG} {len : Nat}
/-! ### the dict with a list of what is left -/
theorem we_mScript {i : Nat} {a : Addr} (hd : ds[i]? = some (some (.strm a (.mp len)))) (h : ∀ cs : List Int, cs.length = len → P (.lst (cs.map .int)) n) : We K Z (tDGet (tVar i) (tC (.str (Str.ofString "script")))) ds n P := fun b u σ Q e S k => by
  subst e
  obtain ⟨hv, hs, ht, h0, o, h1, l, l2, cs, c, rfl, q, z1, z2, z3, z4, z5⟩ := strm_at S hd
  have w := DGet.k (k := ky "script") h1
  rw [get1] at w
  exact ⟨.ref a, hv, a, .ref l, rfl, w, k _ _ u (.refl S.ex) S.st (.lst q (ints_dens cs)) (h cs z1)⟩
theorem we_mAt {i : Nat} {a : Addr} (hd : ds[i]? = some (some (.strm a (.mp len)))) (h : ∀ c : Int, 0 ≤ c → c ≤ n → P (.int c) n) : We K Z (tDGet (tVar i) (tC (.str (Str.ofString "at")))) ds n P := fun b u σ Q e S k => by
  subst e
  obtain ⟨hv, hs, ht, h0, o, h1, l, l2, cs, c, rfl, q, z1, z2, z3, z4, z5⟩ := strm_at S hd
  have w := DGet.k (k := ky "at") h1
  rw [get2 ksa] at w
  exact ⟨.ref a, hv, a, .int c, rfl, w, k _ _ u (.refl S.ex) S.st (.int c) (h c z2 z3)⟩
theorem we_mLeft {i : Nat} {a : Addr} (hd : ds[i]? = some (some (.strm a (.mp len)))) (h : ∀ l2, P (.strm l2 (.nats len)) n) : We K Z (tDGet (tVar i) (tC (.str (Str.ofString "left")))) ds n P := fun b u σ Q e S k => by
  subst e
  obtain ⟨hv, hs, ht, h0, o, h1, l, l2, cs, c, rfl, q, z1, z2, z3, z4, z5⟩ := strm_at S hd
  have w := DGet.k (k := ky "left") h1
  rw [get3 ksl kal] at w
  exact ⟨.ref a, hv, a, .ref l2, rfl, w, k _ _ u (.refl S.ex) S.st (.strm z4 z5) (h l2)⟩
theorem ws_mAt {i : Nat} {a : Addr} (hd : ds[i]? = some (some (.strm a (.mp len)))) (h : We K Z tv ds n fun d m => ∃ x : Int, d = .int x ∧ 0 ≤ x ∧ x ≤ m + 1 ∧ N.nx ds (m + 1)) : Ws K Z (sDPut (tVar i) (tC (.str (Str.ofString "at"))) tv) ds n N := fun b u σ De e S O =>
  h b u σ _ e S fun v d u1 g1 s1 r ⟨x, z, x0, xn, p⟩ => by
    subst z
    cases den_int r
    have S1 := S.go g1 s1
    obtain ⟨hv, hs, ht, h0, o, h1, l, l2, cs, c, rfl, q, z1, z2, z3, z4, z5⟩ := strm_at S1 hd
    obtain ⟨gg, ss⟩ := gs_strm (o := .dK [(ky "script", .ref l), (ky "at", .int x), (ky "left", .ref l2)]) (k := u1.n + 1) g1.c s1 hs (by omega) (by rw [ht]; exact ⟨l, l2, cs, x, rfl, q, z1, x0, by show x ≤ ((u1.n + 1 : Nat) : Int); omega, z4, z5⟩)
    have w := DPut.k (k := ky "at") (v := .int x) h1 (by show 3 < sizeLine; decide)
    rw [put2 ksa kla] at w
    exact ⟨.ref a, hv, a, _, rfl, w, O.nx _ ⟨u1.S, u1.T, u1.n + 1, u1.H0, _⟩ _ (g1.trans gg).ls (S1.go gg ss) p⟩
theorem nats_at {v : V} {a : Addr} (s : StOk K u) (d : Den K u v (.strm a (.nats len))) : v = .ref a ∧ u.S a ∧ u.T a = .nats len ∧ u.H0 a = none ∧ ∃ xs : List Int, u.H1 a = some (.lst (xs.map V.int)) ∧ xs.length = len ∧ ∀ x ∈ xs, 0 ≤ x := by
  obtain ⟨rfl, hs, ht⟩ := den_strm d
  obtain ⟨h0, o, h1, q⟩ := s a hs
  rw [ht] at q
  obtain ⟨xs, rfl, q1, q2⟩ := q
  exact ⟨rfl, hs, ht, h0, xs, h1, q1, q2⟩
theorem ix_nats {a : Addr} {i : Int} {P : D → Prop} (h0 : 0 ≤ i) (h1 : i < len) (h : ∀ x : Int, 0 ≤ x → P (.int x)) : Op K (rIx K) (.strm a (.nats len)) (.int i) P := fun u v w Q e s d1 d2 k => by
  obtain ⟨rfl, _, _, _, xs, hx, hl, hp⟩ := nats_at s d1
  cases den_int d2
  have hi : i.toNat < xs.length := by omega
  refine .inl ⟨a, _, i, .int xs[i.toNat], rfl, rfl, SqL.of hx, ?_, k _ _ u (.refl e) (.int _) (h _ (hp _ (List.getElem_mem hi)))⟩
  rw [atI_of (n := i.toNat) (.inl ⟨h0, rfl⟩) (by rw [List.length_map]; exact hi), List.getElem?_map, List.getElem?_eq_getElem hi]
  rfl
theorem dp_ints {H : Hp} : ∀ xs : List Int, DpAll K H (xs.map V.int) (xs.map PyData.int)
  | [] => .nil
  | x :: xs => .cons (.int x) (dp_ints xs)
theorem plain_is : ∀ xs : List Int, PyData.plainAll (xs.map PyData.int) = true
  | [] => rfl
  | x :: xs => by simp only [List.map_cons, PyData.plainAll, plain_is xs]; rfl
theorem depth_is : ∀ xs : List Int, PyData.depthAll (xs.map PyData.int) ≤ 1
  | [] => by simp [PyData.depthAll]
  | x :: xs => by
    have := depth_is xs
    simp only [List.map_cons, PyData.depthAll, PyData.depth]
    omega
theorem ne_nats {a : Addr} {P : D → Prop} (h : P (.bl (decide (len ≠ 0)))) : Op K (rNeP K) (.strm a (.nats len)) (.lst []) P := fun u v w Q e s d1 d2 k => by
  obtain ⟨rfl, _, _, _, xs, hx, hl, hp⟩ := nats_at s d1
  refine ⟨.list (xs.map .int), .list [], .lst (SqL.of hx) (dp_ints xs), den_dp e d2 rfl, ?_, rfl, ?_, ?_⟩
  · simp only [PyData.plain, plain_is xs]
  · have := depth_is xs
    simp only [PyData.depth]
    omega
  · have ev : (!PyData.eqv (.list (xs.map PyData.int)) (.list [])) = decide (len ≠ 0) := by
      subst hl
      cases xs <;> simp [PyData.eqv, PyData.eqvAll]
    rw [ev]
    exact k _ _ u (.refl e) (.bl _) h
/-- m["left"][j] = e -/
theorem ws_mSet {i j : Nat} {a : Addr} {x : Int} (hd : ds[i]? = some (some (.strm a (.mp len)))) (hj : ds[j]? = some (some (.int x))) (x0 : 0 ≤ x) (x1 : x < len) (h : We K Z te ds n fun d m => ∃ y : Int, d = .int y ∧ 0 ≤ y ∧ N.nx ds m) :
    Ws K Z (tAsg te (gSub (tDGet (tVar i) (tC (.str (Str.ofString "left")))) (tVar j) rSetL)) ds n N := fun b u σ De e S O =>
  h b u σ _ e S fun v d u1 g1 s1 r ⟨y, z, y0, p⟩ => by
    subst z
    cases den_int r
    have S1 := S.go g1 s1
    obtain ⟨hv, hs, ht, h0, o, h1, l, l2, cs, c, rfl, q, z1, z2, z3, z4, z5⟩ := strm_at S1 hd
    obtain ⟨vj, hvj, hSj⟩ := S1.sl j _ hj
    cases den_int (hSj.imm rfl)
    obtain ⟨_, _, _, m0, xs, hx, hl, hp⟩ := nats_at (len := len) s1 (.strm z4 z5)
    have w := DGet.k (k := ky "left") h1
    rw [get3 ksl kal] at w
    obtain ⟨gg, ss⟩ := gs_strm (o := .lst ((xs.set x.toNat y).map V.int)) (k := u1.n) g1.c s1 z4 (Nat.le_refl _) (by
      rw [z5]
      refine ⟨xs.set x.toNat y, rfl, by rw [List.length_set]; exact hl, fun t ht => ?_⟩
      rcases List.mem_or_eq_of_mem_set ht with q | q
      · exact hp t q
      · rw [q]; exact y0)
    refine ⟨.ref a, hv, a, .ref l2, rfl, w, .int x, hvj, l2, _, x, x.toNat, rfl, rfl, hx, ?_, ?_⟩
    · unfold ixN
      rw [if_pos x0, if_pos (by rw [List.length_map]; omega)]
    · rw [show (xs.map V.int).set x.toNat (V.int y) = (xs.set x.toNat y).map V.int from (List.map_set).symm]
      exact O.nx _ ⟨u1.S, u1.T, u1.n, u1.H0, _⟩ _ (g1.trans gg).ls (S1.go gg ss) p
/-- a comprehension whose list stays apart -/
theorem lc_raw {wi : TI} {vs : List Nat} {Pn : List D → Nat → Prop} {Q : VK} (e : u.n = n) (S : Sd K Z b u σ ds) (h : Wi K Z wi ds n fun xs m => ∃ Iv : Nat → List D → Nat → Prop, Iv 0 [] m ∧
    (∀ i x ys k, xs[i]? = some x → Iv i ys k → Wgc K Z g vs x (wipeD ds vs) fun ds2 => Wt K Z tt ds2 k fun c j => if c = true then We K Z te ds2 j (fun y l => ys.length < 1000000 ∧ Iv (i + 1) (ys ++ [y]) l) else Iv (i + 1) ys j) ∧
    (∀ ys k, Iv xs.length ys k → Pn ys k))
    (kQ : ∀ Dl u1 w acc ys, Gs u u1 → u1.H1 Dl = none → Gs u1 w → StOk K w → w.H0 Dl = none → ¬ w.S Dl → w.H1 Dl = some (.lst acc) → Dens K w acc ys → Pn ys w.n → Q (.ref Dl) w.H1) : tLc wi g tt te vs σ u.H1 Q :=
  h b u σ _ e S fun J xs u1 G Y g1 s1 ⟨Iv, i0, is, idn⟩ w hG hY => fun Dl hD => by
    have n0 : u1.H0 Dl = none := ex_none g1.c hD
    have nS : ¬ u1.S Dl := s1.not hD
    refine lc_it w (fun i H' => ∃ w ys acc, w.H1 = H' ∧ Gs u1 w ∧ StOk K w ∧ w.H0 Dl = none ∧ ¬ w.S Dl ∧ H' Dl = some (.lst acc) ∧ Dens K w acc ys ∧ Iv i ys w.n)
      ⟨⟨u1.S, u1.T, u1.n, u1.H0, upd u1.H1 Dl (.lst [])⟩, [], [], rfl, (Gs.refl g1.c).write hD n0, s1.write nS, n0, nS, upd_same, .nil, i0⟩ (fun i H' _ ⟨w, ys, acc, eh, g', _⟩ => eh ▸ hG w g'.ls g'.c) ?_ ?_
    · rintro i v H' H'' hi ⟨w, ys, acc, rfl, g', sw, c0, cS, hc, hr, iv⟩ y
      obtain ⟨x, w', rfl, hx, g2, r⟩ := hY w i v H'' g'.ls g'.c sw hi y
      have c1 := g2.g.nn c0 hc
      have cS1 := g2.g.ns cS hc
      have hc1 := g2.g.b _ _ cS hc
      have S1 := ((S.go g1 s1).go (g'.trans g2.g) (g2.st sw)).wipe vs
      have q := is i x ys w.n hx iv
      rw [← g2.n] at q
      refine q b w' (L2.wipe σ vs) v _ S1 r fun ds2 σ2 S2 l2 f2 q => ⟨wipe_of (l2.trans (wipe_length _ _)) f2, q b w' σ2 _ rfl S2 fun c u3 g3 s3 q3 => ?_⟩
      have c2 := g3.nn c1 hc1
      have cS2 := g3.ns cS1 hc1
      have hc2 := g3.b _ _ cS1 hc1
      cases c with
      | false => exact ⟨u3, ys, acc, rfl, (g'.trans g2.g).trans g3, s3, c2, cS2, hc2, hr.mono (g2.g.ls.trans g3.ls), q3⟩
      | true =>
        refine q3 b u3 σ2 _ rfl (S2.go g3 s3) fun y d u4 g4 s4 r4 ⟨hl, p4⟩ => ?_
        have c3 := g4.nn c2 hc2
        have cS3 := g4.ns cS2 hc2
        have hc3 := g4.b _ _ cS2 hc2
        have l4 : Le u4 ⟨u4.S, u4.T, u4.n, u4.H0, upd u4.H1 Dl (.lst (acc ++ [y]))⟩ := ⟨fun _ h => h, fun _ _ => rfl, .refl _⟩
        exact ⟨acc, hc3, by rw [hr.len]; exact Nat.lt_of_lt_of_le hl (by decide), ⟨u4.S, u4.T, u4.n, u4.H0, upd u4.H1 Dl (.lst (acc ++ [y]))⟩, ys ++ [d], acc ++ [y], rfl, (((g'.trans g2.g).trans g3).trans g4).write hD c3, s4.write cS3, c3, cS3, upd_same, ((hr.mono ((g2.g.ls.trans g3.ls).trans g4.ls)).app (.cons r4 .nil)).mono l4, p4⟩
    · rintro H' ⟨w, ys, acc, rfl, g', sw, c0, cS, hc, hr, iv⟩
      exact kQ Dl u1 w acc ys g1 hD g' sw c0 cS hc hr (idn ys _ iv)
theorem tP3 {a c d e : V} {ta tb : TE} {H : Hp} {Q : List (V × V) → Hp → Prop} (h : ta σ H fun y1 H1 => tb σ H1 fun y3 H3 => Q [(a, y1), (c, d), (e, y3)] H3) : tPairs [(tC a, ta), (tC c, tC d), (tC e, tb)] σ H Q := h
theorem upd_id {H : Hp} {a : Addr} {o : HO} (h : H a = some o) : upd H a o = H := by
  funext x
  by_cases q : x = a
  · rw [q, upd_same, h]
  · rw [upd_ne q]
/-- return {"script": script, "at": 0, "left": [..]} -/
theorem ws_mNew {wi : TI} {vs : List Nat} {cs : List Int} (hd : ds[0]? = some (some (.lst (cs.map .int)))) (h : Wi K Z wi ds n fun xs m => ∃ Iv : Nat → List D → Nat → Prop, Iv 0 [] m ∧
    (∀ i x ys k, xs[i]? = some x → Iv i ys k → Wgc K Z g vs x (wipeD ds vs) fun ds2 => Wt K Z tt ds2 k fun c j => if c = true then We K Z te ds2 j (fun y l => ys.length < 1000000 ∧ Iv (i + 1) (ys ++ [y]) l) else Iv (i + 1) ys j) ∧
    (∀ ys k, Iv xs.length ys k → ∃ zs : List Int, ys = zs.map D.int ∧ zs.length = cs.length ∧ (∀ z ∈ zs, 0 ≤ z) ∧ ∀ p, N.rt (.strm p (.mp cs.length)) k)) :
    Ws K Z (tRet (tDisp [(tC (.str (Str.ofString "script")), tVar 0), (tC (.str (Str.ofString "at")), tC (.int 0)), (tC (.str (Str.ofString "left")), tLc wi g tt te vs)])) ds n N := fun b u σ De e S O => fun p hp => by
  have G0 : Gs u ⟨u.S, u.T, u.n, u.H0, upd u.H1 p (.dK [])⟩ := Gs.junk S.ex (o := .dK []) hp
  have nS : ¬ u.S p := S.st.not hp
  have n0 : u.H0 p = none := ex_none S.ex hp
  have S0 := S.go G0 (S.st.write nS)
  obtain ⟨v, hv, hS⟩ := S0.sl 0 _ hd
  obtain ⟨l, vl, rfl, q, rr⟩ := den_lst (hS.imm rfl)
  have ev := dens_ints rr
  subst ev
  refine tP3 ⟨.ref l, hv, ?_⟩
  refine lc_raw (b := b) (u := ⟨u.S, u.T, u.n, u.H0, upd u.H1 p (.dK [])⟩) e S0 h fun Dl u1 w acc ys g1 hD g2 sw c0 cS hc hr ⟨zs, e1, e2, e3, hP⟩ => ?_
  subst e1
  have ea := dens_ints hr
  subst ea
  have gg := g1.trans g2
  have hp3 : w.H1 p = some (.dK []) := gg.b p _ nS upd_same
  have h03 : w.H0 p = none := gg.nn n0 upd_same
  have hS3 : ¬ w.S p := gg.ns nS upd_same
  have hDu : u.H1 Dl = none := by
    cases q : u.H1 Dl with
    | none => rfl
    | some o => exact absurd hD (g1.b' Dl (G0.b' Dl (by rw [q]; simp)))
  have pD : p ≠ Dl := fun z => by rw [z, hc] at hp3; cases hp3
  obtain ⟨g3, s3⟩ := Gs.toStrm (k := .nats cs.length) (o := .lst (zs.map V.int)) (G0.trans gg) sw hDu c0 cS ⟨zs, rfl, e2, e3⟩
  have hq3 := gg.a.trans (.refl _)
  obtain ⟨g4, s4⟩ := Gs.toStrm (k := .mp cs.length) (p := p) (o := .dK [(ky "script", .ref l), (ky "at", .int 0), (ky "left", .ref Dl)]) g3 s3 hp h03 (fun z => z.elim hS3 pD) ⟨l, Dl, cs, 0, rfl, Evl.ex_l gg.a q, rfl, Int.le_refl _, Int.natCast_nonneg _, .inr rfl, if_pos rfl⟩
  refine ⟨hp3, [(ky "script", .ref l), (ky "at", .int 0), (ky "left", .ref Dl)], rfl, (by show 3 ≤ 15; decide), ?_⟩
  rw [merge3 ksa ksl kal]
  have key := O.rt (.strm p (.mp cs.length)) (.ref p) _ (S.gr.trans g4) s4 (.strm (.inr rfl) (if_pos rfl)) (hP p)
  simp only [upd_id hc] at key
  exact key
end
end DL

namespace L2
open PySem
end L2
namespace DL
open PySem L2 StX
section
variable {K : PySem.W.Frag} [Tb K] {Z Z' : ZX} {b u u' u'' : Wd} {σ : L2.St} {ds : DS} {n : Nat} {P : D → Nat → Prop} {te : TE} {N : Nd} {De : Ends}
/-- slots that hold no thing that is being made -/
def immO : Option D → Option D
  | some d => if isMut d then none else some d
  | none => none
def immDS (ds : DS) : DS := ds.map immO
theorem imm_get {i : Nat} {d : D} (h : (immDS ds)[i]? = some (some d)) : ds[i]? = some (some d) ∧ isMut d = false := by
  unfold immDS at h
  rw [List.getElem?_map] at h
  cases q : ds[i]? with
  | none => rw [q] at h; cases h
  | some o =>
    rw [q] at h
    cases o with
    | none => cases h
    | some e =>
      simp only [Option.map_some, immO] at h
      by_cases m : isMut e = true
      · rw [if_pos m] at h; cases h
      · rw [if_neg m] at h
        cases h
        exact ⟨rfl, by simpa using m⟩
/-- the same slots from here on -/
theorem Sd.imm (S : Sd K Z b u σ ds) {w : Wd} (l : Le u w) (e : Ex w.H0 w.H1) (st : StOk K w) (xk : XOk K Z' w) : Sd K Z' w w σ (immDS ds) := by
  refine ⟨.refl e, xk, st, by simp [S.len, immDS], fun i d h => ?_, fun i j d e a c h1 h2 m1 m2 => ?_⟩
  · obtain ⟨q, m⟩ := imm_get h
    obtain ⟨v, h1, h2⟩ := S.sl i d q
    exact ⟨v, h1, .den ((h2.imm m).mono l)⟩
  · rw [(imm_get h1).2] at m1; cases m1
/-! ### lambdas -/
/-- what is told of a lambda's reading, from the world u0 on -/
def TlOk (K : PySem.W.Frag) [Tb K] (tl : XK → Hp → VK → Prop) (u0 : Wd) (n0 : Nat) (P : D → Nat → Prop) (X0 : Xp) : Prop :=
  ∀ (E : XK) (w : Wd) (Q : VK), Le u0 w → w.n = n0 → Ex w.H0 w.H1 → StOk K w → (∀ v d w', Gs w w' → StOk K w' → Den K w' v d → P d w'.n → Q v w'.H1) → XOk K ⟨E, X0⟩ w → tl E w.H1 Q
abbrev Rg := (D → Nat → Prop) → Xp → Nat → (D → Nat → Prop) → Prop
def TTd (K : PySem.W.Frag) [Tb K] (q : Str) (RG : Rg) : (XK → Hp → VK → Prop) → Addr → Addr → Hp → VK → Prop := fun tl f c' H Q => ∃ (u : Wd) (P0 : D → Nat → Prop) (X0 : Xp) (P : D → Nat → Prop), u.H1 = H ∧ Ex u.H0 u.H1 ∧ StOk K u ∧ u.H0 c' = some (LamX.CodeO c' q) ∧
  TlOk K tl u u.n P0 X0 ∧ RG P0 X0 u.n P ∧ ∀ v d u', Gs u u' → StOk K u' → Den K u' v d → P d u'.n → Q v u'.H1
end
end DL

namespace DL
open PySem L2 StX
open PyProof.Rows (envOfC)
section
variable {K : PySem.W.Frag} [Tb K] {Z : ZX} {b u u' : Wd} {σ : L2.St} {ds : DS} {n : Nat} {P : D → Nat → Prop} {te ta tb : TE} {t tk : TA} {N : Nd} {C : Addr} {E : XK} {R : Rl}
/-! ### own == -/
/-- what a class must say so that its instances' type is told -/
structure TyC (K : PySem.W.Frag) (C : Addr) : Prop where
  c : Cls K C
  a : PySem.W.findIn K (.ref C) "__class__" = some (some (.builtin "object.__class__"))
  g : PySem.W.specialIn K (.builtin "object.__class__") "__get__" = some (some (.builtin "getset_descriptor.__get__"))
  t : PySem.W.takesIn K (.builtin "object.__class__") = some true
  m : PySem.W.mroIn K C (.type "object") = some true
/-- the type of a thing -/
def TyD (K : PySem.W.Frag) (d : D) (w : Value) : Prop := (∃ T, tyD d = some T ∧ w = .type T) ∨ ∃ C fs, d = .obj C fs ∧ w = .ref C ∧ TyC K C
theorem den_tyX {v : V} {d : D} {w : Value} (ex : Ex u.H0 u.H1) (h : Den K u v d) (ht : TyD K d w) : TyX K u.H1 v w := by
  have h' := Den.mono (show Le u ⟨u.S, u.T, u.n, u.H1, u.H1⟩ from ⟨fun _ h => h, fun _ _ => rfl, ex⟩) h
  rcases ht with ⟨T, h1, rfl⟩ | ⟨C, fs, rfl, rfl, tc⟩
  · exact den_ty h' h1
  · obtain ⟨a, dx, fv, rfl, ha, _⟩ := den_obj h'
    exact .base (.ins ha tc.c tc.a tc.g tc.t tc.m)
theorem eqO {P : D → Prop} {x y : D} {fs : List (Str × D)} {w : Value} (hx : x = .obj C fs) (ht : TyD K y w) (nf : PySem.W.notFirst K C w = true) (h : ∀ n, R [x, y] n (fun d m => m = n ∧ ∃ b, d = .bl b ∧ P (.bl b)) noX) : Op K (rEqO K C (spD K R)) x y P := fun u v z Q ex st r1 r2 k => by
  subst hx
  obtain ⟨a, dx, fv, rfl, ha, hf⟩ := den_obj r1
  refine ⟨a, dx, fv, w, rfl, ex _ _ ha, den_tyX ex r2 ht, nf, u, _, _, noX, rfl, ex, st, .cons r1 (.cons r2 .nil), h u.n, ?_, xok_no⟩
  rintro v' d u1 g1 s1 r' ⟨hm, c, rfl, p⟩
  cases den_bl r'
  exact ⟨c, rfl, k _ _ u1 ⟨g1, fun _ => s1, hm⟩ (.bl c) p⟩
/-- isinstance(x, C), C a class of the program -/
theorem isiC {P : D → Prop} {d : D} {w : Value} {c : Addr} {r : Bool} (ht : TyD K d w) (hk : PySem.W.kitOne K w (.ref c) = some r) (h : P (.bl r)) : Cb K (rIsi K) [d, .cls c] P := fun u vs Q e rs k => by
  obtain ⟨v, z, rfl, r1, r2⟩ := dens2 rs
  cases r2
  exact ⟨v, .ref c, w, .ref c, r, rfl, .own c, den_tyX e r1 ht, hk, k _ _ u (.refl e) (.bl _) h⟩
end
/-! ### defs -/
section
variable {Pr : Program} {w : World} {K : PySem.W.Frag} [Tb K] {mg : Str → Option Value} {base : Heap} {R : Rl}
end
section
variable {Pr : Program} {w : World} {K : PySem.W.Frag} {mg : Str → Option Value} {base : Heap} {C fI : Addr} {f : Str} {tl : List Value} {B newId initId : String}
end
theorem lookup_nodup {tb : List (Addr × Str)} (hn : (tb.map (·.1)).Nodup) : ∀ p ∈ tb, tb.lookup p.1 = some p.2 := by
  induction tb with
  | nil => intro p hp; cases hp
  | cons q tb ih =>
    intro p hp
    obtain ⟨a, n⟩ := q
    rw [List.map_cons, List.nodup_cons] at hn
    rw [List.lookup_cons]
    rcases List.mem_cons.mp hp with rfl | hp
    · simp
    · have : p.1 ≠ a := fun z => hn.1 (by rw [← z]; exact List.mem_map.mpr ⟨p, hp, rfl⟩)
      have e : (p.1 == a) = false := by simpa using this
      rw [e]
      exact ih hn.2 p hp
/-- where a law begins: its script is told, the tables are empty -/
theorem law_begin {K : PySem.W.Frag} {tb : List (Addr × Str)} [i : Tb K] {R : Rl} {H : Hp} {a : Addr} {ns : List Int} (n0 : Nat) (hS : SqL K H a (ns.map V.int)) (hi : Tb.tb K = tb) (hn : (tb.map (·.1)).Nodup) (hT : ∀ p ∈ tb, H p.1 = some (.tbl #[])) (hR : R [.lst (ns.map .int)] n0 (fun d _ => d = .bl true) noX) :
    spD K R [.ref a] H (fun v _ => v = .bl true) fun _ _ _ => False := by
  have mem : ∀ x, x ∈ tb.map (·.1) → H x = some (.tbl #[]) := fun x hx => by
    obtain ⟨p, hp, e⟩ := List.mem_map.mp hx
    rw [← e]; exact hT p hp
  have hH0 : ∀ x o, H x = some o → (∀ ps, o ≠ .tbl ps) → (if x ∈ tb.map (·.1) then none else H x) = some o := fun x o h n => by
    rw [if_neg (fun z => by rw [mem x z] at h; cases h; exact n _ rfl)]; exact h
  refine ⟨⟨fun x => x ∈ tb.map (·.1), fun x => .tbl ((tb.lookup x).getD Str.empty), n0, fun x => if x ∈ tb.map (·.1) then none else H x, H⟩, [.lst (ns.map .int)], fun d _ => d = .bl true, noX, rfl, fun x o h => ?_, ⟨fun x hx => ⟨if_pos hx, _, mem x hx, #[], rfl, True.intro, fun pos cv hc => ?_⟩, fun p hp => ?_, fun x q hx hq => ?_⟩, .cons (.lst ?_ (ints_dens ns)) .nil, hR, fun v d _ _ _ r p => by cases p; exact den_bl r, xok_no⟩
  · have h' : (if x ∈ tb.map (·.1) then none else H x) = some o := h
    show H x = some o
    by_cases z : x ∈ tb.map (·.1)
    · rw [if_pos z] at h'; cases h'
    · rw [if_neg z] at h'; exact h'
  · have z : codeAmong pos [] = some cv := hc
    simp [codeAmong] at z
  · rw [hi] at hp
    refine ⟨List.mem_map.mpr ⟨p, hp, rfl⟩, ?_⟩
    show SK.tbl ((tb.lookup p.1).getD Str.empty) = _
    rw [lookup_nodup hn p hp]; rfl
  · rw [hi]
    obtain ⟨p, hp, e⟩ := List.mem_map.mp (show x ∈ tb.map (·.1) from hx)
    have hq' : SK.tbl ((tb.lookup x).getD Str.empty) = .tbl q := hq
    rw [← e, lookup_nodup hn p hp] at hq'
    cases hq'
    rw [← e]
    exact hp
  · rcases hS with (h | ⟨o, h⟩) | h
    · exact .inl (.inl (hH0 _ _ h fun _ z => by cases z))
    · exact .inl (.inr ⟨o, hH0 _ _ h fun _ z => by cases z⟩)
    · exact .inr h
end DL

/-! Classmethods called by keywords, cls(..), texts backwards. -/
namespace L2
open PySem PySem.Spec PyProof.Rows ClX
section
variable {X : Cx} {CX : CXT} {k : Nat} {C p f g : Addr} {mc : Value} {fd : FuncData} {ps ks : List Str} {ds : List Value} {dvs : List V} {sp : Sp} {E : XK} {o e : Expr} {es : List Expr} {kws : List Keyword} {m x : Str} {np pos apos : Pos} {te ta : TE} {t tk : TA} {gL : List Value → List Value → List Value} {gV : List V → List V → List V}
/-- C.m(k = v, ..), m a classmethod -/
def tCMethN (C : Addr) (nk : Nat) (sp : Sp) (gV : List V → List V → List V) (E : XK) (ta : TE) (tk : TA) : TE := fun σ H Q => ta σ H fun y H1 => y = .ref C ∧ tk σ H1 fun zs H2 => zs.length = nk ∧ sp (gV [.ref C] zs) H2 Q E
/-- cls(..), the class a variable -/
def tMakeV (C : Addr) (sp : Sp) (dvs : List V) (E : XK) (te : TE) (t : TA) : TE := fun σ H Q => te σ H fun y H1 => y = .ref C ∧ tMake C sp dvs E t σ H1 Q
/-- a text backwards -/
def revS (z : Str) : Str := ⟨z.cps.toList.reverse.toArray⟩
def tRevS (te : TE) : TE := fun σ H Q => te σ H fun x H1 => ∃ z, x = .str z ∧ z.length ≤ sizeLine ∧ Q (.str (revS z)) H1
end
end L2

namespace DL
open PySem L2 StX ClX
section
variable {K : PySem.W.Frag} [Tb K] {Z : ZX} {ds : DS} {n : Nat} {P : D → Nat → Prop} {te ta : TE} {t tk : TA} {C : Addr} {E : XK} {R : Rl}
/-- C.m(..) of a class -/
theorem we_cmeth (h : We K Z ta ds n fun o j => o = .cls C ∧ Wa K Z t ds j fun xs k => R (.cls C :: xs) k P noX) : We K Z (tCMeth C (spD K R) E ta t) ds n P := fun b u σ Q e S k =>
  h b u σ _ e S fun v o u1 g1 s1 r ⟨z, q⟩ => by
    subst z
    cases r
    exact ⟨rfl, q b u1 σ _ rfl (S.go g1 s1) fun vs xs u2 g2 s2 r2 p => ⟨u2, .cls C :: xs, P, noX, rfl, g2.c, s2, .cons (.cls C) r2, p, fun v d u3 g3 s3 r' p' => k v d u3 ((g1.trans g2).trans g3) s3 r' p', xok_no⟩⟩
end
end DL

/-! What is known of repr's guards, carried from the law down to the defs that ask for repr. -/
namespace L2
open PySem PySem.Spec PyProof.Rows
section
variable {X : Cx}
/-- repr of a list or a tuple of data -/
def rRepr (K : PySem.W.Frag) : List V → Hp → VK → Prop := fun xs H Q => ∃ a d, xs = [.ref a] ∧ Dp K H (.ref a) d ∧ d.showable = true ∧ d.hasDict = false ∧ d.depth ≤ 60 ∧ d.shown.length ≤ sizeLine ∧ Q (.str d.shown) H
theorem call_repr (hg : X.A.guards = some []) (hu : X.A.units + 64 < cLine) : CallR X (.builtin "repr") (rRepr X.K) := by
  intro pins s σ H xs us Q I r ⟨a, d, e, hd, h1, h2, h3, h4, q⟩
  subst e
  obtain ⟨u1, rfl, r1⟩ := vals1 r
  cases r1
  obtain ⟨as, hr⟩ := Dp.reads I d _ _ hd rfl
  exact repr_of_reads' hr h1 (fun z => by rw [h2] at z; cases z) hg (by omega) (fun _ _ e => e) (fun h' u tk hk => ⟨.str _, H, I.kept hk, ⟨_, rfl⟩, q⟩) h4
end
/-- a def that may be called where no repr is under way -/
structure FnG (P : Program) (w : World) (K : PySem.W.Frag) (mg : Str → Option Value) (base : Heap) (CX : CXT) (k : Nat) (f : Addr) (fd : FuncData) (ps : List Str) (sp : Sp) : Prop where
  size : ∀ {vs : List V} {H : Hp} {Q : VK} {E : XK}, sp vs H Q E → vs.length = ps.length
  goes : ∀ {A : Around} {outer : List Env} {s : Shared} {H : Hp} {args : Args} {us : List Value} {vs : List V} {Q : VK} {E : XK}, A.guards = some [] → Room k A → Env0 P w K mg base A outer s H → BindsTo s fd args (ps.zip us) → Vals vs us → sp vs H Q E →
    codeAny (model P w) A (.call (.ref f) args) (CR CX outer P w H s Q E) s
section
variable {P : Program} {w : World} {K : PySem.W.Frag} {mg : Str → Option Value} {base : Heap} {CX : CXT} {k : Nat} {f : Addr} {fd : FuncData} {ps N : List Str} {sp : Sp}
/-- a def by its body, the guards told -/
theorem Fun.okG {x qual : Str} {st : Stmt} (F : Fun K x qual st f fd) (S : FnScope N ps (defScope st)) (len : ∀ vs H Q E, sp vs H Q E → vs.length = ps.length)
    (hbody : ∀ (cdv : Value) (A : Around) (outer : List Env) (s : Shared) (H : Hp) (vs : List V) (Q : VK) (E : XK), fd.code = cdv → (A.deeper (envOfC qual (defScope st) s.heap.objs.size f cdv)).guards = some [] → Room k (A.deeper (envOfC qual (defScope st) s.heap.objs.size f cdv)) → sp vs H Q E →
      ∃ t, PSs (cxOf CX P w K mg base N qual (defScope st) f cdv A outer s H E) (defBody st) t ∧ t { nx := fun _ H' => Q .non H', rt := Q } (start N vs) H) :
    FnG P w K mg base CX (k + 1) f fd ps sp := by
  obtain ⟨oc, od, kV, doc, pm, an, cdv, ct, osl, rfl, lk, hcg⟩ := F.ex
  refine ⟨len _ _ _ _, fun {A outer s H args us vs Q E} hg hr e0 hb rv h => ?_⟩
  have same : ∀ b o, base.get? b = some o → s.heap.get? b = some o := fun b o e => (e0.bs b o e).1
  have KH : K.In s.heap := e0.mod.kin.keeps same
  refine codeAny_call_function hr.depth (KH _ _ lk) rfl S.co S.gen rfl (PySem.W.codeRec_of KH hcg) (hb _ _ _ _ (wpAny_newFunctionEnv_cells S.kind (fun ⟨y, z⟩ hy => ?_) fun env he s1 c => ?_))
  · exact (S.par y (List.of_mem_zip hy).1).elim .inl fun q => .inr ⟨q, PySem.W.cellsFrom_some _ _ _ (.inl q)⟩
  · subst he
    refine ⟨(e0.mod.nolimit.keeps same).keeps c.toInCall.keep, codeAny_func ?_⟩
    obtain ⟨t, ht, hq⟩ := hbody cdv A outer s H vs Q E rfl hg (hr.deeper _) h
    refine wpAny_mono (ht.run [] s1 (start N vs) H _ (inv_start S hr.hd e0 (len _ _ _ _ h) rv c) hq) (fun fl s' z => ?_) fun _ _ z => z
    match fl, z with
    | .ret u, ⟨v, σ', H', J, rv', q⟩ => exact ⟨v, H', J.os, J.bare, J.base, J.hok, rv', q⟩
    | .next, ⟨σ', H', J, q⟩ => exact ⟨.non, H', J.os, J.bare, J.base, J.hok, rfl, q⟩
    | .brk, ⟨_, _, _, q⟩ => exact q.elim
    | .cont, ⟨_, _, _, q⟩ => exact q.elim
end
section
variable {X : Cx} {CX : CXT} {k : Nat} {f : Addr} {fd : FuncData} {ps : List Str} {sp : Sp} {E : XK} {x : Str} {np pos : Pos} {e : Expr} {es : List Expr} {t : TA}
/-- f(..), f told with the guards -/
theorem pe_callG (hgu : X.A.guards = some []) (F : FnG X.prog X.w X.K X.mg X.base CX k f fd ps sp) (hr : Room k X.A) (hg : Gl X x) (hm : X.mg x = some (.ref f)) (hk : PySem.W.keepIn X.K (.ref f) = true) (hb : L2.Binds X.K fd ps []) (hx : Passes CX X E) (ha : PA X (e :: es) t)
    (hdb : (x == ("__debug__" : Str)) = false := by decide) (he : starEach (e :: es) X.env = (false, eval e X.env) :: starEach es X.env := by rfl) (hpl : (backTo pos (starEach es X.env)).any (·.1) = false := by rfl) :
    PE X (.Call (.Name x np) (e :: es) [] pos) (tCall sp [] E t) := by
  refine ⟨fun pins s σ H Q I h => wpAny_Call_Name_kw (ld_glob I hg hm (PySem.W.callWith_K (h₀ := X.base) I.ok.mod.kin hk (thn (ha.run pos pins s σ H _ I h) fun us s1 ⟨vs, H1, I1, rv, q⟩ => ⟨I1.kIn, ?_⟩) he hpl) hdb)⟩
  have rv2 : Vals (vs ++ []) (us ++ []) := rv.append .nil
  have hl : (us ++ []).length = ps.length := rv2.length.symm.trans (F.size q)
  refine wpAny_call (codeAny_mono (F.goes hgu hr I1.env0 (hb s1 us I1.kIn hl) rv2 q) fun fl s2 z => ?_)
  match fl, z with
  | .error er, z => exact hx pins σ H1 s1 er s2 I1 z
  | .ok (.ret u), z => exact I1.after z
  | .ok .next, z => exact False.elim z
  | .ok .brk, z => exact False.elim z
  | .ok .cont, z => exact False.elim z
end
end L2

/-! The end of a law whose def is told with the guards. -/
namespace LamX
open PySem PySem.Spec PyProof.Rows L2
/-- what a law begins with: empty tables, and its script, unless that is written out already -/
def beginH (ts : List Addr) (a : Addr) (o : Obj) (xs : List V) (kn : Bool) : Hp := fun b => if b ∈ ts then some (.tbl #[]) else if b = a ∧ kn = false then some (.frz o (.lst xs)) else none
section
variable {P : Program} {w : World} {K : PySem.W.Frag} {mg mb : Str → Option Value} {CX : CXT} {k : Nat} {fa a : Addr} {cs : List (Addr × Addr)} {fd : FuncData} {x : Str} {sp : Sp} {s₁ : Shared} {vs : List Value} {ns : List Int}
theorem law_callG (KX : K.In s₁.heap) (gN : s₁.heap.Ns mainGlobals mg) (bN : s₁.heap.Ns builtinsNs mb) (bB : ∀ y : Str, y ≠ "__name__" → mb y = bootBuiltins y) (nl : s₁.heap.NoLimit) (ge : s₁.gens = #[])
    (tE : ∀ p ∈ cs, s₁.heap.get? p.2 = some { cls := .none, data := .fields #[] }) (tN : ∀ p ∈ cs, K.lookup p.2 = none) (tC : ∀ p ∈ cs, PySem.W.CodeHd s₁.heap p.1 p.2)
    (bm : ∃ (c : Addr) (o : Obj), mg "__builtins__" = some (.ref c) ∧ c ≠ builtinsNs ∧ s₁.heap.get? c = some o ∧ o.cls = .type "module" ∧ o.dict = some builtinsNs ∧ o.data = .plain)
    (sc : s₁.heap.get? a = some { cls := .type "list", data := .seq vs.toArray }) (si : IntsAre vs ns) (sl : ns.length ≤ sizeLine) (hr : Room k callerA)
    (F : ∀ b : Heap, K.In b → b.Ns mainGlobals mg → (∀ p ∈ cs, TabB b mg p.1 p.2) → FnG P w K mg b CX k fa fd [x] sp) (fb : ∀ (s : Shared) (u : Value), BindsTo s fd ⟨[u], []⟩ [(x, u)])
    (go : ∀ H : Hp, (∀ p ∈ cs, H p.2 = some (.tbl #[])) → SqL K H a (ns.map V.int) → sp [.ref a] H (fun v _ => v = .bl true) fun _ _ _ => False)
    (noE : ∀ H e s', CX [] H s₁ (fun _ _ _ => False) e s' → False) :
    codeAny (model P w) callerA (.call (.ref fa) ⟨[.ref a], []⟩) (fun r s' => r = .ok (.ret (.bool true)) ∧ OldK s₁.heap s'.heap ∧ s'.os = s₁.os ∧ AllBare s'.gens) s₁ := by
  have isTab : ∀ {b : Addr}, b ∈ cs.map (·.2) → ∃ p ∈ cs, p.2 = b := fun hb => List.mem_map.mp hb
  have tab : ∀ {b : Addr}, b ∈ cs.map (·.2) → s₁.heap.get? b = some { cls := .none, data := .fields #[] } := fun hb => let ⟨p, h1, h2⟩ := isTab hb; h2 ▸ tE p h1
  have aN : a ∉ cs.map (·.2) := fun z => by
    have q := congrArg Obj.data (Option.some.inj ((tab z).symm.trans sc))
    cases q
  generalize hH : beginH (cs.map (·.2)) a { cls := .type "list", data := .seq vs.toArray } (ns.map V.int) (K.lookup a).isSome = H
  have atT : ∀ {b : Addr}, b ∈ cs.map (·.2) → H b = some (.tbl #[]) := fun hb => by rw [← hH]; exact if_pos hb
  have atN : ∀ {b : Addr}, b ∉ cs.map (·.2) → (b = a → (K.lookup a).isSome = true) → H b = none := fun {b} h1 h2 => by
    rw [← hH]
    show (if b ∈ _ then _ else if b = a ∧ (K.lookup a).isSome = false then _ else _) = none
    rw [if_neg h1, if_neg fun z => by rw [h2 z.1] at z; cases z.2]
  have cases3 : ∀ (b : Addr) (u : HO), H b = some u → (b ∈ cs.map (·.2) ∧ u = .tbl #[]) ∨ (b = a ∧ (K.lookup a).isSome = false ∧ u = .frz { cls := .type "list", data := .seq vs.toArray } (.lst (ns.map V.int))) := fun b u z => by
    rw [← hH] at z
    have z' : (if b ∈ cs.map (·.2) then some (HO.tbl #[]) else if b = a ∧ (K.lookup a).isSome = false then some (.frz { cls := .type "list", data := .seq vs.toArray } (.lst (ns.map V.int))) else none) = some u := z
    split at z'
    · next h => cases z'; exact .inl ⟨h, rfl⟩
    · split at z'
      · next h => cases z'; exact .inr ⟨h.1, h.2, rfl⟩
      · cases z'
  have see : ∀ {b : Addr} {o : Obj}, s₁.heap.get? b = some o → (∀ v m, o.data ≠ .seq v m) → o.data ≠ .fields #[] → (hidT s₁.heap H).get? b = some o := fun {b o} e h1 h2 => hidT_get e (atN (fun z => by
    have q := (tab z).symm.trans e
    cases q
    exact h2 rfl) fun z => by
    subst z
    have q := sc.symm.trans e
    cases q
    exact absurd rfl (h1 _ _))
  have seeN : ∀ {b : Addr} {m : Str → Option Value}, s₁.heap.Ns b m → (hidT s₁.heap H).Ns b m := fun ⟨o, es, n, e, d, q⟩ => ⟨o, es, n, see e (fun v m => by rw [d]; exact fun z => nomatch z) (by rw [d]; exact fun z => nomatch z), d, q⟩
  have seeK : K.In (hidT s₁.heap H) := fun b o e => hidT_get (KX b o e) (atN (fun z => by
    obtain ⟨p, h1, h2⟩ := isTab z
    rw [← h2, tN p h1] at e
    cases e) fun z => by rw [← z, e]; rfl)
  have seeT : ∀ p ∈ cs, TabB (hidT s₁.heap H) mg p.1 p.2 := fun p hp => by
    obtain ⟨co, cv, c1, c2, c3, c4, c5, c6, c7, at_, f1, f2, f3, f4, f5, f6, f7, f8, f9⟩ := tC p hp
    refine ⟨⟨co, cv, c1, c2, c3, c4, c5, c6, c7, see at_ (fun v m => by rw [f2]; exact fun z => nomatch z) (by rw [f2]; intro z; injection z with z; rw [z] at f3; cases f3), f1, f2, f3, f4, f5, f6, f7, f8, f9⟩, ?_, fun z => ?_⟩
    · obtain ⟨c, o, b1, b2, b3, b4, b5, b6⟩ := bm
      refine ⟨c, o, b1, b2, fun z => ?_, fun z => ?_, see b3 (fun v m => by rw [b6]; exact fun z => nomatch z) (by rw [b6]; exact fun z => nomatch z), b4, b5, b6⟩
      · obtain ⟨o', es, n, e, d, -⟩ := gN
        rw [← z, b3] at e
        cases e
        rw [b6] at d
        cases d
      · rw [z, tE p hp] at b3
        cases b3
        cases b6
    · obtain ⟨o', es, n, e, d, -⟩ := gN
      rw [z, tE p hp] at e
      cases e
      cases d
  have iv := vals_ints si
  have ln := si.length
  have ok : HOk P w H s₁.heap := fun b u z => by
    rcases cases3 b u z with ⟨h, rfl⟩ | ⟨rfl, -, rfl⟩
    · exact tab h
    · exact ⟨sc, by rw [List.length_map]; exact sl, vs, _, iv, sc⟩
  have sq : SqL K H a (ns.map V.int) := by
    cases hk : K.lookup a with
    | some o =>
      have e := (KX a o hk).symm.trans sc
      cases e
      exact .inr ⟨_, vs.toArray, _, hk, rfl, rfl, rfl, by rw [List.size_toArray, ln]; exact sl, by simpa using iv⟩
    | none =>
      refine .inl (.inr ⟨{ cls := .type "list", data := .seq vs.toArray }, ?_⟩)
      rw [← hH]
      show (if a ∈ _ then _ else if a = a ∧ (K.lookup a).isSome = false then _ else _) = _
      rw [if_neg aN, if_pos ⟨rfl, by rw [hk]; rfl⟩]
  have e0 : Env0 P w K mg (hidT s₁.heap H) callerA [] s₁ H := {
    frames := rfl
    mod := ⟨seeK, seeN gN, ⟨mb, seeN bN, bB⟩, let ⟨c, n1, n2⟩ := nl; ⟨c, seeN n1, n2⟩⟩
    bs := fun b o e => of_hidT e
    bsz := Nat.le_of_eq (hidT_size _ _)
    funs := trivial
    frf := fun b z => nomatch z
    hok := ok
    bare := .of_eq ge }
  refine codeAny_mono ((F _ seeK (seeN gN) seeT).goes rfl hr e0 (us := [.ref a]) (vs := [.ref a]) (fb s₁ (.ref a)) (.cons rfl .nil) (go H (fun p hp => atT (List.mem_map.mpr ⟨p, hp, rfl⟩)) sq)) fun r s' z => ?_
  match r, z with
  | .error e, z => exact (noE H e s' z).elim
  | .ok .next, z => exact False.elim z
  | .ok .brk, z => exact False.elim z
  | .ok .cont, z => exact False.elim z
  | .ok (.ret u), ⟨v, H', so, sb, un, ok', rv, (q : v = .bl true)⟩ =>
    subst q
    obtain rfl : u = Value.bool true := rv
    have kept : ∀ b o, b ∉ cs.map (·.2) → s₁.heap.get? b = some o → s'.heap.get? b = some o := fun b o nb e => by
      cases q : H b with
      | none => exact un.keep b o e q (fun z => nomatch z) (fun z => nomatch z)
      | some u =>
        rcases cases3 b u q with ⟨h, -⟩ | ⟨rfl, -, rfl⟩
        · exact absurd h nb
        · rw [sc] at e
          cases e
          exact (ok' _ _ (un.frzs _ _ _ q)).1
    have more : ∀ {b : Addr}, b ∈ cs.map (·.2) → ∃ m : Array Value, s'.heap.get? b = some { cls := .none, data := .fields m } := fun {b} hb => let ⟨m, z⟩ := un.tbls b #[] (atT hb); ⟨_, ok' b _ z⟩
    refine ⟨rfl, ⟨fun b o e => ?_, fun b o e => ?_⟩, so, sb⟩
    · by_cases hb : b ∈ cs.map (·.2)
      · obtain ⟨p, h1, rfl⟩ := isTab hb
        obtain ⟨m, hm⟩ := more hb
        have e' := (tE p h1).symm.trans e
        cases e'
        exact .inr (.inl ⟨((tC p h1).tab (tE p h1)).isCodeTable, rfl, #[], m, rfl, by rw [Array.empty_append]; exact hm⟩)
      · exact .inl (kept b o hb e)
    · by_cases hb : b ∈ cs.map (·.2)
      · exact let ⟨m, hm⟩ := more hb; ⟨_, hm⟩
      · exact ⟨o, kept b o hb e⟩
end
/-- what is to be known of a law's def, with the guards -/
def LawAtG (l : PySem.W.OpenLaw) (w : World) (K : PySem.W.Frag) (CX : CXT) (k n : Nat) (x : Str) (mg : Str → Option Value) (fa : Addr) (h : Heap) : Prop :=
  ∃ (fd : FuncData) (cs : List (Addr × Addr)) (sp : Sp), (∀ p ∈ cs, h.get? p.2 = some { cls := .none, data := .fields #[] } ∧ K.lookup p.2 = none ∧ PySem.W.CodeHd h p.1 p.2) ∧ (∀ (s : Shared) (u : Value), BindsTo s fd ⟨[u], []⟩ [(x, u)]) ∧
    (∀ (H : Hp) (a : Addr) (ns : List Int), ns.length ≤ n → (∀ p ∈ cs, H p.2 = some (.tbl #[])) → SqL K H a (ns.map V.int) → sp [.ref a] H (fun v _ => v = .bl true) fun _ _ _ => False) ∧
    ∀ b : Heap, K.In b → b.Ns mainGlobals mg → (∀ p ∈ cs, TabB b mg p.1 p.2) → FnG l.prog w K mg b CX k fa fd [x] sp
theorem walkG {l : PySem.W.OpenLaw} {n k : Nat} {q : Program} {loose : List Str} {XP : (Str → Option Value) → Heap → Prop} {YP : World → Heap → Prop} {d : DefRec} {K : Params → PySem.W.Frag} {CX : World → CXT} {x : Str} (most : l.most = some n) (small : n ≤ sizeLine) (nodef : d.params.defaults = []) (hr : Room k callerA)
    (inK : ∀ (w : World) (h : Heap), YP w h → (K w.params).In h) (F : ∀ (w : World) (mg : Str → Option Value) (fa : Addr) (h : Heap), YP w h → (K w.params).In h → h.Ns mainGlobals mg → mg d.name = some (.ref fa) → LawAtG l w (K w.params) (CX w) k n x mg fa h)
    (noE : ∀ (w : World) (H : Hp) (s : Shared) (e : Value) (s' : Shared), CX w [] H s (fun _ _ _ => False) e s' → False) : PySem.W.WalkO q loose XP YP l.row.toRowW d [] (fun f vs => PySem.call f vs) :=
  Att.attach_callB most nodef fun w s₀ s₁ mg mb fa o pm cd doc a vs ns G Y ho hd hcd hmg sc si hl hbits hg =>
    let ⟨fd, cs, sp, hT, hb, hsp, hF⟩ := F w mg fa _ Y (inK w _ Y) G.T.g hmg
    law_callG (inK w _ Y) G.T.g G.T.b G.T.builtins G.T.nolimit hg (fun p hp => (hT p hp).1) (fun p hp => (hT p hp).2.1) (fun p hp => (hT p hp).2.2) G.T.bmain sc si (Nat.le_trans hl small) hr hF hb (fun H h1 h2 => hsp H a ns hl h1 h2) fun H e s' => noE w H s₁ e s'
end LamX

namespace DL
open PySem L2 StX
open PyProof.Rows (envOfC)
section
variable {K : PySem.W.Frag} [Tb K]
/-- repr of a list or a tuple of data without dicts -/
theorem repr_of {P : D → Prop} {d : D} {e : PyData} (hc : ∃ xs, d = .lst xs ∨ d = .tup xs) (h1 : pd d = some e) (h2 : e.showable = true) (h3 : e.hasDict = false) (h4 : e.depth ≤ 60) (h5 : e.shown.length ≤ sizeLine) (h : P (.str e.shown)) : Cb K (rRepr K) [d] P := fun u vs Q ex r k => by
  obtain ⟨v, rfl, r1⟩ := dens1 r
  have hd := den_dp ex r1 h1
  obtain ⟨xs, rfl | rfl⟩ := hc
  · obtain ⟨a, ws, rfl, q, r2⟩ := den_lst r1
    exact ⟨a, e, rfl, hd, h2, h3, h4, h5, k _ _ u (.refl ex) (.str _) h⟩
  · obtain ⟨a, ws, rfl, q, r2⟩ := den_tup r1
    exact ⟨a, e, rfl, hd, h2, h3, h4, h5, k _ _ u (.refl ex) (.str _) h⟩
end
section
variable {Pr : Program} {w : World} {K : PySem.W.Frag} [Tb K] {mg : Str → Option Value} {base : Heap} {R : Rl}
/-- a def that asks for repr, or calls one that does; its code object is cdv (for lambdas) -/
theorem dokG {x qual : Str} {st : Stmt} {f : Addr} {fd : FuncData} {N ps : List Str} {k : Nat} (F : Fun K x qual st f fd) (S : FnScope N ps (defScope st)) (len : ∀ ds n P X, R ds n P X → ds.length = ps.length) (hNp : ps.length ≤ N.length)
    (hbody : ∀ (cdv : Value) (A : Around) (outer : List Env) (s : Shared) (H : Hp) (E : XK), fd.code = cdv → (A.deeper (envOfC qual (defScope st) s.heap.objs.size f cdv)).guards = some [] → Room k (A.deeper (envOfC qual (defScope st) s.heap.objs.size f cdv)) →
      ∃ t, PSs (cxOf CX0 Pr w K mg base N qual (defScope st) f cdv A outer s H E).nox (defBody st) t ∧ ∀ Z ds n P, R ds n P Z.X → Ws K Z t (startD N.length ds) n { nx := fun _ m => P .non m, rt := P }) : FnG Pr w K mg base CX0 (k + 1) f fd ps (spD K R) := by
  refine F.okG S (fun vs H Q E ⟨u, ds, P, X, _, e, _, r, h, _⟩ => by rw [r.len]; exact len ds _ P X h) (fun cdv A outer s H vs Q E hcd hg hr ⟨u, ds, P, X, eh, e, st, r, h, q, xk⟩ => ?_)
  obtain ⟨t, ht, hW⟩ := hbody cdv A outer s H E hcd hg hr
  subst eh
  exact ⟨t, ht.nox, hW ⟨E, X⟩ ds u.n P h u u _ _ rfl (sd_start e xk st r (by rw [r.len, len ds _ P X h]; exact hNp)) ⟨fun ds' v σ' _ S' p => q _ _ _ S'.gr S'.st .non p, fun d v v' g s r p => q v d v' g s r p, fun _ _ _ _ _ z => z.elim, fun _ _ _ _ _ z => z.elim⟩⟩
end
end DL

/-! repr of a list of two pairs of a text and an empty dict. -/
namespace L2
open PySem PySem.Spec PyProof.Rows
/-- a pair of a text and an empty dict -/
abbrev pairE (x : Str) : PyData := .tuple [.str x, .dict []]
def Dq (K : PySem.W.Frag) (H : Hp) (x : Str) (v : V) : Prop := ∃ t d, v = .ref t ∧ SqT K H t [.str x, .ref d] ∧ Rd H d (.dK [])
section
variable {X : Cx} {pins : List (Addr × Obj)} {σ : St} {H : Hp} {s : Shared}
end
section
variable {X : Cx}
/-- repr of a list of two such pairs -/
def rRepr2 (K : PySem.W.Frag) : List V → Hp → VK → Prop := fun xs H Q => ∃ a x v1 v2, xs = [.ref a] ∧ SqL K H a [v1, v2] ∧ Dq K H x v1 ∧ Dq K H x v2 ∧ (PyData.list [pairE x, pairE x]).shown.length ≤ sizeLine ∧ Q (.str (PyData.list [pairE x, pairE x]).shown) H
/-- repr of data, or of a list of two pairs with empty dicts -/
def rReprU (K : PySem.W.Frag) : List V → Hp → VK → Prop := fun xs H Q => rRepr K xs H Q ∨ rRepr2 K xs H Q
end
end L2
namespace DL
open PySem L2 StX
section
variable {K : PySem.W.Frag} [Tb K]
end
end DL

namespace L2
open PySem PySem.Spec PyProof.Rows
section
variable {X : Cx} {pins : List (Addr × Obj)} {σ : St} {H : Hp} {s : Shared}
end
section
variable {X : Cx}
/-- repr of a list of such pairs -/
def rReprs (K : PySem.W.Frag) : List V → Hp → VK → Prop := fun xs H Q => ∃ a x vs, xs = [.ref a] ∧ vs ≠ [] ∧ SqL K H a vs ∧ (∀ v ∈ vs, Dq K H x v) ∧ (PyData.list (List.replicate vs.length (pairE x))).shown.length ≤ sizeLine ∧ Q (.str (PyData.list (List.replicate vs.length (pairE x))).shown) H
/-- repr of data, or of a list of pairs with empty dicts -/
def rReprV (K : PySem.W.Frag) : List V → Hp → VK → Prop := fun xs H Q => rRepr K xs H Q ∨ rReprs K xs H Q
end
section
variable {X : Cx} {CX : CXT} {k nk : Nat} {f C : Addr} {fd : FuncData} {ps ks : List Str} {sp : Sp} {E : XK} {x : Str} {p pos : Pos} {kws : List Keyword} {tk : TA} {g : List Value → List Value → List Value} {gV : List V → List V → List V}
end
end L2
namespace DL
open PySem L2 StX
open PyProof.Rows (envOfC)
section
variable {K : PySem.W.Frag} [Tb K]
end
section
variable {K : PySem.W.Frag} [Tb K] {Z : ZX} {ds : DS} {n : Nat} {P : D → Nat → Prop} {tk : TA} {C : Addr} {E : XK} {R : Ri}
end
section
variable {Pr : Program} {w : World} {K : PySem.W.Frag} [Tb K] {mg : Str → Option Value} {base : Heap} {C : Addr}
end
end DL

/-! Lists that are grown: read, stored into, measured. -/
namespace DL
open PySem L2 StX
section
variable {K : PySem.W.Frag} [Tb K] {Z : ZX} {b u u' u'' : Wd} {σ : L2.St} {ds : DS} {n : Nat} {P : D → Nat → Prop} {te ta tb tc ti : TE} {N : Nd}
theorem mls_at {i : Nat} {xs : List D} (S : Sd K Z b u σ ds) (hd : ds[i]? = some (some (.mls xs))) : ∃ a vs, σ[i]? = some (some (.ref a)) ∧ b.H1 a = none ∧ u.H0 a = none ∧ ¬ u.S a ∧ u.H1 a = some (.lst vs) ∧ Dens K u vs xs := by
  obtain ⟨v, hv, hS⟩ := S.sl i _ hd
  cases hS with
  | den h => cases h
  | mls b0 b1 b5 b2 b3 => exact ⟨_, _, hv, b0, b1, b5, b2, b3⟩
/-- len(xs) of a list that is grown -/
theorem we_lenM {i : Nat} {xs : List D} (hd : ds[i]? = some (some (.mls xs))) (h : P (.int (xs.length : Nat)) n) : We K Z (tCB (rLen' K) (tCons (tVar i) tNil)) ds n P := fun b u σ Q e S kk => by
  obtain ⟨a, vs, hv, b0, b1, b5, b2, b3⟩ := mls_at S hd
  refine ⟨.ref a, hv, ?_⟩
  subst e
  exact ⟨_, vs.length, rfl, .inl ⟨vs, SqL.of b2, rfl⟩, by rw [b3.len]; exact kk _ _ u (.refl S.ex) S.st (.int _) h⟩
end
end DL

/-! Exceptions made as values; dict displays; repr of lists with one thing many times. -/
namespace L2
open PySem PySem.Spec PyProof.Rows
/-- the making of an exception, its object kept -/
def tMkE (t : St → Hp → XK → Prop) : TE := fun σ H Q => t σ H fun cls d H' => ∀ a, H' a = none → Q (.ref a) (upd H' a (xo a cls d))
section
variable {X : Cx}
end
/-- X(e) of an own exception class that stores its argument; X() of one that stores nothing -/
def tXv (C : Addr) (sp : Sp) (ta : TA) : TE := tMkE fun σ H E => tMkO C sp [] ta σ H E
def tXv0 (C : Addr) : TE := tMkE fun σ H E => E (.ref C) none H
/-! repr -/
/-- a dict with one text as its key and a number -/
def Dd (K : PySem.W.Frag) (H : Hp) (x : Str) (i : Int) (v : V) : Prop := ∃ d, v = .ref d ∧ Rd H d (.dK [(.inr x, .int i)])
section
variable {X : Cx} {pins : List (Addr × Obj)} {σ : St} {H : Hp} {s : Shared}
theorem Dd.reads {x : Str} {i : Int} {v : V} {u : Value} (I : Inv X pins σ H s) (h : Dd X.K H x i v) (r : RelV v u) : ∃ as, Reads s.heap u (.dict [(.str x, .int i)]) as ∧ sysModules ∉ as := by
  obtain ⟨d, rfl, hd⟩ := h
  cases r
  obtain ⟨_, hsm, vs, kv, hD⟩ := dk_rd I.hok hd
  obtain ⟨od, es, ep, h1, h2, h3, _, hp, _⟩ := hD
  obtain ⟨k, w, rfl, hk, hw⟩ : ∃ (k : Key) (w : Value), vs = [(k, w)] ∧ (.inr x : Key) = k ∧ RelV (.int i) w := by
    cases kv with
    | cons r0 kv2 =>
      cases kv2
      exact ⟨_, _, rfl, r0.1, r0.2⟩
  obtain ⟨tk, rfl⟩ := hw
  subst hk
  generalize hes : es.toList = l at hp
  cases hp with
  | cons he hv hp =>
  cases hp
  rename_i e
  have he' : keyIs (.inr x) e.key = true := he
  rcases keyIs_shape he' with ⟨j, t, hj, z⟩ | ⟨y, t, hy, z⟩
  · cases hj
  · cases hy
    refine ⟨_, Reads.dict (kvs := [(.str x, .int i)]) h1 h2.1 h3 (by rw [hes]; simp only [List.map_cons, List.map_nil]; rw [z]; exact .cons (.str _ _) .nil) (by rw [hes]; simp only [List.map_cons, List.map_nil]; rw [hv]; exact .cons (.int _ _) .nil), ?_⟩
    have : ¬ sysModules = d := fun z => by rw [z] at hsm; simp at hsm
    simpa using this
end
section
variable {X : Cx}
/-- repr of a list of such dicts -/
def rReprDs (K : PySem.W.Frag) : List V → Hp → VK → Prop := fun xs H Q => ∃ a x i vs, xs = [.ref a] ∧ vs ≠ [] ∧ SqL K H a vs ∧ (∀ v ∈ vs, Dd K H x i v) ∧ (PyData.dict [(.str x, .int i)]).showable = true ∧ (PyData.list (List.replicate vs.length (.dict [(.str x, .int i)]))).shown.length ≤ sizeLine ∧ Q (.str (PyData.list (List.replicate vs.length (.dict [(.str x, .int i)]))).shown) H
def rReprW (K : PySem.W.Frag) : List V → Hp → VK → Prop := fun xs H Q => rReprV K xs H Q ∨ rReprDs K xs H Q
end
end L2
namespace DL
open PySem L2 StX
section
variable {K : PySem.W.Frag} [Tb K]
end
section
variable {K : PySem.W.Frag} [Tb K] {Z : ZX} {b u u' u'' : Wd} {σ : L2.St} {ds : DS} {n : Nat} {P : D → Nat → Prop} {t : TA} {C : Addr} {f : Str}
end
end DL

/-! set(text), and how many signs it has. -/
namespace SS2
open PySem PySem.Spec PyProof.Rows SS
def signsOf (x : Str) : List Str := x.cps.toList.map fun c => ⟨#[c]⟩
section
variable {prog : Program} {w : World} {A : Around} {R : Result → Shared → Prop} {I : Addr} {fp wr : List Addr} {G : Array GenState → Array GenState → Prop} {n : Nat} {P : Nat → Value → Prop} {St : Nat → Shared → Prop}
end

section
variable {prog : Program} {w : World} {A : Around} {E : Value → Shared → Prop} {s : Shared}
set_option maxHeartbeats 3200000 in
end
end SS2
namespace L2
open PySem PySem.Spec PyProof.Rows
/-- len(set(x)), x a text without a sign twice -/
def tLenSetS (ta : TE) : TE := fun σ H Q => ta σ H fun x H1 => ∃ z : Str, x = .str z ∧ (SS2.signsOf z).Nodup ∧ z.cps.size ≤ 4000 ∧ Q (.int (z.cps.size : Nat)) H1
end L2

/-! Dict comprehensions, class attributes, masks, signs in texts, all(..). -/
namespace L2
open PySem PySem.Spec PyProof.Rows
section
variable {J : It} {n : Nat} {G : Hp → Prop} {Y : Nat → V → Hp → Hp → Prop}
/-- i & (2 ^ k - 1) -/
def rAndM : R2 := fun x y H Q => ∃ (i : Int) (k : Nat), x = .int i ∧ y = .int (2 ^ k - 1) ∧ Q (.int (i % 2 ^ k)) H
end
end L2
namespace DL
open PySem L2 StX
section
variable {K : PySem.W.Frag} [Tb K] {Z : ZX} {b u u' u'' : Wd} {σ : L2.St} {ds : DS} {n : Nat} {P : D → Nat → Prop} {te ta tb tk tv : TE} {tt : TT} {g : TG} {N : Nd}
/-- the key that a thing is -/
def keyD : D → Key → Prop
  | .int i, k => k = .inl i
  | .str x, k => k = .inr x
  | _, _ => False
theorem den_keyD {v : V} {d : D} {k : Key} (h : Den K u v d) (q : keyD d k) : v = kV k := by
  cases d <;> simp only [keyD] at q <;> first | exact q.elim | skip
  · subst q; exact den_int h
  · subst q; exact den_str h
theorem denK_keys : ∀ {kvs : List (Key × V)} {ys : List (Key × D)}, DenK K u kvs ys → kvs.map (·.1) = ys.map (·.1)
  | _, _, .nil => rfl
  | _, _, .cons _ r => by simp [denK_keys r]
theorem denK_len {kvs : List (Key × V)} {ys : List (Key × D)} (h : DenK K u kvs ys) : kvs.length = ys.length := by
  have := congrArg List.length (denK_keys h)
  simpa using this
theorem denK_app : ∀ {kvs : List (Key × V)} {ys : List (Key × D)} {k : Key} {v : V} {d : D}, DenK K u kvs ys → Den K u v d → DenK K u (kvs ++ [(k, v)]) (ys ++ [(k, d)])
  | _, _, _, _, _, .nil, r => .cons r .nil
  | _, _, _, _, _, .cons q t, r => .cons q (denK_app t r)
theorem putK_app {kvs : List (Key × V)} {k : Key} {v : V} (h : ∀ p ∈ kvs, p.1 ≠ k) : putK kvs k v = kvs ++ [(k, v)] := by
  unfold putK
  rw [if_neg]
  intro z
  obtain ⟨p, hp, e⟩ := List.any_eq_true.mp z
  exact h p hp (of_decide_eq_true e)
theorem dens_bls : ∀ {vs : List V} {bs : List Bool}, Dens K u vs (bs.map D.bl) → vs = bs.map V.bl
  | [], [], _ => rfl
  | [], _ :: _, h => by cases h
  | _ :: _, [], h => by cases h
  | v :: vs, c :: bs, h => by
    cases h with
    | cons r rs =>
      rw [den_bl r, dens_bls rs]; rfl
/-- all([..]) -/
theorem all_bls {P : D → Prop} {bs : List Bool} (h : P (.bl (bs.all id))) : Cb K (rAll K) [.lst (bs.map .bl)] P := fun u vs Q ex rs k => by
  obtain ⟨v, rfl, r1⟩ := dens1 rs
  obtain ⟨a, ws, rfl, q, r2⟩ := den_lst r1
  obtain rfl := dens_bls r2
  exact ⟨a, bs, rfl, Evl.ex_l ex q, k _ _ u (.refl ex) (.bl _) h⟩
/-- sign in text -/
theorem in_sign {P : D → Prop} {c : Nat} {z : Str} (h : P (.bl (decide (c ∈ z.cps.toList)))) : Op K rInS (.str ⟨#[c]⟩) (.str z) P := fun u v w Q ex _ d1 d2 k => by
  cases den_str d1
  cases den_str d2
  exact ⟨c, z, rfl, rfl, k _ _ u (.refl ex) (.bl _) h⟩
end
end DL

/-! sorted(..) of numbers. -/
namespace DL
open PySem L2 StX
section
variable {K : PySem.W.Frag} [Tb K]
theorem dens_of_ints {u : Wd} : ∀ ns : List Int, Dens K u (ns.map V.int) (ns.map D.int)
  | [] => .nil
  | i :: ns => .cons (.int i) (dens_of_ints ns)
end
end DL

/-! enumerate(text). -/
namespace L2
open PySem PySem.Spec PyProof.Rows
/-- a text, sign by sign, each in a new pair -/
def Ites (x : Str) : It := ⟨fun i _ => i < x.cps.size, fun i H v H' => ∃ T c, v = .ref T ∧ H T = none ∧ H' = upd H T (.tup [.int (i : Nat), .str ⟨#[c]⟩]) ∧ x.cps[i]? = some c, fun i _ => x.cps.size ≤ i⟩
def iEnumS (ta : TA) : TI := fun σ H R => ta σ H fun vs H1 => ∃ x, vs = [.str x] ∧ R (Ites x) H1
end L2
namespace DL
open PySem L2 StX
section
variable {K : PySem.W.Frag} [Tb K] {Z : ZX} {ds : DS} {n : Nat} {Pl : List D → Nat → Prop}
end
end DL

/-! Own [ ], in and len of instances. -/
namespace L2
open PySem PySem.Spec PyProof.Rows LamX
/-- o[e], o an instance of C, whose __getitem__ keeps sp -/
def rIxO (C : Addr) (sp : Sp) : R2 := fun x y H Q => ∃ (a dx : Addr) (fs : List (Str × V)), x = .ref a ∧ H a = some (.ins C dx fs) ∧ sp [x, y] H Q E0
/-- e in o -/
def rInO (C : Addr) (sp : Sp) : R2 := fun y x H Q => ∃ (a dx : Addr) (fs : List (Str × V)), x = .ref a ∧ H a = some (.ins C dx fs) ∧ sp [x, y] H (fun z H' => ∃ b, z = .bl b ∧ Q (.bl b) H') E0
def rNotInO (C : Addr) (sp : Sp) : R2 := fun y x H Q => ∃ (a dx : Addr) (fs : List (Str × V)), x = .ref a ∧ H a = some (.ins C dx fs) ∧ sp [x, y] H (fun z H' => ∃ b, z = .bl b ∧ Q (.bl (!b)) H') E0
section
variable {X : Cx} {CX : CXT} {k : Nat} {C f : Addr} {fd : FuncData} {ps : List Str} {sp : Sp} {a b : Expr} {ta tb : TE} {pos : Pos}
theorem pe_ixO (F : FnOk X.prog X.w X.K X.mg X.base CX k f fd ps sp) (hs : PySem.W.findIn X.K (.ref C) "__getitem__" = some (some (.ref f))) (hf : PySem.W.isFn X.K (.ref f) = true) (hn : PySem.W.fnIn X.K f = true) (hb : Binds X.K fd ps []) (hx : Passes CX X E0) (hr : Room (k + 1) X.A) (ha : PE X a ta) (hb' : PE X b tb)
    (hsl : ∀ x i, subscripted b true (.ref x) i = runValue (.builtin "lifetime.subscript" ⟨[.ref x, i], []⟩) := by intro _ _; with_unfolding_all rfl) : PE X (.Subscript a b pos) (tOp (rIxO C sp) ta tb) := by
  refine ⟨fun pins s σ H Q I h => Subscript_ (binT ha hb' I h fun v u s2 x y H2 I2 rx ry q => ?_)⟩
  obtain ⟨a', dx, fs, ex, ea, q⟩ := q
  subst ex
  obtain rfl : v = Value.ref a' := rx
  obtain ⟨mA, J, _⟩ := ins_get I2.hok ea
  obtain ⟨od, J, _⟩ := J.look
  obtain ⟨m, hF⟩ := I2.fr
  exact PySem.W.sub_K hF I2.ok.mod.kin J hs hn hf (run_eq (A := X.A.in1) (x := .ref a') F hb hx hr.in1 rfl I2 rfl ry q) (hsl _ _)
/-- len(o) -/
def rLenO (C : Addr) (sp : Sp) : List V → Hp → VK → Prop := fun xs H Q => ∃ (a dx : Addr) (fs : List (Str × V)), xs = [.ref a] ∧ H a = some (.ins C dx fs) ∧ sp [.ref a] H (fun z H' => ∃ n : Int, z = .int n ∧ 0 ≤ n ∧ n < 2 ^ 62 ∧ Q (.int n) H') E0
/-- an own special method of one argument runs, at A below X -/
theorem run_one {A : Around} {pins : List (Addr × Obj)} {σ : St} {H : Hp} {s : Shared} {x : V} {v : Value} {Q : VK} (F : FnOk X.prog X.w X.K X.mg X.base CX k f fd ps sp) (hb : Binds X.K fd ps []) (hx : Passes CX X E0) (hr : Room k A) (hfr : A.frames = X.A.frames) (I : Inv X pins σ H s) (rx : RelV x v) (h : sp [x] H Q E0) :
    wpAny (model X.prog X.w) A (call (.ref f) [v]) (EP X pins σ Q) X.xe s := by
  have e := I.env0
  have e0 : Env0 X.prog X.w X.K X.mg X.base A X.stack s H := ⟨by rw [hfr]; exact e.frames, e.mod, e.bs, e.bsz, e.funs, e.frf, e.hok, e.bare⟩
  have hl := F.len _ _ _ _ h
  have r2 : Vals [x] [v] := .cons rx .nil
  refine wpAny_call (codeAny_mono (F.run A X.stack s H ⟨[v], []⟩ [v] [x] _ E0 hr e0 (by
    have := hb s [v] I.kIn (by simpa using hl)
    simpa using this) r2 h) fun r s' hq => ?_)
  cases r with
  | error e => exact hx pins σ H s e s' I hq
  | ok fl =>
    cases fl with
    | ret w => exact I.after hq
    | next => exact False.elim hq
    | brk => exact False.elim hq
    | cont => exact False.elim hq
theorem call_lenO (F : FnOk X.prog X.w X.K X.mg X.base CX k f fd ps sp) (hs : PySem.W.findIn X.K (.ref C) "__len__" = some (some (.ref f))) (hf : PySem.W.isFn X.K (.ref f) = true) (hb : Binds X.K fd ps []) (hx : Passes CX X E0) (hr : Room (k + 1) X.A) : CallR X (.builtin "len") (rLenO C sp) := by
  intro pins s σ H xs us Q I rs ⟨a, dx, fs, hxa, ha, h⟩
  subst hxa
  rw [Vals.ref1 rs]
  obtain ⟨mA, J, _⟩ := ins_get I.hok ha
  obtain ⟨od, J, _⟩ := J.look
  obtain ⟨m, hF⟩ := I.fr
  refine PySem.W.len_K hF I.ok.mod.kin J hs hf (wpAny_mono (run_one (A := X.A.in1) (x := .ref a) F hb hx hr.in1 rfl I rfl h) (fun w s' hq => ?_) fun _ _ z => z)
  obtain ⟨z, H', I', rz, n, rfl, h0, h1, q⟩ := hq
  obtain ⟨t, rfl⟩ := rz
  exact ⟨⟨h0, by omega⟩, .int n, H', I'.kept (t' := s'.toks + 1) (fun _ _ q => q), ⟨_, rfl⟩, q⟩
end
end L2
namespace DL
open PySem L2 StX
section
variable {K : PySem.W.Frag} [Tb K] {C : Addr} {R : Rl} {P : D → Prop}
theorem ixO {x y : D} {fs : List (Str × D)} (hx : x = .obj C fs) (h : ∀ n, R [x, y] n (fun d m => m = n ∧ P d) noX) : Op K (rIxO C (spD K R)) x y P := fun u v z Q ex st r1 r2 k => by
  subst hx
  obtain ⟨a, dx, fv, rfl, ha, hf⟩ := den_obj r1
  refine ⟨a, dx, fv, rfl, ex _ _ ha, u, _, _, noX, rfl, ex, st, .cons r1 (.cons r2 .nil), h u.n, ?_, xok_no⟩
  rintro v' d u1 g1 s1 r' ⟨hm, p⟩
  exact k _ _ u1 ⟨g1, fun _ => s1, hm⟩ r' p
end
section
variable {K : PySem.W.Frag} [Tb K] {Z : ZX} {C : Addr} {R : Rl} {ds : DS} {n : Nat} {P : D → Nat → Prop} {te : TE}
theorem we_lenO (h : We K Z te ds n fun o m => ∃ fs, o = .obj C fs ∧ R [o] m (fun d j => ∃ i : Int, d = .int i ∧ 0 ≤ i ∧ i < 2 ^ 62 ∧ P (.int i) j) noX) : We K Z (tCB (rLenO C (spD K R)) (tCons te tNil)) ds n P := fun b u σ Q e S k =>
  h b u σ _ e S fun v o u1 g1 s1 r1 ⟨fs, ho, q⟩ => by
    subst ho
    obtain ⟨a, dx, fv, rfl, ha, hf⟩ := den_obj r1
    refine ⟨a, dx, fv, rfl, g1.c _ _ ha, u1, _, _, noX, rfl, g1.c, s1, .cons r1 .nil, q, ?_, xok_no⟩
    rintro v' d u2 g2 s2 r' ⟨i, rfl, h0, h1, p⟩
    cases den_int r'
    exact ⟨i, rfl, h0, h1, k _ _ u2 (g1.trans g2) s2 (.int i) p⟩
end
end DL

/-! A stream that is a list of numbers: stores at any place, one made by a display. -/
namespace DL
open PySem L2 StX
section
variable {K : PySem.W.Frag} [Tb K] {Z : ZX} {b u u' u'' : Wd} {σ : L2.St} {ds : DS} {n : Nat} {P : D → Nat → Prop} {te tp ta tb tc : TE} {N : Nd} {len : Nat}
end
end DL

/-! A key def's call over the heap: it keeps all. -/
namespace L2
open PySem PySem.Spec PyProof.Rows
section
variable {P : Program} {w : World} {A : Around} {s : Shared} {E : Value → Shared → Prop} {fd : FuncData} {f t : Addr} {o : Obj} {x : Str} {p1 p2 p3 p4 p5 p6 p7 p8 : Pos} {kk : Nat} {items : Array Value} {i j a b : Int} {u u' : Tok}
/-- x[i] of a tuple that the name x is -/
theorem ev_sub {env : Env} {s1 : Shared} {k1 k2 : Pos} {k3 : Pos} {i : Int} {c : Value} {Q : Value → Shared → Prop} (hx : ∀ {s'} {Q' : Value → Shared → Prop}, s'.heap = s1.heap → Q' (.ref t) s' → wpAny (model P w) A (eval (.Name x k1) env) Q' E s')
    (ht : IsTup s1.heap t items) (h0 : 0 ≤ i) (h1 : i < 2 ^ 63) (hn : items[i.toNat]? = some c) (h : Q c { s1 with toks := s1.toks + 1 }) : wpAny (model P w) A (eval (.Subscript (.Name x k1) (.Constant (.int i) 0 k2) k3) env) Q E s1 := by
  refine Subscript_ (hx rfl (wpAny_Constant_int ?_))
  refine item_tuple (s := { s1 with toks := s1.toks + 1 }) ht (by omega) h1 (j := i.toNat) ?_ hn h
  have hl : i.toNat < items.size := (Array.getElem?_eq_some_iff.mp hn).1
  exact seqIndex_of h0 (by omega)
/-- the call of a def that returns two whole numbers of the tuple that it is given: nothing that stood is changed -/
theorem pure_two (hroom : A.depth < recursionLimit) (ho : s.heap.get? f = some o) (hdata : o.data = .func fd) (hlim : s.heap.NoLimit) (hcd : s.heap.CodeRec fd.code fd.qualname)
    (hbody : fd.body = .stmts [.Return (some (.Tuple [.Subscript (.Name x p1) (.Constant (.int i) 0 p2) p3, .Subscript (.Name x p4) (.Constant (.int j) 0 p5) p6] kk p7)) p8])
    (hbind : bindArgs fd ⟨[.ref t], []⟩ = pure [(x, .ref t)]) (hnames : fd.scope.names = [(x, .local)]) (hco : fd.scope.isCoroutine = false) (hgen : fd.scope.isGenerator = false) (hk : fd.scope.kind = .function) (hd : (x == ("__debug__" : Str)) = false)
    (ht : IsTup s.heap t items) (hi0 : 0 ≤ i) (hi1 : i < 2 ^ 63) (hj0 : 0 ≤ j) (hj1 : j < 2 ^ 63) (hi : items[i.toNat]? = some (.int a u)) (hj : items[j.toNat]? = some (.int b u')) :
    wpAny (model P w) A (call (.ref f) [.ref t]) (PySem.W.KeyPure (.tuple [.int a, .int b]) s) E s := by
  have hlk : fd.scope.names.lookup x = some .local := by rw [hnames]; simp [List.lookup]
  refine wpAny_call (codeAny_call_straight hroom ho hdata hlim hcd hbody hbind (fun y hy => ?_) (fun y hy => ?_) (fun s1 ic => ?_) hco hgen hk)
  · rw [hnames] at hy
    rw [List.mem_singleton.mp hy]
    simp
  · rw [List.mem_singleton.mp hy]
    exact hlk
  · obtain ⟨h0, tk, rfl⟩ := ic.same
    have ht1 : IsTup h0 t items := by
      obtain ⟨oo, e1, e2⟩ := ht
      exact ⟨oo, ic.keep _ _ e1, e2⟩
    have nm : ∀ {k1 : Pos} {s' : Shared} {Q' : Value → Shared → Prop}, s'.heap = h0 → Q' (.ref t) s' → wpAny (model P w) (A.deeper (callEnv fd s.heap.objs.size f)) (eval (.Name x k1) (callEnv fd s.heap.objs.size f)) Q' (fun e s' => wpAny (model P w) (A.deeper (callEnv fd s.heap.objs.size f)) (leaving (callEnv fd s.heap.objs.size f) e) (fun _ s'' => E e s'') (fun e' s'' => E e' s'') s') s' := by
      intro k1 s' Q' e q
      refine ldc (fd := fd) hk hlk (m := fun y => [(x, Value.ref t)].reverse.lookup y) (by rw [e]; exact ic.ns) (by simp [List.lookup]) q hd
    refine wpAny_execs_cons (wpAny_Return_some (Tuple_ (spliced_more (ev_sub (s1 := { s with heap := h0, toks := tk }) nm ht1 hi0 hi1 hi ?_))))
    refine spliced_more (ev_sub (s1 := { s with heap := h0, toks := tk + 1 }) nm ht1 hj0 hj1 hj ?_)
    refine spliced_none ?_
    refine wpAny_newTuple ?_ (by show 2 ≤ sizeLine; decide)
    refine ⟨_, _, rfl, fun c oc e => Heap.get?_push_of_some _ (ic.keep _ _ e), .tuple (Heap.get?_push_size _ rfl) rfl rfl (.cons (.int _ _) (.cons (.int _ _) .nil))⟩
end
/-- a before b: by the first number, then by the second -/
abbrev ordP {α : Type} (x y : α × (Int × Int)) : Bool := decide (x.2.1 < y.2.1 ∨ (x.2.1 = y.2.1 ∧ x.2.2 ≤ y.2.2))
/-- f is a def that returns the items i and j of its tuple -/
structure KeyFn (K : PySem.W.Frag) (f : Addr) (i j : Nat) : Prop where
  ex : ∃ (oc : Value) (od : Option Addr) (fd : FuncData) (osl : Array (Option Value)) (x : Str) (p1 p2 p3 p4 p5 p6 p7 p8 : Pos) (kk : Nat), K.lookup f = some ⟨oc, od, .func fd, osl⟩ ∧ PySem.W.codeIn K fd.code fd.qualname = true ∧
    fd.body = .stmts [.Return (some (.Tuple [.Subscript (.Name x p1) (.Constant (.int (i : Nat)) 0 p2) p3, .Subscript (.Name x p4) (.Constant (.int (j : Nat)) 0 p5) p6] kk p7)) p8] ∧ (∀ t, bindArgs fd ⟨[.ref t], []⟩ = pure [(x, .ref t)]) ∧
    fd.scope.names = [(x, .local)] ∧ fd.scope.isCoroutine = false ∧ fd.scope.isGenerator = false ∧ fd.scope.kind = .function ∧ (x == ("__debug__" : Str)) = false ∧ i < 1000 ∧ j < 1000
/-- sorted(xs, key=f) -/
def rSortedK (K : PySem.W.Frag) (f : Addr) (i j : Nat) : List V → List V → Hp → VK → Prop := fun vs zs H Q => ∃ (a : Addr) (bs : List (V × (Int × Int))), vs = [.ref a] ∧ zs = [.ref f] ∧ SqL K H a (bs.map (·.1)) ∧
  (∀ b ∈ bs, ∃ t ys, b.1 = .ref t ∧ SqT K H t ys ∧ ys[i]? = some (.int b.2.1) ∧ ys[j]? = some (.int b.2.2)) ∧ ∀ p, H p = none → Q (.ref p) (upd H p (.lst ((bs.mergeSort ordP).map (·.1))))
theorem each_vals (l : List (V × (Int × Int))) : ∀ {bs : List (V × (Int × Int))} {us : List Value}, Vals (bs.map (·.1)) us → (∀ b ∈ bs, b ∈ l) → PySem.W.EachIs (fun v b => RelV b.1 v ∧ b ∈ l) us bs
  | [], _, .nil, _ => .nil
  | b :: bs, _, .cons r rs, h => .cons ⟨r, h _ (List.mem_cons_self ..)⟩ (each_vals l rs fun x hx => h x (List.mem_cons_of_mem _ hx))
theorem vals_each {l : List (V × (Int × Int))} : ∀ {us : List Value} {bs : List (V × (Int × Int))}, PySem.W.EachIs (fun v b => RelV b.1 v ∧ b ∈ l) us bs → Vals (bs.map (·.1)) us
  | _, _, .nil => .nil
  | _, _, .cons r rs => .cons r.1 (vals_each rs)
end L2

/-! sorted(tuple, key=def). -/
namespace L2
open PySem PySem.Spec PyProof.Rows
section
variable {prog : Program} {w : World} {A : Around} {E : Value → Shared → Prop} {s : Shared}
theorem collect_tup {l : Addr} {vs : List Value} {Q : List Value → Shared → Prop} (hl : IsTup s.heap l vs.toArray)
    (h : Q vs { s with heap := (s.heap.push (seqObj "list" #[] 0)).update s.heap.objs.size (Obj.mapSeq (· ++ vs.toArray)) }) (hsz : vs.length ≤ sizeLine) : wpAny (model prog w) A (collect (.ref l)) Q E s := by
  obtain ⟨o, ho, hc, n, hd⟩ := hl
  have ho' : (s.heap.push (seqObj "list" #[] 0)).get? l = some o := Heap.get?_push_of_some _ ho
  unfold collect
  refine wpAny_bind (wpAny_runValue (codeAny_builtin entry_proto_collect' ?_))
  show wpAny _ _ (do again (.builtin "list.__iadd__" ⟨[← newList [], .ref l], []⟩)) _ _ s
  refine wpAny_bind (wpAny_newList (wpAny_pure ⟨Code.quiet_builtin _ (by decide +kernel), codeAny_builtin entry_list_iadd' ?_⟩))
  show wpAny _ _ (Builtin.List.listExtendWith (.ref s.heap.objs.size) (.ref l) (.ref s.heap.objs.size)) _ _ { s with heap := s.heap.push (seqObj "list" #[] 0) }
  unfold Builtin.List.listExtendWith
  refine wpAny_bind (wpAny_typeOf (T := "tuple") ⟨o, ho', hc⟩ ?_)
  rw [if_pos (by rw [show (Value.type "tuple" == Value.type "tuple") = true by rfl]; simp)]
  refine wpAny_bind (listItems_at ho' hd ?_)
  refine wpAny_bind (listItems_at (xs := #[]) (n := 0) (Heap.get?_push_size _ rfl) rfl ?_)
  rw [if_neg (by simp)]
  refine wpAny_bind (listUpdate_at (xs := #[]) (n := 0) (Heap.get?_push_size _ rfl) rfl ?_ (Nat.zero_le _) (by show (#[] ++ vs.toArray).size ≤ sizeLine + 1; simp only [Array.size_append, List.size_toArray, List.length_nil]; omega))
  refine wpAny_pure ?_
  refine wpAny_bind (wpAny_load (get?_update_seq (Heap.get?_push_size _ rfl) _) ?_)
  have e : ((#[] : Array Value) ++ vs.toArray).toList = vs := by simp
  show wpAny _ _ (pure ((#[] : Array Value) ++ vs.toArray).toList) Q E _
  rw [e]
  exact wpAny_pure h
/-- sorted(xs, key=f), xs a tuple -/
theorem sorted_tup {β : Type} {vs : List Value} {bs : List β} {R : Value → β → Prop} {l f : Addr} {Q : Value → Shared → Prop} (k : β → PyData) (hl : IsTup s.heap l vs.toArray) (e : PySem.W.EachIs R vs bs) (hal : PySem.W.AllAlike (bs.map k)) (hk : PySem.W.Sortable (bs.map k)) (hL : bs.length ≤ sizeLine)
    (hu : ∀ x, x ∈ bs → A.units + 2 + (k x).depth < cLine)
    (turn : ∀ (v : Value) (x : β), R v x → x ∈ bs → ∀ (h : Heap) (tk : Nat), (∀ b o, s.heap.get? b = some o → h.get? b = some o) →
      wpAny (model prog w) A.in1.in1 (call (.ref f) [v]) (PySem.W.KeyPure (k x) { s with heap := h, toks := tk }) (fun _ _ => False) { s with heap := h, toks := tk })
    (h : ∀ out c h' tk, (∀ b o, s.heap.get? b = some o → h'.get? b = some o) → h'.get? (s.heap.objs.size + 1) = some (seqObj "list" (List.toArray out) c) → PySem.W.EachIs R out (bs.mergeSort (PySem.W.dataLe false k)) →
      Q (.ref (s.heap.objs.size + 1)) { s with heap := h', toks := tk }) :
    wpAny (model prog w) A (call (.builtin "sorted") [.ref l] [(Str.ofString "key", .ref f)]) Q E s := by
  have hL2 : vs.length ≤ sizeLine := by rw [e.length]; exact hL
  have up : ∀ {g : Heap}, PySem.W.KeepsBut (s.heap.objs.size + 1) (PySem.W.copyHeap s.heap vs) g → ∀ b o, s.heap.get? b = some o → g.get? b = some o := fun {g} kp b o q =>
    kp b o (Nat.ne_of_lt (Nat.lt_succ_of_lt (Heap.lt_size q))) (PySem.W.copyHeap_old q)
  refine call_function_entry_kw kind_sorted plain_sorted entry_sorted (PyProof.Rows.ksk_s1 _ _) ?_
  unfold Builtin.«sorted»
  refine wpAny_bind (m := checkCount "sorted" 1 1 _) (wpAny_pure ?_)
  refine wpAny_bind (collect_tup hl ?_ hL2)
  refine wpAny_bind (wpAny_newList ?_ hL2)
  have hsz : ((s.heap.push (seqObj "list" #[] 0)).update s.heap.objs.size (Obj.mapSeq (· ++ vs.toArray))).objs.size = s.heap.objs.size + 1 := by
    rw [Heap.size_update, size_push']
  show wpAny _ _ _ _ _ { s with heap := PySem.W.copyHeap s.heap vs }
  rw [hsz]
  refine wpAny_bind (wpAny_holding (wpAny_call_entry_kw slot_list_sort ⟨_, PySem.W.copyHeap_at s.heap vs, rfl⟩ entry_list_sort ?_ (PyProof.Rows.ksk_l1 _ _)))
  show wpAny (model prog w) A.in1.in1 (Builtin.«list.sort» ⟨[.ref (s.heap.objs.size + 1)], [(Str.ofString "key", .ref f)]⟩) _ _ _
  rw [PyProof.Rows.ksk_t1]
  refine wpAny_mono (PySem.W.keyH_tree (b := false) (kz := bs.map k) (s := { s with heap := PySem.W.copyHeap s.heap vs }) (P := fun fin s' => fin = .done (.ret .none) ∧ Q (.ref (s.heap.objs.size + 1)) s') (PySem.W.copyHeap_at s.heap vs) (by rw [List.length_map]; exact e.length.symm) hL2 hal hk (PySem.W.bound_map (A := A.in1.in1) hu)
    (PySem.W.keyH_turns (s := { s with heap := PySem.W.copyHeap s.heap vs }) e fun v x hR hx h tk kp => turn v x hR hx h tk (up kp)) fun h' tk out c kp hD ko => ⟨rfl, h out c h' tk (up kp) hD (PySem.W.keyedOut_each k ko e)⟩) (fun fn s' hf => ?_) fun _ _ e => e
  obtain ⟨rfl, hq⟩ := hf
  exact ⟨_, rfl, wpAny_pure ⟨_, rfl, hq⟩⟩
end
/-- sorted(xs, key=f), xs a tuple -/
def rSortedKT (K : PySem.W.Frag) (f : Addr) (i j : Nat) : List V → List V → Hp → VK → Prop := fun vs zs H Q => ∃ (a : Addr) (bs : List (V × (Int × Int))), vs = [.ref a] ∧ zs = [.ref f] ∧ SqT K H a (bs.map (·.1)) ∧
  (∀ b ∈ bs, ∃ t ys, b.1 = .ref t ∧ SqT K H t ys ∧ ys[i]? = some (.int b.2.1) ∧ ys[j]? = some (.int b.2.2)) ∧ ∀ p, H p = none → Q (.ref p) (upd H p (.lst ((bs.mergeSort ordP).map (·.1))))
theorem cr_sortedKT {X : Cx} {f : Addr} {i j : Nat} (hr : Room 3 X.A) (KF : KeyFn X.K f i j) : CallRK X (.builtin "sorted") [Str.ofString "key"] (rSortedKT X.K f i j) := by
  intro pins s σ H xs zs us ws Q I r rz h
  obtain ⟨a, vs, rfl, rfl, hs, hk, q⟩ := h
  obtain ⟨its, rv, hl, hz⟩ := I.tuple hs
  rw [Vals.ref1 r, Vals.ref1 rz]
  obtain ⟨oc, od, fd, osl, x, p1, p2, p3, p4, p5, p6, p7, p8, kk, lk, hcd, hb, hbind, hn, hco, hgen, hkd, hdb, hi, hj⟩ := KF.ex
  have e := each_vals vs rv fun x hx => hx
  have lim : s.heap.NoLimit := I.env0.mod.nolimit.keeps fun b o e => (I.env0.bs b o e).1
  have hlk := I.kIn _ _ lk
  have r2 := hr.in1.in1
  have hz2 : vs.length ≤ sizeLine := by rw [List.length_map] at hz; exact hz
  show wpAny _ _ (call (.builtin "sorted") [.ref a] [(Str.ofString "key", .ref f)]) _ _ _
  refine sorted_tup (fun x : V × (Int × Int) => .tuple [.int x.2.1, .int x.2.2]) hl e (PySem.W.AllAlike.of fun _ _ => by simp [PySem.W.alike, PySem.W.alikeAll]) (PySem.W.Sortable.tuples fun _ => ⟨_, _, rfl⟩) hz2 (fun y _ => ?_)
    (fun v y hv hy h tk kp => ?_) fun out c h' tk kp hD eo => ?_
  · have hd : (PyData.tuple [.int y.2.1, .int y.2.2]).depth = 1 := by simp [PyData.depth, PyData.depthAll]
    have := hr.un
    omega
  · obtain ⟨rel, mem⟩ := hv
    obtain ⟨t, ys, ey, ht, h1, h2⟩ := hk y mem
    rw [ey] at rel
    obtain rfl : v = Value.ref t := rel
    obtain ⟨its2, rv2, ⟨o2, e1, e2, e3⟩, _⟩ := I.tuple ht
    obtain ⟨u1, g1, w1⟩ := rv2.get h1
    obtain ⟨u2, g2, w2⟩ := rv2.get h2
    obtain ⟨k1, rfl⟩ := w1
    obtain ⟨k2, rfl⟩ := w2
    exact pure_two (s := { s with heap := h, toks := tk }) r2.depth (kp _ _ hlk) rfl (lim.keeps kp) (PySem.W.codeRec_of (I.kIn.keeps kp) hcd) hb (hbind t) hn hco hgen hkd hdb (items := its2.toArray) ⟨o2, kp _ _ e1, e2, e3⟩ (by omega) (by omega) (by omega) (by omega) (by simpa using g1) (by simpa using g2)
  · rw [PySem.W.dataLe_ii (fun x : V × (Int × Int) => x.2.1) (fun x => x.2.2)] at eo
    have hlen2 : ((vs.mergeSort ordP).map (·.1)).length ≤ sizeLine := by rw [List.length_map, List.length_mergeSort]; exact hz2
    exact ⟨.ref (s.heap.objs.size + 1), upd H (s.heap.objs.size + 1) (.lst ((vs.mergeSort ordP).map (·.1))), I.laid (t' := tk) kp (Nat.le_succ _) ⟨hlen2, out, c, vals_each eo, hD⟩, rfl, q _ (I.hok.fresh (Nat.le_succ _))⟩
end L2

/-! sorted(xs, key=def) over data. -/
namespace DL
open PySem L2 StX
section
variable {K : PySem.W.Frag} [Tb K] {Z : ZX} {u : Wd} {ds : DS} {n : Nat} {P : D → Nat → Prop} {te : TE} {f : Addr} {i j : Nat}
theorem dens_zip : ∀ {ws : List V} {xs : List (D × (Int × Int))}, Dens K u ws (xs.map (·.1)) → ∀ c ∈ ws.zip xs, Den K u c.1 c.2.1
  | [], [], _, c, hc => by cases hc
  | w :: ws, x :: xs, h, c, hc => by
    cases h with
    | cons r rs =>
      rcases List.mem_cons.mp hc with rfl | hc
      · exact r
      · exact dens_zip rs c hc
theorem dens_all : ∀ {es : List (V × (D × (Int × Int)))}, (∀ c ∈ es, Den K u c.1 c.2.1) → Dens K u (es.map (·.1)) (es.map (·.2.1))
  | [], _ => .nil
  | e :: es, h => .cons (h e (List.mem_cons_self ..)) (dens_all fun c hc => h c (List.mem_cons_of_mem _ hc))
theorem dens_sort {ws : List V} {xs : List (D × (Int × Int))} (h : Dens K u ws (xs.map (·.1))) : Dens K u (((ws.zip (xs.map (·.2))).mergeSort ordP).map (·.1)) ((xs.mergeSort ordP).map (·.1)) := by
  have hl : ws.length = xs.length := by rw [h.len, List.length_map]
  have e1 : (ws.zip xs).map (fun c => (c.1, c.2.2)) = ws.zip (xs.map (·.2)) := by rw [List.zip_map_right]; rfl
  have e2 : (ws.zip xs).map (·.2) = xs := List.map_snd_zip (by omega)
  have m1 := List.map_mergeSort (r := fun x y : V × (D × (Int × Int)) => ordP x.2 y.2) (s := ordP) (f := fun c => (c.1, c.2.2)) (l := ws.zip xs) (fun _ _ _ _ => rfl)
  have m2 := List.map_mergeSort (r := fun x y : V × (D × (Int × Int)) => ordP x.2 y.2) (s := ordP) (f := fun c => c.2) (l := ws.zip xs) (fun _ _ _ _ => rfl)
  rw [e1] at m1
  rw [e2] at m2
  rw [← m1, ← m2, List.map_map, List.map_map]
  exact dens_all fun c hc => dens_zip h c ((List.mergeSort_perm _ _).mem_iff.mp hc)
theorem keys_read {H : Hp} {ws : List V} {xs : List (D × (Int × Int))} (ex : Ex u.H0 H) (h : Dens K u ws (xs.map (·.1))) (hk : ∀ p ∈ xs, ∃ ys, p.1 = .tup ys ∧ ys[i]? = some (.int p.2.1) ∧ ys[j]? = some (.int p.2.2)) :
    ∀ b ∈ ws.zip (xs.map (·.2)), ∃ t ys, b.1 = .ref t ∧ SqT K H t ys ∧ ys[i]? = some (.int b.2.1) ∧ ys[j]? = some (.int b.2.2) := by
  intro b hb
  have e1 : ws.zip (xs.map (·.2)) = (ws.zip xs).map fun c => (c.1, c.2.2) := by rw [List.zip_map_right]; rfl
  rw [e1] at hb
  obtain ⟨c, hc, rfl⟩ := List.mem_map.mp hb
  have hd := dens_zip h c hc
  obtain ⟨ys, ey, h1, h2⟩ := hk c.2 (List.of_mem_zip hc).2
  rw [ey] at hd
  obtain ⟨t, vs, ev, q, r⟩ := den_tup hd
  obtain ⟨v1, g1, w1⟩ := r.getD h1
  obtain ⟨v2, g2, w2⟩ := r.getD h2
  exact ⟨t, vs, ev, Evl.ex_t ex q, by rw [g1, den_int w1], by rw [g2, den_int w2]⟩
/-- sorted(xs, key=f), xs a list of tuples with whole numbers at i and j -/
theorem we_sortK (h : We K Z te ds n fun d m => ∃ xs : List (D × (Int × Int)), d = .lst (xs.map (·.1)) ∧ (∀ p ∈ xs, ∃ ys, p.1 = .tup ys ∧ ys[i]? = some (.int p.2.1) ∧ ys[j]? = some (.int p.2.2)) ∧ P (.lst ((xs.mergeSort ordP).map (·.1))) m) :
    We K Z (tCKw (rSortedK K f i j) (tCons te tNil) (tCons (tC (.ref f)) tNil)) ds n P := fun b u σ Q e S k =>
  h b u σ _ e S fun v d u1 g s r ⟨xs, hd, hk, p⟩ => by
    subst hd
    obtain ⟨a, ws, rfl, q, r2⟩ := den_lst r
    have hl : ws.length = (xs.map (·.2)).length := by rw [r2.len, List.length_map, List.length_map]
    refine ⟨a, ws.zip (xs.map (·.2)), rfl, rfl, ?_, keys_read g.c r2 hk, fun z hz => ?_⟩
    · rw [show (ws.zip (xs.map (·.2))).map (·.1) = ws from List.map_fst_zip (by omega)]
      exact Evl.ex_l g.c q
    · have g0 := Gs.put g.c hz (o := .lst (((ws.zip (xs.map (·.2))).mergeSort ordP).map (·.1)))
      exact k _ _ (u1.put z _) (g.trans g0) (s.put g.c hz) (.lst (SqL.of upd_same) ((dens_sort r2).mono g0.ls)) p
theorem we_sortKT (h : We K Z te ds n fun d m => ∃ xs : List (D × (Int × Int)), d = .tup (xs.map (·.1)) ∧ (∀ p ∈ xs, ∃ ys, p.1 = .tup ys ∧ ys[i]? = some (.int p.2.1) ∧ ys[j]? = some (.int p.2.2)) ∧ P (.lst ((xs.mergeSort ordP).map (·.1))) m) :
    We K Z (tCKw (rSortedKT K f i j) (tCons te tNil) (tCons (tC (.ref f)) tNil)) ds n P := fun b u σ Q e S k =>
  h b u σ _ e S fun v d u1 g s r ⟨xs, hd, hk, p⟩ => by
    subst hd
    obtain ⟨a, ws, rfl, q, r2⟩ := den_tup r
    have hl : ws.length = (xs.map (·.2)).length := by rw [r2.len, List.length_map, List.length_map]
    refine ⟨a, ws.zip (xs.map (·.2)), rfl, rfl, ?_, keys_read g.c r2 hk, fun z hz => ?_⟩
    · rw [show (ws.zip (xs.map (·.2))).map (·.1) = ws from List.map_fst_zip (by omega)]
      exact Evl.ex_t g.c q
    · have g0 := Gs.put g.c hz (o := .lst (((ws.zip (xs.map (·.2))).mergeSort ordP).map (·.1)))
      exact k _ _ (u1.put z _) (g.trans g0) (s.put g.c hz) (.lst (SqL.of upd_same) ((dens_sort r2).mono g0.ls)) p
end
end DL

/-! Dicts that are frozen as soon as they are made; fresh lists and dicts put into slots. -/
namespace L2
open PySem PySem.Spec PyProof.Rows
/-- a new dict, from now on read alone -/
def tFrz (te : TE) : TE := fun σ H Q => te σ H fun v H' => ∃ d u, v = .ref d ∧ H' d = some u ∧ Mut (some u) ∧ ∀ od, Q v (upd H' d (.frz od u))
theorem pe_frz {X : Cx} {e : Expr} {te : TE} (h : PE X e te) : PE X e (tFrz te) := by
  refine ⟨fun pins s σ H Q I hw => ?_⟩
  refine thn (h.run pins s σ H _ I hw) fun v s1 ⟨x, H1, I1, r, d, u, ex, hd, mu, q⟩ => ?_
  obtain ⟨od, I2⟩ := I1.lock hd mu
  exact ⟨x, _, I2, r, q od⟩
/-- the dict in slot i, from now on read alone -/
def tFrzS (i : Nat) (t : TS) : TS := fun D σ H => ∃ d u, σ[i]? = some (some (.ref d)) ∧ H d = some u ∧ Mut (some u) ∧ ∀ od, t D σ (upd H d (.frz od u))
theorem ps_frzS {X : Cx} {i : Nat} {st : Stmt} {t : TS} (h : PS X st t) : PS X st (tFrzS i t) := by
  refine ⟨fun pins s σ H D I hw => ?_⟩
  obtain ⟨d, u, _, hd, mu, hw⟩ := hw
  obtain ⟨od, I1⟩ := I.lock hd mu
  exact h.run pins s σ _ D I1 (hw od)
end L2
namespace DL
open PySem L2 StX
section
variable {K : PySem.W.Frag} [Tb K] {Z : ZX} {b u u' u'' : Wd} {σ : L2.St} {ds : DS} {n : Nat} {P : D → Nat → Prop} {te ta tb tc tk tv : TE} {tt tu : TT} {N : Nd} {ts t1 t2 : TS} {g : TG} {De : Ends}
/-- a value that goes into a slot: data, or a new thing that the def goes on with -/
inductive NewS (K : PySem.W.Frag) (u u' : Wd) : V → D → Prop
  | den {v : V} {d : D} : Den K u' v d → NewS K u u' v d
  | mls {p : Addr} {vs : List V} {xs : List D} : u.H1 p = none → u'.H0 p = none → ¬ u'.S p → u'.H1 p = some (.lst vs) → Dens K u' vs xs → NewS K u u' (.ref p) (.mls xs)
  | mdk {p : Addr} {vs : List (Key × V)} {xs : List (Key × D)} : u.H1 p = none → u'.H0 p = none → ¬ u'.S p → u'.H1 p = some (.dK vs) → DenK K u' vs xs → NewS K u u' (.ref p) (.mdk xs)
  | mob {p C dx : Addr} {fs : List (Str × V)} {gs : List (Str × D)} : u.H1 p = none → u'.H0 p = none → ¬ u'.S p → u'.H1 p = some (.ins C dx fs) → u'.H1 dx = some (.own p) → ¬ u'.S dx → DenF K u' fs gs → NewS K u u' (.ref p) (.mob p dx C gs)
def Wx (K : PySem.W.Frag) [Tb K] (Z : ZX) (te : TE) (ds : DS) (n : Nat) (P : D → Nat → Prop) : Prop :=
  ∀ (b u : Wd) (σ : L2.St) (Q : VK), u.n = n → Sd K Z b u σ ds → (∀ v d u', Gs u u' → StOk K u' → NewS K u u' v d → P d u'.n → Q v u'.H1) → te σ u.H1 Q
theorem wx_we (h : We K Z te ds n P) : Wx K Z te ds n P := fun b u σ Q e S k => h b u σ Q e S fun v d u' g s r p => k v d u' g s (.den r) p
theorem wx_lst {t : TA} (h : Wa K Z t ds n fun xs m => xs.length ≤ 1000000 ∧ P (.mls xs) m) : Wx K Z (tLst t) ds n P := fun b u σ Q e S k =>
  h b u σ _ e S fun vs xs u1 g1 s1 r h2 => ⟨by rw [r.len]; exact sz100 h2.1, fun p hp => by
    have h0 : u.H1 p = none := by
      cases q : u.H1 p with
      | none => rfl
      | some o => exact absurd hp (g1.b' p (by rw [q]; simp))
    have nS := s1.not hp
    exact k _ (.mls xs) ⟨u1.S, u1.T, u1.n, u1.H0, upd u1.H1 p (.lst vs)⟩ (g1.trans (Gs.junk g1.c hp)) (s1.write nS) (.mls h0 (ex_none g1.c hp) nS upd_same (r.mono (show Le u1 ⟨u1.S, u1.T, u1.n, u1.H0, upd u1.H1 p (.lst vs)⟩ from ⟨fun _ h => h, fun _ _ => rfl, .refl _⟩))) h2.2⟩
theorem wx_dnew (h : P (.mdk []) n) : Wx K Z tDNewK ds n P := fun b u σ Q e S k => fun p hp =>
  k _ (.mdk []) ⟨u.S, u.T, u.n, u.H0, upd u.H1 p (.dK [])⟩ (Gs.junk S.ex hp) (S.st.write (S.st.not hp)) (.mdk hp (ex_none S.ex hp) (S.st.not hp) upd_same .nil) (e ▸ h)
theorem wx_dc {wi : TI} {vs : List Nat} (h : Wi K Z wi ds n fun xs m => ∃ Iv : Nat → List (Key × D) → Nat → Prop, Iv 0 [] m ∧
    (∀ i x ys k, xs[i]? = some x → Iv i ys k → Wgc K Z g vs x (wipeD ds vs) fun ds2 => Wt K Z tt ds2 k fun c j => if c = true then We K Z tk ds2 j (fun y l => We K Z tv ds2 l fun z q => ys.length < 1000000 ∧ ∃ kk, keyD y kk ∧ (∀ p ∈ ys, p.1 ≠ kk) ∧ Iv (i + 1) (ys ++ [(kk, z)]) q) else Iv (i + 1) ys j) ∧
    (∀ ys k, Iv xs.length ys k → P (.mdk ys) k)) : Wx K Z (tDc wi g tt tk tv vs) ds n P := fun b u σ Q e S k =>
  h b u σ _ e S fun J xs u1 G Y g1 s1 ⟨Iv, i0, is, idn⟩ w hG hY => fun Dl hD => by
    have n0 : u1.H0 Dl = none := ex_none g1.c hD
    have nS : ¬ u1.S Dl := fun h => by
      obtain ⟨_, o, h1, _⟩ := s1 Dl h
      rw [hD] at h1; cases h1
    let Pv : Nat → Hp → Prop := fun i H' => ∃ w ys acc, w.H1 = H' ∧ Gs u1 w ∧ StOk K w ∧ w.H0 Dl = none ∧ ¬ w.S Dl ∧ H' Dl = some (.dK acc) ∧ DenK K w acc ys ∧ Iv i ys w.n
    have start : Pv 0 (upd u1.H1 Dl (.dK [])) := ⟨⟨u1.S, u1.T, u1.n, u1.H0, upd u1.H1 Dl (.dK [])⟩, [], [], rfl, (Gs.refl g1.c).write hD n0, s1.write nS, n0, nS, upd_same, .nil, i0⟩
    have hGG : ∀ i H, i ≤ xs.length → Pv i H → G H := fun i H' _ ⟨w, ys, acc, eh, g', _⟩ => eh ▸ hG w g'.ls g'.c
    refine ⟨fun i m H => m = xs.length - i ∧ i ≤ xs.length ∧ Pv i H, ⟨xs.length, by simp, Nat.zero_le _, start⟩, ?_⟩
    rintro i m H ⟨rfl, hi, p⟩
    have q := hGG i H hi p
    by_cases hlt : i < xs.length
    · refine .inr ⟨w.goes i H hlt q, Pv (i + 1), fun H' p' => ⟨xs.length - (i + 1), by omega, rfl, hlt, p'⟩, fun v H'' y0 => ?_⟩
      have y := w.yields i H v H'' hlt q y0
      obtain ⟨w, ys, acc, rfl, g', sw, c0, cS, hc, hr, iv⟩ := p
      obtain ⟨x, w', rfl, hx, g2, r⟩ := hY w i v H'' g'.ls g'.c sw hlt y
      have c1 := g2.g.nn c0 hc
      have cS1 := g2.g.ns cS hc
      have hc1 := g2.g.b _ _ cS hc
      have S1 := ((S.go g1 s1).go (g'.trans g2.g) (g2.st sw)).wipe vs
      have q := is i x ys w.n hx iv
      rw [← g2.n] at q
      refine q b w' (L2.wipe σ vs) v _ S1 r fun ds2 σ2 S2 l2 f2 q => ⟨wipe_of (l2.trans (wipe_length _ _)) f2, q b w' σ2 _ rfl S2 fun c u3 g3 s3 q3 => ?_⟩
      have c2 := g3.nn c1 hc1
      have cS2 := g3.ns cS1 hc1
      have hc2 := g3.b _ _ cS1 hc1
      cases c with
      | false => exact ⟨u3, ys, acc, rfl, (g'.trans g2.g).trans g3, s3, c2, cS2, hc2, hr.mono (g2.g.ls.trans g3.ls), q3⟩
      | true =>
        refine q3 b u3 σ2 _ rfl (S2.go g3 s3) fun vk dk u4 g4 s4 r4 q4 => q4 b u4 σ2 _ rfl ((S2.go g3 s3).go g4 s4) fun vz dz u5 g5 s5 r5 ⟨hl, kk, hk, hnk, p5⟩ => ?_
        have g45 := g4.trans g5
        have c3 := g45.nn c2 hc2
        have cS3 := g45.ns cS2 hc2
        have hc3 := g45.b _ _ cS2 hc2
        have hrr := hr.mono ((g2.g.ls.trans g3.ls).trans g45.ls)
        have hkeys := denK_keys hrr
        have hno : ∀ p ∈ acc, p.1 ≠ kk := fun p hp => by
          have : p.1 ∈ ys.map (·.1) := by rw [← hkeys]; exact List.mem_map.mpr ⟨p, hp, rfl⟩
          obtain ⟨p2, hp2, e2⟩ := List.mem_map.mp this
          rw [← e2]
          exact hnk p2 hp2
        have l4 : Le u5 ⟨u5.S, u5.T, u5.n, u5.H0, upd u5.H1 Dl (.dK (acc ++ [(kk, vz)]))⟩ := ⟨fun _ h => h, fun _ _ => rfl, .refl _⟩
        refine ⟨acc, kk, den_keyD r4 hk, hc3, by rw [denK_len hrr]; exact Nat.lt_of_lt_of_le hl (by decide), ?_⟩
        rw [putK_app hno]
        exact ⟨⟨u5.S, u5.T, u5.n, u5.H0, upd u5.H1 Dl (.dK (acc ++ [(kk, vz)]))⟩, ys ++ [(kk, dz)], acc ++ [(kk, vz)], rfl, (((g'.trans g2.g).trans g3).trans g45).write hD c3, s5.write cS3, c3, cS3, upd_same, (denK_app hrr r5).mono l4, p5⟩
    · have e : i = xs.length := by omega
      subst e
      obtain ⟨w', ys, acc, rfl, g', sw, c0, cS, hc, hr, iv⟩ := p
      refine .inl ⟨w.stops _ q, ?_⟩
      refine k _ (.mdk ys) w' (g1.trans g') sw (.mdk ?_ c0 cS hc hr) (idn ys _ iv)
      cases q : u.H1 Dl with
      | none => rfl
      | some o => exact absurd hD (g1.b' Dl (by rw [q]; simp))
/-- .. frozen at once -/
theorem we_frz (h : Wx K Z te ds n fun d m => ∃ xs, d = .mdk xs ∧ P (.fdc xs) m) : We K Z (tFrz te) ds n P := fun b u σ Q e S k =>
  h b u σ _ e S fun v d u1 g1 s1 r ⟨xs, hd, p⟩ => by
    subst hd
    cases r with
    | den r => cases r
    | mdk h0 h1 h2 h3 h4 =>
      rename_i a vs
      refine ⟨a, .dK vs, rfl, h3, trivial, fun od => ?_⟩
      have hb : u.H1 a = none := h0
      have g2 : Gs u ⟨u1.S, u1.T, u1.n, u1.H0, upd u1.H1 a (.frz od (.dK vs))⟩ := g1.write hb h1
      have s2 : StOk K ⟨u1.S, u1.T, u1.n, u1.H0, upd u1.H1 a (.frz od (.dK vs))⟩ := s1.write h2
      have l2 : Le u1 ⟨u1.S, u1.T, u1.n, upd u1.H0 a (.frz od (.dK vs)), upd u1.H1 a (.frz od (.dK vs))⟩ := ⟨fun _ h => h, fun _ _ => rfl, ex_new h1⟩
      exact k _ _ ⟨u1.S, u1.T, u1.n, upd u1.H0 a (.frz od (.dK vs)), upd u1.H1 a (.frz od (.dK vs))⟩ (g2.settle hb h1 upd_same) (s2.settle h1 h2) (.fdc upd_same (h4.mono l2)) p
/-- stored: data or a new thing -/
theorem Sd.setS {i : Nat} {v : V} {d : D} (S : Sd K Z b u σ ds) (gr : Gs u u') (st : StOk K u') (h : NewS K u u' v d) : Sd K Z b u' (σ.set i (some v)) (ds.set i (some d)) := by
  have T := S.go gr st
  have core : ∀ (p : Addr), u.H1 p = none → v = .ref p → DenS K b u' (.ref p) d → Sd K Z b u' (σ.set i (some v)) (ds.set i (some d)) := fun p hp ev hd => by
    subst ev
    clear h
    refine ⟨T.gr, T.xk, T.st, by simp [S.len], fun j e q => ?_, fun j k e f a b h1 h2 m1 m2 ne q1 q2 => ?_⟩
    · by_cases q' : i = j
      · subst q'
        rw [get_set] at q
        by_cases hl : i < ds.length
        · simp [hl] at q
          subst q
          exact ⟨.ref p, by simp [get_set, S.len, hl], hd⟩
        · simp [hl] at q
      · rw [get_set, if_neg q'] at q
        obtain ⟨w, h1, h2⟩ := T.sl j e q
        exact ⟨w, by rw [get_set, if_neg q']; exact h1, h2⟩
    · have old : ∀ (j : Nat) (e : D) (a : Addr), ds[j]? = some (some e) → isMut e = true → σ[j]? = some (some (.ref a)) → a ≠ p := fun j e a h m q z => by
        subst z
        obtain ⟨w, h1, h2⟩ := S.sl j e h
        rw [q] at h1
        cases h1
        cases h2 with
        | den hh => rw [hh.notMut] at m; cases m
        | mls _ _ _ hh _ => rw [hp] at hh; cases hh
        | mob _ _ _ hh _ _ _ => rw [hp] at hh; cases hh
        | mdk _ _ _ hh _ => rw [hp] at hh; cases hh
      by_cases k1 : i = j
      · subst k1
        rw [get_set] at q1
        by_cases hl : i < σ.length
        · simp [hl] at q1
          subst q1
          rw [get_set, if_neg ne] at h2 q2
          exact fun z => old k f b h2 m2 q2 z.symm
        · simp [hl] at q1
      · rw [get_set, if_neg k1] at h1 q1
        by_cases k2 : i = k
        · subst k2
          rw [get_set] at q2
          by_cases hl : i < σ.length
          · simp [hl] at q2
            subst q2
            exact old j e a h1 m1 q1
          · simp [hl] at q2
        · rw [get_set, if_neg k2] at h2 q2
          exact S.ap j k e f a b h1 h2 m1 m2 ne q1 q2
  have bn : ∀ p, u.H1 p = none → b.H1 p = none := fun p hp => by
    cases q : b.H1 p with
    | none => rfl
    | some o => exact absurd hp (S.gr.b' p (by rw [q]; simp))
  cases h with
  | den r => exact T.set r
  | mls h0 h1 h2 h3 h4 => exact core _ h0 rfl (.mls (bn _ h0) h1 h2 h3 h4)
  | mdk h0 h1 h2 h3 h4 => exact core _ h0 rfl (.mdk (bn _ h0) h1 h2 h3 h4)
  | mob h0 h1 h2 h3 h4 h5 h6 => exact core _ h0 rfl (.mob (bn _ h0) h1 h2 h3 h4 h5 h6)
theorem ws_setX {i : Nat} (h : Wx K Z te ds n fun d m => N.nx (ds.set i (some d)) m) : Ws K Z (tAsg te (gName i)) ds n N := fun b u σ De e S O =>
  h b u σ _ e S fun v d u1 g1 s1 r p => O.nx _ u1 _ g1.ls (S.setS g1 s1 r) p
theorem ws_parX {i j : Nat} (h : Wx K Z ta ds n fun d m => Wx K Z tb ds m fun e k => N.nx ((ds.set i (some d)).set j (some e)) k) : Ws K Z (tPar i j (tCons ta (tCons tb tNil))) ds n N := fun b u σ De e S O =>
  h b u σ _ e S fun v d u1 g1 s1 r q => q b u1 σ _ rfl (S.go g1 s1) fun w d2 u2 g2 s2 r2 p => ⟨v, w, rfl, O.nx _ u2 _ (g1.ls.trans g2.ls) ((S.setS g1 s1 r).setS g2 s2 r2) p⟩
theorem ws_par3X {i j l : Nat} (h : Wx K Z ta ds n fun d m => Wx K Z tb ds m fun e k => Wx K Z tc ds k fun f q => N.nx (((ds.set i (some d)).set j (some e)).set l (some f)) q) : Ws K Z (tPar3 i j l (tCons ta (tCons tb (tCons tc tNil)))) ds n N := fun b u σ De e S O =>
  h b u σ _ e S fun v d u1 g1 s1 r q => q b u1 σ _ rfl (S.go g1 s1) fun w d2 u2 g2 s2 r2 q => q b u2 σ _ rfl ((S.go g1 s1).go g2 s2) fun x d3 u3 g3 s3 r3 p => ⟨v, w, x, rfl, O.nx _ u3 _ ((g1.ls.trans g2.ls).trans g3.ls) (((S.setS g1 s1 r).setS g2 s2 r2).setS g3 s3 r3) p⟩
/-- the dict that slot i is making is done -/
theorem ws_frzS {i : Nat} {xs : List (Key × D)} (hd : ds[i]? = some (some (.mdk xs))) (h : Ws K Z ts (ds.set i (some (.fdc xs))) n N) : Ws K Z (tFrzS i ts) ds n N := fun b u σ De e S O => by
  obtain ⟨v, hv, hS⟩ := S.sl i _ hd
  cases hS with
  | den h => cases h
  | mdk b0 b1 b5 b2 b3 =>
    rename_i a vs
    refine ⟨a, .dK vs, hv, b2, trivial, fun od => ?_⟩
    have l1 : Le u ⟨u.S, u.T, u.n, upd u.H0 a (.frz od (.dK vs)), upd u.H1 a (.frz od (.dK vs))⟩ := ⟨fun _ h => h, fun _ _ => rfl, ex_new b1⟩
    have g1 : Gs b ⟨u.S, u.T, u.n, u.H0, upd u.H1 a (.frz od (.dK vs))⟩ := S.gr.write b0 b1
    refine h b ⟨u.S, u.T, u.n, upd u.H0 a (.frz od (.dK vs)), upd u.H1 a (.frz od (.dK vs))⟩ σ De e ?_ (O.mono l1)
    refine ⟨g1.settle b0 b1 upd_same, S.xk, (S.st.write b5).settle b1 b5, by simp [S.len], fun j e q => ?_, fun j k e f b' c h1 h2 m1 m2 ne q1 q2 => ?_⟩
    · by_cases q' : i = j
      · subst q'
        have hl : i < ds.length := (List.getElem?_eq_some_iff.mp hd).1
        rw [get_set] at q
        simp [hl] at q
        subst q
        exact ⟨.ref a, hv, .den (.fdc upd_same (b3.mono l1))⟩
      · rw [get_set, if_neg q'] at q
        obtain ⟨w, h1, h2⟩ := S.sl j e q
        refine ⟨w, h1, ?_⟩
        cases h2 with
        | den h => exact .den (h.mono l1)
        | mls c0 c1 c5 c2 c3 =>
          have z := (S.ap i j _ _ _ _ hd q rfl rfl q' hv h1).symm
          exact .mls c0 ((upd_ne z).trans c1) c5 ((upd_ne z).trans c2) (c3.mono l1)
        | mob c0 c1 c5 c2 c4 c6 c3 =>
          have z := (S.ap i j _ _ _ _ hd q rfl rfl q' hv h1).symm
          exact .mob c0 ((upd_ne z).trans c1) c5 ((upd_ne z).trans c2) ((upd_ne (fun z : _ = a => by rw [z, b2] at c4; cases c4)).trans c4) c6 (c3.mono l1)
        | mdk c0 c1 c5 c2 c3 =>
          have z := (S.ap i j _ _ _ _ hd q rfl rfl q' hv h1).symm
          exact .mdk c0 ((upd_ne z).trans c1) c5 ((upd_ne z).trans c2) (c3.mono l1)
    · have hl : i < ds.length := (List.getElem?_eq_some_iff.mp hd).1
      have ni : ∀ (j : Nat) (e : D), (ds.set i (some (D.fdc xs)))[j]? = some (some e) → isMut e = true → ds[j]? = some (some e) := fun j e h m => by
        by_cases q : i = j
        · subst q
          rw [get_set] at h
          simp [hl] at h
          subst h
          cases m
        · rw [get_set, if_neg q] at h; exact h
      exact S.ap j k e f b' c (ni _ _ h1 m1) (ni _ _ h2 m2) m1 m2 ne q1 q2
/-! ### dicts read -/
def valD : List (Key × D) → Key → Option D
  | [], _ => none
  | (f, d) :: r, k => if f = k then some d else valD r k
theorem denK_val : ∀ {kvs : List (Key × V)} {ys : List (Key × D)} {k : Key}, DenK K u kvs ys → (valV kvs k = none ∧ valD ys k = none) ∨ ∃ v d, valV kvs k = some v ∧ valD ys k = some d ∧ Den K u v d
  | _, _, _, .nil => .inl ⟨rfl, rfl⟩
  | _, _, k, .cons (f := f) (v := v) (d := d) (vs := vs) (ds := ds') h1 h2 => by
    by_cases q : f = k
    · exact .inr ⟨v, d, valV_pos q, if_pos q, h1⟩
    · rcases denK_val (k := k) h2 with ⟨a1, a2⟩ | ⟨v', d', a1, a2, a3⟩
      · exact .inl ⟨(valV_neg q).trans a1, (if_neg q).trans a2⟩
      · exact .inr ⟨v', d', (valV_neg q).trans a1, (if_neg q).trans a2, a3⟩
/-- d[k] -/
theorem we_dgetF (h : We K Z ta ds n fun x m => ∃ ys, x = .fdc ys ∧ We K Z tb ds m fun y k => ∃ kk d, keyD y kk ∧ valD ys kk = some d ∧ P d k) : We K Z (tDGet ta tb) ds n P := fun b u σ Q e S k =>
  h b u σ _ e S fun v x u1 g1 s1 r ⟨ys, hx, q⟩ => q b u1 σ _ rfl (S.go g1 s1) fun w y u2 g2 s2 r2 ⟨kk, d, hk, hv, p⟩ => by
    subst hx
    obtain ⟨a, o, kvs, rfl, hd, hkv⟩ := den_fdc r
    have hkv2 := hkv.mono g2.ls
    rcases denK_val (k := kk) hkv2 with ⟨_, z⟩ | ⟨v', d', z1, z2, z3⟩
    · rw [z] at hv; cases hv
    · rw [hv] at z2
      cases z2
      exact ⟨a, v', rfl, .inl ⟨kvs, kk, .inr ⟨o, g2.c _ _ (g2.a _ _ hd)⟩, den_keyD r2 hk, z1.symm⟩, k v' d u2 (g1.trans g2) s2 z3 p⟩
/-- d.get(k, z) -/
theorem we_dget2F (h : We K Z ta ds n fun x m => ∃ ys, x = .fdc ys ∧ We K Z tb ds m fun y k => ∃ kk, keyD y kk ∧ We K Z tc ds k fun z j => P ((valD ys kk).getD z) j) : We K Z (tDGet2 ta tb tc) ds n P := fun b u σ Q e S k =>
  h b u σ _ e S fun v x u1 g1 s1 r ⟨ys, hx, q⟩ => by
    subst hx
    obtain ⟨a, o, kvs, rfl, hd, hkv⟩ := den_fdc r
    refine ⟨a, rfl, .inl ⟨kvs, .inr ⟨o, g1.c _ _ hd⟩⟩, q b u1 σ _ rfl (S.go g1 s1) fun w y u2 g2 s2 r2 ⟨kk, hk, q2⟩ => q2 b u2 σ _ rfl ((S.go g1 s1).go g2 s2) fun z dz u3 g3 s3 r3 p => ?_⟩
    have g23 := g2.trans g3
    refine ⟨valV kvs kk, .inl ⟨kvs, kk, .inr ⟨o, g23.c _ _ (g23.a _ _ hd)⟩, den_keyD r2 hk, rfl⟩, ?_⟩
    rcases denK_val (k := kk) (hkv.mono g23.ls) with ⟨z1, z2⟩ | ⟨v', d', z1, z2, z3⟩
    · rw [z1]; rw [z2] at p
      exact k _ _ u3 (g1.trans g23) s3 r3 p
    · rw [z1]; rw [z2] at p
      exact k _ _ u3 (g1.trans g23) s3 z3 p
/-- the keys as data -/
def keyDt : Key → D
  | .inl i => .int i
  | .inr x => .str x
theorem den_keyDt {k : Key} : Den K u (kV k) (keyDt k) := by
  cases k with
  | inl i => exact .int i
  | inr x => exact .str x
/-- for k in d -/
theorem wi_keysF {Pl : List D → Nat → Prop} (h : We K Z te ds n fun d m => ∃ ys, d = .fdc ys ∧ Pl (ys.map fun p => keyDt p.1) m) : Wi K Z (iKeys te) ds n Pl := fun b u σ R e S k =>
  h b u σ _ e S fun v d u1 g1 s1 r ⟨ys, z, p⟩ => by
    subst z
    obtain ⟨a, o, kvs, rfl, hd, hkv⟩ := den_fdc r
    have W : Walk (Itk a o kvs) (ys.map fun p => keyDt p.1).length (fun H => H a = some (.frz o (.dK kvs))) (fun i H x H' => H' = H ∧ ∃ k v, kvs[i]? = some (k, v) ∧ x = kV k) := by
      rw [List.length_map, ← denK_len hkv]
      exact walk_keys
    refine ⟨a, o, rfl, .inl ⟨kvs, g1.c _ _ hd, k _ (ys.map fun p => keyDt p.1) u1 _ _ g1 s1 p W (fun w l e => e _ _ (l.h _ _ hd)) fun w i v A l e1 _ hi y => ?_⟩⟩
    · obtain ⟨rfl, kk, vv, hkv', rfl⟩ := y
      refine ⟨keyDt kk, w, rfl, ?_, .refl e1, den_keyDt⟩
      have hk := congrArg (fun l => l[i]?) (denK_keys hkv)
      simp only [List.getElem?_map, hkv', Option.map_some] at hk
      rw [List.getElem?_map]
      cases hq : ys[i]? with
      | none => rw [hq] at hk; cases hk
      | some pr => rw [hq] at hk; simp only [Option.map_some, Option.some.injEq] at hk ⊢; rw [← hk]
end
end DL

/-! Lists, dicts and instances that a def is making: grown, stored into, read. -/
namespace PySem.AutoSeq1
theorem list_extend_tup (l : Addr) (items : Array Value) (n : Nat) (b : Addr) (items2 : Array Value) (n2 : Nat) (dd : Option Addr) (sl : Array (Option Value)) (hs0 : ¬(!items.isEmpty && Builtin.List.listTooLong (items.size + items2.size)) = true) (hs1 : items.size ≤ sizeLine) (hs2 : items.size + items2.size ≤ sizeLine + 1 := by seq_fits) :
    Meets (Builtin.«list.extend» ⟨[.ref l, .ref b], []⟩) (fun _ R s => s.heap.get? l = some { cls := .type "list", dict := none, data := .seq items n, slots := #[] } ∧ s.heap.get? b = some { cls := .type "tuple", dict := dd, data := .seq items2 n2, slots := sl } ∧ R (.ok (.ret Value.none)) { s with heap := s.heap.update l (Obj.mapSeq fun x => x ++ items2), toks := s.toks }) :=
  .of_wp fun prog w A R s h => by
    obtain ⟨hp, g, d, tk, os⟩ := s; obtain ⟨hl, hb, h⟩ := h; have f1 := idx_int; have f2 := sub_tuple_tuple; have f3 := sub_list_list; have f4 := sub_tuple_list; have f5 := sub_list_tuple;
    have hz' : (items ++ items2).size ≤ sizeLine + 1 := by rw [Array.size_append]; exact hs2
    wp_walk using (wpAny_updateSeq hl rfl (hz := hs1) (_hz' := hz')), wpAny_loadPart' hl, wpAny_loadPart' hb; exact ⟨_, rfl, h⟩
end PySem.AutoSeq1
namespace L2
open PySem PySem.Spec PyProof.Rows
/-- xs.extend(a tuple) -/
def rExtT (K : PySem.W.Frag) : V → List V → Hp → VK → Prop := fun x vs H Q => ∃ l b xs zs, x = .ref l ∧ vs = [.ref b] ∧ H l = some (.lst xs) ∧ SqT K H b zs ∧ xs.length + zs.length ≤ sizeLine ∧ Q .non (upd H l (.lst (xs ++ zs)))
theorem mt_extT {X : Cx} : MtM X "list.extend" (rExtT X.K) := by
  intro pins s σ H x vs v us Q I rx rv h
  obtain ⟨l, b, xs, zs, rfl, rfl, hH, hB, hz, q⟩ := h
  cases rx
  obtain ⟨u, rfl, ru⟩ := rv.one
  cases ru
  obtain ⟨z, its, n, r, hl, e⟩ := I.lstM hH
  obtain ⟨its2, r2, ⟨⟨cls, dd, data, sl⟩, e2, hc, n2, hd⟩, hl2⟩ := I.tuple hB
  simp only at hc hd
  subst hc hd
  have q1 := r.length
  have q2 := r2.length
  have hsz : its.toArray.size + its2.toArray.size ≤ sizeLine := by rw [List.size_toArray, List.size_toArray]; omega
  have hlong : ¬ (!its.toArray.isEmpty && Builtin.List.listTooLong (its.toArray.size + its2.toArray.size)) = true := by
    rw [notLongL hsz, Bool.and_false]
    exact Bool.false_ne_true
  refine call_meets F.slot_list_extend ⟨_, e, rfl⟩ F.entry_list_extend (F.args_list_extend_2 _ _)
    (AutoSeq1.list_extend_tup l its.toArray n b its2.toArray n2 dd sl hlong (by rw [List.size_toArray]; omega) (by omega)) ⟨e, e2, ?_⟩
  refine ⟨.non, _, I.lset (its' := its ++ its2) hH e (by simp) (r.append r2) ?_, rfl, q⟩
  rw [List.length_append]
  omega
end L2
namespace DL
open PySem L2 StX
section
variable {K : PySem.W.Frag} [Tb K] {Z : ZX} {b u u' u'' : Wd} {σ : L2.St} {ds : DS} {n : Nat} {P : D → Nat → Prop} {te ta tb tc tk tv ti : TE} {tt tu : TT} {N : Nd} {ts t1 t2 : TS} {g : TG} {De : Ends} {C : Addr}
/-- xs.extend(t), xs a list that is grown, t a tuple -/
theorem ws_extT {i : Nat} {xs : List D} (hd : ds[i]? = some (some (.mls xs))) (h : We K Z te ds n fun d m => ∃ ys, d = .tup ys ∧ xs.length + ys.length ≤ 1000000 ∧ N.nx (ds.set i (some (.mls (xs ++ ys)))) m) : Ws K Z (tDrop (tBM K "list" (rExtT K) (tVar i) (tCons te tNil))) ds n N := fun b u σ De e S O => by
  obtain ⟨a, vs, hv, b0, b1, b5, b2, b3⟩ := mls_at S hd
  refine ⟨.ref a, hv, ⟨Or.inl ⟨rfl, vs, SqL.of b2⟩, h b u σ _ e S fun w d u1 g1 s1 r ⟨ys, hy, hz, p⟩ => ?_⟩⟩
  subst hy
  obtain ⟨t, ws, rfl, q, r2⟩ := den_tup r
  have S1 := S.go g1 s1
  obtain ⟨a', vs', hv', c0, c1, c5, c2, c3⟩ := mls_at S1 hd
  rw [hv] at hv'
  cases hv'
  have l1 : Le u1 ⟨u1.S, u1.T, u1.n, u1.H0, upd u1.H1 a (.lst (vs' ++ ws))⟩ := ⟨fun _ h => h, fun _ _ => rfl, .refl _⟩
  exact ⟨a, t, vs', ws, rfl, rfl, c2, Evl.ex_t g1.c q, by rw [c3.len, r2.len]; exact Nat.le_trans hz (sz100 (Nat.le_refl _)), O.nx _ ⟨u1.S, u1.T, u1.n, u1.H0, _⟩ _ ⟨g1.sub, g1.kd, g1.a⟩ (S1.change hd rfl hv rfl c0 c1 c5 (fun _ z => by rw [c2] at z; cases z) (.mls c0 c1 c5 upd_same ((c3.app r2).mono l1))) p⟩
/-- x = xs.pop(k), xs.append(ys.pop(k)) .. : what is popped, and the list left -/
def Wp (K : PySem.W.Frag) [Tb K] (Z : ZX) (te : TE) (ds : DS) (n : Nat) (P : D → DS → Nat → Prop) : Prop :=
  ∀ (b u : Wd) (σ : L2.St) (Q : VK), u.n = n → Sd K Z b u σ ds → (∀ v d ds' u', Le u u' → Sd K Z b u' σ ds' → Den K u' v d → P d ds' u'.n → Q v u'.H1) → te σ u.H1 Q
/-- y in xs, xs a list that is grown -/
theorem we_inM {i : Nat} {xs : List D} {es : List PyData} (hd : ds[i]? = some (some (.mls xs))) (hes : pds xs = some es) (pl : PyData.plainAll es = true) (h : We K Z te ds n fun d m => ∃ y, pd d = some y ∧ y.plain = true ∧ y.depth ≤ 60 ∧ P (.bl (es.any fun z => PyData.eqv z y)) m) : We K Z (tOp (rInP K) te (tVar i)) ds n P := fun b u σ Q e S k =>
  h b u σ _ e S fun w d u1 g1 s1 r ⟨y, hy, py, dy, p⟩ => by
    obtain ⟨a, vs, hv, b0, b1, b5, b2, b3⟩ := mls_at (S.go g1 s1) hd
    exact ⟨.ref a, hv, y, es, den_dp g1.c r hy, .inl (.lst (SqL.of b2) (dens_dp g1.c b3 hes)), py, pl, dy, k _ _ u1 g1 s1 (.bl _) p⟩
/-- xs == [], xs != [] of a list that is grown -/
theorem we_neM0 {i : Nat} {xs : List D} {es : List PyData} (hd : ds[i]? = some (some (.mls xs))) (hes : pds xs = some es) (pl : PyData.plainAll es = true) (dp : PyData.depthAll es ≤ 60) (h : P (.bl (decide (xs ≠ []))) n) : We K Z (tOp (rNeP K) (tVar i) (tLst tNil)) ds n P := fun b u σ Q e S k => by
  obtain ⟨a, vs, hv, b0, b1, b5, b2, b3⟩ := mls_at S hd
  refine ⟨.ref a, hv, ⟨(by show 0 ≤ sizeLine; decide), fun q hq => ?_⟩⟩
  have S2 := S.go (Gs.put S.ex (o := .lst []) hq) (S.st.put S.ex hq)
  obtain ⟨a', vs', hv', c0, c1, c5, c2, c3⟩ := mls_at S2 hd
  rw [hv] at hv'
  cases hv'
  refine ⟨.list es, .list [], .lst (SqL.of c2) (dens_dp S2.ex c3 hes), .lst (SqL.of upd_same) .nil, by simpa [PyData.plain] using pl, rfl, by simp only [PyData.depth]; omega, ?_⟩
  have e2 : (!PyData.eqv (.list es) (.list [])) = decide (xs ≠ []) := by
    cases xs with
    | nil => simp only [pds] at hes; cases hes; rfl
    | cons x xs =>
      simp only [pds] at hes
      cases hp : pd x with
      | none => rw [hp] at hes; cases hes
      | some y =>
        rw [hp] at hes
        cases hq : pds xs with
        | none => rw [hq] at hes; cases hes
        | some ys => rw [hq] at hes; cases hes; simp [PyData.eqv, PyData.eqvAll]
  rw [e2]
  exact k _ _ (u.put q (.lst [])) (.put S.ex hq) (S.st.put S.ex hq) (.bl _) (e ▸ h)
/-! ### dicts and instances in the making -/
theorem mdk_at {i : Nat} {xs : List (Key × D)} (S : Sd K Z b u σ ds) (hd : ds[i]? = some (some (.mdk xs))) : ∃ a vs, σ[i]? = some (some (.ref a)) ∧ b.H1 a = none ∧ u.H0 a = none ∧ ¬ u.S a ∧ u.H1 a = some (.dK vs) ∧ DenK K u vs xs := by
  obtain ⟨v, hv, hS⟩ := S.sl i _ hd
  cases hS with
  | den h => cases h
  | mdk b0 b1 b5 b2 b3 => exact ⟨_, _, hv, b0, b1, b5, b2, b3⟩
theorem mob_at {i : Nat} {a dx C : Addr} {gs : List (Str × D)} (S : Sd K Z b u σ ds) (hd : ds[i]? = some (some (.mob a dx C gs))) : ∃ fs, σ[i]? = some (some (.ref a)) ∧ b.H1 a = none ∧ u.H0 a = none ∧ ¬ u.S a ∧ u.H1 a = some (.ins C dx fs) ∧ u.H1 dx = some (.own a) ∧ ¬ u.S dx ∧ DenF K u fs gs := by
  obtain ⟨v, hv, hS⟩ := S.sl i _ hd
  cases hS with
  | den h => cases h
  | mob b0 b1 b5 b2 b4 b6 b3 => exact ⟨_, hv, b0, b1, b5, b2, b4, b6, b3⟩
def putKD (kvs : List (Key × D)) (k : Key) (d : D) : List (Key × D) := if kvs.any (fun p => decide (p.1 = k)) then kvs.map (fun p => if p.1 = k then (k, d) else p) else kvs ++ [(k, d)]
/-- a field of the instance in slot i that is being made -/
theorem we_fldM {i : Nat} {f : Str} {a dx : Addr} {gs : List (Str × D)} {d : D} (hd : ds[i]? = some (some (.mob a dx C gs))) (hc : Cls K C) (hn : NoAttr K C f) (hl : gs.lookup f = some d) (h : P d n) : We K Z (tFld K (tVar i) f) ds n P := fun b u σ Q e S k => by
  obtain ⟨fs, hv, b0, b1, b5, b2, b4, b6, b3⟩ := mob_at S hd
  obtain ⟨w, h1, h2⟩ := b3.look hl
  exact ⟨.ref a, hv, a, C, dx, fs, w, rfl, b2, hc, hn, h1, k w d u (.refl S.ex) S.st h2 (e ▸ h)⟩
end
end DL

/-! Defs with *args: their promise, calls, instances made by such an __init__; what is walked: a list or a tuple. -/
namespace L2
open PySem PySem.Spec PyProof.Rows StX
/-- def f(a, .., *v): what is left over stands in a new tuple -/
def starS (k : Nat) (sp : Sp) : Sp := fun vs H Q E => ∃ ws rest, vs = ws ++ rest ∧ ws.length = k ∧ rest.length ≤ sizeLine ∧ ∀ p, H p = Option.none → sp (ws ++ [V.ref p]) (upd H p (.tup rest)) Q E
def StarB (fd : FuncData) (ps : List Str) (pv : Str) : Prop := ∀ us rest : List Value, us.length = ps.length → bindArgs fd ⟨us ++ rest, []⟩ = (newTuple rest >>= fun t => pure (ps.zip us ++ [(pv, t)]))
theorem Fun.starB {K : PySem.W.Frag} {x qual pv : Str} {st : Stmt} {f : Addr} {fd : FuncData} {ps : List Str} (F : Fun K x qual st f fd)
    (h : ∀ (kV doc pm : Value) (an : Option Addr) (cdv ct : Value) (us rest : List Value), us.length = ps.length → bindArgs (PySem.W.fnOf x qual (defArgs st) (defBody st) (defScope st) .none kV doc pm an cdv ct) ⟨us ++ rest, []⟩ = (newTuple rest >>= fun t => pure (ps.zip us ++ [(pv, t)]))) : StarB fd ps pv := by
  obtain ⟨oc, od, kV, doc, pm, an, cdv, ct, osl, rfl, lk, hcd⟩ := F.ex
  exact h kV doc pm an cdv ct
theorem Fun.okStar {Pr : Program} {w : World} {K : PySem.W.Frag} {mg : Str → Option Value} {base : Heap} {x qual pv : Str} {st : Stmt} {f : Addr} {fd : FuncData} {N ps : List Str} {k : Nat} {sp : Sp} (F : Fun K x qual st f fd) (S : FnScope N (ps ++ [pv]) (defScope st)) (hb : StarB fd ps pv)
    (hbody : ∀ (cdv : Value) (A : Around) (outer : List Env) (s : Shared) (H : Hp) (vs : List V) (Q : VK) (E : XK), Room k (A.deeper (envOfC qual (defScope st) s.heap.objs.size f cdv)) → sp vs H Q E →
      ∃ t, PSs (cxOf CX0 Pr w K mg base N qual (defScope st) f cdv A outer s H E).nox (defBody st) t ∧ t { nx := fun _ H' => Q .non H', rt := Q } (start N vs) H) : FnR Pr w K mg base CX0 (k + 1) f (starS ps.length sp) := by
  obtain ⟨oc, od, kV, doc, pm, an, cdv, ct, osl, rfl, lk, hcd⟩ := F.ex
  refine fn_star lk hcd S cxUp_none hb fun A outer s H vs Q E hr hsp => ?_
  obtain ⟨t, h, q⟩ := hbody cdv A outer s H vs Q E hr hsp
  exact ⟨t, h.nox, q⟩
section
variable {X : Cx} {CX : CXT} {k i : Nat} {f C : Addr} {sp : Sp} {E : XK} {x : Str} {e fe : Expr} {es : List Expr} {te tf : TE} {t : TA} {p pos sp_ : Pos}
/-- C(*e) -/
def tMakeS (K : PySem.W.Frag) (C : Addr) (sp : Sp) (E : XK) (te : TE) : TE := fun σ H Q => te σ H fun y H1 => ∃ a xs, y = V.ref a ∧ (SqT K H1 a xs ∨ SqL K H1 a xs) ∧ ∀ x dx, H1 x = Option.none → H1 dx = Option.none → dx ≠ x →
  sp (V.ref x :: xs) (upd (upd H1 dx (.own x)) x (.ins C dx [])) (fun v H2 => v = .non ∧ Q (.ref x) H2) E
theorem pe_makeS (M : Mk X.K C f) (F : FnR X.prog X.w X.K X.mg X.base CX k f sp) (hr : Room (k + 1) X.A) (hg : Gl X x) (hm : X.mg x = some (.ref C)) (hx : Passes CX X E) (he : PE X e te) (hd : (x == ("__debug__" : Str)) = false := by decide)
    (hst : starEach [.Starred e sp_] X.env = [(true, eval e X.env)] := by rfl) : PE X (.Call (.Name x p) [.Starred e sp_] [] pos) (tMakeS X.K C sp E te) := by
  refine ⟨fun pins s σ H Q I h => ?_⟩
  refine wpAny_Call_Name_kw (ld_glob I hg hm ?_ hd)
  refine PySem.W.callWith_S (h₀ := X.base) I.ok.mod.kin M.kp (thn (he.run pins s σ H _ I h) fun v s1 ⟨y, H1, I1, ry, a, xs, ey, hxs, q⟩ => ?_) hst
  subst ey
  obtain rfl : v = Value.ref a := ry
  exact star_any I1 hxs fun us s2 I2 rv => ⟨I2.kIn, run_makeR M F hr hx I2 rv q⟩
end
/-- a list or a tuple, walked -/
def iSeq (K : PySem.W.Frag) (te : TE) : TI := fun σ H R => iList K te σ H R ∨ iTup K te σ H R
theorem pi_seq {X : Cx} {tg e : Expr} {te : TE} (h : PE X e te) : PI X tg e (iSeq X.K te) := ⟨fun pins s σ H R I hw => hw.elim ((pi_list h).run pins s σ H R I) ((pi_tup h).run pins s σ H R I)⟩
end L2
namespace DL
open PySem L2 StX
open PyProof.Rows (envOfC)
section
variable {K : PySem.W.Frag} [Tb K] {Z : ZX} {b u u' u'' : Wd} {σ : L2.St} {ds : DS} {n : Nat} {P : D → Nat → Prop} {te ta tb tc tk tv ti : TE} {tt tu : TT} {N : Nd} {ts t1 t2 : TS} {g : TG} {De : Ends} {C : Addr} {Pl : List D → Nat → Prop}
/-- walked by a name of the def or the like: known ahead which it is -/
theorem wi_seqL (h : We K Z te ds n fun d m => ∃ xs, d = .lst xs ∧ Pl xs m) : Wi K Z (iSeq K te) ds n Pl := fun b u σ R e S k => .inl (wi_list h b u σ R e S k)
theorem wi_seqT (h : We K Z te ds n fun d m => ∃ xs, d = .tup xs ∧ Pl xs m) : Wi K Z (iSeq K te) ds n Pl := fun b u σ R e S k => .inr (wi_tup h b u σ R e S k)
theorem upd_comm {H : Hp} {a c : Addr} {o q : HO} (h : a ≠ c) : upd (upd H a o) c q = upd (upd H c q) a o := by
  funext x
  by_cases h1 : x = a
  · subst h1; rw [upd_ne h, upd_same, upd_same]
  · by_cases h2 : x = c
    · subst h2; rw [upd_same, upd_ne h1, upd_same]
    · rw [upd_ne h2, upd_ne h1, upd_ne h1, upd_ne h2]
/-- the promise of an __init__ with *args at a new instance -/
theorem starI_core {R : Ri} {Pg : List (Str × D) → Prop} {vs : List V} {xs : List D} {Q : VK} {E : XK} (e : Ex u.H0 u.H1) (st : StOk K u) (r : Dens K u vs xs) (hz : xs.length ≤ 1000000) (h : R [.tup xs] u.n Pg noX)
    (k : ∀ fs gs x dx u', Gs u u' → StOk K u' → u'.n = u.n → u.H1 x = none → u'.H0 x = none → ¬ u'.S x → u'.H1 x = some (.ins C dx fs) → u'.H1 dx = some (.own x) → ¬ u'.S dx → DenF K u' fs gs → Pg gs → Q (.ref x) u'.H1) :
    ∀ x dx, u.H1 x = Option.none → u.H1 dx = Option.none → dx ≠ x → starS 1 (spI K C R) (V.ref x :: vs) (upd (upd u.H1 dx (.own x)) x (.ins C dx [])) (fun v H2 => v = .non ∧ Q (.ref x) H2) E := fun x dx hx hdx ne => by
  refine ⟨[.ref x], vs, rfl, rfl, by rw [r.len]; exact sz100 hz, fun p hp => ?_⟩
  have px : p ≠ x := fun z => by rw [z, upd_same] at hp; cases hp
  have pdx : p ≠ dx := fun z => by rw [z, upd_ne ne, upd_same] at hp; cases hp
  rw [upd_ne px, upd_ne pdx] at hp
  have l1 := (Gs.put e (o := .tup vs) hp).ls
  refine ⟨x, dx, [.ref p], u.put p (.tup vs), [.tup xs], Pg, noX, rfl, (upd_ne px.symm).trans hx, (upd_ne pdx.symm).trans hdx, ne, ?_, (Gs.put e hp).c, st.put e hp, .cons (.tup (SqT.of upd_same) (r.mono l1)) .nil, h, fun fs gs u' g s en h0 h1 h2 h3 h4 pg => ⟨rfl, ?_⟩, xok_no⟩
  · rw [upd_comm px.symm, upd_comm (a := dx) (c := p) pdx.symm]
  · refine k fs gs x dx u' ((Gs.put e hp).trans g) s en hx h0 h1 h2 h3 (fun z => ?_) h4 pg
    obtain ⟨_, o, ho, hs⟩ := s dx z
    rw [h3] at ho
    cases ho
    cases q : u'.T dx <;> rw [q] at hs
    · obtain ⟨_, _, _, z, _⟩ := hs; cases z
    · obtain ⟨_, _, _, _, z, _⟩ := hs; cases z
    · obtain ⟨_, _, _, _, z, _⟩ := hs; cases z
    · obtain ⟨_, z, _⟩ := hs; cases z
    · obtain ⟨_, z, _⟩ := hs; cases z
theorem we_makeR {R : Ri} {t : TA} {E : XK} (h : Wa K Z t ds n fun xs m => xs.length ≤ 1000000 ∧ R [.tup xs] m (fun gs => P (.obj C gs) m) noX) : We K Z (tMakeR C (starS 1 (spI K C R)) E t) ds n P := fun b u σ Q e S k =>
  h b u σ _ e S fun vs xs u1 g1 s1 r ⟨hz, p⟩ => starI_core g1.c s1 r hz p fun fs gs x dx u2 g2 s2 en hx h0 h1 h2 h3 h5 h4 pg => by
    have l1 : Le u2 ⟨u2.S, u2.T, u2.n, upd u2.H0 x (.ins C dx fs), u2.H1⟩ := ⟨fun _ h => h, fun _ _ => rfl, ex_new h0⟩
    exact k _ _ ⟨u2.S, u2.T, u2.n, upd u2.H0 x (.ins C dx fs), u2.H1⟩ (g1.trans (g2.settle hx h0 h2)) (s2.settle h0 h1) (.obj upd_same (h4.mono l1)) (en ▸ pg)
/-- C(*e) -/
theorem we_makeS {R : Ri} {E : XK} (h : We K Z te ds n fun d m => ∃ xs, (d = .tup xs ∨ d = .lst xs) ∧ xs.length ≤ 1000000 ∧ R [.tup xs] m (fun gs => P (.obj C gs) m) noX) : We K Z (tMakeS K C (starS 1 (spI K C R)) E te) ds n P := fun b u σ Q e S k =>
  h b u σ _ e S fun v d u1 g1 s1 r ⟨xs, hd, hz, p⟩ => by
    have go : ∀ (a : Addr) (vs : List V), v = .ref a → (SqT K u1.H1 a vs ∨ SqL K u1.H1 a vs) → Dens K u1 vs xs → (∃ a xs, v = V.ref a ∧ (SqT K u1.H1 a xs ∨ SqL K u1.H1 a xs) ∧ ∀ x dx, u1.H1 x = Option.none → u1.H1 dx = Option.none → dx ≠ x →
        starS 1 (spI K C R) (V.ref x :: xs) (upd (upd u1.H1 dx (.own x)) x (.ins C dx [])) (fun v H2 => v = .non ∧ Q (.ref x) H2) E) := fun a vs ev hs r2 =>
      ⟨a, vs, ev, hs, starI_core g1.c s1 r2 hz p fun fs gs x dx u2 g2 s2 en hx h0 h1 h2 h3 h5 h4 pg => by
        have l1 : Le u2 ⟨u2.S, u2.T, u2.n, upd u2.H0 x (.ins C dx fs), u2.H1⟩ := ⟨fun _ h => h, fun _ _ => rfl, ex_new h0⟩
        exact k _ _ ⟨u2.S, u2.T, u2.n, upd u2.H0 x (.ins C dx fs), u2.H1⟩ (g1.trans (g2.settle hx h0 h2)) (s2.settle h0 h1) (.obj upd_same (h4.mono l1)) (en ▸ pg)⟩
    rcases hd with rfl | rfl
    · obtain ⟨a, vs, rfl, q, r⟩ := den_tup r
      exact go a vs rfl (.inl (Evl.ex_t g1.c q)) r
    · obtain ⟨a, vs, rfl, q, r⟩ := den_lst r
      exact go a vs rfl (.inr (Evl.ex_l g1.c q)) r
variable {Pr : Program} {w : World} {mg : Str → Option Value} {base : Heap}
/-- the body of an __init__, from the promise at a new instance -/
theorem initRun {R : Ri} {N : List Str} {vs : List V} {H : Hp} {Q : VK} {E : XK} {t : TS} {m : Nat} (len : ∀ ds n P X, R ds n P X → ds.length + 1 = m) (hNp : m ≤ N.length)
    (hW : ∀ Z x dx ds n P, R ds n P Z.X → Ws K Z t (some (.mob x dx C []) :: startD (N.length - 1) ds) n { nx := fun ds' m => m = n ∧ ∃ gs, ds'[0]? = some (some (.mob x dx C gs)) ∧ P gs, rt := fun _ _ => False })
    (h : spI K C R vs H Q E) : t { nx := fun _ H' => Q .non H', rt := Q } (L2.start N vs) H := by
  obtain ⟨x, dx, ws, u, ds, P, X, e, hx, hdx, ne, eH, ex, st, r, h, q, xk⟩ := h
  subst e
  subst eH
  have hl := len ds _ P X h
  obtain ⟨j, hn⟩ : ∃ j, N.length = j + 1 := ⟨N.length - 1, by omega⟩
  have x0 : u.H0 x = none := ex_none ex hx
  have dx0 : u.H0 dx = none := ex_none ex hdx
  have xS : ¬ u.S x := fun h => by
    obtain ⟨_, o, h1, _⟩ := st x h
    rw [hx] at h1; cases h1
  have dxS : ¬ u.S dx := fun h => by
    obtain ⟨_, o, h1, _⟩ := st dx h
    rw [hdx] at h1; cases h1
  have g : Gs u ⟨u.S, u.T, u.n, u.H0, upd (upd u.H1 dx (.own x)) x (.ins C dx [])⟩ := ((Gs.refl ex).write (o := .own x) hdx dx0).write (o := .ins C dx []) hx x0
  have s2 : StOk K ⟨u.S, u.T, u.n, u.H0, upd (upd u.H1 dx (.own x)) x (.ins C dx [])⟩ := (st.write (o := .own x) dxS).write (o := .ins C dx []) xS
  have S0 : Sd K ⟨E, X⟩ u ⟨u.S, u.T, u.n, u.H0, upd (upd u.H1 dx (.own x)) x (.ins C dx [])⟩ (L2.start N (.ref x :: ws)) (some (.mob x dx C []) :: startD (N.length - 1) ds) := by
    cases hN : N with
    | nil => rw [hN] at hn; cases hn
    | cons y N' =>
      have T := (sd_start (Z := ⟨E, X⟩) (N := N') (vs := ws) ex xk st r (by rw [hN] at hNp; simp at hNp; rw [r.len]; omega)).go g s2
      have es : L2.start (y :: N') (V.ref x :: ws) = some (V.ref x) :: L2.start N' ws := by simp [L2.start]
      rw [es]
      have nm : ∀ (i : Nat) (d : D), (some (D.mob x dx C []) :: startD ((y :: N').length - 1) ds)[i]? = some (some d) → isMut d = true → i = 0 := fun i d h m => by
        cases i with
        | zero => rfl
        | succ i =>
          have h' : (startD N'.length ds)[i]? = some (some d) := by simpa using h
          unfold startD at h'
          rw [List.getElem?_append] at h'
          by_cases q : i < (ds.map some).length
          · rw [if_pos q] at h'
            have h3 : ds[i]? = some d := by simpa using h'
            obtain ⟨v, _, hd⟩ := r.getD h3
            rw [hd.notMut] at m
            cases m
          · rw [if_neg q, List.getElem?_replicate] at h'
            split at h' <;> cases h'
      refine ⟨g, xk, s2, by simpa using T.len, fun i d hi => ?_, fun i j d e a b h1 h2 m1 m2 nij => absurd ((nm i d h1 m1).trans (nm j e h2 m2).symm) nij⟩
      cases i with
      | zero =>
        simp at hi
        subst hi
        exact ⟨.ref x, by simp, .mob hx x0 xS upd_same ((upd_ne ne).trans upd_same) dxS .nil⟩
      | succ i =>
        obtain ⟨v, hv, hd⟩ := T.sl i d (by simpa using hi)
        exact ⟨v, by simpa using hv, hd⟩
  refine hW ⟨E, X⟩ x dx ds u.n P h u ⟨u.S, u.T, u.n, u.H0, _⟩ _ _ rfl S0 ⟨fun ds' u2 σ' _ S' ⟨en, gs, hg, p⟩ => ?_, fun d v _ _ _ _ p => p.elim, fun _ _ _ _ _ z => z.elim, fun _ _ _ _ _ z => z.elim⟩
  obtain ⟨v, _, hS⟩ := S'.sl 0 _ hg
  cases hS with
  | den z => cases z
  | mob c0 c1 c5 c2 c4 c6 c3 => exact q _ gs u2 S'.gr S'.st en c1 c5 c2 c4 c3 p
/-- an __init__ with *args keeps its promise -/
theorem dokSI {x qual p1 pv : Str} {st : Stmt} {f : Addr} {fd : FuncData} {N : List Str} {k : Nat} {R : Ri} (F : Fun K x qual st f fd) (S : FnScope N ([p1] ++ [pv]) (defScope st)) (hb : StarB fd [p1] pv) (len : ∀ ds n P X, R ds n P X → ds.length + 1 = 2) (hNp : 2 ≤ N.length)
    (hbody : ∀ (cdv : Value) (A : Around) (outer : List Env) (s : Shared) (H : Hp) (E : XK), Room k (A.deeper (envOfC qual (defScope st) s.heap.objs.size f cdv)) →
      ∃ t, PSs (cxOf CX0 Pr w K mg base N qual (defScope st) f cdv A outer s H E).nox (defBody st) t ∧ ∀ Z x dx ds n P, R ds n P Z.X → Ws K Z t (some (.mob x dx C []) :: startD (N.length - 1) ds) n { nx := fun ds' m => m = n ∧ ∃ gs, ds'[0]? = some (some (.mob x dx C gs)) ∧ P gs, rt := fun _ _ => False }) : FnR Pr w K mg base CX0 (k + 1) f (starS 1 (spI K C R)) := by
  refine F.okStar S hb fun cdv A outer s H vs Q E hr h => ?_
  obtain ⟨t, ht, hW⟩ := hbody cdv A outer s H E hr
  exact ⟨t, ht, initRun len hNp hW h⟩
end
end DL

/-! enumerate(tuple). -/
namespace PySem
open Sem (wp)
open AutoSeq1 (wpAny_loadPart')
theorem meets_enumerate_newT (l : Addr) (items : Array Value) (n : Nat) (dct : Option Addr) (sl : Array (Option Value)) :
    Meets (Builtin.«enumerate.__new__» ⟨[.type "enumerate", .ref l], []⟩) (fun _ R s => s.heap.get? l = some { cls := .type "tuple", dict := dct, data := .seq items n, slots := sl } ∧
      R (.ok (.ret (.ref (s.heap.push { cls := .type "tuple_iterator", data := .fields #[.ref l, .int 0 0] }).objs.size)))
        { s with heap := (s.heap.push { cls := .type "tuple_iterator", data := .fields #[.ref l, .int 0 0] }).push { cls := .type "enumerate", data := .fields #[.none, .bool false, .ref s.heap.objs.size, rawInt 0, .none, .none] } }) :=
  .of_wp fun prog w A R s h => by
    obtain ⟨hp, g, d, tk, os⟩ := s; obtain ⟨hl, h⟩ := h
    have hsub := sub_enumerate
    have hL : Heap.IsTuple (Shared.heap ⟨hp, g, d, tk, os⟩) l items := ⟨_, hl, rfl, n, rfl⟩
    wp_walk using wpAny_loadPart' hl
    refine wpAny_stack_any fun st => wpAny_pure ?_
    split
    · rename_i c _ _ _ _ _
      cases (c == Value.type "enumerate")
      · wp_walk using wpAny_loadPart' hl, wpAny_pyIter_tuple hL
        exact ⟨_, rfl, h⟩
      · wp_walk using wpAny_loadPart' hl, wpAny_pyIter_tuple hL
        exact ⟨_, rfl, h⟩
    · wp_walk using wpAny_loadPart' hl, wpAny_pyIter_tuple hL
      exact ⟨_, rfl, h⟩
section
variable {prog : Program} {w : World} {A : Around} {E : Value → Shared → Prop} {s : Shared}
theorem call_enumerate_tuple {l : Addr} {items : Array Value} {Q : Value → Shared → Prop} (hL : s.heap.IsTuple l items)
    (h : ∀ h', IsEnum h' (s.heap.objs.size + 1) s.heap.objs.size 0 .none → h'.IsTupleIter s.heap.objs.size l 0 → h'.objs.size = s.heap.objs.size + 2 →
      (∀ b o, s.heap.get? b = some o → h'.get? b = some o) → Q (.ref (s.heap.objs.size + 1)) { s with heap := h' }) :
    wpAny (model prog w) A (call (.type "enumerate") [.ref l]) Q E s := by
  obtain ⟨⟨c, dct, dt, sl⟩, hl, hc, n, hd⟩ := hL
  replace hc : c = .type "tuple" := hc
  replace hd : dt = .seq items n := hd
  subst hc hd
  refine callType_new F.called_enumerate (by decide) (F.typeCall_enumerate_1 _) (F.newCall_enumerate_1 _) (fun obj => F.args_object_init_2 obj _) F.entry_enumerate_new
    (meets_enumerate_newT l items n dct sl) ⟨hl, ?_⟩
  have hz : (s.heap.push { cls := .type "tuple_iterator", data := .fields #[.ref l, .int 0 0] }).objs.size = s.heap.objs.size + 1 := Heap.size_push ..
  show _ ∧ _
  rw [hz]
  have he : IsEnum ((s.heap.push { cls := .type "tuple_iterator", data := .fields #[.ref l, .int 0 0] }).push
      { cls := .type "enumerate", data := .fields #[.none, .bool false, .ref s.heap.objs.size, rawInt 0, .none, .none] }) (s.heap.objs.size + 1) s.heap.objs.size 0 .none := by
    have := Heap.get?_push_size (s.heap.push { cls := .type "tuple_iterator", data := .fields #[.ref l, .int 0 0] })
      (o := { cls := .type "enumerate", data := .fields #[.none, .bool false, .ref s.heap.objs.size, rawInt 0, .none, .none] }) rfl
    rw [hz] at this; exact this
  refine ⟨⟨_, he, rfl⟩, h _ he ⟨_, Heap.get?_push_of_some _ (Heap.get?_push_size _ rfl), rfl, rfl⟩ (by rw [Heap.size_push, hz]) fun b o x => Heap.get?_push_of_some _ (Heap.get?_push_of_some _ x)⟩
end
end PySem
namespace L2
open PySem PySem.Spec PyProof.Rows
/-- a tuple, each item in a new pair -/
def Itet (K : PySem.W.Frag) (a : Addr) : It :=
  ⟨fun i H => ∃ (xs : List V) (x : V), SqT K H a xs ∧ xs[i]? = some x, fun i H v H' => ∃ T x, v = .ref T ∧ H T = none ∧ H' = upd H T (.tup [.int (i : Nat), x]) ∧ ∀ xs, SqT K H a xs → xs[i]? = some x, fun i H => ∃ xs : List V, SqT K H a xs ∧ xs.length ≤ i⟩
theorem turn_enumT {P : Program} {w : World} {K : PySem.W.Frag} {elts : List Expr} {kk : Nat} {tpos : Pos} (a e it : Addr) :
    Turn P w K (.Tuple elts kk tpos) (Itet K a) [e, it] e (fun i h => (∃ old, IsEnum h e it ((i : Nat) : Int) old) ∧ h.IsTupleIter it a i ∧ e ≠ it ∧ a ≠ it ∧ a ≠ e) where
  mem := by simp
  obj := fun i h st b hb => by
    obtain ⟨⟨old, he⟩, ⟨o, ho, hc, hd⟩, _⟩ := st
    have e' : b = e ∨ b = it := by simpa using hb
    rcases e' with z | z
    · rw [z]; exact ⟨_, he, fun v q => nomatch q⟩
    · rw [z]; exact ⟨o, ho, fun v q => by rw [hd] at q; cases q⟩
  keep := fun i h h' st k => let ⟨⟨old, he⟩, ⟨o, ho, r⟩, hne⟩ := st; ⟨⟨old, k e (by simp) _ he⟩, ⟨o, k it (by simp) o ho, r⟩, hne⟩
  item := by
    intro X hP hw hK hc i pins s σ H E I hf st hg
    subst hP hw hK
    obtain ⟨⟨old, he⟩, hit, hne, hai, hae⟩ := st
    obtain ⟨xs, x, hq, hx⟩ := hg
    obtain ⟨its, rv, p, hz⟩ := I.tuple hq
    obtain ⟨u, hu, ru⟩ := rv.get hx
    have hel : e < s.heap.objs.size := Heap.lt_size he
    have hil : it < s.heap.objs.size := by obtain ⟨_, q, _⟩ := hit; exact Heap.lt_size q
    have pT : s.heap.IsTuple a its.toArray := p
    have hlt : i < its.toArray.size := by
      have := (List.getElem?_eq_some_iff.mp hu).1
      simpa using this
    have D := Draws.tuple (prog := X.prog) (w := X.w) (A := X.A.in1) (show X.A.handled = none from I.ok.hd hc) it a hai its.toArray
    refine wpAny_pyNext_enum_itemD D he ⟨hit, pT⟩ hlt hne (by simp [hne, Ne.symm hae]) fun v h' tk hv ho hit' hT hsz hk => ?_
    have hvu : v = u := by
      have h1 : its.toArray[i]? = some u := by simpa using hu
      rw [h1] at hv
      exact (Option.some.inj hv).symm
    subst hvu
    refine ⟨_, rfl, wpAny_letOwnedTupleGo_enum (s := { s with heap := h', toks := tk + 1 }) ho fun h'' he' sb => ?_⟩
    have hT2 : h''.get? s.heap.objs.size = some { cls := .type "tuple", data := .seq #[.int i tk, v] } := (sb.2 _ (Nat.ne_of_gt hel)).trans hT
    have new : ObjOk X.prog X.w (upd H s.heap.objs.size (.tup [.int (i : Nat), x])) h'' s.heap.objs.size (.tup [.int (i : Nat), x]) :=
      ⟨by show 2 ≤ sizeLine; decide, [.int i tk, v], .cons ⟨_, rfl⟩ (.cons ru .nil), ⟨_, hT2, rfl, _, rfl⟩⟩
    have I1 : Inv X pins σ (upd H s.heap.objs.size (.tup [.int (i : Nat), x])) { s with heap := h'', toks := tk + 1 } :=
      I.turnedNew (t' := tk + 1) (ch := [e, it]) (fun b ob hb q => (sb.2 b (fun z => hb (by simp [z]))).trans (hk b ob (fun z => hb (by simp [z])) (fun z => hb (by simp [z])) q)) hf (Nat.le_refl _) new
    refine ⟨.ref s.heap.objs.size, _, I1, rfl, ⟨_, x, rfl, I.hok.fresh (Nat.le_refl _), rfl, fun ys hy => by rw [I.tuple_inj hy hq]; exact hx⟩, ⟨⟨v, ?_⟩, ?_, hne, hai, hae⟩, fun b hb => ?_⟩
    · have e1 : ((i + 1 : Nat) : Int) = (i : Int) + 1 := by omega
      rw [e1]; exact he'
    · obtain ⟨⟨o, h1, r⟩, _⟩ := hit'
      exact ⟨o, (sb.2 it (Ne.symm hne)).trans h1, r⟩
    · have hb' : b < s.heap.objs.size := by
        have e' : b = e ∨ b = it := by simpa using hb
        rcases e' with z | z
        · rw [z]; exact hel
        · rw [z]; exact hil
      rw [upd_ne (Nat.ne_of_lt hb')]
      exact (hf b hb).1
  done := by
    intro X hP hw hK hc i pins s σ H E I hf st hg
    subst hP hw hK
    obtain ⟨⟨old, he⟩, hit, hne, hai, hae⟩ := st
    obtain ⟨xs, hq, hx⟩ := hg
    obtain ⟨its, rv, p, hz⟩ := I.tuple hq
    obtain ⟨f0, f1, f2, f3, f4, f5⟩ := hf it (by simp)
    have hl := rv.length
    have pT : s.heap.IsTuple a its.toArray := p
    have hno : its.toArray[i]? = none := by simp; omega
    have D : Draws X.prog X.w X.A.in1 it [it, a] i (fun _ _ => False) (fun j h => j = i ∧ h.IsTupleIter it a i ∧ h.IsTuple a its.toArray) :=
      { live := fun _ _ st => let ⟨o, ho, _⟩ := st.2.1; ⟨o, ho⟩
        frame := fun _ _ _ st hk => ⟨st.1, st.2.1.at fun o e => hk it (by simp) o e, st.2.2.at fun o e => hk a (by simp) o e⟩
        item := fun j s Q E hi st _ => absurd st.1 (Nat.ne_of_lt hi)
        done := fun s Q E st hE => wpAny_nextOf_tuple_end (A := X.A.in1) (show X.A.handled = none from I.ok.hd hc) st.2.1 st.2.2 hno hE }
    exact wpAny_pyNext_enum_endD D he ⟨rfl, hit, pT⟩ fun h' eb => ⟨rfl, I.turned (t' := s.toks) (fun b o hb q => eb b o hb q) f0 f1 f3 f4 f5⟩
  self := fun A i s Q E st h => let ⟨⟨_, he⟩, _⟩ := st; wpAny_pyIter_enum he h
def iEnumT (K : PySem.W.Frag) (ta : TA) : TI := fun σ H R => ta σ H fun vs H1 => ∃ a xs, vs = [.ref a] ∧ SqT K H1 a xs ∧ R (Itet K a) H1
theorem pi_enumT {X : Cx} {e : Expr} {ta : TA} {p pos tpos : Pos} {elts : List Expr} {kk : Nat} (hg : Gl X "enumerate") (hm : X.mg "enumerate" = none) (ha : PA X [e] ta) (hs : starEach [e] X.env = [(false, eval e X.env)] := by rfl) :
    PI X (.Tuple elts kk tpos) (.Call (.Name "enumerate" p) [e] [] pos) (iEnumT X.K ta) := by
  refine ⟨fun pins s σ H R I h => ?_⟩
  refine Call_ (ld_blt I hg hm boot_enumerate (PyProof.Rows.callWith_type1 (thn (ha.run pos pins s σ H _ I h) fun us s1 ⟨vs, H1, I1, r1, q1⟩ => ?_) hs rfl))
  obtain ⟨a, xs, ex, hq, q⟩ := q1
  subst ex
  cases r1 with
  | cons r rr =>
    cases rr
    cases r
    obtain ⟨its, rv, p', hz⟩ := I1.tuple hq
    have hal : a < s1.heap.objs.size := by obtain ⟨_, z, _⟩ := id p'; exact Heap.lt_size z
    refine call_enumerate_tuple (show s1.heap.IsTuple a its.toArray from p') fun h' he hit hsz hk => wpAny_pyIter_enum he ?_
    have I2 : Inv X pins σ H1 { s1 with heap := h' } := I1.kept (t' := s1.toks) hk
    refine ⟨s1.heap.objs.size + 1, [s1.heap.objs.size + 1, s1.heap.objs.size], _, _, H1, rfl, I2, turn_enumT a (s1.heap.objs.size + 1) s1.heap.objs.size, ⟨⟨.none, he⟩, hit, Nat.succ_ne_self _, Nat.ne_of_lt hal, Nat.ne_of_lt (Nat.lt_succ_of_lt hal)⟩, fun b hb => ?_, q⟩
    have e' : b = s1.heap.objs.size + 1 ∨ b = s1.heap.objs.size := by simpa using hb
    have hle : s1.heap.objs.size ≤ b := by
      rcases e' with z | z
      · rw [z]; exact Nat.le_add_right _ _
      · rw [z]; exact Nat.le_refl _
    exact I1.fpOk hle (I1.hok.fresh hle)
theorem walk_enumT {K : PySem.W.Frag} {a : Addr} {xs : List V} : Walk (Itet K a) xs.length (fun H => SqT K H a xs) (YPair (fun i => some (.int (i : Nat))) (fun i => xs[i]?)) := by
  refine ⟨fun i _ hi q => ⟨xs, xs[i], q, by simp [hi]⟩, fun _ q => ⟨xs, q, Nat.le_refl _⟩, fun i H v H' _ q y => ?_⟩
  obtain ⟨T, x, h1, h2, h3, h4⟩ := y
  exact ⟨T, .int (i : Nat), x, h1, h2, h3, rfl, h4 xs q⟩
/-- enumerate of a list or a tuple -/
def iEnumQ (K : PySem.W.Frag) (ta : TA) : TI := fun σ H R => iEnum K ta σ H R ∨ iEnumT K ta σ H R
end L2
namespace DL
open PySem L2 StX
section
variable {K : PySem.W.Frag} [Tb K] {Z : ZX} {b u u' u'' : Wd} {σ : L2.St} {ds : DS} {n : Nat} {Pl : List D → Nat → Prop}
theorem wi_enumT {t : TA} (h : Wa K Z t ds n fun ys m => ∃ xs, ys = [.tup xs] ∧ Pl (enumD xs) m) : Wi K Z (iEnumT K t) ds n Pl := fun b u σ R e S k =>
  h b u σ _ e S fun vs d u1 g1 s1 r ⟨xs, z, p⟩ => by
    subst z
    obtain ⟨v, rfl, r1⟩ := dens1 r
    clear r
    obtain ⟨a, ws, rfl, q, r⟩ := den_tup r1
    refine ⟨a, ws, rfl, Evl.ex_t g1.c q, k _ (enumD xs) u1 _ _ g1 s1 p (by rw [enumD_len, ← r.len]; exact walk_enumT (K := K) (a := a) (xs := ws)) (fun w l e => Evl.ex_t e (Evl.ex_t l.h q)) fun w i v A l e1 _ hi y => ?_⟩
    obtain ⟨T, x, y, rfl, hT, rfl, hx, hy⟩ := y
    cases hx
    obtain ⟨z, hz, hd⟩ := r.get hy
    obtain ⟨g2, d2⟩ := gp_pair e1 hT (.int (i : Nat)) (hd.mono l)
    exact ⟨_, _, rfl, enumD_get hz, g2, d2⟩
end
end DL

/-! rows.setdefault(k, []).append(x) in a loop; a dict of tuple keys that sees no key twice. -/
namespace DL
open PySem L2 StX
section
variable {K : PySem.W.Frag} [Tb K] {Z : ZX} {b u u' u'' : Wd} {σ : L2.St} {ds : DS} {n : Nat} {P : D → Nat → Prop} {te ta tb tc tk tv ti : TE} {tt tu : TT} {N : Nd} {ts t1 t2 : TS} {g : TG} {De : Ends} {C : Addr} {Pl : List D → Nat → Prop}
def noMut (ds : DS) : Prop := ∀ (i : Nat) (d : D), ds[i]? = some (some d) → isMut d = false
/-- an object of nobody's is written -/
theorem Sd.wr {a : Addr} {o : HO} (S : Sd K Z b u σ ds) (nm : noMut ds) (hb : b.H1 a = none) (h0 : u.H0 a = none) (hS : ¬ u.S a) : Sd K Z b ⟨u.S, u.T, u.n, u.H0, upd u.H1 a o⟩ σ ds := by
  have l1 : Le u ⟨u.S, u.T, u.n, u.H0, upd u.H1 a o⟩ := ⟨fun _ h => h, fun _ _ => rfl, .refl _⟩
  refine ⟨S.gr.write hb h0, S.xk, S.st.write hS, S.len, fun j e q => ?_, fun j k e f a b h1 h2 m1 m2 ne q1 q2 => ?_⟩
  · obtain ⟨v, h1, h2⟩ := S.sl j e q
    exact ⟨v, h1, .den ((h2.imm (nm j e q)).mono l1)⟩
  · rw [nm j e h1] at m1; cases m1
/-- .. settled -/
theorem Sd.stl {a : Addr} {o : HO} (S : Sd K Z b u σ ds) (nm : noMut ds) (hb : b.H1 a = none) (h0 : u.H0 a = none) (hS : ¬ u.S a) (h1 : u.H1 a = some o) : Sd K Z b ⟨u.S, u.T, u.n, upd u.H0 a o, u.H1⟩ σ ds := by
  have l1 : Le u ⟨u.S, u.T, u.n, upd u.H0 a o, u.H1⟩ := ⟨fun _ h => h, fun _ _ => rfl, ex_new h0⟩
  refine ⟨S.gr.settle hb h0 h1, S.xk, S.st.settle h0 hS, S.len, fun j e q => ?_, fun j k e f a b h1 h2 m1 m2 ne q1 q2 => ?_⟩
  · obtain ⟨v, h1, h2⟩ := S.sl j e q
    exact ⟨v, h1, .den ((h2.imm (nm j e q)).mono l1)⟩
  · rw [nm j e h1] at m1; cases m1
/-- .. put into a slot -/
theorem Sd.putS {i : Nat} {a : Addr} {d : D} (S : Sd K Z b u σ ds) (nm : noMut ds) (hv : σ[i]? = some (some (.ref a))) (h : DenS K b u (.ref a) d) : Sd K Z b u σ (ds.set i (some d)) := by
  refine ⟨S.gr, S.xk, S.st, by simp [S.len], fun j e q => ?_, fun j k e f a b h1 h2 m1 m2 ne q1 q2 => ?_⟩
  · by_cases q' : i = j
    · subst q'
      rw [get_set] at q
      by_cases hl : i < ds.length
      · simp [hl] at q
        subst q
        exact ⟨.ref a, hv, h⟩
      · simp [hl] at q
    · rw [get_set, if_neg q'] at q
      exact S.sl j e q
  · have ni : ∀ (j : Nat) (e : D), (ds.set i (some d))[j]? = some (some e) → isMut e = true → j = i := fun j e h m => by
      by_cases q' : i = j
      · exact q'.symm
      · rw [get_set, if_neg q'] at h; rw [nm j e h] at m; cases m
    exact absurd ((ni j e h1 m1).trans (ni k f h2 m2).symm) ne
/-! ### groups -/
def addG (k : Int) (x : D) : List (Int × List D) → List (Int × List D)
  | [] => [(k, [x])]
  | (k', l) :: r => if k' = k then (k', l ++ [x]) :: r else (k', l) :: addG k x r
def kAt (kx : Nat) : D → Int
  | .tup ys => match ys[kx]? with
    | some (.int k) => k
    | _ => 0
  | _ => 0
def grpD (kx : Nat) (xs : List D) : List (Int × List D) := xs.foldl (fun g x => addG (kAt kx x) x g) []
theorem grpD_snoc (kx : Nat) (xs : List D) (x : D) : grpD kx (xs ++ [x]) = addG (kAt kx x) x (grpD kx xs) := by simp [grpD]
theorem addG_len (k : Int) (z : D) : ∀ g : List (Int × List D), (addG k z g).length ≤ g.length + 1
  | [] => by simp [addG]
  | (k', l') :: g => by
    have := addG_len k z g
    simp only [addG]
    split
    · simp
    · simp only [List.length_cons]; omega
theorem addG_len2 (k : Int) (z : D) (m : Nat) : ∀ g : List (Int × List D), (∀ p ∈ g, p.2.length ≤ m) → ∀ p ∈ addG k z g, p.2.length ≤ m + 1
  | [], _, p, hp => by simp [addG] at hp; subst hp; simp
  | (k', l') :: g, hg, p, hp => by
    have h1 := hg (k', l') (by simp)
    simp only [addG] at hp
    split at hp
    · rcases List.mem_cons.mp hp with z | z
      · subst z
        simp at h1 ⊢; omega
      · have := hg p (by simp [z]); omega
    · rcases List.mem_cons.mp hp with z | z
      · subst z
        simp at h1 ⊢; omega
      · exact addG_len2 k _ m g (fun p hp => hg p (by simp [hp])) p z
theorem grp_len (kx : Nat) (zs : List D) : (grpD kx zs).length ≤ zs.length := by
  have : ∀ (zs : List D) (g : List (Int × List D)), (zs.foldl (fun g x => addG (kAt kx x) x g) g).length ≤ g.length + zs.length := by
    intro zs
    induction zs with
    | nil => intro g; simp
    | cons z zs ih =>
      intro g
      have h1 := ih (addG (kAt kx z) z g)
      have := addG_len (kAt kx z) z g
      simp only [List.foldl_cons, List.length_cons] at h1 ⊢
      omega
  have := this zs []
  simpa [grpD] using this
theorem grp_len2 (kx : Nat) (zs : List D) : ∀ p ∈ grpD kx zs, p.2.length ≤ zs.length := by
  have : ∀ (zs : List D) (g : List (Int × List D)) (m : Nat), (∀ p ∈ g, p.2.length ≤ m) → ∀ p ∈ zs.foldl (fun g x => addG (kAt kx x) x g) g, p.2.length ≤ m + zs.length := by
    intro zs
    induction zs with
    | nil => intro g m hg p hp; simpa using hg p (by simpa using hp)
    | cons z zs ih =>
      intro g m hg p hp
      have h1 := ih (addG (kAt kx z) z g) (m + 1) (addG_len2 _ _ m g hg) p (by simpa using hp)
      simp only [List.length_cons]; omega
  intro p hp
  have := this zs [] 0 (by simp) p hp
  omega
structure GE where
  k : Int
  a : Addr
  vs : List V
  ds : List D
/-- the groups at d as they stand -/
structure Grp (K : PySem.W.Frag) (b w : Wd) (d : Addr) (gl : List GE) (G : List (Int × List D)) : Prop where
  dd : w.H1 d = some (.dK (gl.map fun g => (Sum.inl g.k, V.ref g.a)))
  db : b.H1 d = none
  d0 : w.H0 d = none
  dS : ¬ w.S d
  ls : ∀ g ∈ gl, b.H1 g.a = none ∧ w.H0 g.a = none ∧ ¬ w.S g.a ∧ w.H1 g.a = some (.lst g.vs) ∧ Dens K w g.vs g.ds
  nd : (gl.map (·.a)).Nodup
  eq : gl.map (fun g => (g.k, g.ds)) = G
theorem Grp.mono {w' : Wd} {d : Addr} {gl : List GE} {G : List (Int × List D)} (h : Grp K b u d gl G) (g : Gs u w') : Grp K b w' d gl G :=
  ⟨g.b _ _ h.dS h.dd, h.db, g.nn h.d0 h.dd, g.ns h.dS h.dd, fun e he => let ⟨a1, a2, a3, a4, a5⟩ := h.ls e he; ⟨a1, g.nn a2 a4, g.ns a3 a4, g.b _ _ a3 a4, a5.mono g.ls⟩, h.nd, h.eq⟩
theorem valV_gl {gl : List GE} {k : Int} {v : V} (h : valV (gl.map fun g => ((Sum.inl g.k : Key), V.ref g.a)) (.inl k) = some v) : ∃ (l1 : List GE) (e : GE) (l2 : List GE), gl = l1 ++ e :: l2 ∧ e.k = k ∧ v = .ref e.a ∧ ∀ f ∈ l1, f.k ≠ k := by
  induction gl with
  | nil => cases h
  | cons e gl ih =>
    by_cases q : e.k = k
    · refine ⟨[], e, gl, rfl, q, ?_, by simp⟩
      rw [List.map_cons, valV_pos (by simp [q])] at h
      cases h; rfl
    · rw [List.map_cons, valV_neg (by simpa using q)] at h
      obtain ⟨l1, f, l2, h1, h2, h3, h4⟩ := ih h
      refine ⟨e :: l1, f, l2, by rw [h1]; rfl, h2, h3, fun x hx => ?_⟩
      rcases List.mem_cons.mp hx with z | z
      · rw [z]; exact q
      · exact h4 x z
theorem valV_gl0 {gl : List GE} {k : Int} (h : valV (gl.map fun g => ((Sum.inl g.k : Key), V.ref g.a)) (.inl k) = none) : ∀ g ∈ gl, g.k ≠ k := by
  induction gl with
  | nil => simp
  | cons e gl ih =>
    by_cases q : e.k = k
    · rw [List.map_cons, valV_pos (by simp [q])] at h
      cases h
    · rw [List.map_cons, valV_neg (by simpa using q)] at h
      intro x hx
      rcases List.mem_cons.mp hx with z | z
      · rw [z]; exact q
      · exact ih h x z
theorem addG_at {k : Int} {x : D} : ∀ {l1 : List (Int × List D)} {l : List D} {l2 : List (Int × List D)}, (∀ p ∈ l1, p.1 ≠ k) → addG k x (l1 ++ (k, l) :: l2) = l1 ++ (k, l ++ [x]) :: l2
  | [], l, l2, _ => by simp [addG]
  | (k', l') :: l1, l, l2, h => by
    have h1 := h (k', l') (by simp)
    simp only [List.cons_append, addG]
    rw [if_neg h1, addG_at (fun p hp => h p (by simp [hp]))]
theorem addG_new {k : Int} {x : D} : ∀ {l1 : List (Int × List D)}, (∀ p ∈ l1, p.1 ≠ k) → addG k x l1 = l1 ++ [(k, [x])]
  | [], _ => rfl
  | (k', l') :: l1, h => by
    have h1 := h (k', l') (by simp)
    simp only [List.cons_append, addG]
    rw [if_neg h1, addG_new (fun p hp => h p (by simp [hp]))]
theorem settleG {d : Addr} : ∀ (gl : List GE) {w : Wd}, Sd K Z b w σ ds → noMut ds → (∀ g ∈ gl, b.H1 g.a = none ∧ w.H0 g.a = none ∧ ¬ w.S g.a ∧ w.H1 g.a = some (.lst g.vs) ∧ Dens K w g.vs g.ds) → (gl.map (·.a)).Nodup → w.H0 d = none → (∀ g ∈ gl, g.a ≠ d) →
    ∃ w', w'.H1 = w.H1 ∧ w'.n = w.n ∧ w'.S = w.S ∧ Le w w' ∧ Sd K Z b w' σ ds ∧ w'.H0 d = none ∧ DenK K w' (gl.map fun g => (Sum.inl g.k, V.ref g.a)) (gl.map fun g => (Sum.inl g.k, D.lst g.ds))
  | [], w, S, nm, _, _, h0, _ => ⟨w, rfl, rfl, rfl, .refl, S, h0, .nil⟩
  | e :: gl, w, S, nm, h, nd, h0, hd => by
    obtain ⟨a1, a2, a3, a4, a5⟩ := h e (by simp)
    have nd' := List.nodup_cons.mp nd
    have l1 : Le w ⟨w.S, w.T, w.n, upd w.H0 e.a (.lst e.vs), w.H1⟩ := ⟨fun _ h => h, fun _ _ => rfl, ex_new a2⟩
    obtain ⟨w', e1, en, e2, l2, S2, h02, k2⟩ := settleG (d := d) gl (w := ⟨w.S, w.T, w.n, upd w.H0 e.a (.lst e.vs), w.H1⟩) (S.stl nm a1 a2 a3 a4) nm (fun g hg => by
        obtain ⟨b1, b2, b3, b4, b5⟩ := h g (by simp [hg])
        have ne : g.a ≠ e.a := fun z => nd'.1 (by have q := List.mem_map.mpr ⟨g, hg, (rfl : g.a = g.a)⟩; rw [z] at q; exact q)
        exact ⟨b1, (upd_ne ne).trans b2, b3, b4, b5.mono l1⟩) nd'.2 ((upd_ne (hd e (by simp)).symm).trans h0) (fun g hg => hd g (by simp [hg]))
    exact ⟨w', e1, en, e2, l1.trans l2, S2, h02, .cons (.lst (SqL.of (l2.h _ _ upd_same)) (a5.mono (l1.trans l2))) k2⟩
/-- for x in ..: rows.setdefault(x[kx], []).append(x) -/
theorem ws_group {i j kx : Nat} {wi : TI} (hi : ds[i]? = some (some (.mdk []))) (hij : i ≠ j) (nm : ∀ (l : Nat) (d : D), l ≠ i → ds[l]? = some (some d) → isMut d = false) (hjl : j < ds.length)
    (h : Wi K Z wi ds n fun xs m => (∀ x ∈ xs, ∃ ys k, x = .tup ys ∧ ys[kx]? = some (.int k)) ∧ xs.length < 1000000 ∧ N.nx ((ds.set i (some (.mdk ((grpD kx xs).map fun g => (Sum.inl g.1, .lst g.2))))).set j none) m) :
    Ws K Z (tFor wi (gName j) (tDrop (tBM K "list" rAppend (tDSetd (tVar i) (tOp (rIx K) (tVar j) (tC (.int (kx : Nat)))) (tLst tNil)) (tCons (tVar j) tNil)))) ds n N := fun b u σ De e S O =>
  h b u σ _ e S fun J xs u1 G Y g1 s1 ⟨hxs, hz, hN⟩ w hG hY => by
    obtain ⟨a, vs0, hv, b0, b1, b5, b2, b3⟩ := mdk_at S hi
    cases b3
    have hil : i < ds.length := (List.getElem?_eq_some_iff.mp hi).1
    let dsn : DS := (ds.set i none).set j none
    have nmn : ∀ y : Option D, (∀ d, y = some d → isMut d = false) → noMut ((ds.set i none).set j y) := fun y hy l d q => by
      by_cases q1 : j = l
      · subst q1
        rw [get_set] at q
        simp [hjl] at q
        exact hy d q
      · rw [get_set, if_neg q1] at q
        by_cases q2 : i = l
        · subst q2
          rw [get_set] at q
          simp [hil] at q
        · rw [get_set, if_neg q2] at q
          exact nm l d (Ne.symm q2) q
    have S1 := S.go g1 s1
    have key : ∀ {x : D}, x ∈ xs → ∃ ys, x = .tup ys ∧ ys[kx]? = some (.int (kAt kx x)) := fun {x} hx => by
      obtain ⟨ys, k, e1, e2⟩ := hxs x hx
      refine ⟨ys, e1, ?_⟩
      subst e1
      simp only [kAt, e2]
    let Pv : Nat → L2.St → Hp → Prop := fun q σ' H' => ∃ w gl, w.H1 = H' ∧ Le u1 w ∧ (∃ y : Option V, Sd K Z b w σ' dsn) ∧ σ'[i]? = some (some (.ref a)) ∧ w.n = u1.n ∧ Grp K b w a gl (grpD kx (xs.take q))
    refine for_it w Pv ?_ ?_ ?_ ?_
    · have Sa : Sd K Z b u1 σ dsn := by
        have h1 : Sd K Z b u1 (σ.set i (some (.ref a))) (ds.set i none) := S1.drop
        have e1 : σ.set i (some (.ref a)) = σ := by
          apply List.ext_getElem?
          intro q
          rw [get_set]
          by_cases z : i = q
          · subst z; rw [if_pos rfl, if_pos (by rw [S.len]; exact hil), hv]
          · rw [if_neg z]
        rw [e1] at h1
        have h2 : Sd K Z b u1 (σ.set j (σ[j]'(by rw [S.len]; exact hjl))) dsn := h1.drop
        have e2 : σ.set j (σ[j]'(by rw [S.len]; exact hjl)) = σ := List.set_getElem_self _
        rw [e2] at h2
        exact h2
      exact ⟨u1, [], rfl, .refl, ⟨none, Sa⟩, hv, rfl, ⟨g1.b _ _ b5 b2, b0, g1.nn b1 b2, g1.ns b5 b2, by simp, by simp, rfl⟩⟩
    · rintro q σ' H' _ ⟨w, gl, rfl, l, ⟨_, S'⟩, _⟩
      exact hG w l S'.ex
    · rintro q v σ' H' H'' hq ⟨w, gl, rfl, l, ⟨_, S'⟩, hv', en, gr⟩ y
      obtain ⟨x, w', rfl, hx, g2, r⟩ := hY w q v H'' l S'.ex S'.st hq y
      have hxm : x ∈ xs := List.mem_of_getElem? hx
      obtain ⟨ys, hy1, hy2⟩ := key hxm
      have et : xs.take (q + 1) = xs.take q ++ [x] := by rw [List.take_add_one, hx]; rfl
      have gr2 := gr.mono g2.g
      have S2 := S'.go g2.g (g2.st S'.st)
      have S3 : Sd K Z b w' (σ'.set j (some v)) (dsn.set j (some x)) := S2.set r
      have edsn : dsn.set j (some x) = (ds.set i none).set j (some x) := by simp [dsn]
      rw [edsn] at S3
      have nm3 := nmn (some x) (fun d hd => by cases hd; exact r.notMut)
      have hvi : (σ'.set j (some v))[i]? = some (some (.ref a)) := by rw [get_set, if_neg (Ne.symm hij)]; exact hv'
      have hlj : j < σ'.length := by rw [S'.len]; simp [dsn]; exact hjl
      have hvj : (σ'.set j (some v))[j]? = some (some v) := by rw [get_set, if_pos rfl, if_pos hlj]
      have hdj : ((ds.set i none).set j (some x))[j]? = some (some x) := by rw [get_set, if_pos rfl, if_pos (by simpa using hjl)]
      have back : ∀ {w2 : Wd} {gl2 : List GE}, Le w' w2 → w2.n = w'.n → Sd K Z b w2 (σ'.set j (some v)) ((ds.set i none).set j (some x)) → Grp K b w2 a gl2 (grpD kx (xs.take (q + 1))) → Pv (q + 1) (σ'.set j (some v)) w2.H1 := fun {w2 gl2} l2 en2 S4 gr4 => by
        have S5 : Sd K Z b w2 ((σ'.set j (some v)).set j (some v)) (((ds.set i none).set j (some x)).set j none) := S4.drop
        have e3 : ((ds.set i none).set j (some x)).set j none = dsn := by simp [dsn]
        have e4 : (σ'.set j (some v)).set j (some v) = σ'.set j (some v) := by simp
        rw [e3, e4] at S5
        exact ⟨w2, gl2, rfl, (l.trans g2.g.ls).trans l2, ⟨none, S5⟩, hvi, en2.trans (g2.n.trans en), gr4⟩
      refine ⟨.ref a, hvi, a, rfl, .inl ⟨_, .inl gr2.dd⟩, ?_⟩
      have hky : We K Z (tOp (rIx K) (tVar j) (tC (.int (kx : Nat)))) ((ds.set i none).set j (some x)) w'.n (fun d m => d = .int (kAt kx x) ∧ m = w'.n) :=
        we_op (we_var hdj r.notMut (we_int (by subst hy1; exact ix_tup (by omega) (by simpa using hy2) ⟨rfl, rfl⟩)))
      refine hky b w' _ _ rfl S3 fun yv yd w3 g3 s3 r3 ⟨hyd, en3⟩ => ?_
      subst hyd
      cases den_int r3
      have S4 := S3.go g3 s3
      have gr3 := gr2.mono g3
      refine ⟨(by show 0 ≤ sizeLine; decide), fun p hp => ?_⟩
      -- the new list
      have gj : Gs w3 ⟨w3.S, w3.T, w3.n, w3.H0, upd w3.H1 p (.lst [])⟩ := Gs.junk S4.ex hp
      have S5 := S4.go gj (S4.st.write (S4.st.not hp))
      have gr5 := gr3.mono gj
      have hpa : p ≠ a := fun z => by rw [z, gr3.dd] at hp; cases hp
      have hlen : gl.length ≤ q := by
        have z := congrArg List.length gr.eq
        rw [List.length_map] at z
        have z2 := grp_len kx
        have := z2 (xs.take q)
        rw [List.length_take] at this
        omega
      refine ⟨_, .inl (kAt kx x), gr5.dd, rfl, by rw [List.length_map]; exact Nat.lt_of_lt_of_le (show gl.length < 1000000 by omega) (by decide), fun v0 hv0 => ?_, fun hv0 => ?_⟩
      · -- the group is there
        obtain ⟨l1, e0, l2, hgl, hk0, hv00, hl1⟩ := valV_gl hv0
        subst hv00
        have hmem : e0 ∈ gl := by rw [hgl]; simp
        obtain ⟨c1, c2, c3, c4, c5⟩ := gr5.ls e0 hmem
        refine ⟨.inl ⟨rfl, _, SqL.of c4⟩, ⟨v, hvj, ⟨e0.a, e0.vs, v, rfl, rfl, c4, ?_, ?_⟩⟩⟩
        · rw [c5.len]
          have hle : e0.ds.length ≤ q := by
            have z3 := grp_len2 kx
            have hm : (e0.k, e0.ds) ∈ grpD kx (xs.take q) := by rw [← gr.eq]; exact List.mem_map.mpr ⟨e0, hmem, rfl⟩
            have := z3 _ _ hm
            simp only [List.length_take] at this
            omega
          exact Nat.lt_of_lt_of_le (show e0.ds.length < 1000000 by omega) (by decide)
        · have S6 := S5.wr (o := .lst (e0.vs ++ [v])) nm3 c1 c2 c3
          have rx := (r.mono g3.ls).mono gj.ls
          have lw : Le w3 ⟨w3.S, w3.T, w3.n, w3.H0, upd (upd w3.H1 p (.lst [])) e0.a (.lst (e0.vs ++ [v]))⟩ := ⟨fun _ h => h, fun _ _ => rfl, .refl _⟩
          refine back (w2 := ⟨w3.S, w3.T, w3.n, w3.H0, upd (upd w3.H1 p (.lst [])) e0.a (.lst (e0.vs ++ [v]))⟩) (gl2 := l1 ++ ⟨e0.k, e0.a, e0.vs ++ [v], e0.ds ++ [x]⟩ :: l2) (g3.ls.trans lw) en3 S6 ?_
          have hnd := gr5.nd
          rw [hgl, List.map_append, List.map_cons] at hnd
          have hdis := List.nodup_append.mp hnd
          have hea : e0.a ≠ a := fun z => by rw [z] at c4; rw [gr5.dd] at c4; cases c4
          have ln : Le ⟨w3.S, w3.T, w3.n, w3.H0, upd w3.H1 p (.lst [])⟩ ⟨w3.S, w3.T, w3.n, w3.H0, upd (upd w3.H1 p (.lst [])) e0.a (.lst (e0.vs ++ [v]))⟩ := ⟨fun _ h => h, fun _ _ => rfl, .refl _⟩
          refine ⟨?_, gr5.db, gr5.d0, gr5.dS, fun f hf => ?_, ?_, ?_⟩
          · show upd (upd w3.H1 p (.lst [])) e0.a _ a = _
            rw [upd_ne hea.symm]
            have := gr5.dd
            rw [hgl] at this
            simpa using this
          · rcases List.mem_append.mp hf with hf | hf
            · obtain ⟨f1, f2, f3, f4, f5⟩ := gr5.ls f (by rw [hgl]; simp [hf])
              have : f.a ≠ e0.a := hdis.2.2 f.a (List.mem_map.mpr ⟨f, hf, rfl⟩) e0.a (by simp)
              exact ⟨f1, f2, f3, (upd_ne this).trans f4, f5.mono ln⟩
            · rcases List.mem_cons.mp hf with hf | hf
              · subst hf
                exact ⟨c1, c2, c3, upd_same, (c5.app (.cons rx .nil)).mono ln⟩
              · obtain ⟨f1, f2, f3, f4, f5⟩ := gr5.ls f (by rw [hgl]; simp [hf])
                have : f.a ≠ e0.a := fun z => (List.nodup_cons.mp hdis.2.1).1 (by have q := List.mem_map.mpr ⟨f, hf, (rfl : f.a = f.a)⟩; rw [z] at q; exact q)
                exact ⟨f1, f2, f3, (upd_ne this).trans f4, f5.mono ln⟩
          · rw [List.map_append, List.map_cons]; exact hnd
          · rw [et, grpD_snoc, ← gr.eq, hgl, List.map_append, List.map_append, List.map_cons, List.map_cons, ← hk0, addG_at]
            intro p hp
            obtain ⟨f, hf, rfl⟩ := List.mem_map.mp hp
            rw [hk0]
            exact hl1 f hf
      · -- a new group
        have hno := valV_gl0 hv0
        have hfr : ∀ g ∈ gl, g.a ≠ p := fun g hg z => by
          obtain ⟨_, _, _, z4, _⟩ := gr3.ls g hg
          rw [z, hp] at z4; cases z4
        have pb : b.H1 p = none := by
          cases q0 : b.H1 p with
          | none => rfl
          | some o => exact absurd hp (S4.gr.b' p (by rw [q0]; simp))
        have p0 : w3.H0 p = none := ex_none S4.ex hp
        have pS := S4.st.not hp
        have hpk : putK (gl.map fun g => ((Sum.inl g.k : Key), V.ref g.a)) (Sum.inl (kAt kx x)) (V.ref p) = (gl ++ [(⟨kAt kx x, p, [v], [x]⟩ : GE)]).map fun g => ((Sum.inl g.k : Key), V.ref g.a) := by
          rw [putK_app]
          · simp
          · intro z hz'
            obtain ⟨f, hf, rfl⟩ := List.mem_map.mp hz'
            simpa using hno f hf
        rw [hpk]
        refine ⟨.inl ⟨rfl, [], SqL.of ((upd_ne hpa).trans upd_same)⟩, ⟨v, hvj, ⟨p, [], v, rfl, rfl, (upd_ne hpa).trans upd_same, (by show 0 < sizeLine; decide), ?_⟩⟩⟩
        have S6 := (S5.wr (o := .dK ((gl ++ [(⟨kAt kx x, p, [v], [x]⟩ : GE)]).map fun g => ((Sum.inl g.k : Key), V.ref g.a))) nm3 gr5.db gr5.d0 gr5.dS).wr (a := p) (o := .lst ([] ++ [v])) nm3 pb p0 pS
        have lw : Le w3 ⟨w3.S, w3.T, w3.n, w3.H0, upd (upd (upd w3.H1 p (.lst [])) a (.dK ((gl ++ [(⟨kAt kx x, p, [v], [x]⟩ : GE)]).map fun g => ((Sum.inl g.k : Key), V.ref g.a)))) p (.lst ([] ++ [v]))⟩ := ⟨fun _ h => h, fun _ _ => rfl, .refl _⟩
        refine back (w2 := ⟨w3.S, w3.T, w3.n, w3.H0, upd (upd (upd w3.H1 p (.lst [])) a (.dK ((gl ++ [(⟨kAt kx x, p, [v], [x]⟩ : GE)]).map fun g => ((Sum.inl g.k : Key), V.ref g.a)))) p (.lst ([] ++ [v]))⟩) (gl2 := gl ++ [(⟨kAt kx x, p, [v], [x]⟩ : GE)]) (g3.ls.trans lw) en3 S6 ?_
        refine ⟨(upd_ne hpa.symm).trans upd_same, gr5.db, gr5.d0, gr5.dS, fun f hf => ?_, ?_, ?_⟩
        · rcases List.mem_append.mp hf with hf | hf
          · obtain ⟨f1, f2, f3, f4, f5⟩ := gr3.ls f hf
            have n1 := hfr f hf
            have n2 : f.a ≠ a := fun z => by rw [z] at f4; rw [gr3.dd] at f4; cases f4
            exact ⟨f1, f2, f3, (upd_ne n1).trans ((upd_ne n2).trans ((upd_ne n1).trans f4)), f5.mono lw⟩
          · have hf' : f = ⟨kAt kx x, p, [v], [x]⟩ := by simpa using hf
            subst hf'
            exact ⟨pb, p0, pS, upd_same, .cons ((r.mono g3.ls).mono lw) .nil⟩
        · rw [List.map_append]
          refine List.nodup_append.mpr ⟨gr3.nd, by simp, fun z hz' y hy => ?_⟩
          obtain ⟨f, hf, rfl⟩ := List.mem_map.mp hz'
          have : y = p := by simpa using hy
          rw [this]
          exact hfr f hf
        · rw [et, grpD_snoc, ← gr.eq, List.map_append, addG_new]
          · rfl
          · intro z hz'
            obtain ⟨f, hf, rfl⟩ := List.mem_map.mp hz'
            exact hno f hf
    · rintro σ' H' ⟨w, gl, rfl, l, ⟨_, S'⟩, hv', en, gr⟩
      rw [List.take_length] at gr
      have nm0 := nmn none (fun d hd => by cases hd)
      have had : ∀ g ∈ gl, g.a ≠ a := fun g hg z => by
        obtain ⟨_, _, _, z4, _⟩ := gr.ls g hg
        rw [z, gr.dd] at z4; cases z4
      obtain ⟨w', e1, en', e2, l2, S2, h02, k2⟩ := settleG (d := a) gl S' nm0 gr.ls gr.nd gr.d0 had
      have q1 := S2.putS (d := .mdk (gl.map fun g => (Sum.inl g.k, D.lst g.ds))) nm0 hv' (.mdk gr.db h02 (by rw [e2]; exact gr.dS) (by rw [e1]; exact gr.dd) k2)
      rw [← e1]
      refine O.nx _ w' _ ((g1.ls.trans l).trans l2) q1 ?_
      rw [en', en]
      have e4 : (gl.map fun g => ((Sum.inl g.k : Key), D.lst g.ds)) = (grpD kx xs).map fun g => (Sum.inl g.1, .lst g.2) := by
        rw [← gr.eq, List.map_map]; rfl
      have e5 : dsn.set i (some (.mdk (gl.map fun g => ((Sum.inl g.k : Key), D.lst g.ds)))) = (ds.set i (some (.mdk ((grpD kx xs).map fun g => (Sum.inl g.1, .lst g.2))))).set j none := by
        rw [e4]
        show ((ds.set i none).set j none).set i _ = _
        rw [List.set_comm _ _ (Ne.symm hij), List.set_set]
      rw [e5]
      exact hN
end
end DL

/-! A dict of tuple keys that sees no key twice; sorted(dict). -/
namespace DL
open PySem L2 StX
section
variable {K : PySem.W.Frag} [Tb K] {Z : ZX} {b u u' u'' : Wd} {σ : L2.St} {ds : DS} {n : Nat} {P : D → Nat → Prop} {te ta tb tc tk tv ti : TE} {tt tu : TT} {N : Nd} {ts t1 t2 : TS} {g : TG} {De : Ends} {C : Addr} {Pl : List D → Nat → Prop}
theorem valV_noneT {kvs : List (List Key × V)} {k : List Key} (h : k ∉ kvs.map (·.1)) : valV kvs k = none := by
  induction kvs with
  | nil => rfl
  | cons e kvs ih =>
    rw [List.map_cons, List.mem_cons, not_or] at h
    rw [valV_neg (Ne.symm h.1)]
    exact ih h.2
theorem putK_newT {kvs : List (List Key × V)} {k : List Key} {v : V} (h : k ∉ kvs.map (·.1)) : putK kvs k v = kvs ++ [(k, v)] := by
  unfold putK
  rw [if_neg]
  intro z
  obtain ⟨p, hp, e⟩ := List.any_eq_true.mp z
  exact h (List.mem_map.mpr ⟨p, hp, of_decide_eq_true e⟩)
theorem sl13 {vs : List V} {ys : List D} {l c : Int} (r : Dens K u vs ys) (h1 : ys[1]? = some (.int l)) (h2 : ys[2]? = some (.int c)) : cutV vs (some 1) (some 3) = [V.int l, V.int c] ∧ ¬ (HT.sIx vs.length 0 (some 1) = 0 ∧ HT.sIx vs.length vs.length (some 3) = vs.length) := by
  obtain ⟨v1, e1, r1⟩ := r.getD h1
  obtain ⟨v2, e2, r2⟩ := r.getD h2
  cases den_int r1
  cases den_int r2
  match vs, e1, e2 with
  | a :: b' :: c' :: rest, e1, e2 =>
    simp at e1 e2
    subst e1 e2
    have s1 : HT.sIx (a :: V.int l :: V.int c :: rest).length 0 (some 1) = 1 := by
      rw [show (1 : Int) = ((1 : Nat) : Int) from rfl, HT.sIx_nat]; simp
    have s3 : HT.sIx (a :: V.int l :: V.int c :: rest).length (a :: V.int l :: V.int c :: rest).length (some 3) = 3 := by
      rw [show (3 : Int) = ((3 : Nat) : Int) from rfl, HT.sIx_nat]; simp
    refine ⟨?_, by rw [s1]; simp⟩
    unfold cutV
    rw [s1, s3]; rfl
def kAs : Option D → Int
  | some (.int l) => l
  | _ => 0
def key13 : D → List Key
  | .tup [_, .tup ys] => [.inl (kAs ys[1]?), .inl (kAs ys[2]?)]
  | _ => []
/-- begins = {}; for index, x in ..: if x[1:3] in begins: ..; begins[x[1:3]] = True -/
theorem ws_begins {i ia ic : Nat} {wi : TI} {tX : TS} (nm : noMut ds) (hil : i < ds.length) (hal : ia < ds.length) (hcl : ic < ds.length) (d1 : i ≠ ia) (d2 : i ≠ ic) (d3 : ia ≠ ic)
    (h : Wi K Z wi (ds.set i none) n fun xs m => (∀ x ∈ xs, ∃ y ys l c, x = .tup [y, .tup ys] ∧ ys[1]? = some (.int l) ∧ ys[2]? = some (.int c)) ∧ xs.length < 1000000 ∧ (xs.map key13).Nodup ∧ N.nx (((ds.set i none).set ia none).set ic none) m) :
    Ws K Z (tSeq (tAsg tDNewT (gName i)) (tFor wi (gTup K 2 (gCons (gName ia) (gCons (gName ic) gNil))) (tSeq (tIfS (tB (tDIn (tSl (rSlU K) (tVar ic) (tPart (tC (.int 1))) (tPart (tC (.int 3)))) (tVar i))) tX tNext)
      (sDPut (tVar i) (tSl (rSlU K) (tVar ic) (tPart (tC (.int 1))) (tPart (tC (.int 3)))) (tC (.bl true)))))) ds n N := fun b u σ De e S O => fun d hd => by
  have S0 : Sd K Z b u (σ.set i (some (.ref d))) (ds.set i none) := S.drop
  have gd : Gs u ⟨u.S, u.T, u.n, u.H0, upd u.H1 d (.dT [])⟩ := Gs.junk S.ex hd
  have db : b.H1 d = none := by
    cases q0 : b.H1 d with
    | none => rfl
    | some o => exact absurd hd (S.gr.b' d (by rw [q0]; simp))
  have d0 : u.H0 d = none := ex_none S.ex hd
  have dS := S.st.not hd
  have S1 := S0.go gd (S.st.write dS)
  have hvi1 : (σ.set i (some (V.ref d)))[i]? = some (some (.ref d)) := by rw [get_set, if_pos rfl, if_pos (by rw [S.len]; exact hil)]
  refine h b ⟨u.S, u.T, u.n, u.H0, upd u.H1 d (.dT [])⟩ _ _ e S1 fun J xs u1 G Y g1 s1 ⟨hxs, hz, hnd, hN⟩ w hG hY => ?_
  have S2 := S1.go g1 s1
  have key : ∀ {x : D}, x ∈ xs → ∃ y ys l c, x = .tup [y, .tup ys] ∧ ys[1]? = some (.int l) ∧ ys[2]? = some (.int c) ∧ key13 x = [.inl l, .inl c] := fun {x} hx => by
    obtain ⟨y, ys, l, c, e1, e2, e3⟩ := hxs x hx
    exact ⟨y, ys, l, c, e1, e2, e3, by rw [e1]; simp only [key13, e2, e3, kAs]⟩
  let dsn : DS := ((ds.set i none).set ia none).set ic none
  have nmn : ∀ (y1 y2 : Option D), (∀ d, y1 = some d → isMut d = false) → (∀ d, y2 = some d → isMut d = false) → noMut (((ds.set i none).set ia y1).set ic y2) := fun y1 y2 h1 h2 l d q => by
    by_cases q1 : ic = l
    · subst q1
      rw [get_set] at q
      simp [hcl] at q
      exact h2 d q
    · rw [get_set, if_neg q1] at q
      by_cases q2 : ia = l
      · subst q2
        rw [get_set] at q
        simp [hal] at q
        exact h1 d q
      · rw [get_set, if_neg q2] at q
        by_cases q3 : i = l
        · subst q3
          rw [get_set] at q
          simp [hil] at q
        · rw [get_set, if_neg q3] at q
          exact nm l d q
  let Pv : Nat → L2.St → Hp → Prop := fun q σ' H' => ∃ w kvs, w.H1 = H' ∧ Le u1 w ∧ Sd K Z b w σ' dsn ∧ σ'[i]? = some (some (.ref d)) ∧ w.n = u1.n ∧ w.H1 d = some (.dT kvs) ∧ w.H0 d = none ∧ ¬ w.S d ∧ kvs.map (·.1) = (xs.take q).map key13
  refine for_it w Pv ?_ ?_ ?_ ?_
  · have Sa : Sd K Z b u1 (σ.set i (some (.ref d))) dsn := by
      have dropAt : ∀ {σ0 : L2.St} {ds0 : DS} {j : Nat}, Sd K Z b u1 σ0 ds0 → Sd K Z b u1 σ0 (ds0.set j none) := fun {σ0 ds0 j} S0 => by
        by_cases hj : j < σ0.length
        · have h2 : Sd K Z b u1 (σ0.set j (σ0[j]'hj)) (ds0.set j none) := S0.drop
          rw [List.set_getElem_self] at h2
          exact h2
        · rw [List.set_eq_of_length_le (by rw [← S0.len]; omega)]; exact S0
      exact dropAt (dropAt S2)
    exact ⟨u1, [], rfl, .refl, Sa, hvi1, rfl, g1.b _ _ dS upd_same, g1.nn d0 upd_same, g1.ns dS upd_same, by simp⟩
  · rintro q σ' H' _ ⟨w, kvs, rfl, l, S', _⟩
    exact hG w l S'.ex
  · rintro q v σ' H' H'' hq ⟨w, kvs, rfl, l, S', hv', en, wd, w0, wS, hk⟩ y
    obtain ⟨x, w', rfl, hx, g2, r⟩ := hY w q v H'' l S'.ex S'.st hq y
    have hxm : x ∈ xs := List.mem_of_getElem? hx
    obtain ⟨y0, ys, kl, kc, hy0, hy1, hy2, hk13⟩ := key hxm
    have et : (xs.take (q + 1)).map key13 = (xs.take q).map key13 ++ [[.inl kl, .inl kc]] := by rw [List.take_add_one, hx]; simp [hk13]
    have hnew : [Sum.inl kl, Sum.inl kc] ∉ kvs.map (·.1) := by
      rw [hk, ← hk13]
      intro hm
      obtain ⟨x2, hx2, e2⟩ := List.mem_map.mp hm
      have hnd2 := hnd
      rw [← List.take_append_drop q xs, List.map_append, List.nodup_append] at hnd2
      have hdq : x ∈ xs.drop q := by
        rw [List.mem_iff_getElem?]
        exact ⟨0, by rw [List.getElem?_drop]; simpa using hx⟩
      exact hnd2.2.2 _ (List.mem_map.mpr ⟨x2, hx2, rfl⟩) _ (List.mem_map.mpr ⟨x, hdq, rfl⟩) e2
    have S3 := S'.go g2.g (g2.st S'.st)
    have wd3 := g2.g.b _ _ wS wd
    have w03 := g2.g.nn w0 wd
    have wS3 := g2.g.ns wS wd
    subst hy0
    obtain ⟨ta, vs, rfl, htup, hden⟩ := den_tup r
    obtain ⟨v1, v2, rfl, r1, r2⟩ := dens2 hden
    obtain ⟨t2, vs2, rfl, htup2, hden2⟩ := den_tup r2
    obtain ⟨hcut, hnw⟩ := sl13 hden2 hy1 hy2
    refine ⟨ta, _, rfl, Evl.ex_t S3.ex htup, rfl, v1, [.ref t2], rfl, .ref t2, [], rfl, rfl, ?_⟩
    have S4 : Sd K Z b w' ((σ'.set ia (some v1)).set ic (some (.ref t2))) (((ds.set i none).set ia (some y0)).set ic (some (.tup ys))) := by
      have z := (S3.set (i := ia) r1).set (i := ic) r2
      have e5 : (dsn.set ia (some y0)).set ic (some (.tup ys)) = ((ds.set i none).set ia (some y0)).set ic (some (.tup ys)) := by
        show ((((ds.set i none).set ia none).set ic none).set ia (some y0)).set ic (some (.tup ys)) = _
        rw [List.set_comm _ _ (show ic ≠ ia from Ne.symm d3), List.set_set, List.set_set]
      rw [e5] at z
      exact z
    have nm4 := nmn (some y0) (some (.tup ys)) (fun d hd => by cases hd; exact r1.notMut) (fun d hd => by cases hd; rfl)
    have hvi : ((σ'.set ia (some v1)).set ic (some (V.ref t2)))[i]? = some (some (.ref d)) := by rw [get_set, if_neg (Ne.symm d2), get_set, if_neg (Ne.symm d1)]; exact hv'
    have hvc : ((σ'.set ia (some v1)).set ic (some (V.ref t2)))[ic]? = some (some (.ref t2)) := by
      rw [get_set, if_pos rfl, if_pos]
      rw [List.length_set, S'.len]; simp [dsn]; exact hcl
    -- the slice once
    have slice : ∀ {w2 : Wd} (Q : VK), Ex w2.H0 w2.H1 → Le w' w2 → (∀ p, w2.H1 p = none → Q (.ref p) (upd w2.H1 p (.tup [V.int kl, V.int kc]))) → tSl (rSlU K) (tVar ic) (tPart (tC (.int 1))) (tPart (tC (.int 3))) ((σ'.set ia (some v1)).set ic (some (V.ref t2))) w2.H1 Q := fun {w2} Q ex2 l2 hQ => by
      refine ⟨.ref t2, hvc, 1, rfl, 3, rfl, .inr (.inr ⟨t2, vs2, rfl, Evl.ex_t ex2 (Evl.ex_t l2.h htup2), fun hh => absurd hh hnw, fun _ p hp => ?_⟩)⟩
      rw [hcut]; exact hQ p hp
    refine slice (w2 := w') _ S4.ex .refl fun p hp => ?_
    have g5 : Gs w' ⟨w'.S, w'.T, w'.n, w'.H0, upd w'.H1 p (.tup [V.int kl, V.int kc])⟩ := Gs.junk S4.ex hp
    have S5 := S4.go g5 (S4.st.write (S4.st.not hp))
    have hpd : p ≠ d := fun z => by rw [z, wd3] at hp; cases hp
    refine ⟨.ref d, hvi, d, _, rfl, DGet.t (k := [Sum.inl kl, Sum.inl kc]) ((upd_ne hpd.symm).trans wd3) upd_same, ?_⟩
    refine ⟨(valV kvs [Sum.inl kl, Sum.inl kc]).isSome, rfl, ?_⟩
    rw [valV_noneT hnew]
    show if Option.isSome none = true then _ else _
    rw [if_neg (by simp)]
    refine ⟨.ref d, hvi, ?_⟩
    refine slice (w2 := ⟨w'.S, w'.T, w'.n, w'.H0, upd w'.H1 p (.tup [V.int kl, V.int kc])⟩) _ S5.ex ⟨fun _ h => h, fun _ _ => rfl, .refl _⟩ fun p2 hp2 => ?_
    have S6 := S5.go (Gs.junk S5.ex (o := .tup [V.int kl, V.int kc]) hp2) (S5.st.write (S5.st.not hp2))
    have hp2d : p2 ≠ d := fun z => by
      have q2 : upd w'.H1 p (.tup [V.int kl, V.int kc]) d = some (.dT kvs) := (upd_ne hpd.symm).trans wd3
      have q3 : upd w'.H1 p (.tup [V.int kl, V.int kc]) p2 = none := hp2
      rw [z, q2] at q3; cases q3
    have wd6 : upd (upd w'.H1 p (.tup [V.int kl, V.int kc])) p2 (.tup [V.int kl, V.int kc]) d = some (.dT kvs) := (upd_ne hp2d.symm).trans ((upd_ne hpd.symm).trans wd3)
    have hlenk : kvs.length < sizeLine := by
      have := congrArg List.length hk
      rw [List.length_map, List.length_map, List.length_take] at this
      exact Nat.lt_of_lt_of_le (show kvs.length < 1000000 by omega) (by decide)
    refine ⟨d, _, rfl, DPut.t (k := [Sum.inl kl, Sum.inl kc]) wd6 upd_same hlenk, ?_⟩
    rw [putK_newT hnew]
    have S7 := S6.wr (a := d) (o := .dT (kvs ++ [([Sum.inl kl, Sum.inl kc], V.bl true)])) nm4 db w03 wS3
    have dropAt : ∀ {w0 : Wd} {σ0 : L2.St} {ds0 : DS} {j : Nat}, Sd K Z b w0 σ0 ds0 → Sd K Z b w0 σ0 (ds0.set j none) := fun {w0 σ0 ds0 j} S0 => by
      by_cases hj : j < σ0.length
      · have h2 : Sd K Z b w0 (σ0.set j (σ0[j]'hj)) (ds0.set j none) := S0.drop
        rw [List.set_getElem_self] at h2
        exact h2
      · rw [List.set_eq_of_length_le (by rw [← S0.len]; omega)]; exact S0
    have S8 := dropAt (j := ic) (dropAt (j := ia) S7)
    have e6 : ((((ds.set i none).set ia (some y0)).set ic (some (.tup ys))).set ia none).set ic none = dsn := by
      show _ = ((ds.set i none).set ia none).set ic none
      rw [List.set_comm _ _ (show ic ≠ ia from Ne.symm d3), List.set_set, List.set_set]
    rw [e6] at S8
    exact ⟨⟨w'.S, w'.T, w'.n, w'.H0, upd (upd (upd w'.H1 p (.tup [V.int kl, V.int kc])) p2 (.tup [V.int kl, V.int kc])) d (.dT (kvs ++ [([Sum.inl kl, Sum.inl kc], V.bl true)]))⟩, _, rfl, (l.trans g2.g.ls).trans ⟨fun _ h => h, fun _ _ => rfl, .refl _⟩, S8, hvi, g2.n.trans en, upd_same, w03, wS3, by rw [List.map_append, hk, et]; rfl⟩
  · rintro σ' H' ⟨w, kvs, rfl, l, S', hv', en, wd, w0, wS, hk⟩
    refine O.nx _ w _ ((gd.ls.trans g1.ls).trans l) S' ?_
    rw [en]
    exact hN
/-- sorted(d), d's keys numbers -/
def rSortDI (K : PySem.W.Frag) : List V → Hp → VK → Prop := fun xs H Q => ∃ (a : Addr) (kvs : List (Key × V)) (ks : List Int), xs = [.ref a] ∧ Rd H a (.dK kvs) ∧ kvs.map (·.1) = ks.map Sum.inl ∧ ks.length < 64 ∧
    ∀ (ys : List Int) (p : Addr), ys.Perm ks → ys.Pairwise (· ≤ ·) → H p = none → Q (.ref p) (upd H p (.lst (ys.map V.int)))
theorem sorted_fdc {ys : List (Key × D)} {ks : List Int} {P : D → Prop} (hk : ys.map (·.1) = ks.map Sum.inl) (hz : ks.length < 64) (h : ∀ ns' : List Int, ns'.Perm ks → ns'.Pairwise (· ≤ ·) → P (.lst (ns'.map .int))) : Cb K (rSortDI K) [.fdc ys] P := fun u vs Q ex rs k => by
  obtain ⟨v, rfl, r1⟩ := dens1 rs
  obtain ⟨a, o, kvs, rfl, hd, hkv⟩ := den_fdc r1
  exact ⟨a, kvs, ks, rfl, .inr ⟨o, ex _ _ hd⟩, (denK_keys hkv).trans hk, hz, fun zs p h1 h2 hp => k _ _ (u.put p _) (.put ex hp) (.lst (SqL.of upd_same) (dens_of_ints zs)) (h zs h1 h2)⟩
end
end DL
namespace L2
theorem call_sortDI {X : Cx} (hc : X.calm = true) : CallR X (.builtin "sorted") (DL.rSortDI X.K) := call_sortedDI hc
end L2

/-! Static methods read off a class. -/
namespace ClX
open PySem PySem.Spec PyProof.Rows L2
/-- C.m is a staticmethod: its record at p, its def at g -/
structure SMet (K : PySem.W.Frag) (C : Addr) (mc : Value) (m : Str) (p g : Addr) : Prop where
  at_ : PySem.W.findCls K (.ref C) mc m = some (.get (.builtin "staticmethod.__get__") (.ref p) .none (.ref C))
  rc : ∃ rest, PySem.W.recIn K p "staticmethod" = some (.ref g :: rest)
  kp : PySem.W.keepIn K (.ref g) = true
section
variable {X : Cx} {pins : List (Addr × Obj)} {σ : L2.St} {H : Hp} {s : Shared} {a C p g : Addr} {mc : Value} {f m : Str} {v : V} {u : Value} {A : Around} {E : Value → Shared → Prop}
def tSMeth (C : Addr) (sp : Sp) (E : XK) (ta : TE) (t : TA) : TE := fun σ H Q => ta σ H fun x H1 => x = .ref C ∧ t σ H1 fun vs H2 => sp vs H2 Q E
variable {CX : CXT} {k : Nat} {sp : Sp} {o e : Expr} {es : List Expr} {ta : TE} {t : TA} {apos pos : Pos} {EX : XK}
end
end ClX
namespace DL
open PySem L2 StX
section
variable {K : PySem.W.Frag} [Tb K] {Z : ZX} {b u u' u'' : Wd} {σ : L2.St} {ds : DS} {n : Nat} {P : D → Nat → Prop} {te ta tb tc tk tv ti : TE} {N : Nd} {C : Addr} {R : Rl} {E : XK}
end
end DL

/-! The mathematics of pieces: columns that are looked at, the machine that makes pieces, all columns. -/
namespace MP
open PySem
structure Tg where
  s : Str
  l : Nat
  c : Nat
  w : Option Str
  deriving DecidableEq
abbrev Td := Option (Bool × Tg)
abbrev Stt := Nat × Td
def adv (t : Tg) (i : Nat) : Tg := { t with c := t.c + i }
theorem adv0 (t : Tg) : adv t 0 = t := rfl
theorem adv_adv (t : Tg) (i j : Nat) : adv (adv t i) j = adv t (i + j) := by simp [adv, Nat.add_assoc]
theorem adv_inj {t : Tg} {i j : Nat} : adv t i = adv t j ↔ i = j := by
  constructor
  · intro h; have := congrArg Tg.c h; simp [adv] at this; exact this
  · intro h; rw [h]
theorem adv_ne {t : Tg} {i : Nat} (h : i ≠ 0) : adv t i ≠ t := fun z => h ((adv_inj (t := t) (i := i) (j := 0)).mp z)
def furt : Td → Nat → Td
  | some (true, t), i => some (true, adv t i)
  | o, _ => o
/-- the value at an offset -/
def tv (td : Td) (i : Nat) : Option Tg := (furt td i).map (·.2)
theorem tv_none (i : Nat) : tv none i = none := rfl
theorem tv_run (t : Tg) (i : Nat) : tv (some (true, t)) i = some (adv t i) := rfl
theorem tv_pt (t : Tg) (i : Nat) : tv (some (false, t)) i = some t := rfl
/-- pieces: begin, kind (0 gap, 1 run, 2 point), first value -/
structure Pc where
  b : Nat
  k : Nat
  f : Option Tg
  deriving DecidableEq
def goes (p : Pc) (c : Nat) (t : Option Tg) : Prop := if p.k = 1 then t = p.f.map (adv · (c - p.b)) else t = p.f
instance (p : Pc) (c : Nat) (t : Option Tg) : Decidable (goes p c t) := by unfold goes; exact inferInstance
def trig (p : Pc) (c : Nat) (t : Option Tg) : Prop := t ≠ none ∧ t = p.f ∧ c = p.b + 1
instance (p : Pc) (c : Nat) (t : Option Tg) : Decidable (trig p c t) := by unfold trig; exact inferInstance
def tr (p : Pc) (c : Nat) (t : Option Tg) : Pc := if trig p c t then ⟨p.b, 2, t⟩ else p
abbrev Ms := List Pc × Pc
def step (s : Ms) (x : Nat × Option Tg) : Ms :=
  if goes (tr s.2 x.1 x.2) x.1 x.2 then (s.1, tr s.2 x.1 x.2) else (s.1 ++ [tr s.2 x.1 x.2], ⟨x.1, if x.2 = none then 0 else 1, x.2⟩)
def p0 : Pc := ⟨0, 0, none⟩
def run (s : Ms) (f : Nat → Option Tg) (b m : Nat) : Ms := (List.range' b m).foldl (fun s c => step s (c, f c)) s
theorem run0 (s : Ms) (f : Nat → Option Tg) (b : Nat) : run s f b 0 = s := rfl
theorem run_s (s : Ms) (f : Nat → Option Tg) (b m : Nat) : run s f b (m + 1) = run (step s (b, f b)) f (b + 1) m := by simp [run, List.range'_succ]
theorem run_add (s : Ms) (f : Nat → Option Tg) (b m k : Nat) : run s f b (m + k) = run (run s f b m) f (b + m) k := by
  induction m generalizing s b with
  | zero => simp [run0]
  | succ m ih => rw [show m + 1 + k = (m + k) + 1 by omega, run_s, run_s, ih, show b + 1 + m = b + (m + 1) by omega]
theorem run_last (s : Ms) (f : Nat → Option Tg) (b m : Nat) : run s f b (m + 1) = step (run s f b m) (b + m, f (b + m)) := by rw [run_add, run_s, run0]
theorem run_congr {s : Ms} {f g : Nat → Option Tg} : ∀ {b m : Nat}, (∀ c, b ≤ c → c < b + m → f c = g c) → run s f b m = run s g b m := by
  intro b m
  induction m generalizing s b with
  | zero => intro _; rfl
  | succ m ih =>
    intro h
    rw [run_s, run_s, h b (Nat.le_refl _) (by omega)]
    exact ih fun c h1 h2 => h c (by omega) (by omega)
/-- a piece as it stands in front of column c -/
structure PcOk (p : Pc) (c : Nat) : Prop where
  k : p.k = 0 ∨ p.k = 1 ∨ p.k = 2
  g : p.k = 0 ↔ p.f = none
  b : p.b < c ∨ p = p0
theorem ok0 : PcOk p0 0 := ⟨.inl rfl, by simp [p0], .inr rfl⟩
theorem PcOk.mono {p : Pc} {c d : Nat} (h : PcOk p c) (l : c ≤ d) : PcOk p d := ⟨h.k, h.g, h.b.imp (fun z => by omega) id⟩
theorem ok_tr {p : Pc} {c : Nat} {t : Option Tg} (h : PcOk p c) : PcOk (tr p c t) (c + 1) := by
  unfold tr
  split
  · rename_i z
    obtain ⟨z1, z2, z3⟩ := z
    exact ⟨.inr (.inr rfl), by simp [z1], .inl (by show p.b < c + 1; omega)⟩
  · exact h.mono (by omega)
theorem ok_step {s : Ms} {c : Nat} {t : Option Tg} (h : PcOk s.2 c) : PcOk (step s (c, t)).2 (c + 1) := by
  unfold step
  split
  · exact ok_tr h
  · exact ⟨by split <;> simp, by cases t <;> simp, .inl (by show c < c + 1; omega)⟩
theorem ok_run {s : Ms} {f : Nat → Option Tg} {b m : Nat} (h : PcOk s.2 b) : PcOk (run s f b m).2 (b + m) := by
  induction m with
  | zero => exact h
  | succ m ih => rw [run_last]; exact ok_step ih
/-- nothing changes at column c -/
def still (p : Pc) (c : Nat) (t : Option Tg) : Prop := goes p c t ∧ ¬ trig p c t
theorem step_still {s : Ms} {c : Nat} {t : Option Tg} (h : still s.2 c t) : step s (c, t) = s := by
  unfold step
  have e : tr s.2 c t = s.2 := by unfold tr; rw [if_neg h.2]
  simp only [e]
  rw [if_pos h.1]
theorem run_still {s : Ms} {f : Nat → Option Tg} {b m : Nat} (h : ∀ c, b ≤ c → c < b + m → still s.2 c (f c)) : run s f b m = s := by
  induction m with
  | zero => rfl
  | succ m ih =>
    rw [run_last, ih fun c h1 h2 => h c h1 (by omega)]
    exact step_still (h (b + m) (by omega) (by omega))
/-! ### after three columns of one stretch nothing changes any more -/
theorem gap_one {s : Ms} {b : Nat} (h : PcOk s.2 b) : (step s (b, none)).2.f = none ∧ (step s (b, none)).2.k = 0 := by
  unfold step
  have e : tr s.2 b none = s.2 := by unfold tr; rw [if_neg]; intro z; exact z.1 rfl
  simp only [e]
  split
  · rename_i z
    have hf : s.2.f = none := by
      unfold goes at z
      split at z
      · cases q : s.2.f with
        | none => rfl
        | some t => rw [q] at z; cases z
      · exact z.symm
    exact ⟨hf, h.g.mpr hf⟩
  · exact ⟨rfl, rfl⟩
theorem gap_still {p : Pc} (h : p.f = none) (k : p.k = 0) (c : Nat) : still p c none := by
  refine ⟨?_, fun z => z.1 rfl⟩
  unfold goes
  rw [if_neg (by omega)]
  exact h.symm
/-- a run piece that goes on -/
theorem run_st {p : Pc} {t : Tg} {c : Nat} (hk : p.k = 1) (hf : p.f = some t) (hb : p.b < c) : still p c (some (adv t (c - p.b))) := by
  refine ⟨?_, fun z => ?_⟩
  · unfold goes; rw [if_pos hk, hf]; rfl
  · obtain ⟨_, z2, z3⟩ := z
    rw [hf] at z2
    exact adv_ne (i := c - p.b) (by omega) (Option.some.inj z2)
theorem pt_st {p : Pc} {t : Tg} {c : Nat} (hk : p.k = 2) (hf : p.f = some t) (hb : p.b + 1 < c) : still p c (some t) := by
  refine ⟨?_, fun z => by have := z.2.2; omega⟩
  unfold goes; rw [if_neg (by omega), hf]
/-- the state behind a column: a run piece, or a point piece, with this value -/
theorem step_run {s : Ms} {b : Nat} {t : Tg} (h : PcOk s.2 b) : let p := (step s (b, some t)).2
    (p.k = 1 ∧ ∃ f, p.f = some f ∧ t = adv f (b - p.b) ∧ p.b ≤ b) ∨ (p.k = 2 ∧ p.f = some t ∧ p.b < b) := by
  show ((step s (b, some t)).2.k = 1 ∧ _) ∨ _
  unfold step
  by_cases hg : goes (tr s.2 b (some t)) b (some t)
  · rw [if_pos hg]
    unfold tr at hg ⊢
    by_cases ht : trig s.2 b (some t)
    · rw [if_pos ht]
      exact .inr ⟨rfl, rfl, by have := ht.2.2; show s.2.b < b; omega⟩
    · rw [if_neg ht] at hg ⊢
      unfold goes at hg
      by_cases hk : s.2.k = 1
      · rw [if_pos hk] at hg
        cases q : s.2.f with
        | none => rw [q] at hg; cases hg
        | some f =>
          rw [q] at hg
          refine .inl ⟨hk, f, rfl, Option.some.inj hg, ?_⟩
          rcases h.b with z | z
          · show s.2.b ≤ b; omega
          · rw [z] at hk; cases hk
      · rw [if_neg hk] at hg
        have hk2 : s.2.k = 2 := by
          rcases h.k with z | z | z
          · have := h.g.mp z; rw [this] at hg; cases hg
          · exact absurd z hk
          · exact z
        refine .inr ⟨hk2, hg.symm, ?_⟩
        rcases h.b with z | z
        · exact z
        · rw [z] at hk2; cases hk2
  · rw [if_neg hg]
    refine .inl ⟨by simp, t, rfl, ?_, Nat.le_refl _⟩
    show t = adv t (b - b)
    rw [Nat.sub_self]; rfl
/-- a run stretch: behind two columns a run piece goes on -/
theorem run_two {s : Ms} {b : Nat} {t : Tg} (h : PcOk s.2 b) : let p := (step (step s (b, some t)) (b + 1, some (adv t 1))).2
    p.k = 1 ∧ ∃ f, p.f = some f ∧ adv t 1 = adv f (b + 1 - p.b) ∧ p.b ≤ b + 1 := by
  have h1 := step_run (t := t) h
  have k1 := ok_step (t := some t) h
  have h2 := step_run (t := adv t 1) k1
  rcases h2 with z | ⟨z1, z2, z3⟩
  · exact z
  · exfalso
    -- a point piece with the value t + 1 behind column b + 1
    generalize hs : step s (b, some t) = s1 at *
    unfold step at z1 z2 z3
    by_cases hg : goes (tr s1.2 (b + 1) (some (adv t 1))) (b + 1) (some (adv t 1))
    · simp only [if_pos hg] at z1 z2 z3
      unfold tr at z1 z2 z3 hg
      by_cases ht : trig s1.2 (b + 1) (some (adv t 1))
      · obtain ⟨_, q2, q3⟩ := ht
        rcases h1 with ⟨_, f, e1, e2, e3⟩ | ⟨_, e1, e2⟩
        · rw [e1] at q2
          have hb : s1.2.b = b := by omega
          rw [hb, Nat.sub_self] at e2
          have := Option.some.inj q2
          rw [e2] at this
          exact adv_ne (t := f) (i := 1) (by omega) (by rw [adv0] at this; exact this)
        · rw [e1] at q2
          exact adv_ne (by omega) (Option.some.inj q2)
      · rw [if_neg ht] at z1 z2 z3
        rcases h1 with ⟨e0, _⟩ | ⟨_, e1, e2⟩
        · omega
        · rw [e1] at z2
          exact adv_ne (i := 1) (by omega) (Option.some.inj z2).symm
    · simp only [if_neg hg] at z1
      simp at z1
/-- a point stretch: behind three columns a point piece goes on -/
theorem pt_three {s : Ms} {b : Nat} {t : Tg} (h : PcOk s.2 b) : let p := (step (step (step s (b, some t)) (b + 1, some t)) (b + 2, some t)).2
    p.k = 2 ∧ p.f = some t ∧ p.b ≤ b + 1 := by
  have h1 := step_run (t := t) h
  have k1 := ok_step (t := some t) h
  generalize step s (b, some t) = s1 at *
  -- behind b + 1: a point piece, or a run piece that begins at b + 1
  have two : ((step s1 (b + 1, some t)).2.k = 2 ∧ (step s1 (b + 1, some t)).2.f = some t ∧ (step s1 (b + 1, some t)).2.b ≤ b) ∨ ((step s1 (b + 1, some t)).2 = ⟨b + 1, 1, some t⟩) := by
    unfold step
    by_cases ht : trig s1.2 (b + 1) (some t)
    · have e : tr s1.2 (b + 1) (some t) = ⟨s1.2.b, 2, some t⟩ := by unfold tr; rw [if_pos ht]
      simp only [e]
      rw [if_pos (by unfold goes; simp)]
      exact .inl ⟨rfl, rfl, by have := ht.2.2; show s1.2.b ≤ b; omega⟩
    · have e : tr s1.2 (b + 1) (some t) = s1.2 := by unfold tr; rw [if_neg ht]
      simp only [e]
      rcases h1 with ⟨e0, f, e1, e2, e3⟩ | ⟨e0, e1, e2⟩
      · -- a run piece: it does not go on
        rw [if_neg]
        · right; simp
        · unfold goes
          rw [if_pos e0, e1]
          intro z
          have z2 := Option.some.inj z
          rw [e2] at z2
          have := (adv_inj (t := f)).mp z2
          omega
      · rw [if_pos (by unfold goes; rw [if_neg (by omega), e1])]
        exact .inl ⟨e0, e1, Nat.le_of_lt e2⟩
  generalize step s1 (b + 1, some t) = s2 at *
  rcases two with ⟨a1, a2, a3⟩ | a
  · have st : still s2.2 (b + 2) (some t) := by
      refine ⟨?_, fun z => by have := z.2.2; omega⟩
      unfold goes; rw [if_neg (by omega), a2]
    rw [step_still st]
    exact ⟨a1, a2, by omega⟩
  · have ht : trig s2.2 (b + 2) (some t) := by rw [a]; exact ⟨by simp, rfl, rfl⟩
    unfold step
    have e : tr s2.2 (b + 2) (some t) = ⟨b + 1, 2, some t⟩ := by unfold tr; rw [if_pos ht, a]
    simp only [e]
    rw [if_pos (by unfold goes; simp)]
    exact ⟨rfl, rfl, Nat.le_refl _⟩
/-- one stretch: three columns are enough -/
theorem three {s : Ms} {b m : Nat} {td : Td} (h : PcOk s.2 b) (hm : 3 ≤ m) : run s (fun c => tv td (c - b)) b m = run s (fun c => tv td (c - b)) b 3 := by
  obtain ⟨q, rfl⟩ : ∃ q, m = 3 + q := ⟨m - 3, by omega⟩
  rw [run_add]
  refine run_still fun c h1 h2 => ?_
  have e3 : run s (fun c => tv td (c - b)) b 3 = step (step (step s (b, tv td 0)) (b + 1, tv td 1)) (b + 2, tv td 2) := by
    rw [run_s, run_s, run_s, run0]
    rw [show b + 1 + 1 = b + 2 by omega, show b + 2 - b = 2 by omega, show b + 1 - b = 1 by omega, Nat.sub_self]
  rw [e3]
  match td with
  | none =>
    have g1 := gap_one h
    simp only [tv_none]
    rw [step_still (s := step (step s (b, none)) (b + 1, none)) (by rw [step_still (gap_still g1.1 g1.2 _)]; exact gap_still g1.1 g1.2 _), step_still (gap_still g1.1 g1.2 _)]
    exact gap_still g1.1 g1.2 _
  | some (true, t) =>
    simp only [tv_run, adv0]
    obtain ⟨k1, f, e1, e2, e3⟩ := run_two (t := t) h
    generalize step (step s (b, some t)) (b + 1, some (adv t 1)) = s2 at *
    have cv : ∀ d, b + 1 < d → adv t (d - b) = adv f (d - s2.2.b) := fun d hd => by
      have := congrArg (fun x => adv x (d - (b + 1))) e2
      simp only [adv_adv] at this
      rw [show 1 + (d - (b + 1)) = d - b by omega, show b + 1 - s2.2.b + (d - (b + 1)) = d - s2.2.b by omega] at this
      exact this
    have st2 : still s2.2 (b + 2) (some (adv t 2)) := by
      have := run_st (c := b + 2) k1 e1 (by omega)
      rw [← cv (b + 2) (by omega), show b + 2 - b = 2 by omega] at this
      exact this
    rw [step_still st2]
    have := run_st (c := c) k1 e1 (by omega)
    rw [← cv c (by omega)] at this
    exact this
  | some (false, t) =>
    simp only [tv_pt]
    obtain ⟨k1, e1, e2⟩ := pt_three (t := t) h
    exact pt_st k1 e1 (by omega)
/-! ### all columns -/
def cols : List Stt → List (Nat × Option Tg)
  | [] => []
  | [(b, td)] => (List.range 3).map fun i => (b + i, tv td i)
  | (b, td) :: (b', td') :: r => ((List.range (min 3 (b' - b))).map fun i => (b + i, tv td i)) ++ cols ((b', td') :: r)
def at_ : List Stt → Nat → Option Stt
  | [], _ => none
  | st :: r, c => match at_ r c with
    | some s => some s
    | none => if st.1 ≤ c then some st else none
def val (xs : List Stt) (c : Nat) : Option Tg := match at_ xs c with
  | none => none
  | some (b, td) => tv td (c - b)
def fold (xs : List (Nat × Option Tg)) (s : Ms) : Ms := xs.foldl step s
theorem fold_run (s : Ms) (b m : Nat) (td : Td) : fold ((List.range m).map fun i => (b + i, tv td i)) s = run s (fun c => tv td (c - b)) b m := by
  unfold fold run
  have : (List.range' b m) = (List.range m).map (b + ·) := by rw [List.range'_eq_map_range]
  rw [this, List.foldl_map, List.foldl_map]
  congr 1
  funext s i
  simp
abbrev Asc (xs : List Stt) : Prop := (xs.map (·.1)).Pairwise (· < ·)
theorem at_none {xs : List Stt} {c : Nat} (h : ∀ st ∈ xs, c < st.1) : at_ xs c = none := by
  induction xs with
  | nil => rfl
  | cons st r ih =>
    simp only [at_]
    rw [ih fun s hs => h s (by simp [hs])]
    simp only
    rw [if_neg (by have := h st (by simp); omega)]
theorem val_none {xs : List Stt} {c : Nat} (h : ∀ st ∈ xs, c < st.1) : val xs c = none := by unfold val; rw [at_none h]
theorem val_head {b : Nat} {td : Td} {r : List Stt} {c : Nat} (hb : b ≤ c) (h : ∀ st ∈ r, c < st.1) : val ((b, td) :: r) c = tv td (c - b) := by
  unfold val
  simp only [at_]
  rw [at_none h]
  simp only
  rw [if_pos hb]
theorem val_tail {st : Stt} {b : Nat} {td : Td} {r : List Stt} {c : Nat} (hb : b ≤ c) : val (st :: (b, td) :: r) c = val ((b, td) :: r) c := by
  unfold val
  have : ∃ s, at_ ((b, td) :: r) c = some s := by
    simp only [at_]
    cases at_ r c with
    | some s => exact ⟨s, rfl⟩
    | none => exact ⟨_, if_pos hb⟩
  obtain ⟨s, hs⟩ := this
  rw [show at_ (st :: (b, td) :: r) c = some s by conv => lhs; unfold at_; rw [hs]]
  rw [hs]
theorem fold_app (xs ys : List (Nat × Option Tg)) (s : Ms) : fold (xs ++ ys) s = fold ys (fold xs s) := by simp [fold]
/-- the columns that are looked at tell as much as all columns do -/
theorem cols_all : ∀ (xs : List Stt) (b : Nat) (td : Td) (s : Ms) (N : Nat), Asc ((b, td) :: xs) → PcOk s.2 b → (∀ st ∈ (b, td) :: xs, st.1 + 3 ≤ b + N) → fold (cols ((b, td) :: xs)) s = run s (val ((b, td) :: xs)) b N
  | [], b, td, s, N, _, h, hN => by
    show fold ((List.range 3).map fun i => (b + i, tv td i)) s = _
    rw [fold_run, ← three h (show 3 ≤ N by have := hN (b, td) (by simp); simp at this; omega)]
    refine run_congr fun c h1 _ => ?_
    rw [val_head h1 (by simp)]
  | (b', td') :: r, b, td, s, N, ha, h, hN => by
    have hlt : b < b' := by
      have := List.pairwise_cons.mp ha
      exact this.1 b' (by simp)
    have ha' : Asc ((b', td') :: r) := (List.pairwise_cons.mp ha).2
    have hN' := hN (b', td') (by simp)
    simp only at hN'
    show fold (((List.range (min 3 (b' - b))).map fun i => (b + i, tv td i)) ++ cols ((b', td') :: r)) s = _
    rw [fold_app, fold_run]
    have e1 : run s (fun c => tv td (c - b)) b (min 3 (b' - b)) = run s (fun c => tv td (c - b)) b (b' - b) := by
      by_cases q : 3 ≤ b' - b
      · rw [Nat.min_eq_left q, three h q]
      · rw [Nat.min_eq_right (by omega)]
    have e2 : run s (fun c => tv td (c - b)) b (b' - b) = run s (val ((b, td) :: (b', td') :: r)) b (b' - b) := by
      refine run_congr fun c h1 h2 => ?_
      refine (val_head h1 fun st hst => ?_).symm
      have hmono : ∀ st ∈ (b', td') :: r, b' ≤ st.1 := fun st hs => by
        rcases List.mem_cons.mp hs with z | z
        · rw [z]; exact Nat.le_refl _
        · exact Nat.le_of_lt ((List.pairwise_cons.mp ha').1 st.1 (List.mem_map.mpr ⟨st, z, rfl⟩))
      have := hmono st hst
      omega
    rw [e1, e2]
    have k2 : PcOk (run s (val ((b, td) :: (b', td') :: r)) b (b' - b)).2 b' := by
      have := ok_run (f := val ((b, td) :: (b', td') :: r)) (m := b' - b) h
      rw [show b + (b' - b) = b' by omega] at this
      exact this
    rw [cols_all r b' td' _ (b + N - b') ha' k2 fun st hst => by have := hN st (by simp [hst]); omega]
    rw [show N = (b' - b) + (b + N - b') by omega, run_add, show b + (b' - b) = b' by omega]
    rw [show b + ((b' - b) + (b + N - b')) - b' = b + N - b' by omega]
    exact run_congr fun c h1 _ => (val_tail h1).symm
/-- the machine over the first N columns -/
def full (f : Nat → Option Tg) (N : Nat) : Ms := run ([], p0) f 0 N
def machine (xs : List Stt) : Ms := fold (cols xs) ([], p0)
theorem machine_full {xs : List Stt} {N : Nat} (ha : Asc xs) (hN : ∀ st ∈ xs, st.1 + 3 ≤ N) : machine xs = full (val xs) N := by
  cases xs with
  | nil =>
    unfold machine full
    show ([], p0) = _
    refine (run_still fun c _ _ => ?_).symm
    exact gap_still rfl rfl c
  | cons x r =>
    obtain ⟨b, td⟩ := x
    unfold machine full
    have hb := hN (b, td) (by simp)
    simp only at hb
    have hmono : ∀ st ∈ (b, td) :: r, b ≤ st.1 := fun st hs => by
      rcases List.mem_cons.mp hs with z | z
      · rw [z]; exact Nat.le_refl _
      · exact Nat.le_of_lt ((List.pairwise_cons.mp ha).1 st.1 (List.mem_map.mpr ⟨st, z, rfl⟩))
    have e0 : run ([], p0) (val ((b, td) :: r)) 0 b = ([], p0) := run_still fun c _ h2 => by
      rw [val_none fun st hst => by have := hmono st hst; omega]
      exact gap_still rfl rfl c
    rw [cols_all r b td ([], p0) (N - b) ha (ok0.mono (Nat.zero_le _)) fun st hst => by have := hN st hst; omega]
    rw [show N = b + (N - b) by omega, run_add, e0, Nat.zero_add, show b + (N - b) - b = N - b by omega]
/-- the pieces -/
def few (xs : List Stt) : List Pc := ((machine xs).1 ++ [(machine xs).2]).drop 1
end MP

/-! Pieces are longest, and fewest. -/
namespace MP
variable {f : Nat → Option Tg}
/-- one piece could tell the columns a .. b - 1 -/
def vld (f : Nat → Option Tg) (a b : Nat) : Prop := (∀ c, a ≤ c → c < b → f c = none) ∨ (∃ t, ∀ c, a ≤ c → c < b → f c = some (adv t (c - a))) ∨ ∃ t, ∀ c, a ≤ c → c < b → f c = some t
theorem vld.sub {a b a' b' : Nat} (h : vld f a b) (h1 : a ≤ a') (h2 : b' ≤ b) : vld f a' b' := by
  rcases h with h | ⟨t, h⟩ | ⟨t, h⟩
  · exact .inl fun c q1 q2 => h c (by omega) (by omega)
  · refine .inr (.inl ⟨adv t (a' - a), fun c q1 q2 => ?_⟩)
    rw [h c (by omega) (by omega), adv_adv, show a' - a + (c - a') = c - a by omega]
  · exact .inr (.inr ⟨t, fun c q1 q2 => h c (by omega) (by omega)⟩)
/-- what the piece p tells of the columns up to N -/
def desc (f : Nat → Option Tg) (p : Pc) (N : Nat) : Prop :=
  (p.k = 0 ∧ p.f = none ∧ ∀ c, p.b ≤ c → c < N → f c = none) ∨ (∃ t, p.k = 1 ∧ p.f = some t ∧ p.b < N ∧ ∀ c, p.b ≤ c → c < N → f c = some (adv t (c - p.b))) ∨ ∃ t, p.k = 2 ∧ p.f = some t ∧ p.b + 1 < N ∧ ∀ c, p.b ≤ c → c < N → f c = some t
theorem full_s (f : Nat → Option Tg) (N : Nat) : full f (N + 1) = step (full f N) (N, f N) := by
  unfold full; rw [run_last, Nat.zero_add]
theorem full_0 (f : Nat → Option Tg) : full f 0 = ([], p0) := rfl
def cnt (f : Nat → Option Tg) (N : Nat) : Nat := (full f N).1.length
/-- how the machine stands in front of column N -/
structure Inv (f : Nat → Option Tg) (N : Nat) : Prop where
  ds : desc f (full f N).2 N
  at_ : ((full f N).1 = [] ∧ (full f N).2 = p0) ∨ ((full f N).2.b < N ∧ (full f N).1.length = cnt f (full f N).2.b + 1 ∧ ((full f N).2.b = 0 → f 0 ≠ none) ∧ ∃ q, (full f N).1 = (full f (full f N).2.b).1 ++ [q] ∧ ((full f N).2.b = 0 → q = p0))
theorem step_cases (s : Ms) (c : Nat) (t : Option Tg) : (goes (tr s.2 c t) c t ∧ step s (c, t) = (s.1, tr s.2 c t)) ∨ (¬ goes (tr s.2 c t) c t ∧ step s (c, t) = (s.1 ++ [tr s.2 c t], ⟨c, if t = none then 0 else 1, t⟩)) := by
  unfold step
  by_cases h : goes (tr s.2 c t) c t
  · exact .inl ⟨h, if_pos h⟩
  · exact .inr ⟨h, if_neg h⟩
theorem desc_go {p : Pc} {N : Nat} (h : desc f p N) (hb : p.b ≤ N) (g : goes (tr p N (f N)) N (f N)) : desc f (tr p N (f N)) (N + 1) := by
  unfold tr at g ⊢
  by_cases ht : trig p N (f N)
  · rw [if_pos ht]
    obtain ⟨h1, h2, h3⟩ := ht
    cases q : f N with
    | none => exact absurd q h1
    | some t =>
      refine .inr (.inr ⟨t, rfl, rfl, by show p.b + 1 < N + 1; omega, fun c (q1 : p.b ≤ c) q2 => ?_⟩)
      by_cases e : c = N
      · rw [e, q]
      · have ec : c = p.b := by omega
        rw [q] at h2
        rcases h with ⟨z1, z2, z3⟩ | ⟨t', z1, z2, z3, z4⟩ | ⟨t', z1, z2, z3, z4⟩
        · rw [z2] at h2; cases h2
        · rw [z2] at h2; cases h2
          rw [z4 c q1 (by omega), ec, Nat.sub_self]; rfl
        · rw [z2] at h2; cases h2
          exact z4 c q1 (by omega)
  · rw [if_neg ht] at g ⊢
    unfold goes at g
    rcases h with ⟨z1, z2, z3⟩ | ⟨t', z1, z2, z3, z4⟩ | ⟨t', z1, z2, z3, z4⟩
    · rw [if_neg (by omega), z2] at g
      refine .inl ⟨z1, z2, fun c q1 q2 => ?_⟩
      by_cases e : c = N
      · rw [e]; exact g
      · exact z3 c q1 (by omega)
    · rw [if_pos z1, z2] at g
      refine .inr (.inl ⟨t', z1, z2, by omega, fun c q1 q2 => ?_⟩)
      by_cases e : c = N
      · rw [e]; exact g
      · exact z4 c q1 (by omega)
    · rw [if_neg (by omega), z2] at g
      refine .inr (.inr ⟨t', z1, z2, by omega, fun c q1 q2 => ?_⟩)
      by_cases e : c = N
      · rw [e]; exact g
      · exact z4 c q1 (by omega)
theorem tr_b (p : Pc) (c : Nat) (t : Option Tg) : (tr p c t).b = p.b := by unfold tr; split <;> rfl
theorem inv : ∀ N, Inv f N
  | 0 => ⟨.inl ⟨rfl, rfl, fun c _ h => absurd h (Nat.not_lt_zero _)⟩, .inl ⟨rfl, rfl⟩⟩
  | N + 1 => by
    have h := inv N
    have hb : (full f N).2.b ≤ N := by
      rcases h.at_ with ⟨_, z⟩ | ⟨z, _⟩
      · rw [z]; exact Nat.zero_le _
      · omega
    rcases step_cases (full f N) N (f N) with ⟨g, e⟩ | ⟨g, e⟩
    · have e' : full f (N + 1) = ((full f N).1, tr (full f N).2 N (f N)) := (full_s f N).trans e
      refine ⟨by rw [e']; exact desc_go h.ds hb g, ?_⟩
      rw [e']
      rcases h.at_ with ⟨z1, z2⟩ | ⟨z1, z2, z3, z4⟩
      · refine .inl ⟨z1, ?_⟩
        rw [z2]
        unfold tr
        rw [if_neg]
        intro ht
        exact ht.1 ht.2.1
      · refine .inr ?_
        simp only [tr_b]
        exact ⟨by omega, z2, z3, z4⟩
    · have e' : full f (N + 1) = ((full f N).1 ++ [tr (full f N).2 N (f N)], ⟨N, if f N = none then 0 else 1, f N⟩) := (full_s f N).trans e
      refine ⟨?_, ?_⟩
      · rw [e']
        cases q : f N with
        | none =>
          refine .inl ⟨by simp, rfl, fun c (q1 : N ≤ c) q2 => ?_⟩
          rw [show c = N by omega, q]
        | some t =>
          refine .inr (.inl ⟨t, by simp, rfl, Nat.lt_succ_self _, fun c (q1 : N ≤ c) q2 => ?_⟩)
          show f c = some (adv t (c - N))
          rw [show c = N by omega, q, Nat.sub_self]; rfl
      · rw [e']
        refine .inr ⟨Nat.lt_succ_self _, by simp [cnt], fun z => ?_, _, rfl, fun z => ?_⟩
        · have z' : N = 0 := z
          subst z'
          intro hf
          apply g
          rw [hf]
          show goes (tr p0 0 none) 0 none
          unfold tr goes
          simp [trig, p0]
        · have z' : N = 0 := z
          subst z'
          show tr p0 0 (f 0) = p0
          unfold tr
          rw [if_neg]
          intro ht
          have := ht.2.2
          simp [p0] at this
/-- a piece that ends at N could not go on -/
theorem closed {N : Nat} (h : ¬ goes (tr (full f N).2 N (f N)) N (f N)) (hb : (full f N).2.b < N) : ¬ vld f (full f N).2.b (N + 1) := by
  have hd := (inv (f := f) N).ds
  generalize (full f N).2 = p at *
  intro v
  unfold tr goes at h
  by_cases ht : trig p N (f N)
  · rw [if_pos ht] at h; simp at h
  · rw [if_neg ht] at h
    rcases hd with ⟨z1, z2, z3⟩ | ⟨t', z1, z2, z3, z4⟩ | ⟨t', z1, z2, z3, z4⟩
    · rw [if_neg (by omega), z2] at h
      have e0 := z3 p.b (Nat.le_refl _) hb
      rcases v with v | ⟨t, v⟩ | ⟨t, v⟩
      · exact h (v N (by omega) (by omega))
      · rw [v p.b (Nat.le_refl _) (by omega)] at e0; cases e0
      · rw [v p.b (Nat.le_refl _) (by omega)] at e0; cases e0
    · rw [if_pos z1, z2] at h
      have e0 := z4 p.b (Nat.le_refl _) hb
      rw [Nat.sub_self, adv0] at e0
      rcases v with v | ⟨t, v⟩ | ⟨t, v⟩
      · rw [v p.b (Nat.le_refl _) (by omega)] at e0; cases e0
      · have := v p.b (Nat.le_refl _) (by omega)
        rw [Nat.sub_self, adv0, e0] at this
        cases this
        exact h (v N (by omega) (by omega))
      · have e1 := v p.b (Nat.le_refl _) (by omega)
        rw [e0] at e1
        cases e1
        by_cases e : N = p.b + 1
        · refine ht ⟨?_, ?_, e⟩
          · rw [v N (by omega) (by omega)]; simp
          · rw [v N (by omega) (by omega), z2]
        · have e2 := z4 (p.b + 1) (by omega) (by omega)
          rw [v (p.b + 1) (by omega) (by omega), show p.b + 1 - p.b = 1 by omega] at e2
          exact adv_ne (by omega) (Option.some.inj e2).symm
    · rw [if_neg (by omega), z2] at h
      have e0 := z4 p.b (Nat.le_refl _) hb
      rcases v with v | ⟨t, v⟩ | ⟨t, v⟩
      · rw [v p.b (Nat.le_refl _) (by omega)] at e0; cases e0
      · have e1 := v p.b (Nat.le_refl _) (by omega)
        rw [Nat.sub_self, adv0, e0] at e1
        cases e1
        have e2 := z4 (p.b + 1) (by omega) (by omega)
        rw [v (p.b + 1) (by omega) (by omega), show p.b + 1 - p.b = 1 by omega] at e2
        exact adv_ne (by omega) (Option.some.inj e2)
      · have e1 := v p.b (Nat.le_refl _) (by omega)
        rw [e0] at e1
        cases e1
        exact h (v N (by omega) (by omega))
theorem cnt_s (N : Nat) : (goes (tr (full f N).2 N (f N)) N (f N) ∧ cnt f (N + 1) = cnt f N ∧ (full f (N + 1)).2.b = (full f N).2.b) ∨ (¬ goes (tr (full f N).2 N (f N)) N (f N) ∧ cnt f (N + 1) = cnt f N + 1 ∧ (full f (N + 1)).2.b = N) := by
  rcases step_cases (full f N) N (f N) with ⟨g, e⟩ | ⟨g, e⟩
  · exact .inl ⟨g, by unfold cnt; rw [full_s, e], by rw [full_s, e]; exact tr_b _ _ _⟩
  · exact .inr ⟨g, by unfold cnt; rw [full_s, e]; simp, by rw [full_s, e]⟩
theorem cnt0_of {N : Nat} (h : ∀ c, c < N → f c = none) : full f N = ([], p0) := by
  unfold full
  refine run_still fun c _ h2 => ?_
  rw [h c (by omega)]
  exact gap_still rfl rfl c
/-- within what one piece could tell at most one piece begins -/
theorem cnt_le {a b : Nat} (hab : a < b) (v : vld f a b) : cnt f b ≤ cnt f a + if a = 0 ∧ f 0 = none then 0 else 1 := by
  by_cases hz : a = 0 ∧ f 0 = none
  · rw [if_pos hz]
    obtain ⟨z1, z2⟩ := hz
    subst z1
    have hn : ∀ c, c < b → f c = none := by
      rcases v with v | ⟨t, v⟩ | ⟨t, v⟩
      · exact fun c hc => v c (Nat.zero_le _) hc
      · rw [v 0 (Nat.le_refl _) hab] at z2; cases z2
      · rw [v 0 (Nat.le_refl _) hab] at z2; cases z2
    have : cnt f b = 0 := by unfold cnt; rw [cnt0_of hn]; rfl
    omega
  · rw [if_neg hz]
    have main : ∀ m, a + m ≤ b → cnt f (a + m) = cnt f a ∨ (cnt f (a + m) = cnt f a + 1 ∧ a ≤ (full f (a + m)).2.b) := by
      intro m
      induction m with
      | zero => intro _; exact .inl rfl
      | succ m ih =>
        intro hm
        rcases ih (by omega) with e | ⟨e, hb⟩
        · rcases cnt_s (f := f) (a + m) with ⟨_, e1, e2⟩ | ⟨_, e1, e2⟩
          · left; show cnt f (a + m + 1) = _; omega
          · right; exact ⟨by show cnt f (a + m + 1) = _; omega, by show a ≤ (full f (a + m + 1)).2.b; omega⟩
        · rcases cnt_s (f := f) (a + m) with ⟨_, e1, e2⟩ | ⟨g, e1, e2⟩
          · right; exact ⟨by show cnt f (a + m + 1) = _; omega, by show a ≤ (full f (a + m + 1)).2.b; omega⟩
          · exfalso
            rcases (inv (f := f) (a + m)).at_ with ⟨z1, z2⟩ | ⟨z1, _⟩
            · have : cnt f (a + m) = 0 := by unfold cnt; rw [z1]; rfl
              omega
            · exact closed g z1 (v.sub hb hm)
    rcases main (b - a) (by omega) with e | ⟨e, _⟩
    · rw [show a + (b - a) = b by omega] at e; omega
    · rw [show a + (b - a) = b by omega] at e; omega
theorem few_len {xs : List Stt} {N : Nat} (ha : Asc xs) (hN : ∀ st ∈ xs, st.1 + 3 ≤ N) : (few xs).length = cnt (val xs) N := by
  unfold few cnt
  rw [machine_full ha hN]
  simp
/-- no more pieces than stretches -/
theorem cnt_stt {g : Nat → Option Tg} : ∀ (xs : List Stt) (b : Nat) (td : Td) (N : Nat), Asc ((b, td) :: xs) → (∀ st ∈ (b, td) :: xs, st.1 + 3 ≤ N) → (∀ c, b ≤ c → g c = val ((b, td) :: xs) c) → cnt g N ≤ cnt g b + (xs.length + 1)
  | [], b, td, N, _, hN, hg => by
    have h1 := hN (b, td) (by simp)
    simp only at h1
    have v : vld g b N := by
      have e : ∀ c, b ≤ c → c < N → g c = tv td (c - b) := fun c q _ => (hg c q).trans (val_head q (by simp))
      match td with
      | none => exact .inl fun c q1 q2 => e c q1 q2
      | some (true, t) => exact .inr (.inl ⟨t, fun c q1 q2 => e c q1 q2⟩)
      | some (false, t) => exact .inr (.inr ⟨t, fun c q1 q2 => e c q1 q2⟩)
    have := cnt_le (by omega) v
    split at this <;> simp <;> omega
  | (b', td') :: r, b, td, N, ha, hN, hg => by
    have hlt : b < b' := (List.pairwise_cons.mp ha).1 b' (by simp)
    have ha' : Asc ((b', td') :: r) := (List.pairwise_cons.mp ha).2
    have hmono : ∀ st ∈ (b', td') :: r, b' ≤ st.1 := fun st hs => by
      rcases List.mem_cons.mp hs with z | z
      · rw [z]; exact Nat.le_refl _
      · exact Nat.le_of_lt ((List.pairwise_cons.mp ha').1 st.1 (List.mem_map.mpr ⟨st, z, rfl⟩))
    have v : vld g b b' := by
      have e : ∀ c, b ≤ c → c < b' → g c = tv td (c - b) := fun c q q2 => (hg c q).trans (val_head q fun st hs => by have := hmono st hs; omega)
      match td with
      | none => exact .inl fun c q1 q2 => e c q1 q2
      | some (true, t) => exact .inr (.inl ⟨t, fun c q1 q2 => e c q1 q2⟩)
      | some (false, t) => exact .inr (.inr ⟨t, fun c q1 q2 => e c q1 q2⟩)
    have h1 := cnt_le hlt v
    have h2 := cnt_stt r b' td' N ha' (fun st hs => hN st (by simp [hs])) fun c q => (hg c (by omega)).trans (val_tail q)
    split at h1 <;> simp only [List.length_cons] at h2 ⊢ <;> omega
theorem few_le {xs : List Stt} (ha : Asc xs) : (few xs).length ≤ xs.length := by
  cases xs with
  | nil => exact Nat.le_of_eq rfl
  | cons x r =>
    obtain ⟨b, td⟩ := x
    obtain ⟨N, hN⟩ : ∃ N, ∀ st ∈ (b, td) :: r, st.1 + 3 ≤ N := by
      have : ∀ l : List Stt, ∃ N, ∀ st ∈ l, st.1 + 3 ≤ N := by
        intro l
        induction l with
        | nil => exact ⟨0, by simp⟩
        | cons y l ih =>
          obtain ⟨N, h⟩ := ih
          exact ⟨max N (y.1 + 3), fun st hs => by
            rcases List.mem_cons.mp hs with z | z
            · rw [z]; omega
            · have := h st z; omega⟩
      exact this _
    have hmono : ∀ st ∈ (b, td) :: r, b ≤ st.1 := fun st hs => by
      rcases List.mem_cons.mp hs with z | z
      · rw [z]; exact Nat.le_refl _
      · exact Nat.le_of_lt ((List.pairwise_cons.mp ha).1 st.1 (List.mem_map.mpr ⟨st, z, rfl⟩))
    have h0 : cnt (val ((b, td) :: r)) b = 0 := by
      unfold cnt
      rw [cnt0_of fun c hc => val_none fun st hs => by have := hmono st hs; omega]; rfl
    have := cnt_stt (g := val ((b, td) :: r)) r b td N ha hN fun _ _ => rfl
    rw [few_len ha hN]
    simp only [List.length_cons]
    omega
end MP

/-! Segments, stretches, pieces and maps as data. -/
namespace MP
open PySem L2 DL
def wD : Option Str → D
  | none => .non
  | some x => .str x
def wLs : Option Str → List D
  | none => []
  | some x => [.str x]
def kD (r : Bool) : Str := if r then Str.ofString "run" else Str.ofString "point"
def kN : Nat → Str
  | 0 => Str.ofString "gap"
  | 1 => Str.ofString "run"
  | _ => Str.ofString "point"
abbrev tgD (t : Tg) : D := .tup [.str t.s, .int (t.l : Nat), .int (t.c : Nat), wD t.w]
def tgO : Option Tg → D
  | none => .non
  | some t => tgD t
def tdD : Td → D
  | none => .non
  | some (r, t) => .tup [.str (kD r), .str t.s, .int (t.l : Nat), .int (t.c : Nat), wD t.w]
abbrev stD (x : Stt) : D := .tup [.int (x.1 : Nat), tdD x.2]
abbrev colD (x : Nat × Option Tg) : D := .tup [.int (x.1 : Nat), tgO x.2]
abbrev pcD (p : Pc) : D := .tup [.int (p.b : Nat), .str (kN p.k), tgO p.f]
structure Sg where
  ln : Nat
  b : Nat
  td : Td
  deriving DecidableEq
def sgL (g : Sg) : List D := match g.td with
  | none => [.str (Str.ofString "gap"), .int (g.ln : Nat), .int (g.b : Nat)]
  | some (r, t) => [.str (kD r), .int (g.ln : Nat), .int (g.b : Nat), .str t.s, .int (t.l : Nat), .int (t.c : Nat)] ++ wLs t.w
abbrev sgD (g : Sg) : D := .tup (sgL g)
def pcS (l : Nat) (p : Pc) : Sg := ⟨l, p.b, p.f.map fun t => (p.k == 1, t)⟩
theorem sgL1 (g : Sg) : (sgL g)[1]? = some (.int (g.ln : Nat)) := by
  obtain ⟨l, b, td⟩ := g
  cases td with
  | none => rfl
  | some x => obtain ⟨r, t⟩ := x; rfl
theorem sgL2 (g : Sg) : (sgL g)[2]? = some (.int (g.b : Nat)) := by
  obtain ⟨l, b, td⟩ := g
  cases td with
  | none => rfl
  | some x => obtain ⟨r, t⟩ := x; rfl
/-! ### sorted, by lines -/
def lexB (g h : Sg) : Bool := decide (g.ln < h.ln ∨ (g.ln = h.ln ∧ g.b ≤ h.b))
def srt (gs : List Sg) : List Sg := gs.mergeSort lexB
theorem srt_perm (gs : List Sg) : (srt gs).Perm gs := List.mergeSort_perm _ _
theorem srt_asc (gs : List Sg) : (srt gs).Pairwise fun g h => lexB g h = true := by
  refine List.pairwise_mergeSort ?_ ?_ gs
  · intro a b c h1 h2
    simp only [lexB, decide_eq_true_eq] at *
    omega
  · intro a b
    simp only [lexB, Bool.or_eq_true, decide_eq_true_eq]
    omega
abbrev KeyNd (gs : List Sg) : Prop := (gs.map fun g => (g.ln, g.b)).Nodup
theorem srt_nd {gs : List Sg} (h : KeyNd gs) : KeyNd (srt gs) := ((srt_perm gs).map _).nodup_iff.mpr h
abbrev stt (g : Sg) : Stt := (g.b, g.td)
/-- the stretches of a line -/
def rowSt (gs : List Sg) (l : Nat) : List Stt := ((srt gs).filter fun g => g.ln == l).map stt
theorem rowSt_asc {gs : List Sg} (h : KeyNd gs) (l : Nat) : Asc (rowSt gs l) := by
  unfold Asc rowSt
  rw [List.map_map, List.pairwise_map]
  have h1 := List.Pairwise.filter (fun g : Sg => g.ln == l) (srt_asc gs)
  have h2 : ((srt gs).filter fun g => g.ln == l).Pairwise fun g h => (g.ln, g.b) ≠ (h.ln, h.b) := by
    have := List.pairwise_map.mp (srt_nd h)
    exact this.filter _
  have h3 := h1.and h2
  refine List.Pairwise.imp_of_mem ?_ h3
  intro a b ha hb ⟨q1, q2⟩
  have ea := (List.mem_filter.mp ha).2
  have eb := (List.mem_filter.mp hb).2
  simp only [beq_iff_eq] at ea eb
  simp only [lexB, decide_eq_true_eq] at q1
  show a.b < b.b
  rcases q1 with q | ⟨_, q⟩
  · omega
  · rcases Nat.lt_or_eq_of_le q with z | z
    · exact z
    · exact absurd (by rw [ea, eb, z]) q2
theorem rowSt_mem {gs : List Sg} {l : Nat} {st : Stt} : st ∈ rowSt gs l ↔ ∃ g ∈ gs, g.ln = l ∧ stt g = st := by
  unfold rowSt
  rw [List.mem_map]
  constructor
  · rintro ⟨g, hg, e⟩
    have := List.mem_filter.mp hg
    exact ⟨g, (srt_perm gs).mem_iff.mp this.1, by simpa using this.2, e⟩
  · rintro ⟨g, hg, e1, e2⟩
    exact ⟨g, List.mem_filter.mpr ⟨(srt_perm gs).mem_iff.mpr hg, by simpa using e1⟩, e2⟩
/-! ### the groups of the sorted segments -/
def addN (g : Sg) : List (Nat × List Sg) → List (Nat × List Sg)
  | [] => [(g.ln, [g])]
  | (k, l) :: r => if k = g.ln then (k, l ++ [g]) :: r else (k, l) :: addN g r
def linesG (gs : List Sg) : List (Nat × List Sg) := gs.foldl (fun a g => addN g a) []
theorem linesG_snoc (gs : List Sg) (g : Sg) : linesG (gs ++ [g]) = addN g (linesG gs) := by simp [linesG]
theorem kAt_sg (g : Sg) : kAt 1 (sgD g) = (g.ln : Int) := by
  show (match (sgL g)[1]? with | some (.int k) => k | _ => 0) = _
  rw [sgL1]
def enc (p : Nat × List Sg) : Int × List D := ((p.1 : Int), p.2.map sgD)
theorem addG_enc (g : Sg) : ∀ a : List (Nat × List Sg), addG (kAt 1 (sgD g)) (sgD g) (a.map enc) = (addN g a).map enc
  | [] => by simp [addG, addN, enc, kAt_sg]
  | (k, l) :: r => by
    simp only [List.map_cons, addG, addN, enc]
    rw [kAt_sg]
    by_cases q : k = g.ln
    · rw [if_pos q, if_pos (by omega)]; simp [enc]
    · rw [if_neg q, if_neg (by omega)]
      have := addG_enc g r
      rw [kAt_sg] at this
      simp only [List.map_cons, enc, this]
theorem grp_enc (gs : List Sg) : grpD 1 (gs.map sgD) = (linesG gs).map enc := by
  unfold grpD linesG
  have : ∀ (gs : List Sg) (a : List (Nat × List Sg)), (gs.map sgD).foldl (fun g x => addG (kAt 1 x) x g) (a.map enc) = (gs.foldl (fun a g => addN g a) a).map enc := by
    intro gs
    induction gs with
    | nil => intro a; rfl
    | cons g gs ih =>
      intro a
      simp only [List.map_cons, List.foldl_cons]
      rw [addG_enc]
      exact ih _
  exact this gs []
/-- lines of sorted segments: in order, each with its segments -/
structure Lines (gs : List Sg) (L : List (Nat × List Sg)) : Prop where
  asc : (L.map (·.1)).Pairwise (· < ·)
  row : ∀ p ∈ L, p.2 = gs.filter (fun g => g.ln == p.1) ∧ p.2 ≠ []
  all : ∀ g ∈ gs, ∃ p ∈ L, p.1 = g.ln
theorem addN_mem {g : Sg} : ∀ {a : List (Nat × List Sg)}, (∃ p ∈ a, p.1 = g.ln) → (a.map (·.1)).Nodup → (addN g a).map (·.1) = a.map (·.1) ∧ ∀ p ∈ addN g a, ∃ q ∈ a, p.1 = q.1 ∧ p.2 = if q.1 = g.ln then q.2 ++ [g] else q.2
  | [], h, _ => by obtain ⟨p, hp, _⟩ := h; cases hp
  | (k, l) :: r, h, nd => by
    by_cases q : k = g.ln
    · simp only [addN]
      rw [if_pos q]
      refine ⟨rfl, fun p hp => ?_⟩
      rcases List.mem_cons.mp hp with z | z
      · exact ⟨(k, l), by simp, by rw [z], by rw [z, if_pos q]⟩
      · refine ⟨p, by simp [z], rfl, ?_⟩
        rw [if_neg]
        intro e
        have := (List.nodup_cons.mp nd).1
        exact this (by rw [q, ← e]; exact List.mem_map.mpr ⟨p, z, rfl⟩)
    · have h' : ∃ p ∈ r, p.1 = g.ln := by
        obtain ⟨p, hp, e⟩ := h
        rcases List.mem_cons.mp hp with z | z
        · rw [z] at e; exact absurd e q
        · exact ⟨p, z, e⟩
      obtain ⟨e1, e2⟩ := addN_mem h' (List.nodup_cons.mp nd).2
      simp only [addN]
      rw [if_neg q]
      refine ⟨by simp [e1], fun p hp => ?_⟩
      rcases List.mem_cons.mp hp with z | z
      · exact ⟨(k, l), by simp, by rw [z], by rw [z, if_neg q]⟩
      · obtain ⟨s, hs, z1, z2⟩ := e2 p z
        exact ⟨s, by simp [hs], z1, z2⟩
theorem addN_new {g : Sg} : ∀ {a : List (Nat × List Sg)}, (∀ p ∈ a, p.1 ≠ g.ln) → addN g a = a ++ [(g.ln, [g])]
  | [], _ => rfl
  | (k, l) :: r, h => by
    simp only [addN]
    rw [if_neg (h (k, l) (by simp)), addN_new fun p hp => h p (by simp [hp])]
    rfl
theorem lines_of : ∀ (m : Nat) (gs : List Sg), gs.length = m → gs.Pairwise (fun g h => lexB g h = true) → Lines gs (linesG gs) := by
  intro m
  induction m with
  | zero =>
    intro gs h _
    cases gs with
    | nil => exact ⟨by simp [linesG], by simp [linesG], by simp⟩
    | cons => cases h
  | succ m ih =>
    intro gs hm hs
    obtain ⟨gs', g, rfl⟩ : ∃ gs' g, gs = gs' ++ [g] := by
      refine ⟨gs.dropLast, gs.getLast (by intro z; rw [z] at hm; cases hm), (List.dropLast_concat_getLast _).symm⟩
    rw [List.length_append] at hm
    have hs2 := List.pairwise_append.mp hs
    have h := ih gs' (by simpa using hm) hs2.1
    have le : ∀ x ∈ gs', x.ln ≤ g.ln := fun x hx => by
      have := hs2.2.2 x hx g (by simp)
      simp only [lexB, decide_eq_true_eq] at this
      omega
    rw [linesG_snoc]
    have nd : ((linesG gs').map (·.1)).Nodup := h.asc.imp fun q => by omega
    by_cases hq : ∃ p ∈ linesG gs', p.1 = g.ln
    · obtain ⟨e1, e2⟩ := addN_mem hq nd
      refine ⟨by rw [e1]; exact h.asc, fun p hp => ?_, fun x hx => ?_⟩
      · obtain ⟨s, hs', z1, z2⟩ := e2 p hp
        obtain ⟨r1, r2⟩ := h.row s hs'
        rw [List.filter_append, z2, z1, ← r1]
        by_cases q : s.1 = g.ln
        · rw [if_pos q]
          have : [g].filter (fun g => g.ln == s.1) = [g] := by simp [q]
          rw [this]
          exact ⟨rfl, by simp⟩
        · rw [if_neg q]
          have : [g].filter (fun g => g.ln == s.1) = [] := by simp; omega
          rw [this, List.append_nil]
          exact ⟨rfl, r2⟩
      · rcases List.mem_append.mp hx with z | z
        · obtain ⟨p, hp, e⟩ := h.all x z
          have : p.1 ∈ (addN g (linesG gs')).map (·.1) := by rw [e1]; exact List.mem_map.mpr ⟨p, hp, rfl⟩
          obtain ⟨p2, hp2, e2⟩ := List.mem_map.mp this
          exact ⟨p2, hp2, e2.trans e⟩
        · rw [List.mem_singleton.mp z]
          obtain ⟨p, hp, e⟩ := hq
          have : p.1 ∈ (addN g (linesG gs')).map (·.1) := by rw [e1]; exact List.mem_map.mpr ⟨p, hp, rfl⟩
          obtain ⟨p2, hp2, e2⟩ := List.mem_map.mp this
          exact ⟨p2, hp2, e2.trans e⟩
    · have hno : ∀ p ∈ linesG gs', p.1 ≠ g.ln := fun p hp z => hq ⟨p, hp, z⟩
      rw [addN_new hno]
      have lt : ∀ p ∈ linesG gs', p.1 < g.ln := fun p hp => by
        obtain ⟨r1, r2⟩ := h.row p hp
        obtain ⟨x, hx⟩ := List.exists_mem_of_ne_nil _ r2
        rw [r1] at hx
        have z := List.mem_filter.mp hx
        have := le x z.1
        have e : x.ln = p.1 := by simpa using z.2
        have := hno p hp
        omega
      refine ⟨?_, fun p hp => ?_, fun x hx => ?_⟩
      · rw [List.map_append]
        refine List.pairwise_append.mpr ⟨h.asc, by simp, fun a ha b hb => ?_⟩
        obtain ⟨p, hp, rfl⟩ := List.mem_map.mp ha
        have : b = g.ln := by simpa using hb
        rw [this]; exact lt p hp
      · rcases List.mem_append.mp hp with z | z
        · obtain ⟨r1, r2⟩ := h.row p z
          have : [g].filter (fun g => g.ln == p.1) = [] := by
            have := hno p z
            simp; omega
          rw [List.filter_append, this, List.append_nil]
          exact ⟨r1, r2⟩
        · rw [List.mem_singleton.mp z]
          refine ⟨?_, by simp⟩
          have e0 : gs'.filter (fun x => x.ln == g.ln) = [] := by
            rw [List.filter_eq_nil_iff]
            intro x hx
            obtain ⟨p, hp, e⟩ := h.all x hx
            have := hno p hp
            simp; omega
          rw [List.filter_append, e0]
          simp
      · rcases List.mem_append.mp hx with z | z
        · obtain ⟨p, hp, e⟩ := h.all x z
          exact ⟨p, by simp [hp], e⟩
        · rw [List.mem_singleton.mp z]
          exact ⟨(g.ln, [g]), by simp, rfl⟩
/-- the lines that have segments -/
def ks (gs : List Sg) : List Nat := (linesG (srt gs)).map (·.1)
theorem lines_srt (gs : List Sg) : Lines (srt gs) (linesG (srt gs)) := lines_of _ _ rfl (srt_asc gs)
theorem ks_asc (gs : List Sg) : (ks gs).Pairwise (· < ·) := (lines_srt gs).asc
theorem ks_mem {gs : List Sg} {l : Nat} : l ∈ ks gs ↔ ∃ g ∈ gs, g.ln = l := by
  have h := lines_srt gs
  constructor
  · intro hl
    obtain ⟨p, hp, e⟩ := List.mem_map.mp hl
    obtain ⟨r1, r2⟩ := h.row p hp
    obtain ⟨x, hx⟩ := List.exists_mem_of_ne_nil _ r2
    rw [r1] at hx
    have z := List.mem_filter.mp hx
    exact ⟨x, (srt_perm gs).mem_iff.mp z.1, by have := z.2; simp at this; omega⟩
  · rintro ⟨g, hg, e⟩
    obtain ⟨p, hp, e2⟩ := h.all g ((srt_perm gs).mem_iff.mpr hg)
    exact List.mem_map.mpr ⟨p, hp, e2.trans e⟩
theorem ks_none {gs : List Sg} {l : Nat} (h : l ∉ ks gs) : rowSt gs l = [] := by
  unfold rowSt
  rw [List.map_eq_nil_iff, List.filter_eq_nil_iff]
  intro g hg e
  exact h (ks_mem.mpr ⟨g, (srt_perm gs).mem_iff.mp hg, by simpa using e⟩)
theorem addN_len (g : Sg) : ∀ a : List (Nat × List Sg), (addN g a).length ≤ a.length + 1
  | [] => by simp [addN]
  | (k, l) :: r => by
    have := addN_len g r
    simp only [addN]
    split
    · simp
    · simp only [List.length_cons]; omega
theorem linesG_len (gs : List Sg) : (linesG gs).length ≤ gs.length := by
  have : ∀ (gs : List Sg) (a : List (Nat × List Sg)), (gs.foldl (fun a g => addN g a) a).length ≤ a.length + gs.length := by
    intro gs
    induction gs with
    | nil => intro a; simp
    | cons g gs ih =>
      intro a
      have h1 := ih (addN g a)
      have := addN_len g a
      simp only [List.foldl_cons, List.length_cons]
      omega
  have := this gs []
  simpa [linesG] using this
theorem ks_len {gs : List Sg} : (ks gs).length ≤ gs.length := by
  unfold ks
  rw [List.length_map]
  have := linesG_len (srt gs)
  rw [(srt_perm gs).length_eq] at this
  exact this
/-- what the program makes of segments line by line -/
theorem lines_rows (gs : List Sg) : (linesG (srt gs)).map (fun p => (p.1, p.2.map stt)) = (ks gs).map fun l => (l, rowSt gs l) := by
  unfold ks
  rw [List.map_map]
  refine List.map_congr_left fun p hp => ?_
  obtain ⟨r1, _⟩ := (lines_srt gs).row p hp
  show (p.1, p.2.map stt) = (p.1, rowSt gs p.1)
  unfold rowSt
  rw [← r1]
/-! ### rows of pieces -/
abbrev Rows := List (Nat × List Pc)
def rowsOf (L : List (Nat × List Stt)) : Rows := (L.map fun p => (p.1, few p.2)).filter fun p => !p.2.isEmpty
def rowsG (gs : List Sg) : Rows := rowsOf ((ks gs).map fun l => (l, rowSt gs l))
abbrev rowD (p : Nat × List Pc) : Key × D := (Sum.inl (p.1 : Int), .tup (p.2.map fun q => sgD (pcS p.1 q)))
def allP (R : Rows) : List Sg := (R.map fun p => p.2.map (pcS p.1)).flatten
def rowAt (R : Rows) (l : Nat) : List Pc := ((R.find? fun p => p.1 == l).map (·.2)).getD []
def tot (R : Rows) : Nat := (R.map fun p => p.2.length).sum
theorem allP_len (R : Rows) : (allP R).length = tot R := by
  unfold allP tot
  rw [List.length_flatten, List.map_map]
  congr 1
  exact List.map_congr_left fun p _ => by simp
abbrev mapF (R : Rows) : List (Str × D) := [("_rows", .fdc (R.map rowD)), ("_pieces", .tup ((allP R).map sgD))]
theorem rowAt_G {gs : List Sg} (l : Nat) : rowAt (rowsG gs) l = few (rowSt gs l) := by
  unfold rowAt rowsG rowsOf
  rw [List.map_map]
  have key : ∀ K : List Nat, ((((K.map ((fun p : Nat × List Stt => (p.1, few p.2)) ∘ fun l => (l, rowSt gs l))).filter fun p => !p.2.isEmpty).find? fun p => p.1 == l).map (·.2)).getD [] = if l ∈ K then few (rowSt gs l) else [] := by
    intro K
    induction K with
    | nil => rfl
    | cons k K ih =>
      rw [List.map_cons, List.filter_cons]
      show ((((if (!(few (rowSt gs k)).isEmpty) = true then _ else _) : Rows).find? _).map _).getD [] = _
      by_cases q : l = k
      · subst q
        rw [if_pos (List.mem_cons_self)]
        by_cases e : few (rowSt gs l) = []
        · rw [if_neg (by simp [e]), ih, e]; split <;> rfl
        · rw [if_pos (by simpa using e), List.find?_cons]
          simp
      · have hm : (l ∈ k :: K) ↔ l ∈ K := by simp [q]
        simp only [hm]
        split
        · rw [List.find?_cons]
          have : ((k, few (rowSt gs k)).1 == l) = false := by simp; omega
          show ((match (k == l) with | true => _ | false => _ : Option (Nat × List Pc)).map _).getD [] = _
          rw [show (k == l) = false by simp; omega]
          exact ih
        · exact ih
  rw [key]
  split
  · rfl
  · rename_i h
    rw [ks_none h]; rfl
theorem tot_G (gs : List Sg) : tot (rowsG gs) = ((ks gs).map fun l => (few (rowSt gs l)).length).sum := by
  unfold tot rowsG rowsOf
  rw [List.map_map]
  generalize ks gs = K
  induction K with
  | nil => rfl
  | cons k K ih =>
    rw [List.map_cons, List.filter_cons, List.map_cons, List.sum_cons]
    show ((if (!(few (rowSt gs k)).isEmpty) = true then _ else _ : Rows).map _).sum = _
    by_cases e : few (rowSt gs k) = []
    · rw [if_neg (by simp [e]), ih, e]; simp
    · rw [if_pos (by simpa using e), List.map_cons, List.sum_cons, ih]; rfl
/-! ### values by the law's walk -/
def bet : Option Sg → Sg → Bool
  | none, _ => true
  | some h, g => decide (h.b < g.b)
def best (gs : List Sg) (l c : Nat) : Option Sg := gs.foldl (fun a g => if g.ln = l ∧ g.b ≤ c ∧ bet a g = true then some g else a) none
def tol (gs : List Sg) (l c : Nat) : Option Tg := match best gs l c with
  | none => none
  | some g => tv g.td (c - g.b)
theorem best_snoc (gs : List Sg) (g : Sg) (l c : Nat) : best (gs ++ [g]) l c = if g.ln = l ∧ g.b ≤ c ∧ bet (best gs l c) g = true then some g else best gs l c := by
  unfold best
  rw [List.foldl_append]
  rfl
theorem best_is : ∀ (m : Nat) (gs : List Sg), gs.length = m → ∀ l c, (match best gs l c with
    | none => ∀ g ∈ gs, g.ln = l → c < g.b
    | some h => h ∈ gs ∧ h.ln = l ∧ h.b ≤ c ∧ ∀ g ∈ gs, g.ln = l → g.b ≤ c → g.b ≤ h.b) := by
  intro m
  induction m with
  | zero =>
    intro gs h l c
    cases gs with
    | nil => simp [best]
    | cons => cases h
  | succ m ih =>
    intro gs hm l c
    obtain ⟨gs', g, rfl⟩ : ∃ gs' g, gs = gs' ++ [g] := ⟨gs.dropLast, gs.getLast (by intro z; rw [z] at hm; cases hm), (List.dropLast_concat_getLast _).symm⟩
    have h := ih gs' (by simpa using hm) l c
    rw [best_snoc]
    cases hb : best gs' l c with
    | none =>
      rw [hb] at h
      simp only at h
      by_cases q : g.ln = l ∧ g.b ≤ c
      · rw [if_pos ⟨q.1, q.2, rfl⟩]
        refine ⟨by simp, q.1, q.2, fun x hx e1 e2 => ?_⟩
        rcases List.mem_append.mp hx with z | z
        · have := h x z e1; omega
        · rw [List.mem_singleton.mp z]; exact Nat.le_refl _
      · rw [if_neg (fun z => q ⟨z.1, z.2.1⟩)]
        intro x hx e1
        rcases List.mem_append.mp hx with z | z
        · exact h x z e1
        · rw [List.mem_singleton.mp z] at e1 ⊢
          exact Nat.lt_of_not_le fun z2 => q ⟨e1, z2⟩
    | some b =>
      rw [hb] at h
      simp only at h
      obtain ⟨h1, h2, h3, h4⟩ := h
      by_cases q : g.ln = l ∧ g.b ≤ c ∧ b.b < g.b
      · rw [if_pos ⟨q.1, q.2.1, by simp only [bet, decide_eq_true_eq]; exact q.2.2⟩]
        refine ⟨by simp, q.1, q.2.1, fun x hx e1 e2 => ?_⟩
        rcases List.mem_append.mp hx with z | z
        · have := h4 x z e1 e2; omega
        · rw [List.mem_singleton.mp z]; exact Nat.le_refl _
      · rw [if_neg (fun z => q ⟨z.1, z.2.1, by have := z.2.2; simp only [bet, decide_eq_true_eq] at this; exact this⟩)]
        refine ⟨by simp [h1], h2, h3, fun x hx e1 e2 => ?_⟩
        rcases List.mem_append.mp hx with z | z
        · exact h4 x z e1 e2
        · rw [List.mem_singleton.mp z] at e1 e2 ⊢
          exact Nat.le_of_not_lt fun z2 => q ⟨e1, e2, z2⟩
theorem at_is {xs : List Stt} (ha : Asc xs) (c : Nat) : (match at_ xs c with
    | none => ∀ st ∈ xs, c < st.1
    | some s => s ∈ xs ∧ s.1 ≤ c ∧ ∀ st ∈ xs, st.1 ≤ c → st.1 ≤ s.1) := by
  induction xs with
  | nil => show ∀ st ∈ ([] : List Stt), _; simp
  | cons x r ih =>
    have h := ih (List.pairwise_cons.mp ha).2
    have lt : ∀ st ∈ r, x.1 < st.1 := fun st hs => (List.pairwise_cons.mp ha).1 st.1 (List.mem_map.mpr ⟨st, hs, rfl⟩)
    simp only [at_]
    cases q : at_ r c with
    | some s =>
      rw [q] at h
      obtain ⟨h1, h2, h3⟩ := h
      refine ⟨by simp [h1], h2, fun st hs e => ?_⟩
      rcases List.mem_cons.mp hs with z | z
      · rw [z]; exact Nat.le_of_lt (lt s h1)
      · exact h3 st z e
    | none =>
      rw [q] at h
      simp only at h ⊢
      by_cases e : x.1 ≤ c
      · rw [if_pos e]
        refine ⟨by simp, e, fun st hs e2 => ?_⟩
        rcases List.mem_cons.mp hs with z | z
        · rw [z]; exact Nat.le_refl _
        · have := h st z; omega
      · rw [if_neg e]
        intro st hs
        rcases List.mem_cons.mp hs with z | z
        · rw [z]; omega
        · exact h st z
theorem nd_inj {α β : Type} (f : α → β) : ∀ {l : List α}, (l.map f).Nodup → ∀ {x y : α}, x ∈ l → y ∈ l → f x = f y → x = y
  | [], _, _, _, hx, _, _ => by cases hx
  | a :: l, h, x, y, hx, hy, e => by
    have h' := List.nodup_cons.mp h
    rcases List.mem_cons.mp hx with z1 | z1 <;> rcases List.mem_cons.mp hy with z2 | z2
    · rw [z1, z2]
    · subst z1; exact absurd (by rw [e]; exact List.mem_map.mpr ⟨y, z2, rfl⟩) h'.1
    · subst z2; exact absurd (by rw [← e]; exact List.mem_map.mpr ⟨x, z1, rfl⟩) h'.1
    · exact nd_inj f h'.2 z1 z2 e
theorem tol_val {gs : List Sg} (h : KeyNd gs) (l c : Nat) : tol gs l c = val (rowSt gs l) c := by
  have h1 := best_is _ gs rfl l c
  have h2 := at_is (rowSt_asc h l) c
  unfold tol val
  cases q1 : best gs l c with
  | none =>
    rw [q1] at h1
    cases q2 : at_ (rowSt gs l) c with
    | none => rfl
    | some s =>
      rw [q2] at h2
      obtain ⟨g, hg, e1, e2⟩ := rowSt_mem.mp h2.1
      have := h1 g hg e1
      have := h2.2.1
      rw [← e2] at this
      simp only at this
      omega
  | some g =>
    rw [q1] at h1
    obtain ⟨a1, a2, a3, a4⟩ := h1
    cases q2 : at_ (rowSt gs l) c with
    | none =>
      rw [q2] at h2
      have := h2 (stt g) (rowSt_mem.mpr ⟨g, a1, a2, rfl⟩)
      simp only at this
      omega
    | some s =>
      rw [q2] at h2
      obtain ⟨b1, b2, b3⟩ := h2
      obtain ⟨g', hg', e1, e2⟩ := rowSt_mem.mp b1
      have z1 := b3 (stt g) (rowSt_mem.mpr ⟨g, a1, a2, rfl⟩) a3
      have z2 := a4 g' hg' e1 (by rw [← e2] at b2; exact b2)
      have e3 : g' = g := nd_inj _ h hg' a1 (by
        rw [← e2] at z1
        simp only at z1
        show (g'.ln, g'.b) = (g.ln, g.b)
        rw [e1, a2, show g'.b = g.b by omega])
      rw [← e2, e3]
def top (gs : List Sg) (l : Nat) : Nat := (gs.filter fun g => g.ln == l).foldl (fun a g => max a (g.b + 1)) 0
theorem foldl_max (gs : List Sg) : ∀ a : Nat, a ≤ gs.foldl (fun a g => max a (g.b + 1)) a ∧ ∀ g ∈ gs, g.b + 1 ≤ gs.foldl (fun a g => max a (g.b + 1)) a := by
  induction gs with
  | nil => intro a; simp
  | cons g gs ih =>
    intro a
    obtain ⟨h1, h2⟩ := ih (max a (g.b + 1))
    refine ⟨by simp only [List.foldl_cons]; omega, fun x hx => ?_⟩
    simp only [List.foldl_cons]
    rcases List.mem_cons.mp hx with z | z
    · rw [z]; omega
    · exact h2 x z
theorem top_ge {gs : List Sg} {l : Nat} {g : Sg} (hg : g ∈ gs) (e : g.ln = l) : g.b + 1 ≤ top gs l := (foldl_max _ 0).2 g (List.mem_filter.mpr ⟨hg, by simpa using e⟩)
theorem top_row {gs : List Sg} {l : Nat} : ∀ st ∈ rowSt gs l, st.1 + 3 ≤ top gs l + 4 := fun st hs => by
  obtain ⟨g, hg, e1, e2⟩ := rowSt_mem.mp hs
  have := top_ge hg e1
  rw [← e2]
  show g.b + 3 ≤ _
  omega
end MP

/-! Rules over typed data; comparisons of targets. -/
namespace DL
open PySem L2 StX
section
variable {K : PySem.W.Frag} [Tb K] {Z : ZX} {ds : DS} {n : Nat} {P : D → Nat → Prop} {g : TG} {tt : TT} {te tk tv : TE}
theorem Wi_imp {wi : TI} {ds : DS} {n : Nat} {P P' : List D → Nat → Prop} (h : Wi K Z wi ds n P) (i : ∀ xs m, P xs m → P' xs m) : Wi K Z wi ds n P' := fun b u σ R e S k => h b u σ R e S fun J xs u' G Y g s p w a c => k J xs u' G Y g s (i _ _ p) w a c
theorem Wgc_imp {g : TG} {js : List Nat} {x : D} {ds : DS} {P P' : DS → Prop} (h : Wgc K Z g js x ds P) (i : ∀ d, P d → P' d) : Wgc K Z g js x ds P' := fun b u σ v Q S r k => h b u σ v Q S r fun ds' σ' S' l f p => k ds' σ' S' l f (i _ p)
theorem Wt.imp {P P' : Bool → Nat → Prop} (h : Wt K Z tt ds n P) (i : ∀ c m, P c m → P' c m) : Wt K Z tt ds n P' := fun b u σ Q e S k => h b u σ Q e S fun c u' g s p => k c u' g s (i _ _ p)
/-- a comprehension over typed data -/
theorem lct_core {α : Type} {enc : α → D} {out : α → Option D} {l : List α} {m : Nat} {vs : List Nat} (hl : l.length ≤ 1000000)
    (hs : ∀ x, x ∈ l → Wgc K Z g vs (enc x) (wipeD ds vs) fun ds2 => Wt K Z tt ds2 m fun c j => j = m ∧ if c = true then We K Z te ds2 m (fun y k => k = m ∧ out x = some y) else out x = none) :
    ∃ Iv : Nat → List D → Nat → Prop, Iv 0 [] m ∧
    (∀ i x ys k, (l.map enc)[i]? = some x → Iv i ys k → Wgc K Z g vs x (wipeD ds vs) fun ds2 => Wt K Z tt ds2 k fun c j => if c = true then We K Z te ds2 j (fun y l => ys.length < 1000000 ∧ Iv (i + 1) (ys ++ [y]) l) else Iv (i + 1) ys j) ∧
    (∀ ys k, Iv (l.map enc).length ys k → k = m ∧ ys = l.filterMap out) := by
  refine ⟨fun i ys k => k = m ∧ ys = (l.take i).filterMap out ∧ i ≤ l.length, ⟨rfl, by simp, Nat.zero_le _⟩, fun i x ys k hx ⟨ek, ey, hi0⟩ => ?_, fun ys k ⟨ek, ey, _⟩ => ⟨ek, by rw [ey, List.length_map, List.take_length]⟩⟩
  subst ek ey
  rw [List.getElem?_map] at hx
  obtain ⟨x, hx', rfl⟩ := Option.map_eq_some_iff.mp hx
  clear hx
  have hx := hx'
  have hi : i < l.length := (List.getElem?_eq_some_iff.mp hx).1
  have et : l.take (i + 1) = l.take i ++ [x] := by rw [List.take_add_one, hx]; rfl
  refine Wgc_imp (hs x (List.mem_of_getElem? hx)) fun ds2 q => q.imp fun c j ⟨ej, q⟩ => ?_
  subst ej
  cases c with
  | false =>
    rw [if_neg Bool.false_ne_true] at q ⊢
    exact ⟨rfl, by rw [et, List.filterMap_append]; simp [q], by omega⟩
  | true =>
    rw [if_pos rfl] at q ⊢
    refine q.imp fun y k ⟨ek, ey⟩ => ?_
    subst ek
    refine ⟨?_, rfl, by rw [et, List.filterMap_append]; simp [ey], by omega⟩
    have := List.length_filterMap_le out (l.take i)
    rw [List.length_take] at this
    omega
theorem we_lct {α : Type} (enc : α → D) (out : α → Option D) (l : List α) {wi : TI} {vs : List Nat} (h : Wi K Z wi ds n fun xs m => xs = l.map enc ∧ l.length ≤ 1000000 ∧
    (∀ x, x ∈ l → Wgc K Z g vs (enc x) (wipeD ds vs) fun ds2 => Wt K Z tt ds2 m fun c j => j = m ∧ if c = true then We K Z te ds2 m (fun y k => k = m ∧ out x = some y) else out x = none) ∧ P (.lst (l.filterMap out)) m) : We K Z (tLc wi g tt te vs) ds n P :=
  we_lc (Wi_imp h fun xs m ⟨hx, hl, hs, hp⟩ => by
    subst hx
    obtain ⟨Iv, a, b, c⟩ := lct_core hl hs
    exact ⟨Iv, a, b, fun ys k q => by obtain ⟨rfl, rfl⟩ := c ys k q; exact hp⟩)
/-- .. without a test, all kept -/
theorem we_lcm {α : Type} (enc : α → D) (out : α → D) (l : List α) {wi : TI} {vs : List Nat} (h : Wi K Z wi ds n fun xs m => xs = l.map enc ∧ l.length ≤ 1000000 ∧
    (∀ x, x ∈ l → Wgc K Z g vs (enc x) (wipeD ds vs) fun ds2 => We K Z te ds2 m (fun y k => k = m ∧ y = out x)) ∧ P (.lst (l.map out)) m) : We K Z (tLc wi g tYes te vs) ds n P :=
  we_lct enc (fun x => some (out x)) l (Wi_imp h fun xs m ⟨hx, hl, hs, hp⟩ => ⟨hx, hl, fun x hxl => Wgc_imp (hs x hxl) fun ds2 q => wt_yes ⟨rfl, by rw [if_pos rfl]; exact q.imp fun y k ⟨a, b⟩ => ⟨a, by rw [b]⟩⟩, by rw [List.filterMap_eq_map']; exact hp⟩)
theorem wx_dct {α : Type} (enc : α → D) (key : α → Key) (out : α → Option D) (l : List α) {wi : TI} {vs : List Nat} (h : Wi K Z wi ds n fun xs m => xs = l.map enc ∧ l.length ≤ 1000000 ∧ (l.map key).Nodup ∧
    (∀ x, x ∈ l → Wgc K Z g vs (enc x) (wipeD ds vs) fun ds2 => Wt K Z tt ds2 m fun c j => j = m ∧ if c = true then We K Z tk ds2 m (fun y k => k = m ∧ keyD y (key x) ∧ We K Z tv ds2 m (fun z q => q = m ∧ out x = some z)) else out x = none) ∧
    P (.mdk (l.filterMap fun x => (out x).map fun z => (key x, z))) m) : Wx K Z (tDc wi g tt tk tv vs) ds n P :=
  wx_dc (Wi_imp h fun xs m ⟨hx, hl, hnd, hs, hp⟩ => by
    subst hx
    refine ⟨fun i ys k => k = m ∧ ys = (l.take i).filterMap (fun x => (out x).map fun z => (key x, z)) ∧ i ≤ l.length, ⟨rfl, by simp, Nat.zero_le _⟩, fun i x ys k hx ⟨ek, ey, hi0⟩ => ?_, fun ys k ⟨ek, ey, _⟩ => by subst ek ey; rw [List.length_map, List.take_length]; exact hp⟩
    subst ek ey
    rw [List.getElem?_map] at hx
    obtain ⟨x, hx', rfl⟩ := Option.map_eq_some_iff.mp hx
    clear hx
    have hx := hx'
    have hi : i < l.length := (List.getElem?_eq_some_iff.mp hx).1
    have et : l.take (i + 1) = l.take i ++ [x] := by rw [List.take_add_one, hx]; rfl
    refine Wgc_imp (hs x (List.mem_of_getElem? hx)) fun ds2 q => q.imp fun c j ⟨ej, q⟩ => ?_
    subst ej
    cases c with
    | false =>
      rw [if_neg Bool.false_ne_true] at q ⊢
      exact ⟨rfl, by rw [et, List.filterMap_append]; simp [q], by omega⟩
    | true =>
      rw [if_pos rfl] at q ⊢
      refine q.imp fun y k ⟨ek, hk, q2⟩ => ?_
      subst ek
      refine q2.imp fun z k2 ⟨ek2, ez⟩ => ?_
      subst ek2
      refine ⟨?_, key x, hk, fun p hp => ?_, rfl, by rw [et, List.filterMap_append]; simp [ez], by omega⟩
      · have := List.length_filterMap_le (fun x => (out x).map fun z => (key x, z)) (l.take i)
        rw [List.length_take] at this
        omega
      · obtain ⟨x2, hx2, e2⟩ := List.mem_filterMap.mp hp
        obtain ⟨z2, _, rfl⟩ := Option.map_eq_some_iff.mp e2
        show key x2 ≠ key x
        intro e
        have hnd2 := hnd
        rw [← List.take_append_drop i l, List.map_append, List.nodup_append] at hnd2
        have hdq : x ∈ l.drop i := by
          rw [List.mem_iff_getElem?]
          exact ⟨0, by rw [List.getElem?_drop]; simpa using hx⟩
        exact hnd2.2.2 _ (List.mem_map.mpr ⟨x2, hx2, rfl⟩) _ (List.mem_map.mpr ⟨x, hdq, rfl⟩) e)
/-- a loop over typed data -/
theorem ws_fort {α : Type} (enc : α → D) (l : List α) {wi : TI} {tb : TS} {N : Nd} (h : Wi K Z wi ds n fun xs m => xs = l.map enc ∧ ∃ Iv : Nat → DS → Nat → Prop, Iv 0 ds m ∧
    (∀ i x ds' k, l[i]? = some x → Iv i ds' k → Wg K Z g (enc x) ds' fun ds2 => Ws K Z tb ds2 k { nx := Iv (i + 1), rt := N.rt, bk := N.nx, ct := Iv (i + 1) }) ∧ (∀ ds' k, Iv l.length ds' k → N.nx ds' k)) : Ws K Z (tFor wi g tb) ds n N :=
  ws_for (Wi_imp h fun xs m ⟨hx, Iv, a, b, c⟩ => by
    subst hx
    refine ⟨Iv, a, fun i x ds' k hx iv => ?_, fun ds' k iv => c ds' k (by rwa [List.length_map] at iv)⟩
    rw [List.getElem?_map] at hx
    obtain ⟨x, hx', rfl⟩ := Option.map_eq_some_iff.mp hx
    clear hx
    have hx := hx'
    exact b i x ds' k hx iv)
theorem rng0_map (n : Nat) : rng 0 n = (List.range n).map fun (i : Nat) => D.int (i : Int) := by
  unfold rng
  exact List.map_congr_left fun i _ => by simp
theorem enumD_map {α : Type} (enc : α → D) (l : List α) : enumD (l.map enc) = (l.zipIdx).map fun p => D.tup [.int (p.2 : Nat), enc p.1] := by
  apply List.ext_getElem?
  intro i
  unfold enumD
  rw [List.getElem?_zipWith, List.getElem?_map, List.getElem?_map, List.getElem?_zipIdx]
  cases q : l[i]? with
  | none => simp
  | some x =>
    have hi : i < l.length := (List.getElem?_eq_some_iff.mp q).1
    simp [hi]
end
end DL
namespace MP
open PySem L2 DL
def lmD : Option Nat → D
  | none => .non
  | some l => .int (l : Nat)
theorem mut_lm (l : Option Nat) : isMut (lmD l) = false := by cases l <;> rfl
theorem nonD_lm (l : Option Nat) : isNonD (lmD l) = decide (l = none) := by cases l <;> rfl
theorem lm_some (l : Nat) : lmD (some l) = .int (l : Nat) := rfl
theorem td_some (r : Bool) (t : Tg) : tdD (some (r, t)) = .tup [.str (kD r), .str t.s, .int (t.l : Nat), .int (t.c : Nat), wD t.w] := rfl
theorem tg_some (t : Tg) : tgO (some t) = .tup [.str t.s, .int (t.l : Nat), .int (t.c : Nat), wD t.w] := rfl
theorem w_some (x : Str) : wD (some x) = .str x := rfl
theorem mut_td (t : Td) : isMut (tdD t) = false := by
  match t with
  | none => rfl
  | some (r, t) => rfl
theorem mut_tg (t : Option Tg) : isMut (tgO t) = false := by cases t <;> rfl
theorem mut_w (t : Option Str) : isMut (wD t) = false := by cases t <;> rfl
def wP : Option Str → PyData
  | none => .none
  | some x => .str x
def tgP : Option Tg → PyData
  | none => .none
  | some t => .tuple [.str t.s, .int (t.l : Nat), .int (t.c : Nat), wP t.w]
theorem pd_w (w : Option Str) : pd (wD w) = some (wP w) := by cases w <;> rfl
theorem pd_tg (t : Option Tg) : pd (tgO t) = some (tgP t) := by
  cases t with
  | none => rfl
  | some t => simp only [tgO, tgD, pd, pds, pd_w, tgP]; rfl
theorem plain_w (w : Option Str) : (wP w).plain = true := by cases w <;> rfl
theorem plain_tg (t : Option Tg) : (tgP t).plain = true := by
  cases t with
  | none => rfl
  | some t => simp [tgP, PyData.plain, PyData.plainAll, plain_w]
theorem depth_w (w : Option Str) : (wP w).depth ≤ 1 := by cases w <;> simp [wP, PyData.depth]
theorem depth_tg (t : Option Tg) : (tgP t).depth ≤ 3 := by
  cases t with
  | none => simp [tgP, PyData.depth]
  | some t =>
    have := depth_w t.w
    simp [tgP, PyData.depth, PyData.depthAll]
    omega
theorem eqv_w (a b : Option Str) : PyData.eqv (wP a) (wP b) = decide (a = b) := by
  cases a <;> cases b <;> simp [wP, PyData.eqv, b_eq]
theorem eqv_tg (a b : Option Tg) : PyData.eqv (tgP a) (tgP b) = decide (a = b) := by
  cases a <;> cases b
  · rfl
  · simp [tgP, PyData.eqv]
  · simp [tgP, PyData.eqv]
  · rename_i a b
    obtain ⟨s, l, c, w⟩ := a
    obtain ⟨s', l', c', w'⟩ := b
    simp only [tgP, PyData.eqv, PyData.eqvAll, eqv_w, b_eq, Bool.and_true, Option.some.injEq, Tg.mk.injEq]
    rw [Bool.eq_iff_iff]
    simp only [Bool.and_eq_true, decide_eq_true_eq, Int.natCast_inj]
section
variable {K : PySem.W.Frag} [Tb K] {P : D → Prop}
theorem eq_tg {a b : Option Tg} (h : P (.bl (decide (a = b)))) : Op K (rEqP K) (tgO a) (tgO b) P := eqP (pd_tg a) (pd_tg b) (plain_tg a) (plain_tg b) (Nat.le_trans (depth_tg a) (by decide)) (by rw [eqv_tg]; exact h)
theorem ne_tg {a b : Option Tg} (h : P (.bl (!decide (a = b)))) : Op K (rNeP K) (tgO a) (tgO b) P := neP (pd_tg a) (pd_tg b) (plain_tg a) (plain_tg b) (Nat.le_trans (depth_tg a) (by decide)) (by rw [eqv_tg]; exact h)
end
theorem nonD_tg (t : Option Tg) : isNonD (tgO t) = decide (t = none) := by cases t <;> rfl
theorem nonD_td (t : Td) : isNonD (tdD t) = decide (t = none) := by
  match t with
  | none => rfl
  | some (r, t) => rfl
theorem nonD_w (t : Option Str) : isNonD (wD t) = decide (t = none) := by cases t <;> rfl
theorem k_gr : ¬ (Str.ofString "gap" = Str.ofString "run") := by decide +kernel
theorem k_pr : ¬ (Str.ofString "point" = Str.ofString "run") := by decide +kernel
theorem k_rp : ¬ (Str.ofString "run" = Str.ofString "point") := by decide +kernel
theorem k_pg : ¬ (Str.ofString "point" = Str.ofString "gap") := by decide +kernel
theorem k_rg : ¬ (Str.ofString "run" = Str.ofString "gap") := by decide +kernel
theorem kD_pt (r : Bool) : decide (kD r = Str.ofString "point") = !r := by
  cases r
  · exact decide_eq_true rfl
  · exact decide_eq_false k_rp
theorem kD_run (r : Bool) : decide (kD r = Str.ofString "run") = r := by
  cases r
  · exact decide_eq_false k_pr
  · exact decide_eq_true rfl
theorem kD_gap (r : Bool) : decide (kD r = Str.ofString "gap") = false := by
  cases r
  · exact decide_eq_false k_pg
  · exact decide_eq_false k_rg
theorem kN_run (k : Nat) (h : k = 0 ∨ k = 1 ∨ k = 2) : decide (kN k = Str.ofString "run") = decide (k = 1) := by
  rcases h with rfl | rfl | rfl
  · exact decide_eq_false k_gr
  · exact decide_eq_true rfl
  · exact decide_eq_false k_pr
end MP
namespace MP
open PySem L2 DL
/-- the columns of the first i stretches -/
def colsP (xs : List Stt) : Nat → List (Nat × Option Tg)
  | 0 => []
  | i + 1 => colsP xs i ++ (match xs[i]?, xs[i + 1]? with
    | some x, some y => (List.range (min 3 (y.1 - x.1))).map fun q => (x.1 + q, tv x.2 q)
    | some x, none => (List.range 3).map fun q => (x.1 + q, tv x.2 q)
    | none, _ => [])
theorem colsP_next {xs : List Stt} {i b b' : Nat} {td td' : Td} (h1 : xs[i]? = some (b, td)) (h2 : xs[i + 1]? = some (b', td')) : colsP xs (i + 1) = colsP xs i ++ (List.range (min 3 (b' - b))).map fun q => (b + q, tv td q) := by
  conv => lhs; unfold colsP
  rw [h1, h2]
theorem colsP_last {xs : List Stt} {i b : Nat} {td : Td} (h1 : xs[i]? = some (b, td)) (h2 : xs.length = i + 1) : colsP xs (i + 1) = colsP xs i ++ (List.range 3).map fun q => (b + q, tv td q) := by
  conv => lhs; unfold colsP
  rw [h1, List.getElem?_eq_none (by omega : xs.length ≤ i + 1)]
theorem colsP_len (xs : List Stt) : ∀ i, (colsP xs i).length ≤ 3 * i
  | 0 => by simp [colsP]
  | i + 1 => by
    have := colsP_len xs i
    unfold colsP
    rw [List.length_append]
    have h2 : ∀ z : List (Nat × Option Tg), z = (match xs[i]?, xs[i + 1]? with
      | some x, some y => (List.range (min 3 (y.1 - x.1))).map fun q => (x.1 + q, tv x.2 q)
      | some x, none => (List.range 3).map fun q => (x.1 + q, tv x.2 q)
      | none, _ => []) → z.length ≤ 3 := by
      intro z hz
      rw [hz]
      cases xs[i]? with
      | none => simp
      | some x =>
        cases xs[i + 1]? with
        | none => simp
        | some y => simp; omega
    have := h2 _ rfl
    omega
theorem colsP_cons (x : Stt) (y : Stt) (r : List Stt) : ∀ i, colsP (x :: y :: r) (i + 1) = ((List.range (min 3 (y.1 - x.1))).map fun q => (x.1 + q, tv x.2 q)) ++ colsP (y :: r) i
  | 0 => by simp [colsP]
  | i + 1 => by
    have := colsP_cons x y r i
    rw [show colsP (x :: y :: r) (i + 1 + 1) = colsP (x :: y :: r) (i + 1) ++ (match (x :: y :: r)[i + 1]?, (x :: y :: r)[i + 1 + 1]? with
      | some x, some y => (List.range (min 3 (y.1 - x.1))).map fun q => (x.1 + q, tv x.2 q)
      | some x, none => (List.range 3).map fun q => (x.1 + q, tv x.2 q)
      | none, _ => []) from rfl, this, List.append_assoc]
    rfl
theorem colsP_all : ∀ xs : List Stt, colsP xs xs.length = cols xs
  | [] => rfl
  | [(b, td)] => by simp [colsP, cols]
  | (b, td) :: (b', td') :: r => by
    have := colsP_all ((b', td') :: r)
    show colsP _ (((b', td') :: r).length + 1) = _
    rw [colsP_cons, this]
    rfl
theorem asc_at {xs : List Stt} (ha : Asc xs) {i j : Nat} {x y : Stt} (h1 : xs[i]? = some x) (h2 : xs[j]? = some y) (h : i < j) : x.1 < y.1 := by
  have h3 : (xs.map (·.1))[i]? = some x.1 := by rw [List.getElem?_map, h1]; rfl
  have h4 : (xs.map (·.1))[j]? = some y.1 := by rw [List.getElem?_map, h2]; rfl
  obtain ⟨l1, e1⟩ := List.getElem?_eq_some_iff.mp h3
  obtain ⟨l2, e2⟩ := List.getElem?_eq_some_iff.mp h4
  have := List.pairwise_iff_getElem.mp ha i j l1 l2 h
  rw [e1, e2] at this
  exact this
end MP
namespace MP
open PySem L2 DL
theorem sl_td {K : PySem.W.Frag} [Tb K] {P : D → Prop} {r : Bool} {t : Tg} (h : P (tgO (some t))) : Sl K (rSlU K) (tdD (some (r, t))) (some 1) none P := sl_tup (xs := [.str (kD r), .str t.s, .int (t.l : Nat), .int (t.c : Nat), wD t.w]) h
end MP

namespace DL
open PySem L2 StX
theorem pdsm {α : Type} (f : α → D) (g : α → PyData) (h : ∀ a, pd (f a) = some (g a)) : ∀ l : List α, pds (l.map f) = some (l.map g)
  | [] => rfl
  | a :: l => by rw [List.map_cons, List.map_cons, pds, h, pdsm f g h l]; rfl
theorem plainm {α : Type} (g : α → PyData) (h : ∀ a, (g a).plain = true) : ∀ l : List α, PyData.plainAll (l.map g) = true
  | [] => rfl
  | a :: l => by rw [List.map_cons, PyData.plainAll, h, plainm g h l]; rfl
theorem depthm {α : Type} (g : α → PyData) (k : Nat) (h : ∀ a, (g a).depth ≤ k) : ∀ l : List α, PyData.depthAll (l.map g) ≤ k
  | [] => by simp [PyData.depthAll]
  | a :: l => by
    rw [List.map_cons, PyData.depthAll]
    exact Nat.max_le.mpr ⟨h a, depthm g k h l⟩
theorem eqvm {α β : Type} (f : α → PyData) (g : β → PyData) : ∀ (l : List α) (r : List β), PyData.eqvAll (l.map f) (r.map g) = true ↔ (l.length = r.length ∧ ∀ (i : Nat) x y, l[i]? = some x → r[i]? = some y → PyData.eqv (f x) (g y) = true)
  | [], [] => by simp [PyData.eqvAll]
  | [], b :: r => by simp [PyData.eqvAll]
  | a :: l, [] => by simp [PyData.eqvAll]
  | a :: l, b :: r => by
    rw [List.map_cons, List.map_cons, PyData.eqvAll, Bool.and_eq_true, eqvm f g l r]
    simp only [List.length_cons]
    constructor
    · rintro ⟨h1, h2, h3⟩
      refine ⟨by omega, fun i x y hx hy => ?_⟩
      cases i with
      | zero => cases hx; cases hy; exact h1
      | succ i => exact h3 i x y hx hy
    · rintro ⟨h2, h3⟩
      exact ⟨h3 0 a b rfl rfl, by omega, fun i x y hx hy => h3 (i + 1) x y hx hy⟩
theorem maxD_int (p : Int) (ps : List Int) : ∃ m, m ∈ p :: ps ∧ PySem.W.maxD (.int p) (ps.map fun q => .int q) = .int m ∧ ∀ q ∈ p :: ps, q ≤ m := by
  induction ps generalizing p with
  | nil => exact ⟨p, by simp, rfl, fun q hq => by rw [List.mem_singleton.mp hq]; exact Int.le_refl p⟩
  | cons q ps ih =>
    have e : PySem.W.maxD (.int p) ((q :: ps).map fun q => .int q) = PySem.W.maxD (if PySem.W.dataLt (.int p) (.int q) then .int q else .int p) (ps.map fun q => .int q) := rfl
    rw [e, PySem.W.dataLt_int]
    by_cases h : p < q
    · rw [if_pos (decide_eq_true h)]
      obtain ⟨m, h1, h2, h3⟩ := ih q
      refine ⟨m, List.mem_cons_of_mem _ h1, h2, fun z hz => ?_⟩
      rcases List.mem_cons.mp hz with rfl | hz
      · have := h3 q (List.mem_cons_self ..); omega
      · exact h3 z hz
    · rw [if_neg (by rw [decide_eq_true_iff]; exact h)]
      obtain ⟨m, h1, h2, h3⟩ := ih p
      refine ⟨m, ?_, h2, fun z hz => ?_⟩
      · rcases List.mem_cons.mp h1 with rfl | h1
        · simp
        · exact List.mem_cons_of_mem _ (List.mem_cons_of_mem _ h1)
      · rcases List.mem_cons.mp hz with rfl | hz
        · exact h3 _ (List.mem_cons_self ..)
        · rcases List.mem_cons.mp hz with rfl | hz
          · have := h3 p (List.mem_cons_self ..); omega
          · exact h3 z (List.mem_cons_of_mem _ hz)
section
variable {K : PySem.W.Frag} [Tb K] {P : D → Prop}
theorem alike_ints (l : List Int) : PySem.W.AlikeAll (l.map fun q => PyData.int q) := by
  refine ⟨?_, ?_⟩
  · intro x hx y hy
    obtain ⟨a, _, rfl⟩ := List.mem_map.mp hx
    obtain ⟨b, _, rfl⟩ := List.mem_map.mp hy
    rfl
  · intro x hx
    obtain ⟨a, _, rfl⟩ := List.mem_map.mp hx
    exact fun z => by cases z
theorem max_ints {l : List Int} (hl : l ≠ []) (h : ∀ m, m ∈ l → (∀ q ∈ l, q ≤ m) → P (.int m)) : Cb K (rMaxQ K) [.lst (l.map .int)] P := by
  obtain ⟨p, ps, rfl⟩ := List.exists_cons_of_ne_nil hl
  obtain ⟨m, h1, h2, h3⟩ := maxD_int p ps
  refine max_lst (d := .int p) (es := ps.map fun q => .int q) (pdsm D.int (fun q => .int q) (fun _ => rfl) (p :: ps)) (alike_ints (p :: ps)) (plainm (fun q : Int => PyData.int q) (fun _ => rfl) (p :: ps)) (depthm (fun q : Int => PyData.int q) 60 (fun _ => by simp [PyData.depth]) (p :: ps)) fun x hx hd => ?_
  obtain ⟨a, ha, rfl⟩ := List.mem_map.mp hx
  rw [h2] at hd
  simp only [pd, Option.some.injEq, PyData.int.injEq] at hd
  subst hd
  exact h a ha h3
/-- lists of data of one kind, equal -/
theorem eq_lists {α β : Type} (f : α → D) (g : α → PyData) (f' : β → D) (g' : β → PyData) (h1 : ∀ a, pd (f a) = some (g a)) (h2 : ∀ a, pd (f' a) = some (g' a)) (p1 : ∀ a, (g a).plain = true) (p2 : ∀ a, (g' a).plain = true) (dp : ∀ a, (g a).depth ≤ 60) (l : List α) (r : List β)
    (h : ∀ c : Bool, (c = true ↔ l.length = r.length ∧ ∀ (i : Nat) x y, l[i]? = some x → r[i]? = some y → PyData.eqv (g x) (g' y) = true) → P (.bl c)) : Op K (rEqP K) (.lst (l.map f)) (.lst (r.map f')) P := by
  refine eqP (d := .list (l.map g)) (e := .list (r.map g')) (by rw [pd, pdsm f g h1]; rfl) (by rw [pd, pdsm f' g' h2]; rfl) (by rw [PyData.plain]; exact plainm g p1 l) (by rw [PyData.plain]; exact plainm g' p2 r) (by rw [PyData.depth]; have := depthm g 60 dp l; omega) (h _ ?_)
  rw [show PyData.eqv (.list (l.map g)) (.list (r.map g')) = PyData.eqvAll (l.map g) (r.map g') by simp [PyData.eqv], eqvm]
theorem ne_lists {α β : Type} (f : α → D) (g : α → PyData) (f' : β → D) (g' : β → PyData) (h1 : ∀ a, pd (f a) = some (g a)) (h2 : ∀ a, pd (f' a) = some (g' a)) (p1 : ∀ a, (g a).plain = true) (p2 : ∀ a, (g' a).plain = true) (dp : ∀ a, (g a).depth ≤ 60) (l : List α) (r : List β)
    (h : ∀ c : Bool, (c = true ↔ l.length = r.length ∧ ∀ (i : Nat) x y, l[i]? = some x → r[i]? = some y → PyData.eqv (g x) (g' y) = true) → P (.bl (!c))) : Op K (rNeP K) (.lst (l.map f)) (.lst (r.map f')) P := by
  refine neP (d := .list (l.map g)) (e := .list (r.map g')) (by rw [pd, pdsm f g h1]; rfl) (by rw [pd, pdsm f' g' h2]; rfl) (by rw [PyData.plain]; exact plainm g p1 l) (by rw [PyData.plain]; exact plainm g' p2 r) (by rw [PyData.depth]; have := depthm g 60 dp l; omega) (h _ ?_)
  rw [show PyData.eqv (.list (l.map g)) (.list (r.map g')) = PyData.eqvAll (l.map g) (r.map g') by simp [PyData.eqv], eqvm]
theorem ne_intsL {l r : List Int} (h : P (.bl (!decide (l = r)))) : Op K (rNeP K) (.lst (l.map .int)) (.lst (r.map .int)) P :=
  ne_lists D.int (fun q => .int q) D.int (fun q => .int q) (fun _ => rfl) (fun _ => rfl) (fun _ => rfl) (fun _ => rfl) (fun _ => by simp [PyData.depth]) l r fun c hc => by
    have : c = decide (l = r) := by
      rw [Bool.eq_iff_iff, hc, decide_eq_true_eq]
      constructor
      · rintro ⟨z1, z2⟩
        refine List.ext_getElem z1 fun i h1 h2 => ?_
        have := z2 i _ _ (List.getElem?_eq_getElem h1) (List.getElem?_eq_getElem h2)
        simpa [PyData.eqv] using this
      · rintro rfl
        exact ⟨rfl, fun i x y hx hy => by rw [hx] at hy; cases hy; simp [PyData.eqv]⟩
    rw [this]; exact h
end
section
variable {K : PySem.W.Frag} [Tb K] {Z : ZX} {ds : DS} {n : Nat} {g : TG}
/-- .. the data found on the way -/
theorem ws_fore {α : Type} (enc : α → D) {wi : TI} {tb : TS} {N : Nd} (h : Wi K Z wi ds n fun xs m => ∃ l : List α, xs = l.map enc ∧ ∃ Iv : Nat → DS → Nat → Prop, Iv 0 ds m ∧
    (∀ i x ds' k, l[i]? = some x → Iv i ds' k → Wg K Z g (enc x) ds' fun ds2 => Ws K Z tb ds2 k { nx := Iv (i + 1), rt := N.rt, bk := N.nx, ct := Iv (i + 1) }) ∧ (∀ ds' k, Iv l.length ds' k → N.nx ds' k)) : Ws K Z (tFor wi g tb) ds n N :=
  ws_for (Wi_imp h fun xs m ⟨l, hx, Iv, a, b, c⟩ => by
    subst hx
    refine ⟨Iv, a, fun i x ds' k hx iv => ?_, fun ds' k iv => c ds' k (by rwa [List.length_map] at iv)⟩
    rw [List.getElem?_map] at hx
    obtain ⟨x, hx', rfl⟩ := Option.map_eq_some_iff.mp hx
    clear hx
    have hx := hx'
    exact b i x ds' k hx iv)
theorem range_at {n i q : Nat} (h : (List.range n)[i]? = some q) : i < n ∧ q = i := by
  have h1 := (List.getElem?_eq_some_iff.mp h).1
  rw [List.length_range] at h1
  rw [List.getElem?_range h1] at h
  exact ⟨h1, (Option.some.inj h).symm⟩
end
end DL
namespace MP
open PySem L2 DL
theorem top_is (gs : List Sg) (l : Nat) : top gs l = 0 ∨ ∃ g ∈ gs, g.ln = l ∧ top gs l = g.b + 1 := by
  have : ∀ (gs : List Sg) (a : Nat), gs.foldl (fun a g => max a (g.b + 1)) a = a ∨ ∃ g ∈ gs, gs.foldl (fun a g => max a (g.b + 1)) a = g.b + 1 := by
    intro gs
    induction gs with
    | nil => intro a; exact .inl rfl
    | cons g gs ih =>
      intro a
      simp only [List.foldl_cons]
      rcases ih (max a (g.b + 1)) with h | ⟨x, hx, h⟩
      · rw [h]
        rcases Nat.le_total a (g.b + 1) with z | z
        · exact .inr ⟨g, by simp, by omega⟩
        · exact .inl (by omega)
      · exact .inr ⟨x, by simp [hx], h⟩
  unfold top
  rcases this (gs.filter fun g => g.ln == l) 0 with h | ⟨g, hg, h⟩
  · exact .inl h
  · have z := List.mem_filter.mp hg
    exact .inr ⟨g, z.1, by simpa using z.2, h⟩
def bD : Option Sg → D
  | none => .non
  | some g => sgD g
theorem mut_b (o : Option Sg) : isMut (bD o) = false := by cases o <;> rfl
theorem nonD_b (o : Option Sg) : isNonD (bD o) = decide (o = none) := by cases o <;> rfl
end MP

/-! the pieces, taken one by one, the longest first; what pieces tell. -/
namespace MP
open PySem
variable {f : Nat → Option Tg}
/-- all pieces of the first N columns -/
def allN (f : Nat → Option Tg) (N : Nat) : List Pc := ((full f N).1 ++ [(full f N).2]).drop 1
theorem few_allN {xs : List Stt} {N : Nat} (ha : Asc xs) (hN : ∀ st ∈ xs, st.1 + 3 ≤ N) : few xs = allN (val xs) N := by
  unfold few allN
  rw [machine_full ha hN]
def kOf (f : Nat → Option Tg) (a e : Nat) : Nat := match f a with
  | none => 0
  | some t => if a + 2 ≤ e ∧ f (a + 1) = some t then 2 else 1
/-- a piece begins at a -/
def begins (f : Nat → Option Tg) (a : Nat) : Prop := (full f (a + 1)).2 = ⟨a, if f a = none then 0 else 1, f a⟩
theorem begins_of {a : Nat} (h : ¬ goes (tr (full f a).2 a (f a)) a (f a)) : begins f a ∧ (full f (a + 1)).1 = (full f a).1 ++ [tr (full f a).2 a (f a)] := by
  rcases step_cases (full f a) a (f a) with ⟨g, _⟩ | ⟨_, e⟩
  · exact absurd g h
  · unfold begins
    rw [full_s, e]
    exact ⟨rfl, rfl⟩
/-- through a block that one piece can tell -/
theorem block {a : Nat} (hb : begins f a) : ∀ m, vld f a (a + 1 + m) → full f (a + 1 + m) = ((full f (a + 1)).1, ⟨a, kOf f a (a + 1 + m), f a⟩)
  | 0, _ => by
    refine Prod.ext rfl ?_
    rw [show a + 1 + 0 = a + 1 from rfl, hb]
    unfold kOf
    cases f a with
    | none => rfl
    | some t => simp
  | m + 1, v => by
    have ih := block hb m (v.sub (Nat.le_refl _) (by omega))
    rw [show a + 1 + (m + 1) = (a + 1 + m) + 1 by omega, full_s, ih]
    rcases v with v | ⟨t, v⟩ | ⟨t, v⟩
    · have e0 := v a (Nat.le_refl _) (by omega)
      have e1 := v (a + 1 + m) (by omega) (by omega)
      rw [step_still (by rw [e1]; exact gap_still (by exact e0) (by unfold kOf; rw [e0]) _)]
      unfold kOf
      rw [e0]
    · have e0 := v a (Nat.le_refl _) (by omega)
      have e1 := v (a + 1 + m) (by omega) (by omega)
      rw [Nat.sub_self, adv0] at e0
      have e2 := v (a + 1) (by omega) (by omega)
      have ne : ¬ f (a + 1) = some t := by
        rw [e2, show a + 1 - a = 1 by omega]
        exact fun z => adv_ne (by omega) (Option.some.inj z)
      have k1 : ∀ e, kOf f a e = 1 := fun e => by
        unfold kOf; rw [e0]; simp only; rw [if_neg fun z => ne z.2]
      rw [k1, step_still (by rw [e1]; exact run_st (p := ⟨a, 1, f a⟩) rfl e0 (by show a < _; omega)), k1]
    · have e0 := v a (Nat.le_refl _) (by omega)
      have e1 := v (a + 1 + m) (by omega) (by omega)
      have e2 := v (a + 1) (by omega) (by omega)
      have k2 : ∀ e, a + 2 ≤ e → kOf f a e = 2 := fun e he => by
        unfold kOf; rw [e0]; simp only; rw [if_pos ⟨he, e2⟩]
      cases m with
      | zero =>
        have k1 : kOf f a (a + 1 + 0) = 1 := by unfold kOf; rw [e0]; simp only; rw [if_neg (by omega)]
        rw [k1, k2 _ (by omega)]
        unfold MP.step
        have ht : trig ⟨a, 1, f a⟩ (a + 1 + 0) (f (a + 1 + 0)) := ⟨by rw [e1]; simp, by rw [e1, e0], rfl⟩
        have et : tr ⟨a, 1, f a⟩ (a + 1 + 0) (f (a + 1 + 0)) = ⟨a, 2, f (a + 1 + 0)⟩ := if_pos ht
        simp only [et]
        rw [if_pos (by unfold goes; rw [if_neg (by simp)]), e1, e0]
      | succ m =>
        rw [k2 _ (by omega), k2 _ (by omega), step_still (by rw [e1]; exact pt_st (p := ⟨a, 2, f a⟩) rfl e0 (by show a + 1 < _; omega))]
/-- where no piece goes on -/
theorem not_goes {a e : Nat} (hb : begins f a) (hae : a < e) (v : vld f a e) (nv : ¬ vld f a (e + 1)) : ¬ goes (tr (full f e).2 e (f e)) e (f e) := by
  intro g
  have hfe : (full f e).2.b = a := by
    obtain ⟨m, rfl⟩ : ∃ m, e = a + 1 + m := ⟨e - (a + 1), by omega⟩
    rw [block hb m v]
  have hd := desc_go (inv (f := f) e).ds (by rw [hfe]; omega) g
  apply nv
  have tb : (tr (full f e).2 e (f e)).b = a := (tr_b _ _ _).trans hfe
  rcases hd with ⟨_, _, z⟩ | ⟨t, _, _, _, z⟩ | ⟨t, _, _, _, z⟩
  · exact .inl fun c h1 h2 => z c (by omega) h2
  · exact .inr (.inl ⟨t, fun c h1 h2 => by rw [z c (by omega) h2, tb]⟩)
  · exact .inr (.inr ⟨t, fun c h1 h2 => z c (by omega) h2⟩)
/-- at the first column -/
theorem begin0 (h : f 0 ≠ none) : begins f 0 ∧ (full f 1).1 = [p0] := by
  have hg : ¬ goes (tr (full f 0).2 0 (f 0)) 0 (f 0) := by
    rw [full_0]
    show ¬ goes (tr p0 0 (f 0)) 0 (f 0)
    have e : tr p0 0 (f 0) = p0 := if_neg fun z => by have := z.2.2; simp [p0] at this
    rw [e]
    unfold goes
    rw [if_neg (by simp [p0])]
    exact h
  obtain ⟨h1, h2⟩ := begins_of hg
  refine ⟨h1, ?_⟩
  rw [h2, full_0]
  show [] ++ [tr p0 0 (f 0)] = [p0]
  rw [show tr p0 0 (f 0) = p0 from if_neg fun z => by have := z.2.2; simp [p0] at this]
  rfl
/-- a piece that is closed as it is -/
theorem tr_closed {p : Pc} {c : Nat} {t : Option Tg} (h : ¬ goes (tr p c t) c t) : tr p c t = p := by
  unfold tr at h ⊢
  split
  · rename_i z
    rw [if_pos z] at h
    exact absurd (by unfold goes; rw [if_neg (by simp)]) h
  · rfl
/-- how the pieces taken so far stand, at the end a of the last one -/
structure Stand (f : Nat → Option Tg) (N a : Nat) (ps : List Pc) : Prop where
  le : a ≤ N
  zero : a = 0 → ps = []
  got : 0 < a → ps = allN f a
  clo : 0 < a → a < N → ¬ goes (tr (full f a).2 a (f a)) a (f a)
theorem stand0 (f : Nat → Option Tg) (N : Nat) : Stand f N 0 [] := ⟨Nat.zero_le _, fun _ => rfl, fun h => absurd h (by omega), fun h => absurd h (by omega)⟩
theorem Stand.begins {N a : Nat} {ps : List Pc} (h : Stand f N a ps) (ha : a < N) (hv : 0 < a ∨ f a ≠ none) : begins f a ∧ (full f (a + 1)).1.drop 1 = ps ∧ (full f (a + 1)).1 ≠ [] := by
  rcases Nat.eq_zero_or_pos a with z | z
  · subst z
    obtain ⟨h1, h2⟩ := begin0 (hv.resolve_left (by omega))
    exact ⟨h1, by rw [h2, h.zero rfl]; rfl, by rw [h2]; simp⟩
  · have hc := h.clo z ha
    obtain ⟨h1, h2⟩ := begins_of hc
    rw [tr_closed hc] at h2
    exact ⟨h1, by rw [h2, h.got z]; rfl, by rw [h2]; simp⟩
/-- one more piece -/
theorem Stand.next {N a e : Nat} {ps : List Pc} (h : Stand f N a ps) (hae : a < e) (heN : e ≤ N) (hv : 0 < a ∨ f a ≠ none) (v : vld f a e) (nv : e < N → ¬ vld f a (e + 1)) : Stand f N e (ps ++ [⟨a, kOf f a e, f a⟩]) := by
  obtain ⟨h1, h2, h3⟩ := h.begins (by omega) hv
  obtain ⟨m, rfl⟩ : ∃ m, e = a + 1 + m := ⟨e - (a + 1), by omega⟩
  refine ⟨heN, fun z => absurd z (by omega), fun _ => ?_, fun _ q => not_goes h1 hae v (nv q)⟩
  unfold allN
  rw [block h1 m v, List.drop_append_of_le_length (by
    cases q : (full f (a + 1)).1 with
    | nil => exact absurd q h3
    | cons x l => simp), h2]
/-- a gap in front of all is none -/
theorem Stand.gap0 {N e : Nat} {ps : List Pc} (h : Stand f N 0 ps) (he : 0 < e) (heN : e ≤ N) (v : ∀ c, c < e → f c = none) (nv : e < N → f e ≠ none) : Stand f N e ps := by
  have hf := cnt0_of v
  rw [h.zero rfl]
  refine ⟨heN, fun z => absurd z (by omega), fun _ => by unfold allN; rw [hf]; rfl, fun _ q => ?_⟩
  rw [hf]
  show ¬ goes (tr p0 e (f e)) e (f e)
  unfold tr
  rw [if_neg fun z => z.1 (z.2.1.trans rfl)]
  unfold goes
  rw [if_neg (by simp [p0])]
  exact nv q
/-- what a piece tells of a column behind its begin -/
def pv (p : Pc) (c : Nat) : Option Tg := p.f.map fun t => if p.k = 1 then adv t (c - p.b) else t
def valQ (l : List Pc) (c : Nat) : Option Tg := l.foldl (fun a p => if p.b ≤ c then pv p c else a) none
theorem valQ_snoc (l : List Pc) (p : Pc) (c : Nat) : valQ (l ++ [p]) c = if p.b ≤ c then pv p c else valQ l c := by
  unfold valQ; rw [List.foldl_append]; rfl
theorem pv_desc {p : Pc} {N c : Nat} (h : desc f p N) (h1 : p.b ≤ c) (h2 : c < N) : pv p c = f c := by
  unfold pv
  rcases h with ⟨_, q, z⟩ | ⟨t, q1, q, _, z⟩ | ⟨t, q1, q, _, z⟩
  · rw [q, z c h1 h2]; rfl
  · rw [q, z c h1 h2, Option.map_some, if_pos q1]
  · rw [q, z c h1 h2, Option.map_some, if_neg (by rw [q1]; decide)]
theorem tell : ∀ N c, c < N → valQ ((full f N).1 ++ [(full f N).2]) c = f c
  | 0, c, h => absurd h (Nat.not_lt_zero _)
  | N + 1, c, h => by
    have ih := fun h' => tell N c h'
    rcases step_cases (full f N) N (f N) with ⟨g, e⟩ | ⟨g, e⟩
    · have hd := (inv (f := f) (N + 1)).ds
      rw [full_s, e] at hd ⊢
      rw [valQ_snoc]
      by_cases q : (tr (full f N).2 N (f N)).b ≤ c
      · rw [if_pos q]; exact pv_desc hd q h
      · rw [if_neg q]
        rw [tr_b] at q
        have hb : (full f N).2.b ≤ N := by
          rcases (inv (f := f) N).at_ with ⟨_, z⟩ | ⟨z, _⟩
          · rw [z]; exact Nat.zero_le _
          · omega
        have := ih (by omega)
        rw [valQ_snoc, if_neg q] at this
        exact this
    · rw [full_s, e]
      rw [valQ_snoc]
      simp only
      by_cases q : N ≤ c
      · have : c = N := by omega
        subst this
        rw [if_pos q]
        unfold pv
        cases f c with
        | none => rfl
        | some t => simp [adv0]
      · rw [if_neg q, tr_closed g]
        exact ih (by omega)
theorem head0 : ∀ N, ∃ l, (full f N).1 ++ [(full f N).2] = p0 :: l
  | 0 => ⟨[], rfl⟩
  | N + 1 => by
    obtain ⟨l, hl⟩ := head0 N
    rcases step_cases (full f N) N (f N) with ⟨g, e⟩ | ⟨g, e⟩
    · rw [full_s, e]
      cases q : (full f N).1 with
      | nil =>
        rw [q] at hl
        have : (full f N).2 = p0 := by simp at hl; exact hl.1
        rw [this]
        exact ⟨[], by rw [show tr p0 N (f N) = p0 from if_neg fun z => z.1 (z.2.1.trans rfl)]; rfl⟩
      | cons x r =>
        rw [q] at hl
        have : x = p0 := by simp at hl; exact hl.1
        subst this
        exact ⟨r ++ [tr (full f N).2 N (f N)], rfl⟩
    · rw [full_s, e, tr_closed g]
      exact ⟨l ++ [_], by simp only [hl]; rfl⟩
theorem tellN {N c : Nat} (h : c < N) : valQ (allN f N) c = f c := by
  obtain ⟨l, hl⟩ := head0 N
  have := tell (f := f) N c h
  unfold allN
  rw [hl] at this ⊢
  rw [← this]
  unfold valQ
  simp only [List.foldl_cons, List.drop_succ_cons, List.drop_zero]
  rw [show (if p0.b ≤ c then pv p0 c else none) = none by split <;> rfl]
theorem ascN : ∀ N, ((allN f N).map (·.b)).Pairwise (· < ·) ∧ ∀ p ∈ allN f N, p.b < N
  | 0 => ⟨by simp [allN, full_0], by simp [allN, full_0]⟩
  | N + 1 => by
    obtain ⟨h1, h2⟩ := ascN N
    rcases step_cases (full f N) N (f N) with ⟨g, e⟩ | ⟨g, e⟩
    · have hm : (allN f (N + 1)).map (·.b) = (allN f N).map (·.b) := by
        unfold allN
        rw [full_s, e]
        rw [List.map_drop, List.map_drop, List.map_append, List.map_append, List.map_cons, List.map_cons, tr_b]
        try rfl
      refine ⟨hm ▸ h1, fun p hp => ?_⟩
      have : p.b ∈ (allN f N).map (·.b) := by rw [← hm]; exact List.mem_map.mpr ⟨p, hp, rfl⟩
      obtain ⟨q, hq, e2⟩ := List.mem_map.mp this
      have := h2 q hq
      omega
    · have ea : allN f (N + 1) = allN f N ++ [⟨N, if f N = none then 0 else 1, f N⟩] := by
        unfold allN
        rw [full_s, e, tr_closed g]
        rw [List.drop_append_of_le_length (by simp)]
      rw [ea]
      refine ⟨?_, fun p hp => ?_⟩
      · rw [List.map_append]
        refine List.pairwise_append.mpr ⟨h1, by simp, fun x hx y hy => ?_⟩
        obtain ⟨q, hq, rfl⟩ := List.mem_map.mp hx
        have : y = N := by simpa using hy
        rw [this]; exact h2 q hq
      · rcases List.mem_append.mp hp with z | z
        · have := h2 p z; omega
        · rw [List.mem_singleton.mp z]; exact Nat.lt_succ_self _
theorem asc_few {xs : List Stt} (ha : Asc xs) : ((few xs).map (·.b)).Pairwise (· < ·) := by
  obtain ⟨N, hN⟩ : ∃ N, ∀ st ∈ xs, st.1 + 3 ≤ N := ⟨xs.foldl (fun a st => max a (st.1 + 3)) 0, fun st hs => by
    have : ∀ (l : List Stt) (a : Nat), a ≤ l.foldl (fun a st => max a (st.1 + 3)) a ∧ ∀ st ∈ l, st.1 + 3 ≤ l.foldl (fun a st => max a (st.1 + 3)) a := by
      intro l
      induction l with
      | nil => intro a; simp
      | cons x l ih =>
        intro a
        obtain ⟨h1, h2⟩ := ih (max a (x.1 + 3))
        simp only [List.foldl_cons]
        refine ⟨by omega, fun st hs => ?_⟩
        rcases List.mem_cons.mp hs with z | z
        · rw [z]; omega
        · exact h2 st z
    exact (this xs 0).2 st hs⟩
  rw [few_allN ha hN]
  exact (ascN N).1
theorem valQ_few {xs : List Stt} (ha : Asc xs) (c : Nat) : valQ (few xs) c = val xs c := by
  obtain ⟨N, hN⟩ : ∃ N, (∀ st ∈ xs, st.1 + 3 ≤ N) ∧ c < N := ⟨(xs.map fun st => st.1 + 3).sum + c + 1, fun st hs => by
    have : ∀ (l : List Nat) (x : Nat), x ∈ l → x ≤ l.sum := by
      intro l
      induction l with
      | nil => intro x hx; cases hx
      | cons y l ih =>
        intro x hx
        rw [List.sum_cons]
        rcases List.mem_cons.mp hx with z | z
        · omega
        · have := ih x z; omega
    have := this (xs.map fun st => st.1 + 3) (st.1 + 3) (List.mem_map.mpr ⟨st, hs, rfl⟩)
    omega, by omega⟩
  rw [few_allN ha hN.1, tellN hN.2]
/-- found by halving -/
theorem valQ_at {ps : List Pc} {c k : Nat} (h : ∀ i p, ps[i]? = some p → (p.b ≤ c ↔ i < k)) : (k = 0 → valQ ps c = none) ∧ ∀ n p, k = n + 1 → ps[n]? = some p → valQ ps c = pv p c := by
  have key : ∀ (ps : List Pc) (a : Option Tg) (k : Nat), (∀ i p, ps[i]? = some p → (p.b ≤ c ↔ i < k)) → (k = 0 → ps.foldl (fun a p => if p.b ≤ c then pv p c else a) a = a) ∧ ∀ n p, k = n + 1 → ps[n]? = some p → ps.foldl (fun a p => if p.b ≤ c then pv p c else a) a = pv p c := by
    intro ps
    induction ps with
    | nil => intro a k _; exact ⟨fun _ => rfl, fun n p _ hp => by cases hp⟩
    | cons x ps ih =>
      intro a k h
      have hx := h 0 x rfl
      have ht : ∀ i p, ps[i]? = some p → (p.b ≤ c ↔ i < k - 1) := fun i p hp => by
        have := h (i + 1) p hp
        rw [this]; omega
      simp only [List.foldl_cons]
      refine ⟨fun hk => ?_, fun n p hk hp => ?_⟩
      · subst hk
        rw [if_neg (by omega)]
        exact (ih a 0 ht).1 rfl
      · subst hk
        rw [if_pos (by omega)]
        cases n with
        | zero =>
          cases hp
          exact (ih _ 0 ht).1 rfl
        | succ n => exact (ih _ (n + 1) ht).2 n p rfl hp
  exact key ps none k h
end MP

namespace MP
open PySem
variable {f : Nat → Option Tg}
/-- the last piece has two columns -/
theorem Stand.last2 {N a : Nat} {ps : List Pc} (h : Stand f N a ps) (ha : a < N) (hN : 3 ≤ N) (hv : vld f (N - 3) N) : a + 2 ≤ N := by
  apply Nat.le_of_not_lt
  intro hlt
  have ea : a = N - 1 := by omega
  have hc := h.clo (by omega) ha
  have hd := (inv (f := f) a).ds
  have hb : (full f a).2.b < a := by
    rcases (inv (f := f) a).at_ with ⟨_, z⟩ | ⟨z, _⟩
    · rw [z]; show 0 < a; omega
    · exact z
  have hcl := closed hc hb
  subst ea
  generalize (full f (N - 1)).2 = p at *
  rw [show N - 1 + 1 = N by omega] at hcl
  by_cases q : p.b = N - 2
  · exact hcl (hv.sub (by omega) (Nat.le_refl _))
  · have hb3 : p.b ≤ N - 3 := by omega
    apply hcl
    have ext : ∀ (g : Nat → Option Tg), (∀ c, p.b ≤ c → c < N - 1 → f c = g c) → f (N - 1) = g (N - 1) → ∀ c, p.b ≤ c → c < N → f c = g c := fun g h1 h2 c q1 q2 => by
      by_cases z : c = N - 1
      · rw [z]; exact h2
      · exact h1 c q1 (by omega)
    rcases hd with ⟨_, _, z⟩ | ⟨t, _, _, _, z⟩ | ⟨t, _, _, _, z⟩
    · refine .inl (ext (fun _ => none) z ?_)
      have y := z (N - 2) (by omega) (by omega)
      rcases hv with w | ⟨t0, w⟩ | ⟨t0, w⟩
      · exact w (N - 1) (by omega) (by omega)
      · rw [w (N - 2) (by omega) (by omega)] at y; cases y
      · rw [w (N - 2) (by omega) (by omega)] at y; cases y
    · refine .inr (.inl ⟨t, ext (fun c => some (adv t (c - p.b))) z ?_⟩)
      have y2 := z (N - 2) (by omega) (by omega)
      have y3 := z (N - 3) (by omega) (by omega)
      rcases hv with w | ⟨t0, w⟩ | ⟨t0, w⟩
      · rw [w (N - 2) (by omega) (by omega)] at y2; cases y2
      · rw [w (N - 2) (by omega) (by omega)] at y2
        have e := Option.some.inj y2
        rw [w (N - 1) (by omega) (by omega)]
        show some (adv t0 (N - 1 - (N - 3))) = some (adv t (N - 1 - p.b))
        rw [show N - 1 - (N - 3) = (N - 2 - (N - 3)) + 1 by omega, ← adv_adv, e, adv_adv, show N - 2 - p.b + 1 = N - 1 - p.b by omega]
      · rw [w (N - 2) (by omega) (by omega)] at y2
        rw [w (N - 3) (by omega) (by omega)] at y3
        rw [y2] at y3
        have := adv_inj.mp (Option.some.inj y3)
        omega
    · refine .inr (.inr ⟨t, ext (fun _ => some t) z ?_⟩)
      have y2 := z (N - 2) (by omega) (by omega)
      have y3 := z (N - 3) (by omega) (by omega)
      rcases hv with w | ⟨t0, w⟩ | ⟨t0, w⟩
      · rw [w (N - 2) (by omega) (by omega)] at y2; cases y2
      · rw [w (N - 2) (by omega) (by omega)] at y2
        rw [w (N - 3) (by omega) (by omega)] at y3
        rw [← y3] at y2
        have := adv_inj.mp (Option.some.inj y2)
        omega
      · rw [w (N - 2) (by omega) (by omega)] at y2
        rw [w (N - 1) (by omega) (by omega)]
        exact y2
/-- a gap behind others -/
theorem Stand.ne {N a : Nat} {ps : List Pc} (h : Stand f N a ps) (h0 : 0 < a) (ha : a < N) (hv : f a = none) : ps ≠ [] := by
  intro e
  have hc := h.clo h0 ha
  obtain ⟨l, hl⟩ := head0 a
  have hg := h.got h0
  rw [e] at hg
  unfold allN at hg
  rw [hl] at hg
  simp only [List.drop_succ_cons, List.drop_zero] at hg
  rw [← hg] at hl
  have h1 : (full f a).1 = [] ∧ (full f a).2 = p0 := by
    cases q : (full f a).1 with
    | nil => rw [q] at hl; simp at hl; exact ⟨rfl, hl⟩
    | cons x r => rw [q] at hl; simp at hl
  rw [h1.2, hv] at hc
  apply hc
  have : tr p0 a none = p0 := if_neg fun z => z.1 rfl
  rw [this]
  unfold goes
  rw [if_neg (by simp [p0])]
  rfl
end MP

/-! Maps made of pieces; moved stretches; rows of moved segments. -/
namespace MP
open PySem L2 DL
theorem at_snoc (st : Stt) (c : Nat) : ∀ xs : List Stt, at_ (xs ++ [st]) c = if st.1 ≤ c then some st else at_ xs c
  | [] => by
    show (match at_ [] c with | some s => some s | none => if st.1 ≤ c then some st else none) = _
    rfl
  | x :: xs => by
    rw [List.cons_append]
    show (match at_ (xs ++ [st]) c with | some s => some s | none => if x.1 ≤ c then some x else none) = if st.1 ≤ c then some st else (match at_ xs c with | some s => some s | none => if x.1 ≤ c then some x else none)
    rw [at_snoc st c xs]
    by_cases q : st.1 ≤ c
    · rw [if_pos q, if_pos q]
    · rw [if_neg q, if_neg q]
theorem val_snoc (st : Stt) (c : Nat) (xs : List Stt) : val (xs ++ [st]) c = if st.1 ≤ c then tv st.2 (c - st.1) else val xs c := by
  unfold val
  rw [at_snoc]
  by_cases q : st.1 ≤ c
  · rw [if_pos q, if_pos q]
  · rw [if_neg q, if_neg q]
theorem tv_pc (l : Nat) (q : Pc) (c : Nat) : tv (pcS l q).td (c - q.b) = pv q c := by
  obtain ⟨b, k, f⟩ := q
  unfold tv pv pcS
  cases f with
  | none => rfl
  | some t =>
    by_cases h : k = 1
    · subst h; rfl
    · have : (k == 1) = false := by simpa using h
      simp only [Option.map_some, this, if_neg h]
      rfl
theorem val_pieces (l c : Nat) (ps : List Pc) : val (ps.map fun q => stt (pcS l q)) c = valQ ps c := by
  induction h : ps.length generalizing ps with
  | zero => rw [List.length_eq_zero_iff.mp h]; rfl
  | succ m ih =>
    obtain ⟨qs, q, rfl⟩ : ∃ qs q, ps = qs ++ [q] := ⟨ps.dropLast, ps.getLast (by intro z; rw [z] at h; cases h), (List.dropLast_concat_getLast _).symm⟩
    rw [List.map_append, List.map_cons, List.map_nil, val_snoc, valQ_snoc, ih qs (by simpa using h)]
    show (if q.b ≤ c then tv (pcS l q).td (c - q.b) else _) = _
    rw [tv_pc]
theorem few_ext {xs ys : List Stt} (hx : Asc xs) (hy : Asc ys) (h : ∀ c, val xs c = val ys c) : few xs = few ys := by
  have sm : ∀ (l : List Nat) (x : Nat), x ∈ l → x ≤ l.sum := by
    intro l
    induction l with
    | nil => intro x hx; cases hx
    | cons y l ih =>
      intro x hx
      rw [List.sum_cons]
      rcases List.mem_cons.mp hx with z | z
      · omega
      · have := ih x z; omega
  have h1 : ∀ st ∈ xs, st.1 + 3 ≤ (xs.map fun st => st.1 + 3).sum + (ys.map fun st => st.1 + 3).sum := fun st hs => by
    have := sm (xs.map fun st => st.1 + 3) (st.1 + 3) (List.mem_map.mpr ⟨st, hs, rfl⟩); omega
  have h2 : ∀ st ∈ ys, st.1 + 3 ≤ (xs.map fun st => st.1 + 3).sum + (ys.map fun st => st.1 + 3).sum := fun st hs => by
    have := sm (ys.map fun st => st.1 + 3) (st.1 + 3) (List.mem_map.mpr ⟨st, hs, rfl⟩); omega
  rw [few_allN hx h1, few_allN hy h2, show val xs = val ys from funext h]
theorem asc_pieces {l : Nat} {ps : List Pc} (h : (ps.map (·.b)).Pairwise (· < ·)) : Asc (ps.map fun q => stt (pcS l q)) := by
  show (List.map _ _).Pairwise _
  rw [List.map_map]
  exact h
/-- the pieces of the pieces are the pieces -/
theorem few_again {xs : List Stt} (h : Asc xs) (l : Nat) : few ((few xs).map fun q => stt (pcS l q)) = few xs :=
  few_ext (asc_pieces (asc_few h)) h fun c => by rw [val_pieces, valQ_few h]
/-! moved -/
def shSt (k : Nat) (xs : List Stt) : List Stt := xs.map fun s => (s.1 + k, s.2)
def shP (k : Nat) (p : Pc) : Pc := ⟨p.b + k, p.k, p.f⟩
def shM (k : Nat) (s : Ms) : Ms := (s.1.map (shP k), shP k s.2)
/-! rows of other segments -/
theorem rowSt_eq {gs : List Sg} {l : Nat} {ys : List Stt} (nd : KeyNd gs) (ha : Asc ys) (h : ∀ st, st ∈ ys ↔ ∃ g ∈ gs, g.ln = l ∧ stt g = st) : rowSt gs l = ys := by
  have ha' := rowSt_asc nd l
  have nd1 : (rowSt gs l).Nodup := (List.pairwise_map.mp ha').imp fun {a b} q e => by subst e; omega
  have nd2 : ys.Nodup := (List.pairwise_map.mp ha).imp fun {a b} q e => by subst e; omega
  have pm : (rowSt gs l).Perm ys := (List.perm_ext_iff_of_nodup nd1 nd2).mpr fun st => by rw [rowSt_mem, h]
  exact List.Perm.eq_of_pairwise (le := fun p q => p.1 < q.1) (fun a b _ _ q1 q2 => by omega) (List.pairwise_map.mp ha') (List.pairwise_map.mp ha) pm
theorem flat_range {β : Type} (F : Nat → List β) (n : Nat) (K : List Nat) (ha : K.Pairwise (· < ·)) (hn : ∀ l ∈ K, l < n) (h0 : ∀ l, l ∉ K → F l = []) : (K.map F).flatten = ((List.range n).map F).flatten := by
  have e : K = (List.range n).filter (fun l => decide (l ∈ K)) := by
    have a2 : ((List.range n).filter fun l => decide (l ∈ K)).Pairwise (· < ·) := List.pairwise_lt_range.filter _
    refine List.Perm.eq_of_pairwise (le := fun p q => p < q) (fun a b _ _ q1 q2 => by omega) ha a2 ((List.perm_ext_iff_of_nodup (ha.imp fun h => by omega) (a2.imp fun h => by omega)).mpr fun l => ?_)
    rw [List.mem_filter, List.mem_range]
    simp only [decide_eq_true_eq]
    exact ⟨fun z => ⟨hn l z, z⟩, fun z => z.2⟩
  have g : ∀ xs : List Nat, ((xs.filter fun l => decide (l ∈ K)).map F).flatten = (xs.map F).flatten := by
    intro xs
    induction xs with
    | nil => rfl
    | cons x xs ih =>
      rw [List.filter_cons]
      by_cases q : x ∈ K
      · rw [if_pos (decide_eq_true q)]
        simp only [List.map_cons, List.flatten_cons, ih]
      · rw [if_neg (by simpa using q), List.map_cons, List.flatten_cons, h0 x q, ih]; rfl
  have := g (List.range n)
  rw [← e] at this
  exact this
/-- the pieces of a map, line by line -/
theorem allP_flat : ∀ L : List (Nat × List Stt), allP (rowsOf L) = (L.map fun p => (few p.2).map (pcS p.1)).flatten := by
  intro L
  unfold allP rowsOf
  induction L with
  | nil => rfl
  | cons p L ih =>
    simp only [List.map_cons, List.flatten_cons]
    rw [List.filter_cons]
    cases q : few p.2 with
    | nil => simpa [q] using ih
    | cons x r => simpa [q] using ih
theorem allP_lines {gs : List Sg} {n : Nat} (h : ∀ g ∈ gs, g.ln < n) : allP (rowsG gs) = ((List.range n).map fun l => (few (rowSt gs l)).map (pcS l)).flatten := by
  unfold rowsG
  rw [allP_flat, List.map_map]
  exact flat_range (fun l => (few (rowSt gs l)).map (pcS l)) n (ks gs) (ks_asc gs) (fun l hl => let ⟨g, hg, e⟩ := ks_mem.mp hl; e ▸ h g hg) fun l hl => by rw [ks_none hl]; rfl
theorem rowsG_row {gs : List Sg} {p : Nat × List Pc} (h : p ∈ rowsG gs) : p.2 = few (rowSt gs p.1) ∧ p.1 ∈ ks gs := by
  unfold rowsG rowsOf at h
  obtain ⟨q, hq, e⟩ := List.mem_map.mp (List.mem_filter.mp h).1
  obtain ⟨l, hl, rfl⟩ := List.mem_map.mp hq
  subst e
  exact ⟨rfl, hl⟩
end MP

/-! tuple(d): the keys; dict comprehensions whose keys come again. -/
namespace L2
open PySem PySem.Spec PyProof.Rows
section
variable {X : Cx}
end
end L2
namespace DL
open PySem L2 StX
section
variable {K : PySem.W.Frag} [Tb K] {Z : ZX} {b u u' u'' : Wd} {σ : L2.St} {ds : DS} {n : Nat} {P : D → Nat → Prop} {te ta tb tc tk tv : TE} {tt tu : TT} {N : Nd} {ts t1 t2 : TS} {g : TG} {De : Ends}
def rTupD (K : PySem.W.Frag) : List V → Hp → VK → Prop := fun xs H Q => ∃ (a : Addr) (kvs : List (Key × V)), xs = [.ref a] ∧ Rd H a (.dK kvs) ∧ ∀ p, H p = none → Q (.ref p) (upd H p (.tup (kvs.map fun kv => kV kv.1)))
end
end DL
namespace L2
end L2

/-! a dict in a list or a tuple of texts: never. -/
namespace L2
open PySem PySem.Spec PyProof.Rows PySem.SeqAt
end L2
namespace L2
open PySem PySem.Spec PyProof.Rows PySem.SeqAt
/-- d in a list or a tuple of texts -/
def rInU (K : PySem.W.Frag) : R2 := fun x y H Q => ∃ (a p : Addr) (kvs : List (Key × V)) (zs : List Str), x = .ref a ∧ Rd H a (.dK kvs) ∧ y = .ref p ∧ (SqL K H p (zs.map V.str) ∨ SqT K H p (zs.map V.str)) ∧ Q (.bl false) H
end L2
namespace L2
open PySem PySem.Spec PyProof.Rows
def rInQ (K : PySem.W.Frag) : R2 := fun x y H Q => rInP K x y H Q ∨ rInU K x y H Q
end L2
namespace DL
open PySem L2 StX
section
variable {K : PySem.W.Frag} [Tb K] {P : D → Prop} {a b : D}
end
end DL

/-! A generator that is asleep stays as it is while others run: a run that never wakes it goes the same
    where its way on is blocked; so a run over the blocked table tells that it is not woken. -/
namespace PZ
open PySem
open Sem (wp)
/-- its way on is blocked; all that can be seen of it is the same -/
def blk : GenState → GenState
  | .suspended _ l c p fs cl => .suspended (fun _ => .unsupported "asleep") l c p fs cl
  | x => x
def slp : GenState → Bool
  | .suspended .. => true
  | _ => false
theorem blk_seen (x : GenState) : (blk x).seen = x.seen := by cases x <;> rfl
theorem blk_bare (x : GenState) : (blk x).bare = x.bare := by cases x <;> rfl
theorem no_way {M : Model} {Γ : Ctx} {p : Pos} {t : Sem PySem.Fin} {what : String} {fs : List Frame} {s s' : Shared} {e : End} (h : Runs M Γ p t fs s e s') : t = .unsupported what → False := by
  induction h with
  | segRet _ _ ih _ => exact ih
  | segGen _ _ ih _ => exact ih
  | segSuspOut _ _ ih => exact ih
  | segSuspGen _ _ _ _ ih _ => exact ih
  | _ => intro z; cases z
/-- frames without a generator's own -/
abbrev NoG (fs : List Frame) : Prop := splitAtGen fs = none
theorem noG_tail {F : Frame} {fs : List Frame} (h : NoG (F :: fs)) : NoG fs := by
  cases F with
  | gen => cases h
  | ret =>
    have q : (splitAtGen fs).map _ = none := h
    exact Option.map_eq_none_iff.mp q
theorem noG_app : ∀ {fs gs : List Frame}, NoG fs → NoG gs → NoG (fs ++ gs)
  | [], _, _, h => h
  | F :: fs, gs, h, h2 => by
    have ih := noG_app (noG_tail h) h2
    cases F with
    | gen => cases h
    | ret =>
      show (splitAtGen (fs ++ gs)).map _ = none
      rw [ih]; rfl
/-- W: those that are blocked in x, as they are in y; the others are the same, their frames plain -/
structure Tw (W : Nat → Option GenState) (x y : Array GenState) : Prop where
  size : x.size = y.size
  at_ : ∀ i, (∃ z, W i = some z ∧ slp z = true ∧ y[i]? = some z ∧ x[i]? = some (blk z)) ∨ (W i = none ∧ x[i]? = y[i]? ∧ ∀ k l c p fs cl, y[i]? = some (.suspended k l c p fs cl) → NoG fs)
section
variable {W : Nat → Option GenState} {x y : Array GenState}
def plainG : GenState → Prop
  | .suspended _ _ _ _ fs _ => NoG fs
  | _ => True
theorem Tw.set (T : Tw W x y) {g : Nat} {z : GenState} (h : W g = none) (hz : plainG z) : Tw W (x.setIfInBounds g z) (y.setIfInBounds g z) := by
  refine ⟨by simp [T.size], fun i => ?_⟩
  by_cases q : g = i
  · subst q
    refine .inr ⟨h, ?_, fun k l c p fs cl e => ?_⟩
    · rw [Array.getElem?_setIfInBounds_self, Array.getElem?_setIfInBounds_self, T.size]
    · rw [Array.getElem?_setIfInBounds_self] at e
      by_cases b : g < y.size
      · rw [if_pos b] at e
        cases e
        exact hz
      · rw [if_neg b] at e; cases e
  · rw [Array.getElem?_setIfInBounds_ne q, Array.getElem?_setIfInBounds_ne q]
    exact T.at_ i
theorem Tw.push (T : Tw W x y) {c : Code} : Tw W (x.push (.fresh c)) (y.push (.fresh c)) := by
  refine ⟨by simp [T.size], fun i => ?_⟩
  rcases T.at_ i with ⟨z, h1, h2, h3, h4⟩ | ⟨h1, h2, h3⟩
  · refine .inl ⟨z, h1, h2, ?_, ?_⟩
    · rw [Array.getElem?_push, if_neg (fun e => by subst e; simp at h3)]; exact h3
    · rw [Array.getElem?_push, if_neg (fun e => by subst e; simp at h4)]; exact h4
  · refine .inr ⟨h1, ?_, fun k l c' p fs cl e => ?_⟩
    · rw [Array.getElem?_push, Array.getElem?_push, T.size, h2]
    · rw [Array.getElem?_push] at e
      by_cases b : i = y.size
      · rw [if_pos b] at e; cases e
      · rw [if_neg b] at e; exact h3 _ _ _ _ _ _ e
theorem Tw.seen (T : Tw W x y) {g : Nat} {st : GenState} (h : x[g]? = some st) : ∃ st', y[g]? = some st' ∧ st'.seen = st.seen := by
  rcases T.at_ g with ⟨z, _, _, h3, h4⟩ | ⟨_, h2, _⟩
  · rw [h] at h4; cases h4
    exact ⟨z, h3, (blk_seen z).symm⟩
  · exact ⟨st, h2 ▸ h, rfl⟩
/-- what is not asleep is the same in both -/
theorem Tw.same (T : Tw W x y) {g : Nat} {st : GenState} (h : x[g]? = some st) (hs : slp st = false) : W g = none ∧ y[g]? = some st := by
  rcases T.at_ g with ⟨z, _, h2, _, h4⟩ | ⟨h1, h2, _⟩
  · rw [h] at h4; cases h4
    cases z <;> simp_all [slp, blk]
  · exact ⟨h1, h2 ▸ h⟩
/-- what is asleep: the same, or blocked -/
theorem Tw.susp (T : Tw W x y) {g : Nat} {k : Resume → Sem PySem.Fin} {l : List Value} {c : Code} {p : Pos} {fs : List Frame} {cl : Bool} (h : x[g]? = some (.suspended k l c p fs cl)) :
    (W g = none ∧ y[g]? = some (.suspended k l c p fs cl) ∧ NoG fs) ∨ k = fun _ => .unsupported "asleep" := by
  rcases T.at_ g with ⟨z, _, h2, _, h4⟩ | ⟨h1, h2, h3⟩
  · rw [h] at h4
    cases z with
    | suspended k' l' c' p' fs' cl' => cases h4; exact .inr rfl
    | _ => cases h2
  · exact .inl ⟨h1, h2 ▸ h, h3 _ _ _ _ _ _ (h2 ▸ h)⟩
theorem Tw.bare (T : Tw W x y) (h : PyProof.Rows.AllBare x) : PyProof.Rows.AllBare y := fun z hz => by
  obtain ⟨i, hi, e⟩ := Array.mem_iff_getElem.mp hz
  have e2 : y[i]? = some z := by rw [Array.getElem?_eq_getElem hi, e]
  rcases T.at_ i with ⟨z', _, _, h3, h4⟩ | ⟨_, h2, _⟩
  · rw [e2] at h3; cases h3
    rw [← blk_bare]
    exact h _ (Array.mem_of_getElem? h4)
  · exact h _ (Array.mem_of_getElem? (h2.trans e2))
/-- all that are asleep, blocked -/
theorem tw_all (y : Array GenState) : Tw (fun i => match y[i]? with | some z => if slp z = true then some z else none | none => none) (y.map blk) y := by
  refine ⟨by simp, fun i => ?_⟩
  rw [Array.getElem?_map]
  cases h : y[i]? with
  | none => exact .inr ⟨by simp [h], by simp, fun _ _ _ _ _ _ e => by cases e⟩
  | some z =>
    cases hz : slp z with
    | true => exact .inl ⟨z, by simp [h, hz], hz, rfl, rfl⟩
    | false =>
      refine .inr ⟨by simp [h, hz], ?_, fun k l c p fs cl e => ?_⟩
      · cases z <;> simp_all [slp, blk]
      · cases e; cases hz
end
abbrev PlainE (e : End) : Prop := ∀ v g l k c p fs, e = .susp v g l k c p fs → NoG fs
theorem plainE_gen {e : End} (h : PlainE e) : plainG e.genState := by
  cases e with
  | ret _ => exact trivial
  | susp v g l k c p fs => exact h v g l k c p fs rfl
theorem plainE_ret {r : Result} : PlainE (.ret r) := fun _ _ _ _ _ _ _ z => by cases z
/-- a run over the table x is one over the table y -/
theorem runs_tw {W : Nat → Option GenState} {M : Model} {Γ : Ctx} {p : Pos} {t : Sem PySem.Fin} {fs : List Frame} {s s' : Shared} {e : End} (h : Runs M Γ p t fs s e s') :
    NoG fs → ∀ y, Tw W s.gens y → PlainE e ∧ ∃ y', Tw W s'.gens y' ∧ Runs M Γ p t fs { s with gens := y } e { s' with gens := y' } := by
  induction h with
  | done => exact fun _ y T => ⟨plainE_ret, y, T, .done⟩
  | raise => exact fun _ y T => ⟨plainE_ret, y, T, .raise⟩
  | again hq _ ih => intro n y T; obtain ⟨a, y', b, c⟩ := ih n y T; exact ⟨a, y', b, .again hq c⟩
  | rule _ ih => intro n y T; obtain ⟨a, y', b, c⟩ := ih n y T; exact ⟨a, y', b, .rule c⟩
  | «at» _ ih => intro n y T; obtain ⟨a, y', b, c⟩ := ih n y T; exact ⟨a, y', b, .at c⟩
  | load ho _ ih => intro n y T; obtain ⟨a, y', b, c⟩ := ih n y T; exact ⟨a, y', b, .load ho c⟩
  | update ho _ ih => intro n y T; obtain ⟨a, y', b, c⟩ := ih n y T; exact ⟨a, y', b, .update ho c⟩
  | loadIfAlive _ ih => intro n y T; obtain ⟨a, y', b, c⟩ := ih n y T; exact ⟨a, y', b, .loadIfAlive c⟩
  | point _ ih => intro n y T; obtain ⟨a, y', b, c⟩ := ih n y T; exact ⟨a, y', b, .point c⟩
  | alloc _ ih => intro n y T; obtain ⟨a, y', b, c⟩ := ih n y T; exact ⟨a, y', b, .alloc c⟩
  | fresh _ ih => intro n y T; obtain ⟨a, y', b, c⟩ := ih n y T; exact ⟨a, y', b, .fresh c⟩
  | ask _ ih => intro n y T; obtain ⟨a, y', b, c⟩ := ih n y T; exact ⟨a, y', b, .ask c⟩
  | choose h0 _ ih => intro n y T; obtain ⟨a, y', b, c⟩ := ih n y T; exact ⟨a, y', b, .choose h0 c⟩
  | os _ ih => intro n y T; obtain ⟨a, y', b, c⟩ := ih n y T; exact ⟨a, y', b, .os c⟩
  | handled _ ih => intro n y T; obtain ⟨a, y', b, c⟩ := ih n y T; exact ⟨a, y', b, .handled c⟩
  | genState hs _ ih =>
    intro n y T
    obtain ⟨a, y', b, c⟩ := ih n y T
    obtain ⟨st, h1, h2⟩ := T.seen hs
    exact ⟨a, y', b, .genState h1 (h2 ▸ c)⟩
  | stack _ ih => intro n y T; obtain ⟨a, y', b, c⟩ := ih n y T; exact ⟨a, y', b, .stack c⟩
  | thread _ ih => intro n y T; obtain ⟨a, y', b, c⟩ := ih n y T; exact ⟨a, y', b, .thread c⟩
  | newGen _ ih =>
    intro n y T
    obtain ⟨a, y', b, c⟩ := ih n _ T.push
    refine ⟨a, y', b, .newGen ?_⟩
    rw [T.size] at c
    exact c
  | call _ _ ih1 ih2 =>
    intro n y T
    obtain ⟨_, y1, b1, c1⟩ := ih1 rfl y T
    obtain ⟨a, y', b, c⟩ := ih2 n y1 b1
    exact ⟨a, y', b, .call c1 c⟩
  | callSusp _ ih =>
    intro n y T
    obtain ⟨a, y', b, c⟩ := ih rfl y T
    refine ⟨fun v g l k c p fs z => ?_, y', b, .callSusp c⟩
    cases z
    exact noG_app (a _ _ _ _ _ _ _ rfl) rfl
  | yield => exact fun _ y T => ⟨fun v g l k c p fs z => by cases z; rfl, y, T, .yield⟩
  | resumeFresh hs _ hq _ ih1 ih2 =>
    intro n y T
    obtain ⟨w, hy⟩ := T.same hs rfl
    obtain ⟨a1, y1, b1, c1⟩ := ih1 rfl _ (T.set w (z := .running) trivial)
    obtain ⟨a, y', b, c⟩ := ih2 n _ (b1.set w (plainE_gen a1))
    exact ⟨a, y', b, .resumeFresh hy c1 hq c⟩
  | resumeSuspended hs h1 hq _ ih1 ih2 =>
    intro n y T
    rcases T.susp hs with ⟨w, hy, hn⟩ | z
    · obtain ⟨a1, y1, b1, c1⟩ := ih1 hn _ (T.set w (z := .running) trivial)
      obtain ⟨a, y', b, c⟩ := ih2 n _ (b1.set w (plainE_gen a1))
      exact ⟨a, y', b, .resumeSuspended hy c1 hq c⟩
    · subst z
      exact (no_way h1 rfl).elim
  | resumeJustStarted hs hv _ ih =>
    intro n y T
    obtain ⟨w, hy⟩ := T.same hs rfl
    obtain ⟨a, y', b, c⟩ := ih n y T
    exact ⟨a, y', b, .resumeJustStarted hy hv c⟩
  | resumeThrowFresh hs _ ih =>
    intro n y T
    obtain ⟨w, hy⟩ := T.same hs rfl
    obtain ⟨a, y', b, c⟩ := ih n _ (T.set w (z := .finished) trivial)
    exact ⟨a, y', b, .resumeThrowFresh hy c⟩
  | resumeRunning hs _ ih =>
    intro n y T
    obtain ⟨w, hy⟩ := T.same hs rfl
    obtain ⟨a, y', b, c⟩ := ih n y T
    exact ⟨a, y', b, .resumeRunning hy c⟩
  | resumeFinished hs _ ih =>
    intro n y T
    obtain ⟨w, hy⟩ := T.same hs rfl
    obtain ⟨a, y', b, c⟩ := ih n y T
    exact ⟨a, y', b, .resumeFinished hy c⟩
  | segRet _ _ ih1 ih2 =>
    intro n y T
    obtain ⟨_, y1, b1, c1⟩ := ih1 rfl y T
    obtain ⟨a, y', b, c⟩ := ih2 (noG_tail n) y1 b1
    exact ⟨a, y', b, .segRet c1 c⟩
  | segGen _ _ _ _ => intro n; cases n
  | segSuspOut hn _ ih =>
    intro n y T
    obtain ⟨a, y', b, c⟩ := ih rfl y T
    refine ⟨fun v g l k c p fs z => ?_, y', b, .segSuspOut hn c⟩
    cases z
    exact noG_app (a _ _ _ _ _ _ _ rfl) n
  | segSuspGen hn _ _ _ _ _ => intro n; rw [n] at hn; cases hn
theorem wakes_tw {W : Nat → Option GenState} {M : Model} {Γ : Ctx} {p : Pos} {g : Nat} {r : Resume} {s s' : Shared} {res : GenResult} {y : Array GenState} (h : Wakes M Γ p g r s res s') (T : Tw W s.gens y) :
    ∃ y', Tw W s'.gens y' ∧ Wakes M Γ p g r { s with gens := y } res { s' with gens := y' } := by
  unfold Wakes at h ⊢
  split at h
  · exact h.elim
  · rename_i c hs
    obtain ⟨w, hy⟩ := T.same hs rfl
    split at h
    · obtain ⟨e, s1, hr, hq, rfl, rfl⟩ := h
      obtain ⟨a1, y1, b1, c1⟩ := runs_tw hr rfl _ (T.set w (z := .running) trivial)
      refine ⟨_, b1.set w (plainE_gen a1), ?_⟩
      show (match y[g]? with | _ => _)
      rw [hy]
      exact ⟨e, _, c1, hq, rfl, rfl⟩
    · obtain ⟨rfl, rfl⟩ := h
      refine ⟨y, T, ?_⟩
      show (match y[g]? with | _ => _)
      rw [hy]
      rename_i v hv
      cases v with
      | none => exact absurd rfl hv
      | _ => exact ⟨rfl, rfl⟩
    · obtain ⟨rfl, rfl⟩ := h
      refine ⟨_, T.set w (z := .finished) trivial, ?_⟩
      show (match y[g]? with | _ => _)
      rw [hy]
      exact ⟨rfl, rfl⟩
  · rename_i k l c q fs cl hs
    rcases T.susp hs with ⟨w, hy, hn⟩ | z
    · obtain ⟨e, s1, hr, hq, rfl, rfl⟩ := h
      obtain ⟨a1, y1, b1, c1⟩ := runs_tw hr hn _ (T.set w (z := .running) trivial)
      refine ⟨_, b1.set w (plainE_gen a1), ?_⟩
      show (match y[g]? with | _ => _)
      rw [hy]
      exact ⟨e, _, c1, hq, rfl, rfl⟩
    · subst z
      obtain ⟨e, s1, hr, _⟩ := h
      exact (no_way hr rfl).elim
  · rename_i hs
    obtain ⟨w, hy⟩ := T.same hs rfl
    obtain ⟨rfl, rfl⟩ := h
    refine ⟨y, T, ?_⟩
    show (match y[g]? with | _ => _)
    rw [hy]
    exact ⟨rfl, rfl⟩
  · rename_i hs
    obtain ⟨w, hy⟩ := T.same hs rfl
    obtain ⟨rfl, rfl⟩ := h
    refine ⟨y, T, ?_⟩
    show (match y[g]? with | _ => _)
    rw [hy]
    exact ⟨rfl, rfl⟩
/-- what is wanted over the table x, behind a run over the table y -/
def Bk {α : Type} (W : Nat → Option GenState) (Q : α → Pos → Shared → Prop) : α → Pos → Shared → Prop := fun a p s => ∃ x, Tw W x s.gens ∧ Q a p { s with gens := x }
theorem wp_tw {α : Type} (W : Nat → Option GenState) (M : Model) (Γ : Ctx) (t : Sem α) : ∀ (Q : α → Pos → Shared → Prop) (E : Value → Pos → Shared → Prop) (p : Pos) (s : Shared) (y : Array GenState), Tw W s.gens y → wp M Γ t Q E p s →
    wp M Γ t (Bk W Q) (Bk W E) p { s with gens := y } := by
  induction t with
  | pure a => intro Q E p s y T h; exact ⟨_, T, h⟩
  | raise e => intro Q E p s y T h; exact ⟨_, T, h⟩
  | unsupported _ => intro Q E p s y _ h; exact h
  | finish _ => intro Q E p s y _ h; exact h
  | register _ _ => intro Q E p s y _ h; exact h
  | fork _ _ => intro Q E p s y _ h; exact h
  | yield _ _ _ _ => intro Q E p s y _ h; exact h
  | await _ _ _ _ _ => intro Q E p s y _ h; exact h
  | rule _ k ih => intro Q E p s y T h; exact ih () Q E p s y T h
  | «at» q k ih => intro Q E p s y T h; exact ih () Q E q s y T h
  | point _ k ih => intro Q E p s y T h; exact ih () Q E p s y T h
  | loadIfAlive a k ih => intro Q E p s y T h; exact ih _ Q E p s y T h
  | ask k ih => intro Q E p s y T h; exact ih _ Q E p s y T h
  | handled own k ih => intro Q E p s y T h; exact ih _ Q E p s y T h
  | stack k ih => intro Q E p s y T h; exact ih _ Q E p s y T h
  | thread k ih => intro Q E p s y T h; exact ih _ Q E p s y T h
  | load a _ k ih => intro Q E p s y T ⟨o, ho, h⟩; exact ⟨o, ho, ih o Q E p s y T h⟩
  | update a _ f k ih => intro Q E p s y T h; exact ⟨h.1, ih () Q E p { s with heap := s.heap.update a f } y T h.2⟩
  | alloc o k ih => intro Q E p s y T h; exact ih _ Q E p { s with heap := s.heap.push o } y T h
  | fresh k ih => intro Q E p s y T h; exact ih _ Q E p { s with toks := s.toks + 1 } y T h
  | choose src m k ih => intro Q E p s y T h; exact ⟨h.1, ih _ Q E p { s with drawn := s.drawn.bump src } y T h.2⟩
  | os q _ k ih => intro Q E p s y T h; exact ih _ Q E p { s with os := (Os.step s.os q).1 } y T h
  | call c hd _ _ k ih =>
    intro Q E p s y T ⟨r, s1, hr, h⟩
    obtain ⟨_, y1, T1, hr1⟩ := runs_tw (W := W) hr rfl y T
    exact ⟨r, { s1 with gens := y1 }, hr1, ih r Q E p s1 y1 T1 h⟩
  | genState g k ih =>
    intro Q E p s y T ⟨st, hs, h⟩
    obtain ⟨st', h1, h2⟩ := T.seen hs
    exact ⟨st', h1, by rw [h2]; exact ih _ Q E p s y T h⟩
  | newGen c k ih =>
    intro Q E p s y T h
    have := ih _ Q E p { s with gens := s.gens.push (.fresh c) } _ T.push h
    rw [T.size] at this
    exact this
  | resume g r _ k ih =>
    intro Q E p s y T ⟨res, s1, hw, h⟩
    obtain ⟨y1, T1, hw1⟩ := wakes_tw hw T
    exact ⟨res, { s1 with gens := y1 }, hw1, ih res Q E p s1 y1 T1 h⟩
/-- a run told where all that are asleep are blocked: they sleep on -/
theorem asleep {α : Type} {M : Model} {A : Around} {t : Sem α} {Q : α → Shared → Prop} {E : Value → Shared → Prop} {s : Shared} (h : wpAny M A t Q E { s with gens := s.gens.map blk }) :
    wpAny M A t (fun a s1 => ∃ x, Tw (fun i => match s.gens[i]? with | some z => if slp z = true then some z else none | none => none) x s1.gens ∧ Q a { s1 with gens := x })
      (fun a s1 => ∃ x, Tw (fun i => match s.gens[i]? with | some z => if slp z = true then some z else none | none => none) x s1.gens ∧ E a { s1 with gens := x }) s := fun Γ p hΓ =>
  wp_tw _ M Γ t _ _ p { s with gens := s.gens.map blk } s.gens (tw_all s.gens) (h Γ p hΓ)
theorem tw_kept {y x y1 : Array GenState} {g : Nat} {z : GenState} (T : Tw (fun i => match y[i]? with | some z => if slp z = true then some z else none | none => none) x y1) (h : y[g]? = some z) (hz : slp z = true) : y1[g]? = some z := by
  rcases T.at_ g with ⟨z', h1, _, h3, _⟩ | ⟨h1, _⟩
  · simp [h, hz] at h1
    rw [h3, h1]
  · simp [h, hz] at h1
theorem blk_allBare {y : Array GenState} (h : PyProof.Rows.AllBare y) : PyProof.Rows.AllBare (y.map blk) := fun z hz => by
  obtain ⟨z', hz', rfl⟩ := Array.mem_map.mp hz
  rw [blk_bare]
  exact h _ hz'
end PZ

/-! Generators whose consumer changes what it likes of its own. -/
namespace L2
open PySem PySem.Spec PyProof.Rows GenW
/-- asleep: all but C stands as it was -/
structure Zzz (C : List Addr) (s s' : Shared) : Prop where
  o : s'.os = s.os
  g : AllBare s'.gens
  k : ∀ b ob, b ∉ C → s.heap.get? b = some ob → s'.heap.get? b = some ob
section
variable {X : Cx} {ip : List (Addr × Obj)} {σ : L2.St} {H : Hp} {s s' : Shared} {C : List Addr}
theorem Inv.asleep (I : Inv X ip σ H s) (hf : ∀ b ∈ C, FpOk X ip H b) (z : Zzz C s s') : Inv X ip σ H s' := by
  have nc : ∀ b u, H b = some u → b ∉ C := fun b u e m => by rw [(hf b m).1] at e; cases e
  have lc : X.env.locals ∉ C := fun m => (hf _ m).2.1 rfl
  obtain ⟨z1, z2, z3⟩ := z
  obtain ⟨hp, ge, dr, tk, os⟩ := s'
  obtain rfl : os = s.os := z1
  refine I.step (g' := ge) (t' := tk) (d' := dr) (ch := C) (fun b m => ⟨(hf b m).2.2.2.1, (hf b m).2.1, (hf b m).2.2.2.2.1, (hf b m).2.2.2.2.2⟩)
    (fun b ob _ _ m e _ => z3 b ob m e) (fun b ob _ _ m e _ => ⟨_, z3 b ob m e⟩) (fun _ _ _ _ e => e) (fun b ob m e => ⟨_, z3 b ob m e⟩) (fun _ _ e => e) (fun _ _ _ e => e) (fun b ps e => ⟨#[], by simp [e]⟩) (fun m hm => ?_) (fun b u e => ?_) z2
  · obtain ⟨ob, es, ep, e, r⟩ := hm
    exact ⟨ob, es, ep, z3 _ _ lc e, r⟩
  · refine (I.hok b u e).stay (fun c v hc y => z3 c v ?_ y) (fun _ y => y) fun _ _ y => y
    rcases hc with y | y
    · rw [y]; exact nc b u e
    · exact nc c _ y
/-- what stood stands, but own -/
abbrev Stood (own : Addr → Prop) (s s' : Shared) : Prop := ∀ b ob, ¬ own b → s.heap.get? b = some ob → s'.heap.get? b = some ob
/-- an expression that changes nothing -/
structure PureE (X : Cx) (e : Expr) (r : L2.St → Hp → V → Prop) : Prop where
  run : ∀ (pins : List (Addr × Obj)) (s : Shared) (σ : L2.St) (H : Hp) (v : V) (Q : Value → Shared → Prop) (E : Value → Shared → Prop), Inv X pins σ H s → r σ H v → (∀ u k, RelV v u → Q u { s with toks := k }) → wpAny (model X.prog X.w) X.A (eval e X.env) Q E s
/-- self._f -/
def rdFld (K : PySem.W.Frag) (i : Nat) (f : Str) : L2.St → Hp → V → Prop := fun σ H v => ∃ a C dx fs, σ[i]? = some (some (.ref a)) ∧ H a = some (.ins C dx fs) ∧ Cls K C ∧ NoAttr K C f ∧ fs.lookup f = some v
theorem pure_fld {i : Nat} {x f : Str} {p pos : Pos} (hN : X.N[i]? = some x) (hk : X.env.scope.names.lookup x = some .local) (hb : attributeBase (.Name x p) f X.env (eval (.Name x p) X.env) = eval (.Name x p) X.env) (hd : (x == ("__debug__" : Str)) = false := by decide) (hcd : (x == ("__classdict__" : Str)) = false := by decide) (hvi : Vis X.env.scope x) :
    PureE X (.Attribute (.Name x p) f pos) (rdFld X.K i f) := ⟨fun pins s σ H v Q E I ⟨a, C, dx, fs, hs, e, c, n, l⟩ h => by
  refine attr_of hb ?_
  obtain ⟨m, hn, hl⟩ := I.loc
  obtain ⟨u, r, w⟩ := hl i x _ hN hs hvi
  obtain rfl : u = Value.ref a := r
  have go : wpAny (model X.prog X.w) X.A (getAttr (.ref a) f true) Q E s := by
    obtain ⟨mA, O, r1, _, _, _⟩ := ins_get I.hok e
    obtain ⟨u, hu, ru⟩ := RelO.some_of (v := v) (o := mA f) (by rw [← l]; exact r1 f)
    exact get_map I.kIn O (c.get f) c.hd n hu (handed_of ru) (h u _ ru)
  rcases w with ⟨_, hm⟩ | ⟨hk2, _⟩
  · exact wpAny_Name (wpAny_loadName_local I.ok.kind hk hn hm go) hd
  · have hk3 : X.env.kindOf x = some .local := hk
    rcases hk2 with z | z <;> (rw [hk3] at z; cases z)⟩
end
end L2

/-! Generators whose turns change their own iterator alone; what is told of a turn is told of the heap alone. -/
namespace L2
open PySem PySem.Spec PyProof.Rows GenW
/-- nothing but the object at it has changed (or has been made) -/
def OnlyZ (it : Addr) (s s' : Shared) : Prop := ∃ h tk, s' = { s with heap := h, toks := tk } ∧ ∀ b o, b ≠ it → s.heap.get? b = some o → h.get? b = some o
theorem OnlyZ.refl {it : Addr} {s : Shared} : OnlyZ it s s := ⟨s.heap, s.toks, rfl, fun _ _ _ e => e⟩
theorem OnlyZ.trans {it : Addr} {s s1 s2 : Shared} (a : OnlyZ it s s1) (b : OnlyZ it s1 s2) : OnlyZ it s s2 := by
  obtain ⟨h, tk, rfl, k⟩ := a
  obtain ⟨h2, tk2, rfl, k2⟩ := b
  exact ⟨h2, tk2, rfl, fun b o n e => k2 b o n (k b o n e)⟩
theorem OnlyZ.of {it : Addr} {s : Shared} {h : Heap} {tk : Nat} (k : ∀ b o, b ≠ it → s.heap.get? b = some o → h.get? b = some o) : OnlyZ it s { s with heap := h, toks := tk } := ⟨h, tk, rfl, k⟩
structure QP (P : Program) (w : World) (it : Addr) (xs : List V) (St : Nat → Heap → Prop) : Prop where
  ty : ∃ T, (∀ j h, St j h → ∃ o, h.get? it = some o ∧ o.cls = .type T) ∧ typeLookup (.type T) "close" = pure none ∧ (Value.type T != Value.type "generator") = true
  item : ∀ (A : Around) (j : Nat) (x : V) (s : Shared) (Q : Option Value → Shared → Prop) (E : Value → Shared → Prop), A.handled = none → xs[j]? = some x → St j s.heap →
    (∀ v s', RelV x v → St (j + 1) s'.heap → OnlyZ it s s' → Q (some v) s') → wpAny (model P w) A (callSpecial? (.ref it) "__next__") Q E s
  done : ∀ (A : Around) (s : Shared) (Q : Option Value → Shared → Prop) (E : Value → Shared → Prop), A.handled = none → St xs.length s.heap →
    (∀ e s', StopX e s'.heap → OnlyZ it s s' → E e s') → wpAny (model P w) A (callSpecial? (.ref it) "__next__") Q E s
/-- an item; the end -/
def YP (it : Addr) (xs : List V) (St : Nat → Heap → Prop) : Protocol := fun n s₀ v s1 kap => n + 1 ≤ xs.length ∧ ∃ x, xs[xs.length - (n + 1)]? = some x ∧ RelV x v ∧ OnlyZ it s₀ s1 ∧ St (xs.length - n) s1.heap ∧ ∀ s2 : Shared, St (xs.length - n) s2.heap → kap (.send .none) s2
def RP (it : Addr) : GenEnd := fun n s₀ r s1 => n = 0 ∧ (r = .ok (.ret .none) ∨ r = .ok .next) ∧ OnlyZ it s₀ s1
abbrev cYf (it : Addr) : Code := .builtin "proto.yield_from" ⟨[.ref it, .bool false, .none], []⟩
theorem den_yfP {P : Program} {w : World} {it : Addr} : (model P w).den (cYf it) = Builtin.«proto.yield_from» ⟨[.ref it, .bool false, .none], []⟩ := by
  show (match entryFor table "proto.yield_from" with
    | some q => q ⟨[.ref it, .bool false, .none], []⟩
    | none => unsupported ((withoutEnding? "proto.yield_from" "#data").getD "proto.yield_from")) = _
  rw [entry_yf]
section
variable {P : Program} {w : World}
/-- «yield from», turn by turn -/
theorem seg_yfP {A : Around} {fs : List Frame} {it : Addr} {xs : List V} {St : Nat → Heap → Prop} (q : QP P w it xs St)
    (a1 : (A.over (cYf it) fs).handled = none) (a2 : splitAtGen fs = none) (a3 : fs.any Frame.guarded = false)
    (hE : ∀ (s₀ s : Shared), OnlyZ it s₀ s → Seg (model P w) A (RP it) (YP it xs St) 0 s₀ (cYf it) (.pure (.done (.ret .none))) fs s) :
    ∀ (r j : Nat) (s₀ s : Shared), j + r = xs.length → St j s.heap → OnlyZ it s₀ s → Seg (model P w) A (RP it) (YP it xs St) r s₀ (cYf it) ((model P w).den (cYf it)) fs s := by
  obtain ⟨T, hT, hcl, hng⟩ := q.ty
  have nn : (Value.none == Value.none) = true := rfl
  intro r
  induction r with
  | zero =>
    intro j s₀ s hj hs hst
    obtain rfl : j = xs.length := by omega
    rw [den_yfP]
    unfold Builtin.«proto.yield_from»
    try dsimp only
    refine seg_bind (wpAny_pure ?_)
    try dsimp only
    refine seg_bind (wpAny_attempt (wpAny_holding ?_))
    rw [if_neg Bool.false_ne_true, if_pos nn]
    refine wpAny_bind (wpAny_rule (wpAny_bind (q.done _ s _ _ a1 hs fun e s5 ⟨a, ob, vs, ee, eo, ec, ed, e5⟩ on => ?_)))
    subst ee
    try dsimp only
    refine seg_bind (wpAny_endsTurn eo ec ?_)
    try dsimp only
    rw [if_pos rfl]
    first
      | refine seg_bind (wpAny_rule ?_)
      | (rw [if_neg Bool.false_ne_true]; refine seg_bind (wpAny_rule ?_))
      | (rw [if_neg Bool.false_ne_true]; refine seg_bind (wpAny_pure ?_); refine seg_bind (wpAny_rule ?_))
    exact seg_bind (wpAny_field eo ed e5 (hE s₀ _ (hst.trans on)))
  | succ r ih =>
    intro j s₀ s hj hs hst
    obtain ⟨x, hx⟩ : ∃ x, xs[j]? = some x := ⟨_, List.getElem?_eq_getElem (show j < xs.length by omega)⟩
    rw [den_yfP]
    unfold Builtin.«proto.yield_from»
    try dsimp only
    refine seg_bind (wpAny_pure ?_)
    try dsimp only
    refine seg_bind (wpAny_attempt (wpAny_holding ?_))
    rw [if_neg Bool.false_ne_true, if_pos nn]
    refine wpAny_bind (wpAny_rule (wpAny_bind (q.item _ j x s _ _ a1 hx hs fun v s5 rv hs2 on => ?_)))
    obtain ⟨oi, e1, e2⟩ := hT (j + 1) _ hs2
    refine wpAny_pure ?_
    try dsimp only
    refine seg_bind (wpAny_typeOf (T := T) ⟨oi, e1, e2⟩ ?_)
    try dsimp only
    first
      | (refine seg_bind (wpAny_of_eq hcl ?_); refine seg_bind (wpAny_pure ?_))
      | refine seg_bind (wpAny_bind (wpAny_of_eq hcl (wpAny_pure ?_)))
      | refine seg_bind (wpAny_of_eq hcl ?_)
    try dsimp only
    refine seg_bind (wpAny_sleptOver e1 e2 hng (seg_yield a2 rfl a3 ?_))
    refine ⟨by omega, x, by rw [show xs.length - (r + 1) = j by omega]; exact hx, rv, hst.trans on, by rw [show xs.length - r = j + 1 by omega]; exact hs2, fun s2 hs3 => ?_⟩
    rw [show xs.length - r = j + 1 by omega] at hs3
    obtain ⟨oj, e3, e4⟩ := hT (j + 1) s2.heap hs3
    show Seg _ _ _ _ r s2 _ (Builtin.Generator.sleptOver (.ref it) false >>= fun _ => _) fs s2
    refine seg_bind (wpAny_sleptOver e3 e4 hng ?_)
    try dsimp only
    exact seg_bind (wpAny_pure (seg_again (plainId_quiet plain_yf _) (ih (j + 1) s2 s2 (by omega) hs3 .refl)))
/-! the iterator of a tuple -/
def TupAt (h : Heap) (t : Addr) (xs : List V) : Prop := ∃ its : List Value, Vals xs its ∧ IsTup h t its.toArray
def StT (it t : Addr) (xs : List V) : Nat → Heap → Prop := fun j h => IsTupIter h it t j ∧ TupAt h t xs
theorem qp_tup {t it : Addr} {xs : List V} (hn : t ≠ it) : QP P w it xs (StT it t xs) where
  ty := ⟨"tuple_iterator", fun j h ⟨⟨o, e, c, _⟩, _⟩ => ⟨o, e, c⟩, close_tup, by decide⟩
  item := fun A j x s2 Q E hh hx ⟨q1, its, r, q2⟩ hQ => by
    obtain ⟨u, hu, ru⟩ := r.get hx
    exact special_tup_item q1 q2 (x := u) (by simpa using hu) fun h' q3 sb => hQ u _ ru ⟨q3, its, r, q2.extBut sb.extBut hn⟩ (.of (tk := s2.toks) fun b o hb e => sb.extBut b o hb e)
  done := fun A s2 Q E hh ⟨q1, its, r, q2⟩ hE => by
    have hl := r.length
    have hz : its[xs.length]? = none := List.getElem?_eq_none (by omega)
    exact special_tup_end hh q1 q2 (by simpa using hz) fun e h' st kp => hE e _ st (.of (tk := s2.toks) fun b o hb e => kp b o hb e)
end
section
variable {X : Cx} {ip : List (Addr × Obj)} {σ : L2.St} {H : Hp} {s : Shared}
theorem seg_fromP {e : Expr} {rd : L2.St → Hp → V → Prop} {yp pos : Pos} {A : Around} {c : Code} {fs : List Frame} {K : Flow → Sem PySem.Fin} {J : Value → Sem PySem.Fin} {gd : Bool → Bool} {lv : List Value → List Value} {t : Addr} {xs : List V} (he : PureE X e rd) (hc : X.A.handled = none) (hi : interactive X.env = false)
    (ov : A.over c fs = X.A) (sp : splitAtGen fs = none) (ug : fs.any Frame.guarded = false) (gf : gd false = false) (I : Inv X ip σ H s) (hr : rd σ H (.ref t)) (ht : SqT X.K H t xs)
    (hE : ∀ (s₀ s' : Shared), OnlyZ s.heap.objs.size s₀ s' → Seg (model X.prog X.w) A (RP s.heap.objs.size) (YP s.heap.objs.size xs (StT s.heap.objs.size t xs)) 0 s₀ c (K .next) fs s') :
    Seg (model X.prog X.w) A (RP s.heap.objs.size) (YP s.heap.objs.size xs (StT s.heap.objs.size t xs)) xs.length s c ((exec (.Expr (.YieldFrom e yp) pos) X.env).wrap K J gd lv) fs s := by
  rw [exec_Expr X.env _ pos hi rfl]
  show Seg _ _ _ _ _ s c (.at pos fun _ => ((eval e X.env >>= fun z => (standAt yp >>= fun _ => yieldFrom X.env z)) >>= fun z => dropValue (.YieldFrom e yp) pos z).wrap K J gd lv) fs s
  refine seg_at (segw_bind2 ?_)
  rw [ov]
  refine he.run ip s σ H (.ref t) _ _ I hr fun u k ru => ?_
  obtain rfl : u = Value.ref t := ru
  have I1 := I.tok k
  obtain ⟨its, ri, tt, hl⟩ := I1.tuple ht
  refine seg_at ?_
  show Seg _ _ _ _ _ s c ((yieldFrom X.env (.ref t)).wrap (fun z => (dropValue (.YieldFrom e yp) pos z).wrap K J gd lv) J gd lv) fs _
  unfold yieldFrom
  refine seg_bind_wrap (wpAny_typeOf tt.typeIs ?_)
  rw [if_neg (by decide)]
  refine seg_bind_wrap (wpAny_holding ?_)
  rw [ov]
  have hlt := Heap.lt_size (show ∃ o, s.heap.get? t = some o from tt.imp fun _ z => z.1).choose_spec
  refine iter_tuple tt (seg_call fun p => ?_)
  refine seg_yfP (qp_tup (Nat.ne_of_lt hlt)) ?_ ?_ ?_ (fun s₀ s' st => seg_leaf (.ok (.ret .none)) (hE s₀ s' st)) xs.length 0 s _ (Nat.zero_add _) ⟨⟨_, Heap.get?_push_size _ rfl, rfl, rfl⟩, its, ri, tt.push _⟩ (.of fun b ob _ z => Heap.get?_push_of_some _ z)
  · show (A.over c fs).handled = none
    rw [ov]; exact hc
  · show (splitAtGen fs).map _ = none
    rw [sp]; rfl
  · show (gd false || fs.any Frame.guarded) = false
    rw [gf, ug]; rfl
end
/-- what a call gives: a generator that has not begun; Src: what it wants of the heap when it is woken -/
def GMadeP (P : Program) (w : World) (k : Nat) (outer : List Env) (s : Shared) (xs : List V) (Src : Heap → Prop) (u : Value) (s' : Shared) : Prop :=
  ∃ (a : Addr) (g : Nat) (c : Code), u = .ref a ∧ s.heap.objs.size ≤ a ∧ a < s'.heap.objs.size ∧ s'.heap.IsGen a g ∧ s'.gens[g]? = some (.fresh c) ∧ s'.os = s.os ∧ AllBare s'.gens ∧ s'.heap.NoLimit ∧ (∀ b o, s.heap.get? b = some o → s'.heap.get? b = some o) ∧
    ∀ (Aw : Around) (s2 : Shared), Room k Aw → Aw.frames = some outer → (∀ b o, s'.heap.get? b = some o → s2.heap.get? b = some o) → s2.os = s.os → AllBare s2.gens →
      ∃ St : Nat → Heap → Prop, (∀ j h h', St j h → (∀ o, h.get? s2.heap.objs.size = some o → h'.get? s2.heap.objs.size = some o) → Src h' → St j h') ∧ (∀ j h, St j h → ∃ o, h.get? s2.heap.objs.size = some o ∧ ∀ v, o.data ≠ .cell v) ∧
        Seg (model P w) Aw (RP s2.heap.objs.size) (YP s2.heap.objs.size xs St) xs.length s2 c ((model P w).den c) [] s2
structure GFnP (P : Program) (w : World) (K : PySem.W.Frag) (mg : Str → Option Value) (base : Heap) (k : Nat) (f : Addr) (fd : FuncData) (ps : List Str) (rz : List V → Hp → List V → (Hp → Prop) → Prop) : Prop where
  len : ∀ vs H xs L, rz vs H xs L → vs.length = ps.length
  run : ∀ (A : Around) (outer : List Env) (s : Shared) (H : Hp) (args : Args) (us : List Value) (vs xs : List V) (L : Hp → Prop), Room k A → Env0 P w K mg base A outer s H → BindsTo s fd args (ps.zip us) → Vals vs us → rz vs H xs L →
    codeAny (model P w) A (.call (.ref f) args) (fun r s' => match r with | .ok (.ret u) => ∃ Src : Heap → Prop, (∀ H' h, K.In h → HOk P w H' h → L H' → Src h) ∧ GMadeP P w k outer s xs Src u s' | _ => False) s
/-- a generator def whose body is one `yield from e`, e a tuple -/
theorem gfnP_of {P : Program} {w : World} {K : PySem.W.Frag} {mg : Str → Option Value} {base : Heap} {k : Nat} {f : Addr} {name qual : Str} {params : Arguments} {e : Expr} {yp pos : Pos} {scope : Scope} {dV kV doc pm cdv ct oc : Value} {an od : Option Addr}
    {osl : Array (Option Value)} {N ps : List Str} {rz : List V → Hp → List V → (Hp → Prop) → Prop} (lk : K.lookup f = some ⟨oc, od, .func (PySem.W.fnOf name qual params [.Expr (.YieldFrom e yp) pos] scope dV kV doc pm an cdv ct), osl⟩) (hcd : PySem.W.codeIn K cdv qual = true) (S : GScope N ps scope)
    (len : ∀ vs H xs L, rz vs H xs L → vs.length = ps.length) (hi : ∀ n, interactive (envOfC qual scope n f cdv) = false)
    (hb : ∀ (H : Hp) (vs xs : List V) (L : Hp → Prop), rz vs H xs L →
      ∃ rd t, rd (start N vs) H (.ref t) ∧ SqT K H t xs ∧ (L = fun H' => SqT K H' t xs) ∧ ∀ (A : Around) (outer : List Env) (s : Shared), PureE (gcxOf P w K mg base N qual scope f cdv A outer s H (fun _ _ _ => False) []) e rd) :
    GFnP P w K mg base (k + 1) f (PySem.W.fnOf name qual params [.Expr (.YieldFrom e yp) pos] scope dV kV doc pm an cdv ct) ps rz := ⟨len, fun A outer s H args us vs xs L hr e0 bi r hz => by
  have hl := len _ _ _ _ hz
  have KX : K.In s.heap := e0.mod.kin.keeps fun b o q => (e0.bs b o q).1
  have nl : s.heap.NoLimit := e0.mod.nolimit.keeps fun b o q => (e0.bs b o q).1
  have kinds : ∀ y ∈ ps.zip us, scope.names.lookup y.1 = some .local ∨ (scope.names.lookup y.1 = some .cell ∧ ((cellsFrom (s.heap.objs.size + 1) scope.names []).lookup y.1).isSome = true) := fun ⟨y, v⟩ hy =>
    (S.par y (List.of_mem_zip hy).1).imp id fun q => ⟨q, PySem.W.cellsFrom_some _ _ _ (.inl q)⟩
  obtain ⟨rd, t, w1, w2, hL, hE⟩ := hb H vs xs L hz
  refine codeAny_call_generator hr.depth (KX _ _ lk) rfl S.co S.gen rfl (PySem.W.codeRec_of KX hcd) (bi _ _ _ _ (wpAny_newFunctionEnv_cells S.kind kinds fun env he s1 x => ?_))
  subst he
  have nl1 : s1.heap.NoLimit := nl.keeps x.toInCall.keep
  refine ⟨nl1, ?_⟩
  obtain ⟨h1, tk, es1, hk1⟩ := x.done
  have os1 : s1.os = s.os := by rw [es1]
  have ge1 : s1.gens = s.gens := by rw [es1]
  have lt1 : s.heap.objs.size < s1.heap.objs.size := x.toInCall.ns.lt
  have done : ∀ (go : Obj) (nm qn : Value) (tk2 : Nat), go.cls = .type "generator" → go.data = .fields #[.int s1.gens.size 0, nm, qn] → go.slots = #[] → (∀ h : Heap, (h.push go).get? h.objs.size = some go) →
      GMadeP P w (k + 1) outer s xs (fun h => TupAt h t xs) (.ref s1.heap.objs.size) { s1 with gens := s1.gens.push (.fresh (.func [.Expr (.YieldFrom e yp) pos] (envOfC qual scope s.heap.objs.size f cdv))), toks := tk2, heap := s1.heap.push go } := fun go nm qn tk2 g1 g2 g3 g4 => by
    have gsz : (s1.heap.push go).objs.size = s1.heap.objs.size + 1 := Heap.size_push ..
    refine ⟨s1.heap.objs.size, s1.gens.size, _, rfl, Nat.le_of_lt lt1, by show _ < (s1.heap.push go).objs.size; omega, ⟨go, nm, qn, g4 _, g1, g2, g3⟩, Array.getElem?_push_size .., os1, AllBare.push (by rw [ge1]; exact e0.bare) rfl, nl1.keeps fun b o q => Heap.get?_push_of_some _ q,
      fun b o q => Heap.get?_push_of_some _ (x.toInCall.keep b o q), fun Aw s2 hrw hfr kp hos hba => ?_⟩
    refine ⟨StT s2.heap.objs.size t xs, fun j h h' ⟨⟨o, q1, q2⟩, _⟩ k1 k2 => ⟨⟨o, k1 _ q1, q2⟩, k2⟩, fun j h ⟨⟨o, q1, q2, q3⟩, _⟩ => ⟨o, q1, fun v z => by rw [q3] at z; cases z⟩, ?_⟩
    have e0w : Env0 P w K mg base Aw outer s H := ⟨hfr, e0.mod, e0.bs, e0.bsz, e0.funs, e0.frf, e0.hok, e0.bare⟩
    have I1 : Inv (gcxOf P w K mg base N qual scope f cdv Aw outer s H (fun _ _ _ => False) []) [] (start N vs) H s1 := inv_startG S hrw.hd e0w hl r x
    have kp2 : ∀ b o, s1.heap.get? b = some o → s2.heap.get? b = some o := fun b o q => kp b o (Heap.get?_push_of_some _ q)
    have I2 : Inv (gcxOf P w K mg base N qual scope f cdv Aw outer s H (fun _ _ _ => False) []) [] (start N vs) H s2 :=
      I1.call' (ch := []) (hos.trans os1.symm) (Un.kept kp2) (I1.hok.kept kp2) hba fun b q => by simp at q
    refine seg_func (seg_execs_cons ?_)
    have hh : (gcxOf P w K mg base N qual scope f cdv Aw outer s H (fun _ _ _ => False) []).A.handled = none := hrw.hd
    exact seg_fromP (hE Aw outer s) hh (hi _) over_func rfl rfl rfl I2 w1 w2 fun s₀ s3 st => seg_execs_nil (seg_end (.ok (.ret .none)) ⟨rfl, .inl rfl, st⟩)
  exact ⟨_, fun H' h kin hk hl' => by
    rw [hL] at hl'
    rcases hl' with (q | ⟨ob, q⟩) | ⟨ob, its, nn, q1, q2, q3, q4, q5⟩
    · obtain ⟨_, its, r1, r2⟩ := hk _ _ q
      exact ⟨its, r1, r2⟩
    · obtain ⟨_, _, its, r1, r2⟩ := hk _ _ q
      exact ⟨its, r1, r2⟩
    · exact ⟨its.toList, q5, ob, kin _ _ q1, q2, nn, q3⟩, done _ _ _ _ rfl rfl rfl fun h => Heap.get?_push_size _ rfl⟩⟩
/-- woken by next(..): it hands out an item and is asleep, or ends -/
theorem next_P {P : Program} {w : World} {A : Around} {s : Shared} {a it : Addr} {g n : Nat} {gs : GenState} {xs : List V} {St : Nat → Heap → Prop} {Q : Option Value → Shared → Prop} {E : Value → Shared → Prop} (hh : A.handled = none) (hl : s.heap.NoLimit) (hroom : A.depth < recursionLimit)
    (hg : s.heap.IsGen a g) (hgs : s.gens[g]? = some gs) (hgo : gs.Goes (model P w) A.in1 (RP it) (YP it xs St) n (.send .none) (s.setGen g .running))
    (hY : ∀ m x v s1 gs', n = m + 1 → n ≤ xs.length → xs[xs.length - n]? = some x → RelV x v → OnlyZ it (s.setGen g .running) s1 → St (xs.length - m) s1.heap → gs'.bare = true → PZ.slp gs' = true →
      (∀ s2 : Shared, St (xs.length - m) s2.heap → gs'.Goes (model P w) A.in1 (RP it) (YP it xs St) m (.send .none) s2) → Q (some v) (s1.setGen g gs'))
    (hD : ∀ s1, n = 0 → OnlyZ it (s.setGen g .running) s1 → ∀ h', (∀ b o, s1.heap.get? b = some o → h'.get? b = some o) → Q none { s1.setGen g .finished with heap := h' }) : wpAny (model P w) A (pyNext (.ref a)) Q E s := by
  -- the part within the generator's frame
  have inner : ∀ (k : GenResult → Sem PySem.Fin) (Q' : PySem.Fin → Shared → Prop) (E' : Value → Shared → Prop), (∀ x s1, RP it n (s.setGen g .running) x s1 → wpAny (model P w) A.in1 (k (End.ret x).result) Q' E' (s1.setGen g .finished)) →
      (∀ m x v s1 gs', n = m + 1 → n ≤ xs.length → xs[xs.length - n]? = some x → RelV x v → OnlyZ it (s.setGen g .running) s1 → St (xs.length - m) s1.heap → gs'.bare = true → PZ.slp gs' = true →
        (∀ s2 : Shared, St (xs.length - m) s2.heap → gs'.Goes (model P w) A.in1 (RP it) (YP it xs St) m (.send .none) s2) → wpAny (model P w) A.in1 (k (.yielded v)) Q' E' (s1.setGen g gs')) →
      wpAny (model P w) A.in1 (.resume g (.send .none) [] k) Q' E' s := by
    intro k Q' E' hR hS Γ p hΓ
    rw [Sem.wp_resume]
    have back : ∀ e1 s1, SegEnd (RP it) (YP it xs St) n (Seg.next (model P w) A.in1 (RP it) (YP it xs St) n) (s.setGen g .running) e1 s1 →
        e1.quiet = true ∧ Sem.wp (model P w) Γ (k e1.result) (fun a _ s' => Q' a s') (fun e _ s' => E' e s') p (s1.setGen g e1.genState) := by
      intro e1 s1 he
      cases e1 with
      | ret x => exact ⟨rfl, hR x s1 he Γ p hΓ⟩
      | susp v g0 l0 k0 c0 p0 fs0 =>
        refine ⟨he.1, ?_⟩
        cases n with
        | zero =>
          obtain ⟨_, x, _, _, _, h1, h2⟩ := he.2
          exact (h2 _ h1).elim
        | succ m =>
          obtain ⟨z1, x, z2, z3, z4, z5, z6⟩ := he.2
          exact hS m x v s1 _ rfl z1 z2 z3 z4 z5 (End.bare_of_quiet (e := .susp v g0 l0 k0 c0 p0 fs0) he.1) rfl (fun s2 q => z6 s2 q) Γ p hΓ
    cases gs with
    | fresh c =>
      obtain ⟨_, hs⟩ := hgo
      obtain ⟨e1, s1, hr, he⟩ := seg_iff.mp hs (Γ.wake c p) p rfl (hΓ.wake c p)
      have b := back e1 s1 he
      exact ⟨_, _, by unfold Wakes; rw [hgs]; exact ⟨e1, s1, hr, b.1, rfl, rfl⟩, b.2⟩
    | suspended k0 l0 c0 p0 fs0 cl =>
      obtain ⟨e1, s1, hr, he⟩ := seg_iff.mp hgo (Γ.wake c0 p) p0 rfl (hΓ.wake c0 p)
      have b := back e1 s1 he
      exact ⟨_, _, by unfold Wakes; rw [hgs]; exact ⟨e1, s1, hr, b.1, rfl, rfl⟩, b.2⟩
    | running => exact hgo.elim
    | finished => exact hgo.elim
  unfold pyNext
  refine wpAny_bind (wpAny_attempt (wpAny_callSpecial?_slot (name := Str.ofString "__next__") hg.typeIs slot_gen_next (wpAny_call_entry slot_gen_next hg.typeIs entry_gen_next ?_ (args_gen_next _))))
  show wpAny _ A.in1 (Builtin.Generator.genWake (.ref a) (.send .none)) _ _ s
  unfold Builtin.Generator.genWake
  refine wpAny_bind (wpAny_holding (wpAny_genNumber hg (wpAny_bind (wpAny_genState hgs ?_))))
  cases gs with
  | running => exact hgo.elim
  | finished => exact hgo.elim
  | _ =>
    refine wpAny_bind (wpAny_roomToWake hl hroom ?_)
    show wpAny _ A.in1 (.resume g (.send .none) [] _) _ _ s
    refine inner _ _ _ (fun x s1 hx => ?_) fun m x v s1 gs' z1 z2 z3 z4 z5 z6 z7 z8 z9 => wpAny_pure ⟨v, rfl, wpAny_pure (hY m x v s1 gs' z1 z2 z3 z4 z5 z6 z7 z8 z9)⟩
    obtain ⟨h0, hr, hp⟩ := hx
    have hres : End.result (.ret x) = .returned .none := by
      rcases hr with hr | hr <;> rw [hr] <;> rfl
    first | rw [hres] | simp only [hres]
    show wpAny _ A.in1 (newExc (.type "StopIteration") [] >>= _) _ _ _
    refine wpAny_bind ?_
    simp only [newExc, newTuple]
    refine wpAny_bind (wpAny_newObj_type ?_ (by size_fits))
    refine wpAny_bind (m := firstArgMember _ _) (wpAny_of_eq (a := Value.none) (by first | rfl | (simp only [firstArgMember]; rfl)) ?_)
    refine wpAny_newObj_type ?_ (by size_fits)
    simp only [raiseNew]
    refine wpAny_bind (wpAny_bind (wpAny_handled ?_))
    first | rw [show A.in1.handled = none from hh] | rw [hh]
    refine wpAny_throw ?_
    refine wpAny_bind (wpAny_isInstance (T := "StopIteration") (b := true) ⟨_, Heap.get?_push_size _ rfl, rfl⟩ isSubtype_stop ?_)
    exact wpAny_pure (hD s1 h0 hp _ fun b o hb => Heap.get?_push_of_some _ (Heap.get?_push_of_some _ hb))
end L2

/-! Calls of generator methods; list comprehensions over them; their elements are whatever PE serves. -/
namespace L2
open PySem PySem.Spec PyProof.Rows GenW
section
variable {X : Cx} {pins : List (Addr × Obj)} {σ : L2.St} {H : Hp} {s : Shared}
theorem Inv.gens {y : Array GenState} (I : Inv X pins σ H s) (h : AllBare y) : Inv X pins σ H { s with gens := y } := ⟨I.ok, I.os, h, I.base, I.loc, I.cell, I.free, I.freeC, I.pin, I.hok, I.len⟩
theorem Inv.only {it : Addr} {s' : Shared} (I : Inv X pins σ H s) (o : OnlyZ it s s') (hn : H it = none) (hL : it ≠ X.env.locals) (h1 : it ∈ X.ex ∨ X.s_0.heap.objs.size ≤ it) (h2 : ∀ x c, X.env.cells.lookup x = some c → c ≠ it) (h3 : ∀ p ∈ X.pn ++ pins, p.1 ≠ it) : Inv X pins σ H s' := by
  obtain ⟨h, tk, rfl, k⟩ := o
  exact I.turned (t' := tk) k hn hL h1 h2 h3
/-- told where all that are asleep are blocked -/
theorem awake {α : Type} {M : Model} {A : Around} {t : Sem α} {Q Q' : α → Shared → Prop} {E' : Value → Shared → Prop} {s : Shared} {g : Nat} {gs : GenState} (hg : s.gens[g]? = some gs) (hs : PZ.slp gs = true)
    (h : wpAny M A t Q (fun _ _ => False) { s with gens := s.gens.map PZ.blk }) (hQ : ∀ a s1 x, s1.gens[g]? = some gs → (AllBare x → AllBare s1.gens) → Q a { s1 with gens := x } → Q' a s1) : wpAny M A t Q' E' s :=
  wpAny_mono (PZ.asleep h) (fun a s1 ⟨x, T, q⟩ => hQ a s1 x (PZ.tw_kept T hg hs) T.bare q) fun _ _ ⟨_, _, z⟩ => z.elim
end
abbrev TGenP := L2.St → Hp → (List V → (Hp → Prop) → Hp → Prop) → Prop
/-- an expression whose value is a generator that has not begun -/
structure PGenP (X : Cx) (k : Nat) (e : Expr) (tg : TGenP) : Prop where
  run : ∀ (pins : List (Addr × Obj)) (s : Shared) (σ : L2.St) (H : Hp) (cont : List V → (Hp → Prop) → Hp → Prop), Inv X pins σ H s → tg σ H cont → wpAny (model X.prog X.w) X.A (eval e X.env)
    (fun u s' => ∃ H1 sc xs L Src, Inv X pins σ H1 sc ∧ (∀ H' h, X.K.In h → HOk X.prog X.w H' h → L H' → Src h) ∧ GMadeP X.prog X.w k X.stack sc xs Src u s' ∧ cont xs L H1) X.xe s
def tMethP (C : Addr) (m : Str) (rz : List V → Hp → List V → (Hp → Prop) → Prop) (ta : TE) : TGenP := fun σ H cont => ta σ H fun x H1 => ∃ a dx fs xs L, x = .ref a ∧ H1 a = some (.ins C dx fs) ∧ fs.lookup m = none ∧ rz [x] H1 xs L ∧ cont xs L H1
section
variable {X : Cx} {k : Nat} {f C : Addr} {fd : FuncData} {ps : List Str} {rz : List V → Hp → List V → (Hp → Prop) → Prop} {m : Str} {pos' apos : Pos} {o : Expr} {ta : TE}
/-- o.m() -/
theorem pgenP_meth0 {pl : Sem Bool} (he : PE X o ta) (c : Cls X.K C) (hm : Meth X.K C m f) (F : GFnP X.prog X.w X.K X.mg X.base k f fd ps rz) (hr : Room k X.A) (hb : Binds X.K fd ps [])
    (ht : eval (.Call (.Attribute o m apos) [] [] pos') X.env = (do
      let ov ← eval o X.env
      standAt apos.atName
      let (f, first) ← holding [ov] (getMethod ov m pl)
      callWith pos' f first (backTo pos' (starEach [] X.env)) (backToKw pos' (keywordEach [] X.env))) := by rfl) :
    PGenP X k (.Call (.Attribute o m apos) [] [] pos') (tMethP C m rz ta) := ⟨fun pins s σ H cont I h => by
  refine PySem.W.methodCall_KW (pl := pl) (thn (he.run pins s σ H _ I h) fun u s1 ⟨x, H1, I1, rx, a, dx, fs, xs, L, ex, ea, l, q, qc⟩ => ?_) ht
  subst ex
  obtain rfl : u = Value.ref a := rx
  refine getmeth_ok I1 ea c hm l ?_
  refine PySem.W.callWith_K0 (first := [.ref a]) I1.kIn hm.kp ?_
  have len := F.len _ _ _ _ q
  refine wpAny_call (codeAny_mono (F.run X.A X.stack s1 H1 ⟨[.ref a], []⟩ [.ref a] [.ref a] xs L hr I1.env0 (hb s1 [.ref a] I1.kIn len) (.cons rfl .nil) q) fun r s' hq => ?_)
  match r, hq with
  | .ok (.ret u), ⟨Src, q1, q2⟩ => exact ⟨H1, s1, xs, L, Src, I1, q1, q2, qc⟩⟩
end
/-- [elt for g in e if ..], e a generator -/
def tLcP (tg : TGenP) (g : TG) (tt : TT) (te : TE) (vs : List Nat) : TE := fun σ H Q => tg σ H fun xs L H1 => ∀ D, H1 D = none → ∃ W : Nat → Hp → Prop, W 0 (upd H1 D (.lst [])) ∧ (∀ i H, W i H → L H) ∧
  (∀ i x H, xs[i]? = some x → W i H → g x (wipe σ vs) H fun σ2 H2 => wipe σ2 vs = wipe σ vs ∧ tt σ2 H2 fun b H3 =>
    if b = true then te σ2 H3 fun y H4 => ∃ acc, H4 D = some (.lst acc) ∧ acc.length < sizeLine ∧ W (i + 1) (upd H4 D (.lst (acc ++ [y]))) else W (i + 1) H3) ∧
  ∀ H, W xs.length H → Q (.ref D) H
section
variable {X : Cx}
theorem lcp_core {k : Nat} {pins : List (Addr × Obj)} {s : Shared} {σ : L2.St} {H : Hp} {Q : VK} {elt tg iter : Expr} {ifs : List Expr} {scope : Scope} {own : List (Str × Nat)} {pos pos' : Pos} {wi : TGenP} {g : TG} {tt : TT} {te : TE} {use : Option (Value → Sem Unit)} {Qf : Value → Shared → Prop}
    (hc : X.calm = true) (hr : Room (k + 1) X.A) (hN : X.N.Nodup) (I : Inv X pins σ H s) (hi : PGenP X k iter wi) (ok : BlkOk X.N X.env.scope scope own)
    (hg : ∀ (s : Shared) (H : Hp) (C : Addr) (cl : List (Str × Addr)) (fp : List Addr), PG (X.blk s H scope (compEnvC scope cl C X.env) fp) tg g) (ht : ∀ (s : Shared) (H : Hp) (C : Addr) (cl : List (Str × Addr)) (fp : List Addr), PTs (X.blk s H scope (compEnvC scope cl C X.env) fp) ifs tt)
    (he : ∀ (s : Shared) (H : Hp) (C : Addr) (cl : List (Str × Addr)) (fp : List Addr), PE (X.blk s H scope (compEnvC scope cl C X.env) fp) elt te) (hs : ∀ x, foldedSetIterable iter X.env x = pure x)
    (h : tLcP wi g tt te (own.map (·.2)) σ H Q)
    (hRR : ∀ D C s' m H', Inv X pins σ H' s' → Q (.ref D) H' → s'.heap.Ns C m → FpOk X pins H' C → compPost (model X.prog X.w) X.A X.xe use Qf (.ref D) C (.ok .next) s') :
    wpAny (model X.prog X.w) X.A (comprehension (.ListComp elt [⟨tg, iter, ifs, 0⟩] scope pos) scope X.env pos' (newList []) false (eval iter X.env) use) Qf X.xe s := by
  have hfree : ∀ y ∈ scope.names, y.2 = .free → ∃ c, X.env.cells.lookup y.1 = some c := fun y hy e => by
    rcases ok.free y hy e with k | k
    · exact I.ok.has _ (.inl k)
    · exact I.ok.has _ (.inr k)
  refine wpAny_comprehension_free (use := use) rfl hs (closure_ok hfree) ok.kind (fun y hy e => by rw [ok.uniq y hy, e])
    (thn (hi.run pins s σ H _ I h) fun u s2 hx => ?_)
  obtain ⟨H2, sc, xs, L, Src, Ic, hsrc, ⟨a, gn, cd, hu, ha1, ha2, hgen, hfr, hos, hbare, hnl, hkp, wake⟩, q⟩ := hx
  subst hu
  have I2 : Inv X pins σ H2 s2 := Ic.call' (ch := []) hos (Un.kept hkp) (Ic.hok.kept hkp) hbare fun b z => by simp at z
  have fa : FpOk X pins H2 a := Ic.fpOk ha1 (Ic.hok.fresh ha1)
  refine wpAny_pyIter_gen hgen ?_
  refine wpAny_newObj_type (newEnv_comp ?_) (by show 0 ≤ sizeLine; decide)
  generalize hD : s2.heap.objs.size = D
  have hDn : H2 D = none := I2.hok.fresh (Nat.le_of_eq hD)
  obtain ⟨W, w0, hWL, step, fin⟩ := q D hDn
  generalize hs3 : ({ s2 with heap := s2.heap.push { cls := .type "list", data := .seq ([] : List Value).toArray } } : Shared) = s3
  have I3 : Inv X pins σ (upd H2 D (.lst [])) s3 := by
    rw [← hs3]
    refine I2.laid (t' := s2.toks) (fun b o e => Heap.get?_push_of_some _ e) (Nat.le_of_eq hD) ⟨Nat.zero_le _, [], 0, .nil, ?_⟩
    rw [← hD]
    exact Heap.get?_push_size _ rfl
  have h3 : s3.heap = s2.heap.push { cls := .type "list", data := .seq ([] : List Value).toArray } := by rw [← hs3]
  have g3 : s3.gens = s2.gens := by rw [← hs3]
  have o3 : s3.os = s2.os := by rw [← hs3]
  have a3 : a < s3.heap.objs.size := by rw [h3, Heap.size_push]; exact Nat.lt_succ_of_lt ha2
  have aD : a ≠ D := by rw [← hD]; exact Nat.ne_of_lt ha2
  have f3 : ∀ b ∈ [a], FpOk X pins (upd H2 D (.lst [])) b ∧ b < s3.heap.objs.size := fun b hb => by
    obtain rfl : b = a := by simpa using hb
    exact ⟨⟨by rw [upd_ne aD]; exact fa.1, fa.2⟩, a3⟩
  have I4 := block_start I3 ok hN f3
  have pg := hg s3 (upd H2 D (.lst [])) s3.heap.objs.size (cellsFrom (s3.heap.objs.size + 1) scope.names (cloFrom X.env.cells scope.names [])) [a]
  have pt := ht s3 (upd H2 D (.lst [])) s3.heap.objs.size (cellsFrom (s3.heap.objs.size + 1) scope.names (cloFrom X.env.cells scope.names [])) [a]
  have pe := he s3 (upd H2 D (.lst [])) s3.heap.objs.size (cellsFrom (s3.heap.objs.size + 1) scope.names (cloFrom X.env.cells scope.names [])) [a]
  show codeAny _ _ (.compStart (.ListComp elt [⟨tg, iter, ifs, 0⟩] scope pos) 0 (.ref a) (.ref D) (compEnvC scope (cellsFrom (s3.heap.objs.size + 1) scope.names (cloFrom X.env.cells scope.names [])) s3.heap.objs.size X.env)) (compPost (model X.prog X.w) X.A X.xe use Qf (.ref D) s3.heap.objs.size) { s3 with heap := pushCells (s3.heap.push { cls := .type "dict", data := .dict #[] }) scope.names }
  generalize hce : compEnvC scope (cellsFrom (s3.heap.objs.size + 1) scope.names (cloFrom X.env.cells scope.names [])) s3.heap.objs.size X.env = ce at I4 pg pt pe ⊢
  have cL : ce.locals = s3.heap.objs.size := by subst hce; rfl
  generalize hH3 : upd H2 D (.lst []) = H3 at I3 I4 pg pt pe w0 f3
  generalize hs4 : ({ s3 with heap := pushCells (s3.heap.push { cls := .type "dict", data := .dict #[] }) scope.names } : Shared) = s4 at I4 ⊢
  have k34 : ∀ b o, s3.heap.get? b = some o → s4.heap.get? b = some o := fun b o e => by rw [← hs4]; exact pushCells_keeps _ _ _ _ (Heap.get?_push_of_some _ e)
  have k24 : ∀ b o, s2.heap.get? b = some o → s4.heap.get? b = some o := fun b o e => k34 b o (by rw [h3]; exact Heap.get?_push_of_some _ e)
  have g4 : s4.gens = s2.gens := by rw [← hs4]; exact g3
  have o4 : s4.os = s2.os := by rw [← hs4]; exact o3
  have hgl : gn < s2.gens.size := (Array.getElem?_eq_some_iff.mp hfr).1
  have hroom : Room k X.A.in1 := ⟨hr.hd, by have := hr.dp; show X.A.depth + 3 * k + 5 < recursionLimit; omega, by have := hr.un; show X.A.units + 1 + 16 * k + 200 < cLine; omega⟩
  have hh : X.A.handled = none := hr.hd
  obtain ⟨St, stk, stc, seg0⟩ := wake X.A.in1 (s4.setGen gn .running) hroom Ic.ok.frames k24 (o4.trans hos) (allBare_setGen (by rw [g4]; exact hbare) rfl)
  generalize hit : s4.heap.objs.size = it
  have hit' : (s4.setGen gn .running).heap.objs.size = it := hit
  rw [hit'] at stk stc seg0
  have a4 : a < s4.heap.objs.size := let ⟨_, _, _, e, _⟩ := hgen; Heap.lt_size (k24 _ _ e)
  have ait : a ≠ it := by rw [← hit]; exact Nat.ne_of_lt a4
  have itL : it ≠ ce.locals := by rw [← hit]; exact Nat.ne_of_gt I4.lt
  have its0 : s3.heap.objs.size ≤ it := by
    have h1 : s3.heap.objs.size ≤ s4.heap.objs.size := I4.sz
    omega
  have itC : ∀ x c, ce.cells.lookup x = some c → c ≠ it := fun x c e => by
    obtain ⟨v, ob, z, _⟩ := I4.cell x c e
    rw [← hit]; exact Nat.ne_of_lt (Heap.lt_size z)
  have itF : it ∉ (X.blk s3 H3 scope ce [a]).fs := I4.nofs (Nat.le_of_eq hit)
  have aF : a ∉ (X.blk s3 H3 scope ce [a]).fs := I4.ok.exfs a (by simp)
  have aL : a ≠ ce.locals := (I4.ok.exf a (by simp)).1
  have gen4 : s4.heap.IsGen a gn := hgen.keeps k24
  have loop : codeAny (model X.prog X.w) X.A (.compLoop (.ListComp elt [⟨tg, iter, ifs, 0⟩] scope pos) 0 (.ref a) (.ref D) ce) (compPost (model X.prog X.w) X.A X.xe use Qf (.ref D) s3.heap.objs.size) s4 := by
    refine compLoop_any (fun n s' => ∃ i H', i + n = xs.length ∧ Inv (X.blk s3 H3 scope ce [a]) [] (wipe σ (own.map (·.2))) H' s' ∧ H' a = none ∧ H' it = none ∧ W i H' ∧ s'.heap.IsGen a gn ∧
      ∃ gs, s'.gens[gn]? = some gs ∧ gs.Goes (model X.prog X.w) X.A.in1 (RP it) (YP it xs St) (xs.length - i) (.send .none) (s'.setGen gn .running)) ?_ xs.length
      ⟨0, H3, Nat.zero_add _, I4, (f3 a (by simp)).1.1, I4.hok.fresh (Nat.le_of_eq hit), w0, gen4, .fresh cd, by rw [g4]; exact hfr, rfl, seg0⟩
    rintro n s5 ⟨i, H5, hin, I5, na, ni, w5, hg5, gs, hgs, hgo⟩
    refine next_P hh I5.nolimit hr.depth hg5 hgs hgo (fun m x v s6 gs' z1 z2 z3 z4 on st6 z7 z8 z9 => ?_) (fun s6 z1 on h' hk => ?_)
    · -- an item
      have e1 : xs.length - m = i + 1 := by omega
      rw [e1] at st6 z9
      have hx : xs[i]? = some x := by rw [show i = xs.length - (xs.length - i) by omega]; exact z3
      obtain ⟨h6, tk6, es6, k6⟩ := on
      have I6 : Inv (X.blk s3 H3 scope ce [a]) [] (wipe σ (own.map (·.2))) H5 (s6.setGen gn gs') := by
        have := (I5.gens (allBare_setGen (s := s5) (g := gn) I5.bare (x := .running) rfl)).only ⟨h6, tk6, es6, k6⟩ ni itL (.inr its0) itC (fun p hp => absurd (show p ∈ ([] : List (Addr × Obj)) ++ [] from hp) (by simp))
        exact this.gens (allBare_setGen this.bare z7)
      have g6 : (s6.setGen gn gs').gens[gn]? = some gs' := setGen_at (by
        have e : s6.gens = (s5.setGen gn .running).gens := by rw [es6]
        rw [e, setGen_size]
        exact (Array.getElem?_eq_some_iff.mp hgs).1)
      obtain ⟨oa, nm, qn, ea, ca, da, sa⟩ := hg5
      have ea6 : s6.heap.get? a = some oa := by
        rw [es6]; exact k6 a oa ait ea
      obtain ⟨oi, ei6, ni6⟩ := stc _ _ st6
      refine go_of (o := oa) ea6 ca da (by decide) ?_
      have I6p : Inv (X.blk s3 H3 scope ce [a]) [(a, oa), (it, oi)] (wipe σ (own.map (·.2))) H5 (s6.setGen gn gs') := I6.pins_of fun p hp => by
        rcases List.mem_cons.mp hp with rfl | hp
        · exact ⟨ea6, na, aL, aF, fun v z => by rw [da] at z; cases z⟩
        · obtain rfl : p = (it, oi) := by simpa using hp
          exact ⟨ei6, ni, itL, itF, ni6⟩
      -- the turn's end
      have fin2 : ∀ {s' : Shared} {σ8 : L2.St} {H' : Hp}, wipe σ8 (own.map (·.2)) = wipe σ (own.map (·.2)) → Inv (X.blk s3 H3 scope ce [a]) [(a, oa), (it, oi)] σ8 H' s' → s'.gens[gn]? = some gs' → W (i + 1) H' →
          ∃ m, m < n ∧ ∃ i H', i + m = xs.length ∧ Inv (X.blk s3 H3 scope ce [a]) [] (wipe σ (own.map (·.2))) H' s' ∧ H' a = none ∧ H' it = none ∧ W i H' ∧ s'.heap.IsGen a gn ∧
            ∃ gs, s'.gens[gn]? = some gs ∧ gs.Goes (model X.prog X.w) X.A.in1 (RP it) (YP it xs St) (xs.length - i) (.send .none) (s'.setGen gn .running) := fun {s' σ8 H'} hw I' gk w' => by
        obtain ⟨pa1, pa2, _⟩ := I'.pin (a, oa) (List.mem_append_right _ (by simp))
        obtain ⟨pi1, pi2, _⟩ := I'.pin (it, oi) (List.mem_append_right _ (by simp))
        have hl : (wipe σ (own.map (·.2))).length = σ8.length := by rw [← hw, wipe_length]
        have st' : St (i + 1) s'.heap := stk _ _ _ st6 (fun o e => by rw [ei6] at e; cases e; exact pi1) (hsrc H' _ I'.kIn I'.hok (hWL _ _ w'))
        refine ⟨m, by omega, i + 1, H', by omega, (I'.unpinned (pins := [])).weak hl (fun j v e => by rw [← hw] at e; exact (wipe_some e).1), pa2, pi2, w', ⟨oa, nm, qn, pa1, ca, da, sa⟩, gs', gk, ?_⟩
        rw [show xs.length - (i + 1) = m by omega]
        exact z9 _ st'
      have blocked : ∀ {σ' : L2.St} {H' : Hp} {s' : Shared}, Inv (X.blk s3 H3 scope ce [a]) [(a, oa), (it, oi)] σ' H' s' → Inv (X.blk s3 H3 scope ce [a]) [(a, oa), (it, oi)] σ' H' { s' with gens := s'.gens.map PZ.blk } := fun I' => I'.gens (PZ.blk_allBare I'.bare)
      refine awake g6 z8 (pg.run _ _ _ H5 x v _ (blocked I6p) z4 (step i x H5 hx w5)) fun _ s8 x8 g8 b8 q8 => ?_
      obtain ⟨σ8, H8, I8', hw8, q8⟩ := q8
      have I8 : Inv (X.blk s3 H3 scope ce [a]) [(a, oa), (it, oi)] σ8 H8 s8 := I8'.gens (y := s8.gens) (b8 I8'.bare)
      refine awake g8 z8 (pt.run _ _ σ8 H8 _ (blocked I8) q8) fun b s9 x9 g9 b9 q9 => ?_
      obtain ⟨H9, I9', q9⟩ := q9
      have I9 : Inv (X.blk s3 H3 scope ce [a]) [(a, oa), (it, oi)] σ8 H9 s9 := I9'.gens (y := s9.gens) (b9 I9'.bare)
      cases b with
      | false =>
        simp only [Bool.false_eq_true, if_false] at q9 ⊢
        exact fin2 hw8 I9 g9 q9
      | true =>
        simp only [if_true] at q9 ⊢
        refine awake g9 z8 (pe.run _ _ σ8 H9 _ (blocked I9) q9) fun z s10 x10 g10 b10 q10 => ?_
        obtain ⟨yv, H10, I10', r10, acc, hD10, hz10, nx⟩ := q10
        have I10 : Inv (X.blk s3 H3 scope ce [a]) [(a, oa), (it, oi)] σ8 H10 s10 := I10'.gens (y := s10.gens) (b10 I10'.bare)
        exact awake (Q := fun _ s11 => Inv (X.blk s3 H3 scope ce [a]) [(a, oa), (it, oi)] σ8 (upd H10 D (.lst (acc ++ [yv]))) s11) g10 z8 (app_ok (X := X.blk s3 H3 scope ce [a]) (blocked I10) hD10 hz10 r10 fun s11 I11 => I11) fun _ s11 x11 g11 b11 I11 => fin2 hw8 (I11.gens (y := s11.gens) (b11 I11.bare)) g11 nx
    · -- the end
      have ei : i = xs.length := by omega
      subst ei
      have I6 := (I5.gens (allBare_setGen (s := s5) (g := gn) I5.bare (x := .running) rfl)).only on ni itL (.inr its0) itC (fun p hp => absurd (show p ∈ ([] : List (Addr × Obj)) ++ [] from hp) (by simp))
      have I7 : Inv (X.blk s3 H3 scope ce [a]) [] (wipe σ (own.map (·.2))) H5 { s6.setGen gn .finished with heap := h' } := (I6.gens (allBare_setGen I6.bare (x := .finished) rfl)).kept (t' := s6.toks) hk
      have I8 : Inv X pins σ H5 { s6.setGen gn .finished with heap := h' } := I3.call' (ch := [a]) I7.os I7.base I7.hok I7.bare fun b hb => ⟨(f3 b hb).1.2.2.2.1, (f3 b hb).1.2.1, (f3 b hb).1.2.2.2.2.1, (f3 b hb).1.2.2.2.2.2⟩
      have nC : H5 s3.heap.objs.size = none := by
        have z : H5 ce.locals = none := I7.free
        rw [cL] at z
        exact z
      obtain ⟨mm, hn, _⟩ := I7.loc
      have hn : ({ s6.setGen gn .finished with heap := h' } : Shared).heap.Ns ce.locals mm := hn
      rw [cL] at hn
      exact hRR D s3.heap.objs.size _ mm H5 I8 (fin _ w5) hn (I3.fpOk (Nat.le_refl _) nC)
  exact codeAny_compStart_list loop (wpAny_pyIter_gen gen4 loop)
theorem pe_lcP {k : Nat} {elt tg iter : Expr} {ifs : List Expr} {scope : Scope} {own : List (Str × Nat)} {pos : Pos} {wi : TGenP} {g : TG} {tt : TT} {te : TE} (hc : X.calm = true) (hr : Room (k + 1) X.A) (hN : X.N.Nodup) (hi : PGenP X k iter wi) (ok : BlkOk X.N X.env.scope scope own)
    (hg : ∀ (s : Shared) (H : Hp) (C : Addr) (cl : List (Str × Addr)) (fp : List Addr), PG (X.blk s H scope (compEnvC scope cl C X.env) fp) tg g) (ht : ∀ (s : Shared) (H : Hp) (C : Addr) (cl : List (Str × Addr)) (fp : List Addr), PTs (X.blk s H scope (compEnvC scope cl C X.env) fp) ifs tt)
    (he : ∀ (s : Shared) (H : Hp) (C : Addr) (cl : List (Str × Addr)) (fp : List Addr), PE (X.blk s H scope (compEnvC scope cl C X.env) fp) elt te) (hs : ∀ x, foldedSetIterable iter X.env x = pure x := by intro _; rfl) :
    PE X (.ListComp elt [⟨tg, iter, ifs, 0⟩] scope pos) (tLcP wi g tt te (own.map (·.2))) := by
  refine ⟨fun pins s σ H Q I h => ?_⟩
  rw [eval_ListComp]
  refine lcp_core hc hr hN I hi ok hg ht he hs h fun D C s' m H' I' q hn f => ⟨m, hn, fun h'' sb => ?_⟩
  obtain ⟨f0, f1, f2, f3, f4, f5⟩ := f
  exact ⟨.ref D, H', I'.turned (t' := s'.toks) (fun b o hb e => (sb.2 b hb).trans e) f0 f1 f3 f4 f5, rfl, q⟩
end
end L2

/-! Generator methods whose body is `yield from self.f`, f a tuple: their promise; comprehensions over them, told by data. -/
namespace L2
open PySem PySem.Spec PyProof.Rows GenW
/-- self is an instance of C, its attribute f the tuple xs -/
def rzF (K : PySem.W.Frag) (C : Addr) (f : Str) : List V → Hp → List V → (Hp → Prop) → Prop := fun vs H xs L => ∃ a dx fs t, vs = [.ref a] ∧ H a = some (.ins C dx fs) ∧ fs.lookup f = some (.ref t) ∧ SqT K H t xs ∧ L = fun H' => SqT K H' t xs
def gbodyF (slf f : Str) (p1 p2 yp pos : Pos) : List Stmt := [.Expr (.YieldFrom (.Attribute (.Name slf p1) f p2) yp) pos]
theorem Fun.okP {P : Program} {w : World} {K : PySem.W.Frag} {mg : Str → Option Value} {base : Heap} {x qual slf fld : Str} {st : Stmt} {f C : Addr} {fd : FuncData} {k : Nat} {p1 p2 yp pos : Pos} (F : Fun K x qual st f fd) (hC : Cls K C) (hn : NoAttr K C fld)
    (hb : defBody st = gbodyF slf fld p1 p2 yp pos) (S : GScope [slf] [slf] (defScope st)) (hl : (defScope st).names.lookup slf = some .local) (hi : ∀ n cdv, interactive (envOfC qual (defScope st) n f cdv) = false := by intro _ _; rfl)
    (ha : ∀ n cdv, attributeBase (.Name slf p1) fld (envOfC qual (defScope st) n f cdv) (eval (.Name slf p1) (envOfC qual (defScope st) n f cdv)) = eval (.Name slf p1) (envOfC qual (defScope st) n f cdv) := by intro _ _; rfl)
    (hd : (slf == ("__debug__" : Str)) = false := by decide) (hcd : (slf == ("__classdict__" : Str)) = false := by decide) : GFnP P w K mg base (k + 1) f fd [slf] (rzF K C fld) := by
  obtain ⟨oc, od, kV, doc, pm, an, cdv, ct, osl, rfl, lk, hcode⟩ := F.ex
  rw [hb] at lk ⊢
  refine gfnP_of lk hcode S (fun vs H xs L ⟨_, _, _, _, e, _⟩ => by rw [e]; rfl) (fun n => hi n cdv) fun H vs xs L ⟨a, dx, fs, t, e, h1, h2, h3, h4⟩ => ?_
  subst e
  refine ⟨rdFld K 0 fld, t, ⟨a, C, dx, fs, rfl, h1, hC, hn, h2⟩, h3, h4, fun A outer s => ?_⟩
  exact pure_fld rfl hl (ha _ _) hd hcd (.inl hl)
end L2
namespace DL
open PySem L2 StX
section
variable {K : PySem.W.Frag} [Tb K] {Z : ZX} {b u u' u'' : Wd} {σ : L2.St} {ds : DS} {n : Nat} {P : D → Nat → Prop} {te ta : TE} {tt : TT} {g : TG} {C : Addr} {f m : Str} {vs : List Nat}
theorem we_lcP (h : We K Z ta ds n fun o j => ∃ fs xs, o = .obj C fs ∧ fs.lookup m = none ∧ fs.lookup f = some (.tup xs) ∧ ∃ Iv : Nat → List D → Nat → Prop, Iv 0 [] j ∧
    (∀ i x ys k, xs[i]? = some x → Iv i ys k → Wgc K Z g vs x (wipeD ds vs) fun ds2 => Wt K Z tt ds2 k fun c j => if c = true then We K Z te ds2 j (fun y l => ys.length < 1000000 ∧ Iv (i + 1) (ys ++ [y]) l) else Iv (i + 1) ys j) ∧
    (∀ ys k, Iv xs.length ys k → P (.lst ys) k)) : We K Z (tLcP (tMethP C m (rzF K C f) ta) g tt te vs) ds n P := fun b u σ Q e S k =>
  h b u σ _ e S fun v o u1 g1 s1 r ⟨fs, xs, z, hm, hf, Iv, i0, is, idn⟩ => by
    subst z
    obtain ⟨a, dx, fv, rfl, ha, hd⟩ := den_obj r
    obtain ⟨w0, hw, hdt⟩ := hd.look hf
    obtain ⟨t, ts, rfl, hsq, hts⟩ := den_tup hdt
    refine ⟨a, dx, fv, ts, _, rfl, g1.c _ _ ha, hd.miss hm, ⟨a, dx, fv, t, rfl, g1.c _ _ ha, hw, Evl.ex_t g1.c hsq, rfl⟩, fun Dl hD => ?_⟩
    have n0 : u1.H0 Dl = none := ex_none g1.c hD
    have nS : ¬ u1.S Dl := fun h => by
      obtain ⟨_, o, h1, _⟩ := s1 Dl h
      rw [hD] at h1; cases h1
    refine ⟨fun i H' => ∃ w ys acc, w.H1 = H' ∧ Gs u1 w ∧ StOk K w ∧ w.H0 Dl = none ∧ ¬ w.S Dl ∧ H' Dl = some (.lst acc) ∧ Dens K w acc ys ∧ Iv i ys w.n,
      ⟨⟨u1.S, u1.T, u1.n, u1.H0, upd u1.H1 Dl (.lst [])⟩, [], [], rfl, (Gs.refl g1.c).write hD n0, s1.write nS, n0, nS, upd_same, .nil, i0⟩, ?_, ?_, ?_⟩
    · rintro i H' ⟨w, ys, acc, rfl, g', _⟩
      exact Evl.ex_t g'.c (Evl.ex_t g'.a hsq)
    · rintro i v H' hv ⟨w, ys, acc, rfl, g', sw, c0, cS, hc, hr, iv⟩
      obtain ⟨x, hx, r⟩ := hts.get hv
      have r := r.mono g'.ls
      have S1 := ((S.go g1 s1).go g' sw).wipe vs
      have q := is i x ys w.n hx iv
      refine q b w (L2.wipe σ vs) v _ S1 r fun ds2 σ2 S2 l2 f2 q => ⟨wipe_of (l2.trans (wipe_length _ _)) f2, q b w σ2 _ rfl S2 fun c u3 g3 s3 q3 => ?_⟩
      have c2 := g3.nn c0 hc
      have cS2 := g3.ns cS hc
      have hc2 := g3.b _ _ cS hc
      cases c with
      | false => exact ⟨u3, ys, acc, rfl, g'.trans g3, s3, c2, cS2, hc2, hr.mono g3.ls, q3⟩
      | true =>
        refine q3 b u3 σ2 _ rfl (S2.go g3 s3) fun y d u4 g4 s4 r4 ⟨hl, p4⟩ => ?_
        have c3 := g4.nn c2 hc2
        have cS3 := g4.ns cS2 hc2
        have hc3 := g4.b _ _ cS2 hc2
        have l4 : Le u4 ⟨u4.S, u4.T, u4.n, u4.H0, upd u4.H1 Dl (.lst (acc ++ [y]))⟩ := ⟨fun _ h => h, fun _ _ => rfl, .refl _⟩
        exact ⟨acc, hc3, by rw [hr.len]; exact Nat.lt_of_lt_of_le hl (by decide), ⟨u4.S, u4.T, u4.n, u4.H0, upd u4.H1 Dl (.lst (acc ++ [y]))⟩, ys ++ [d], acc ++ [y], rfl, ((g'.trans g3).trans g4).write hD c3, s4.write cS3, c3, cS3, upd_same, ((hr.mono (g3.ls.trans g4.ls)).app (.cons r4 .nil)).mono l4, p4⟩
    · rintro H' ⟨w, ys, acc, rfl, g', sw, c0, cS, hc, hr, iv⟩
      rw [hts.len] at iv
      have l1 : Le w ⟨w.S, w.T, w.n, upd w.H0 Dl (.lst acc), w.H1⟩ := ⟨fun _ h => h, fun _ _ => rfl, ex_new c0⟩
      refine k (.ref Dl) (.lst ys) ⟨w.S, w.T, w.n, upd w.H0 Dl (.lst acc), w.H1⟩ (g1.trans (g'.settle hD c0 hc)) (sw.settle c0 cS) (.lst (SqL.of upd_same) (hr.mono l1)) (idn _ _ iv)
/-- typed -/
theorem we_lcPt {α : Type} (enc : α → D) (out : α → Option D) (l : List α) (h : We K Z ta ds n fun o j => ∃ fs, o = .obj C fs ∧ fs.lookup m = none ∧ fs.lookup f = some (.tup (l.map enc)) ∧ l.length ≤ 1000000 ∧
    (∀ x, x ∈ l → Wgc K Z g vs (enc x) (wipeD ds vs) fun ds2 => Wt K Z tt ds2 j fun c i => i = j ∧ if c = true then We K Z te ds2 j (fun y k => k = j ∧ out x = some y) else out x = none) ∧ P (.lst (l.filterMap out)) j) :
    We K Z (tLcP (tMethP C m (rzF K C f) ta) g tt te vs) ds n P :=
  we_lcP (h.imp fun o j ⟨fs, z, h1, h2, hl, hs, hp⟩ => by
    obtain ⟨Iv, a, b, c⟩ := lct_core (K := K) (Z := Z) (g := g) (tt := tt) (te := te) hl hs
    exact ⟨fs, l.map enc, z, h1, h2, Iv, a, b, fun ys k q => by obtain ⟨rfl, rfl⟩ := c ys k q; exact hp⟩)
end
end DL

/-! Generator methods whose body is `yield from self.f`, f a frozen dict: its keys. -/
namespace L2
open PySem PySem.Spec PyProof.Rows GenW
section
variable {P : Program} {w : World} {A : Around} {E : Value → Shared → Prop} {s : Shared} {κ : Type} [DecidableEq κ] {knd : KeyKind P w κ}
theorem special_key_item {it d : Addr} {i ep : Nat} {kvs : List (κ × Value)} {k : κ} {v : Value} {Q : Option Value → Shared → Prop} (hit : s.heap.IsKeyIter it d i kvs.length ep) (hm : s.heap.DictAt knd d kvs ep) (hx : kvs[i]? = some (k, v))
    (hQ : ∀ key h', knd.is k key = true → h'.IsKeyIter it d (i + 1) kvs.length ep → Heap.SameBut it s.heap h' → Q (some key) { s with heap := h' }) : wpAny (model P w) A (callSpecial? (.ref it) "__next__") Q E s := by
  obtain ⟨o, ho, hc, hd⟩ := id hit
  obtain ⟨od, es, hod, hcd, hdd, hk, hp, hn⟩ := id hm
  refine wpAny_callSpecial?_slot (name := Str.ofString "__next__") hit.typeIs F.slot_dict_keyiterator_next
    (wpAny_call_entry F.slot_dict_keyiterator_next hit.typeIs F.entry_dict_keyiterator_next ?_ (F.args_dict_keyiterator_next_1 _))
  refine wpAny_bind (wpAny_pure (wpAny_bind (wpAny_bind ?_)))
  first | refine wpAny_bind (wpAny_typeNameOfWhole_keyiter hit.typeIs (wpAny_pure ?_)) | refine wpAny_bind (wpAny_typeNameOf_keyiter hit.typeIs (wpAny_pure ?_))
  refine wpAny_bind (wpAny_fieldsOf ho hd ?_)
  have hown : Builtin.Dict_items.ownsTuple "dict_keyiterator" = false := by decide
  simp only [hown, Bool.false_eq_true, if_false]
  show wpAny _ _ (if (Value.ref d == Value.none) = true then _ else _) _ _ s
  rw [if_neg (show ¬ ((Value.ref d == Value.none) = true) from Bool.false_ne_true)]
  refine wpAny_bind (wpAny_pure (wpAny_bind (wpAny_dictEntries hod hdd ?_)))
  have hsz : es.size = kvs.length := by rw [← hp.length]; simp
  rw [if_neg (by rw [hsz]; simp)]
  refine wpAny_bind (wpAny_pure (wpAny_bind (wpAny_dictEpoch hod hdd ?_)))
  rw [if_neg (by simp)]
  refine wpAny_pure ?_
  have hlt : i < es.size := by rw [hsz]; exact (List.getElem?_eq_some_iff.mp hx).1
  have hkey : knd.is k es[i].key = true := (hp.get? (e := es[i]) (by simp [hlt]) hx).1
  simp only [show ¬ ((i : Int) < 0) from by omega, if_false, Int.toNat_natCast, Array.getElem?_eq_getElem hlt]
  refine wpAny_bind ?_
  first | refine wpAny_bind (wpAny_typeNameOfWhole_keyiter hit.typeIs (wpAny_pure ?_)) | refine wpAny_bind (wpAny_typeNameOf_keyiter hit.typeIs (wpAny_pure ?_))
  refine wpAny_bind (wpAny_isOneOf_keyiter hit.typeIs ?_)
  show wpAny _ _ (setField (.ref it) 1 (rawInt ((i : Int) + 1)) >>= _) _ _ s
  refine wpAny_bind (wpAny_setField ho hd (by simp) ?_)
  have hit' : (s.heap.update it (Obj.mapFields (·.setIfInBounds 1 (rawInt ((i : Int) + 1))))).IsKeyIter it d (i + 1) kvs.length ep :=
    ⟨_, Heap.get?_update_self _ ho (Obj.isFreed_of_fields (Obj.data_mapFields hd _)), (Obj.cls_mapFields ..).trans hc, by rw [Obj.data_mapFields hd]; simp [rawInt]⟩
  refine wpAny_bind (wpAny_holding ?_)
  refine wpAny_bind (wpAny_isOneOf_keyiter (s := { s with heap := s.heap.update it (Obj.mapFields (·.setIfInBounds 1 (rawInt ((i : Int) + 1)))) }) hit'.typeIs ?_)
  show wpAny _ _ (pure es[i].key) _ _ _
  exact wpAny_pure (wpAny_pure ⟨_, rfl, hQ _ _ hkey hit' (Heap.SameBut.update ..)⟩)
theorem special_key_end {it d : Addr} {i ep : Nat} {kvs : List (κ × Value)} {Q : Option Value → Shared → Prop} (hh : A.handled = none) (hit : s.heap.IsKeyIter it d i kvs.length ep) (hm : s.heap.DictAt knd d kvs ep) (hx : kvs[i]? = none)
    (hE : ∀ e h', StopX e h' → Heap.ExtBut it s.heap h' → E e { s with heap := h' }) : wpAny (model P w) A (callSpecial? (.ref it) "__next__") Q E s := by
  obtain ⟨o, ho, hc, hd⟩ := id hit
  obtain ⟨od, es, hod, hcd, hdd, hk, hp, hn⟩ := id hm
  refine wpAny_callSpecial?_slot (name := Str.ofString "__next__") hit.typeIs F.slot_dict_keyiterator_next
    (wpAny_call_entry F.slot_dict_keyiterator_next hit.typeIs F.entry_dict_keyiterator_next ?_ (F.args_dict_keyiterator_next_1 _))
  refine wpAny_bind (wpAny_pure (wpAny_bind (wpAny_bind ?_)))
  first | refine wpAny_bind (wpAny_typeNameOfWhole_keyiter hit.typeIs (wpAny_pure ?_)) | refine wpAny_bind (wpAny_typeNameOf_keyiter hit.typeIs (wpAny_pure ?_))
  refine wpAny_bind (wpAny_fieldsOf ho hd ?_)
  have hown : Builtin.Dict_items.ownsTuple "dict_keyiterator" = false := by decide
  simp only [hown, Bool.false_eq_true, if_false]
  show wpAny _ _ (if (Value.ref d == Value.none) = true then _ else _) _ _ s
  rw [if_neg (show ¬ ((Value.ref d == Value.none) = true) from Bool.false_ne_true)]
  refine wpAny_bind (wpAny_pure (wpAny_bind (wpAny_dictEntries hod hdd ?_)))
  have hsz : es.size = kvs.length := by rw [← hp.length]; simp
  rw [if_neg (by rw [hsz]; simp)]
  refine wpAny_bind (wpAny_pure (wpAny_bind (wpAny_dictEpoch hod hdd ?_)))
  rw [if_neg (by simp)]
  refine wpAny_pure ?_
  have hge : es.size ≤ i := by rw [hsz]; simpa using hx
  simp only [show ¬ ((i : Int) < 0) from by omega, if_false, Int.toNat_natCast, Array.getElem?_eq_none hge]
  refine wpAny_bind ?_
  first | refine wpAny_bind (wpAny_typeNameOfWhole_keyiter hit.typeIs (wpAny_pure ?_)) | refine wpAny_bind (wpAny_typeNameOf_keyiter hit.typeIs (wpAny_pure ?_))
  show wpAny _ _ (setField (.ref it) 0 .none >>= _) _ _ s
  refine wpAny_bind (wpAny_setField ho hd (by simp) ?_)
  show wpAny _ _ (newExc (.type "StopIteration") [] >>= _) _ _ _
  refine wpAny_bind ?_
  simp only [newExc, newTuple]
  refine wpAny_bind (wpAny_newObj_type ?_ (by size_fits))
  refine wpAny_bind (m := firstArgMember _ _) (wpAny_of_eq (a := Value.none) (by first | rfl | (simp only [firstArgMember]; rfl)) ?_)
  refine wpAny_newObj_type ?_ (by size_fits)
  simp only [raiseNew]
  refine wpAny_bind (wpAny_handled ?_)
  first | rw [show A.in1.handled = none from hh] | rw [hh]
  refine wpAny_bind (wpAny_pure (wpAny_throw ?_))
  refine hE _ _ ⟨_, _, _, rfl, Heap.get?_push_size _ rfl, rfl, rfl, ?_⟩ (((Heap.SameBut.update ..).extBut.push _).push _)
  first
    | rfl
    | (rw [Array.getElem?_append_left (by decide)]; rfl)
    | kernel_rfl
end
def epOf (o : Obj) : Nat := match o.data with | .dict _ ep => ep | _ => 0
theorem epOf_is {o : Obj} {es : Array DictEntry} {ep : Nat} (h : o.data = .dict es ep) : epOf o = ep := by unfold epOf; rw [h]
def StK (it d : Addr) (o : Obj) (n : Nat) : Nat → Heap → Prop := fun j h => h.IsKeyIter it d j n (epOf o) ∧ h.get? d = some o
theorem close_key : typeLookup (.type "dict_keyiterator") "close" = pure none := by rw [typeLookup_type, builtinLookup_eq_fast]; kernel_rfl
theorem qp_keys {P : Program} {w : World} {d it : Addr} {o : Obj} {kvs : List (Key × V)} {vs : List (Key × Value)} {es : Array DictEntry} {ep : Nat} {h0 : Heap} (hn : d ≠ it) (hdt : o.data = .dict es ep) (kv : KV kvs vs) (hm : h0.DictAt (mixKind P w) d vs ep) (hg : h0.get? d = some o) :
    QP P w it (kvs.map fun p => kV p.1) (StK it d o kvs.length) := by
  have hl : kvs.length = vs.length := Paired.length kv
  have at_ : ∀ h : Heap, h.get? d = some o → h.DictAt (mixKind P w) d vs ep := fun h e => by
    obtain ⟨od, es', a, b⟩ := hm
    rw [hg] at a; cases a
    exact ⟨o, es', e, b⟩
  have he := epOf_is hdt
  refine ⟨⟨"dict_keyiterator", fun j h ⟨⟨o, e, c, _⟩, _⟩ => ⟨o, e, c⟩, close_key, by decide⟩, fun A j x s2 Q E hh hx ⟨q1, q2⟩ hQ => ?_, fun A s2 Q E hh ⟨q1, q2⟩ hE => ?_⟩
  · rw [List.getElem?_map] at hx
    obtain ⟨⟨k, v⟩, hk, rfl⟩ := Option.map_eq_some_iff.mp hx
    obtain ⟨u, hu, ru⟩ := kv_get kv hk
    rw [he, hl] at q1
    refine special_key_item q1 (at_ _ q2) hu fun key h' hkey q3 sb => hQ key _ (relV_key (show keyIs k key = true from hkey)) ⟨?_, ?_⟩ (.of (tk := s2.toks) fun b o hb e => sb.extBut b o hb e)
    · show h'.IsKeyIter it d (j + 1) kvs.length (epOf o)
      rw [he, hl]; exact q3
    · exact sb.extBut d o hn q2
  · rw [List.length_map, he, hl] at q1
    exact special_key_end hh q1 (at_ _ q2) (List.getElem?_eq_none (Nat.le_refl _)) fun e h' st kp => hE e _ st (.of (tk := s2.toks) fun b o hb e => kp b o hb e)
section
variable {X : Cx} {ip : List (Addr × Obj)} {σ : L2.St} {H : Hp} {s : Shared}
theorem seg_fromK {e : Expr} {rd : L2.St → Hp → V → Prop} {yp pos : Pos} {A : Around} {c : Code} {fs : List Frame} {K : Flow → Sem PySem.Fin} {J : Value → Sem PySem.Fin} {gd : Bool → Bool} {lv : List Value → List Value} {t : Addr} {o : Obj} {kvs : List (Key × V)} (he : PureE X e rd) (hc : X.A.handled = none) (hi : interactive X.env = false)
    (ov : A.over c fs = X.A) (sp : splitAtGen fs = none) (ug : fs.any Frame.guarded = false) (gf : gd false = false) (I : Inv X ip σ H s) (hr : rd σ H (.ref t)) (ht : H t = some (.frz o (.dK kvs)))
    (hE : ∀ (s₀ s' : Shared), OnlyZ s.heap.objs.size s₀ s' → Seg (model X.prog X.w) A (RP s.heap.objs.size) (YP s.heap.objs.size (kvs.map fun p => kV p.1) (StK s.heap.objs.size t o kvs.length)) 0 s₀ c (K .next) fs s') :
    Seg (model X.prog X.w) A (RP s.heap.objs.size) (YP s.heap.objs.size (kvs.map fun p => kV p.1) (StK s.heap.objs.size t o kvs.length)) (kvs.map fun p => kV p.1).length s c ((exec (.Expr (.YieldFrom e yp) pos) X.env).wrap K J gd lv) fs s := by
  rw [exec_Expr X.env _ pos hi rfl]
  show Seg _ _ _ _ _ s c (.at pos fun _ => ((eval e X.env >>= fun z => (standAt yp >>= fun _ => yieldFrom X.env z)) >>= fun z => dropValue (.YieldFrom e yp) pos z).wrap K J gd lv) fs s
  refine seg_at (segw_bind2 ?_)
  rw [ov]
  refine he.run ip s σ H (.ref t) _ _ I hr fun u k ru => ?_
  obtain rfl : u = Value.ref t := ru
  have I1 := I.tok k
  obtain ⟨hs, hgd, hx, es, ep, vs, hdt, hsz, kv, hm⟩ := I1.frzK ht
  refine seg_at ?_
  show Seg _ _ _ _ _ s c ((yieldFrom X.env (.ref t)).wrap (fun z => (dropValue (.YieldFrom e yp) pos z).wrap K J gd lv) J gd lv) fs _
  unfold yieldFrom
  refine seg_bind_wrap (wpAny_typeOf (hm.dictOf.typeIs) ?_)
  rw [if_neg (by decide)]
  refine seg_bind_wrap (wpAny_holding ?_)
  rw [ov]
  have hlt := Heap.lt_size hgd
  refine iter_keys hs hgd hx hdt (seg_call fun p => ?_)
  refine seg_yfP (qp_keys (Nat.ne_of_lt hlt) hdt kv hm hgd) ?_ ?_ ?_ (fun s₀ s' st => seg_leaf (.ok (.ret .none)) (hE s₀ s' st)) _ 0 s _ (Nat.zero_add _) ⟨⟨_, Heap.get?_push_size _ rfl, rfl, by rw [epOf_is hdt, ← hsz]; rfl⟩, Heap.get?_push_of_some _ hgd⟩ (.of fun b ob _ z => Heap.get?_push_of_some _ z)
  · show (A.over c fs).handled = none
    rw [ov]; exact hc
  · show (splitAtGen fs).map _ = none
    rw [sp]; rfl
  · show (gd false || fs.any Frame.guarded) = false
    rw [gf, ug]; rfl
end
/-- a generator def whose body is one `yield from e`, e a dict -/
theorem gfnK_of {P : Program} {w : World} {K : PySem.W.Frag} {mg : Str → Option Value} {base : Heap} {k : Nat} {f : Addr} {name qual : Str} {params : Arguments} {e : Expr} {yp pos : Pos} {scope : Scope} {dV kVv doc pm cdv ct oc : Value} {an od : Option Addr}
    {osl : Array (Option Value)} {N ps : List Str} {rz : List V → Hp → List V → (Hp → Prop) → Prop} (lk : K.lookup f = some ⟨oc, od, .func (PySem.W.fnOf name qual params [.Expr (.YieldFrom e yp) pos] scope dV kVv doc pm an cdv ct), osl⟩) (hcd : PySem.W.codeIn K cdv qual = true) (S : GScope N ps scope)
    (len : ∀ vs H xs L, rz vs H xs L → vs.length = ps.length) (hi : ∀ n, interactive (envOfC qual scope n f cdv) = false)
    (hb : ∀ (H : Hp) (vs xs : List V) (L : Hp → Prop), rz vs H xs L →
      ∃ rd t o kvs, rd (start N vs) H (.ref t) ∧ H t = some (.frz o (.dK kvs)) ∧ (xs = kvs.map fun p => kV p.1) ∧ (L = fun H' => H' t = some (.frz o (.dK kvs))) ∧ ∀ (A : Around) (outer : List Env) (s : Shared), PureE (gcxOf P w K mg base N qual scope f cdv A outer s H (fun _ _ _ => False) []) e rd) :
    GFnP P w K mg base (k + 1) f (PySem.W.fnOf name qual params [.Expr (.YieldFrom e yp) pos] scope dV kVv doc pm an cdv ct) ps rz := ⟨len, fun A outer s H args us vs xs L hr e0 bi r hz => by
  have hl := len _ _ _ _ hz
  have KX : K.In s.heap := e0.mod.kin.keeps fun b o q => (e0.bs b o q).1
  have nl : s.heap.NoLimit := e0.mod.nolimit.keeps fun b o q => (e0.bs b o q).1
  have kinds : ∀ y ∈ ps.zip us, scope.names.lookup y.1 = some .local ∨ (scope.names.lookup y.1 = some .cell ∧ ((cellsFrom (s.heap.objs.size + 1) scope.names []).lookup y.1).isSome = true) := fun ⟨y, v⟩ hy =>
    (S.par y (List.of_mem_zip hy).1).imp id fun q => ⟨q, PySem.W.cellsFrom_some _ _ _ (.inl q)⟩
  obtain ⟨rd, t, od', kvs, w1, w2, rfl, hL, hE⟩ := hb H vs xs L hz
  refine codeAny_call_generator hr.depth (KX _ _ lk) rfl S.co S.gen rfl (PySem.W.codeRec_of KX hcd) (bi _ _ _ _ (wpAny_newFunctionEnv_cells S.kind kinds fun env he s1 x => ?_))
  subst he
  have nl1 : s1.heap.NoLimit := nl.keeps x.toInCall.keep
  refine ⟨nl1, ?_⟩
  obtain ⟨h1, tk, es1, hk1⟩ := x.done
  have os1 : s1.os = s.os := by rw [es1]
  have ge1 : s1.gens = s.gens := by rw [es1]
  have lt1 : s.heap.objs.size < s1.heap.objs.size := x.toInCall.ns.lt
  have done : ∀ (go : Obj) (nm qn : Value) (tk2 : Nat), go.cls = .type "generator" → go.data = .fields #[.int s1.gens.size 0, nm, qn] → go.slots = #[] → (∀ h : Heap, (h.push go).get? h.objs.size = some go) →
      GMadeP P w (k + 1) outer s (kvs.map fun p => kV p.1) (fun h => h.get? t = some od') (.ref s1.heap.objs.size) { s1 with gens := s1.gens.push (.fresh (.func [.Expr (.YieldFrom e yp) pos] (envOfC qual scope s.heap.objs.size f cdv))), toks := tk2, heap := s1.heap.push go } := fun go nm qn tk2 g1 g2 g3 g4 => by
    have gsz : (s1.heap.push go).objs.size = s1.heap.objs.size + 1 := Heap.size_push ..
    refine ⟨s1.heap.objs.size, s1.gens.size, _, rfl, Nat.le_of_lt lt1, by show _ < (s1.heap.push go).objs.size; omega, ⟨go, nm, qn, g4 _, g1, g2, g3⟩, Array.getElem?_push_size .., os1, AllBare.push (by rw [ge1]; exact e0.bare) rfl, nl1.keeps fun b o q => Heap.get?_push_of_some _ q,
      fun b o q => Heap.get?_push_of_some _ (x.toInCall.keep b o q), fun Aw s2 hrw hfr kp hos hba => ?_⟩
    refine ⟨StK s2.heap.objs.size t od' kvs.length, fun j h h' ⟨⟨o, q1, q2⟩, _⟩ k1 k2 => ⟨⟨o, k1 _ q1, q2⟩, k2⟩, fun j h ⟨⟨o, q1, q2, q3⟩, _⟩ => ⟨o, q1, fun v z => by rw [q3] at z; cases z⟩, ?_⟩
    have e0w : Env0 P w K mg base Aw outer s H := ⟨hfr, e0.mod, e0.bs, e0.bsz, e0.funs, e0.frf, e0.hok, e0.bare⟩
    have I1 : Inv (gcxOf P w K mg base N qual scope f cdv Aw outer s H (fun _ _ _ => False) []) [] (start N vs) H s1 := inv_startG S hrw.hd e0w hl r x
    have kp2 : ∀ b o, s1.heap.get? b = some o → s2.heap.get? b = some o := fun b o q => kp b o (Heap.get?_push_of_some _ q)
    have I2 : Inv (gcxOf P w K mg base N qual scope f cdv Aw outer s H (fun _ _ _ => False) []) [] (start N vs) H s2 :=
      I1.call' (ch := []) (hos.trans os1.symm) (Un.kept kp2) (I1.hok.kept kp2) hba fun b q => by simp at q
    refine seg_func (seg_execs_cons ?_)
    have hh : (gcxOf P w K mg base N qual scope f cdv Aw outer s H (fun _ _ _ => False) []).A.handled = none := hrw.hd
    exact seg_fromK (hE Aw outer s) hh (hi _) over_func rfl rfl rfl I2 w1 w2 fun s₀ s3 st => seg_execs_nil (seg_end (.ok (.ret .none)) ⟨rfl, .inl rfl, st⟩)
  exact ⟨_, fun H' h kin hk hl' => by
    rw [hL] at hl'
    obtain ⟨r1, _⟩ := hk _ _ hl'
    exact r1, done _ _ _ _ rfl rfl rfl fun h => Heap.get?_push_size _ rfl⟩⟩
/-- self is an instance of C, its attribute f a frozen dict -/
def rzK (K : PySem.W.Frag) (C : Addr) (f : Str) : List V → Hp → List V → (Hp → Prop) → Prop := fun vs H xs L => ∃ a dx fs t o kvs, vs = [.ref a] ∧ H a = some (.ins C dx fs) ∧ fs.lookup f = some (.ref t) ∧ H t = some (.frz o (.dK kvs)) ∧ (xs = kvs.map fun p => kV p.1) ∧ L = fun H' => H' t = some (.frz o (.dK kvs))
theorem Fun.okK {P : Program} {w : World} {K : PySem.W.Frag} {mg : Str → Option Value} {base : Heap} {x qual slf fld : Str} {st : Stmt} {f C : Addr} {fd : FuncData} {k : Nat} {p1 p2 yp pos : Pos} (F : Fun K x qual st f fd) (hC : Cls K C) (hn : NoAttr K C fld)
    (hb : defBody st = gbodyF slf fld p1 p2 yp pos) (S : GScope [slf] [slf] (defScope st)) (hl : (defScope st).names.lookup slf = some .local) (hi : ∀ n cdv, interactive (envOfC qual (defScope st) n f cdv) = false := by intro _ _; rfl)
    (ha : ∀ n cdv, attributeBase (.Name slf p1) fld (envOfC qual (defScope st) n f cdv) (eval (.Name slf p1) (envOfC qual (defScope st) n f cdv)) = eval (.Name slf p1) (envOfC qual (defScope st) n f cdv) := by intro _ _; rfl)
    (hd : (slf == ("__debug__" : Str)) = false := by decide) (hcd : (slf == ("__classdict__" : Str)) = false := by decide) : GFnP P w K mg base (k + 1) f fd [slf] (rzK K C fld) := by
  obtain ⟨oc, od, kV', doc, pm, an, cdv, ct, osl, rfl, lk, hcode⟩ := F.ex
  rw [hb] at lk ⊢
  refine gfnK_of lk hcode S (fun vs H xs L ⟨_, _, _, _, _, _, e, _⟩ => by rw [e]; rfl) (fun n => hi n cdv) fun H vs xs L ⟨a, dx, fs, t, o, kvs, e, h1, h2, h3, h4, h5⟩ => ?_
  subst e
  refine ⟨rdFld K 0 fld, t, o, kvs, ⟨a, C, dx, fs, rfl, h1, hC, hn, h2⟩, h3, h4, h5, fun A outer s => ?_⟩
  exact pure_fld rfl hl (ha _ _) hd hcd (.inl hl)
end L2
namespace DL
open PySem L2 StX
section
variable {K : PySem.W.Frag} [Tb K] {Z : ZX} {b u u' u'' : Wd} {σ : L2.St} {ds : DS} {n : Nat} {P : D → Nat → Prop} {te ta : TE} {tt : TT} {g : TG} {C : Addr} {f m : Str} {vs : List Nat} {rz : List V → Hp → List V → (Hp → Prop) → Prop}
/-- what a generator method hands out, by data -/
def SrcD (K : PySem.W.Frag) [Tb K] (C : Addr) (rz : List V → Hp → List V → (Hp → Prop) → Prop) (fs : List (Str × D)) (xs : List D) : Prop := ∀ (u : Wd) (a dx : Addr) (fv : List (Str × V)), Ex u.H0 u.H1 → u.H0 a = some (.ins C dx fv) → DenF K u fv fs →
  ∃ ts L, rz [.ref a] u.H1 ts L ∧ Dens K u ts xs ∧ ∀ w : Wd, Le u w → Ex w.H0 w.H1 → L w.H1
theorem dens_keysF {kvs : List (Key × V)} {ys : List (Key × D)} (h : DenK K u kvs ys) : Dens K u (kvs.map fun p => kV p.1) (ys.map fun p => keyDt p.1) := by
  have hk := denK_keys h
  have go : ∀ (l : List Key), Dens K u (l.map kV) (l.map keyDt) := by
    intro l
    induction l with
    | nil => exact .nil
    | cons k l ih => exact .cons den_keyDt ih
  have e1 : (kvs.map fun p => kV p.1) = (kvs.map (·.1)).map kV := by rw [List.map_map]; rfl
  have e2 : (ys.map fun p => keyDt p.1) = (ys.map (·.1)).map keyDt := by rw [List.map_map]; rfl
  rw [e1, e2, hk]
  exact go _
theorem src_key {fs : List (Str × D)} {ys : List (Key × D)} (hf : fs.lookup f = some (.fdc ys)) : SrcD K C (rzK K C f) fs (ys.map fun p => keyDt p.1) := fun u a dx fv e ha hd => by
  obtain ⟨w0, hw, hdt⟩ := hd.look hf
  obtain ⟨t, o, kvs, rfl, ht, hkv⟩ := den_fdc hdt
  exact ⟨_, _, ⟨a, dx, fv, t, o, kvs, rfl, e _ _ ha, hw, e _ _ ht, rfl, rfl⟩, dens_keysF hkv, fun w l e1 => e1 _ _ (l.h _ _ ht)⟩
theorem we_lcQ (h : We K Z ta ds n fun o j => ∃ fs xs, o = .obj C fs ∧ fs.lookup m = none ∧ SrcD K C rz fs xs ∧ ∃ Iv : Nat → List D → Nat → Prop, Iv 0 [] j ∧
    (∀ i x ys k, xs[i]? = some x → Iv i ys k → Wgc K Z g vs x (wipeD ds vs) fun ds2 => Wt K Z tt ds2 k fun c j => if c = true then We K Z te ds2 j (fun y l => ys.length < 1000000 ∧ Iv (i + 1) (ys ++ [y]) l) else Iv (i + 1) ys j) ∧
    (∀ ys k, Iv xs.length ys k → P (.lst ys) k)) : We K Z (tLcP (tMethP C m rz ta) g tt te vs) ds n P := fun b u σ Q e S k =>
  h b u σ _ e S fun v o u1 g1 s1 r ⟨fs, xs, z, hm, hsrc, Iv, i0, is, idn⟩ => by
    subst z
    obtain ⟨a, dx, fv, rfl, ha, hd⟩ := den_obj r
    obtain ⟨ts, L, hrz, hts, hL⟩ := hsrc u1 a dx fv g1.c ha hd
    refine ⟨a, dx, fv, ts, L, rfl, g1.c _ _ ha, hd.miss hm, hrz, fun Dl hD => ?_⟩
    have n0 : u1.H0 Dl = none := ex_none g1.c hD
    have nS : ¬ u1.S Dl := fun h => by
      obtain ⟨_, o, h1, _⟩ := s1 Dl h
      rw [hD] at h1; cases h1
    refine ⟨fun i H' => ∃ w ys acc, w.H1 = H' ∧ Gs u1 w ∧ StOk K w ∧ w.H0 Dl = none ∧ ¬ w.S Dl ∧ H' Dl = some (.lst acc) ∧ Dens K w acc ys ∧ Iv i ys w.n,
      ⟨⟨u1.S, u1.T, u1.n, u1.H0, upd u1.H1 Dl (.lst [])⟩, [], [], rfl, (Gs.refl g1.c).write hD n0, s1.write nS, n0, nS, upd_same, .nil, i0⟩, ?_, ?_, ?_⟩
    · rintro i H' ⟨w, ys, acc, rfl, g', _⟩
      exact hL w g'.ls g'.c
    · rintro i v H' hv ⟨w, ys, acc, rfl, g', sw, c0, cS, hc, hr, iv⟩
      obtain ⟨x, hx, r⟩ := hts.get hv
      have r := r.mono g'.ls
      have S1 := ((S.go g1 s1).go g' sw).wipe vs
      have q := is i x ys w.n hx iv
      refine q b w (L2.wipe σ vs) v _ S1 r fun ds2 σ2 S2 l2 f2 q => ⟨wipe_of (l2.trans (wipe_length _ _)) f2, q b w σ2 _ rfl S2 fun c u3 g3 s3 q3 => ?_⟩
      have c2 := g3.nn c0 hc
      have cS2 := g3.ns cS hc
      have hc2 := g3.b _ _ cS hc
      cases c with
      | false => exact ⟨u3, ys, acc, rfl, g'.trans g3, s3, c2, cS2, hc2, hr.mono g3.ls, q3⟩
      | true =>
        refine q3 b u3 σ2 _ rfl (S2.go g3 s3) fun y d u4 g4 s4 r4 ⟨hl, p4⟩ => ?_
        have c3 := g4.nn c2 hc2
        have cS3 := g4.ns cS2 hc2
        have hc3 := g4.b _ _ cS2 hc2
        have l4 : Le u4 ⟨u4.S, u4.T, u4.n, u4.H0, upd u4.H1 Dl (.lst (acc ++ [y]))⟩ := ⟨fun _ h => h, fun _ _ => rfl, .refl _⟩
        exact ⟨acc, hc3, by rw [hr.len]; exact Nat.lt_of_lt_of_le hl (by decide), ⟨u4.S, u4.T, u4.n, u4.H0, upd u4.H1 Dl (.lst (acc ++ [y]))⟩, ys ++ [d], acc ++ [y], rfl, ((g'.trans g3).trans g4).write hD c3, s4.write cS3, c3, cS3, upd_same, ((hr.mono (g3.ls.trans g4.ls)).app (.cons r4 .nil)).mono l4, p4⟩
    · rintro H' ⟨w, ys, acc, rfl, g', sw, c0, cS, hc, hr, iv⟩
      rw [hts.len] at iv
      have l1 : Le w ⟨w.S, w.T, w.n, upd w.H0 Dl (.lst acc), w.H1⟩ := ⟨fun _ h => h, fun _ _ => rfl, ex_new c0⟩
      refine k (.ref Dl) (.lst ys) ⟨w.S, w.T, w.n, upd w.H0 Dl (.lst acc), w.H1⟩ (g1.trans (g'.settle hD c0 hc)) (sw.settle c0 cS) (.lst (SqL.of upd_same) (hr.mono l1)) (idn _ _ iv)
/-- typed -/
theorem we_lcQt {α : Type} (enc : α → D) (out : α → Option D) (l : List α) (h : We K Z ta ds n fun o j => ∃ fs, o = .obj C fs ∧ fs.lookup m = none ∧ SrcD K C rz fs (l.map enc) ∧ l.length ≤ 1000000 ∧
    (∀ x, x ∈ l → Wgc K Z g vs (enc x) (wipeD ds vs) fun ds2 => Wt K Z tt ds2 j fun c i => i = j ∧ if c = true then We K Z te ds2 j (fun y k => k = j ∧ out x = some y) else out x = none) ∧ P (.lst (l.filterMap out)) j) :
    We K Z (tLcP (tMethP C m rz ta) g tt te vs) ds n P :=
  we_lcQ (h.imp fun o j ⟨fs, z, h1, h2, hl, hs, hp⟩ => by
    obtain ⟨Iv, a, b, c⟩ := lct_core (K := K) (Z := Z) (g := g) (tt := tt) (te := te) hl hs
    exact ⟨fs, l.map enc, z, h1, h2, Iv, a, b, fun ys k q => by obtain ⟨rfl, rfl⟩ := c ys k q; exact hp⟩)
end
end DL

/-! bool(x): of a tuple; of an instance with its own __bool__. -/
namespace L2
open PySem PySem.Spec PyProof.Rows
theorem new_bool {prog : Program} {w : World} {x : Value} : MeetsIn prog w (Builtin.«bool.__new__» ⟨[.type "bool", x], []⟩) (fun A R s => wpAny (model prog w) A.in1 (truthy x) (fun b s' => R (.ok (.ret (.bool b))) s') (fun e s' => R (.error e) s') s) :=
  .of_wp fun A R s h => by
    have f1 := F.conv_sub_bool
    obtain ⟨hp, g, d, tk, os⟩ := s
    repeat (any_goals (first | (refine wpAny_bind (wpAny_mono h (fun b s' q => ?_) fun _ _ z => z)) | (refine wpAny_mono h (fun b s' q => ?_) fun _ _ z => z) | assumption | wp_step))
    all_goals first | exact ⟨_, rfl, q⟩ | exact q | skip
theorem call_bool {prog : Program} {w : World} {A : Around} {E : Value → Shared → Prop} {s : Shared} {x : Value} {Q : Value → Shared → Prop} (h : wpAny (model prog w) A.in1.in1 (truthy x) (fun b s' => Q (.bool b) s') E s) :
    wpAny (model prog w) A (call (.type "bool") [x]) Q E s :=
  callType_newIn F.called_bool F.newNe_bool (F.typeCall_bool_1 x) (F.newCall_bool_1 x) (fun obj => F.args_object_init_2 obj x) F.entry_bool_new new_bool (wpAny_mono h (fun b s' q => ⟨rfl, q⟩) fun _ _ z => z)
section
variable {X : Cx} {CX : CXT} {k : Nat} {f C : Addr} {fd : FuncData} {ps : List Str} {sp : Sp}
def rBoolT (K : PySem.W.Frag) : List V → Hp → VK → Prop := fun xs H Q => ∃ a zs, xs = [.ref a] ∧ SqT K H a zs ∧ Q (.bl (!zs.isEmpty)) H
theorem call_boolT : CallR X (.type "bool") (rBoolT X.K) := by
  intro pins s σ H xs us Q I r ⟨a, zs, e, hq, q⟩
  subst e
  obtain rfl := Vals.ref1 r
  obtain ⟨its, rv, pl, hz⟩ := I.tuple hq
  have hlen := rv.length
  have hl := line63
  refine call_bool (truthy_tuple pl (by simp only [List.size_toArray]; omega) ?_)
  exact ⟨.bl (!zs.isEmpty), H, I.tok _, by rw [isEmpty_of rv]; rfl, q⟩
def rBoolO (C : Addr) (sp : Sp) : List V → Hp → VK → Prop := fun xs H Q => ∃ a dx fs, xs = [.ref a] ∧ H a = some (.ins C dx fs) ∧ sp [.ref a] H (fun v H' => ∃ b, v = .bl b ∧ Q (.bl b) H') E0
theorem call_boolO (F : FnOk X.prog X.w X.K X.mg X.base CX k f fd ps sp) (hs : PySem.W.findIn X.K (.ref C) "__bool__" = some (some (.ref f))) (hf : PySem.W.isFn X.K (.ref f) = true) (hb : Binds X.K fd ps []) (hx : Passes CX X E0) (hr : Room (k + 2) X.A) : CallR X (.type "bool") (rBoolO C sp) := by
  intro pins s σ H xs us Q I rs ⟨a, dx, fs, hxa, ha, h⟩
  subst hxa
  rw [Vals.ref1 rs]
  obtain ⟨mA, J, _⟩ := ins_get I.hok ha
  obtain ⟨od, J, _⟩ := J.look
  obtain ⟨m, hF⟩ := I.fr
  have hr2 : Room k X.A.in1.in1 := (show Room (k + 1) X.A.in1 from Room.in1 hr).in1
  refine call_bool (PySem.W.truthy_K hF I.ok.mod.kin J hs hf (wpAny_mono (run_one (A := X.A.in1.in1) (x := .ref a) F hb hx hr2 rfl I rfl h) (fun w s' hq => ?_) fun _ _ z => z))
  obtain ⟨z, H', I', rz, b, rfl, q⟩ := hq
  cases rz
  exact ⟨.bl b, H', I', rfl, q⟩
end
end L2
namespace DL
open PySem L2 StX
section
variable {K : PySem.W.Frag} [Tb K] {Z : ZX} {C : Addr} {R : Rl} {ds : DS} {n : Nat} {P : D → Nat → Prop} {te : TE}
theorem boolT {xs : List D} {P : D → Prop} (h : P (.bl (!xs.isEmpty))) : Cb K (rBoolT K) [.tup xs] P := fun u vs Q e r k => by
  obtain ⟨v, rfl, r1⟩ := dens1 r
  obtain ⟨a, zs, rfl, hq, hd⟩ := den_tup r1
  refine ⟨a, zs, rfl, Evl.ex_t e hq, k _ _ u (.refl e) (.bl _) ?_⟩
  have hl := hd.len
  have e1 : (!zs.isEmpty) = !xs.isEmpty := by
    cases zs <;> cases xs <;> simp_all
  rw [e1]; exact h
theorem we_boolO (h : We K Z te ds n fun o m => ∃ fs, o = .obj C fs ∧ R [o] m (fun d j => ∃ b, d = .bl b ∧ P (.bl b) j) noX) : We K Z (tCB (rBoolO C (spD K R)) (tCons te tNil)) ds n P := fun b u σ Q e S k =>
  h b u σ _ e S fun v o u1 g1 s1 r1 ⟨fs, ho, q⟩ => by
    subst ho
    obtain ⟨a, dx, fv, rfl, ha, hf⟩ := den_obj r1
    refine ⟨a, dx, fv, rfl, g1.c _ _ ha, u1, _, _, noX, rfl, g1.c, s1, .cons r1 .nil, q, ?_, xok_no⟩
    rintro v' d u2 g2 s2 r' ⟨i, rfl, p⟩
    cases den_bl r'
    exact ⟨i, rfl, k _ _ u2 (g1.trans g2) s2 (.bl i) p⟩
end
end DL

/-! what the pieces of a map are, each by itself; the map of the pieces -/
namespace MP
open PySem L2 StX DL
theorem pcs_val {xs : List Stt} (h : Asc xs) {p : Pc} (hp : p ∈ few xs) : val xs p.b = p.f := by
  obtain ⟨n, hn, e⟩ := List.getElem_of_mem hp
  have ha := List.pairwise_iff_getElem.mp (asc_few h)
  have hb : ∀ i (hi : i < (few xs).length), ((few xs).map (·.b))[i]'(by rw [List.length_map]; exact hi) = ((few xs)[i]).b := fun i hi => List.getElem_map ..
  rw [← valQ_few h, (valQ_at (ps := few xs) (c := p.b) (k := n + 1) fun i q hq => ?_).2 n p rfl (by rw [List.getElem?_eq_getElem hn, e])]
  · unfold pv
    rw [Nat.sub_self]
    cases p.f <;> simp [adv0]
  · obtain ⟨hi, e2⟩ := List.getElem?_eq_some_iff.mp hq
    subst e
    subst e2
    constructor
    · intro q
      rcases Nat.lt_or_ge i (n + 1) with z | z
      · exact z
      · have := ha n i (by rw [List.length_map]; exact hn) (by rw [List.length_map]; exact hi) (by omega)
        rw [hb n hn, hb i hi] at this
        omega
    · intro q
      rcases Nat.lt_or_ge i n with z | z
      · have := ha i n (by rw [List.length_map]; exact hi) (by rw [List.length_map]; exact hn) z
        rw [hb n hn, hb i hi] at this
        omega
      · have : i = n := by omega
        subst this
        exact Nat.le_refl _
theorem pcs_bd {xs : List Stt} {N : Nat} (h : Asc xs) (hN : ∀ st ∈ xs, st.1 + 3 ≤ N) {p : Pc} (hp : p ∈ few xs) : p.b < N := by
  rw [few_allN h hN] at hp
  exact (ascN (f := val xs) N).2 p hp
theorem tv_some {td : Td} {i : Nat} {t : Tg} (h : tv td i = some t) : ∃ r t0, td = some (r, t0) ∧ (t = t0 ∨ t = adv t0 i) := by
  match td, h with
  | none, h => cases h
  | some (true, t0), h => cases h; exact ⟨_, _, rfl, .inr rfl⟩
  | some (false, t0), h => cases h; exact ⟨_, _, rfl, .inl rfl⟩
theorem pc_from {gs : List Sg} {l : Nat} (nd : KeyNd gs) {p : Pc} (hp : p ∈ few (rowSt gs l)) {t : Tg} (ht : p.f = some t) : ∃ g ∈ gs, ∃ r t0, g.ln = l ∧ g.b ≤ p.b ∧ g.td = some (r, t0) ∧ (t = t0 ∨ t = adv t0 (p.b - g.b)) := by
  have h := pcs_val (rowSt_asc nd l) hp
  rw [← tol_val nd, ht] at h
  have b := best_is _ gs rfl l p.b
  unfold tol at h
  cases q : best gs l p.b with
  | none => rw [q] at h; cases h
  | some g =>
    rw [q] at h b
    obtain ⟨b1, b2, b3, _⟩ := b
    obtain ⟨r, t0, e, z⟩ := tv_some h
    exact ⟨g, b1, r, t0, b2, b3, e, z⟩
theorem all_mem {gs : List Sg} {x : Sg} : x ∈ allP (rowsG gs) ↔ ∃ l p, p ∈ few (rowSt gs l) ∧ x = pcS l p := by
  unfold rowsG
  rw [allP_flat, List.map_map, List.mem_flatten]
  constructor
  · rintro ⟨L, hL, hx⟩
    obtain ⟨l, hl, rfl⟩ := List.mem_map.mp hL
    obtain ⟨p, hp, rfl⟩ := List.mem_map.mp hx
    exact ⟨l, p, hp, rfl⟩
  · rintro ⟨l, p, hp, rfl⟩
    by_cases q : l ∈ ks gs
    · exact ⟨_, List.mem_map.mpr ⟨l, q, rfl⟩, List.mem_map.mpr ⟨p, hp, rfl⟩⟩
    · rw [ks_none q] at hp; cases hp
theorem rows_asc (gs : List Sg) : ((rowsG gs).map (·.1)).Pairwise (· < ·) := by
  have sub : ((rowsG gs).map (·.1)).Sublist (((ks gs).map fun l => (l, few (rowSt gs l))).map (·.1)) := by
    unfold rowsG rowsOf
    rw [List.map_map]
    exact (List.filter_sublist ..).map _
  rw [List.map_map] at sub
  have e : (ks gs).map ((fun p : Nat × List Pc => p.1) ∘ fun l => (l, few (rowSt gs l))) = ks gs := by
    rw [show ((fun p : Nat × List Pc => p.1) ∘ fun l => (l, few (rowSt gs l))) = id from rfl, List.map_id]
  rw [e] at sub
  exact (ks_asc gs).sublist sub
theorem all_nd {gs : List Sg} (nd : KeyNd gs) : KeyNd (allP (rowsG gs)) := by
  unfold KeyNd
  have key : ∀ K : List Nat, K.Pairwise (· < ·) → (((K.map fun l => (few (rowSt gs l)).map (pcS l)).flatten).map fun g : Sg => (g.ln, g.b)).Nodup := by
    intro K
    induction K with
    | nil => intro _; simp
    | cons l K ih =>
      intro hK
      obtain ⟨h1, h2⟩ := List.pairwise_cons.mp hK
      rw [List.map_cons, List.flatten_cons, List.map_append, List.nodup_append]
      refine ⟨?_, ih h2, fun u hu v hv e => ?_⟩
      · rw [List.map_map, List.nodup_iff_pairwise_ne, List.pairwise_map]
        exact (List.pairwise_map.mp (asc_few (rowSt_asc nd l))).imp fun {a b} q e => by
          have := congrArg Prod.snd e
          simp only [Function.comp, pcS] at this
          omega
      · rw [List.map_map] at hu
        obtain ⟨p, _, rfl⟩ := List.mem_map.mp hu
        obtain ⟨g, hg, e2⟩ := List.mem_map.mp hv
        obtain ⟨L, hL, hg⟩ := List.mem_flatten.mp hg
        obtain ⟨l2, hl2, rfl⟩ := List.mem_map.mp hL
        obtain ⟨p2, _, rfl⟩ := List.mem_map.mp hg
        rw [← e2] at e
        have := congrArg Prod.fst e
        simp only [Function.comp, pcS] at this
        have := h1 l2 hl2
        omega
  have h := key (ks gs) (ks_asc gs)
  unfold rowsG
  rw [allP_flat, List.map_map]
  exact h
theorem all_row {gs : List Sg} (nd : KeyNd gs) (l : Nat) : rowSt (allP (rowsG gs)) l = (few (rowSt gs l)).map fun q => stt (pcS l q) :=
  rowSt_eq (all_nd nd) (asc_pieces (asc_few (rowSt_asc nd l))) fun st => by
    rw [List.mem_map]
    constructor
    · rintro ⟨p, hp, rfl⟩
      exact ⟨pcS l p, all_mem.mpr ⟨l, p, hp, rfl⟩, rfl, rfl⟩
    · rintro ⟨g, hg, e1, e2⟩
      obtain ⟨l', p, hp, rfl⟩ := all_mem.mp hg
      have : l' = l := e1
      subst this
      exact ⟨p, hp, e2⟩
/-- the map of the pieces is the map -/
theorem all_again {gs : List Sg} (nd : KeyNd gs) {n : Nat} (h : ∀ g ∈ gs, g.ln < n) : allP (rowsG (allP (rowsG gs))) = allP (rowsG gs) := by
  have h2 : ∀ g ∈ allP (rowsG gs), g.ln < n := fun g hg => by
    obtain ⟨l, p, hp, rfl⟩ := all_mem.mp hg
    show l < n
    by_cases q : l ∈ ks gs
    · obtain ⟨g, hg, e⟩ := ks_mem.mp q
      exact e ▸ h g hg
    · rw [ks_none q] at hp; cases hp
  have e : (List.range n).map (fun l => (few (rowSt (allP (rowsG gs)) l)).map (pcS l)) = (List.range n).map fun l => (few (rowSt gs l)).map (pcS l) := List.map_congr_left fun l _ => by rw [all_row nd, few_again (rowSt_asc nd l)]
  exact (allP_lines h2).trans ((congrArg List.flatten e).trans (allP_lines h).symm)
/-- the pieces of one line -/
theorem all_at {gs : List Sg} (l : Nat) : (allP (rowsG gs)).filter (fun g => g.ln == l) = (rowAt (rowsG gs) l).map (pcS l) := by
  rw [rowAt_G]
  have key : ∀ K : List Nat, K.Pairwise (· < ·) → ((K.map fun l => (few (rowSt gs l)).map (pcS l)).flatten).filter (fun g => g.ln == l) = if l ∈ K then (few (rowSt gs l)).map (pcS l) else [] := by
    intro K
    induction K with
    | nil => intro _; rfl
    | cons k K ih =>
      intro hK
      obtain ⟨h1, h2⟩ := List.pairwise_cons.mp hK
      rw [List.map_cons, List.flatten_cons, List.filter_append, ih h2]
      by_cases q : k = l
      · subst q
        rw [if_neg (fun z => by have := h1 k z; omega), List.append_nil, if_pos (List.mem_cons_self ..)]
        exact List.filter_eq_self.mpr fun g hg => by
          obtain ⟨p, _, rfl⟩ := List.mem_map.mp hg
          show (k == k) = true
          exact beq_self_eq_true _
      · rw [show (List.map (pcS k) (few (rowSt gs k))).filter (fun g => g.ln == l) = [] from List.filter_eq_nil_iff.mpr fun g hg => by
          obtain ⟨p, _, rfl⟩ := List.mem_map.mp hg
          show ¬ (k == l) = true
          simpa using q]
        by_cases z : l ∈ K
        · rw [if_pos z, if_pos (List.mem_cons_of_mem _ z)]; rfl
        · rw [if_neg z, if_neg (by rw [List.mem_cons]; rintro (a | a); exact q a.symm; exact z a)]; rfl
  have h := key (ks gs) (ks_asc gs)
  have e : allP (rowsG gs) = ((ks gs).map fun l => (few (rowSt gs l)).map (pcS l)).flatten := by
    unfold rowsG
    rw [allP_flat, List.map_map]
    rfl
  rw [e, h]
  by_cases q : l ∈ ks gs
  · rw [if_pos q]
  · rw [if_neg q, ks_none q]; rfl
/-- the lines of a map are those of its pieces -/
theorem rows_at {gs : List Sg} {n : Nat} (h : ∀ g ∈ gs, g.ln < n) : (rowsG gs).map (·.1) = (List.range n).filter fun l => decide (l ∈ (allP (rowsG gs)).map (·.ln)) := by
  refine List.Perm.eq_of_pairwise (le := fun a b => a < b) (fun a b _ _ q1 q2 => by omega) (rows_asc gs) (List.pairwise_lt_range.filter _) ((List.perm_ext_iff_of_nodup ((rows_asc gs).imp fun h => by omega) (List.nodup_range.filter _)).mpr fun l => ?_)
  rw [List.mem_filter, List.mem_range, List.mem_map, decide_eq_true_iff, List.mem_map]
  constructor
  · rintro ⟨p, hp, rfl⟩
    obtain ⟨e, hk⟩ := rowsG_row hp
    obtain ⟨g, hg, z⟩ := ks_mem.mp hk
    refine ⟨z ▸ h g hg, ?_⟩
    have ne : p.2 ≠ [] := by
      unfold rowsG rowsOf at hp
      have := (List.mem_filter.mp hp).2
      intro w
      rw [w] at this
      cases this
    obtain ⟨x, hx⟩ := List.exists_mem_of_ne_nil _ ne
    exact ⟨pcS p.1 x, all_mem.mpr ⟨p.1, x, e ▸ hx, rfl⟩, rfl⟩
  · rintro ⟨_, x, hx, rfl⟩
    obtain ⟨l, p, hp, rfl⟩ := all_mem.mp hx
    have hk : l ∈ ks gs := by
      rcases Classical.em (l ∈ ks gs) with q | q
      · exact q
      · rw [ks_none q] at hp; cases hp
    refine ⟨(l, few (rowSt gs l)), ?_, rfl⟩
    unfold rowsG rowsOf
    rw [List.mem_filter, List.map_map, List.mem_map]
    refine ⟨⟨l, hk, rfl⟩, ?_⟩
    show (!(few (rowSt gs l)).isEmpty) = true
    cases q : few (rowSt gs l) with
    | nil => rw [q] at hp; cases hp
    | cons _ _ => rfl
end MP

namespace Lw
open PySem L2 StX DL
open PyProof.Rows (envOfC)
structure Ad where
  c_Map : Addr
  a_is_integer : Addr
  a_told_further : Addr
  a_word_of : Addr
  a__goes_on : Addr
  a_is_source : Addr
  a__begin_of : Addr
  a__all_pieces : Addr
  a_Map_row_at : Addr
  a_Map_len : Addr
  a_Map_bool : Addr
  a_Map_eq : Addr
  a_Map_pieces : Addr
  a_Map_used_lines : Addr
  a__law_begun : Addr
  a__law_draw : Addr
  a__law_told : Addr
  a__law_length : Addr
  a_is_count : Addr
  a_told_of : Addr
  a__some_columns : Addr
  a__law_of : Addr
  a__law_values : Addr
  a__law_pieces : Addr
  a_is_up_to : Addr
  a_stretches_of : Addr
  a_fewest : Addr
  a__law_segments : Addr
  a__law_all : Addr
  a_check_up_to : Addr
  a_piece_tuples : Addr
  a__are_numbers : Addr
  a__lines_of_segments : Addr
  a__is_segment : Addr
  a_pieces_of_lines : Addr
  a_Map_getitem : Addr
  a__check_segments : Addr
  a_Map_init : Addr
  a_Map_of : Addr
  a__law_right : Addr
  a_law : Addr
  p_Map_of : Addr
  t_NAME_LIMIT : Tok
  t_NAME_SIGNS : Tok
  t_NUMBER_LIMIT : Tok
  t_PIECE_LIMIT : Tok
abbrev k_NAME_LIMIT : V := .int 40
abbrev k_NAME_SIGNS : V := .str (PySem.Str.ofString "ABCDEFGHIJKLMNOPQRSTUVWXYZabcdefghijklmnopqrstuvwxyz0123456789_-./")
abbrev k_NUMBER_LIMIT : V := .int 1000000000
abbrev k_PIECE_LIMIT : V := .int 10000
def RL : Rl := fun ds n P _ => ∃ ns : List Int, ds = [.lst (ns.map .int)] ∧ ns.length ≤ 63 ∧ n = 0 ∧ ∀ m, P (.bl true) m
abbrev spL (K : PySem.W.Frag) [Tb K] : Sp := spD K RL
theorem law_start {K : PySem.W.Frag} {tb : List (Addr × Str)} [i : Tb K] {H : Hp} {a : Addr} {ns : List Int} (hl : ns.length ≤ 63) (hS : SqL K H a (ns.map V.int)) (hi : Tb.tb K = tb) (hn : (tb.map (·.1)).Nodup) (hT : ∀ p ∈ tb, H p.1 = some (.tbl #[])) : spL K [.ref a] H (fun v _ => v = .bl true) fun _ _ _ => False :=
  law_begin 0 hS hi hn hT ⟨ns, rfl, hl, rfl, fun _ => rfl⟩
open MP
def upTo (i : Int) : Option Nat → Bool
  | none => decide (0 ≤ i)
  | some l => decide (0 ≤ i) && decide (i ≤ (l : Nat))
def okName (x : Str) : Prop := 1 ≤ x.length ∧ x.length ≤ 40 ∧ ∀ c ∈ x.cps.toList, c ∈ (Str.ofString "ABCDEFGHIJKLMNOPQRSTUVWXYZabcdefghijklmnopqrstuvwxyz0123456789_-./").cps.toList
def leO (n : Nat) : Option Nat → Prop
  | none => True
  | some l => n ≤ l
structure SgOk (l : Option Nat) (g : Sg) : Prop where
  ln : leO g.ln l
  b : leO g.b l
  td : ∀ r t, g.td = some (r, t) → okName t.s ∧ leO t.l l ∧ leO t.c l ∧ ∀ x, t.w = some x → okName x
abbrev NL : Nat := 1000000000
abbrev mapD (A : Ad) (R : Rows) : D := .obj A.c_Map (mapF R)
abbrev R_is_integer (A : Ad) : Rl := pr fun ds P => ∃ i, ds = [.int i] ∧ P (.bl true)
abbrev R_is_count (A : Ad) : Rl := pr fun ds P => ∃ i, ds = [.int i] ∧ P (.bl (decide (0 ≤ i)))
abbrev R_is_up_to (A : Ad) : Rl := pr fun ds P => ∃ i l, ds = [.int i, lmD l] ∧ P (.bl (upTo i l))
abbrev R_check_up_to (A : Ad) : Rl := pr fun ds P => ∃ i l, ds = [.int i, lmD l] ∧ upTo i l = true ∧ P .non
abbrev R_told_further (A : Ad) : Rl := pr fun ds P => ∃ (td : Td) (i : Nat), ds = [tdD td, .int i] ∧ P (tdD (furt td i))
abbrev R_word_of (A : Ad) : Rl := pr fun ds P => ∃ (g : Sg) (r : Bool) (t : Tg), ds = [sgD g] ∧ g.td = some (r, t) ∧ P (wD t.w)
abbrev R_told_of (A : Ad) : Rl := pr fun ds P => ∃ (g : Sg), ds = [sgD g] ∧ P (tdD g.td)
abbrev R_stretches_of (A : Ad) : Rl := pr fun ds P => ∃ gs : List Sg, (ds = [.lst (gs.map sgD)] ∨ ds = [.tup (gs.map sgD)]) ∧ gs.length < 1000000 ∧ P (.lst (gs.map fun g => stD (stt g)))
abbrev R__some_columns (A : Ad) : Rl := pr fun ds P => ∃ xs : List Stt, ds = [.lst (xs.map stD)] ∧ Asc xs ∧ xs.length ≤ 100000 ∧ P (.lst ((cols xs).map colD))
abbrev R__goes_on (A : Ad) : Rl := pr fun ds P => ∃ (p : Pc) (c : Nat) (t : Option Tg), ds = [pcD p, .int c, tgO t] ∧ (p.k = 0 ∨ p.k = 1 ∨ p.k = 2) ∧ (p.k = 0 ↔ p.f = none) ∧ p.b ≤ c ∧ P (.bl (decide (goes p c t)))
abbrev R_fewest (A : Ad) : Rl := pr fun ds P => ∃ xs : List Stt, ds = [.lst (xs.map stD)] ∧ Asc xs ∧ xs.length ≤ 100000 ∧ P (.lst ((few xs).map pcD))
abbrev R_piece_tuples (A : Ad) : Rl := pr fun ds P => ∃ (l : Nat) (xs : List Stt), ds = [.int l, .lst (xs.map stD)] ∧ Asc xs ∧ xs.length ≤ 100000 ∧ P (.tup ((few xs).map fun p => sgD (pcS l p)))
abbrev R_is_source (A : Ad) : Rl := pr fun ds P => ∃ x, ds = [.str x] ∧ okName x ∧ P (.bl true)
abbrev R__are_numbers (A : Ad) : Rl := pr fun ds P => ∃ (a b : Nat) (l : Option Nat), ds = [.tup [.int a, .int b], .int 2, lmD l] ∧ leO a l ∧ leO b l ∧ P (.bl true)
abbrev R__is_segment (A : Ad) : Rl := pr fun ds P => ∃ (g : Sg) (l : Option Nat), ds = [sgD g, lmD l] ∧ SgOk l g ∧ P (.bl true)
abbrev R__check_segments (A : Ad) : Rl := pr fun ds P => ∃ (gs : List Sg) (l : Option Nat), ds = [.tup (gs.map sgD), lmD l] ∧ (∀ g ∈ gs, SgOk l g) ∧ KeyNd gs ∧ gs.length < 1000000 ∧ P .non
abbrev R__begin_of (A : Ad) : Rl := pr fun ds P => ∃ (g : Sg), ds = [sgD g] ∧ P (pos g.ln g.b)
abbrev R__lines_of_segments (A : Ad) : Rl := pr fun ds P => ∃ gs : List Sg, ds = [.tup (gs.map sgD)] ∧ KeyNd gs ∧ gs.length < 1000000 ∧ P (.fdc ((ks gs).map fun (l : Nat) => (Sum.inl (l : Int), .lst ((rowSt gs l).map stD))))
abbrev R_pieces_of_lines (A : Ad) : Rl := pr fun ds P => ∃ L : List (Nat × List Stt), ds = [.fdc (L.map fun p => (Sum.inl (p.1 : Int), .lst (p.2.map stD)))] ∧ (L.map (·.1)).Nodup ∧ L.length < 64 ∧ (∀ p ∈ L, Asc p.2 ∧ p.2.length ≤ 100000) ∧ ∀ L' : List (Nat × List Stt), L'.Perm L → (L'.map (·.1)).Pairwise (· < ·) → P (.fdc ((rowsOf L').map rowD))
abbrev R__all_pieces (A : Ad) : Rl := pr fun ds P => ∃ R : Rows, ds = [.fdc (R.map rowD)] ∧ (R.map (·.1)).Nodup ∧ tot R ≤ 10000 ∧ P (.tup ((allP R).map sgD))
structure GsOk (gs : List Sg) : Prop where
  ok : ∀ g ∈ gs, SgOk (some NL) g
  nd : KeyNd gs
  len : gs.length < 64
abbrev R_Map_init (A : Ad) : Ri := fun ds _ P _ => ∃ gs : List Sg, ds = [.tup (gs.map sgD)] ∧ GsOk gs ∧ P (mapF (rowsG gs))
abbrev R_Map_of (A : Ad) : Rl := pr fun ds P => ∃ gs : List Sg, ds = [.cls A.c_Map, .tup (gs.map sgD)] ∧ GsOk gs ∧ P (mapD A (rowsG gs))
abbrev R_Map_row_at (A : Ad) : Rl := pr fun ds P => ∃ (R : Rows) (l : Nat), ds = [mapD A R, .int l] ∧ P (.tup ((rowAt R l).map fun p => sgD (pcS l p)))
abbrev R_Map_getitem (A : Ad) : Rl := pr fun ds P => ∃ (R : Rows) (l : Nat), ds = [mapD A R, .int l] ∧ l ≤ NL ∧ P (.tup ((rowAt R l).map fun p => sgD (pcS l p)))
abbrev R_Map_len (A : Ad) : Rl := pr fun ds P => ∃ (R : Rows), ds = [mapD A R] ∧ P (.int (tot R : Nat))
/-! the law's own draws -/
abbrev R__law_begun (A : Ad) : Rl := fun ds n P _ => ∃ ns : List Int, ds = [.lst (ns.map .int)] ∧ ns.length ≤ 63 ∧ ∀ a, P (.strm a (.mp ns.length)) n
abbrev R__law_draw (A : Ad) : Rl := fun ds n P _ => ∃ (a : Addr) (len : Nat) (t : Int), ds = [.strm a (.mp len), .int t] ∧ 0 < t ∧ t < 1073741824 ∧ n ≤ 1000000 ∧ ∀ r, 0 ≤ r → r < t → P (.int r) (n + 1)
abbrev R__law_of (A : Ad) : Rl := fun ds n P _ => ∃ (a : Addr) (len : Nat) (xs : List D), ds = [.strm a (.mp len), .lst xs] ∧ xs ≠ [] ∧ xs.length < 1000000 ∧ n ≤ 1000000 ∧ ∀ x, x ∈ xs → P x (n + 1)
structure GD (g : Sg) : Prop where
  ln : g.ln < 2
  b : g.b < 10
  td : ∀ r t, g.td = some (r, t) → (t.s = Str.ofString "s" ∨ t.s = Str.ofString "lib/t.js") ∧ t.l < 2 ∧ t.c < 12 ∧ (t.w = none ∨ t.w = some (Str.ofString "w") ∨ t.w = some (Str.ofString "go-on"))
structure SgsD (gs : List Sg) : Prop where
  len : gs.length ≤ 8
  g : ∀ g ∈ gs, GD g
  nd : KeyNd gs
abbrev R__law_segments (A : Ad) : Rl := fun ds n P _ => ∃ (a : Addr) (len : Nat), ds = [.strm a (.mp len)] ∧ n ≤ 900000 ∧ ∀ gs m, SgsD gs → n ≤ m → m ≤ n + 100 → P (.lst (gs.map sgD)) m
abbrev R__law_told (A : Ad) : Rl := pr fun ds P => ∃ (gs : List Sg) (l c : Nat), ds = [.lst (gs.map sgD), .int l, .int c] ∧ P (tgO (tol gs l c))
abbrev R__law_values (A : Ad) : Rl := pr fun ds P => ∃ (gs : List Sg) (l : Nat), ds = [.lst (gs.map sgD), .int l] ∧ gs.length ≤ 1000 ∧ (∀ g ∈ gs, g.b ≤ 100000) ∧ P (.lst ((List.range (top gs l + 4)).map fun c => tgO (tol gs l c)))
def uniq (xs : List Str) : List Str := xs.foldl (fun a x => if x ∈ a then a else a ++ [x]) []
def srcs (R : Rows) : List Str := (allP R).filterMap fun g => g.td.map (·.2.s)
def wrds (R : Rows) : List Str := (allP R).filterMap fun g => g.td.bind (·.2.w)
abbrev RowOk (R : Rows) (l : Nat) : Prop := ((rowAt R l).map (·.b)).Pairwise (· < ·) ∧ (rowAt R l).length ≤ 100000
def lenS (v : Nat → Option Tg) (N : Nat) (t : Tg) (a st : Nat) : Option Nat → Prop
  | none => ∀ c, a ≤ c → c < N → v c = some (adv t (st * (c - a)))
  | some m => 1 ≤ m ∧ a + m < N ∧ (∀ c, a ≤ c → c < a + m → v c = some (adv t (st * (c - a)))) ∧ v (a + m) ≠ some (adv t (st * m))
abbrev valsD (v : Nat → Option Tg) (N : Nat) : D := .lst ((List.range N).map fun c => tgO (v c))
abbrev R_check_source (A : Ad) : Rl := pr fun ds P => ∃ x, ds = [.str x] ∧ okName x ∧ P .non
abbrev R_piece_index (A : Ad) : Rl := pr fun ds P => ∃ (l : Nat) (ps : List Pc) (c k : Nat), ds = [.tup (ps.map fun p => sgD (pcS l p)), .int c] ∧ ps.length ≤ 100000 ∧ (∀ i p, ps[i]? = some p → (p.b ≤ c ↔ i < k)) ∧ k ≤ ps.length ∧ P (.int ((k : Int) - 1))
abbrev R_Map_target_at (A : Ad) : Rl := pr fun ds P => ∃ (R : Rows) (l c : Nat), ds = [mapD A R, .int l, .int c] ∧ RowOk R l ∧ P (tgO (valQ (rowAt R l) c))
abbrev R_check_numbers (A : Ad) : Rl := pr fun ds P => ∃ (l c : Nat), ds = [.int l, .int c] ∧ l ≤ NL ∧ c ≤ NL ∧ P .non
abbrev R_Map_call (A : Ad) : Rl := pr fun ds P => ∃ (R : Rows) (l c : Nat), ds = [mapD A R, .int l, .int c] ∧ l ≤ NL ∧ c ≤ NL ∧ RowOk R l ∧ P (tgO (valQ (rowAt R l) c))
abbrev R_Map_eq (A : Ad) : Rl := pr fun ds P => ∃ (R R' : Rows), ds = [mapD A R, mapD A R'] ∧ P (.bl (decide (allP R = allP R')))
abbrev R__distinct (A : Ad) : Rl := pr fun ds P => ∃ xs : List Str, ds = [.lst (xs.map .str)] ∧ xs.length ≤ 100000 ∧ P (.tup ((uniq xs).map .str))
abbrev R_Map_sources (A : Ad) : Rl := pr fun ds P => ∃ R : Rows, ds = [mapD A R] ∧ tot R ≤ 10000 ∧ P (.tup ((uniq (srcs R)).map .str))
abbrev R_Map_words (A : Ad) : Rl := pr fun ds P => ∃ R : Rows, ds = [mapD A R] ∧ tot R ≤ 10000 ∧ P (.tup ((uniq (wrds R)).map .str))
abbrev R_Map_contains (A : Ad) : Rl := pr fun ds P => ∃ (R : Rows) (x : D), ds = [mapD A R, x] ∧ tot R ≤ 10000 ∧ ((∃ e, pd x = some e ∧ e.plain = true ∧ e.depth ≤ 60 ∧ P (.bl (((uniq (srcs R)).map PyData.str).any fun z => PyData.eqv z e))) ∨ ∃ ys, x = .fdc ys ∧ P (.bl false))
abbrev R_map_of_rows (A : Ad) : Rl := pr fun ds P => ∃ R : Rows, ds = [.fdc (R.map rowD)] ∧ (R.map (·.1)).Nodup ∧ tot R ≤ 10000 ∧ P (mapD A R)
abbrev R_map_of_lines (A : Ad) : Rl := pr fun ds P => ∃ L : List (Nat × List Stt), ds = [.fdc (L.map fun p => (Sum.inl (p.1 : Int), .lst (p.2.map stD)))] ∧ (L.map (·.1)).Nodup ∧ L.length < 64 ∧ (∀ p ∈ L, Asc p.2 ∧ p.2.length ≤ 100) ∧ ∀ L' : List (Nat × List Stt), L'.Perm L → (L'.map (·.1)).Pairwise (· < ·) → P (mapD A (rowsOf L'))
abbrev R__law_length (A : Ad) : Rl := pr fun ds P => ∃ (v : Nat → Option Tg) (N : Nat) (t : Tg) (a st : Nat), ds = [valsD v N, .int a, .int st] ∧ st ≤ 1 ∧ a < N ∧ N ≤ 100000 ∧ v a = some t ∧ ∀ r : Option Nat, lenS v N t a st r → P (lmD r)
abbrev R__law_pieces (A : Ad) : Rl := pr fun ds P => ∃ (v : Nat → Option Tg) (N l : Nat), ds = [.int l, valsD v N] ∧ 3 ≤ N ∧ N ≤ 100000 ∧ vld v (N - 3) N ∧ P (.lst ((allN v N).map fun p => sgD (pcS l p)))
abbrev R__law_all (A : Ad) : Rl := pr fun ds P => ∃ gs : List Sg, ds = [.lst (gs.map sgD)] ∧ gs.length ≤ 1000 ∧ (∀ g ∈ gs, g.b ≤ 90000 ∧ g.ln < 2) ∧ KeyNd gs ∧ P (.lst ((allP (rowsG gs)).map sgD))
abbrev R_Map_bool (A : Ad) : Rl := pr fun ds P => ∃ (R : Rows), ds = [mapD A R] ∧ P (.bl (!(allP R).isEmpty))
abbrev R__law_right (A : Ad) : Rl := pr fun ds P => ∃ gs : List Sg, ds = [.lst (gs.map sgD)] ∧ SgsD gs ∧ P (.bl true)
abbrev R_law (A : Ad) : Rl := RL
structure TxtC (K : PySem.W.Frag) (A : Ad) : Prop where
  cl_Map : Cls K A.c_Map
  na_Map__rows : NoAttr K A.c_Map "_rows"
  na_Map__pieces : NoAttr K A.c_Map "_pieces"
  ty_Map : TyC K A.c_Map
  ks_Map : PySem.W.kitOne K (.ref A.c_Map) (.ref A.c_Map) = some true
  nf_Map : PySem.W.notFirst K A.c_Map (.ref A.c_Map) = true
structure TxtT (K : PySem.W.Frag) [Tb K] (A : Ad) : Prop where
  none : True
def t_is_integer (K : PySem.W.Frag) [Tb K] (A : Ad) : TS := (tRet (tAndV (tCB (rIsi K) (tCons (tVar 0) (tCons (tC (.ty "int")) tNil))) (tNotV (tCB (rIsi K) (tCons (tVar 0) (tCons (tC (.ty "bool")) tNil))))))
def t_told_further (K : PySem.W.Frag) [Tb K] (A : Ad) : TS := (tSeq (tIfS (tOr (tTest (tOp (rIsN') (tVar 0) (tC .non))) (tTest (tOp (rEqP K) (tOp (rIx K) (tVar 0) (tC (.int 0))) (tC (.str (PySem.Str.ofString "point")))))) (tRet (tVar 0)) tNext)
    (tSeq (tAsg (tVar 0) (gTup K 5 (gCons (gName 2) (gCons (gName 3) (gCons (gName 4) (gCons (gName 5) (gCons (gName 6) gNil)))))))
    (tRet (tTup (tCons (tVar 2) (tCons (tVar 3) (tCons (tVar 4) (tCons (tOp (rAddU K) (tVar 5) (tVar 1)) (tCons (tVar 6) tNil)))))))))
def t_word_of (K : PySem.W.Frag) [Tb K] (A : Ad) : TS := (tRet (tIf (tTest (tOp (rGtP K) (tCB (rLen' K) (tCons (tVar 0) tNil)) (tC (.int 6)))) (tOp (rIx K) (tVar 0) (tC (.int 6))) (tC .non)))
def t__goes_on (K : PySem.W.Frag) [Tb K] (A : Ad) : TS := (tSeq (tAsg (tVar 0) (gTup K 3 (gCons (gName 3) (gCons (gName 4) (gCons (gName 5) gNil)))))
    (tSeq (tIfS (tTest (tOp (rEqP K) (tVar 4) (tC (.str (PySem.Str.ofString "run"))))) (tSeq (tAsg (tVar 5) (gTup K 4 (gCons (gName 6) (gCons (gName 7) (gCons (gName 8) (gCons (gName 9) gNil))))))
    (tRet (tOp (rEqP K) (tVar 2) (tTup (tCons (tVar 6) (tCons (tVar 7) (tCons (tOp (rI0 fun i j => .int (i - j)) (tOp (rAddU K) (tVar 8) (tVar 1)) (tVar 3)) (tCons (tVar 9) tNil)))))))) tNext)
    (tRet (tOp (rEqP K) (tVar 2) (tVar 5)))))
def t_is_source (K : PySem.W.Frag) [Tb K] (A : Ad) : TS := (tSeq (tIfS (tOr (tNot (tB (tCB (rIsi K) (tCons (tVar 0) (tCons (tC (.ty "str")) tNil))))) (tNot (tTest (tChain (rLeP K) (rLeP K) (tC (.int 1)) (tCB (rLen' K) (tCons (tVar 0) tNil)) (tC (k_NAME_LIMIT)))))) (tRet (tC (.bl false))) tNext)
    (tRet (tCB (rAll K) (tCons (tLc (iStr (tVar 0)) (gName 1) tYes (tOp (rInS) (tVar 1) (tC (k_NAME_SIGNS))) [1]) tNil))))
def t__begin_of (K : PySem.W.Frag) [Tb K] (A : Ad) : TS := (tRet (tTup (tCons (tOp (rIx K) (tVar 0) (tC (.int 1))) (tCons (tOp (rIx K) (tVar 0) (tC (.int 2))) tNil))))
def t__all_pieces (K : PySem.W.Frag) [Tb K] (A : Ad) : TS := (tSeq (tAsg (tLst tNil) (gName 1))
    (tSeq (tFor (iKeys (tVar 0)) (gName 2) (tSeq (tDrop (tBM K "list" (rExtT K) (tVar 1) (tCons (tDGet (tVar 0) (tVar 2)) tNil)))
    (tIfS (tTest (tOp (rGtP K) (tCB (rLen' K) (tCons (tVar 1) tNil)) (tC (k_PIECE_LIMIT)))) tNever tNext)))
    (tRet (tCB (rTupOf K) (tCons (tVar 1) tNil)))))
def t_Map_row_at (K : PySem.W.Frag) [Tb K] (A : Ad) : TS := (tRet (tDGet2 (tFld K (tVar 0) "_rows") (tVar 1) (tTup tNil)))
def t_Map_len (K : PySem.W.Frag) [Tb K] (A : Ad) : TS := (tRet (tCB (rLen' K) (tCons (tFld K (tVar 0) "_pieces") tNil)))
def t_Map_bool (K : PySem.W.Frag) [Tb K] (A : Ad) : TS := (tRet (tCB (rBoolT K) (tCons (tFld K (tVar 0) "_pieces") tNil)))
def t_Map_eq (K : PySem.W.Frag) [Tb K] (A : Ad) : TS := (tRet (tAndV (tCB (rIsi K) (tCons (tVar 1) (tCons (tC (.ref A.c_Map)) tNil))) (tOp (rEqP K) (tFld K (tVar 0) "_pieces") (tFld K (tVar 1) "_pieces"))))
def t__law_begun (K : PySem.W.Frag) [Tb K] (A : Ad) : TS := (tRet (tDisp [((tC (.str (PySem.Str.ofString "script"))), (tVar 0)), ((tC (.str (PySem.Str.ofString "at"))), (tC (.int 0))), ((tC (.str (PySem.Str.ofString "left"))), (tLc (iList K (tVar 0)) (gName 1) tYes (tIf (tTest (tOp (rGeP K) (tVar 1) (tOp (rI CPow fun i j => .int (i ^ j.toNat)) (tC (.int 10)) (tC (.int 18))))) (tVar 1) (tC (.int 0))) [1]))]))
def t__law_draw (K : PySem.W.Frag) [Tb K] (A : Ad) : TS := (tSeq (tAsg (tDGet (tVar 0) (tC (.str (PySem.Str.ofString "at")))) (gName 2))
    (tSeq (sDPut (tVar 0) (tC (.str (PySem.Str.ofString "at"))) (tOp (rAddU K) (tVar 2) (tC (.int 1))))
    (tSeq (tAsg (tOp (rI (fun _ j => 0 < j) fun i j => .int (i % j)) (tCB (rInt1) (tCons (tVar 2) tNil)) (tCB (rMax2) (tCons (tC (.int 1)) (tCons (tCB (rLen' K) (tCons (tDGet (tVar 0) (tC (.str (PySem.Str.ofString "script")))) tNil)) tNil)))) (gName 3))
    (tSeq (tIfS (tAnd (tTest (tOp (rNeP K) (tDGet (tVar 0) (tC (.str (PySem.Str.ofString "left")))) (tLst tNil))) (tTest (tOp (rGtP K) (tOp (rIx K) (tDGet (tVar 0) (tC (.str (PySem.Str.ofString "left")))) (tVar 3)) (tC (.int 0))))) (tSeq (tAsg (tOp (rIx K) (tDGet (tVar 0) (tC (.str (PySem.Str.ofString "left")))) (tVar 3)) (gName 4))
    (tSeq (tAsg (tOp (rI CDiv fun i j => .int (i / j)) (tVar 4) (tVar 1)) (gSub (tDGet (tVar 0) (tC (.str (PySem.Str.ofString "left")))) (tVar 3) rSetL))
    (tRet (tOp (rI (fun _ j => 0 < j) fun i j => .int (i % j)) (tCB (rInt1) (tCons (tVar 4) tNil)) (tVar 1))))) tNext)
    (tSeq (tAsg (tIf (tTest (tOp (rNeP K) (tDGet (tVar 0) (tC (.str (PySem.Str.ofString "script")))) (tLst tNil))) (tOp (rI (fun _ j => 0 < j) fun i j => .int (i % j)) (tCB (rInt1) (tCons (tOp (rIx K) (tDGet (tVar 0) (tC (.str (PySem.Str.ofString "script")))) (tVar 3)) tNil)) (tC (.int 1000000007))) (tC (.int 0))) (gName 4))
    (tSeq (tAsg (tOp (rI (fun _ j => 0 < j) fun i j => .int (i % j)) (tCB (rInt1) (tCons (tOp (rAddU K) (tOp (rAddU K) (tOp (rAddU K) (tOp (rI CMul fun i j => .int (i * j)) (tVar 4) (tC (.int 48271))) (tOp (rI CMul fun i j => .int (i * j)) (tOp (rI CMul fun i j => .int (i * j)) (tC (.int 7919)) (tVar 2)) (tVar 2))) (tOp (rI CMul fun i j => .int (i * j)) (tC (.int 31)) (tVar 2))) (tC (.int 17))) tNil)) (tC (.int 2147483647))) (gName 5))
    (tSeq (tAsg (tOp (rI (fun _ j => 0 < j) fun i j => .int (i % j)) (tCB (rInt1) (tCons (tOp (rAddU K) (tOp (rAddU K) (tOp (rI CMul fun i j => .int (i * j)) (tVar 5) (tC (.int 69619))) (tOp (rI CMul fun i j => .int (i * j)) (tC (.int 104729)) (tVar 2))) (tC (.int 5))) tNil)) (tC (.int 2147483629))) (gName 5))
    (tRet (tOp (rI (fun _ j => 0 < j) fun i j => .int (i % j)) (tCB (rInt1) (tCons (tOp (rI CDiv fun i j => .int (i / j)) (tOp (rI (fun _ j => 0 < j) fun i j => .int (i % j)) (tCB (rInt1) (tCons (tOp (rI CMul fun i j => .int (i * j)) (tVar 5) (tVar 5)) tNil)) (tC (.int 1000000007))) (tC (.int 11))) tNil)) (tVar 1))))))))))
def t__law_told (K : PySem.W.Frag) [Tb K] (A : Ad) : TS := (tSeq (tAsg (tC .non) (gName 3))
    (tSeq (tFor (iList K (tVar 0)) (gName 4) (tIfS (tAnd (tTest (tOp (rEqP K) (tOp (rIx K) (tVar 4) (tC (.int 1))) (tVar 1))) (tAnd (tTest (tOp (rLeP K) (tOp (rIx K) (tVar 4) (tC (.int 2))) (tVar 2))) (tOr (tTest (tOp (rIsN') (tVar 3) (tC .non))) (tTest (tOp (rGtP K) (tOp (rIx K) (tVar 4) (tC (.int 2))) (tOp (rIx K) (tVar 3) (tC (.int 2)))))))) (tAsg (tVar 4) (gName 3)) tNext))
    (tSeq (tIfS (tOr (tTest (tOp (rIsN') (tVar 3) (tC .non))) (tTest (tOp (rEqP K) (tOp (rIx K) (tVar 3) (tC (.int 0))) (tC (.str (PySem.Str.ofString "gap")))))) (tRet (tC .non)) tNext)
    (tSeq (tAsg (tIf (tTest (tOp (rEqP K) (tOp (rIx K) (tVar 3) (tC (.int 0))) (tC (.str (PySem.Str.ofString "run"))))) (tOp (rI0 fun i j => .int (i - j)) (tVar 2) (tOp (rIx K) (tVar 3) (tC (.int 2)))) (tC (.int 0))) (gName 5))
    (tRet (tTup (tCons (tOp (rIx K) (tVar 3) (tC (.int 3))) (tCons (tOp (rIx K) (tVar 3) (tC (.int 4))) (tCons (tOp (rAddU K) (tOp (rIx K) (tVar 3) (tC (.int 5))) (tVar 5)) (tCons (tIf (tTest (tOp (rEqP K) (tCB (rLen' K) (tCons (tVar 3) tNil)) (tC (.int 7)))) (tOp (rIx K) (tVar 3) (tC (.int 6))) (tC .non)) tNil))))))))))
def t__law_length (K : PySem.W.Frag) [Tb K] (A : Ad) : TS := (tSeq (tPar 3 4 (tCons (tOp (rIx K) (tVar 0) (tVar 1)) (tCons (tC (.int 1)) tNil)))
    (tSeq (tWhile (tTest (tOp (rLtP K) (tOp (rAddU K) (tVar 1) (tVar 4)) (tCB (rLen' K) (tCons (tVar 0) tNil)))) (tSeq (tIfS (tTest (tOp (rNeP K) (tOp (rIx K) (tVar 0) (tOp (rAddU K) (tVar 1) (tVar 4))) (tTup (tCons (tOp (rIx K) (tVar 3) (tC (.int 0))) (tCons (tOp (rIx K) (tVar 3) (tC (.int 1))) (tCons (tOp (rAddU K) (tOp (rIx K) (tVar 3) (tC (.int 2))) (tOp (rI CMul fun i j => .int (i * j)) (tVar 2) (tVar 4))) (tCons (tOp (rIx K) (tVar 3) (tC (.int 3))) tNil))))))) (tRet (tVar 4)) tNext)
    (tAsg (tOp (rAddU K) (tVar 4) (tC (.int 1))) (gName 4))))
    (tRet (tC .non))))
def t_is_count (K : PySem.W.Frag) [Tb K] (A : Ad) : TS := (tRet (tAndV (tCall (spD K (R_is_integer A)) [] E0 (tCons (tVar 0) tNil)) (tOp (rGeP K) (tVar 0) (tC (.int 0)))))
def t_told_of (K : PySem.W.Frag) [Tb K] (A : Ad) : TS := (tSeq (tIfS (tTest (tOp (rEqP K) (tOp (rIx K) (tVar 0) (tC (.int 0))) (tC (.str (PySem.Str.ofString "gap"))))) (tRet (tC .non)) tNext)
    (tRet (tTup (tCons (tOp (rIx K) (tVar 0) (tC (.int 0))) (tCons (tOp (rIx K) (tVar 0) (tC (.int 3))) (tCons (tOp (rIx K) (tVar 0) (tC (.int 4))) (tCons (tOp (rIx K) (tVar 0) (tC (.int 5))) (tCons (tCall (spD K (R_word_of A)) [] E0 (tCons (tVar 0) tNil)) tNil))))))))
def t__some_columns (K : PySem.W.Frag) [Tb K] (A : Ad) : TS := (tSeq (tAsg (tLst tNil) (gName 1))
    (tSeq (tFor (iEnum K (tCons (tVar 0) tNil)) (gTup K 2 (gCons (gName 2) (gCons (gTup K 2 (gCons (gName 3) (gCons (gName 4) gNil))) gNil))) (tSeq (tAsg (tC (.int 3)) (gName 5))
    (tSeq (tIfS (tTest (tOp (rLtP K) (tOp (rAddU K) (tVar 2) (tC (.int 1))) (tCB (rLen' K) (tCons (tVar 0) tNil)))) (tAsg (tCB (rMin2) (tCons (tC (.int 3)) (tCons (tOp (rI0 fun i j => .int (i - j)) (tOp (rIx K) (tOp (rIx K) (tVar 0) (tOp (rAddU K) (tVar 2) (tC (.int 1)))) (tC (.int 0))) (tVar 3)) tNil))) (gName 5)) tNext)
    (tFor (iRng1 (tCons (tVar 5) tNil)) (gName 6) (tSeq (tAsg (tCall (spD K (R_told_further A)) [] E0 (tCons (tVar 4) (tCons (tVar 6) tNil))) (gName 7))
    (tDrop (tBM K "list" rAppend (tVar 1) (tCons (tTup (tCons (tOp (rAddU K) (tVar 3) (tVar 6)) (tCons (tIf (tTru K (tVar 7)) (tSl (rSlU K) (tVar 7) (tPart (tC (.int 1))) tNoPart) (tC .non)) tNil))) tNil))))))))
    (tRet (tVar 1))))
def t__law_of (K : PySem.W.Frag) [Tb K] (A : Ad) : TS := (tRet (tOp (rIx K) (tVar 1) (tCall (spD K (R__law_draw A)) [] E0 (tCons (tVar 0) (tCons (tCB (rLen' K) (tCons (tVar 1) tNil)) tNil)))))
def t__law_values (K : PySem.W.Frag) [Tb K] (A : Ad) : TS := (tSeq (tAsg (tCB (rMaxQ K) (tCons (tOp (rAddU K) (tLst (tCons (tUn (rU fun i => .int (-i)) (tC (.int 1))) tNil)) (tLc (iList K (tVar 0)) (gName 3) (tTest (tOp (rEqP K) (tOp (rIx K) (tVar 3) (tC (.int 1))) (tVar 1))) (tOp (rIx K) (tVar 3) (tC (.int 2))) [3])) tNil)) (gName 2))
    (tRet (tLc (iRng1 (tCons (tOp (rAddU K) (tVar 2) (tC (.int 5))) tNil)) (gName 4) tYes (tCall (spD K (R__law_told A)) [] E0 (tCons (tVar 0) (tCons (tVar 1) (tCons (tVar 4) tNil)))) [4])))
def t__law_pieces (K : PySem.W.Frag) [Tb K] (A : Ad) : TS := (tSeq (tPar 2 3 (tCons (tLst tNil) (tCons (tC (.int 0)) tNil)))
    (tSeq (tWhile (tAnd (tTest (tOp (rNotN') (tVar 3) (tC .non))) (tTest (tOp (rLtP K) (tVar 3) (tCB (rLen' K) (tCons (tVar 1) tNil))))) (tSeq (tPar 4 5 (tCons (tOp (rIx K) (tVar 1) (tVar 3)) (tCons (tC (.int 1)) tNil)))
    (tSeq (tIfS (tTest (tOp (rIsN') (tVar 4) (tC .non))) (tSeq (tWhile (tAnd (tTest (tOp (rLtP K) (tOp (rAddU K) (tVar 3) (tVar 5)) (tCB (rLen' K) (tCons (tVar 1) tNil)))) (tTest (tOp (rIsN') (tOp (rIx K) (tVar 1) (tOp (rAddU K) (tVar 3) (tVar 5))) (tC .non)))) (tAsg (tOp (rAddU K) (tVar 5) (tC (.int 1))) (gName 5)))
    (tSeq (tIfS (tTest (tOp (rNeP K) (tVar 2) (tLst tNil))) (tDrop (tBM K "list" rAppend (tVar 2) (tCons (tTup (tCons (tC (.str (PySem.Str.ofString "gap"))) (tCons (tVar 0) (tCons (tVar 3) tNil)))) tNil))) tNext)
    (tSeq (tAsg (tOp (rAddU K) (tVar 3) (tVar 5)) (gName 3))
    tCont))) tNext)
    (tSeq (tPar 6 7 (tCons (tCall (spD K (R__law_length A)) [] E0 (tCons (tVar 1) (tCons (tVar 3) (tCons (tC (.int 1)) tNil)))) (tCons (tCall (spD K (R__law_length A)) [] E0 (tCons (tVar 1) (tCons (tVar 3) (tCons (tC (.int 0)) tNil)))) tNil)))
    (tSeq (tAsg (tAndV (tOp (rNotN') (tVar 7) (tC .non)) (tOrV (tOp (rIsN') (tVar 6) (tC .non)) (tOp (rGeP K) (tVar 6) (tVar 7)))) (gName 8))
    (tSeq (tAsg (tOp (rAddU K) (tTup (tCons (tVar 0) (tCons (tVar 3) (tCons (tOp (rIx K) (tVar 4) (tC (.int 0))) (tCons (tOp (rIx K) (tVar 4) (tC (.int 1))) (tCons (tOp (rIx K) (tVar 4) (tC (.int 2))) tNil)))))) (tIf (tTest (tOp (rNotN') (tOp (rIx K) (tVar 4) (tC (.int 3))) (tC .non))) (tTup (tCons (tOp (rIx K) (tVar 4) (tC (.int 3))) tNil)) (tTup tNil))) (gName 9))
    (tSeq (tDrop (tBM K "list" rAppend (tVar 2) (tCons (tOp (rAddU K) (tIf (tTru K (tVar 8)) (tTup (tCons (tC (.str (PySem.Str.ofString "run"))) tNil)) (tTup (tCons (tC (.str (PySem.Str.ofString "point"))) tNil))) (tVar 9)) tNil)))
    (tSeq (tAsg (tIf (tTru K (tVar 8)) (tVar 6) (tVar 7)) (gName 5))
    (tAsg (tIf (tTest (tOp (rIsN') (tVar 5) (tC .non))) (tC .non) (tOp (rAddU K) (tVar 3) (tVar 5))) (gName 3))))))))))
    (tRet (tVar 2))))
def t_is_up_to (K : PySem.W.Frag) [Tb K] (A : Ad) : TS := (tRet (tAndV (tCall (spD K (R_is_count A)) [] E0 (tCons (tVar 0) tNil)) (tOrV (tOp (rIsN') (tVar 1) (tC .non)) (tOp (rLeP K) (tVar 0) (tVar 1)))))
def t_stretches_of (K : PySem.W.Frag) [Tb K] (A : Ad) : TS := (tRet (tLc (iSeq K (tVar 0)) (gName 1) tYes (tTup (tCons (tOp (rIx K) (tVar 1) (tC (.int 2))) (tCons (tCall (spD K (R_told_of A)) [] E0 (tCons (tVar 1) tNil)) tNil))) [1]))
def t_fewest (K : PySem.W.Frag) [Tb K] (A : Ad) : TS := (tSeq (tAsg (tLst tNil) (gName 1))
    (tSeq (tAsg (tTup (tCons (tC (.int 0)) (tCons (tC (.str (PySem.Str.ofString "gap"))) (tCons (tC .non) tNil)))) (gName 2))
    (tSeq (tFor (iList K (tCall (spD K (R__some_columns A)) [] E0 (tCons (tVar 0) tNil))) (gTup K 2 (gCons (gName 3) (gCons (gName 4) gNil))) (tSeq (tIfS (tAnd (tTest (tOp (rNotN') (tVar 4) (tC .non))) (tAnd (tTest (tOp (rEqP K) (tVar 4) (tOp (rIx K) (tVar 2) (tC (.int 2))))) (tTest (tOp (rEqP K) (tVar 3) (tOp (rAddU K) (tOp (rIx K) (tVar 2) (tC (.int 0))) (tC (.int 1))))))) (tAsg (tTup (tCons (tOp (rIx K) (tVar 2) (tC (.int 0))) (tCons (tC (.str (PySem.Str.ofString "point"))) (tCons (tVar 4) tNil)))) (gName 2)) tNext)
    (tIfS (tNot (tB (tCall (spD K (R__goes_on A)) [] E0 (tCons (tVar 2) (tCons (tVar 3) (tCons (tVar 4) tNil)))))) (tSeq (tDrop (tBM K "list" rAppend (tVar 1) (tCons (tVar 2) tNil)))
    (tAsg (tTup (tCons (tVar 3) (tCons (tIf (tTest (tOp (rIsN') (tVar 4) (tC .non))) (tC (.str (PySem.Str.ofString "gap"))) (tC (.str (PySem.Str.ofString "run")))) (tCons (tVar 4) tNil)))) (gName 2))) tNext)))
    (tSeq (tDrop (tBM K "list" rAppend (tVar 1) (tCons (tVar 2) tNil)))
    (tRet (tSl (rSlU K) (tVar 1) (tPart (tC (.int 1))) tNoPart))))))
def t__law_segments (K : PySem.W.Frag) [Tb K] (A : Ad) : TS := (tSeq (tPar3 1 2 3 (tCons (tLst tNil) (tCons (tLst tNil) (tCons (tCall (spD K (R__law_draw A)) [] E0 (tCons (tVar 0) (tCons (tC (.int 3)) tNil))) tNil))))
    (tSeq (tFor (iRng1 (tCons (tCall (spD K (R__law_draw A)) [] E0 (tCons (tVar 0) (tCons (tC (.int 9)) tNil))) tNil)) (gName 4) (tSeq (tAsg (tTup (tCons (tCall (spD K (R__law_draw A)) [] E0 (tCons (tVar 0) (tCons (tC (.int 2)) tNil))) (tCons (tCall (spD K (R__law_draw A)) [] E0 (tCons (tVar 0) (tCons (tC (.int 10)) tNil))) tNil))) (gName 5))
    (tSeq (tIfS (tTest (tOp (rInP K) (tVar 5) (tVar 2))) tCont tNext)
    (tSeq (tDrop (tBM K "list" rAppend (tVar 2) (tCons (tVar 5) tNil)))
    (tSeq (tPar 6 7 (tCons (tCall (spD K (R__law_draw A)) [] E0 (tCons (tVar 0) (tCons (tC (.int 7)) tNil))) (tCons (tCall (spD K (R__law_draw A)) [] E0 (tCons (tVar 0) (tCons (tC (.int 8)) tNil))) tNil)))
    (tSeq (tIfS (tTest (tOp (rEqP K) (tVar 6) (tC (.int 0)))) (tSeq (tDrop (tBM K "list" rAppend (tVar 1) (tCons (tTup (tCons (tC (.str (PySem.Str.ofString "gap"))) (tCons (tOp (rIx K) (tVar 5) (tC (.int 0))) (tCons (tOp (rIx K) (tVar 5) (tC (.int 1))) tNil)))) tNil)))
    tCont) tNext)
    (tSeq (tPar 7 8 (tCons (tIf (tTest (tOp (rLtP K) (tVar 6) (tC (.int 4)))) (tOp (rAddU K) (tOp (rIx K) (tVar 5) (tC (.int 1))) (tVar 3)) (tVar 7)) (tCons (tCall (spD K (R__law_of A)) [] E0 (tCons (tVar 0) (tCons (tLst (tCons (tC (.str (PySem.Str.ofString "s"))) (tCons (tC (.str (PySem.Str.ofString "s"))) (tCons (tC (.str (PySem.Str.ofString "lib/t.js"))) tNil)))) tNil))) tNil)))
    (tSeq (tAsg (tOp (rAddU K) (tOp (rAddU K) (tTup (tCons (tIf (tTest (tOp (rLtP K) (tVar 6) (tC (.int 5)))) (tC (.str (PySem.Str.ofString "run"))) (tC (.str (PySem.Str.ofString "point")))) tNil)) (tVar 5)) (tTup (tCons (tVar 8) (tCons (tCall (spD K (R__law_draw A)) [] E0 (tCons (tVar 0) (tCons (tC (.int 2)) tNil))) (tCons (tVar 7) tNil))))) (gName 9))
    (tSeq (tIfS (tTest (tOp (rEqP K) (tCall (spD K (R__law_draw A)) [] E0 (tCons (tVar 0) (tCons (tC (.int 4)) tNil))) (tC (.int 0)))) (tAsg (tOp (rAddU K) (tVar 9) (tTup (tCons (tCall (spD K (R__law_of A)) [] E0 (tCons (tVar 0) (tCons (tLst (tCons (tC (.str (PySem.Str.ofString "w"))) (tCons (tC (.str (PySem.Str.ofString "go-on"))) tNil))) tNil))) tNil))) (gName 9)) tNext)
    (tDrop (tBM K "list" rAppend (tVar 1) (tCons (tVar 9) tNil))))))))))))
    (tRet (tVar 1))))
def t__law_all (K : PySem.W.Frag) [Tb K] (A : Ad) : TS := (tRet (tOp (rAddU K) (tCall (spD K (R__law_pieces A)) [] E0 (tCons (tC (.int 0)) (tCons (tCall (spD K (R__law_values A)) [] E0 (tCons (tVar 0) (tCons (tC (.int 0)) tNil))) tNil))) (tCall (spD K (R__law_pieces A)) [] E0 (tCons (tC (.int 1)) (tCons (tCall (spD K (R__law_values A)) [] E0 (tCons (tVar 0) (tCons (tC (.int 1)) tNil))) tNil)))))
def t_check_up_to (K : PySem.W.Frag) [Tb K] (A : Ad) : TS := (tIfS (tNot (tB (tCall (spD K (R_is_up_to A)) [] E0 (tCons (tVar 0) (tCons (tVar 1) tNil))))) tNever tNext)
def t_piece_tuples (K : PySem.W.Frag) [Tb K] (A : Ad) : TS := (tSeq (tAsg (tLst tNil) (gName 2))
    (tSeq (tFor (iList K (tCall (spD K (R_fewest A)) [] E0 (tCons (tVar 1) tNil))) (gTup K 3 (gCons (gName 3) (gCons (gName 4) (gCons (gName 5) gNil)))) (tIfS (tTest (tOp (rIsN') (tVar 5) (tC .non))) (tDrop (tBM K "list" rAppend (tVar 2) (tCons (tTup (tCons (tVar 4) (tCons (tVar 0) (tCons (tVar 3) tNil)))) tNil))) (tSeq (tAsg (tVar 5) (gTup K 4 (gCons (gName 6) (gCons (gName 7) (gCons (gName 8) (gCons (gName 9) gNil))))))
    (tSeq (tAsg (tIf (tTest (tOp (rIsN') (tVar 9) (tC .non))) (tTup tNil) (tTup (tCons (tVar 9) tNil))) (gName 10))
    (tDrop (tBM K "list" rAppend (tVar 2) (tCons (tOp (rAddU K) (tTup (tCons (tVar 4) (tCons (tVar 0) (tCons (tVar 3) (tCons (tVar 6) (tCons (tVar 7) (tCons (tVar 8) tNil))))))) (tVar 10)) tNil)))))))
    (tRet (tCB (rTupOf K) (tCons (tVar 2) tNil)))))
def t__are_numbers (K : PySem.W.Frag) [Tb K] (A : Ad) : TS := (tSeq (tIfS (tOr (tNot (tB (tCB (rIsi K) (tCons (tVar 0) (tCons (tC (.ty "tuple")) tNil))))) (tTest (tOp (rNeP K) (tCB (rLen' K) (tCons (tVar 0) tNil)) (tVar 1)))) (tRet (tC (.bl false))) tNext)
    (tRet (tCB (rAll K) (tCons (tLc (iTup K (tVar 0)) (gName 3) tYes (tCall (spD K (R_is_up_to A)) [] E0 (tCons (tVar 3) (tCons (tVar 2) tNil))) [3]) tNil))))
def t__lines_of_segments (K : PySem.W.Frag) [Tb K] (A : Ad) : TS := (tSeq (tAsg tDNewK (gName 1))
    (tSeq (tFor (iList K (tCKw (rSortedKT K A.a__begin_of 1 2) (tCons (tVar 0) tNil) (tCons (tC (.ref A.a__begin_of)) tNil))) (gName 2) (tDrop (tBM K "list" rAppend (tDSetd (tVar 1) (tOp (rIx K) (tVar 2) (tC (.int 1))) (tLst tNil)) (tCons (tVar 2) tNil))))
    (tFrzS 1 (tRet (tFrz (tDc (iKeys (tVar 1)) (gName 3) tYes (tVar 3) (tCall (spD K (R_stretches_of A)) [] E0 (tCons (tDGet (tVar 1) (tVar 3)) tNil)) [3]))))))
def t__is_segment (K : PySem.W.Frag) [Tb K] (A : Ad) : TS := (tSeq (tIfS (tOr (tNot (tB (tCB (rIsi K) (tCons (tVar 0) (tCons (tC (.ty "tuple")) tNil))))) (tOr (tTest (tOp (rNiP K) (tCB (rLen' K) (tCons (tVar 0) tNil)) (tTup (tCons (tC (.int 3)) (tCons (tC (.int 6)) (tCons (tC (.int 7)) tNil)))))) (tNot (tB (tCB (rIsi K) (tCons (tOp (rIx K) (tVar 0) (tC (.int 0))) (tCons (tC (.ty "str")) tNil))))))) (tRet (tC (.bl false))) tNext)
    (tSeq (tIfS (tNot (tB (tCall (spD K (R__are_numbers A)) [] E0 (tCons (tSl (rSlU K) (tVar 0) (tPart (tC (.int 1))) (tPart (tC (.int 3)))) (tCons (tC (.int 2)) (tCons (tVar 1) tNil)))))) (tRet (tC (.bl false))) tNext)
    (tSeq (tIfS (tTest (tOp (rEqP K) (tCB (rLen' K) (tCons (tVar 0) tNil)) (tC (.int 3)))) (tRet (tOp (rEqP K) (tOp (rIx K) (tVar 0) (tC (.int 0))) (tC (.str (PySem.Str.ofString "gap"))))) tNext)
    (tSeq (tAsg (tAndV (tCall (spD K (R_is_source A)) [] E0 (tCons (tOp (rIx K) (tVar 0) (tC (.int 3))) tNil)) (tCall (spD K (R__are_numbers A)) [] E0 (tCons (tSl (rSlU K) (tVar 0) (tPart (tC (.int 4))) (tPart (tC (.int 6)))) (tCons (tC (.int 2)) (tCons (tVar 1) tNil))))) (gName 2))
    (tRet (tAndV (tOp (rInP K) (tOp (rIx K) (tVar 0) (tC (.int 0))) (tTup (tCons (tC (.str (PySem.Str.ofString "run"))) (tCons (tC (.str (PySem.Str.ofString "point"))) tNil)))) (tAndV (tVar 2) (tOrV (tOp (rEqP K) (tCB (rLen' K) (tCons (tVar 0) tNil)) (tC (.int 6))) (tCall (spD K (R_is_source A)) [] E0 (tCons (tOp (rIx K) (tVar 0) (tC (.int 6))) tNil))))))))))
def t_pieces_of_lines (K : PySem.W.Frag) [Tb K] (A : Ad) : TS := (tSeq (tAsg (tFrz (tDc (iList K (tCB (rSortDI K) (tCons (tVar 0) tNil))) (gName 2) tYes (tVar 2) (tCall (spD K (R_piece_tuples A)) [] E0 (tCons (tVar 2) (tCons (tDGet (tVar 0) (tVar 2)) tNil))) [2])) (gName 1))
    (tRet (tFrz (tDc (iKeys (tVar 1)) (gName 2) (tTru K (tDGet (tVar 1) (tVar 2))) (tVar 2) (tDGet (tVar 1) (tVar 2)) [2]))))
def t_Map_getitem (K : PySem.W.Frag) [Tb K] (A : Ad) : TS := (tSeq (tDrop (tCall (spD K (R_check_up_to A)) [] E0 (tCons (tVar 1) (tCons (tC (k_NUMBER_LIMIT)) tNil))))
    (tRet (tMeth A.c_Map "row_at" (spD K (R_Map_row_at A)) [] E0 (tVar 0) (tCons (tVar 1) tNil))))
def t__check_segments (K : PySem.W.Frag) [Tb K] (A : Ad) : TS := (tSeq (tFor (iEnumT K (tCons (tVar 0) tNil)) (gTup K 2 (gCons (gName 2) (gCons (gName 3) gNil))) (tIfS (tNot (tB (tCall (spD K (R__is_segment A)) [] E0 (tCons (tVar 3) (tCons (tVar 1) tNil))))) tNever tNext))
    (tSeq (tAsg tDNewT (gName 4))
    (tFor (iEnumT K (tCons (tVar 0) tNil)) (gTup K 2 (gCons (gName 2) (gCons (gName 3) gNil))) (tSeq (tIfS (tB (tDIn (tSl (rSlU K) (tVar 3) (tPart (tC (.int 1))) (tPart (tC (.int 3)))) (tVar 4))) tNever tNext)
    (sDPut (tVar 4) (tSl (rSlU K) (tVar 3) (tPart (tC (.int 1))) (tPart (tC (.int 3)))) (tC (.bl true)))))))
def t_Map_init (K : PySem.W.Frag) [Tb K] (A : Ad) : TS := (tSeq (tDrop (tCall (spD K (R__check_segments A)) [] E0 (tCons (tVar 1) (tCons (tC (k_NUMBER_LIMIT)) tNil))))
    (tSeq (sFld K (tVar 0) (tCall (spD K (R_pieces_of_lines A)) [] E0 (tCons (tCall (spD K (R__lines_of_segments A)) [] E0 (tCons (tVar 1) tNil)) tNil)) "_rows")
    (sFld K (tVar 0) (tCall (spD K (R__all_pieces A)) [] E0 (tCons (tFld K (tVar 0) "_rows") tNil)) "_pieces")))
def t_Map_of (K : PySem.W.Frag) [Tb K] (A : Ad) : TS := (tSeq (tIfS (tNot (tB (tCB (rIsi K) (tCons (tVar 1) (tCons (tC (.ty "tuple")) tNil))))) tNever tNext)
    (tRet (tMakeS K A.c_Map (starS 1 (spI K A.c_Map (R_Map_init A))) E0 (tVar 1))))
def t__law_right (K : PySem.W.Frag) [Tb K] (A : Ad) : TS := (tSeq (tPar 1 2 (tCons (ClX.tCMeth A.c_Map (spD K (R_Map_of A)) E0 (tC (.ref A.c_Map)) (tCons (tCB (rTupOf K) (tCons (tVar 0) tNil)) tNil)) (tCons (tCall (spD K (R__law_all A)) [] E0 (tCons (tVar 0) tNil)) tNil)))
    (tSeq (tIfS (tTest (tOp (rNeP K) (tLcP (tMethP A.c_Map "pieces" (rzF K A.c_Map "_pieces") (tVar 1)) (gName 6) tYes (tVar 6) [6]) (tVar 2))) (tRet (tC (.bl false))) tNext)
    (tSeq (tIfS (tTest (tOp (rNeP K) (tCB (rRepr K) (tCons (tLst (tCons (tCB (rLenO A.c_Map (spD K (R_Map_len A))) (tCons (tVar 1) tNil)) (tCons (tCB (rBoolO A.c_Map (spD K (R_Map_bool A))) (tCons (tVar 1) tNil)) tNil))) tNil)) (tCB (rRepr K) (tCons (tLst (tCons (tCB (rLen' K) (tCons (tVar 2) tNil)) (tCons (tOp (rNeP K) (tVar 2) (tLst tNil)) tNil))) tNil)))) (tRet (tC (.bl false))) tNext)
    (tSeq (tFor (iRng1 (tCons (tC (.int 3)) tNil)) (gName 3) (tIfS (tTest (tOp (rNeP K) (tOp (rIxO A.c_Map (spD K (R_Map_getitem A))) (tVar 1) (tVar 3)) (tCB (rTupOf K) (tCons (tLc (iList K (tVar 2)) (gName 6) (tTest (tOp (rEqP K) (tOp (rIx K) (tVar 6) (tC (.int 1))) (tVar 3))) (tVar 6) [6]) tNil)))) (tRet (tC (.bl false))) tNext))
    (tSeq (tAsg (tLc (iList K (tVar 2)) (gName 6) tYes (tOp (rIx K) (tVar 6) (tC (.int 1))) [6]) (gName 4))
    (tSeq (tIfS (tTest (tOp (rNeP K) (tLcP (tMethP A.c_Map "used_lines" (rzK K A.c_Map "_rows") (tVar 1)) (gName 3) tYes (tVar 3) [3]) (tLc (iRng1 (tCons (tC (.int 3)) tNil)) (gName 3) (tTest (tOp (rInP K) (tVar 3) (tVar 4))) (tVar 3) [3]))) (tRet (tC (.bl false))) tNext)
    (tSeq (tIfS (tOr (tTest (tOp (rNeP K) (tOp (rIxO A.c_Map (spD K (R_Map_getitem A))) (tVar 1) (tOp (rI CPow fun i j => .int (i ^ j.toNat)) (tC (.int 10)) (tC (.int 9)))) (tTup tNil))) (tTest (tOp (rNeP K) (tOp (rIxO A.c_Map (spD K (R_Map_getitem A))) (tVar 1) (tC (.int 3))) (tTup tNil)))) (tRet (tC (.bl false))) tNext)
    (tSeq (tAsg (ClX.tCMeth A.c_Map (spD K (R_Map_of A)) E0 (tC (.ref A.c_Map)) (tCons (tCB (rTupOf K) (tCons (tVar 2) tNil)) tNil)) (gName 5))
    (tRet (tAndV (tOp (rEqO K A.c_Map (spD K (R_Map_eq A))) (tVar 5) (tVar 1)) (tOp (rEqP K) (tLcP (tMethP A.c_Map "pieces" (rzF K A.c_Map "_pieces") (tVar 5)) (gName 6) tYes (tVar 6) [6]) (tVar 2))))))))))))
def t_law (K : PySem.W.Frag) [Tb K] (A : Ad) : TS := (tSeq (tAsg (tCall (spD K (R__law_begun A)) [] E0 (tCons (tVar 0) tNil)) (gName 1))
    (tSeq (tFor (iRng1 (tCons (tOp (rAddU K) (tC (.int 2)) (tCB (rMin2) (tCons (tC (.int 6)) (tCons (tCB (rLen' K) (tCons (tVar 0) tNil)) tNil)))) tNil)) (gName 2) (tIfS (tNot (tB (tCall (spD K (R__law_right A)) [] E0 (tCons (tCall (spD K (R__law_segments A)) [] E0 (tCons (tVar 1) tNil)) tNil)))) (tRet (tC (.bl false))) tNext))
    (tSeq (tAsg (tMakeR A.c_Map (starS 1 (spI K A.c_Map (R_Map_init A))) E0 (tCons (tTup (tCons (tC (.str (PySem.Str.ofString "run"))) (tCons (tC (.int 0)) (tCons (tC (.int 0)) (tCons (tC (.str (PySem.Str.ofString "s"))) (tCons (tC (.int 0)) (tCons (tC (.int 5)) tNil))))))) (tCons (tTup (tCons (tC (.str (PySem.Str.ofString "point"))) (tCons (tC (.int 0)) (tCons (tC (.int 1)) (tCons (tC (.str (PySem.Str.ofString "s"))) (tCons (tC (.int 0)) (tCons (tC (.int 6)) tNil))))))) tNil))) (gName 3))
    (tSeq (tIfS (tTest (tOp (rNeP K) (tOp (rIxO A.c_Map (spD K (R_Map_getitem A))) (tVar 3) (tC (.int 0))) (tTup (tCons (tTup (tCons (tC (.str (PySem.Str.ofString "run"))) (tCons (tC (.int 0)) (tCons (tC (.int 0)) (tCons (tC (.str (PySem.Str.ofString "s"))) (tCons (tC (.int 0)) (tCons (tC (.int 5)) tNil))))))) (tCons (tTup (tCons (tC (.str (PySem.Str.ofString "point"))) (tCons (tC (.int 0)) (tCons (tC (.int 2)) (tCons (tC (.str (PySem.Str.ofString "s"))) (tCons (tC (.int 0)) (tCons (tC (.int 6)) tNil))))))) tNil))))) (tRet (tC (.bl false))) tNext)
    (tSeq (tAsg (tMakeR A.c_Map (starS 1 (spI K A.c_Map (R_Map_init A))) E0 (tCons (tTup (tCons (tC (.str (PySem.Str.ofString "run"))) (tCons (tC (.int 0)) (tCons (tC (.int 0)) (tCons (tC (.str (PySem.Str.ofString "s"))) (tCons (tC (.int 0)) (tCons (tC (.int 5)) tNil))))))) (tCons (tTup (tCons (tC (.str (PySem.Str.ofString "run"))) (tCons (tC (.int 0)) (tCons (tC (.int 1)) (tCons (tC (.str (PySem.Str.ofString "s"))) (tCons (tC (.int 0)) (tCons (tC (.int 5)) tNil))))))) (tCons (tTup (tCons (tC (.str (PySem.Str.ofString "run"))) (tCons (tC (.int 0)) (tCons (tC (.int 2)) (tCons (tC (.str (PySem.Str.ofString "s"))) (tCons (tC (.int 0)) (tCons (tC (.int 6)) tNil))))))) tNil)))) (gName 3))
    (tRet (tOp (rEqP K) (tOp (rIxO A.c_Map (spD K (R_Map_getitem A))) (tVar 3) (tC (.int 0))) (tTup (tCons (tTup (tCons (tC (.str (PySem.Str.ofString "point"))) (tCons (tC (.int 0)) (tCons (tC (.int 0)) (tCons (tC (.str (PySem.Str.ofString "s"))) (tCons (tC (.int 0)) (tCons (tC (.int 5)) tNil))))))) (tCons (tTup (tCons (tC (.str (PySem.Str.ofString "run"))) (tCons (tC (.int 0)) (tCons (tC (.int 2)) (tCons (tC (.str (PySem.Str.ofString "s"))) (tCons (tC (.int 0)) (tCons (tC (.int 6)) tNil))))))) tNil))))))))))
end Lw

namespace Lw
open PySem L2 StX DL MP
section
variable {K : PySem.W.Frag} [Tb K] {Z : ZX} {A : Ad}
/-- one step -/
local macro_rules | `(tactic| walk_at "w1") => `(tactic| first
  | with_reducible refine ws_seq ?_
  | ((with_reducible show Ws _ _ (tAsg (tLst tNil) (gName _)) _ _ _); refine ws_setX (wx_lst (wa_nil ⟨Nat.zero_le _, ?_⟩)))
  | ((with_reducible show Ws _ _ (tAsg tDNewK (gName _)) _ _ _); refine ws_setX (wx_dnew ?_))
  | with_reducible refine ws_parX ?_
  | with_reducible refine ws_par3X ?_
  | ((with_reducible show Wx _ _ (tLst tNil) _ _ _); refine wx_lst (wa_nil ⟨Nat.zero_le _, ?_⟩))
  | ((with_reducible show Wx _ _ tDNewK _ _ _); refine wx_dnew ?_)
  | with_reducible refine wx_we ?_
  | with_reducible refine ws_break ?_
  | with_reducible refine ws_cont ?_
  | with_reducible refine ws_retN ?_
  | with_reducible refine ws_if ?_
  | with_reducible refine ws_ret ?_
  | ((fail_if_success (with_reducible show Ws _ _ (tDrop (tBM _ _ _ _ _)) _ _ _)); (with_reducible refine ws_drop ?_))
  | with_reducible refine ws_next ?_
  | with_reducible refine ws_par ?_
  | ((fail_if_success (with_reducible show Ws _ _ (tAsg _ (gSub _ _ _)) _ _ _)); (with_reducible refine ws_asg ?_))
  | with_reducible refine wg_name ?_
  | with_reducible refine we_int ?_
  | with_reducible refine we_bl ?_
  | with_reducible refine we_non ?_
  | with_reducible refine we_str ?_
  | with_reducible refine we_ty ?_
  | with_reducible refine we_cls ?_
  | with_reducible refine we_cmethX ?_
  | with_reducible refine we_cmeth ?_
  | with_reducible refine we_cmethN ?_
  | ((with_reducible show ∃ _, D.str _ = D.str _ ∧ _ ∧ _); refine ⟨_, rfl, ?_, ?_⟩; (focus (first | assumption | omega)))
  | ((with_reducible show We _ _ (tVar _) _ _ _); refine we_var rfl rfl ?_)
  | ((with_reducible show We _ _ (tVar _) _ _ _); refine we_var rfl (mut_td _) ?_)
  | ((with_reducible show We _ _ (tVar _) _ _ _); refine we_var rfl (mut_tg _) ?_)
  | ((with_reducible show We _ _ (tVar _) _ _ _); refine we_var rfl (mut_w _) ?_)
  | ((with_reducible show We _ _ (tVar _) _ _ _); refine we_var rfl (mut_lm _) ?_)
  | ((with_reducible show We _ _ (tVar _) _ _ _); refine we_var rfl (mut_b _) ?_)
  | ((fail_if_success (with_reducible show We _ _ (tOp (rInP _) _ (tVar _)) _ _ _)); with_reducible refine we_op ?_)
  | with_reducible refine we_un ?_
  | with_reducible refine we_lenO ?_
  | with_reducible refine we_cb ?_
  | with_reducible refine we_callX ?_
  | with_reducible refine we_call ?_
  | with_reducible refine we_callNX ?_
  | with_reducible refine we_callN ?_
  | with_reducible refine we_methN ?_
  | with_reducible refine we_callON ?_
  | with_reducible refine we_callOX ?_
  | with_reducible refine ws_raise ?_
  | with_reducible refine we_tup ?_
  | with_reducible refine we_lst ?_
  | with_reducible refine we_sl ?_
  | with_reducible refine we_m1 ?_
  | with_reducible refine we_andV ?_
  | with_reducible refine we_orV ?_
  | with_reducible refine we_notV ?_
  | with_reducible refine we_if ?_
  | with_reducible refine we_chain ?_
  | with_reducible refine we_fld ?_
  | with_reducible refine we_methX ?_
  | with_reducible refine we_meth ?_
  | with_reducible refine we_prop ?_
  | with_reducible refine we_callO' ?_
  | with_reducible refine we_make ?_
  | with_reducible refine wt_test ?_
  | with_reducible refine wt_B ?_
  | with_reducible refine wt_yes ?_
  | with_reducible refine wt_and ?_
  | with_reducible refine wt_or ?_
  | with_reducible refine wt_not ?_
  | with_reducible refine wa_nil ?_
  | with_reducible refine wa_cons ?_
  | with_reducible refine wo_none ?_
  | with_reducible refine wo_some ?_
  | with_reducible refine add_int ?_
  | with_reducible refine sub_int ?_
  | with_reducible refine neg_int ?_
  | ((with_reducible refine mod_int ?_ ?_); (focus (first | assumption | omega)))
  | ((with_reducible refine mul_int ?_ ?_); (focus (first | exact Or.inl ⟨by omega, by omega⟩ | exact Or.inr ⟨by omega, by omega⟩)))
  | ((with_reducible refine fdiv_int ?_ ?_); (focus (exact ⟨by omega, by omega⟩)))
  | ((with_reducible refine pow_int ?_ ?_); (focus (exact ⟨by decide, by decide, by decide⟩)))
  | with_reducible refine is_non ?_
  | with_reducible refine not_non ?_
  | with_reducible refine eq_int ?_
  | with_reducible refine ne_int ?_
  | with_reducible refine eq_pos ?_
  | with_reducible refine ne_pos ?_
  | with_reducible refine ne_nn ?_
  | with_reducible refine ne_np ?_
  | with_reducible refine ne_pn ?_
  | with_reducible refine eq_str ?_
  | with_reducible refine ne_str ?_
  | with_reducible refine eq_bl ?_
  | with_reducible refine ne_bl ?_
  | with_reducible refine lt_int ?_
  | with_reducible refine gt_int ?_
  | with_reducible refine le_int ?_
  | with_reducible refine ge_int ?_
  | with_reducible refine lt_pos ?_
  | with_reducible refine gt_pos ?_
  | with_reducible refine le_pos ?_
  | with_reducible refine ge_pos ?_
  | with_reducible refine int_int ?_
  | with_reducible refine min_int ?_
  | with_reducible refine max_int ?_
  | with_reducible refine len_lst ?_
  | with_reducible refine len_tup ?_
  | ((with_reducible refine len_str ?_ ?_); (focus (first | assumption | omega)))
  | with_reducible refine tuple_lst ?_
  | with_reducible refine tuple_tup ?_
  | with_reducible refine sl_lst ?_
  | with_reducible refine sl_tup ?_
  | ((with_reducible refine sl_str ?_ ?_); (focus (first | assumption | omega)))
  | with_reducible refine mt_countD ?_
  | with_reducible refine mt_rfindD ?_
  | ((with_reducible refine mt_splitD ?_ ?_ ?_); (focus rfl); (focus (first | assumption | omega)))
  | ((with_reducible show Op _ (rIx _) (D.tup _) (D.int _) _); refine ix_tup (by decide) rfl ?_)
  | ((with_reducible show Op _ (rIx _) (D.lst _) (D.int _) _); refine ix_lst (by decide) rfl ?_)
  | ((with_reducible show Cb _ (rIsi _) [D.int _, D.ty _] _); first | refine isiI (r := true) (by decide +kernel) ?_ | refine isiI (r := false) (by decide +kernel) ?_)
  | ((with_reducible show Cb _ (rIsi _) [D.str _, D.ty _] _); first | refine isiS (r := true) (by decide +kernel) ?_ | refine isiS (r := false) (by decide +kernel) ?_)
  | ((with_reducible show Cb _ (rIsi _) [D.tup _, D.ty _] _); first | refine isiT (r := true) (by decide +kernel) ?_ | refine isiT (r := false) (by decide +kernel) ?_)
  | ((with_reducible show Wg _ _ (gTup _ _ _) _ _ _); refine wg_tup rfl rfl ?_)
  | ((with_reducible show Wgs _ _ gNil _ _ _); refine wgs_nil rfl ?_)
  | ((with_reducible show Wgs _ _ (gCons _ _) _ _ _); refine wgs_cons rfl ?_)
  | ((with_reducible show ∃ _, D.bl _ = D.bl _ ∧ _); refine ⟨_, rfl, ?_⟩)
  | ((with_reducible show ∃ _, D.int _ = D.int _ ∧ _); refine ⟨_, rfl, ?_⟩)
  | ((with_reducible show ∃ _, D.str _ = D.str _ ∧ _); refine ⟨_, rfl, ?_⟩)
  | ((with_reducible show ∃ _, D.tup _ = D.tup _ ∧ _); refine ⟨_, rfl, ?_⟩)
  | ((with_reducible show ∃ _, D.lst _ = D.lst _ ∧ _); refine ⟨_, rfl, ?_⟩)
  | with_reducible refine wt_tru ?_
  | with_reducible refine list_lst ?_
  | with_reducible refine list_tup ?_
  | with_reducible refine we_makeS ?_
  | with_reducible refine we_makeR ?_
  | with_reducible refine we_smethS ?_
  | with_reducible refine iteNT ?_
  | with_reducible refine iteNF ?_
  | ((with_reducible show if true = true then _ else _); rw [if_pos rfl])
  | ((with_reducible show if false = true then _ else _); rw [if_neg Bool.false_ne_true])
  | ((with_reducible show List.length _ ≤ 1000000 ∧ _); refine ⟨?_, ?_⟩; (focus (simp; done)))
  | fail "no step")
local macro_rules | `(tactic| walk_at "w") => `(tactic| repeat (walk_at "w1"))
local macro_rules | `(tactic| walk_at "ws") => `(tactic| repeat ((fail_if_success (with_reducible show We _ _ (tChain _ _ _ _ _) _ _ _)); (fail_if_success (with_reducible show Wt _ _ (tAnd _ _) _ _ _)); (fail_if_success (with_reducible show We _ _ (tOrT _ _ _) _ _ _)); walk_at "w1"))

theorem len_is_integer : ∀ ds n P X, R_is_integer A ds n P X → ds.length = 1 := by rintro ds n P X ⟨_, rfl, -⟩; rfl
theorem w_is_integer (T : TxtC K A) : ∀ Z ds n P, R_is_integer A ds n P Z.X → Ws K Z (t_is_integer K A) (startD 1 ds) n { nx := fun _ m => P .non m, rt := P } := by
  rintro Z ds n P ⟨i, rfl, h⟩
  unfold t_is_integer
  walk_at "w"
  exact h
theorem len_is_count : ∀ ds n P X, R_is_count A ds n P X → ds.length = 1 := by rintro ds n P X ⟨_, rfl, -⟩; rfl
theorem w_is_count (T : TxtC K A) : ∀ Z ds n P, R_is_count A ds n P Z.X → Ws K Z (t_is_count K A) (startD 1 ds) n { nx := fun _ m => P .non m, rt := P } := by
  rintro Z ds n P ⟨i, rfl, h⟩
  unfold t_is_count
  walk_at "w"
  refine ⟨_, rfl, true, rfl, ?_⟩
  walk_at "w"
  exact h
theorem len_is_up_to : ∀ ds n P X, R_is_up_to A ds n P X → ds.length = 2 := by rintro ds n P X ⟨_, _, rfl, -⟩; rfl
theorem w_is_up_to (T : TxtC K A) : ∀ Z ds n P, R_is_up_to A ds n P Z.X → Ws K Z (t_is_up_to K A) (startD 2 ds) n { nx := fun _ m => P .non m, rt := P } := by
  rintro Z ds n P ⟨i, l, rfl, h⟩
  unfold t_is_up_to
  walk_at "w"
  refine ⟨_, rfl, _, rfl, ?_⟩
  by_cases q : 0 ≤ i
  · rw [decide_eq_true q, if_pos rfl]
    walk_at "w"
    rw [nonD_lm]
    cases l with
    | none =>
      rw [decide_eq_true rfl, if_pos rfl]
      simpa [upTo, q] using h
    | some l =>
      rw [decide_eq_false (by simp), if_neg Bool.false_ne_true, lm_some]
      walk_at "w"
      simpa [upTo, q] using h
  · rw [decide_eq_false q, if_neg Bool.false_ne_true]
    cases l <;> simpa [upTo, q] using h
theorem len_check_up_to : ∀ ds n P X, R_check_up_to A ds n P X → ds.length = 2 := by rintro ds n P X ⟨_, _, rfl, -⟩; rfl
theorem w_check_up_to (T : TxtC K A) : ∀ Z ds n P, R_check_up_to A ds n P Z.X → Ws K Z (t_check_up_to K A) (startD 2 ds) n { nx := fun _ m => P .non m, rt := P } := by
  rintro Z ds n P ⟨i, l, rfl, hu, h⟩
  unfold t_check_up_to
  walk_at "w"
  refine ⟨i, l, rfl, true, ?_, ?_⟩
  · rw [hu]
  · walk_at "w"
    exact h
theorem len_told_further : ∀ ds n P X, R_told_further A ds n P X → ds.length = 2 := by rintro ds n P X ⟨_, _, rfl, -⟩; rfl
theorem w_told_further (T : TxtC K A) : ∀ Z ds n P, R_told_further A ds n P Z.X → Ws K Z (t_told_further K A) (startD 7 ds) n { nx := fun _ m => P .non m, rt := P } := by
  rintro Z ds n P ⟨td, i, rfl, h⟩
  unfold t_told_further
  walk_at "w"
  rw [nonD_td]
  match td with
  | none =>
    rw [decide_eq_true rfl, if_pos rfl]
    walk_at "w"
    exact h
  | some (r, t) =>
    rw [decide_eq_false (by simp), if_neg Bool.false_ne_true, td_some]
    walk_at "w"
    rw [kD_pt]
    cases r with
    | false =>
      walk_at "w"
      exact h
    | true =>
      walk_at "w"
      exact h
theorem len_word_of : ∀ ds n P X, R_word_of A ds n P X → ds.length = 1 := by rintro ds n P X ⟨_, _, _, rfl, -⟩; rfl
theorem w_word_of (T : TxtC K A) : ∀ Z ds n P, R_word_of A ds n P Z.X → Ws K Z (t_word_of K A) (startD 1 ds) n { nx := fun _ m => P .non m, rt := P } := by
  rintro Z ds n P ⟨g, r, t, rfl, hg, h⟩
  obtain ⟨ln, b, td⟩ := g
  simp only at hg
  subst hg
  obtain ⟨s, l, c, w⟩ := t
  unfold t_word_of
  walk_at "w"
  cases w with
  | none =>
    rw [show decide ((6 : Int) < (((sgL ⟨ln, b, some (r, ⟨s, l, c, none⟩)⟩).length : Nat) : Int)) = false from rfl]
    walk_at "w"
    exact h
  | some x =>
    rw [show decide ((6 : Int) < (((sgL ⟨ln, b, some (r, ⟨s, l, c, some x⟩)⟩).length : Nat) : Int)) = true from rfl]
    walk_at "w"
    exact h
theorem len_told_of : ∀ ds n P X, R_told_of A ds n P X → ds.length = 1 := by rintro ds n P X ⟨_, rfl, -⟩; rfl
theorem w_told_of (T : TxtC K A) : ∀ Z ds n P, R_told_of A ds n P Z.X → Ws K Z (t_told_of K A) (startD 1 ds) n { nx := fun _ m => P .non m, rt := P } := by
  rintro Z ds n P ⟨g, rfl, h⟩
  obtain ⟨ln, b, td⟩ := g
  unfold t_told_of
  match td with
  | none =>
    walk_at "w"
    rw [show decide (Str.ofString "gap" = Str.ofString "gap") = true from decide_eq_true rfl]
    walk_at "w"
    exact h
  | some (r, t) =>
    walk_at "w"
    rw [kD_gap]
    walk_at "w"
    refine ⟨_, r, t, rfl, rfl, ?_⟩
    walk_at "w"
    exact h
theorem len_stretches_of : ∀ ds n P X, R_stretches_of A ds n P X → ds.length = 1 := by rintro ds n P X ⟨_, rfl | rfl, -⟩ <;> rfl
theorem w_stretches_of (T : TxtC K A) : ∀ Z ds n P, R_stretches_of A ds n P Z.X → Ws K Z (t_stretches_of K A) (startD 2 ds) n { nx := fun _ m => P .non m, rt := P } := by
  rintro Z ds n P ⟨gs, hd, hl, h⟩
  unfold t_stretches_of
  have go : ∀ g ∈ gs, Wgc K Z (gName 1) [1] (sgD g) (wipeD (startD 2 ds) [1]) fun ds2 => We K Z (tTup (tCons (tOp (rIx K) (tVar 1) (tC (.int 2))) (tCons (tCall (spD K (R_told_of A)) [] E0 (tCons (tVar 1) tNil)) tNil))) ds2 n fun y k => k = n ∧ y = stD (stt g) := fun g _ => by
    refine wgc_name (by simp) ?_
    rcases hd with rfl | rfl
    all_goals
      walk_at "w"
      refine ix_tup (by decide) (sgL2 g) ?_
      walk_at "w"
      refine ⟨g, rfl, ?_⟩
      walk_at "w"
      exact ⟨rfl, rfl⟩
  rcases hd with rfl | rfl
  · refine ws_ret (we_lcm sgD (fun g => stD (stt g)) gs (wi_seqL ?_))
    walk_at "w"
    exact ⟨rfl, by omega, go, h⟩
  · refine ws_ret (we_lcm sgD (fun g => stD (stt g)) gs (wi_seqT ?_))
    walk_at "w"
    exact ⟨rfl, by omega, go, h⟩
theorem len__goes_on : ∀ ds n P X, R__goes_on A ds n P X → ds.length = 3 := by rintro ds n P X ⟨_, _, _, rfl, -⟩; rfl
theorem w__goes_on (T : TxtC K A) : ∀ Z ds n P, R__goes_on A ds n P Z.X → Ws K Z (t__goes_on K A) (startD 10 ds) n { nx := fun _ m => P .non m, rt := P } := by
  rintro Z ds n P ⟨⟨b, k, f⟩, c, t, rfl, hk, hg, hb, h⟩
  simp only at hk hg hb
  unfold t__goes_on
  walk_at "w"
  rw [kN_run k hk]
  by_cases q : k = 1
  · rw [decide_eq_true q, if_pos rfl]
    cases f with
    | none => have := hg.mpr rfl; omega
    | some t0 =>
      rw [tg_some]
      walk_at "w"
      have e : D.tup [.str t0.s, .int (t0.l : Nat), .int ((t0.c : Int) + (c : Int) - (b : Int)), wD t0.w] = tgO (some (adv t0 (c - b))) := by
        show _ = D.tup [.str t0.s, .int (t0.l : Nat), .int ((t0.c + (c - b) : Nat) : Int), wD t0.w]
        rw [show ((t0.c + (c - b) : Nat) : Int) = (t0.c : Int) + (c : Int) - (b : Int) by omega]
      show Op K (rEqP K) (tgO t) (D.tup [.str t0.s, .int (t0.l : Nat), .int ((t0.c : Int) + (c : Int) - (b : Int)), wD t0.w]) _
      rw [e]
      refine eq_tg ?_
      rw [show decide (goes ⟨b, k, some t0⟩ c t) = decide (t = some (adv t0 (c - b))) from decide_eq_decide.mpr (by unfold goes; rw [if_pos q]; rfl)] at h
      exact h
  · rw [decide_eq_false q, if_neg Bool.false_ne_true]
    walk_at "w"
    refine eq_tg ?_
    rw [show decide (goes ⟨b, k, f⟩ c t) = decide (t = f) from decide_eq_decide.mpr (by unfold goes; rw [if_neg q])] at h
    exact h
theorem len__some_columns : ∀ ds n P X, R__some_columns A ds n P X → ds.length = 1 := by rintro ds n P X ⟨_, rfl, -⟩; rfl
theorem w__some_columns (T : TxtC K A) : ∀ Z ds n P, R__some_columns A ds n P Z.X → Ws K Z (t__some_columns K A) (startD 8 ds) n { nx := fun _ m => P .non m, rt := P } := by
  rintro Z ds n P ⟨xs, rfl, ha, hl, h⟩
  unfold t__some_columns
  walk_at "w"
  refine ws_fort (fun p : Stt × Nat => D.tup [.int (p.2 : Nat), stD p.1]) xs.zipIdx (wi_enum ?_)
  walk_at "w"
  refine ⟨_, rfl, by rw [enumD_map], fun i ds' m => m = n ∧ ∃ d2 d3 d4 d5 d6 d7, i ≤ xs.length ∧ ds' = [some (.lst (xs.map stD)), some (.mls ((colsP xs i).map colD)), d2, d3, d4, d5, d6, d7], ⟨rfl, _, _, _, _, _, _, Nat.zero_le _, rfl⟩, ?_, ?_⟩
  · rintro i ⟨⟨b, td⟩, j⟩ ds' m hx ⟨rfl, d2, d3, d4, d5, d6, d7, hi, rfl⟩
    rw [List.getElem?_zipIdx] at hx
    obtain ⟨x, hx1, hx2⟩ := Option.map_eq_some_iff.mp hx
    have hj : i = j ∧ x = (b, td) := by simp at hx2; exact ⟨hx2.2, hx2.1⟩
    obtain ⟨rfl, rfl⟩ := hj
    have hil : i < xs.length := (List.getElem?_eq_some_iff.mp hx1).1
    have hlc : (colsP xs i).length ≤ 3 * i := colsP_len xs i
    -- what stands behind the choice of the width
    have rest : ∀ (N' : Nd), (∀ ds' k, (k = m ∧ ∃ d2 d3 d4 d5 d6 d7, i + 1 ≤ xs.length ∧ ds' = [some (.lst (xs.map stD)), some (.mls ((colsP xs (i + 1)).map colD)), d2, d3, d4, d5, d6, d7]) → N'.nx ds' k) → ∀ w : Nat, w ≤ 3 → colsP xs (i + 1) = colsP xs i ++ (List.range w).map (fun q => (b + q, tv td q)) →
        Ws K Z (tFor (iRng1 (tCons (tVar 5) tNil)) (gName 6) (tSeq (tAsg (tCall (spD K (R_told_further A)) [] E0 (tCons (tVar 4) (tCons (tVar 6) tNil))) (gName 7))
          (tDrop (tBM K "list" rAppend (tVar 1) (tCons (tTup (tCons (tOp (rAddU K) (tVar 3) (tVar 6)) (tCons (tIf (tTru K (tVar 7)) (tSl (rSlU K) (tVar 7) (tPart (tC (.int 1))) tNoPart) (tC .non)) tNil))) tNil)))))
          [some (.lst (xs.map stD)), some (.mls ((colsP xs i).map colD)), some (.int (i : Nat)), some (.int (b : Nat)), some (tdD td), some (.int (w : Nat)), d6, d7] m N' := fun N' hN w hw e => by
      refine ws_fort (fun q : Nat => D.int (q : Nat)) (List.range w) (wi_range1 ?_)
      walk_at "w"
      refine ⟨(w : Nat), rfl, ⟨by omega, by omega⟩, by rw [rng0_map]; rfl, fun q ds' k => k = m ∧ q ≤ w ∧ ∃ d6 d7, ds' = [some (.lst (xs.map stD)), some (.mls ((colsP xs i ++ (List.range q).map (fun q => (b + q, tv td q))).map colD)), some (.int (i : Nat)), some (.int (b : Nat)), some (tdD td), some (.int (w : Nat)), d6, d7], ⟨rfl, Nat.zero_le _, d6, d7, by simp⟩, ?_, ?_⟩
      · rintro q q' ds' k hq ⟨rfl, hqw, d6, d7, rfl⟩
        obtain ⟨hq1, rfl⟩ : q < w ∧ q' = q := by
          have h1 := (List.getElem?_eq_some_iff.mp hq).1
          rw [List.length_range] at h1
          rw [List.getElem?_range h1] at hq
          exact ⟨h1, (Option.some.inj hq).symm⟩
        walk_at "w"
        refine ⟨td, q', rfl, ?_⟩
        walk_at "w"
        refine ws_append rfl (by rw [List.length_map, List.length_append, List.length_map, List.length_range]; omega) ?_
        walk_at "w"
        have fin : k = k ∧ q' + 1 ≤ w ∧ ∃ e6 e7, ([some (.lst (xs.map stD)), some (.mls ((colsP xs i ++ (List.range q').map (fun q => (b + q, tv td q))).map colD ++ [D.tup [.int ((b : Int) + (q' : Int)), tgO (tv td q')]])), some (.int (i : Nat)), some (.int (b : Nat)), some (tdD td), some (.int (w : Nat)), some (.int (q' : Nat)), some (tdD (furt td q'))] : DS) = [some (.lst (xs.map stD)), some (.mls ((colsP xs i ++ (List.range (q' + 1)).map (fun q => (b + q, tv td q))).map colD)), some (.int (i : Nat)), some (.int (b : Nat)), some (tdD td), some (.int (w : Nat)), e6, e7] := by
          refine ⟨rfl, hq1, some (.int (q' : Nat)), some (tdD (furt td q')), ?_⟩
          simp only [List.range_succ, List.map_append, List.append_assoc, List.map_cons, List.map_nil]
          rfl
        match td with
        | none =>
          refine ⟨false, rfl, ?_⟩
          walk_at "w"
          exact fin
        | some (true, t) =>
          refine ⟨true, rfl, ?_⟩
          rw [show furt (some (true, t)) q' = some (true, adv t q') from rfl] at fin ⊢
          walk_at "w"
          refine sl_td ?_
          walk_at "w"
          exact fin
        | some (false, t) =>
          refine ⟨true, rfl, ?_⟩
          rw [show furt (some (false, t)) q' = some (false, t) from rfl] at fin ⊢
          walk_at "w"
          refine sl_td ?_
          walk_at "w"
          exact fin
      · rintro ds' k ⟨rfl, _, d6, d7, rfl⟩
        rw [List.length_range, ← e]
        exact hN _ _ ⟨rfl, _, _, _, _, _, _, hil, rfl⟩
    walk_at "w"
    refine iteD (fun q => ?_) (fun q => ?_)
    · rw [List.length_map] at q
      have q2 : i + 1 < xs.length := by omega
      obtain ⟨⟨b', td'⟩, hx3⟩ : ∃ y, xs[i + 1]? = some y := ⟨_, List.getElem?_eq_getElem q2⟩
      have hlt := asc_at ha hx1 hx3 (Nat.lt_succ_self i)
      simp only at hlt
      walk_at "w"
      refine ix_lst (n := 0) (d := stD (b', td')) (by omega) (by rw [show ((i : Int) + 1).toNat = i + 1 by omega, List.getElem?_map, hx3]; rfl) ?_
      walk_at "w"
      rw [show (if ((b' : Int) - (b : Int)) < 3 then ((b' : Int) - (b : Int)) else 3) = ((min 3 (b' - b) : Nat) : Int) by split <;> omega]
      exact rest _ (fun _ _ q => q) (min 3 (b' - b)) (Nat.min_le_left _ _) (colsP_next hx1 hx3)
    · rw [List.length_map] at q
      have q2 : xs.length = i + 1 := by omega
      walk_at "w"
      exact rest _ (fun _ _ q => q) 3 (Nat.le_refl _) (colsP_last hx1 q2)
  · rintro ds' m ⟨rfl, d2, d3, d4, d5, d6, d7, _, rfl⟩
    rw [List.length_zipIdx, colsP_all]
    refine ws_settle (i := 1) rfl ?_
    walk_at "w"
    exact h
theorem cutD_from {xs : List D} {k : Nat} (h : k ≤ xs.length) : cutD xs (some (k : Int)) none = xs.drop k := by
  unfold cutD
  rw [HT.sIx_nat, HT.sIx_none, Nat.min_eq_left h, List.take_of_length_le (by rw [List.length_drop]; omega)]
theorem cols_ge : ∀ (xs : List Stt) (b : Nat) (td : Td), Asc ((b, td) :: xs) → ∀ x ∈ cols ((b, td) :: xs), b ≤ x.1
  | [], b, td, _, x, hx => by
    obtain ⟨i, _, rfl⟩ := List.mem_map.mp hx
    exact Nat.le_add_right _ _
  | (b', td') :: r, b, td, ha, x, hx => by
    rcases List.mem_append.mp hx with z | z
    · obtain ⟨i, _, rfl⟩ := List.mem_map.mp z
      exact Nat.le_add_right _ _
    · have h1 := cols_ge r b' td' (List.pairwise_cons.mp ha).2 x z
      have h2 : b < b' := (List.pairwise_cons.mp ha).1 b' (by simp)
      omega
theorem cols_asc : ∀ (xs : List Stt), Asc xs → ((cols xs).map (·.1)).Pairwise (· < ·)
  | [], _ => by simp [cols]
  | [(b, td)], _ => by
    show (((List.range 3).map fun i => (b + i, tv td i)).map (·.1)).Pairwise (· < ·)
    rw [List.map_map]
    exact List.pairwise_map.mpr (List.pairwise_lt_range.imp fun h => by show _ < _; simp; omega)
  | (b, td) :: (b', td') :: r, ha => by
    show ((((List.range (min 3 (b' - b))).map fun i => (b + i, tv td i)) ++ cols ((b', td') :: r)).map (·.1)).Pairwise (· < ·)
    rw [List.map_append]
    refine List.pairwise_append.mpr ⟨?_, cols_asc _ (List.pairwise_cons.mp ha).2, fun x hx y hy => ?_⟩
    · rw [List.map_map]
      exact List.pairwise_map.mpr (List.pairwise_lt_range.imp fun h => by show _ < _; simp; omega)
    · obtain ⟨y', hy', rfl⟩ := List.mem_map.mp hy
      have h1 := cols_ge r b' td' (List.pairwise_cons.mp ha).2 y' hy'
      rw [List.map_map] at hx
      obtain ⟨i, hi, rfl⟩ := List.mem_map.mp hx
      have := List.mem_range.mp hi
      show b + i < _
      omega
theorem fold_take (s : Ms) (xs : List (Nat × Option Tg)) (i : Nat) (x : Nat × Option Tg) (h : xs[i]? = some x) : fold (xs.take (i + 1)) s = MP.step (fold (xs.take i) s) x := by
  unfold fold
  rw [List.take_add_one, h, List.foldl_append]
  rfl
theorem fold_len (s : Ms) : ∀ xs : List (Nat × Option Tg), (fold xs s).1.length ≤ s.1.length + xs.length := by
  intro xs
  unfold fold
  induction xs generalizing s with
  | nil => simp
  | cons x xs ih =>
    have h := ih (MP.step s x)
    have : (MP.step s x).1.length ≤ s.1.length + 1 := by unfold MP.step; split <;> simp
    simp only [List.foldl_cons, List.length_cons]
    omega
theorem len_fewest : ∀ ds n P X, R_fewest A ds n P X → ds.length = 1 := by rintro ds n P X ⟨_, rfl, -⟩; rfl
theorem w_fewest (T : TxtC K A) : ∀ Z ds n P, R_fewest A ds n P Z.X → Ws K Z (t_fewest K A) (startD 5 ds) n { nx := fun _ m => P .non m, rt := P } := by
  rintro Z ds n P ⟨xs, rfl, ha, hl, h⟩
  unfold t_fewest
  walk_at "w"
  refine ws_fort colD (cols xs) (wi_list ?_)
  walk_at "w"
  refine ⟨xs, rfl, ha, hl, ?_⟩
  have hcl : (cols xs).length ≤ 300000 := by
    have := colsP_len xs xs.length
    rw [colsP_all] at this
    omega
  have hca := cols_asc xs ha
  refine ⟨_, rfl, rfl, fun i ds' m => m = n ∧ i ≤ (cols xs).length ∧ ∃ s : Ms, s = fold ((cols xs).take i) ([], p0) ∧ (∀ x, (cols xs)[i]? = some x → PcOk s.2 x.1) ∧ ∃ d3 d4, ds' = [some (.lst (xs.map stD)), some (.mls (s.1.map pcD)), some (pcD s.2), d3, d4], ⟨rfl, Nat.zero_le _, _, rfl, fun x hx => ok0.mono (Nat.zero_le _), _, _, rfl⟩, ?_, ?_⟩
  · rintro i ⟨c, t⟩ ds' m hx ⟨rfl, hi, s, hs, hk, d3, d4, rfl⟩
    have hk := hk _ hx
    simp only at hk
    have il : i < (cols xs).length := (List.getElem?_eq_some_iff.mp hx).1
    have hsl : s.1.length ≤ 300000 := by
      have := fold_len ([], p0) ((cols xs).take i)
      rw [← hs, List.length_take] at this
      simp only [List.length_nil] at this
      omega
    have fin : ∀ e3 e4, m = m ∧ i + 1 ≤ (cols xs).length ∧ ∃ s' : Ms, s' = fold ((cols xs).take (i + 1)) ([], p0) ∧ (∀ x, (cols xs)[i + 1]? = some x → PcOk s'.2 x.1) ∧ ∃ d3 d4, ([some (.lst (xs.map stD)), some (.mls ((MP.step s (c, t)).1.map pcD)), some (pcD (MP.step s (c, t)).2), e3, e4] : DS) = [some (.lst (xs.map stD)), some (.mls (s'.1.map pcD)), some (pcD s'.2), d3, d4] := fun e3 e4 => by
      refine ⟨rfl, il, MP.step s (c, t), by rw [fold_take _ _ _ _ hx, hs], fun x hx2 => (ok_step hk).mono ?_, e3, e4, rfl⟩
      have l1 : ((cols xs).map (·.1))[i]? = some c := by rw [List.getElem?_map, hx]; rfl
      have l2 : ((cols xs).map (·.1))[i + 1]? = some x.1 := by rw [List.getElem?_map, hx2]; rfl
      obtain ⟨z1, e1⟩ := List.getElem?_eq_some_iff.mp l1
      obtain ⟨z2, e2⟩ := List.getElem?_eq_some_iff.mp l2
      have := List.pairwise_iff_getElem.mp hca i (i + 1) z1 z2 (Nat.lt_succ_self i)
      omega
    obtain ⟨cl, p⟩ := s
    simp only at hk hsl
    -- behind the first test
    have rest : ∀ N' : Nd, (∀ e3 e4, N'.nx ([some (.lst (xs.map stD)), some (.mls ((MP.step (cl, p) (c, t)).1.map pcD)), some (pcD (MP.step (cl, p) (c, t)).2), e3, e4] : DS) m) → Ws K Z (tIfS (tNot (tB (tCall (spD K (R__goes_on A)) [] E0 (tCons (tVar 2) (tCons (tVar 3) (tCons (tVar 4) tNil)))))) (tSeq (tDrop (tBM K "list" rAppend (tVar 1) (tCons (tVar 2) tNil)))
        (tAsg (tTup (tCons (tVar 3) (tCons (tIf (tTest (tOp (rIsN') (tVar 4) (tC .non))) (tC (.str (PySem.Str.ofString "gap"))) (tC (.str (PySem.Str.ofString "run")))) (tCons (tVar 4) tNil)))) (gName 2))) tNext)
        [some (.lst (xs.map stD)), some (.mls (cl.map pcD)), some (pcD (tr p c t)), some (.int (c : Nat)), some (tgO t)] m N' := fun N' hN => by
      have hk2 := ok_tr (t := t) hk
      have hb : (tr p c t).b ≤ c := by
        rw [tr_b]
        rcases hk.b with z | z
        · exact Nat.le_of_lt z
        · rw [z]; exact Nat.zero_le _
      walk_at "w"
      refine ⟨_, _, _, rfl, hk2.k, hk2.g, hb, ?_⟩
      refine ⟨_, rfl, ?_⟩
      by_cases q : goes (tr p c t) c t
      · rw [decide_eq_true q]
        have e : MP.step (cl, p) (c, t) = (cl, tr p c t) := by unfold MP.step; rw [if_pos q]
        rw [e] at hN
        walk_at "w"
        exact hN _ _
      · rw [decide_eq_false q]
        have e : MP.step (cl, p) (c, t) = (cl ++ [tr p c t], ⟨c, if t = none then 0 else 1, t⟩) := by unfold MP.step; rw [if_neg q]
        rw [e] at hN
        walk_at "w"
        refine ws_append rfl (by rw [List.length_map]; omega) ?_
        walk_at "w"
        rw [nonD_tg]
        simp only [List.map_append, List.map_cons, List.map_nil] at hN
        cases t with
        | none =>
          rw [decide_eq_true rfl, if_pos rfl]
          walk_at "w"
          exact hN _ _
        | some t =>
          rw [decide_eq_false (by simp), if_neg Bool.false_ne_true]
          walk_at "w"
          exact hN _ _
    walk_at "w"
    rw [nonD_tg]
    cases t with
    | none =>
      rw [decide_eq_true rfl]
      have htr : tr p c none = p := if_neg (by simp [trig])
      rw [htr] at rest
      rw [if_neg (by decide), if_neg (by decide)]
      exact ws_next (rest _ fin)
    | some t =>
      rw [decide_eq_false (by simp)]
      walk_at "w"
      refine eq_tg ?_
      refine ⟨_, rfl, ?_⟩
      by_cases q : some t = p.f
      · rw [decide_eq_true q, if_pos rfl]
        walk_at "w"
        by_cases q2 : c = p.b + 1
        · have htr : tr p c (some t) = ⟨p.b, 2, some t⟩ := if_pos ⟨by simp, q, q2⟩
          rw [htr] at rest
          rw [decide_eq_true (show (c : Int) = (p.b : Int) + 1 by omega), if_pos rfl]
          have asg : ∀ N' : Nd, N'.nx [some (.lst (xs.map stD)), some (.mls (cl.map pcD)), some (pcD ⟨p.b, 2, some t⟩), some (.int (c : Nat)), some (tgO (some t))] m → Ws K Z (tAsg (tTup (tCons (tOp (rIx K) (tVar 2) (tC (.int 0))) (tCons (tC (.str (PySem.Str.ofString "point"))) (tCons (tVar 4) tNil)))) (gName 2)) [some (.lst (xs.map stD)), some (.mls (cl.map pcD)), some (pcD p), some (.int (c : Nat)), some (tgO (some t))] m N' := fun N' hN => by
            walk_at "w"
            exact hN
          refine asg _ (rest _ ?_)
          exact fin
        · have htr : tr p c (some t) = p := if_neg fun z => q2 z.2.2
          rw [htr] at rest
          rw [decide_eq_false (show ¬ (c : Int) = (p.b : Int) + 1 by omega), if_neg Bool.false_ne_true]
          exact ws_next (rest _ fin)
      · have htr : tr p c (some t) = p := if_neg fun z => q z.2.1
        rw [htr] at rest
        rw [decide_eq_false q, if_neg Bool.false_ne_true, if_neg Bool.false_ne_true]
        exact ws_next (rest _ fin)
  · rintro ds' m ⟨rfl, _, s, hs, _, d3, d4, rfl⟩
    have hsl : s.1.length ≤ 300000 := by
      have := fold_len ([], p0) ((cols xs).take (cols xs).length)
      rw [← hs, List.length_take] at this
      simp only [List.length_nil] at this
      omega
    rw [List.take_length] at hs
    have e : few xs = (s.1 ++ [s.2]).drop 1 := by unfold few machine; rw [hs]
    walk_at "w"
    refine ws_append rfl (by rw [List.length_map]; omega) (we_var rfl rfl (ws_settle (i := 1) (xs := s.1.map pcD ++ [pcD s.2]) rfl ?_))
    walk_at "w"
    rw [e] at h
    simp only [List.map_drop, List.map_append, List.map_cons, List.map_nil] at h
    show P (.lst (cutD (s.1.map pcD ++ [pcD s.2]) (some ((1 : Nat) : Int)) none)) _
    rw [cutD_from (by simp)]
    exact h
theorem ifRT {c : Bool} {A B : Prop} (e : c = true) (h : A) : if c = true then A else B := by rw [if_pos e]; exact h
theorem ifRF {c : Bool} {A B : Prop} (e : c = false) (h : B) : if c = true then A else B := by rw [if_neg (by simp [e])]; exact h
theorem okp_fold (s : Ms) : ∀ xs : List (Nat × Option Tg), (∀ p ∈ s.1 ++ [s.2], (p.k = 0 ∨ p.k = 1 ∨ p.k = 2) ∧ (p.k = 0 ↔ p.f = none)) → ∀ p ∈ (fold xs s).1 ++ [(fold xs s).2], (p.k = 0 ∨ p.k = 1 ∨ p.k = 2) ∧ (p.k = 0 ↔ p.f = none) := by
  intro xs
  unfold fold
  induction xs generalizing s with
  | nil => exact id
  | cons x xs ih =>
    intro h
    obtain ⟨c, t⟩ := x
    refine ih (MP.step s (c, t)) fun p hp => ?_
    have h2 := h s.2 (by simp)
    have ht : ((tr s.2 c t).k = 0 ∨ (tr s.2 c t).k = 1 ∨ (tr s.2 c t).k = 2) ∧ ((tr s.2 c t).k = 0 ↔ (tr s.2 c t).f = none) := by
      unfold tr
      split
      · rename_i z
        exact ⟨.inr (.inr rfl), by simp [z.1]⟩
      · exact h2
    unfold MP.step at hp
    split at hp
    · rcases List.mem_append.mp hp with z | z
      · exact h p (List.mem_append.mpr (.inl z))
      · rw [List.mem_singleton.mp z]; exact ht
    · rcases List.mem_append.mp hp with z | z
      · rcases List.mem_append.mp z with z | z
        · exact h p (List.mem_append.mpr (.inl z))
        · rw [List.mem_singleton.mp z]; exact ht
      · rw [List.mem_singleton.mp z]
        cases t <;> simp
theorem few_okp {xs : List Stt} {p : Pc} (h : p ∈ few xs) : (p.k = 0 ∨ p.k = 1 ∨ p.k = 2) ∧ (p.k = 0 ↔ p.f = none) :=
  okp_fold ([], p0) (cols xs) (fun p hp => by
    have : p = p0 := by simpa using hp
    rw [this]; exact ⟨.inl rfl, by simp [p0]⟩) p (List.mem_of_mem_drop h)
theorem few_len2 {xs : List Stt} (hl : xs.length ≤ 100000) : (few xs).length ≤ 300000 := by
  have h := fold_len ([], p0) (cols xs)
  have h2 := colsP_len xs xs.length
  rw [colsP_all] at h2
  unfold few machine
  rw [List.length_drop, List.length_append]
  simp only [List.length_nil, List.length_cons] at *
  omega
theorem kN_kD (k : Nat) (h : k = 1 ∨ k = 2) : kN k = kD (k == 1) := by rcases h with rfl | rfl <;> rfl
theorem sgD_none (l b : Nat) : sgD ⟨l, b, none⟩ = .tup [.str (Str.ofString "gap"), .int (l : Nat), .int (b : Nat)] := rfl
theorem sgD_six (l b : Nat) (r : Bool) (s : Str) (l2 c : Nat) : sgD ⟨l, b, some (r, ⟨s, l2, c, none⟩)⟩ = .tup [.str (kD r), .int (l : Nat), .int (b : Nat), .str s, .int (l2 : Nat), .int (c : Nat)] := rfl
theorem sgD_sev (l b : Nat) (r : Bool) (s : Str) (l2 c : Nat) (w : Str) : sgD ⟨l, b, some (r, ⟨s, l2, c, some w⟩)⟩ = .tup [.str (kD r), .int (l : Nat), .int (b : Nat), .str s, .int (l2 : Nat), .int (c : Nat), .str w] := rfl
theorem len_piece_tuples : ∀ ds n P X, R_piece_tuples A ds n P X → ds.length = 2 := by rintro ds n P X ⟨_, _, rfl, -⟩; rfl
theorem w_piece_tuples (T : TxtC K A) : ∀ Z ds n P, R_piece_tuples A ds n P Z.X → Ws K Z (t_piece_tuples K A) (startD 11 ds) n { nx := fun _ m => P .non m, rt := P } := by
  rintro Z ds n P ⟨l, xs, rfl, ha, hl, h⟩
  unfold t_piece_tuples
  walk_at "w"
  refine ws_fort pcD (few xs) (wi_list ?_)
  walk_at "w"
  refine ⟨xs, rfl, ha, hl, ?_⟩
  have hfl := few_len2 hl
  refine ⟨_, rfl, rfl, fun i ds' m => m = n ∧ i ≤ (few xs).length ∧ ∃ d3 d4 d5 d6 d7 d8 d9 d10, ds' = [some (.int (l : Nat)), some (.lst (xs.map stD)), some (.mls (((few xs).take i).map fun p => sgD (pcS l p))), d3, d4, d5, d6, d7, d8, d9, d10], ⟨rfl, Nat.zero_le _, _, _, _, _, _, _, _, _, rfl⟩, ?_, ?_⟩
  · rintro i p ds' m hx ⟨rfl, hi, d3, d4, d5, d6, d7, d8, d9, d10, rfl⟩
    have il : i < (few xs).length := (List.getElem?_eq_some_iff.mp hx).1
    obtain ⟨hk, hg⟩ := few_okp (List.mem_of_getElem? hx)
    have fin : ∀ e3 e4 e5 e6 e7 e8 e9 e10, m = m ∧ i + 1 ≤ (few xs).length ∧ ∃ d3 d4 d5 d6 d7 d8 d9 d10, ([some (.int (l : Nat)), some (.lst (xs.map stD)), some (.mls (((few xs).take i).map (fun p => sgD (pcS l p)) ++ [sgD (pcS l p)])), e3, e4, e5, e6, e7, e8, e9, e10] : DS) = [some (.int (l : Nat)), some (.lst (xs.map stD)), some (.mls (((few xs).take (i + 1)).map fun p => sgD (pcS l p))), d3, d4, d5, d6, d7, d8, d9, d10] := fun e3 e4 e5 e6 e7 e8 e9 e10 => by
      refine ⟨rfl, il, e3, e4, e5, e6, e7, e8, e9, e10, ?_⟩
      rw [List.take_add_one, hx]
      simp
    obtain ⟨b, k, f⟩ := p
    simp only at hk hg
    have hln : (((few xs).take i).map fun p => sgD (pcS l p)).length < 1000000 := by
      rw [List.length_map, List.length_take]; omega
    cases f with
    | none =>
      have hk0 : k = 0 := hg.mpr rfl
      subst hk0
      walk_at "w"
      rw [nonD_tg, decide_eq_true rfl, if_pos rfl]
      walk_at "w"
      refine ws_append rfl hln ?_
      walk_at "w"
      exact fin _ _ _ _ _ _ _ _
    | some t =>
      have hk1 : k = 1 ∨ k = 2 := by
        rcases hk with z | z
        · exact absurd (hg.mp z) (by simp)
        · exact z
      have hkd := kN_kD k hk1
      obtain ⟨s, l2, c, w⟩ := t
      walk_at "w"
      rw [nonD_tg, decide_eq_false (by simp), if_neg Bool.false_ne_true]
      rw [tg_some] at *
      walk_at "w"
      rw [nonD_w]
      cases w with
      | none =>
        rw [decide_eq_true rfl, if_pos rfl]
        walk_at "w"
        refine ws_append rfl hln ?_
        walk_at "w"
        refine add_tup (by simp) ?_
        rw [hkd]
        exact fin _ _ _ _ _ _ _ _
      | some x =>
        rw [decide_eq_false (by simp), if_neg Bool.false_ne_true]
        rw [w_some] at *
        walk_at "w"
        refine ws_append rfl hln ?_
        walk_at "w"
        refine add_tup (by simp) ?_
        rw [hkd]
        exact fin _ _ _ _ _ _ _ _
  · rintro ds' m ⟨rfl, _, d3, d4, d5, d6, d7, d8, d9, d10, rfl⟩
    rw [List.take_length]
    refine ws_settle (i := 2) rfl ?_
    walk_at "w"
    exact h
theorem len_is_source : ∀ ds n P X, R_is_source A ds n P X → ds.length = 1 := by rintro ds n P X ⟨_, rfl, -⟩; rfl
theorem w_is_source (T : TxtC K A) : ∀ Z ds n P, R_is_source A ds n P Z.X → Ws K Z (t_is_source K A) (startD 2 ds) n { nx := fun _ m => P .non m, rt := P } := by
  rintro Z ds n P ⟨x, rfl, ⟨h1, h2, h3⟩, h⟩
  unfold t_is_source
  walk_at "w"
  rw [decide_eq_true (show (1 : Int) ≤ ((x.length : Nat) : Int) by omega), if_pos rfl]
  walk_at "w"
  rw [decide_eq_true (show ((x.length : Nat) : Int) ≤ 40 by omega)]
  walk_at "w"
  refine we_lcm (fun c : Nat => D.str ⟨#[c]⟩) (fun c : Nat => D.bl (decide (c ∈ (Str.ofString "ABCDEFGHIJKLMNOPQRSTUVWXYZabcdefghijklmnopqrstuvwxyz0123456789_-./").cps.toList))) x.cps.toList (wi_str ?_)
  walk_at "w"
  refine ⟨rfl, by show x.length ≤ _; omega, fun c hc => wgc_name (by simp) ?_, ?_⟩
  · walk_at "w"
    exact in_sign ⟨rfl, rfl⟩
  · walk_at "w"
    rw [show (x.cps.toList.map fun c : Nat => D.bl (decide (c ∈ (Str.ofString "ABCDEFGHIJKLMNOPQRSTUVWXYZabcdefghijklmnopqrstuvwxyz0123456789_-./").cps.toList))) = (x.cps.toList.map fun _ => true).map D.bl by rw [List.map_map]; exact List.map_congr_left fun c hc => by rw [decide_eq_true (h3 c hc)]; rfl]
    refine all_bls ?_
    rw [show ((x.cps.toList.map fun _ => true).all id) = true by simp]
    exact h
theorem len__are_numbers : ∀ ds n P X, R__are_numbers A ds n P X → ds.length = 3 := by rintro ds n P X ⟨_, _, _, rfl, -⟩; rfl
theorem up_leO {a : Nat} {l : Option Nat} (h : leO a l) : upTo (a : Int) l = true := by
  cases l with
  | none => simp [upTo]
  | some l => have : a ≤ l := h; simp [upTo]; omega
theorem w__are_numbers (T : TxtC K A) : ∀ Z ds n P, R__are_numbers A ds n P Z.X → Ws K Z (t__are_numbers K A) (startD 4 ds) n { nx := fun _ m => P .non m, rt := P } := by
  rintro Z ds n P ⟨a, b, l, rfl, h1, h2, h⟩
  unfold t__are_numbers
  walk_at "w"
  rw [show decide ((([D.int (a : Nat), D.int (b : Nat)].length : Nat) : Int) = 2) = true from rfl]
  walk_at "w"
  refine we_lcm (fun i : Nat => D.int (i : Nat)) (fun i : Nat => D.bl (upTo (i : Int) l)) [a, b] (wi_tup ?_)
  walk_at "w"
  refine ⟨rfl, by simp, fun c hc => wgc_name (by simp) ?_, ?_⟩
  · walk_at "w"
    exact ⟨_, _, rfl, rfl, rfl⟩
  · walk_at "w"
    rw [List.map_cons, List.map_cons, List.map_nil, up_leO h1, up_leO h2]
    exact all_bls (bs := [true, true]) h
theorem ni_367 {P : D → Prop} {k : Nat} (hk : k = 3 ∨ k = 6 ∨ k = 7) (h : P (.bl false)) : Op K (rNiP K) (.int (k : Nat)) (.tup [.int 3, .int 6, .int 7]) P := by
  refine niPt (d := .int (k : Nat)) (xs := [.int 3, .int 6, .int 7]) rfl rfl rfl rfl (by simp [PyData.depth]) ?_
  rcases hk with rfl | rfl | rfl <;> exact h
theorem in_kind {P : D → Prop} {r : Bool} (h : P (.bl true)) : Op K (rInP K) (.str (kD r)) (.tup [.str (Str.ofString "run"), .str (Str.ofString "point")]) P := by
  refine inPt (d := .str (kD r)) (xs := [.str (Str.ofString "run"), .str (Str.ofString "point")]) rfl rfl rfl rfl (by simp [PyData.depth]) ?_
  rw [show ([PyData.str (Str.ofString "run"), PyData.str (Str.ofString "point")].any fun z => PyData.eqv z (.str (kD r))) = true by cases r <;> decide +kernel]
  exact h
theorem len__is_segment : ∀ ds n P X, R__is_segment A ds n P X → ds.length = 2 := by rintro ds n P X ⟨_, _, rfl, -⟩; rfl
theorem w__is_segment (T : TxtC K A) : ∀ Z ds n P, R__is_segment A ds n P Z.X → Ws K Z (t__is_segment K A) (startD 3 ds) n { nx := fun _ m => P .non m, rt := P } := by
  rintro Z ds n P ⟨g, l, rfl, hok, h⟩
  obtain ⟨ln, b, td⟩ := g
  obtain ⟨h1, h2, h3⟩ := hok
  simp only at h1 h2 h3
  unfold t__is_segment
  match td with
  | none =>
    rw [sgD_none]
    walk_at "w"
    refine ni_367 (k := 3) (.inl rfl) ?_
    walk_at "w"
    refine ⟨ln, b, l, rfl, h1, h2, ?_⟩
    walk_at "w"
    refine ifRT rfl ?_
    walk_at "w"
    rw [decide_eq_true rfl]
    exact h
  | some (r, ⟨s, l2, c, none⟩) =>
    obtain ⟨o1, o2, o3, o4⟩ := h3 r _ rfl
    rw [sgD_six]
    walk_at "w"
    refine ni_367 (k := 6) (.inr (.inl rfl)) ?_
    walk_at "w"
    refine ⟨ln, b, l, rfl, h1, h2, ?_⟩
    walk_at "w"
    refine ifRF rfl ?_
    walk_at "w"
    refine ⟨s, rfl, o1, ?_⟩
    walk_at "w"
    refine ⟨l2, c, l, rfl, o2, o3, ?_⟩
    walk_at "w"
    refine in_kind ?_
    walk_at "w"
    refine ifRT rfl ?_
    walk_at "w"
    exact h
  | some (r, ⟨s, l2, c, some w⟩) =>
    obtain ⟨o1, o2, o3, o4⟩ := h3 r _ rfl
    rw [sgD_sev]
    walk_at "w"
    refine ni_367 (k := 7) (.inr (.inr rfl)) ?_
    walk_at "w"
    refine ⟨ln, b, l, rfl, h1, h2, ?_⟩
    walk_at "w"
    refine ifRF rfl ?_
    walk_at "w"
    refine ⟨s, rfl, o1, ?_⟩
    walk_at "w"
    refine ⟨l2, c, l, rfl, o2, o3, ?_⟩
    walk_at "w"
    refine in_kind ?_
    walk_at "w"
    refine ifRF rfl ?_
    walk_at "w"
    refine ⟨w, rfl, o4 w rfl, ?_⟩
    exact h
theorem len__begin_of : ∀ ds n P X, R__begin_of A ds n P X → ds.length = 1 := by rintro ds n P X ⟨_, rfl, -⟩; rfl
theorem w__begin_of (T : TxtC K A) : ∀ Z ds n P, R__begin_of A ds n P Z.X → Ws K Z (t__begin_of K A) (startD 1 ds) n { nx := fun _ m => P .non m, rt := P } := by
  rintro Z ds n P ⟨g, rfl, h⟩
  unfold t__begin_of
  walk_at "w"
  refine ix_tup (by decide) (sgL1 g) ?_
  walk_at "w"
  refine ix_tup (by decide) (sgL2 g) ?_
  walk_at "w"
  exact h
theorem len__check_segments : ∀ ds n P X, R__check_segments A ds n P X → ds.length = 2 := by rintro ds n P X ⟨_, _, rfl, -⟩; rfl
theorem w__check_segments (T : TxtC K A) : ∀ Z ds n P, R__check_segments A ds n P Z.X → Ws K Z (t__check_segments K A) (startD 5 ds) n { nx := fun _ m => P .non m, rt := P } := by
  rintro Z ds n P ⟨gs, l, rfl, hok, hnd, hl, h⟩
  unfold t__check_segments
  walk_at "w"
  refine ws_fort (fun p : Sg × Nat => D.tup [.int (p.2 : Nat), sgD p.1]) gs.zipIdx (wi_enumT ?_)
  walk_at "w"
  refine ⟨_, rfl, by rw [enumD_map], fun i ds' m => m = n ∧ ∃ d2 d3, (d2 = none ∨ ∃ j : Int, d2 = some (.int j)) ∧ (d3 = none ∨ ∃ g : Sg, d3 = some (sgD g)) ∧ ds' = [some (.tup (gs.map sgD)), some (lmD l), d2, d3, none], ⟨rfl, _, _, .inl rfl, .inl rfl, rfl⟩, ?_, ?_⟩
  · rintro i ⟨g, j⟩ ds' m hx ⟨rfl, d2, d3, _, _, rfl⟩
    rw [List.getElem?_zipIdx] at hx
    obtain ⟨x, hx1, hx2⟩ := Option.map_eq_some_iff.mp hx
    obtain rfl : x = g := by simp at hx2; exact hx2.1
    walk_at "w"
    refine ⟨x, l, rfl, hok x (List.mem_of_getElem? hx1), ?_⟩
    walk_at "w"
    exact ⟨rfl, _, _, .inr ⟨_, rfl⟩, .inr ⟨_, rfl⟩, rfl⟩
  · rintro ds' m ⟨rfl, d2, d3, h2, h3, rfl⟩
    refine ws_begins (fun q d hq => ?_) (by simp) (by simp) (by simp) (by decide) (by decide) (by decide) (wi_enumT ?_)
    · match q with
      | 0 => cases hq; rfl
      | 1 => cases hq; exact mut_lm l
      | 2 =>
        rcases h2 with rfl | ⟨z, rfl⟩
        · cases hq
        · cases hq; rfl
      | 3 =>
        rcases h3 with rfl | ⟨z, rfl⟩
        · cases hq
        · cases hq; rfl
      | 4 => cases hq
      | q + 5 => cases hq
    · walk_at "w"
      refine ⟨_, rfl, ?_, ?_, ?_, h⟩
      · intro x hx
        rw [enumD_map] at hx
        obtain ⟨⟨g, i⟩, _, rfl⟩ := List.mem_map.mp hx
        exact ⟨_, _, _, _, rfl, sgL1 g, sgL2 g⟩
      · rw [enumD_map, List.length_map, List.length_zipIdx]; exact hl
      · rw [enumD_map, List.map_map]
        have e : (gs.zipIdx.map (key13 ∘ fun p : Sg × Nat => D.tup [.int (p.2 : Nat), sgD p.1])) = gs.map fun g => ([.inl (g.ln : Int), .inl (g.b : Int)] : List Key) := by
          rw [show (key13 ∘ fun p : Sg × Nat => D.tup [.int (p.2 : Nat), sgD p.1]) = (fun g : Sg => ([.inl (g.ln : Int), .inl (g.b : Int)] : List Key)) ∘ Prod.fst by
            funext p
            show [Sum.inl (kAs (sgL p.1)[1]?), Sum.inl (kAs (sgL p.1)[2]?)] = _
            rw [sgL1, sgL2]; rfl]
          rw [← List.map_map, List.zipIdx_map_fst]
        rw [e]
        have hnd2 : (gs.map fun g => (g.ln, g.b)).Nodup := hnd
        rw [List.nodup_iff_pairwise_ne, List.pairwise_map] at hnd2 ⊢
        exact hnd2.imp fun {a b} hab e => hab (by
          simp only [List.cons.injEq, Sum.inl.injEq, and_true] at e
          rw [Prod.mk.injEq]
          exact ⟨by omega, by omega⟩)
theorem fmS {α β γ : Type} (f : α → β → γ) (g : α → β) (l : List α) : l.filterMap (fun x => (some (g x)).map fun z => f x z) = l.map fun x => f x (g x) := by
  simp only [Option.map_some]
  exact congrFun (List.filterMap_eq_map' (f := fun x => f x (g x))) l
theorem rows_fm : ∀ L : List (Nat × List Stt), ((rowsOf L).map rowD) = L.filterMap fun x => Option.map (fun z => ((Sum.inl (x.1 : Int) : Key), z)) (if (few x.2).isEmpty then none else some (D.tup ((few x.2).map fun q => sgD (pcS x.1 q))))
  | [] => rfl
  | x :: L => by
    have ih := rows_fm L
    unfold rowsOf at ih ⊢
    rw [List.map_cons, List.filter_cons, List.filterMap_cons]
    by_cases q : few x.2 = []
    · simp only [q, List.isEmpty_nil, Bool.not_true, Bool.false_eq_true, if_false, if_true, Option.map_none]
      exact ih
    · have q2 : (few x.2).isEmpty = false := by simpa using q
      simp only [q2, Bool.not_false, if_true, Bool.false_eq_true, if_false, Option.map_some, List.map_cons]
      rw [ih]
theorem valD_mem : ∀ {ys : List (Key × D)} {k : Key} {d : D}, (ys.map (·.1)).Nodup → (k, d) ∈ ys → valD ys k = some d
  | [], _, _, _, h => by cases h
  | (f, e) :: r, k, d, nd, h => by
    have nd' := List.nodup_cons.mp nd
    unfold valD
    rcases List.mem_cons.mp h with z | z
    · cases z; rw [if_pos rfl]
    · rw [if_neg fun q => nd'.1 (List.mem_map.mpr ⟨(k, d), z, q.symm⟩)]
      exact valD_mem nd'.2 z
theorem valD_rows (l : Nat) : ∀ R : Rows, valD (R.map rowD) (.inl (l : Int)) = (R.find? fun p => p.1 == l).map fun p => .tup (p.2.map fun q => sgD (pcS p.1 q))
  | [] => rfl
  | (k, ps) :: R => by
    show (if (Sum.inl (k : Int) : Key) = .inl (l : Int) then _ else _) = _
    rw [List.find?_cons, valD_rows l R]
    by_cases q : k = l
    · subst q
      rw [if_pos rfl]
      simp
    · rw [if_neg (by simp only [Sum.inl.injEq]; omega), show (k == l) = false by simp; omega]
theorem rowAt_val (l : Nat) (R : Rows) : ((R.find? fun p => p.1 == l).map fun p => D.tup (p.2.map fun q => sgD (pcS p.1 q))).getD (.tup []) = .tup ((rowAt R l).map fun p => sgD (pcS l p)) := by
  unfold rowAt
  cases e : R.find? fun p => p.1 == l with
  | none => rfl
  | some p =>
    have h := List.find?_some e
    have : p.1 = l := by simpa using h
    subst this
    rfl
theorem rowsOf_sub (L : List (Nat × List Stt)) : ((rowsOf L).map (·.1)).Sublist (L.map (·.1)) := by
  unfold rowsOf
  have h : (((L.map fun p => (p.1, few p.2)).filter fun p => !p.2.isEmpty).map (·.1)).Sublist ((L.map fun p => (p.1, few p.2)).map (·.1)) := (List.filter_sublist).map _
  rw [List.map_map] at h
  exact h
theorem rowsG_nd (gs : List Sg) : ((rowsG gs).map (·.1)).Nodup := by
  unfold rowsG
  refine (rowsOf_sub _).nodup ?_
  rw [List.map_map]
  show (List.map (fun l => l) (ks gs)).Nodup
  rw [List.map_id']
  exact (ks_asc gs).imp fun h => by omega
theorem addN_sum (g : Sg) : ∀ a : List (Nat × List Sg), ((addN g a).map fun p => p.2.length).sum = (a.map fun p => p.2.length).sum + 1
  | [] => rfl
  | (k, l) :: r => by
    have := addN_sum g r
    simp only [addN]
    split
    · simp; omega
    · simp only [List.map_cons, List.sum_cons]; omega
theorem linesG_sum : ∀ (gs : List Sg) (a : List (Nat × List Sg)), ((gs.foldl (fun a g => addN g a) a).map fun p => p.2.length).sum = (a.map fun p => p.2.length).sum + gs.length
  | [], a => rfl
  | g :: gs, a => by
    have h1 := linesG_sum gs (addN g a)
    have h2 := addN_sum g a
    simp only [List.foldl_cons, List.length_cons]
    omega
theorem tot_le {gs : List Sg} (h : KeyNd gs) : tot (rowsG gs) ≤ gs.length := by
  rw [tot_G]
  have e : ((ks gs).map fun l => (rowSt gs l).length).sum = gs.length := by
    have h1 := congrArg (fun z : List (Nat × List Stt) => (z.map fun p => p.2.length).sum) (lines_rows gs)
    simp only [List.map_map] at h1
    have h2 := linesG_sum (srt gs) []
    have h3 : ((linesG (srt gs)).map ((fun p : Nat × List Stt => p.2.length) ∘ fun p : Nat × List Sg => (p.1, p.2.map stt))).sum = ((linesG (srt gs)).map fun p => p.2.length).sum := by
      congr 1
      exact List.map_congr_left fun p _ => by show (p.2.map stt).length = _; rw [List.length_map]
    rw [h3] at h1
    have h4 : ((linesG (srt gs)).map fun p => p.2.length).sum = gs.length := by
      unfold linesG
      rw [h2, (srt_perm gs).length_eq]
      simp
    rw [h4] at h1
    exact h1.symm
  rw [← e]
  have : ∀ K : List Nat, (K.map fun l => (few (rowSt gs l)).length).sum ≤ (K.map fun l => (rowSt gs l).length).sum := by
    intro K
    induction K with
    | nil => exact Nat.le_refl _
    | cons k K ih =>
      have := few_le (rowSt_asc h k)
      simp only [List.map_cons, List.sum_cons]
      omega
  exact this _
theorem srt_ord (gs : List Sg) : ((((gs.map fun g => (sgD g, ((g.ln : Int), (g.b : Int)))).mergeSort ordP).map (·.1)) : List D) = (srt gs).map sgD := by
  have m := List.map_mergeSort (r := lexB) (s := ordP) (f := fun g : Sg => (sgD g, ((g.ln : Int), (g.b : Int)))) (l := gs) (fun a _ b _ => by
    show decide _ = decide _
    exact decide_eq_decide.mpr (by simp only; omega))
  unfold srt
  rw [← m, List.map_map]
  rfl
theorem len__lines_of_segments : ∀ ds n P X, R__lines_of_segments A ds n P X → ds.length = 1 := by rintro ds n P X ⟨_, rfl, -⟩; rfl
theorem w__lines_of_segments (T : TxtC K A) : ∀ Z ds n P, R__lines_of_segments A ds n P Z.X → Ws K Z (t__lines_of_segments K A) (startD 4 ds) n { nx := fun _ m => P .non m, rt := P } := by
  rintro Z ds n P ⟨gs, rfl, hnd, hl, h⟩
  unfold t__lines_of_segments
  refine ws_seq (ws_setX (wx_dnew ?_))
  refine ws_seq (ws_group (i := 1) (j := 2) (kx := 1) rfl (by decide) (fun q d hq hd => ?_) (by simp [startD]) (wi_list (we_sortKT ?_)))
  · match q with
    | 0 => cases hd; rfl
    | 1 => exact absurd rfl hq
    | 2 => cases hd
    | 3 => cases hd
    | q + 4 => cases hd
  walk_at "w"
  refine ⟨gs.map fun g => (sgD g, ((g.ln : Int), (g.b : Int))), by rw [List.map_map]; rfl, fun p hp => ?_, _, by rw [srt_ord], fun x hx => ?_, ?_, ?_⟩
  · obtain ⟨g, _, rfl⟩ := List.mem_map.mp hp
    exact ⟨_, rfl, sgL1 g, sgL2 g⟩
  · obtain ⟨g, _, rfl⟩ := List.mem_map.mp hx
    exact ⟨_, _, rfl, sgL1 g⟩
  · rw [List.length_map, (srt_perm gs).length_eq]; exact hl
  rw [grp_enc]
  have hL := lines_srt gs
  have hnd2 : ((linesG (srt gs)).map (·.1)).Nodup := hL.asc.imp fun h => by omega
  refine ws_frzS (i := 1) rfl ?_
  refine ws_ret (we_frz (wx_dct (fun p : Nat × List Sg => D.int (p.1 : Nat)) (fun p => .inl (p.1 : Int)) (fun p => some (.lst (p.2.map fun g => stD (stt g)))) (linesG (srt gs)) (wi_keysF ?_)))
  walk_at "w"
  refine ⟨_, rfl, ?_, ?_, ?_, fun p hp => wgc_name (by simp) (wt_yes ⟨rfl, ?_⟩), ?_⟩
  · rw [List.map_map, List.map_map]; rfl
  · have := linesG_len (srt gs)
    rw [(srt_perm gs).length_eq] at this
    omega
  · rw [List.nodup_iff_pairwise_ne, List.pairwise_map] at hnd2 ⊢
    exact hnd2.imp fun {a b} hab e => hab (by simp only [Sum.inl.injEq] at e; omega)
  · rw [if_pos rfl]
    walk_at "w"
    refine ⟨rfl, rfl, ?_⟩
    walk_at "w"
    refine we_dgetF ?_
    walk_at "w"
    refine ⟨_, rfl, ?_⟩
    walk_at "w"
    refine ⟨.inl (p.1 : Int), .lst (p.2.map sgD), rfl, valD_mem ?_ (List.mem_map.mpr ⟨enc p, List.mem_map.mpr ⟨p, hp, rfl⟩, rfl⟩), ?_⟩
    · rw [List.map_map, List.map_map]
      rw [List.nodup_iff_pairwise_ne, List.pairwise_map] at hnd2 ⊢
      exact hnd2.imp fun {a b} hab e => hab (by have e' : (Sum.inl (a.1 : Int) : Key) = .inl (b.1 : Int) := e; simp only [Sum.inl.injEq] at e'; omega)
    · walk_at "w"
      refine ⟨p.2, .inl rfl, ?_, rfl, rfl⟩
      have := (hL.row p hp).1
      rw [this]
      have h2 := List.length_filter_le (fun g : Sg => g.ln == p.1) (srt gs)
      rw [(srt_perm gs).length_eq] at h2
      omega
  · refine ⟨_, rfl, ?_⟩
    have e : (ks gs).map (fun (l : Nat) => ((Sum.inl (l : Int) : Key), D.lst ((rowSt gs l).map stD))) = (linesG (srt gs)).filterMap fun x => Option.map (fun z => ((Sum.inl (x.1 : Int) : Key), z)) (some (D.lst (x.2.map fun g => stD (stt g)))) := by
      have h1 := congrArg (fun z : List (Nat × List Stt) => z.map fun p => ((Sum.inl (p.1 : Int) : Key), D.lst (p.2.map stD))) (lines_rows gs)
      simp only [List.map_map] at h1
      rw [show ((ks gs).map fun (l : Nat) => ((Sum.inl (l : Int) : Key), D.lst ((rowSt gs l).map stD))) = (ks gs).map ((fun p : Nat × List Stt => ((Sum.inl (p.1 : Int) : Key), D.lst (p.2.map stD))) ∘ fun l => (l, rowSt gs l)) from rfl, ← h1, fmS (fun (x : Nat × List Sg) (z : D) => ((Sum.inl (x.1 : Int) : Key), z)) (fun x => D.lst (x.2.map fun g => stD (stt g)))]
      exact List.map_congr_left fun p _ => by show (_, D.lst ((p.2.map stt).map stD)) = _; rw [List.map_map]; rfl
    rw [e] at h
    exact h
theorem len_pieces_of_lines : ∀ ds n P X, R_pieces_of_lines A ds n P X → ds.length = 1 := by rintro ds n P X ⟨_, rfl, -⟩; rfl
theorem w_pieces_of_lines (T : TxtC K A) : ∀ Z ds n P, R_pieces_of_lines A ds n P Z.X → Ws K Z (t_pieces_of_lines K A) (startD 3 ds) n { nx := fun _ m => P .non m, rt := P } := by
  rintro Z ds n P ⟨L, rfl, hnd, hl, ha, h⟩
  unfold t_pieces_of_lines
  obtain ⟨L', hL'⟩ : ∃ L', L' = L.mergeSort fun p q => decide (p.1 ≤ q.1) := ⟨_, rfl⟩
  have hp : L'.Perm L := by rw [hL']; exact List.mergeSort_perm _ _
  have hs : L'.Pairwise fun p q => p.1 ≤ q.1 := by
    rw [hL']
    exact (List.pairwise_mergeSort (le := fun p q : Nat × List Stt => decide (p.1 ≤ q.1)) (fun a b c h1 h2 => by simp only [decide_eq_true_eq] at *; omega) (fun a b => by simp only [Bool.or_eq_true, decide_eq_true_eq]; omega) L).imp fun h => by simpa using h
  have hnd' : (L'.map (·.1)).Nodup := ((hp.map _).nodup_iff).mpr hnd
  have hlt : (L'.map (·.1)).Pairwise (· < ·) := by
    rw [List.nodup_iff_pairwise_ne] at hnd'
    exact (hnd'.and (List.pairwise_map.mpr hs)).imp fun {a b} h => by omega
  have hP := h L' hp hlt
  have kn : ∀ (L : List (Nat × List Stt)), (L.map (·.1)).Nodup → (L.map fun p => (Sum.inl (p.1 : Int) : Key)).Nodup := fun L h => by
    rw [List.nodup_iff_pairwise_ne, List.pairwise_map] at h ⊢
    exact h.imp fun {a b} hab e => hab (by simp only [Sum.inl.injEq] at e; omega)
  refine ws_seq (ws_asg (we_frz (wx_dct (fun p : Nat × List Stt => D.int (p.1 : Nat)) (fun p => .inl (p.1 : Int)) (fun p => some (.tup ((few p.2).map fun q => sgD (pcS p.1 q)))) L' (wi_list ?_))))
  walk_at "w"
  refine sorted_fdc (ks := L.map fun p => (p.1 : Int)) (by rw [List.map_map, List.map_map]; rfl) (by rw [List.length_map]; exact hl) fun ns' p1 p2 => ?_
  have en : ns' = L'.map fun p => (p.1 : Int) := by
    refine List.Perm.eq_of_pairwise (le := (· ≤ ·)) (fun a b _ _ h1 h2 => Int.le_antisymm h1 h2) p2 ?_ (p1.trans (hp.map _).symm)
    exact List.pairwise_map.mpr (hs.imp fun h => by omega)
  subst en
  refine ⟨_, rfl, by rw [List.map_map]; rfl, by rw [hp.length_eq]; omega, kn _ hnd', fun p hpm => wgc_name (by simp) (wt_yes ⟨rfl, ?_⟩), ?_⟩
  · rw [if_pos rfl]
    walk_at "w"
    refine ⟨rfl, rfl, ?_⟩
    walk_at "w"
    refine we_dgetF ?_
    walk_at "w"
    refine ⟨_, rfl, ?_⟩
    walk_at "w"
    have hm := hp.mem_iff.mp hpm
    refine ⟨.inl (p.1 : Int), .lst (p.2.map stD), rfl, valD_mem (by rw [List.map_map]; exact kn _ hnd) (List.mem_map.mpr ⟨p, hm, rfl⟩), ?_⟩
    walk_at "w"
    exact ⟨p.1, p.2, rfl, (ha p hm).1, (ha p hm).2, rfl, rfl⟩
  · refine ⟨_, rfl, ?_⟩
    have e1 : (L'.filterMap fun x => Option.map (fun z => ((Sum.inl (x.1 : Int) : Key), z)) (some (D.tup ((few x.2).map fun q => sgD (pcS x.1 q))))) = L'.map fun x => ((Sum.inl (x.1 : Int) : Key), D.tup ((few x.2).map fun q => sgD (pcS x.1 q))) := fmS (fun (x : Nat × List Stt) (z : D) => ((Sum.inl (x.1 : Int) : Key), z)) (fun x => D.tup ((few x.2).map fun q => sgD (pcS x.1 q))) L'
    rw [e1]
    refine wg_name ?_
    refine ws_ret (we_frz (wx_dct (fun p : Nat × List Stt => D.int (p.1 : Nat)) (fun p => .inl (p.1 : Int)) (fun p => if (few p.2).isEmpty then none else some (.tup ((few p.2).map fun q => sgD (pcS p.1 q)))) L' (wi_keysF ?_)))
    walk_at "w"
    refine ⟨_, rfl, by rw [List.map_map]; rfl, by rw [hp.length_eq]; omega, kn _ hnd', fun p hpm => wgc_name (by simp) ?_, ?_⟩
    · have look : ∀ {P' : D → Nat → Prop}, P' (.tup ((few p.2).map fun q => sgD (pcS p.1 q))) n → ∀ (d0 : Option D), We K Z (tDGet (tVar 1) (tVar 2)) [d0, some (.fdc (L'.map fun x => ((Sum.inl (x.1 : Int) : Key), D.tup ((few x.2).map fun q => sgD (pcS x.1 q))))), some (.int (p.1 : Nat))] n P' := fun hP' d0 => by
        refine we_dgetF ?_
        walk_at "w"
        refine ⟨_, rfl, ?_⟩
        walk_at "w"
        exact ⟨.inl (p.1 : Int), _, rfl, valD_mem (by rw [List.map_map]; exact kn _ hnd') (List.mem_map.mpr ⟨p, hpm, rfl⟩), hP'⟩
      refine wt_tru (look ⟨_, rfl, rfl, ?_⟩ _)
      by_cases q : few p.2 = []
      · rw [q]
        rfl
      · rw [if_pos (by simpa using q)]
        walk_at "w"
        refine ⟨rfl, rfl, look ⟨rfl, ?_⟩ _⟩
        rw [if_neg (by simpa using q)]
    · refine ⟨_, rfl, ?_⟩
      have e2 : ((rowsOf L').map rowD) = L'.filterMap fun x => Option.map (fun z => ((Sum.inl (x.1 : Int) : Key), z)) (if (few x.2).isEmpty then none else some (D.tup ((few x.2).map fun q => sgD (pcS x.1 q)))) := by
        exact rows_fm L'
      rw [e2] at hP
      exact hP
theorem len__all_pieces : ∀ ds n P X, R__all_pieces A ds n P X → ds.length = 1 := by rintro ds n P X ⟨_, rfl, -⟩; rfl
theorem w__all_pieces (T : TxtC K A) : ∀ Z ds n P, R__all_pieces A ds n P Z.X → Ws K Z (t__all_pieces K A) (startD 3 ds) n { nx := fun _ m => P .non m, rt := P } := by
  rintro Z ds n P ⟨R, rfl, hnd, ht, h⟩
  unfold t__all_pieces
  walk_at "w"
  refine ws_fort (fun p : Nat × List Pc => D.int (p.1 : Nat)) R (wi_keysF ?_)
  walk_at "w"
  have hk : ((R.map rowD).map (·.1)).Nodup := by
    rw [List.map_map]
    rw [List.nodup_iff_pairwise_ne, List.pairwise_map] at hnd ⊢
    exact hnd.imp fun {a b} hab e => hab (by have e' : (Sum.inl (a.1 : Int) : Key) = .inl (b.1 : Int) := e; simp only [Sum.inl.injEq] at e'; omega)
  have le : ∀ (R : Rows) i, (allP (R.take i)).length ≤ tot R := fun R i => by
    rw [allP_len]
    unfold tot
    conv => rhs; rw [← List.take_append_drop i R]
    rw [List.map_append, List.sum_append]
    exact Nat.le_add_right _ _
  refine ⟨_, rfl, by rw [List.map_map]; rfl, fun i ds' m => m = n ∧ i ≤ R.length ∧ ∃ d2, ds' = [some (.fdc (R.map rowD)), some (.mls ((allP (R.take i)).map sgD)), d2], ⟨rfl, Nat.zero_le _, _, rfl⟩, ?_, ?_⟩
  · rintro i p ds' m hx ⟨rfl, hi, d2, rfl⟩
    have il : i < R.length := (List.getElem?_eq_some_iff.mp hx).1
    have e : allP (R.take (i + 1)) = allP (R.take i) ++ p.2.map (pcS p.1) := by
      unfold allP
      rw [List.take_add_one, hx]
      simp
    have l1 := le R (i + 1)
    rw [e, List.length_append, List.length_map] at l1
    walk_at "w"
    refine ws_extT rfl ?_
    refine we_dgetF ?_
    walk_at "w"
    refine ⟨_, rfl, ?_⟩
    walk_at "w"
    refine ⟨.inl (p.1 : Int), _, rfl, valD_mem hk (List.mem_map.mpr ⟨p, List.mem_of_getElem? hx, rfl⟩), _, rfl, by simp only [List.length_map]; omega, ?_⟩
    refine ws_if ?_
    refine wt_test ?_
    refine we_op ?_
    refine we_lenM rfl ?_
    walk_at "w"
    rw [decide_eq_false (by simp only [List.length_append, List.length_map]; omega)]
    walk_at "w"
    refine ⟨rfl, il, some (.int (p.1 : Nat)), ?_⟩
    rw [e, List.map_append, List.map_map]
    rfl
  · rintro ds' m ⟨rfl, _, d2, rfl⟩
    rw [List.take_length]
    refine ws_settle (i := 1) rfl ?_
    walk_at "w"
    exact h
theorem len_Map_row_at : ∀ ds n P X, R_Map_row_at A ds n P X → ds.length = 2 := by rintro ds n P X ⟨_, _, rfl, -⟩; rfl
theorem w_Map_row_at (T : TxtC K A) : ∀ Z ds n P, R_Map_row_at A ds n P Z.X → Ws K Z (t_Map_row_at K A) (startD 2 ds) n { nx := fun _ m => P .non m, rt := P } := by
  rintro Z ds n P ⟨R, l, rfl, h⟩
  unfold t_Map_row_at
  refine ws_ret (we_dget2F ?_)
  walk_at "w"
  refine ⟨_, _, _, rfl, T.cl_Map, T.na_Map__rows, rfl, _, rfl, ?_⟩
  walk_at "w"
  refine ⟨.inl (l : Int), rfl, ?_⟩
  walk_at "w"
  rw [valD_rows, rowAt_val]
  exact h
theorem len_Map_getitem : ∀ ds n P X, R_Map_getitem A ds n P X → ds.length = 2 := by rintro ds n P X ⟨_, _, rfl, -⟩; rfl
theorem w_Map_getitem (T : TxtC K A) : ∀ Z ds n P, R_Map_getitem A ds n P Z.X → Ws K Z (t_Map_getitem K A) (startD 2 ds) n { nx := fun _ m => P .non m, rt := P } := by
  rintro Z ds n P ⟨R, l, rfl, hl, h⟩
  unfold t_Map_getitem
  walk_at "w"
  refine ⟨_, some NL, rfl, up_leO hl, ?_⟩
  walk_at "w"
  refine ⟨_, rfl, rfl, ?_⟩
  walk_at "w"
  exact ⟨R, l, rfl, h⟩
theorem len_Map_len : ∀ ds n P X, R_Map_len A ds n P X → ds.length = 1 := by rintro ds n P X ⟨_, rfl, -⟩; rfl
theorem w_Map_len (T : TxtC K A) : ∀ Z ds n P, R_Map_len A ds n P Z.X → Ws K Z (t_Map_len K A) (startD 1 ds) n { nx := fun _ m => P .non m, rt := P } := by
  rintro Z ds n P ⟨R, rfl, h⟩
  unfold t_Map_len
  walk_at "w"
  refine ⟨_, _, _, rfl, T.cl_Map, T.na_Map__pieces, rfl, ?_⟩
  walk_at "w"
  rw [List.length_map, allP_len]
  exact h
theorem pieces_gs {n : Nat} {P : D → Nat → Prop} {X : Xp} {gs : List Sg} (hnd : KeyNd gs) (hlen : gs.length < 64) (h : P (.fdc ((rowsG gs).map rowD)) n) : R_pieces_of_lines A [.fdc ((ks gs).map fun (l : Nat) => (Sum.inl (l : Int), .lst ((rowSt gs l).map stD)))] n P X := by
  have asc : ((((ks gs).map fun l => (l, rowSt gs l))).map (·.1)).Pairwise (· < ·) := by
    rw [List.map_map]
    show (List.map (fun l => l) (ks gs)).Pairwise _
    rw [List.map_id']
    exact ks_asc gs
  refine ⟨(ks gs).map fun l => (l, rowSt gs l), by rw [List.map_map]; rfl, asc.imp fun h => by omega, ?_, fun p hp => ?_, fun L' p1 p2 => ?_⟩
  · rw [List.length_map]
    have := ks_len (gs := gs)
    omega
  · obtain ⟨l, _, rfl⟩ := List.mem_map.mp hp
    refine ⟨rowSt_asc hnd l, ?_⟩
    show (rowSt gs l).length ≤ _
    unfold rowSt
    rw [List.length_map]
    have := List.length_filter_le (fun g : Sg => g.ln == l) (srt gs)
    rw [(srt_perm gs).length_eq] at this
    omega
  · have e : L' = (ks gs).map fun l => (l, rowSt gs l) := List.Perm.eq_of_pairwise (le := fun p q => p.1 < q.1) (fun a b _ _ h1 h2 => by omega) (List.pairwise_map.mp p2) (List.pairwise_map.mp asc) p1
    rw [e]
    exact h
theorem len_Map_init : ∀ ds n P X, R_Map_init A ds n P X → ds.length + 1 = 2 := by rintro ds n P X ⟨_, rfl, -⟩; rfl
theorem w_Map_init (T : TxtC K A) : ∀ Z x dx ds n P, R_Map_init A ds n P Z.X → Ws K Z (t_Map_init K A) (some (.mob x dx A.c_Map []) :: startD 1 ds) n { nx := fun ds' m => m = n ∧ ∃ gs, ds'[0]? = some (some (.mob x dx A.c_Map gs)) ∧ P gs, rt := fun _ _ => False } := by
  rintro Z x dx ds n P ⟨gs, rfl, ⟨hok, hnd, hlen⟩, h⟩
  unfold t_Map_init
  walk_at "w"
  refine ⟨gs, some NL, rfl, hok, hnd, by omega, ?_⟩
  walk_at "w"
  refine ws_fld rfl T.cl_Map T.na_Map__rows (by simp) ?_
  walk_at "w"
  refine ⟨gs, rfl, hnd, by omega, ?_⟩
  walk_at "w"
  refine pieces_gs hnd hlen ?_
  refine ws_fld rfl T.cl_Map T.na_Map__pieces (by simp [putD]) ?_
  refine we_call ?_
  refine wa_cons ?_
  refine we_fldM rfl T.cl_Map T.na_Map__rows rfl ?_
  walk_at "w"
  exact ⟨rowsG gs, rfl, rowsG_nd gs, by have := tot_le hnd; omega, rfl, _, rfl, h⟩
theorem len_Map_of : ∀ ds n P X, R_Map_of A ds n P X → ds.length = 2 := by rintro ds n P X ⟨_, rfl, -⟩; rfl
theorem w_Map_of (T : TxtC K A) : ∀ Z ds n P, R_Map_of A ds n P Z.X → Ws K Z (t_Map_of K A) (startD 2 ds) n { nx := fun _ m => P .non m, rt := P } := by
  rintro Z ds n P ⟨gs, rfl, hok, h⟩
  unfold t_Map_of
  walk_at "w"
  refine ⟨_, .inl rfl, by rw [List.length_map]; have := hok.len; omega, gs, rfl, hok, h⟩
end
end Lw

namespace Lw
open PySem L2 StX DL MP
section
variable {K : PySem.W.Frag} [Tb K] {Z : ZX} {A : Ad}
/-- one step -/
local macro_rules | `(tactic| walk_at "w1") => `(tactic| first
  | with_reducible refine ws_seq ?_
  | ((with_reducible show Ws _ _ (tAsg (tLst tNil) (gName _)) _ _ _); refine ws_setX (wx_lst (wa_nil ⟨Nat.zero_le _, ?_⟩)))
  | ((with_reducible show Ws _ _ (tAsg tDNewK (gName _)) _ _ _); refine ws_setX (wx_dnew ?_))
  | with_reducible refine ws_parX ?_
  | with_reducible refine ws_par3X ?_
  | ((with_reducible show Wx _ _ (tLst tNil) _ _ _); refine wx_lst (wa_nil ⟨Nat.zero_le _, ?_⟩))
  | ((with_reducible show Wx _ _ tDNewK _ _ _); refine wx_dnew ?_)
  | with_reducible refine wx_we ?_
  | with_reducible refine ws_break ?_
  | with_reducible refine ws_cont ?_
  | with_reducible refine ws_retN ?_
  | with_reducible refine ws_if ?_
  | with_reducible refine ws_ret ?_
  | ((fail_if_success (with_reducible show Ws _ _ (tDrop (tBM _ _ _ _ _)) _ _ _)); (with_reducible refine ws_drop ?_))
  | with_reducible refine ws_next ?_
  | with_reducible refine ws_par ?_
  | ((fail_if_success (with_reducible show Ws _ _ (tAsg _ (gSub _ _ _)) _ _ _)); (with_reducible refine ws_asg ?_))
  | with_reducible refine wg_name ?_
  | with_reducible refine we_int ?_
  | with_reducible refine we_bl ?_
  | with_reducible refine we_non ?_
  | with_reducible refine we_str ?_
  | with_reducible refine we_ty ?_
  | with_reducible refine we_cls ?_
  | with_reducible refine we_cmethX ?_
  | with_reducible refine we_cmeth ?_
  | with_reducible refine we_cmethN ?_
  | ((with_reducible show ∃ _, D.str _ = D.str _ ∧ _ ∧ _); refine ⟨_, rfl, ?_, ?_⟩; (focus (first | assumption | omega)))
  | ((with_reducible show We _ _ (tVar _) _ _ _); refine we_var rfl rfl ?_)
  | ((with_reducible show We _ _ (tVar _) _ _ _); refine we_var rfl (mut_td _) ?_)
  | ((with_reducible show We _ _ (tVar _) _ _ _); refine we_var rfl (mut_tg _) ?_)
  | ((with_reducible show We _ _ (tVar _) _ _ _); refine we_var rfl (mut_w _) ?_)
  | ((with_reducible show We _ _ (tVar _) _ _ _); refine we_var rfl (mut_lm _) ?_)
  | ((with_reducible show We _ _ (tVar _) _ _ _); refine we_var rfl (mut_b _) ?_)
  | ((fail_if_success (with_reducible show We _ _ (tOp (rInP _) _ (tVar _)) _ _ _)); with_reducible refine we_op ?_)
  | with_reducible refine we_un ?_
  | with_reducible refine we_lenO ?_
  | with_reducible refine we_cb ?_
  | with_reducible refine we_callX ?_
  | with_reducible refine we_call ?_
  | with_reducible refine we_callNX ?_
  | with_reducible refine we_callN ?_
  | with_reducible refine we_methN ?_
  | with_reducible refine we_callON ?_
  | with_reducible refine we_callOX ?_
  | with_reducible refine ws_raise ?_
  | with_reducible refine we_tup ?_
  | with_reducible refine we_lst ?_
  | with_reducible refine we_sl ?_
  | with_reducible refine we_m1 ?_
  | with_reducible refine we_andV ?_
  | with_reducible refine we_orV ?_
  | with_reducible refine we_notV ?_
  | with_reducible refine we_if ?_
  | with_reducible refine we_chain ?_
  | with_reducible refine we_fld ?_
  | with_reducible refine we_methX ?_
  | with_reducible refine we_meth ?_
  | with_reducible refine we_prop ?_
  | with_reducible refine we_callO' ?_
  | with_reducible refine we_make ?_
  | with_reducible refine wt_test ?_
  | with_reducible refine wt_B ?_
  | with_reducible refine wt_yes ?_
  | with_reducible refine wt_and ?_
  | with_reducible refine wt_or ?_
  | with_reducible refine wt_not ?_
  | with_reducible refine wa_nil ?_
  | with_reducible refine wa_cons ?_
  | with_reducible refine wo_none ?_
  | with_reducible refine wo_some ?_
  | with_reducible refine add_int ?_
  | with_reducible refine sub_int ?_
  | with_reducible refine neg_int ?_
  | ((with_reducible refine mod_int ?_ ?_); (focus (first | assumption | omega)))
  | ((with_reducible refine mul_int ?_ ?_); (focus (first | exact Or.inl ⟨by omega, by omega⟩ | exact Or.inr ⟨by omega, by omega⟩)))
  | ((with_reducible refine fdiv_int ?_ ?_); (focus (exact ⟨by omega, by omega⟩)))
  | ((with_reducible refine pow_int ?_ ?_); (focus (exact ⟨by decide, by decide, by decide⟩)))
  | with_reducible refine is_non ?_
  | with_reducible refine not_non ?_
  | with_reducible refine eq_int ?_
  | with_reducible refine ne_int ?_
  | with_reducible refine eq_pos ?_
  | with_reducible refine ne_pos ?_
  | with_reducible refine ne_nn ?_
  | with_reducible refine ne_np ?_
  | with_reducible refine ne_pn ?_
  | with_reducible refine eq_str ?_
  | with_reducible refine ne_str ?_
  | with_reducible refine eq_bl ?_
  | with_reducible refine ne_bl ?_
  | with_reducible refine lt_int ?_
  | with_reducible refine gt_int ?_
  | with_reducible refine le_int ?_
  | with_reducible refine ge_int ?_
  | with_reducible refine lt_pos ?_
  | with_reducible refine gt_pos ?_
  | with_reducible refine le_pos ?_
  | with_reducible refine ge_pos ?_
  | with_reducible refine int_int ?_
  | with_reducible refine min_int ?_
  | with_reducible refine max_int ?_
  | with_reducible refine len_lst ?_
  | with_reducible refine len_tup ?_
  | ((with_reducible refine len_str ?_ ?_); (focus (first | assumption | omega)))
  | with_reducible refine tuple_lst ?_
  | with_reducible refine tuple_tup ?_
  | with_reducible refine sl_lst ?_
  | with_reducible refine sl_tup ?_
  | ((with_reducible refine sl_str ?_ ?_); (focus (first | assumption | omega)))
  | with_reducible refine mt_countD ?_
  | with_reducible refine mt_rfindD ?_
  | ((with_reducible refine mt_splitD ?_ ?_ ?_); (focus rfl); (focus (first | assumption | omega)))
  | ((with_reducible show Op _ (rIx _) (D.tup _) (D.int _) _); refine ix_tup (by decide) rfl ?_)
  | ((with_reducible show Op _ (rIx _) (D.lst _) (D.int _) _); refine ix_lst (by decide) rfl ?_)
  | ((with_reducible show Cb _ (rIsi _) [D.int _, D.ty _] _); first | refine isiI (r := true) (by decide +kernel) ?_ | refine isiI (r := false) (by decide +kernel) ?_)
  | ((with_reducible show Cb _ (rIsi _) [D.str _, D.ty _] _); first | refine isiS (r := true) (by decide +kernel) ?_ | refine isiS (r := false) (by decide +kernel) ?_)
  | ((with_reducible show Cb _ (rIsi _) [D.tup _, D.ty _] _); first | refine isiT (r := true) (by decide +kernel) ?_ | refine isiT (r := false) (by decide +kernel) ?_)
  | ((with_reducible show Wg _ _ (gTup _ _ _) _ _ _); refine wg_tup rfl rfl ?_)
  | ((with_reducible show Wgs _ _ gNil _ _ _); refine wgs_nil rfl ?_)
  | ((with_reducible show Wgs _ _ (gCons _ _) _ _ _); refine wgs_cons rfl ?_)
  | ((with_reducible show ∃ _, D.bl _ = D.bl _ ∧ _); refine ⟨_, rfl, ?_⟩)
  | ((with_reducible show ∃ _, D.int _ = D.int _ ∧ _); refine ⟨_, rfl, ?_⟩)
  | ((with_reducible show ∃ _, D.str _ = D.str _ ∧ _); refine ⟨_, rfl, ?_⟩)
  | ((with_reducible show ∃ _, D.tup _ = D.tup _ ∧ _); refine ⟨_, rfl, ?_⟩)
  | ((with_reducible show ∃ _, D.lst _ = D.lst _ ∧ _); refine ⟨_, rfl, ?_⟩)
  | with_reducible refine wt_tru ?_
  | with_reducible refine list_lst ?_
  | with_reducible refine list_tup ?_
  | with_reducible refine we_makeS ?_
  | with_reducible refine we_makeR ?_
  | with_reducible refine we_smethS ?_
  | with_reducible refine iteNT ?_
  | with_reducible refine iteNF ?_
  | ((with_reducible show if true = true then _ else _); rw [if_pos rfl])
  | ((with_reducible show if false = true then _ else _); rw [if_neg Bool.false_ne_true])
  | ((with_reducible show List.length _ ≤ 1000000 ∧ _); refine ⟨?_, ?_⟩; (focus (simp; done)))
  | fail "no step")
local macro_rules | `(tactic| walk_at "w") => `(tactic| repeat (walk_at "w1"))
local macro_rules | `(tactic| walk_at "ws") => `(tactic| repeat ((fail_if_success (with_reducible show We _ _ (tChain _ _ _ _ _) _ _ _)); (fail_if_success (with_reducible show Wt _ _ (tAnd _ _) _ _ _)); (fail_if_success (with_reducible show We _ _ (tOrT _ _ _) _ _ _)); walk_at "w1"))

theorem pds_is : ∀ xs : List Int, pds (xs.map D.int) = some (xs.map PyData.int)
  | [] => rfl
  | x :: xs => by simp only [List.map_cons, pds, pd, pds_is xs]; rfl
theorem ne_ints {xs : List Int} {P : D → Prop} (h : P (.bl (decide (xs.length ≠ 0)))) : Op K (rNeP K) (.lst (xs.map .int)) (.lst []) P := by
  refine neP (d := .list (xs.map .int)) (e := .list []) (by simp only [pd, pds_is]; rfl) rfl (by simp only [PyData.plain, plain_is xs]) rfl (by have := depth_is xs; simp only [PyData.depth]; omega) ?_
  have ev : (!PyData.eqv (.list (xs.map PyData.int)) (.list [])) = decide (xs.length ≠ 0) := by
    cases xs <;> simp [PyData.eqv, PyData.eqvAll]
  rw [ev]; exact h
theorem len__law_draw : ∀ ds n P X, R__law_draw A ds n P X → ds.length = 2 := by rintro ds n P X ⟨_, _, _, rfl, -⟩; rfl
theorem draw_tail {a : Addr} {len n : Nat} {t c s : Int} {P : D → Nat → Prop} (h0 : 0 < t) (h1 : t < 1073741824) (h2 : n ≤ 1000000) (c0 : 0 ≤ c) (cn : c ≤ n) (s0 : 0 ≤ s) (s1 : len ≠ 0 → s < len) (h : ∀ r, 0 ≤ r → r < t → P (.int r) (n + 1)) :
    Ws K Z (tSeq (tAsg (tIf (tTest (tOp (rNeP K) (tDGet (tVar 0) (tC (.str (PySem.Str.ofString "script")))) (tLst tNil))) (tOp (rI (fun _ j => 0 < j) fun i j => .int (i % j)) (tCB (rInt1) (tCons (tOp (rIx K) (tDGet (tVar 0) (tC (.str (PySem.Str.ofString "script")))) (tVar 3)) tNil)) (tC (.int 1000000007))) (tC (.int 0))) (gName 4))
    (tSeq (tAsg (tOp (rI (fun _ j => 0 < j) fun i j => .int (i % j)) (tCB (rInt1) (tCons (tOp (rAddU K) (tOp (rAddU K) (tOp (rAddU K) (tOp (rI CMul fun i j => .int (i * j)) (tVar 4) (tC (.int 48271))) (tOp (rI CMul fun i j => .int (i * j)) (tOp (rI CMul fun i j => .int (i * j)) (tC (.int 7919)) (tVar 2)) (tVar 2))) (tOp (rI CMul fun i j => .int (i * j)) (tC (.int 31)) (tVar 2))) (tC (.int 17))) tNil)) (tC (.int 2147483647))) (gName 5))
    (tSeq (tAsg (tOp (rI (fun _ j => 0 < j) fun i j => .int (i % j)) (tCB (rInt1) (tCons (tOp (rAddU K) (tOp (rAddU K) (tOp (rI CMul fun i j => .int (i * j)) (tVar 5) (tC (.int 69619))) (tOp (rI CMul fun i j => .int (i * j)) (tC (.int 104729)) (tVar 2))) (tC (.int 5))) tNil)) (tC (.int 2147483629))) (gName 5))
    (tRet (tOp (rI (fun _ j => 0 < j) fun i j => .int (i % j)) (tCB (rInt1) (tCons (tOp (rI CDiv fun i j => .int (i / j)) (tOp (rI (fun _ j => 0 < j) fun i j => .int (i % j)) (tCB (rInt1) (tCons (tOp (rI CMul fun i j => .int (i * j)) (tVar 5) (tVar 5)) tNil)) (tC (.int 1000000007))) (tC (.int 11))) tNil)) (tVar 1))))))
      (((startD 6 [.strm a (.mp len), .int t]).set 2 (some (.int c))).set 3 (some (.int s))) (n + 1) {nx := fun _ m => P .non m, rt := P} := by
  walk_at "w"
  refine we_mScript rfl fun cs hcs => ?_
  walk_at "w"
  refine ne_ints ?_
  walk_at "w"
  refine iteD (fun hl => ?_) (fun hl => ?_)
  · walk_at "w"
    refine we_mScript rfl fun cs hcs => ?_
    walk_at "w"
    have hi : s.toNat < cs.length := by have := s1 (by omega); omega
    refine ix_lst (n := 0) (d := .int cs[s.toNat]) s0 (by rw [List.getElem?_map, List.getElem?_eq_getElem hi]; rfl) ?_
    walk_at "w"
    exact h _ (Int.emod_nonneg _ (by omega)) (Int.emod_lt_of_pos _ h0)
  · walk_at "w"
    exact h _ (Int.emod_nonneg _ (by omega)) (Int.emod_lt_of_pos _ h0)
theorem w__law_draw (T : TxtC K A) : ∀ Z ds n P, R__law_draw A ds n P Z.X → Ws K Z (t__law_draw K A) (startD 6 ds) n {nx := fun _ m => P .non m, rt := P} := by
  rintro Z ds n P ⟨a, len, t, rfl, h0, h1, h2, h⟩
  unfold t__law_draw
  walk_at "w"
  refine we_mAt rfl fun c c0 cn => ?_
  walk_at "w"
  refine ws_mAt rfl ?_
  walk_at "w"
  refine ⟨by omega, by omega, ?_⟩
  walk_at "w"
  refine we_mScript rfl fun cs hcs => ?_
  walk_at "w"
  have hs : ∀ M : Int, M = (if ((List.map D.int cs).length : Int) > 1 then ((List.map D.int cs).length : Int) else 1) → 0 ≤ c % M ∧ (len ≠ 0 → c % M < len) := by
    intro M hM
    rw [List.length_map, hcs] at hM
    have hp : 0 < M := by rw [hM]; split <;> omega
    refine ⟨Int.emod_nonneg _ (by omega), fun hl => ?_⟩
    have := Int.emod_lt_of_pos c hp
    rw [hM] at this ⊢
    split at this <;> rename_i hq
    · rw [if_pos hq]; exact this
    · rw [if_neg hq]; omega
  obtain ⟨s0, s1⟩ := hs _ rfl
  generalize c % (if ((List.map D.int cs).length : Int) > 1 then ((List.map D.int cs).length : Int) else 1) = s at *
  walk_at "w"
  refine we_mLeft rfl fun l2 => ?_
  walk_at "w"
  refine ne_nats ?_
  walk_at "w"
  refine iteD (fun hl => ?_) (fun hl => ?_)
  · walk_at "w"
    refine we_mLeft rfl fun l3 => ?_
    walk_at "w"
    refine ix_nats s0 (s1 hl) fun x x0 => ?_
    walk_at "w"
    refine iteD (fun _ => ?_) (fun _ => ?_)
    · walk_at "w"
      refine we_mLeft rfl fun l4 => ?_
      walk_at "w"
      refine ix_nats s0 (s1 hl) fun y y0 => ?_
      walk_at "w"
      refine ws_mSet rfl rfl s0 (s1 hl) ?_
      walk_at "w"
      refine ⟨Int.ediv_nonneg y0 (by omega), ?_⟩
      walk_at "w"
      exact h _ (Int.emod_nonneg _ (by omega)) (Int.emod_lt_of_pos _ h0)
    · exact ws_next (draw_tail h0 h1 h2 c0 cn s0 s1 h)
  · rw [if_neg Bool.false_ne_true]
    exact ws_next (draw_tail h0 h1 h2 c0 cn s0 s1 h)
theorem len__law_of : ∀ ds n P X, R__law_of A ds n P X → ds.length = 2 := by rintro ds n P X ⟨_, _, _, rfl, -⟩; rfl
theorem w__law_of (T : TxtC K A) : ∀ Z ds n P, R__law_of A ds n P Z.X → Ws K Z (t__law_of K A) (startD 2 ds) n {nx := fun _ m => P .non m, rt := P} := by
  rintro Z ds n P ⟨a, len, xs, rfl, h0, h1, h2, h⟩
  unfold t__law_of
  have hp : 0 < xs.length := List.length_pos_iff.mpr h0
  walk_at "w"
  refine ⟨a, len, _, rfl, by omega, by omega, h2, fun r r0 r1 => ?_⟩
  walk_at "w"
  have hr : r.toNat < xs.length := by omega
  refine ix_lst (n := 0) r0 (List.getElem?_eq_getElem hr) ?_
  exact h _ (List.getElem_mem hr)
theorem len__law_begun : ∀ ds n P X, R__law_begun A ds n P X → ds.length = 1 := by rintro ds n P X ⟨_, rfl, -⟩; rfl
theorem w__law_begun (T : TxtC K A) : ∀ Z ds n P, R__law_begun A ds n P Z.X → Ws K Z (t__law_begun K A) (startD 2 ds) n {nx := fun _ m => P .non m, rt := P} := by
  rintro Z ds n P ⟨ns, rfl, hn, h⟩
  unfold t__law_begun
  refine ws_mNew (cs := ns) rfl (wi_list ?_)
  walk_at "w"
  refine ⟨fun i ys k => k = n ∧ ∃ zs : List Int, ys = zs.map D.int ∧ zs.length = i ∧ ∀ z ∈ zs, 0 ≤ z, ⟨rfl, [], rfl, rfl, by simp⟩, ?_, ?_⟩
  · rintro i x ys k hx ⟨rfl, zs, rfl, rfl, hz⟩
    rw [List.getElem?_map] at hx
    obtain ⟨v, hv, rfl⟩ := Option.map_eq_some_iff.mp hx
    have hi := (List.getElem?_eq_some_iff.mp hv).1
    refine wgc_name (by simp) ?_
    walk_at "w"
    refine iteD (fun q => ?_) (fun q => ?_)
    · walk_at "w"
      have q' : (0 : Int) ≤ v := Int.le_trans (by decide) q
      refine ⟨by rw [List.length_map]; omega, rfl, zs ++ [v], by simp, by simp, fun z hz' => ?_⟩
      rcases List.mem_append.mp hz' with w | w
      · exact hz z w
      · rw [List.mem_singleton.mp w]; exact q'
    · walk_at "w"
      refine ⟨by rw [List.length_map]; omega, rfl, zs ++ [0], by simp, by simp, fun z hz' => ?_⟩
      rcases List.mem_append.mp hz' with w | w
      · exact hz z w
      · rw [List.mem_singleton.mp w]; exact Int.le_refl _
  · rintro ys k ⟨rfl, zs, rfl, hl, hz⟩
    exact ⟨zs, rfl, by rw [hl, List.length_map], hz, h⟩
theorem begs_any (gs : List Sg) (x y : Nat) (c : Bool) (hc : (gs.map fun g => PyData.tuple [.int (g.ln : Nat), .int (g.b : Nat)]).any (fun z => PyData.eqv z (.tuple [.int (x : Nat), .int (y : Nat)])) = c) : c = true ↔ (x, y) ∈ gs.map fun g => (g.ln, g.b) := by
  subst hc
  rw [List.any_map, List.any_eq_true, List.mem_map]
  constructor
  · rintro ⟨g, hg, e⟩
    refine ⟨g, hg, ?_⟩
    simp only [Function.comp, PyData.eqv, PyData.eqvAll, Bool.and_true, Bool.and_eq_true, b_eq, decide_eq_true_eq, Int.natCast_inj] at e
    rw [e.1, e.2]
  · rintro ⟨g, hg, e⟩
    refine ⟨g, hg, ?_⟩
    simp only [Prod.mk.injEq] at e
    simp only [Function.comp, PyData.eqv, PyData.eqvAll, Bool.and_true, Bool.and_eq_true, b_eq, decide_eq_true_eq, Int.natCast_inj]
    exact e
theorem len__law_segments : ∀ ds n P X, R__law_segments A ds n P X → ds.length = 1 := by rintro ds n P X ⟨_, _, rfl, -⟩; rfl
theorem w__law_segments (T : TxtC K A) : ∀ Z ds n P, R__law_segments A ds n P Z.X → Ws K Z (t__law_segments K A) (startD 10 ds) n { nx := fun _ m => P .non m, rt := P } := by
  rintro Z ds n P ⟨a, len, rfl, hn, h⟩
  unfold t__law_segments
  walk_at "w"
  refine ⟨a, len, 3, rfl, by decide, by decide, by omega, fun d d0 d1 => ?_⟩
  obtain ⟨d, rfl⟩ := Int.eq_ofNat_of_zero_le d0
  walk_at "w"
  refine ws_fore (fun q : Nat => D.int (q : Nat)) (wi_range1 ?_)
  walk_at "w"
  refine ⟨a, len, 9, rfl, by decide, by decide, by omega, fun r r0 r1 => ?_⟩
  walk_at "w"
  refine ⟨r, rfl, ⟨by omega, by omega⟩, List.range r.toNat, by rw [rng0_map], fun i ds' m => ∃ gs : List Sg, gs.length ≤ i ∧ i ≤ 8 ∧ (∀ g ∈ gs, GD g) ∧ KeyNd gs ∧ n + 2 ≤ m ∧ m ≤ n + 2 + 8 * i ∧ ∃ d4 d5 d6 d7 d8 d9, ds' = [some (.strm a (.mp len)), some (.mls (gs.map sgD)), some (.mls (gs.map fun g => .tup [.int (g.ln : Nat), .int (g.b : Nat)])), some (.int (d : Nat)), d4, d5, d6, d7, d8, d9], ⟨[], Nat.le_refl _, by omega, by simp, by simp [KeyNd], by omega, by omega, _, _, _, _, _, _, rfl⟩, ?_, ?_⟩
  · rintro i q ds' m hq ⟨gs, hl, h8, hg, hk, m1, m2, d4, d5, d6, d7, d8, d9, rfl⟩
    obtain ⟨hi, rfl⟩ := range_at hq
    walk_at "w"
    refine ⟨a, len, 2, rfl, by decide, by decide, by omega, fun x x0 x1 => ?_⟩
    obtain ⟨x, rfl⟩ := Int.eq_ofNat_of_zero_le x0
    walk_at "w"
    refine ⟨a, len, 10, rfl, by decide, by decide, by omega, fun y y0 y1 => ?_⟩
    obtain ⟨y, rfl⟩ := Int.eq_ofNat_of_zero_le y0
    walk_at "w"
    refine we_inM rfl (pdsm (fun g : Sg => D.tup [.int (g.ln : Nat), .int (g.b : Nat)]) (fun g : Sg => .tuple [.int (g.ln : Nat), .int (g.b : Nat)]) (fun _ => rfl) gs) (plainm _ (fun _ => rfl) gs) ?_
    walk_at "w"
    refine ⟨.tuple [.int (x : Nat), .int (y : Nat)], rfl, rfl, by simp [PyData.depth, PyData.depthAll], ?_⟩
    generalize hc : (gs.map fun g => PyData.tuple [.int (g.ln : Nat), .int (g.b : Nat)]).any (fun z => PyData.eqv z (.tuple [.int (x : Nat), .int (y : Nat)])) = c
    have hc := begs_any gs x y c hc
    walk_at "w"
    cases c with
    | true =>
      rw [if_pos rfl]
      refine ws_cont ?_
      exact ⟨gs, by omega, by omega, hg, hk, by omega, by omega, _, _, _, _, _, _, rfl⟩
    | false =>
      rw [if_neg Bool.false_ne_true]
      have hnot : (x, y) ∉ gs.map fun g => (g.ln, g.b) := fun z => by have := hc.mpr z; cases this
      have add : ∀ g : Sg, g.ln = x → g.b = y → GD g → (gs ++ [g]).length ≤ q + 1 ∧ q + 1 ≤ 8 ∧ (∀ g' ∈ gs ++ [g], GD g') ∧ KeyNd (gs ++ [g]) := fun g e1 e2 hgd => by
        refine ⟨by simp; omega, by omega, fun g' h' => ?_, ?_⟩
        · rcases List.mem_append.mp h' with z | z
          · exact hg g' z
          · rw [List.mem_singleton.mp z]; exact hgd
        · show (List.map _ (gs ++ [g])).Nodup
          rw [List.map_append, List.nodup_append]
          refine ⟨hk, by simp, fun u hu v hv e => ?_⟩
          have : v = (x, y) := by rw [← e1, ← e2]; simpa using hv
          rw [this] at e
          exact hnot (by rw [← e]; exact hu)
      walk_at "w"
      refine ws_append rfl (by rw [List.length_map]; omega) ?_
      walk_at "w"
      refine ⟨a, len, 7, rfl, by decide, by decide, by omega, fun k k0 k1 => ?_⟩
      walk_at "w"
      refine ⟨a, len, 8, rfl, by decide, by decide, by omega, fun cl c0 c1 => ?_⟩
      obtain ⟨cl, rfl⟩ := Int.eq_ofNat_of_zero_le c0
      walk_at "w"
      refine iteD (fun hk0 => ?_) (fun hk0 => ?_)
      · walk_at "w"
        refine ws_append rfl (by rw [List.length_map]; omega) ?_
        walk_at "w"
        have finG : ∀ e4 e5 e6 e7 e8 e9, ∃ gs' : List Sg, gs'.length ≤ q + 1 ∧ q + 1 ≤ 8 ∧ (∀ g ∈ gs', GD g) ∧ KeyNd gs' ∧ n + 2 ≤ m + 1 + 1 + 1 + 1 ∧ m + 1 + 1 + 1 + 1 ≤ n + 2 + 8 * (q + 1) ∧ ∃ d4 d5 d6 d7 d8 d9, ([some (.strm a (.mp len)), some (.mls (gs.map sgD ++ [sgD ⟨x, y, none⟩])), some (.mls (gs.map (fun g => .tup [.int (g.ln : Nat), .int (g.b : Nat)]) ++ [.tup [.int (x : Nat), .int (y : Nat)]])), some (.int (d : Nat)), e4, e5, e6, e7, e8, e9] : DS) = [some (.strm a (.mp len)), some (.mls (gs'.map sgD)), some (.mls (gs'.map fun g => .tup [.int (g.ln : Nat), .int (g.b : Nat)])), some (.int (d : Nat)), d4, d5, d6, d7, d8, d9] := fun e4 e5 e6 e7 e8 e9 => by
          obtain ⟨z1, z2, z3, z4⟩ := add ⟨x, y, none⟩ rfl rfl ⟨(by omega : x < 2), (by omega : y < 10), by simp⟩
          refine ⟨gs ++ [⟨x, y, none⟩], z1, z2, z3, z4, by omega, by omega, e4, e5, e6, e7, e8, e9, ?_⟩
          rw [List.map_append, List.map_append]
          rfl
        exact finG _ _ _ _ _ _
      · have fin : ∀ (r : Bool) (src : Str) (l2 col : Nat) (w : Option Str), (src = Str.ofString "s" ∨ src = Str.ofString "lib/t.js") → l2 < 2 → col < 12 → (w = none ∨ w = some (Str.ofString "w") ∨ w = some (Str.ofString "go-on")) → ∀ m', n + 2 ≤ m' → m' ≤ m + 8 → ∀ e4 e5 e6 e7 e8 e9, ∃ gs' : List Sg, gs'.length ≤ q + 1 ∧ q + 1 ≤ 8 ∧ (∀ g ∈ gs', GD g) ∧ KeyNd gs' ∧ n + 2 ≤ m' ∧ m' ≤ n + 2 + 8 * (q + 1) ∧ ∃ d4 d5 d6 d7 d8 d9, ([some (.strm a (.mp len)), some (.mls (gs.map sgD ++ [sgD ⟨x, y, some (r, ⟨src, l2, col, w⟩)⟩])), some (.mls (gs.map (fun g => .tup [.int (g.ln : Nat), .int (g.b : Nat)]) ++ [.tup [.int (x : Nat), .int (y : Nat)]])), some (.int (d : Nat)), e4, e5, e6, e7, e8, e9] : DS) = [some (.strm a (.mp len)), some (.mls (gs'.map sgD)), some (.mls (gs'.map fun g => .tup [.int (g.ln : Nat), .int (g.b : Nat)])), some (.int (d : Nat)), d4, d5, d6, d7, d8, d9] := fun r src l2 col w h1 h2 h3 h4 m' q1 q2 e4 e5 e6 e7 e8 e9 => by
          obtain ⟨z1, z2, z3, z4⟩ := add ⟨x, y, some (r, ⟨src, l2, col, w⟩)⟩ rfl rfl ⟨(by omega : x < 2), (by omega : y < 10), fun r' t' e => by cases e; exact ⟨h1, h2, h3, h4⟩⟩
          refine ⟨gs ++ [⟨x, y, some (r, ⟨src, l2, col, w⟩)⟩], z1, z2, z3, z4, q1, by omega, e4, e5, e6, e7, e8, e9, ?_⟩
          rw [List.map_append, List.map_append]
          rfl
        have srcs : ∀ z, z ∈ [D.str (Str.ofString "s"), D.str (Str.ofString "s"), D.str (Str.ofString "lib/t.js")] → ∃ src, (src = Str.ofString "s" ∨ src = Str.ofString "lib/t.js") ∧ z = .str src := fun z hz => by
          simp only [List.mem_cons, List.not_mem_nil, or_false] at hz
          rcases hz with rfl | rfl | rfl
          · exact ⟨_, .inl rfl, rfl⟩
          · exact ⟨_, .inl rfl, rfl⟩
          · exact ⟨_, .inr rfl, rfl⟩
        have wrds : ∀ z, z ∈ [D.str (Str.ofString "w"), D.str (Str.ofString "go-on")] → ∃ w, (some w = none ∨ some w = some (Str.ofString "w") ∨ some w = some (Str.ofString "go-on")) ∧ z = .str w := fun z hz => by
          simp only [List.mem_cons, List.not_mem_nil, or_false] at hz
          rcases hz with rfl | rfl
          · exact ⟨_, .inr (.inl rfl), rfl⟩
          · exact ⟨_, .inr (.inr rfl), rfl⟩
        walk_at "w"
        refine iteD (fun hk4 => ?_) (fun hk4 => ?_)
        all_goals
          walk_at "w"
          refine ⟨a, len, _, rfl, by simp, by simp, by omega, fun z hz => ?_⟩
          obtain ⟨src, hsrc, rfl⟩ := srcs z hz
          walk_at "w"
          refine iteD (fun hk5 => ?_) (fun hk5 => ?_)
        all_goals
          walk_at "w"
          refine add_tup (by simp) ?_
          walk_at "w"
          refine ⟨a, len, 2, rfl, by decide, by decide, by omega, fun l2 l0 l1 => ?_⟩
          obtain ⟨l2, rfl⟩ := Int.eq_ofNat_of_zero_le l0
          have hl2 : l2 < 2 := by omega
          walk_at "w"
          refine add_tup (by simp) ?_
          walk_at "w"
          refine ⟨a, len, 4, rfl, by decide, by decide, by omega, fun k4 k40 k41 => ?_⟩
          walk_at "w"
          refine iteD (fun hw => ?_) (fun hw => ?_)
        all_goals
          walk_at "w"
          first
            | (refine ⟨a, len, _, rfl, by simp, by simp, by omega, fun z hz => ?_⟩
               obtain ⟨w, hww, rfl⟩ := wrds z hz
               walk_at "w"
               refine add_tup (by simp) ?_
               walk_at "w"
               refine ws_append rfl (by rw [List.length_map]; omega) ?_
               walk_at "w"
               first
                 | exact fin true src l2 (y + d) (some w) hsrc hl2 (by omega) hww _ (by omega) (by omega) _ _ _ _ _ _
                 | exact fin false src l2 (y + d) (some w) hsrc hl2 (by omega) hww _ (by omega) (by omega) _ _ _ _ _ _
                 | exact fin true src l2 cl (some w) hsrc hl2 (by omega) hww _ (by omega) (by omega) _ _ _ _ _ _
                 | exact fin false src l2 cl (some w) hsrc hl2 (by omega) hww _ (by omega) (by omega) _ _ _ _ _ _)
            | (refine ws_append rfl (by rw [List.length_map]; omega) ?_
               walk_at "w"
               first
                 | exact fin true src l2 (y + d) none hsrc hl2 (by omega) (.inl rfl) _ (by omega) (by omega) _ _ _ _ _ _
                 | exact fin false src l2 (y + d) none hsrc hl2 (by omega) (.inl rfl) _ (by omega) (by omega) _ _ _ _ _ _
                 | exact fin true src l2 cl none hsrc hl2 (by omega) (.inl rfl) _ (by omega) (by omega) _ _ _ _ _ _
                 | exact fin false src l2 cl none hsrc hl2 (by omega) (.inl rfl) _ (by omega) (by omega) _ _ _ _ _ _)
  · rintro ds' m ⟨gs, hl, h8, hg, hk, m1, m2, d4, d5, d6, d7, d8, d9, rfl⟩
    rw [List.length_range] at *
    refine ws_settle (i := 1) rfl ?_
    walk_at "w"
    exact h gs m ⟨by omega, hg, hk⟩ (by omega) (by omega)
theorem len__law_told : ∀ ds n P X, R__law_told A ds n P X → ds.length = 3 := by rintro ds n P X ⟨_, _, _, rfl, -⟩; rfl
theorem w__law_told (T : TxtC K A) : ∀ Z ds n P, R__law_told A ds n P Z.X → Ws K Z (t__law_told K A) (startD 6 ds) n { nx := fun _ m => P .non m, rt := P } := by
  rintro Z ds n P ⟨gs, l, c, rfl, h⟩
  unfold t__law_told
  walk_at "w"
  refine ws_fort sgD gs (wi_list ?_)
  walk_at "w"
  refine ⟨rfl, fun i ds' m => m = n ∧ ∃ d4, ds' = [some (.lst (gs.map sgD)), some (.int (l : Nat)), some (.int (c : Nat)), some (bD (best (gs.take i) l c)), d4, none], ⟨rfl, _, rfl⟩, ?_, ?_⟩
  · rintro i g ds' m hx ⟨rfl, d4, rfl⟩
    have eb : best (gs.take (i + 1)) l c = if g.ln = l ∧ g.b ≤ c ∧ bet (best (gs.take i) l c) g = true then some g else best (gs.take i) l c := by
      rw [List.take_add_one, hx]
      exact best_snoc _ _ _ _
    walk_at "w"
    refine ix_tup (by decide) (sgL1 g) ?_
    walk_at "w"
    have no : ∀ N : Nd, (∀ d4, N.nx [some (.lst (gs.map sgD)), some (.int (l : Nat)), some (.int (c : Nat)), some (bD (best (gs.take i) l c)), d4, none] m) → Ws K Z tNext [some (.lst (gs.map sgD)), some (.int (l : Nat)), some (.int (c : Nat)), some (bD (best (gs.take i) l c)), some (sgD g), none] m N := fun N hN => ws_next (hN _)
    have ye : ∀ N : Nd, (∀ d4, N.nx [some (.lst (gs.map sgD)), some (.int (l : Nat)), some (.int (c : Nat)), some (sgD g), d4, none] m) → Ws K Z (tAsg (tVar 4) (gName 3)) [some (.lst (gs.map sgD)), some (.int (l : Nat)), some (.int (c : Nat)), some (bD (best (gs.take i) l c)), some (sgD g), none] m N := fun N hN => by
      walk_at "w"
      exact hN _
    by_cases q1 : g.ln = l
    · rw [decide_eq_true (show ((g.ln : Nat) : Int) = ((l : Nat) : Int) by omega), if_pos rfl]
      walk_at "w"
      refine ix_tup (by decide) (sgL2 g) ?_
      walk_at "w"
      by_cases q2 : g.b ≤ c
      · rw [decide_eq_true (show ((g.b : Nat) : Int) ≤ ((c : Nat) : Int) by omega), if_pos rfl]
        walk_at "w"
        rw [nonD_b]
        cases hb : best (gs.take i) l c with
        | none =>
          rw [decide_eq_true rfl, if_pos rfl]
          rw [hb, if_pos ⟨q1, q2, rfl⟩] at eb
          rw [hb] at ye
          refine ye _ fun d4 => ⟨rfl, d4, ?_⟩
          rw [eb]
          rfl
        | some h' =>
          rw [decide_eq_false (by simp), if_neg Bool.false_ne_true]
          rw [hb] at ye no eb
          walk_at "w"
          refine ix_tup (by decide) (sgL2 g) ?_
          walk_at "w"
          refine ix_tup (xs := sgL h') (by decide) (sgL2 h') ?_
          walk_at "w"
          by_cases q3 : h'.b < g.b
          · rw [decide_eq_true (show ((h'.b : Nat) : Int) < ((g.b : Nat) : Int) by omega), if_pos rfl]
            rw [if_pos ⟨q1, q2, decide_eq_true q3⟩] at eb
            refine ye _ fun d4 => ⟨rfl, d4, ?_⟩
            rw [eb]
            rfl
          · rw [decide_eq_false (show ¬ ((h'.b : Nat) : Int) < ((g.b : Nat) : Int) by omega), if_neg Bool.false_ne_true]
            rw [if_neg fun z => q3 (of_decide_eq_true z.2.2)] at eb
            refine no _ fun d4 => ⟨rfl, d4, ?_⟩
            rw [eb]
      · rw [decide_eq_false (show ¬ ((g.b : Nat) : Int) ≤ ((c : Nat) : Int) by omega), if_neg Bool.false_ne_true, if_neg Bool.false_ne_true]
        rw [if_neg fun z => q2 z.2.1] at eb
        refine no _ fun d4 => ⟨rfl, d4, ?_⟩
        rw [eb]
    · rw [decide_eq_false (show ¬ ((g.ln : Nat) : Int) = ((l : Nat) : Int) by omega), if_neg Bool.false_ne_true, if_neg Bool.false_ne_true]
      rw [if_neg fun z => q1 z.1] at eb
      refine no _ fun d4 => ⟨rfl, d4, ?_⟩
      rw [eb]
  · rintro ds' m ⟨rfl, d4, rfl⟩
    rw [List.take_length]
    have hbc := best_is _ gs rfl l c
    unfold tol at h
    walk_at "w"
    rw [nonD_b]
    cases hb : best gs l c with
    | none =>
      rw [decide_eq_true rfl, if_pos rfl]
      rw [hb] at h
      walk_at "w"
      exact h
    | some g =>
      rw [decide_eq_false (by simp), if_neg Bool.false_ne_true]
      rw [hb] at h hbc
      simp only at h hbc
      obtain ⟨_, _, hb3, _⟩ := hbc
      obtain ⟨ln, b, td⟩ := g
      simp only at hb3 h
      match td with
      | none =>
        rw [show bD (some ⟨ln, b, none⟩) = .tup [.str (Str.ofString "gap"), .int (ln : Nat), .int (b : Nat)] from rfl]
        walk_at "w"
        rw [decide_eq_true rfl]
        walk_at "w"
        exact h
      | some (r, ⟨s, l2, c2, none⟩) =>
        rw [show bD (some ⟨ln, b, some (r, ⟨s, l2, c2, none⟩)⟩) = .tup [.str (kD r), .int (ln : Nat), .int (b : Nat), .str s, .int (l2 : Nat), .int (c2 : Nat)] from rfl]
        walk_at "w"
        rw [kD_gap]
        walk_at "w"
        rw [kD_run]
        cases r with
        | true =>
          walk_at "w"
          refine ifRF rfl ?_
          walk_at "w"
          rw [tv_run, tg_some] at h
          rw [show ((c2 : Nat) : Int) + (((c : Nat) : Int) - ((b : Nat) : Int)) = ((c2 + (c - b) : Nat) : Int) by omega]
          exact h
        | false =>
          walk_at "w"
          refine ifRF rfl ?_
          walk_at "w"
          rw [tv_pt, tg_some] at h
          rw [show ((c2 : Nat) : Int) + 0 = ((c2 : Nat) : Int) by omega]
          exact h
      | some (r, ⟨s, l2, c2, some w⟩) =>
        rw [show bD (some ⟨ln, b, some (r, ⟨s, l2, c2, some w⟩)⟩) = .tup [.str (kD r), .int (ln : Nat), .int (b : Nat), .str s, .int (l2 : Nat), .int (c2 : Nat), .str w] from rfl]
        walk_at "w"
        rw [kD_gap]
        walk_at "w"
        rw [kD_run]
        cases r with
        | true =>
          walk_at "w"
          refine ifRT rfl ?_
          walk_at "w"
          rw [tv_run, tg_some] at h
          rw [show ((c2 : Nat) : Int) + (((c : Nat) : Int) - ((b : Nat) : Int)) = ((c2 + (c - b) : Nat) : Int) by omega]
          exact h
        | false =>
          walk_at "w"
          refine ifRT rfl ?_
          walk_at "w"
          rw [tv_pt, tg_some] at h
          rw [show ((c2 : Nat) : Int) + 0 = ((c2 : Nat) : Int) by omega]
          exact h
theorem len__law_values : ∀ ds n P X, R__law_values A ds n P X → ds.length = 2 := by rintro ds n P X ⟨_, _, rfl, -⟩; rfl
theorem w__law_values (T : TxtC K A) : ∀ Z ds n P, R__law_values A ds n P Z.X → Ws K Z (t__law_values K A) (startD 5 ds) n { nx := fun _ m => P .non m, rt := P } := by
  rintro Z ds n P ⟨gs, l, rfl, hl, hb, h⟩
  unfold t__law_values
  walk_at "w"
  refine we_lct sgD (fun g : Sg => if g.ln = l then some (.int (g.b : Nat)) else none) gs (wi_list ?_)
  walk_at "w"
  refine ⟨rfl, by omega, fun g hg => wgc_name (by simp) ?_, ?_⟩
  · walk_at "w"
    refine ix_tup (by decide) (sgL1 g) ?_
    walk_at "w"
    by_cases q : g.ln = l
    · rw [decide_eq_true (show ((g.ln : Nat) : Int) = ((l : Nat) : Int) by omega)]
      refine ⟨rfl, ?_⟩
      rw [if_pos rfl]
      walk_at "w"
      refine ix_tup (by decide) (sgL2 g) ?_
      walk_at "w"
      exact ⟨rfl, if_pos q⟩
    · rw [decide_eq_false (show ¬ ((g.ln : Nat) : Int) = ((l : Nat) : Int) by omega)]
      refine ⟨rfl, ?_⟩
      rw [if_neg Bool.false_ne_true]
      exact if_neg q
  · refine add_lst (by have := List.length_filterMap_le (fun g : Sg => if g.ln = l then some (D.int (g.b : Nat)) else none) gs; simp only [List.length_cons, List.length_nil]; omega) ?_
    have e : [D.int (-1)] ++ gs.filterMap (fun g : Sg => if g.ln = l then some (D.int (g.b : Nat)) else none) = ((-1 : Int) :: gs.filterMap (fun g : Sg => if g.ln = l then some ((g.b : Nat) : Int) else none)).map D.int := by
      rw [List.map_cons, List.map_filterMap]
      show D.int (-1) :: List.filterMap _ gs = D.int (-1) :: List.filterMap _ gs
      refine congrArg (D.int (-1) :: ·) (congrArg (fun f => List.filterMap f gs) (funext fun g => ?_))
      split <;> rfl
    rw [e]
    walk_at "w"
    refine max_ints (by simp) fun m hm hq => ?_
    have ht : m + 5 = ((top gs l + 4 : Nat) : Int) := by
      have h1 := hq (-1) (by simp)
      have hge : ∀ g ∈ gs, g.ln = l → ((g.b : Nat) : Int) ≤ m := fun g hg q => hq _ (List.mem_cons_of_mem _ (List.mem_filterMap.mpr ⟨g, hg, if_pos q⟩))
      rcases List.mem_cons.mp hm with z | z
      · subst z
        rcases top_is gs l with w | ⟨g, hg, q, w⟩
        · rw [w]; rfl
        · have := hge g hg q; omega
      · obtain ⟨g, hg, e⟩ := List.mem_filterMap.mp z
        by_cases q : g.ln = l
        · rw [if_pos q] at e
          have e := Option.some.inj e
          have h2 := top_ge hg q
          rcases top_is gs l with w | ⟨g', hg', q', w⟩
          · omega
          · have := hge g' hg' q'; omega
        · rw [if_neg q] at e; cases e
    have htb : top gs l ≤ 100001 := by
      rcases top_is gs l with w | ⟨g, hg, q, w⟩
      · omega
      · have := hb g hg; omega
    walk_at "w"
    refine we_lcm (fun c : Nat => D.int (c : Nat)) (fun c => tgO (tol gs l c)) (List.range (top gs l + 4)) (wi_range1 ?_)
    walk_at "w"
    rw [ht]
    refine ⟨_, rfl, ⟨by omega, by omega⟩, by rw [rng0_map]; rfl, by rw [List.length_range]; omega, fun c hc => wgc_name (by simp) ?_, h⟩
    walk_at "w"
    exact ⟨gs, l, c, rfl, rfl, rfl⟩
end
end Lw

namespace Lw
open PySem L2 StX DL MP
section
variable {K : PySem.W.Frag} [Tb K] {Z : ZX} {A : Ad}
/-- one step -/
local macro_rules | `(tactic| walk_at "w1") => `(tactic| first
  | with_reducible refine ws_seq ?_
  | ((with_reducible show Ws _ _ (tAsg (tLst tNil) (gName _)) _ _ _); refine ws_setX (wx_lst (wa_nil ⟨Nat.zero_le _, ?_⟩)))
  | ((with_reducible show Ws _ _ (tAsg tDNewK (gName _)) _ _ _); refine ws_setX (wx_dnew ?_))
  | with_reducible refine ws_parX ?_
  | with_reducible refine ws_par3X ?_
  | ((with_reducible show Wx _ _ (tLst tNil) _ _ _); refine wx_lst (wa_nil ⟨Nat.zero_le _, ?_⟩))
  | ((with_reducible show Wx _ _ tDNewK _ _ _); refine wx_dnew ?_)
  | with_reducible refine wx_we ?_
  | with_reducible refine ws_break ?_
  | with_reducible refine ws_cont ?_
  | with_reducible refine ws_retN ?_
  | with_reducible refine ws_if ?_
  | with_reducible refine ws_ret ?_
  | ((fail_if_success (with_reducible show Ws _ _ (tDrop (tBM _ _ _ _ _)) _ _ _)); (with_reducible refine ws_drop ?_))
  | with_reducible refine ws_next ?_
  | with_reducible refine ws_par ?_
  | ((fail_if_success (with_reducible show Ws _ _ (tAsg _ (gSub _ _ _)) _ _ _)); (with_reducible refine ws_asg ?_))
  | with_reducible refine wg_name ?_
  | with_reducible refine we_int ?_
  | with_reducible refine we_bl ?_
  | with_reducible refine we_non ?_
  | with_reducible refine we_str ?_
  | with_reducible refine we_ty ?_
  | with_reducible refine we_cls ?_
  | with_reducible refine we_cmethX ?_
  | with_reducible refine we_cmeth ?_
  | with_reducible refine we_cmethN ?_
  | ((with_reducible show ∃ _, D.str _ = D.str _ ∧ _ ∧ _); refine ⟨_, rfl, ?_, ?_⟩; (focus (first | assumption | omega)))
  | ((with_reducible show We _ _ (tVar _) _ _ _); refine we_var rfl rfl ?_)
  | ((with_reducible show We _ _ (tVar _) _ _ _); refine we_var rfl (mut_td _) ?_)
  | ((with_reducible show We _ _ (tVar _) _ _ _); refine we_var rfl (mut_tg _) ?_)
  | ((with_reducible show We _ _ (tVar _) _ _ _); refine we_var rfl (mut_w _) ?_)
  | ((with_reducible show We _ _ (tVar _) _ _ _); refine we_var rfl (mut_lm _) ?_)
  | ((with_reducible show We _ _ (tVar _) _ _ _); refine we_var rfl (mut_b _) ?_)
  | ((fail_if_success (with_reducible show We _ _ (tOp (rInP _) _ (tVar _)) _ _ _)); with_reducible refine we_op ?_)
  | with_reducible refine we_un ?_
  | with_reducible refine we_lenO ?_
  | with_reducible refine we_cb ?_
  | with_reducible refine we_callX ?_
  | with_reducible refine we_call ?_
  | with_reducible refine we_callNX ?_
  | with_reducible refine we_callN ?_
  | with_reducible refine we_methN ?_
  | with_reducible refine we_callON ?_
  | with_reducible refine we_callOX ?_
  | with_reducible refine ws_raise ?_
  | with_reducible refine we_tup ?_
  | with_reducible refine we_lst ?_
  | with_reducible refine we_sl ?_
  | with_reducible refine we_m1 ?_
  | with_reducible refine we_andV ?_
  | with_reducible refine we_orV ?_
  | with_reducible refine we_notV ?_
  | with_reducible refine we_if ?_
  | with_reducible refine we_chain ?_
  | with_reducible refine we_fld ?_
  | with_reducible refine we_methX ?_
  | with_reducible refine we_meth ?_
  | with_reducible refine we_prop ?_
  | with_reducible refine we_callO' ?_
  | with_reducible refine we_make ?_
  | with_reducible refine wt_test ?_
  | with_reducible refine wt_B ?_
  | with_reducible refine wt_yes ?_
  | with_reducible refine wt_and ?_
  | with_reducible refine wt_or ?_
  | with_reducible refine wt_not ?_
  | with_reducible refine wa_nil ?_
  | with_reducible refine wa_cons ?_
  | with_reducible refine wo_none ?_
  | with_reducible refine wo_some ?_
  | with_reducible refine add_int ?_
  | with_reducible refine sub_int ?_
  | with_reducible refine neg_int ?_
  | ((with_reducible refine mod_int ?_ ?_); (focus (first | assumption | omega)))
  | ((with_reducible refine mul_int ?_ ?_); (focus (first | exact Or.inl ⟨by omega, by omega⟩ | exact Or.inr ⟨by omega, by omega⟩)))
  | ((with_reducible refine fdiv_int ?_ ?_); (focus (exact ⟨by omega, by omega⟩)))
  | ((with_reducible refine pow_int ?_ ?_); (focus (exact ⟨by decide, by decide, by decide⟩)))
  | with_reducible refine is_non ?_
  | with_reducible refine not_non ?_
  | with_reducible refine eq_int ?_
  | with_reducible refine ne_int ?_
  | with_reducible refine eq_pos ?_
  | with_reducible refine ne_pos ?_
  | with_reducible refine ne_nn ?_
  | with_reducible refine ne_np ?_
  | with_reducible refine ne_pn ?_
  | with_reducible refine eq_str ?_
  | with_reducible refine ne_str ?_
  | with_reducible refine eq_bl ?_
  | with_reducible refine ne_bl ?_
  | with_reducible refine lt_int ?_
  | with_reducible refine gt_int ?_
  | with_reducible refine le_int ?_
  | with_reducible refine ge_int ?_
  | with_reducible refine lt_pos ?_
  | with_reducible refine gt_pos ?_
  | with_reducible refine le_pos ?_
  | with_reducible refine ge_pos ?_
  | with_reducible refine int_int ?_
  | with_reducible refine min_int ?_
  | with_reducible refine max_int ?_
  | with_reducible refine len_lst ?_
  | with_reducible refine len_tup ?_
  | ((with_reducible refine len_str ?_ ?_); (focus (first | assumption | omega)))
  | with_reducible refine tuple_lst ?_
  | with_reducible refine tuple_tup ?_
  | with_reducible refine sl_lst ?_
  | with_reducible refine sl_tup ?_
  | ((with_reducible refine sl_str ?_ ?_); (focus (first | assumption | omega)))
  | with_reducible refine mt_countD ?_
  | with_reducible refine mt_rfindD ?_
  | ((with_reducible refine mt_splitD ?_ ?_ ?_); (focus rfl); (focus (first | assumption | omega)))
  | ((with_reducible show Op _ (rIx _) (D.tup _) (D.int _) _); refine ix_tup (by decide) rfl ?_)
  | ((with_reducible show Op _ (rIx _) (D.lst _) (D.int _) _); refine ix_lst (by decide) rfl ?_)
  | ((with_reducible show Cb _ (rIsi _) [D.int _, D.ty _] _); first | refine isiI (r := true) (by decide +kernel) ?_ | refine isiI (r := false) (by decide +kernel) ?_)
  | ((with_reducible show Cb _ (rIsi _) [D.str _, D.ty _] _); first | refine isiS (r := true) (by decide +kernel) ?_ | refine isiS (r := false) (by decide +kernel) ?_)
  | ((with_reducible show Cb _ (rIsi _) [D.tup _, D.ty _] _); first | refine isiT (r := true) (by decide +kernel) ?_ | refine isiT (r := false) (by decide +kernel) ?_)
  | ((with_reducible show Wg _ _ (gTup _ _ _) _ _ _); refine wg_tup rfl rfl ?_)
  | ((with_reducible show Wgs _ _ gNil _ _ _); refine wgs_nil rfl ?_)
  | ((with_reducible show Wgs _ _ (gCons _ _) _ _ _); refine wgs_cons rfl ?_)
  | ((with_reducible show ∃ _, D.bl _ = D.bl _ ∧ _); refine ⟨_, rfl, ?_⟩)
  | ((with_reducible show ∃ _, D.int _ = D.int _ ∧ _); refine ⟨_, rfl, ?_⟩)
  | ((with_reducible show ∃ _, D.str _ = D.str _ ∧ _); refine ⟨_, rfl, ?_⟩)
  | ((with_reducible show ∃ _, D.tup _ = D.tup _ ∧ _); refine ⟨_, rfl, ?_⟩)
  | ((with_reducible show ∃ _, D.lst _ = D.lst _ ∧ _); refine ⟨_, rfl, ?_⟩)
  | with_reducible refine wt_tru ?_
  | with_reducible refine list_lst ?_
  | with_reducible refine list_tup ?_
  | with_reducible refine we_makeS ?_
  | with_reducible refine we_makeR ?_
  | with_reducible refine we_smethS ?_
  | with_reducible refine iteNT ?_
  | with_reducible refine iteNF ?_
  | ((with_reducible show if true = true then _ else _); rw [if_pos rfl])
  | ((with_reducible show if false = true then _ else _); rw [if_neg Bool.false_ne_true])
  | ((with_reducible show List.length _ ≤ 1000000 ∧ _); refine ⟨?_, ?_⟩; (focus (simp; done)))
  | fail "no step")
local macro_rules | `(tactic| walk_at "w") => `(tactic| repeat (walk_at "w1"))
local macro_rules | `(tactic| walk_at "ws") => `(tactic| repeat ((fail_if_success (with_reducible show We _ _ (tChain _ _ _ _ _) _ _ _)); (fail_if_success (with_reducible show Wt _ _ (tAnd _ _) _ _ _)); (fail_if_success (with_reducible show We _ _ (tOrT _ _ _) _ _ _)); walk_at "w1"))

def sgP (g : Sg) : PyData := match g.td with
  | none => .tuple [.str (Str.ofString "gap"), .int (g.ln : Nat), .int (g.b : Nat)]
  | some (r, t) => .tuple ([.str (kD r), .int (g.ln : Nat), .int (g.b : Nat), .str t.s, .int (t.l : Nat), .int (t.c : Nat)] ++ match t.w with
    | none => []
    | some x => [.str x])
theorem pd_sg (g : Sg) : pd (sgD g) = some (sgP g) := by
  obtain ⟨l, b, td⟩ := g
  match td with
  | none => rfl
  | some (r, ⟨s, l2, c, none⟩) => rfl
  | some (r, ⟨s, l2, c, some x⟩) => rfl
theorem plain_sg (g : Sg) : (sgP g).plain = true := by
  obtain ⟨l, b, td⟩ := g
  match td with
  | none => rfl
  | some (r, ⟨s, l2, c, none⟩) => rfl
  | some (r, ⟨s, l2, c, some x⟩) => rfl
theorem depth_sg (g : Sg) : (sgP g).depth ≤ 3 := by
  obtain ⟨l, b, td⟩ := g
  match td with
  | none => simp [sgP, PyData.depth, PyData.depthAll]
  | some (r, ⟨s, l2, c, none⟩) => simp [sgP, PyData.depth, PyData.depthAll]
  | some (r, ⟨s, l2, c, some x⟩) => simp [sgP, PyData.depth, PyData.depthAll]
theorem kD_inj {r r' : Bool} : kD r = kD r' ↔ r = r' := by
  cases r <;> cases r' <;> simp [kD, k_pr, k_rp]
theorem eqv_sg (g g' : Sg) : PyData.eqv (sgP g) (sgP g') = true ↔ g = g' := by
  obtain ⟨l, b, td⟩ := g
  obtain ⟨l', b', td'⟩ := g'
  match td, td' with
  | none, none => simp [sgP, PyData.eqv, PyData.eqvAll, b_eq]; omega
  | none, some (r, ⟨s, l2, c, none⟩) => simp [sgP, PyData.eqv, PyData.eqvAll]
  | none, some (r, ⟨s, l2, c, some x⟩) => simp [sgP, PyData.eqv, PyData.eqvAll]
  | some (r, ⟨s, l2, c, none⟩), none => simp [sgP, PyData.eqv, PyData.eqvAll]
  | some (r, ⟨s, l2, c, some x⟩), none => simp [sgP, PyData.eqv, PyData.eqvAll]
  | some (r, ⟨s, l2, c, none⟩), some (r', ⟨s', l2', c', none⟩) => simp [sgP, PyData.eqv, PyData.eqvAll, b_eq, kD_inj]; constructor <;> (rintro ⟨h1, h2, h3, h4, h5, h6⟩; simp [*] <;> omega)
  | some (r, ⟨s, l2, c, some x⟩), some (r', ⟨s', l2', c', some x'⟩) => simp [sgP, PyData.eqv, PyData.eqvAll, b_eq, kD_inj]; constructor <;> (rintro ⟨h1, h2, h3, h4, h5, h6, h7⟩; simp [*] <;> omega)
  | some (r, ⟨s, l2, c, none⟩), some (r', ⟨s', l2', c', some x'⟩) => simp [sgP, PyData.eqv, PyData.eqvAll]
  | some (r, ⟨s, l2, c, some x⟩), some (r', ⟨s', l2', c', none⟩) => simp [sgP, PyData.eqv, PyData.eqvAll]
theorem eqv_sgs (xs ys : List Sg) : PyData.eqvAll (xs.map sgP) (ys.map sgP) = decide (xs = ys) := by
  rw [Bool.eq_iff_iff, eqvm, decide_eq_true_eq]
  constructor
  · rintro ⟨h1, h2⟩
    refine List.ext_getElem h1 fun i q1 q2 => ?_
    exact (eqv_sg _ _).mp (h2 i _ _ (List.getElem?_eq_getElem q1) (List.getElem?_eq_getElem q2))
  · rintro rfl
    exact ⟨rfl, fun i x y hx hy => by rw [hx] at hy; cases hy; exact (eqv_sg _ _).mpr rfl⟩
theorem eq_sgsT {P : D → Prop} {xs ys : List Sg} (h : P (.bl (decide (xs = ys)))) : Op K (rEqP K) (.tup (xs.map sgD)) (.tup (ys.map sgD)) P := by
  refine eqP (d := .tuple (xs.map sgP)) (e := .tuple (ys.map sgP)) (by rw [pd, pdsm sgD sgP pd_sg]; rfl) (by rw [pd, pdsm sgD sgP pd_sg]; rfl) (by rw [PyData.plain]; exact plainm sgP plain_sg xs) (by rw [PyData.plain]; exact plainm sgP plain_sg ys) (by rw [PyData.depth]; have := depthm sgP 3 depth_sg xs; omega) ?_
  rw [show PyData.eqv (.tuple (xs.map sgP)) (.tuple (ys.map sgP)) = PyData.eqvAll (xs.map sgP) (ys.map sgP) by simp [PyData.eqv], eqv_sgs]
  exact h
theorem len_Map_eq : ∀ ds n P X, R_Map_eq A ds n P X → ds.length = 2 := by rintro ds n P X ⟨_, _, rfl, -⟩; rfl
theorem w_Map_eq (T : TxtC K A) : ∀ Z ds n P, R_Map_eq A ds n P Z.X → Ws K Z (t_Map_eq K A) (startD 2 ds) n { nx := fun _ m => P .non m, rt := P } := by
  rintro Z ds n P ⟨R, R', rfl, h⟩
  unfold t_Map_eq
  walk_at "w"
  refine isiC (.inr ⟨_, _, rfl, rfl, T.ty_Map⟩) T.ks_Map ?_
  walk_at "w"
  refine ⟨_, _, _, rfl, T.cl_Map, T.na_Map__pieces, rfl, ?_⟩
  walk_at "w"
  refine ⟨_, _, _, rfl, T.cl_Map, T.na_Map__pieces, rfl, ?_⟩
  exact eq_sgsT h
theorem vals_at {v : Nat → Option Tg} {N j : Nat} (h : j < N) : ((List.range N).map fun c => tgO (v c))[j]? = some (tgO (v j)) := by
  rw [List.getElem?_map, List.getElem?_range h]; rfl
theorem len__law_length : ∀ ds n P X, R__law_length A ds n P X → ds.length = 3 := by rintro ds n P X ⟨_, _, _, _, _, rfl, -⟩; rfl
theorem w__law_length (T : TxtC K A) : ∀ Z ds n P, R__law_length A ds n P Z.X → Ws K Z (t__law_length K A) (startD 5 ds) n { nx := fun _ m => P .non m, rt := P } := by
  rintro Z ds n P ⟨v, N, t, a, st, rfl, hst, ha, hN, hv, h⟩
  unfold t__law_length
  walk_at "w"
  refine ix_lst (n := 0) (d := tgO (v a)) (by omega) (by rw [Int.toNat_natCast]; exact vals_at ha) ?_
  rw [hv]
  walk_at "w"
  refine ws_while (fun m ds' n' => n' = n ∧ ∃ j : Nat, m = N - (a + j) ∧ 1 ≤ j ∧ a + j ≤ N ∧ (∀ c, a ≤ c → c < a + j → v c = some (adv t (st * (c - a)))) ∧ ds' = [some (valsD v N), some (.int (a : Nat)), some (.int (st : Nat)), some (tgO (some t)), some (.int (j : Nat))]) ⟨_, rfl, 1, rfl, Nat.le_refl _, by omega, fun c h1 h2 => by rw [show c = a by omega, hv, Nat.sub_self, Nat.mul_zero, adv0], rfl⟩ ?_
  rintro m ds' n' ⟨rfl, j, rfl, h1, h2, h3, rfl⟩
  walk_at "w"
  rw [List.length_map, List.length_range]
  by_cases q : a + j < N
  · rw [decide_eq_true (show ((a : Nat) : Int) + ((j : Nat) : Int) < ((N : Nat) : Int) by omega), if_pos rfl]
    walk_at "w"
    rw [show ((a : Nat) : Int) + ((j : Nat) : Int) = ((a + j : Nat) : Int) by omega]
    refine ix_lst (n := 0) (d := tgO (v (a + j))) (by omega) (by rw [Int.toNat_natCast]; exact vals_at q) ?_
    rw [tg_some] at *
    walk_at "w"
    rw [show D.tup [D.str t.s, D.int (t.l : Nat), D.int (((t.c : Nat) : Int) + ((st : Nat) : Int) * ((j : Nat) : Int)), wD t.w] = tgO (some (adv t (st * j))) by
      rw [show ((t.c : Nat) : Int) + ((st : Nat) : Int) * ((j : Nat) : Int) = ((t.c + st * j : Nat) : Int) by rw [Int.natCast_add, Int.natCast_mul]]
      rfl]
    refine ne_tg ?_
    refine ⟨_, rfl, ?_⟩
    by_cases q2 : v (a + j) = some (adv t (st * j))
    · rw [decide_eq_true q2]
      rw [if_neg (by decide)]
      walk_at "w"
      refine ⟨_, by omega, rfl, j + 1, rfl, by omega, by omega, fun c c1 c2 => ?_, rfl⟩
      by_cases z : c = a + j
      · rw [z, q2, Nat.add_sub_cancel_left]
      · exact h3 c c1 (by omega)
    · rw [decide_eq_false q2]
      rw [if_pos (by decide)]
      walk_at "w"
      exact h (some j) ⟨h1, q, h3, q2⟩
  · rw [decide_eq_false (show ¬ ((a : Nat) : Int) + ((j : Nat) : Int) < ((N : Nat) : Int) by omega), if_neg Bool.false_ne_true]
    walk_at "w"
    exact h none fun c q1 q2 => h3 c q1 (by omega)
theorem pieces_tail {Z : ZX} {n : Nat} {N : Nd} {l a kk : Nat} {vd : D} {xs : List D} {t : Tg} {r1 r0 : Option Nat} {isr : Bool} {d9 : Option D} (hvd : isMut vd = false) (hx : xs.length < 1000000) (hk : (kk == 1) = isr)
    (h : ∀ e9, N.nx [some (.int (l : Nat)), some vd, some (.mls (xs ++ [sgD (pcS l ⟨a, kk, some t⟩)])), some (lmD ((if isr = true then r1 else r0).map (a + ·))), some (tgO (some t)), some (lmD (if isr = true then r1 else r0)), some (lmD r1), some (lmD r0), some (.bl isr), e9] n) :
    Ws K Z (tSeq (tAsg (tOp (rAddU K) (tTup (tCons (tVar 0) (tCons (tVar 3) (tCons (tOp (rIx K) (tVar 4) (tC (.int 0))) (tCons (tOp (rIx K) (tVar 4) (tC (.int 1))) (tCons (tOp (rIx K) (tVar 4) (tC (.int 2))) tNil)))))) (tIf (tTest (tOp (rNotN') (tOp (rIx K) (tVar 4) (tC (.int 3))) (tC .non))) (tTup (tCons (tOp (rIx K) (tVar 4) (tC (.int 3))) tNil)) (tTup tNil))) (gName 9))
    (tSeq (tDrop (tBM K "list" rAppend (tVar 2) (tCons (tOp (rAddU K) (tIf (tTru K (tVar 8)) (tTup (tCons (tC (.str (PySem.Str.ofString "run"))) tNil)) (tTup (tCons (tC (.str (PySem.Str.ofString "point"))) tNil))) (tVar 9)) tNil)))
    (tSeq (tAsg (tIf (tTru K (tVar 8)) (tVar 6) (tVar 7)) (gName 5))
    (tAsg (tIf (tTest (tOp (rIsN') (tVar 5) (tC .non))) (tC .non) (tOp (rAddU K) (tVar 3) (tVar 5))) (gName 3))))) [some (.int (l : Nat)), some vd, some (.mls xs), some (.int (a : Nat)), some (tgO (some t)), some (.int 1), some (lmD r1), some (lmD r0), some (.bl isr), d9] n N := by
  obtain ⟨s, l2, c2, w⟩ := t
  have hsg : sgD (pcS l ⟨a, kk, some ⟨s, l2, c2, w⟩⟩) = .tup ([.str (kD isr)] ++ ([.int (l : Nat), .int (a : Nat), .str s, .int (l2 : Nat), .int (c2 : Nat)] ++ wLs w)) := by
    subst hk; rfl
  rw [hsg] at h
  have mny : ∀ r : Option Nat, isMut (lmD r) = false := mut_lm
  have fin : ∀ e9, Ws K Z (tAsg (tIf (tTest (tOp (rIsN') (tVar 5) (tC .non))) (tC .non) (tOp (rAddU K) (tVar 3) (tVar 5))) (gName 3)) [some (.int (l : Nat)), some vd, some (.mls (xs ++ [.tup ([.str (kD isr)] ++ ([.int (l : Nat), .int (a : Nat), .str s, .int (l2 : Nat), .int (c2 : Nat)] ++ wLs w))])), some (.int (a : Nat)), some (tgO (some ⟨s, l2, c2, w⟩)), some (lmD (if isr = true then r1 else r0)), some (lmD r1), some (lmD r0), some (.bl isr), e9] n N := fun e9 => by
    have h := h e9
    walk_at "w"
    rw [nonD_lm]
    cases q : (if isr = true then r1 else r0) with
    | none =>
      rw [q] at h
      rw [decide_eq_true rfl, if_pos rfl]
      walk_at "w"
      exact h
    | some m =>
      rw [q] at h
      rw [decide_eq_false (by simp), if_neg Bool.false_ne_true, lm_some]
      walk_at "w"
      rw [show ((a : Nat) : Int) + ((m : Nat) : Int) = ((a + m : Nat) : Int) by omega]
      exact h
  have mid : ∀ e9, Ws K Z (tSeq (tAsg (tIf (tTru K (tVar 8)) (tVar 6) (tVar 7)) (gName 5))
    (tAsg (tIf (tTest (tOp (rIsN') (tVar 5) (tC .non))) (tC .non) (tOp (rAddU K) (tVar 3) (tVar 5))) (gName 3))) [some (.int (l : Nat)), some vd, some (.mls (xs ++ [.tup ([.str (kD isr)] ++ ([.int (l : Nat), .int (a : Nat), .str s, .int (l2 : Nat), .int (c2 : Nat)] ++ wLs w))])), some (.int (a : Nat)), some (tgO (some ⟨s, l2, c2, w⟩)), some (.int 1), some (lmD r1), some (lmD r0), some (.bl isr), e9] n N := fun e9 => by
    refine ws_seq (ws_asg (we_if (wt_tru (we_var rfl rfl ⟨isr, rfl, ?_⟩))))
    cases isr with
    | true =>
      rw [if_pos rfl]
      exact we_var rfl (mut_lm r1) (wg_name (fin e9))
    | false =>
      rw [if_neg Bool.false_ne_true]
      exact we_var rfl (mut_lm r0) (wg_name (fin e9))
  have app : ∀ u : List D, u = [.int (l : Nat), .int (a : Nat), .str s, .int (l2 : Nat), .int (c2 : Nat)] ++ wLs w → Ws K Z (tSeq (tDrop (tBM K "list" rAppend (tVar 2) (tCons (tOp (rAddU K) (tIf (tTru K (tVar 8)) (tTup (tCons (tC (.str (PySem.Str.ofString "run"))) tNil)) (tTup (tCons (tC (.str (PySem.Str.ofString "point"))) tNil))) (tVar 9)) tNil)))
    (tSeq (tAsg (tIf (tTru K (tVar 8)) (tVar 6) (tVar 7)) (gName 5))
    (tAsg (tIf (tTest (tOp (rIsN') (tVar 5) (tC .non))) (tC .non) (tOp (rAddU K) (tVar 3) (tVar 5))) (gName 3)))) [some (.int (l : Nat)), some vd, some (.mls xs), some (.int (a : Nat)), some (tgO (some ⟨s, l2, c2, w⟩)), some (.int 1), some (lmD r1), some (lmD r0), some (.bl isr), some (.tup u)] n N := fun u hu => by
    have hul : u.length ≤ 6 := by
      rw [hu]
      cases w <;> simp [wLs]
    refine ws_seq (ws_append rfl hx ?_)
    refine we_op (we_if (wt_tru (we_var rfl rfl ⟨isr, rfl, ?_⟩)))
    cases isr with
    | true =>
      rw [if_pos rfl]
      walk_at "w"
      refine add_tup (by simp; omega) ?_
      rw [hu]
      exact mid _
    | false =>
      rw [if_neg Bool.false_ne_true]
      walk_at "w"
      refine add_tup (by simp; omega) ?_
      rw [hu]
      exact mid _
  refine ws_seq ?_
  rw [tg_some] at app ⊢
  refine ws_asg ?_
  walk_at "w"
  rw [nonD_w]
  cases w with
  | none =>
    rw [decide_eq_true rfl, if_neg (by decide)]
    walk_at "w"
    refine add_tup (by simp) ?_
    refine wg_name ?_
    exact app _ rfl
  | some x =>
    rw [decide_eq_false (by simp), if_pos (by decide)]
    rw [w_some] at app ⊢
    walk_at "w"
    refine add_tup (by simp) ?_
    refine wg_name ?_
    exact app _ rfl
theorem asc_len : ∀ {ps : List Pc} {N : Nat}, (ps.map (·.b)).Pairwise (· < ·) → (∀ p ∈ ps, p.b < N) → ps.length ≤ N := by
  intro ps N h1 h2
  have key : ∀ (l : List Nat) (lo N : Nat), l.Pairwise (· < ·) → (∀ x ∈ l, lo ≤ x ∧ x < N) → l.length ≤ N - lo := by
    intro l
    induction l with
    | nil => intro lo N _ _; exact Nat.zero_le _
    | cons x l ih =>
      intro lo N h1 h2
      rw [List.pairwise_cons] at h1
      have hx := h2 x List.mem_cons_self
      have := ih (x + 1) N h1.2 fun y hy => ⟨h1.1 y hy, (h2 y (List.mem_cons_of_mem _ hy)).2⟩
      rw [List.length_cons]
      omega
  have := key (ps.map (·.b)) 0 N h1 fun x hx => by
    obtain ⟨p, hp, rfl⟩ := List.mem_map.mp hx
    exact ⟨Nat.zero_le _, h2 p hp⟩
  rw [List.length_map] at this
  omega
theorem len__law_pieces : ∀ ds n P X, R__law_pieces A ds n P X → ds.length = 2 := by rintro ds n P X ⟨_, _, _, rfl, -⟩; rfl
theorem w__law_pieces (T : TxtC K A) : ∀ Z ds n P, R__law_pieces A ds n P Z.X → Ws K Z (t__law_pieces K A) (startD 10 ds) n { nx := fun _ m => P .non m, rt := P } := by
  rintro Z ds n P ⟨v, N, l, rfl, h3, hN, hend, h⟩
  unfold t__law_pieces
  walk_at "w"
  refine ws_while (fun m ds' n' => n' = n ∧ ∃ (pl : Option Nat) (ps : List Pc), (match pl with | some a => Stand v N a ps ∧ m = N + 1 - a | none => ps = allN v N ∧ m = 0) ∧ ∃ d4 d5 d6 d7 d8 d9, ds' = [some (.int (l : Nat)), some (valsD v N), some (.mls (ps.map fun p => sgD (pcS l p))), some (lmD pl), d4, d5, d6, d7, d8, d9]) ⟨N + 1, rfl, some 0, [], ⟨stand0 v N, rfl⟩, _, _, _, _, _, _, rfl⟩ ?_
  rintro m ds' n' ⟨rfl, pl, ps, hp, d4, d5, d6, d7, d8, d9, rfl⟩
  walk_at "w"
  rw [nonD_lm]
  cases pl with
  | none =>
    simp only at hp
    rw [decide_eq_true rfl]
    rw [if_neg (by decide), if_neg (by decide)]
    refine ws_settle (i := 2) rfl ?_
    walk_at "w"
    rw [hp.1]
    exact h
  | some a =>
    simp only at hp
    obtain ⟨hs, rfl⟩ := hp
    rw [decide_eq_false (by simp), if_pos (by decide), lm_some]
    walk_at "w"
    rw [List.length_map, List.length_range]
    by_cases ha : a < N
    · rw [decide_eq_true (show ((a : Nat) : Int) < ((N : Nat) : Int) by omega), if_pos rfl]
      walk_at "w"
      refine ix_lst (n := 0) (d := tgO (v a)) (by omega) (by rw [Int.toNat_natCast]; exact vals_at ha) ?_
      walk_at "w"
      rw [nonD_tg]
      have hpl : ps.length ≤ N := by
        rcases Nat.eq_zero_or_pos a with z | z
        · rw [hs.zero z]; exact Nat.zero_le _
        · rw [hs.got z]
          have := asc_len (ascN (f := v) a).1 (ascN (f := v) a).2
          have := hs.le
          omega
      cases hv : v a with
      | none =>
        rw [decide_eq_true rfl, if_pos rfl]
        have exit : ∀ (j : Nat) (Nd' : Nd), 1 ≤ j → a + j ≤ N → (∀ c, a ≤ c → c < a + j → v c = none) → (a + j < N → v (a + j) ≠ none) →
            (∀ ps' e4 e5 e6 e7 e8 e9, Stand v N (a + j) ps' → Nd'.ct [some (.int (l : Nat)), some (valsD v N), some (.mls (ps'.map fun p => sgD (pcS l p))), some (.int ((a + j : Nat) : Int)), e4, e5, e6, e7, e8, e9] n') →
            Ws K Z (tSeq (tIfS (tTest (tOp (rNeP K) (tVar 2) (tLst tNil))) (tDrop (tBM K "list" rAppend (tVar 2) (tCons (tTup (tCons (tC (.str (PySem.Str.ofString "gap"))) (tCons (tVar 0) (tCons (tVar 3) tNil)))) tNil))) tNext)
              (tSeq (tAsg (tOp (rAddU K) (tVar 3) (tVar 5)) (gName 3)) tCont)) [some (.int (l : Nat)), some (valsD v N), some (.mls (ps.map fun p => sgD (pcS l p))), some (.int (a : Nat)), some (tgO none), some (.int (j : Nat)), d6, d7, d8, d9] n' Nd' := fun j Nd' j1 j2 j3 j4 hct => by
          have last : ∀ ps', Stand v N (a + j) ps' → Ws K Z (tSeq (tAsg (tOp (rAddU K) (tVar 3) (tVar 5)) (gName 3)) tCont) [some (.int (l : Nat)), some (valsD v N), some (.mls (ps'.map fun p => sgD (pcS l p))), some (.int (a : Nat)), some (tgO none), some (.int (j : Nat)), d6, d7, d8, d9] n' Nd' := fun ps' hs' => by
            walk_at "w"
            have := hct ps' (some (tgO none)) (some (.int (j : Nat))) d6 d7 d8 d9 hs'
            rw [show ((a + j : Nat) : Int) = ((a : Nat) : Int) + ((j : Nat) : Int) by omega] at this
            exact this
          have gv : vld v a (a + j) := .inl j3
          have gnv : a + j < N → ¬ vld v a (a + j + 1) := fun hlt z => by
            rcases z with z | ⟨t, z⟩ | ⟨t, z⟩
            · exact j4 hlt (z (a + j) (by omega) (by omega))
            · rw [z a (Nat.le_refl _) (by omega)] at hv; cases hv
            · rw [z a (Nat.le_refl _) (by omega)] at hv; cases hv
          refine ws_seq (ws_if (wt_test ?_))
          refine we_neM0 rfl (pdsm (fun p => sgD (pcS l p)) (fun p => sgP (pcS l p)) (fun p => pd_sg _) ps) (plainm _ (fun p => plain_sg _) ps) (Nat.le_trans (depthm (fun p => sgP (pcS l p)) 3 (fun p => depth_sg _) ps) (by decide)) ?_
          refine ⟨_, rfl, ?_⟩
          rcases Nat.eq_zero_or_pos a with z | z
          · have e : ps = [] := hs.zero z
            rw [decide_eq_false (by rw [e]; simp), if_neg Bool.false_ne_true]
            refine ws_next (last ps ?_)
            have hs0 : Stand v N 0 ps := z ▸ hs
            have := hs0.gap0 (e := a + j) (by omega) j2 (fun c hc => j3 c (by omega) hc) j4
            exact this
          · have hne := hs.ne z ha hv
            rw [decide_eq_true (by simpa using hne), if_pos rfl]
            walk_at "w"
            refine ws_append rfl (by rw [List.length_map]; omega) ?_
            have hs' := hs.next (e := a + j) (by omega) j2 (.inl z) gv gnv
            have hl' := last _ hs'
            rw [List.map_append] at hl'
            have ek : kOf v a (a + j) = 0 := by unfold kOf; rw [hv]
            rw [ek, hv] at hl'
            refine we_tup ?_
            refine wa_cons (we_str ?_)
            refine wa_cons (we_var rfl rfl ?_)
            refine wa_cons (we_var rfl rfl ?_)
            refine wa_nil ⟨by simp, ?_⟩
            exact hl'
        refine ws_seq (ws_while (fun m2 ds' n2 => n2 = n' ∧ ∃ j : Nat, m2 = N - (a + j) ∧ 1 ≤ j ∧ a + j ≤ N ∧ (∀ c, a ≤ c → c < a + j → v c = none) ∧ ds' = [some (.int (l : Nat)), some (valsD v N), some (.mls (ps.map fun p => sgD (pcS l p))), some (.int (a : Nat)), some (tgO none), some (.int (j : Nat)), d6, d7, d8, d9]) ⟨_, rfl, 1, rfl, Nat.le_refl _, by omega, fun c h1 h2 => by rw [show c = a by omega, hv], rfl⟩ ?_)
        rintro m2 ds' n2 ⟨rfl, j, rfl, j1, j2, j3, rfl⟩
        have hct : ∀ ps' e4 e5 e6 e7 e8 e9, Stand v N (a + j) ps' → ∃ m', m' < N + 1 - a ∧ n2 = n2 ∧ ∃ (pl : Option Nat) (ps : List Pc), (match pl with | some a => Stand v N a ps ∧ m' = N + 1 - a | none => ps = allN v N ∧ m' = 0) ∧ ∃ d4 d5 d6 d7 d8 d9, ([some (.int (l : Nat)), some (valsD v N), some (.mls (ps'.map fun p => sgD (pcS l p))), some (.int ((a + j : Nat) : Int)), e4, e5, e6, e7, e8, e9] : DS) = [some (.int (l : Nat)), some (valsD v N), some (.mls (ps.map fun p => sgD (pcS l p))), some (lmD pl), d4, d5, d6, d7, d8, d9] := fun ps' e4 e5 e6 e7 e8 e9 hs' => ⟨N + 1 - (a + j), by omega, rfl, some (a + j), ps', ⟨hs', rfl⟩, e4, e5, e6, e7, e8, e9, rfl⟩
        walk_at "w"
        rw [List.length_map, List.length_range]
        by_cases q : a + j < N
        · rw [decide_eq_true (show ((a : Nat) : Int) + ((j : Nat) : Int) < ((N : Nat) : Int) by omega), if_pos rfl]
          walk_at "w"
          rw [show ((a : Nat) : Int) + ((j : Nat) : Int) = ((a + j : Nat) : Int) by omega]
          refine ix_lst (n := 0) (d := tgO (v (a + j))) (by omega) (by rw [Int.toNat_natCast]; exact vals_at q) ?_
          walk_at "w"
          rw [nonD_tg]
          by_cases q2 : v (a + j) = none
          · rw [decide_eq_true q2, if_pos rfl]
            walk_at "w"
            refine ⟨_, by omega, rfl, j + 1, rfl, by omega, by omega, fun c c1 c2 => ?_, rfl⟩
            by_cases z : c = a + j
            · rw [z, q2]
            · exact j3 c c1 (by omega)
          · rw [decide_eq_false q2, if_neg Bool.false_ne_true]
            refine exit j _ j1 j2 j3 (fun _ => q2) ?_
            exact hct
        · rw [decide_eq_false (show ¬ ((a : Nat) : Int) + ((j : Nat) : Int) < ((N : Nat) : Int) by omega), if_neg Bool.false_ne_true, if_neg Bool.false_ne_true]
          refine exit j _ j1 j2 j3 (fun z => absurd z q) ?_
          exact hct
      | some t =>
        rw [decide_eq_false (by simp), if_neg Bool.false_ne_true]
        have hl2 := hs.last2 ha h3 hend
        have a0 : 0 < a ∨ v a ≠ none := .inr (by rw [hv]; simp)
        have nxt : ∀ (e kk : Nat), a < e → e ≤ N → vld v a e → (e < N → ¬ vld v a (e + 1)) → kOf v a e = kk → Stand v N e (ps ++ [⟨a, kk, some t⟩]) := fun e kk q1 q2 q3 q4 q5 => by
          have := hs.next q1 q2 a0 q3 q4
          rw [q5, hv] at this
          exact this
        have goN : ∀ kk, kOf v a N = kk → vld v a N → ∀ e4 e5 e6 e7 e8 e9, ∃ m', m' < N + 1 - a ∧ n' = n' ∧ ∃ (pl : Option Nat) (ps' : List Pc), (match pl with | some a => Stand v N a ps' ∧ m' = N + 1 - a | none => ps' = allN v N ∧ m' = 0) ∧ ∃ d4 d5 d6 d7 d8 d9, ([some (.int (l : Nat)), some (valsD v N), some (.mls ((ps.map fun p => sgD (pcS l p)) ++ [sgD (pcS l ⟨a, kk, some t⟩)])), some (lmD none), e4, e5, e6, e7, e8, e9] : DS) = [some (.int (l : Nat)), some (valsD v N), some (.mls (ps'.map fun p => sgD (pcS l p))), some (lmD pl), d4, d5, d6, d7, d8, d9] := fun kk hk hvl e4 e5 e6 e7 e8 e9 => by
          have := (nxt N kk ha (Nat.le_refl _) hvl (fun z => absurd z (Nat.lt_irrefl _)) hk).got (by omega)
          refine ⟨0, by omega, rfl, none, ps ++ [⟨a, kk, some t⟩], ⟨this, rfl⟩, e4, e5, e6, e7, e8, e9, ?_⟩
          rw [List.map_append]
          rfl
        have goS : ∀ e kk, a < e → e ≤ N → vld v a e → (e < N → ¬ vld v a (e + 1)) → kOf v a e = kk → ∀ e4 e5 e6 e7 e8 e9, ∃ m', m' < N + 1 - a ∧ n' = n' ∧ ∃ (pl : Option Nat) (ps' : List Pc), (match pl with | some a => Stand v N a ps' ∧ m' = N + 1 - a | none => ps' = allN v N ∧ m' = 0) ∧ ∃ d4 d5 d6 d7 d8 d9, ([some (.int (l : Nat)), some (valsD v N), some (.mls ((ps.map fun p => sgD (pcS l p)) ++ [sgD (pcS l ⟨a, kk, some t⟩)])), some (lmD (some e)), e4, e5, e6, e7, e8, e9] : DS) = [some (.int (l : Nat)), some (valsD v N), some (.mls (ps'.map fun p => sgD (pcS l p))), some (lmD pl), d4, d5, d6, d7, d8, d9] := fun e kk q1 q2 q3 q4 q5 e4 e5 e6 e7 e8 e9 => by
          refine ⟨N + 1 - e, by omega, rfl, some e, ps ++ [⟨a, kk, some t⟩], ⟨nxt e kk q1 q2 q3 q4 q5, rfl⟩, e4, e5, e6, e7, e8, e9, ?_⟩
          rw [List.map_append]
          rfl
        have hpx : (ps.map fun p => sgD (pcS l p)).length < 1000000 := by rw [List.length_map]; omega
        have v0 : ∀ {c}, a ≤ c → v c = some (adv t (0 * (c - a))) → v c = some t := fun _ z => by rw [Nat.zero_mul, adv0] at z; exact z
        walk_at "w"
        refine ⟨v, N, t, a, 1, rfl, by omega, ha, hN, hv, fun r1 hr1 => ?_⟩
        walk_at "w"
        refine ⟨v, N, t, a, 0, rfl, by omega, ha, hN, hv, fun r0 hr0 => ?_⟩
        walk_at "w"
        rw [nonD_lm]
        cases r0 with
        | none =>
          rw [decide_eq_true rfl, if_neg (by decide)]
          have hc : ∀ c, a ≤ c → c < N → v c = some t := fun c q1 q2 => v0 q1 (hr0 c q1 q2)
          refine wg_name (pieces_tail (kk := 2) (isr := false) (r1 := r1) (r0 := none) rfl hpx rfl fun e9 => ?_)
          exact goN 2 (by unfold kOf; rw [hv]; exact if_pos ⟨by omega, hc (a + 1) (by omega) (by omega)⟩) (.inr (.inr ⟨t, hc⟩)) _ _ _ _ _ _
        | some q0 =>
          rw [decide_eq_false (by simp), if_pos (by decide)]
          obtain ⟨q01, q02, q03, q04⟩ := hr0
          have qc : ∀ c, a ≤ c → c < a + q0 → v c = some t := fun c z1 z2 => v0 z1 (q03 c z1 z2)
          have qn : v (a + q0) ≠ some t := fun z => q04 (by rw [z, Nat.zero_mul, adv0])
          walk_at "w"
          rw [nonD_lm]
          cases r1 with
          | none =>
            rw [decide_eq_true rfl, if_pos rfl]
            have hc : ∀ c, a ≤ c → c < N → v c = some (adv t (c - a)) := fun c z1 z2 => by have := hr1 c z1 z2; rwa [Nat.one_mul] at this
            refine wg_name (pieces_tail (kk := 1) (isr := true) (r1 := none) (r0 := some q0) rfl hpx rfl fun e9 => ?_)
            refine goN 1 ?_ (.inr (.inl ⟨t, hc⟩)) _ _ _ _ _ _
            unfold kOf
            rw [hv]
            refine if_neg fun z => ?_
            have := hc (a + 1) (by omega) (by omega)
            rw [z.2, show a + 1 - a = 1 by omega] at this
            exact adv_ne (by omega) (Option.some.inj this).symm
          | some m1 =>
            obtain ⟨m01, m02, m03, m04⟩ := hr1
            have mc : ∀ c, a ≤ c → c < a + m1 → v c = some (adv t (c - a)) := fun c z1 z2 => by have := m03 c z1 z2; rwa [Nat.one_mul] at this
            have mn : v (a + m1) ≠ some (adv t m1) := fun z => m04 (by rw [z, Nat.one_mul])
            rw [decide_eq_false (by simp), if_neg Bool.false_ne_true, lm_some, lm_some]
            have go : ∀ isr : Bool, isr = decide (((q0 : Nat) : Int) ≤ ((m1 : Nat) : Int)) → ∀ Nd' : Nd, (∀ kk e, a < e → e ≤ N → vld v a e → (e < N → ¬ vld v a (e + 1)) → kOf v a e = kk → ∀ e4 e5 e6 e7 e8 e9, Nd'.nx [some (.int (l : Nat)), some (valsD v N), some (.mls ((ps.map fun p => sgD (pcS l p)) ++ [sgD (pcS l ⟨a, kk, some t⟩)])), some (lmD (some e)), e4, e5, e6, e7, e8, e9] n') →
                Ws K Z (tSeq (tAsg (tOp (rAddU K) (tTup (tCons (tVar 0) (tCons (tVar 3) (tCons (tOp (rIx K) (tVar 4) (tC (.int 0))) (tCons (tOp (rIx K) (tVar 4) (tC (.int 1))) (tCons (tOp (rIx K) (tVar 4) (tC (.int 2))) tNil)))))) (tIf (tTest (tOp (rNotN') (tOp (rIx K) (tVar 4) (tC (.int 3))) (tC .non))) (tTup (tCons (tOp (rIx K) (tVar 4) (tC (.int 3))) tNil)) (tTup tNil))) (gName 9))     (tSeq (tDrop (tBM K "list" rAppend (tVar 2) (tCons (tOp (rAddU K) (tIf (tTru K (tVar 8)) (tTup (tCons (tC (.str (PySem.Str.ofString "run"))) tNil)) (tTup (tCons (tC (.str (PySem.Str.ofString "point"))) tNil))) (tVar 9)) tNil)))     (tSeq (tAsg (tIf (tTru K (tVar 8)) (tVar 6) (tVar 7)) (gName 5))     (tAsg (tIf (tTest (tOp (rIsN') (tVar 5) (tC .non))) (tC .non) (tOp (rAddU K) (tVar 3) (tVar 5))) (gName 3))))) [some (.int (l : Nat)), some (valsD v N), some (.mls (ps.map fun p => sgD (pcS l p))), some (.int (a : Nat)), some (tgO (some t)), some (.int 1), some (lmD (some m1)), some (lmD (some q0)), some (.bl isr), d9] n' Nd' := fun isr hi Nd' hN' => by
              have hnv : ∀ e, e < N → m1 ≤ e - a → q0 ≤ e - a → a < e → ¬ vld v a (e + 1) := fun e e1 e2 e3 e4 z => by
                rcases z with z | ⟨t', z⟩ | ⟨t', z⟩
                · rw [z a (Nat.le_refl _) (by omega)] at hv; cases hv
                · have y := z a (Nat.le_refl _) (by omega)
                  rw [hv, Nat.sub_self, adv0] at y
                  cases y
                  exact mn (by rw [z (a + m1) (by omega) (by omega), Nat.add_sub_cancel_left])
                · have y := z a (Nat.le_refl _) (by omega)
                  rw [hv] at y
                  cases y
                  exact qn (z (a + q0) (by omega) (by omega))
              by_cases q : q0 ≤ m1
              · have : isr = true := by rw [hi]; exact decide_eq_true (by omega)
                subst this
                refine pieces_tail (kk := 1) (isr := true) (r1 := some m1) (r0 := some q0) rfl hpx rfl fun e9 => ?_
                refine hN' 1 (a + m1) (by omega) (by omega) (.inr (.inl ⟨t, mc⟩)) (fun z => hnv _ z (by omega) (by omega) (by omega)) ?_ _ _ _ _ _ _
                unfold kOf
                rw [hv]
                refine if_neg fun z => ?_
                have := mc (a + 1) (by omega) (by omega)
                rw [z.2, show a + 1 - a = 1 by omega] at this
                exact adv_ne (by omega) (Option.some.inj this).symm
              · have : isr = false := by rw [hi]; exact decide_eq_false (by omega)
                subst this
                refine pieces_tail (kk := 2) (isr := false) (r1 := some m1) (r0 := some q0) rfl hpx rfl fun e9 => ?_
                refine hN' 2 (a + q0) (by omega) (by omega) (.inr (.inr ⟨t, qc⟩)) (fun z => hnv _ z (by omega) (by omega) (by omega)) ?_ _ _ _ _ _ _
                unfold kOf
                rw [hv]
                exact if_pos ⟨by omega, qc (a + 1) (by omega) (by omega)⟩
            refine we_op ?_
            refine we_var rfl rfl ?_
            refine we_var rfl rfl ?_
            refine ge_int ?_
            refine wg_name (go _ rfl _ fun kk e q1 q2 q3 q4 q5 e4 e5 e6 e7 e8 e9 => ?_)
            exact goS e kk q1 q2 q3 q4 q5 _ _ _ _ _ _
    · rw [decide_eq_false (show ¬ ((a : Nat) : Int) < ((N : Nat) : Int) by omega), if_neg Bool.false_ne_true]
      refine ws_settle (i := 2) rfl ?_
      walk_at "w"
      have : a = N := by have := hs.le; omega
      subst this
      rw [hs.got (by omega)]
      exact h
theorem at_last : ∀ {xs : List Stt} {c : Nat}, (∀ st ∈ xs, st.1 ≤ c) → at_ xs c = xs.getLast?
  | [], _, _ => rfl
  | [x], c, h => by
    show (match at_ [] c with | some s => some s | none => if x.1 ≤ c then some x else none) = _
    show (if x.1 ≤ c then some x else none) = some x
    rw [if_pos (h x (by simp))]
  | x :: y :: r, c, h => by
    have ih := at_last (xs := y :: r) (c := c) fun st hs => h st (List.mem_cons_of_mem _ hs)
    show (match at_ (y :: r) c with | some s => some s | none => if x.1 ≤ c then some x else none) = _
    rw [ih, List.getLast?_cons_cons]
    cases q : (y :: r).getLast? with
    | none => simp at q
    | some s => rfl
theorem tail_vld {xs : List Stt} {N : Nat} (h3 : 3 ≤ N) (hN : ∀ st ∈ xs, st.1 + 3 ≤ N) : vld (val xs) (N - 3) N := by
  have e : ∀ c, N - 3 ≤ c → val xs c = match xs.getLast? with | none => none | some (b, td) => tv td (c - b) := fun c hc => by
    unfold val
    rw [at_last fun st hs => by have := hN st hs; omega]
    all_goals (cases xs.getLast? <;> rfl)
  cases q : xs.getLast? with
  | none => exact .inl fun c h1 _ => by rw [e c h1, q]
  | some s =>
    obtain ⟨b, td⟩ := s
    have hb := hN (b, td) (List.mem_of_getLast? q)
    simp only at hb
    match td with
    | none => exact .inl fun c h1 _ => by rw [e c h1, q]; rfl
    | some (true, t) =>
      refine .inr (.inl ⟨adv t (N - 3 - b), fun c h1 _ => ?_⟩)
      rw [e c h1, q]
      show some (adv t (c - b)) = _
      rw [adv_adv, show N - 3 - b + (c - (N - 3)) = c - b by omega]
    | some (false, t) => exact .inr (.inr ⟨t, fun c h1 _ => by rw [e c h1, q]; rfl⟩)
theorem allP_two {gs : List Sg} (h : ∀ g ∈ gs, g.ln < 2) : allP (rowsG gs) = (few (rowSt gs 0)).map (pcS 0) ++ (few (rowSt gs 1)).map (pcS 1) := by
  have hk : ∀ l ∈ ks gs, l < 2 := fun l hl => by
    obtain ⟨g, hg, e⟩ := ks_mem.mp hl
    have := h g hg; omega
  have ha := ks_asc gs
  have z0 : ∀ l, l ∉ ks gs → few (rowSt gs l) = [] := fun l z => by rw [ks_none z]; rfl
  have hG : allP (rowsG gs) = ((ks gs).map fun l => (few (rowSt gs l)).map (pcS l)).flatten := by
    unfold allP rowsG rowsOf
    rw [List.map_map]
    generalize ks gs = K
    induction K with
    | nil => rfl
    | cons k K ih =>
      rw [List.map_cons, List.filter_cons, List.map_cons, List.flatten_cons, ← ih]
      show (List.map _ (if (!(few (rowSt gs k)).isEmpty) = true then _ else _ : Rows)).flatten = _
      by_cases e : few (rowSt gs k) = []
      · rw [if_neg (by simp [e]), e]; rfl
      · rw [if_pos (by simpa using e), List.map_cons, List.flatten_cons]; rfl
  rw [hG]
  generalize ks gs = K at *
  match K with
  | [] => rw [z0 0 (by simp), z0 1 (by simp)]; rfl
  | [a] =>
    have := hk a (by simp)
    rcases (by omega : a = 0 ∨ a = 1) with rfl | rfl
    · rw [z0 1 (by simp)]; simp
    · rw [z0 0 (by simp)]; simp
  | [a, b] =>
    have h1 := hk a (by simp)
    have h2 := hk b (by simp)
    have h3 : a < b := (List.pairwise_cons.mp ha).1 b (by simp)
    obtain rfl : a = 0 := by omega
    obtain rfl : b = 1 := by omega
    simp
  | a :: b :: c :: K =>
    have h2 := hk b (by simp)
    have h4 := hk c (by simp)
    have h3 : a < b := (List.pairwise_cons.mp ha).1 b (by simp)
    have h5 : b < c := (List.pairwise_cons.mp (List.pairwise_cons.mp ha).2).1 c (by simp)
    omega
theorem rowSt_len (gs : List Sg) (l : Nat) : (rowSt gs l).length ≤ gs.length := by
  unfold rowSt
  rw [List.length_map]
  have := List.length_filter_le (fun g : Sg => g.ln == l) (srt gs)
  rw [(srt_perm gs).length_eq] at this
  exact this
theorem tol_few {gs : List Sg} (h : KeyNd gs) (l : Nat) : vld (tol gs l) (top gs l + 4 - 3) (top gs l + 4) ∧ allN (tol gs l) (top gs l + 4) = few (rowSt gs l) := by
  rw [show tol gs l = val (rowSt gs l) from funext fun c => tol_val h l c]
  exact ⟨tail_vld (by omega) top_row, (few_allN (rowSt_asc h l) top_row).symm⟩
theorem len__law_all : ∀ ds n P X, R__law_all A ds n P X → ds.length = 1 := by rintro ds n P X ⟨_, rfl, -⟩; rfl
theorem w__law_all (T : TxtC K A) : ∀ Z ds n P, R__law_all A ds n P Z.X → Ws K Z (t__law_all K A) (startD 1 ds) n { nx := fun _ m => P .non m, rt := P } := by
  rintro Z ds n P ⟨gs, rfl, hl, hb, hnd, h⟩
  unfold t__law_all
  have hb2 : ∀ g ∈ gs, g.b ≤ 100000 := fun g hg => by have := (hb g hg).1; omega
  have ht : ∀ l, top gs l + 4 ≤ 100000 := fun l => by
    rcases top_is gs l with w | ⟨g, hg, q, w⟩
    · omega
    · have := (hb g hg).1; omega
  walk_at "w"
  refine ⟨gs, 0, rfl, hl, hb2, ?_⟩
  walk_at "w"
  refine ⟨tol gs 0, top gs 0 + 4, 0, rfl, by omega, ht 0, (tol_few hnd 0).1, ?_⟩
  walk_at "w"
  refine ⟨gs, 1, rfl, hl, hb2, ?_⟩
  walk_at "w"
  refine ⟨tol gs 1, top gs 1 + 4, 1, rfl, by omega, ht 1, (tol_few hnd 1).1, ?_⟩
  rw [(tol_few hnd 0).2, (tol_few hnd 1).2]
  have f0 := few_le (rowSt_asc hnd 0)
  have f1 := few_le (rowSt_asc hnd 1)
  have r0 := rowSt_len gs 0
  have r1 := rowSt_len gs 1
  refine add_lst (by simp only [List.length_map]; omega) ?_
  rw [allP_two fun g hg => (hb g hg).2, List.map_append, List.map_map, List.map_map] at h
  exact h
end
end Lw

namespace Lw
open PySem L2 StX DL MP
section
variable {K : PySem.W.Frag} [Tb K] {Z : ZX} {A : Ad}
/-- one step -/
local macro_rules | `(tactic| walk_at "w1") => `(tactic| first
  | with_reducible refine ws_seq ?_
  | ((with_reducible show Ws _ _ (tAsg (tLst tNil) (gName _)) _ _ _); refine ws_setX (wx_lst (wa_nil ⟨Nat.zero_le _, ?_⟩)))
  | ((with_reducible show Ws _ _ (tAsg tDNewK (gName _)) _ _ _); refine ws_setX (wx_dnew ?_))
  | with_reducible refine ws_parX ?_
  | with_reducible refine ws_par3X ?_
  | ((with_reducible show Wx _ _ (tLst tNil) _ _ _); refine wx_lst (wa_nil ⟨Nat.zero_le _, ?_⟩))
  | ((with_reducible show Wx _ _ tDNewK _ _ _); refine wx_dnew ?_)
  | with_reducible refine wx_we ?_
  | with_reducible refine ws_break ?_
  | with_reducible refine ws_cont ?_
  | with_reducible refine ws_retN ?_
  | with_reducible refine ws_if ?_
  | with_reducible refine ws_ret ?_
  | ((fail_if_success (with_reducible show Ws _ _ (tDrop (tBM _ _ _ _ _)) _ _ _)); (with_reducible refine ws_drop ?_))
  | with_reducible refine ws_next ?_
  | with_reducible refine ws_par ?_
  | ((fail_if_success (with_reducible show Ws _ _ (tAsg _ (gSub _ _ _)) _ _ _)); (with_reducible refine ws_asg ?_))
  | with_reducible refine wg_name ?_
  | with_reducible refine we_int ?_
  | with_reducible refine we_bl ?_
  | with_reducible refine we_non ?_
  | with_reducible refine we_str ?_
  | with_reducible refine we_ty ?_
  | with_reducible refine we_cls ?_
  | with_reducible refine we_cmethX ?_
  | with_reducible refine we_cmeth ?_
  | with_reducible refine we_cmethN ?_
  | ((with_reducible show ∃ _, D.str _ = D.str _ ∧ _ ∧ _); refine ⟨_, rfl, ?_, ?_⟩; (focus (first | assumption | omega)))
  | ((with_reducible show We _ _ (tVar _) _ _ _); refine we_var rfl rfl ?_)
  | ((with_reducible show We _ _ (tVar _) _ _ _); refine we_var rfl (mut_td _) ?_)
  | ((with_reducible show We _ _ (tVar _) _ _ _); refine we_var rfl (mut_tg _) ?_)
  | ((with_reducible show We _ _ (tVar _) _ _ _); refine we_var rfl (mut_w _) ?_)
  | ((with_reducible show We _ _ (tVar _) _ _ _); refine we_var rfl (mut_lm _) ?_)
  | ((with_reducible show We _ _ (tVar _) _ _ _); refine we_var rfl (mut_b _) ?_)
  | ((fail_if_success (with_reducible show We _ _ (tOp (rInP _) _ (tVar _)) _ _ _)); with_reducible refine we_op ?_)
  | with_reducible refine we_un ?_
  | with_reducible refine we_lenO ?_
  | with_reducible refine we_cb ?_
  | with_reducible refine we_callX ?_
  | with_reducible refine we_call ?_
  | with_reducible refine we_callNX ?_
  | with_reducible refine we_callN ?_
  | with_reducible refine we_methN ?_
  | with_reducible refine we_callON ?_
  | with_reducible refine we_callOX ?_
  | with_reducible refine ws_raise ?_
  | with_reducible refine we_tup ?_
  | with_reducible refine we_lst ?_
  | with_reducible refine we_sl ?_
  | with_reducible refine we_m1 ?_
  | with_reducible refine we_andV ?_
  | with_reducible refine we_orV ?_
  | with_reducible refine we_notV ?_
  | with_reducible refine we_if ?_
  | with_reducible refine we_chain ?_
  | with_reducible refine we_fld ?_
  | with_reducible refine we_methX ?_
  | with_reducible refine we_meth ?_
  | with_reducible refine we_prop ?_
  | with_reducible refine we_callO' ?_
  | with_reducible refine we_make ?_
  | with_reducible refine wt_test ?_
  | with_reducible refine wt_B ?_
  | with_reducible refine wt_yes ?_
  | with_reducible refine wt_and ?_
  | with_reducible refine wt_or ?_
  | with_reducible refine wt_not ?_
  | with_reducible refine wa_nil ?_
  | with_reducible refine wa_cons ?_
  | with_reducible refine wo_none ?_
  | with_reducible refine wo_some ?_
  | with_reducible refine add_int ?_
  | with_reducible refine sub_int ?_
  | with_reducible refine neg_int ?_
  | ((with_reducible refine mod_int ?_ ?_); (focus (first | assumption | omega)))
  | ((with_reducible refine mul_int ?_ ?_); (focus (first | exact Or.inl ⟨by omega, by omega⟩ | exact Or.inr ⟨by omega, by omega⟩)))
  | ((with_reducible refine fdiv_int ?_ ?_); (focus (exact ⟨by omega, by omega⟩)))
  | ((with_reducible refine pow_int ?_ ?_); (focus (exact ⟨by decide, by decide, by decide⟩)))
  | with_reducible refine is_non ?_
  | with_reducible refine not_non ?_
  | with_reducible refine eq_int ?_
  | with_reducible refine ne_int ?_
  | with_reducible refine eq_pos ?_
  | with_reducible refine ne_pos ?_
  | with_reducible refine ne_nn ?_
  | with_reducible refine ne_np ?_
  | with_reducible refine ne_pn ?_
  | with_reducible refine eq_str ?_
  | with_reducible refine ne_str ?_
  | with_reducible refine eq_bl ?_
  | with_reducible refine ne_bl ?_
  | with_reducible refine lt_int ?_
  | with_reducible refine gt_int ?_
  | with_reducible refine le_int ?_
  | with_reducible refine ge_int ?_
  | with_reducible refine lt_pos ?_
  | with_reducible refine gt_pos ?_
  | with_reducible refine le_pos ?_
  | with_reducible refine ge_pos ?_
  | with_reducible refine int_int ?_
  | with_reducible refine min_int ?_
  | with_reducible refine max_int ?_
  | with_reducible refine len_lst ?_
  | with_reducible refine len_tup ?_
  | ((with_reducible refine len_str ?_ ?_); (focus (first | assumption | omega)))
  | with_reducible refine tuple_lst ?_
  | with_reducible refine tuple_tup ?_
  | with_reducible refine sl_lst ?_
  | with_reducible refine sl_tup ?_
  | ((with_reducible refine sl_str ?_ ?_); (focus (first | assumption | omega)))
  | with_reducible refine mt_countD ?_
  | with_reducible refine mt_rfindD ?_
  | ((with_reducible refine mt_splitD ?_ ?_ ?_); (focus rfl); (focus (first | assumption | omega)))
  | ((with_reducible show Op _ (rIx _) (D.tup _) (D.int _) _); refine ix_tup (by decide) rfl ?_)
  | ((with_reducible show Op _ (rIx _) (D.lst _) (D.int _) _); refine ix_lst (by decide) rfl ?_)
  | ((with_reducible show Cb _ (rIsi _) [D.int _, D.ty _] _); first | refine isiI (r := true) (by decide +kernel) ?_ | refine isiI (r := false) (by decide +kernel) ?_)
  | ((with_reducible show Cb _ (rIsi _) [D.str _, D.ty _] _); first | refine isiS (r := true) (by decide +kernel) ?_ | refine isiS (r := false) (by decide +kernel) ?_)
  | ((with_reducible show Cb _ (rIsi _) [D.tup _, D.ty _] _); first | refine isiT (r := true) (by decide +kernel) ?_ | refine isiT (r := false) (by decide +kernel) ?_)
  | ((with_reducible show Wg _ _ (gTup _ _ _) _ _ _); refine wg_tup rfl rfl ?_)
  | ((with_reducible show Wgs _ _ gNil _ _ _); refine wgs_nil rfl ?_)
  | ((with_reducible show Wgs _ _ (gCons _ _) _ _ _); refine wgs_cons rfl ?_)
  | ((with_reducible show ∃ _, D.bl _ = D.bl _ ∧ _); refine ⟨_, rfl, ?_⟩)
  | ((with_reducible show ∃ _, D.int _ = D.int _ ∧ _); refine ⟨_, rfl, ?_⟩)
  | ((with_reducible show ∃ _, D.str _ = D.str _ ∧ _); refine ⟨_, rfl, ?_⟩)
  | ((with_reducible show ∃ _, D.tup _ = D.tup _ ∧ _); refine ⟨_, rfl, ?_⟩)
  | ((with_reducible show ∃ _, D.lst _ = D.lst _ ∧ _); refine ⟨_, rfl, ?_⟩)
  | with_reducible refine wt_tru ?_
  | with_reducible refine list_lst ?_
  | with_reducible refine list_tup ?_
  | with_reducible refine we_makeS ?_
  | with_reducible refine we_makeR ?_
  | with_reducible refine we_smethS ?_
  | with_reducible refine iteNT ?_
  | with_reducible refine iteNF ?_
  | ((with_reducible show if true = true then _ else _); rw [if_pos rfl])
  | ((with_reducible show if false = true then _ else _); rw [if_neg Bool.false_ne_true])
  | ((with_reducible show List.length _ ≤ 1000000 ∧ _); refine ⟨?_, ?_⟩; (focus (simp; done)))
  | fail "no step")
local macro_rules | `(tactic| walk_at "w") => `(tactic| repeat (walk_at "w1"))
local macro_rules | `(tactic| walk_at "ws") => `(tactic| repeat ((fail_if_success (with_reducible show We _ _ (tChain _ _ _ _ _) _ _ _)); (fail_if_success (with_reducible show Wt _ _ (tAnd _ _) _ _ _)); (fail_if_success (with_reducible show We _ _ (tOrT _ _ _) _ _ _)); walk_at "w1"))

theorem gd_ok {g : Sg} (h : GD g) : SgOk (some NL) g := by
  have hs : okName (Str.ofString "s") := by unfold okName; decide +kernel
  have hlib : okName (Str.ofString "lib/t.js") := by unfold okName; decide +kernel
  have hw : okName (Str.ofString "w") := by unfold okName; decide +kernel
  have hgo : okName (Str.ofString "go-on") := by unfold okName; decide +kernel
  have h1 := h.ln
  have h2 := h.b
  refine ⟨(by show g.ln ≤ NL; unfold NL; omega), (by show g.b ≤ NL; unfold NL; omega), fun r t e => ?_⟩
  obtain ⟨k1, k2, k3, k4⟩ := h.td r t e
  refine ⟨?_, (by show t.l ≤ NL; unfold NL; omega), (by show t.c ≤ NL; unfold NL; omega), fun x hx => ?_⟩
  · rcases k1 with z | z <;> rw [z] <;> assumption
  · rw [hx] at k4
    rcases k4 with z | z | z
    · cases z
    · cases z; exact hw
    · cases z; exact hgo
local macro_rules | `(tactic| walk_at "w1") => `(tactic| with_reducible refine we_boolO ?_)
theorem ne_sgsL {P : D → Prop} {xs ys : List Sg} (h : P (.bl (!decide (xs = ys)))) : Op K (rNeP K) (.lst (xs.map sgD)) (.lst (ys.map sgD)) P := by
  refine neP (d := .list (xs.map sgP)) (e := .list (ys.map sgP)) (by rw [pd, pdsm sgD sgP pd_sg]; rfl) (by rw [pd, pdsm sgD sgP pd_sg]; rfl) (by rw [PyData.plain]; exact plainm sgP plain_sg xs) (by rw [PyData.plain]; exact plainm sgP plain_sg ys) (by rw [PyData.depth]; have := depthm sgP 3 depth_sg xs; omega) ?_
  rw [show PyData.eqv (.list (xs.map sgP)) (.list (ys.map sgP)) = PyData.eqvAll (xs.map sgP) (ys.map sgP) by simp [PyData.eqv], eqv_sgs]
  exact h
theorem eq_sgsL {P : D → Prop} {xs ys : List Sg} (h : P (.bl (decide (xs = ys)))) : Op K (rEqP K) (.lst (xs.map sgD)) (.lst (ys.map sgD)) P := by
  refine eqP (d := .list (xs.map sgP)) (e := .list (ys.map sgP)) (by rw [pd, pdsm sgD sgP pd_sg]; rfl) (by rw [pd, pdsm sgD sgP pd_sg]; rfl) (by rw [PyData.plain]; exact plainm sgP plain_sg xs) (by rw [PyData.plain]; exact plainm sgP plain_sg ys) (by rw [PyData.depth]; have := depthm sgP 3 depth_sg xs; omega) ?_
  rw [show PyData.eqv (.list (xs.map sgP)) (.list (ys.map sgP)) = PyData.eqvAll (xs.map sgP) (ys.map sgP) by simp [PyData.eqv], eqv_sgs]
  exact h
theorem ne_sgsT {P : D → Prop} {xs ys : List Sg} (h : P (.bl (!decide (xs = ys)))) : Op K (rNeP K) (.tup (xs.map sgD)) (.tup (ys.map sgD)) P := by
  refine neP (d := .tuple (xs.map sgP)) (e := .tuple (ys.map sgP)) (by rw [pd, pdsm sgD sgP pd_sg]; rfl) (by rw [pd, pdsm sgD sgP pd_sg]; rfl) (by rw [PyData.plain]; exact plainm sgP plain_sg xs) (by rw [PyData.plain]; exact plainm sgP plain_sg ys) (by rw [PyData.depth]; have := depthm sgP 3 depth_sg xs; omega) ?_
  rw [show PyData.eqv (.tuple (xs.map sgP)) (.tuple (ys.map sgP)) = PyData.eqvAll (xs.map sgP) (ys.map sgP) by simp [PyData.eqv], eqv_sgs]
  exact h
theorem row_is (R : Rows) (l : Nat) : ((rowAt R l).map fun p => sgD (pcS l p)) = ((rowAt R l).map (pcS l)).map sgD := by rw [List.map_map]; rfl
/-- not one segment -/
theorem ne_lst0 {P : D → Prop} {xs : List Sg} (h : P (.bl (!xs.isEmpty))) : Op K (rNeP K) (.lst (xs.map sgD)) (.lst []) P := by
  refine ne_sgsL (ys := []) ?_
  have : decide (xs = []) = xs.isEmpty := by cases xs <;> simp
  rw [this]; exact h
theorem in_nats {P : D → Prop} {r : Nat} {xs : List Nat} (h : P (.bl (decide (r ∈ xs)))) : Op K (rInP K) (.int (r : Nat)) (.lst (xs.map fun q : Nat => D.int (q : Nat))) P := by
  refine inPl (d := .int (r : Nat)) (xs := xs.map fun q : Nat => PyData.int (q : Nat)) rfl (pdsm _ _ (fun _ => rfl) xs) rfl (plainm _ (fun _ => rfl) xs) (by simp [PyData.depth]) ?_
  have e : ((xs.map fun q : Nat => PyData.int (q : Nat)).any fun z => PyData.eqv z (.int (r : Nat))) = decide (r ∈ xs) := by
    rw [List.any_map]
    refine Bool.eq_iff_iff.mpr ?_
    rw [List.any_eq_true, decide_eq_true_iff]
    constructor
    · rintro ⟨x, hx, e⟩
      have : (x : Int) = (r : Int) := by simpa [PyData.eqv] using e
      have : x = r := by omega
      exact this ▸ hx
    · intro hx
      exact ⟨r, hx, by simp [PyData.eqv]⟩
  rw [e]; exact h
theorem repr_lb {k : Nat} {b : Bool} (hk : k ≤ 8) : ∃ s : Str, ∀ P : D → Prop, P (.str s) → Cb K (rRepr K) [.lst [.int (k : Nat), .bl b]] P := by
  have key : ∀ k : Fin 9, ∀ b : Bool, (PyData.list [.int ((k.val : Nat) : Int), .bool b]).shown.length ≤ sizeLine ∧ (PyData.list [.int ((k.val : Nat) : Int), .bool b]).showable = true := by decide +kernel
  have h := key ⟨k, by omega⟩ b
  exact ⟨_, fun P hp => repr_of (e := .list [.int (k : Nat), .bool b]) ⟨_, .inl rfl⟩ rfl h.2 rfl (by simp [PyData.depth, PyData.depthAll]) h.1 hp⟩
theorem pieces_ok {gs : List Sg} (h : SgsD gs) : GsOk (allP (rowsG gs)) := by
  have hs : ∀ t : Tg, ∀ g ∈ gs, ∀ r t0, g.td = some (r, t0) → t.s = t0.s → t.w = t0.w → t.l = t0.l → okName t.s ∧ leO t.l (some NL) ∧ ∀ x, t.w = some x → okName x := fun t g hg r t0 e e1 e2 e3 => by
    obtain ⟨a, b, c, d⟩ := (gd_ok (h.g g hg)).td r t0 e
    rw [e1, e2, e3]
    exact ⟨a, b, d⟩
  refine ⟨fun x hx => ?_, all_nd h.nd, by rw [allP_len]; have := tot_le h.nd; have := h.len; omega⟩
  obtain ⟨l, p, hp, rfl⟩ := all_mem.mp hx
  have hb : p.b < 12 := pcs_bd (rowSt_asc h.nd l) (N := 12) (fun st hst => by
    obtain ⟨g, hg, _, rfl⟩ := rowSt_mem.mp hst
    have := (h.g g hg).b
    show g.b + 3 ≤ 12
    omega) hp
  have hl : l < 2 := by
    rcases Classical.em (l ∈ ks gs) with q | q
    · obtain ⟨g, hg, e⟩ := ks_mem.mp q
      exact e ▸ (h.g g hg).ln
    · rw [ks_none q] at hp; cases hp
  refine ⟨(by show l ≤ NL; unfold NL; omega), (by show p.b ≤ NL; unfold NL; omega), fun r t e => ?_⟩
  have ef : p.f = some t := by
    have : p.f.map (fun t => (p.k == 1, t)) = some (r, t) := e
    cases q : p.f with
    | none => rw [q] at this; cases this
    | some t' => rw [q] at this; cases this; rfl
  obtain ⟨g, hg, r0, t0, e1, e2, e3, e4⟩ := pc_from h.nd hp ef
  have hc := ((h.g g hg).td r0 t0 e3).2.2.1
  rcases e4 with rfl | rfl
  · obtain ⟨a, b, d⟩ := hs t g hg r0 t e3 rfl rfl rfl
    exact ⟨a, b, (by show t.c ≤ NL; unfold NL; omega), d⟩
  · obtain ⟨a, b, d⟩ := hs (adv t0 (p.b - g.b)) g hg r0 t0 e3 rfl rfl rfl
    exact ⟨a, b, (by show t0.c + (p.b - g.b) ≤ NL; unfold NL; omega), d⟩
theorem rows_len {gs : List Sg} : (rowsG gs).length ≤ gs.length := by
  have h1 := ks_len (gs := gs)
  have h2 : (rowsG gs).length ≤ (ks gs).length := by
    unfold rowsG rowsOf
    refine Nat.le_trans (List.length_filter_le ..) ?_
    rw [List.length_map, List.length_map]; exact Nat.le_refl _
  omega
theorem filt_is (l : Nat) : ∀ G : List Sg, G.filterMap (fun g => if g.ln = l then some (sgD g) else none) = (G.filter (fun g => g.ln == l)).map sgD
  | [] => rfl
  | g :: G => by
    rw [List.filterMap_cons, List.filter_cons, filt_is l G]
    by_cases q : g.ln = l
    · rw [if_pos q, if_pos (by simpa using q)]; rfl
    · rw [if_neg q, if_neg (by simpa using q)]
theorem filt_nat (p : Nat → Prop) [DecidablePred p] : ∀ G : List Nat, G.filterMap (fun q => if p q then some (D.int (q : Nat)) else none) = (G.filter (fun q => decide (p q))).map fun q : Nat => D.int (q : Nat)
  | [] => rfl
  | g :: G => by
    rw [List.filterMap_cons, List.filter_cons, filt_nat p G]
    by_cases q : p g
    · rw [if_pos q, if_pos (by simpa using q)]; rfl
    · rw [if_neg q, if_neg (by simpa using q)]
theorem ne_natS {P : D → Prop} {xs : List Nat} (h : P (.bl false)) : Op K (rNeP K) (.lst (xs.map fun q : Nat => D.int (q : Nat))) (.lst (xs.map fun q : Nat => D.int (q : Nat))) P := by
  have e : (xs.map fun q : Nat => D.int (q : Nat)) = (xs.map fun q : Nat => ((q : Nat) : Int)).map D.int := by rw [List.map_map]; rfl
  rw [e]
  refine ne_intsL ?_
  rw [decide_eq_true rfl]
  exact h
theorem lns_is (G : List Sg) : (G.map fun g : Sg => D.int (g.ln : Nat)) = (G.map (·.ln)).map fun q : Nat => D.int (q : Nat) := by rw [List.map_map]; rfl
theorem row_none {gs : List Sg} {l : Nat} (h : ∀ g ∈ gs, g.ln ≠ l) : rowAt (rowsG gs) l = [] := by
  rw [rowAt_G, ks_none (fun q => let ⟨g, hg, e⟩ := ks_mem.mp q; h g hg e)]
  rfl
theorem len_Map_bool : ∀ ds n P X, R_Map_bool A ds n P X → ds.length = 1 := by rintro ds n P X ⟨_, rfl, -⟩; rfl
theorem w_Map_bool (T : TxtC K A) : ∀ Z ds n P, R_Map_bool A ds n P Z.X → Ws K Z (t_Map_bool K A) (startD 1 ds) n { nx := fun _ m => P .non m, rt := P } := by
  rintro Z ds n P ⟨R, rfl, h⟩
  unfold t_Map_bool
  walk_at "w"
  refine ⟨_, _, _, rfl, T.cl_Map, T.na_Map__pieces, rfl, ?_⟩
  walk_at "w"
  refine boolT ?_
  rw [List.isEmpty_map]
  exact h
theorem len__law_right : ∀ ds n P X, R__law_right A ds n P X → ds.length = 1 := by rintro ds n P X ⟨_, rfl, -⟩; rfl
theorem w__law_right (T : TxtC K A) : ∀ Z ds n P, R__law_right A ds n P Z.X → Ws K Z (t__law_right K A) (startD 7 ds) n { nx := fun _ m => P .non m, rt := P } := by
  rintro Z ds n P ⟨gs, rfl, hgs, h⟩
  unfold t__law_right
  have hlen := hgs.len
  have htot := tot_le hgs.nd
  have hln : ∀ g ∈ gs, g.ln < 2 := fun g hg => (hgs.g g hg).ln
  have hln3 : ∀ g ∈ gs, g.ln < 3 := fun g hg => by have := hln g hg; omega
  have hok : GsOk gs := ⟨fun g hg => gd_ok (hgs.g g hg), hgs.nd, by omega⟩
  have hall : (allP (rowsG gs)).length = tot (rowsG gs) := allP_len _
  walk_at "w"
  refine ⟨rfl, ?_⟩
  walk_at "w"
  refine ⟨gs, rfl, hok, ?_⟩
  walk_at "w"
  refine ⟨gs, rfl, by omega, fun g hg => ⟨by have := (hgs.g g hg).b; omega, hln g hg⟩, hgs.nd, ?_⟩
  walk_at "w"
  refine we_lcPt sgD (fun g => some (sgD g)) (allP (rowsG gs)) ?_
  walk_at "w"
  refine ⟨_, rfl, rfl, rfl, by omega, fun g hg => wgc_name (by simp) (wt_yes ⟨rfl, ?_⟩), ?_⟩
  · rw [if_pos rfl]
    walk_at "w"
    exact ⟨rfl, rfl⟩
  rw [List.filterMap_eq_map']
  walk_at "w"
  refine ne_sgsL ?_
  rw [decide_eq_true rfl]
  walk_at "w"
  obtain ⟨st, hst⟩ := repr_lb (K := K) (k := tot (rowsG gs)) (b := !(allP (rowsG gs)).isEmpty) (by omega)
  refine ⟨_, rfl, rowsG gs, rfl, _, rfl, by omega, by omega, ?_⟩
  walk_at "w"
  refine ⟨_, rfl, rowsG gs, rfl, _, rfl, ?_⟩
  walk_at "w"
  refine hst _ ?_
  walk_at "w"
  rw [List.length_map, hall]
  walk_at "w"
  refine ne_lst0 ?_
  walk_at "w"
  refine hst _ ?_
  refine ne_str ?_
  rw [decide_eq_true rfl]
  walk_at "w"
  refine ws_fort (fun q : Nat => D.int (q : Nat)) (List.range 3) (wi_range1 ?_)
  walk_at "w"
  refine ⟨3, rfl, by decide, by rw [rng0_map]; rfl, fun i ds' m => m = n ∧ ∃ d3, ds' = [some (.lst (gs.map sgD)), some (mapD A (rowsG gs)), some (.lst ((allP (rowsG gs)).map sgD)), d3, none, none, none], ⟨rfl, _, rfl⟩, ?_, ?_⟩
  · rintro i l ds' m hq ⟨rfl, d3, rfl⟩
    obtain ⟨hl, rfl⟩ := range_at hq
    walk_at "w"
    refine ixO rfl fun n1 => ⟨rowsG gs, l, rfl, by unfold NL; omega, rfl, ?_⟩
    walk_at "w"
    refine we_lct sgD (fun g : Sg => if g.ln = l then some (sgD g) else none) (allP (rowsG gs)) (wi_list ?_)
    walk_at "w"
    refine ⟨rfl, by omega, fun g hg => wgc_name (by simp) ?_, ?_⟩
    · walk_at "w"
      refine ix_tup (by decide) (sgL1 g) ?_
      walk_at "w"
      by_cases q : g.ln = l
      · rw [decide_eq_true (show ((g.ln : Nat) : Int) = ((l : Nat) : Int) by omega)]
        refine ⟨rfl, ?_⟩
        rw [if_pos rfl]
        walk_at "w"
        exact ⟨rfl, if_pos q⟩
      · rw [decide_eq_false (show ¬ ((g.ln : Nat) : Int) = ((l : Nat) : Int) by omega)]
        refine ⟨rfl, ?_⟩
        rw [if_neg Bool.false_ne_true]
        exact if_neg q
    walk_at "w"
    rw [row_is, filt_is, all_at]
    refine ne_sgsT ?_
    rw [decide_eq_true rfl]
    walk_at "w"
    exact ⟨rfl, _, rfl⟩
  · rintro ds' m ⟨rfl, d3, rfl⟩
    walk_at "w"
    refine we_lcm sgD (fun g : Sg => D.int (g.ln : Nat)) (allP (rowsG gs)) (wi_list ?_)
    walk_at "w"
    refine ⟨rfl, by omega, fun g hg => wgc_name (by simp) ?_, ?_⟩
    · walk_at "w"
      refine ix_tup (by decide) (sgL1 g) ?_
      exact ⟨rfl, rfl⟩
    walk_at "w"
    refine we_lcQt (fun q : Nat => D.int (q : Nat)) (fun q : Nat => some (D.int (q : Nat))) ((rowsG gs).map (·.1)) ?_
    walk_at "w"
    refine ⟨_, rfl, rfl, ?_, by rw [List.length_map]; have := rows_len (gs := gs); omega, fun q hq => wgc_name (by simp) (wt_yes ⟨rfl, ?_⟩), ?_⟩
    · have e : (List.map (fun q : Nat => D.int (q : Nat)) ((rowsG gs).map (·.1))) = ((rowsG gs).map rowD).map fun p => keyDt p.1 := by rw [List.map_map, List.map_map]; rfl
      rw [e]
      exact src_key rfl
    · rw [if_pos rfl]
      walk_at "w"
      exact ⟨rfl, rfl⟩
    rw [List.filterMap_eq_map']
    walk_at "w"
    refine we_lct (fun q : Nat => D.int (q : Nat)) (fun q : Nat => if q ∈ (allP (rowsG gs)).map (·.ln) then some (D.int (q : Nat)) else none) (List.range 3) (wi_range1 ?_)
    walk_at "w"
    refine ⟨3, rfl, by decide, by rw [rng0_map]; rfl, by simp, fun x hx => wgc_name (by simp) ?_, ?_⟩
    · rw [lns_is]
      walk_at "w"
      refine we_op ?_
      walk_at "w"
      refine in_nats ?_
      by_cases q : x ∈ (allP (rowsG gs)).map (·.ln)
      · rw [decide_eq_true q]
        refine ⟨_, rfl, rfl, ?_⟩
        rw [if_pos rfl]
        walk_at "w"
        exact ⟨rfl, if_pos q⟩
      · rw [decide_eq_false q]
        refine ⟨_, rfl, rfl, ?_⟩
        rw [if_neg Bool.false_ne_true]
        exact if_neg q
    rw [rows_at hln3, filt_nat]
    refine ne_natS ?_
    walk_at "w"
    refine ixO rfl fun n1 => ⟨rowsG gs, 1000000000, rfl, Nat.le_refl _, rfl, ?_⟩
    rw [row_none fun g hg => by have := hln g hg; omega]
    walk_at "w"
    refine ne_sgsT (xs := []) (ys := []) ?_
    rw [decide_eq_true rfl]
    walk_at "w"
    refine ixO rfl fun n1 => ⟨rowsG gs, 3, rfl, by unfold NL; omega, rfl, ?_⟩
    rw [row_none fun g hg => by have := hln g hg; omega]
    walk_at "w"
    refine ne_sgsT (xs := []) (ys := []) ?_
    rw [decide_eq_true rfl]
    walk_at "w"
    refine ⟨rfl, ?_⟩
    walk_at "w"
    refine ⟨allP (rowsG gs), rfl, pieces_ok hgs, ?_⟩
    walk_at "w"
    refine eqO rfl (.inr ⟨_, _, rfl, rfl, T.ty_Map⟩) T.nf_Map fun n2 => ⟨_, _, rfl, rfl, _, rfl, ?_⟩
    rw [all_again hgs.nd hln, decide_eq_true rfl]
    refine ⟨_, rfl, ?_⟩
    rw [if_pos rfl]
    walk_at "w"
    refine we_lcPt sgD (fun g => some (sgD g)) (allP (rowsG (allP (rowsG gs)))) ?_
    walk_at "w"
    refine ⟨_, rfl, rfl, rfl, by rw [all_again hgs.nd hln]; omega, fun g hg => wgc_name (by simp) (wt_yes ⟨rfl, ?_⟩), ?_⟩
    · rw [if_pos rfl]
      walk_at "w"
      exact ⟨rfl, rfl⟩
    rw [List.filterMap_eq_map', all_again hgs.nd hln]
    walk_at "w"
    refine eq_sgsL ?_
    rw [decide_eq_true rfl]
    exact h
theorem srt_eq {gs gs' : List Sg} (nd : KeyNd gs) (hp : gs'.Perm gs) (hs : gs'.Pairwise fun g h => lexB g h = true) : srt gs = gs' := by
  refine List.Perm.eq_of_pairwise (le := fun g h => lexB g h = true) (fun a b ha hb h1 h2 => ?_) (srt_asc gs) hs ((srt_perm gs).trans hp.symm)
  have ha' := (srt_perm gs).mem_iff.mp ha
  have hb' := hp.mem_iff.mp hb
  refine nd_inj (fun g : Sg => (g.ln, g.b)) nd ha' hb' ?_
  simp only [lexB, decide_eq_true_eq] at h1 h2
  exact Prod.ext (by simp only; omega) (by simp only; omega)
theorem row_at {gs gs' : List Sg} (nd : KeyNd gs) (hp : gs'.Perm gs) (hs : gs'.Pairwise fun g h => lexB g h = true) (l : Nat) : rowAt (rowsG gs) l = few ((gs'.filter fun g => g.ln == l).map stt) := by
  rw [rowAt_G]
  unfold rowSt
  rw [srt_eq nd hp hs]
def u1 : Sg := ⟨0, 0, some (true, ⟨Str.ofString "s", 0, 5, none⟩)⟩
def u2 : Sg := ⟨0, 1, some (false, ⟨Str.ofString "s", 0, 6, none⟩)⟩
def u2' : Sg := ⟨0, 2, some (false, ⟨Str.ofString "s", 0, 6, none⟩)⟩
def u3 : Sg := ⟨0, 1, some (true, ⟨Str.ofString "s", 0, 5, none⟩)⟩
def u4 : Sg := ⟨0, 2, some (true, ⟨Str.ofString "s", 0, 6, none⟩)⟩
def u5 : Sg := ⟨0, 0, some (false, ⟨Str.ofString "s", 0, 5, none⟩)⟩
theorem ok_u {gs : List Sg} (h : ∀ g ∈ gs, g = u1 ∨ g = u2 ∨ g = u3 ∨ g = u4) (nd : KeyNd gs) (hl : gs.length < 64) : GsOk gs := by
  refine ⟨fun g hg => gd_ok ?_, nd, hl⟩
  rcases h g hg with rfl | rfl | rfl | rfl <;> exact ⟨by decide, by decide, fun r t e => by cases e; exact ⟨.inl rfl, by decide, by decide, .inl rfl⟩⟩
theorem row_a : (rowAt (rowsG [u1, u2]) 0).map (pcS 0) = [u1, u2'] := by
  rw [row_at (gs' := [u1, u2]) (by unfold KeyNd; decide) (by decide) (by decide +kernel)]
  decide +kernel
theorem row_b : (rowAt (rowsG [u1, u3, u4]) 0).map (pcS 0) = [u5, u4] := by
  rw [row_at (gs' := [u1, u3, u4]) (by unfold KeyNd; decide) (by decide) (by decide +kernel)]
  decide +kernel
theorem len_law : ∀ ds n P X, R_law A ds n P X → ds.length = 1 := by rintro ds n P X ⟨_, rfl, -⟩; rfl
theorem w_law (T : TxtC K A) : ∀ Z ds n P, R_law A ds n P Z.X → Ws K Z (t_law K A) (startD 4 ds) n { nx := fun _ m => P .non m, rt := P } := by
  rintro Z ds n P ⟨ns, rfl, hn, rfl, h⟩
  unfold t_law
  walk_at "w"
  refine ⟨ns, rfl, hn, fun a => ?_⟩
  walk_at "w"
  refine ws_fore (fun q : Nat => D.int (q : Nat)) (wi_range1 ?_)
  walk_at "w"
  rw [List.length_map]
  refine ⟨_, rfl, ⟨by split <;> omega, by split <;> omega⟩, List.range (2 + if ((ns.length : Nat) : Int) < 6 then ((ns.length : Nat) : Int) else 6).toNat, by rw [rng0_map], fun i ds' m => m ≤ 100 * i ∧ i ≤ 8 ∧ ∃ d2 d3, ds' = [some (.lst (ns.map .int)), some (.strm a (.mp ns.length)), d2, d3], ⟨Nat.zero_le _, by omega, _, _, rfl⟩, ?_, ?_⟩
  · rintro i q ds' m hq ⟨hm, h8, d2, d3, rfl⟩
    obtain ⟨hi, rfl⟩ := range_at hq
    have hi8 : q < 8 := by split at hi <;> omega
    walk_at "w"
    refine ⟨a, _, rfl, by omega, fun gs m' hgs m1 m2 => ?_⟩
    walk_at "w"
    refine ⟨gs, rfl, hgs, ?_⟩
    walk_at "w"
    exact ⟨by omega, by omega, _, _, rfl⟩
  · rintro ds' m ⟨hm, _, d2, d3, rfl⟩
    walk_at "w"
    refine ⟨[u1, u2], rfl, ok_u (by simp) (by unfold KeyNd; decide) (by decide), ?_⟩
    walk_at "w"
    refine ixO rfl fun n1 => ⟨rowsG [u1, u2], 0, rfl, Nat.zero_le _, rfl, ?_⟩
    rw [row_is, row_a]
    walk_at "w"
    refine ne_sgsT (xs := [u1, u2']) (ys := [u1, u2']) ?_
    rw [decide_eq_true rfl]
    walk_at "w"
    refine ⟨[u1, u3, u4], rfl, ok_u (by simp) (by unfold KeyNd; decide) (by decide), ?_⟩
    walk_at "w"
    refine ixO rfl fun n1 => ⟨rowsG [u1, u3, u4], 0, rfl, Nat.zero_le _, rfl, ?_⟩
    rw [row_is, row_b]
    walk_at "w"
    refine eq_sgsT (xs := [u5, u4]) (ys := [u5, u4]) ?_
    rw [decide_eq_true rfl]
    exact h _
end
end Lw

namespace Lw
open PySem L2 StX DL
open PyProof.Rows (envOfC)
def top (i : Nat) : Stmt := PySem.Challenge.pw_mapstack_k14_whole_pieces.main.body.getD i (.Pass ⟨0, 0, 0, 0⟩)
abbrev s_is_integer : Stmt := top 9
abbrev s_told_further : Stmt := top 14
abbrev s_word_of : Stmt := top 16
abbrev s__goes_on : Stmt := top 20
abbrev s_is_source : Stmt := top 32
abbrev s__begin_of : Stmt := top 39
abbrev s__all_pieces : Stmt := top 42
abbrev s_Map_row_at : Stmt := inClass (top 46) 7
abbrev s_Map_len : Stmt := inClass (top 46) 11
abbrev s_Map_bool : Stmt := inClass (top 46) 12
abbrev s_Map_eq : Stmt := inClass (top 46) 14
abbrev s_Map_pieces : Stmt := inClass (top 46) 16
abbrev s_Map_used_lines : Stmt := inClass (top 46) 17
abbrev s__law_begun : Stmt := top 48
abbrev s__law_draw : Stmt := top 49
abbrev s__law_told : Stmt := top 52
abbrev s__law_length : Stmt := top 54
abbrev s_is_count : Stmt := top 10
abbrev s_told_of : Stmt := top 17
abbrev s__some_columns : Stmt := top 19
abbrev s__law_of : Stmt := top 50
abbrev s__law_values : Stmt := top 53
abbrev s__law_pieces : Stmt := top 55
abbrev s_is_up_to : Stmt := top 11
abbrev s_stretches_of : Stmt := top 18
abbrev s_fewest : Stmt := top 21
abbrev s__law_segments : Stmt := top 51
abbrev s__law_all : Stmt := top 56
abbrev s_check_up_to : Stmt := top 12
abbrev s_piece_tuples : Stmt := top 22
abbrev s__are_numbers : Stmt := top 33
abbrev s__lines_of_segments : Stmt := top 40
abbrev s__is_segment : Stmt := top 34
abbrev s_pieces_of_lines : Stmt := top 41
abbrev s_Map_getitem : Stmt := inClass (top 46) 9
abbrev s__check_segments : Stmt := top 35
abbrev s_Map_init : Stmt := inClass (top 46) 0
abbrev s_Map_of : Stmt := inClass (top 46) 1
abbrev s__law_right : Stmt := top 57
abbrev s_law : Stmt := top 58
structure Fd where
  d_is_integer : FuncData
  d_told_further : FuncData
  d_word_of : FuncData
  d__goes_on : FuncData
  d_is_source : FuncData
  d__begin_of : FuncData
  d__all_pieces : FuncData
  d_Map_row_at : FuncData
  d_Map_len : FuncData
  d_Map_bool : FuncData
  d_Map_eq : FuncData
  d_Map_pieces : FuncData
  d_Map_used_lines : FuncData
  d__law_begun : FuncData
  d__law_draw : FuncData
  d__law_told : FuncData
  d__law_length : FuncData
  d_is_count : FuncData
  d_told_of : FuncData
  d__some_columns : FuncData
  d__law_of : FuncData
  d__law_values : FuncData
  d__law_pieces : FuncData
  d_is_up_to : FuncData
  d_stretches_of : FuncData
  d_fewest : FuncData
  d__law_segments : FuncData
  d__law_all : FuncData
  d_check_up_to : FuncData
  d_piece_tuples : FuncData
  d__are_numbers : FuncData
  d__lines_of_segments : FuncData
  d__is_segment : FuncData
  d_pieces_of_lines : FuncData
  d_Map_getitem : FuncData
  d__check_segments : FuncData
  d_Map_init : FuncData
  d_Map_of : FuncData
  d__law_right : FuncData
  d_law : FuncData
abbrev N_is_integer : List Str := ["value"]
theorem sc_is_integer : FnScope N_is_integer ["value"] (defScope s_is_integer) := ⟨rfl, rfl, rfl, by decide +kernel, rfl, by decide +kernel, by decide +kernel⟩
abbrev N_told_further : List Str := ["told", "by", "kind", "source", "line", "column", "word"]
theorem sc_told_further : FnScope N_told_further ["told", "by"] (defScope s_told_further) := ⟨rfl, rfl, rfl, by decide +kernel, rfl, by decide +kernel, by decide +kernel⟩
abbrev N_word_of : List Str := ["piece"]
theorem sc_word_of : FnScope N_word_of ["piece"] (defScope s_word_of) := ⟨rfl, rfl, rfl, by decide +kernel, rfl, by decide +kernel, by decide +kernel⟩
abbrev N__goes_on : List Str := ["piece", "column", "target", "begin", "kind", "first", "source", "line", "from_column", "word"]
theorem sc__goes_on : FnScope N__goes_on ["piece", "column", "target"] (defScope s__goes_on) := ⟨rfl, rfl, rfl, by decide +kernel, rfl, by decide +kernel, by decide +kernel⟩
abbrev N_is_source : List Str := ["value", "sign"]
theorem sc_is_source : FnScope N_is_source ["value"] (defScope s_is_source) := ⟨rfl, rfl, rfl, by decide +kernel, rfl, by decide +kernel, by decide +kernel⟩
abbrev N__begin_of : List Str := ["segment"]
theorem sc__begin_of : FnScope N__begin_of ["segment"] (defScope s__begin_of) := ⟨rfl, rfl, rfl, by decide +kernel, rfl, by decide +kernel, by decide +kernel⟩
abbrev N__all_pieces : List Str := ["rows", "every", "line"]
theorem sc__all_pieces : FnScope N__all_pieces ["rows"] (defScope s__all_pieces) := ⟨rfl, rfl, rfl, by decide +kernel, rfl, by decide +kernel, by decide +kernel⟩
abbrev N_Map_row_at : List Str := ["self", "line"]
theorem sc_Map_row_at : FnScope N_Map_row_at ["self", "line"] (defScope s_Map_row_at) := ⟨rfl, rfl, rfl, by decide +kernel, rfl, by decide +kernel, by decide +kernel⟩
abbrev N_Map_len : List Str := ["self"]
theorem sc_Map_len : FnScope N_Map_len ["self"] (defScope s_Map_len) := ⟨rfl, rfl, rfl, by decide +kernel, rfl, by decide +kernel, by decide +kernel⟩
abbrev N_Map_bool : List Str := ["self"]
theorem sc_Map_bool : FnScope N_Map_bool ["self"] (defScope s_Map_bool) := ⟨rfl, rfl, rfl, by decide +kernel, rfl, by decide +kernel, by decide +kernel⟩
abbrev N_Map_eq : List Str := ["self", "other"]
theorem sc_Map_eq : FnScope N_Map_eq ["self", "other"] (defScope s_Map_eq) := ⟨rfl, rfl, rfl, by decide +kernel, rfl, by decide +kernel, by decide +kernel⟩
abbrev N_Map_pieces : List Str := ["self"]
theorem sc_Map_pieces : GScope N_Map_pieces ["self"] (defScope s_Map_pieces) := ⟨rfl, rfl, rfl, by decide +kernel, rfl, by decide +kernel, by decide +kernel⟩
abbrev N_Map_used_lines : List Str := ["self"]
theorem sc_Map_used_lines : GScope N_Map_used_lines ["self"] (defScope s_Map_used_lines) := ⟨rfl, rfl, rfl, by decide +kernel, rfl, by decide +kernel, by decide +kernel⟩
abbrev N__law_begun : List Str := ["script", "part"]
theorem sc__law_begun : FnScope N__law_begun ["script"] (defScope s__law_begun) := ⟨rfl, rfl, rfl, by decide +kernel, rfl, by decide +kernel, by decide +kernel⟩
abbrev N__law_draw : List Str := ["m", "top", "k", "spot", "part", "mixed"]
theorem sc__law_draw : FnScope N__law_draw ["m", "top"] (defScope s__law_draw) := ⟨rfl, rfl, rfl, by decide +kernel, rfl, by decide +kernel, by decide +kernel⟩
abbrev N__law_told : List Str := ["some", "row", "place", "best", "one", "many"]
theorem sc__law_told : FnScope N__law_told ["some", "row", "place"] (defScope s__law_told) := ⟨rfl, rfl, rfl, by decide +kernel, rfl, by decide +kernel, by decide +kernel⟩
abbrev N__law_length : List Str := ["values", "place", "step", "first", "many"]
theorem sc__law_length : FnScope N__law_length ["values", "place", "step"] (defScope s__law_length) := ⟨rfl, rfl, rfl, by decide +kernel, rfl, by decide +kernel, by decide +kernel⟩
abbrev N_is_count : List Str := ["value"]
theorem sc_is_count : FnScope N_is_count ["value"] (defScope s_is_count) := ⟨rfl, rfl, rfl, by decide +kernel, rfl, by decide +kernel, by decide +kernel⟩
abbrev N_told_of : List Str := ["piece"]
theorem sc_told_of : FnScope N_told_of ["piece"] (defScope s_told_of) := ⟨rfl, rfl, rfl, by decide +kernel, rfl, by decide +kernel, by decide +kernel⟩
abbrev N__some_columns : List Str := ["stretches", "columns", "index", "begin", "told", "width", "by", "further"]
theorem sc__some_columns : FnScope N__some_columns ["stretches"] (defScope s__some_columns) := ⟨rfl, rfl, rfl, by decide +kernel, rfl, by decide +kernel, by decide +kernel⟩
abbrev N__law_of : List Str := ["m", "some"]
theorem sc__law_of : FnScope N__law_of ["m", "some"] (defScope s__law_of) := ⟨rfl, rfl, rfl, by decide +kernel, rfl, by decide +kernel, by decide +kernel⟩
abbrev N__law_values : List Str := ["some", "row", "most", "one", "place"]
theorem sc__law_values : FnScope N__law_values ["some", "row"] (defScope s__law_values) := ⟨rfl, rfl, rfl, by decide +kernel, rfl, by decide +kernel, by decide +kernel⟩
abbrev N__law_pieces : List Str := ["row", "values", "found", "place", "value", "many", "run", "point", "is_run", "rest"]
theorem sc__law_pieces : FnScope N__law_pieces ["row", "values"] (defScope s__law_pieces) := ⟨rfl, rfl, rfl, by decide +kernel, rfl, by decide +kernel, by decide +kernel⟩
abbrev N_is_up_to : List Str := ["value", "limit"]
theorem sc_is_up_to : FnScope N_is_up_to ["value", "limit"] (defScope s_is_up_to) := ⟨rfl, rfl, rfl, by decide +kernel, rfl, by decide +kernel, by decide +kernel⟩
abbrev N_stretches_of : List Str := ["pieces_of_line", "piece"]
theorem sc_stretches_of : FnScope N_stretches_of ["pieces_of_line"] (defScope s_stretches_of) := ⟨rfl, rfl, rfl, by decide +kernel, rfl, by decide +kernel, by decide +kernel⟩
abbrev N_fewest : List Str := ["stretches", "made", "piece", "column", "target"]
theorem sc_fewest : FnScope N_fewest ["stretches"] (defScope s_fewest) := ⟨rfl, rfl, rfl, by decide +kernel, rfl, by decide +kernel, by decide +kernel⟩
abbrev N__law_segments : List Str := ["m", "found", "spots", "shift", "n", "spot", "way", "start", "name", "piece"]
theorem sc__law_segments : FnScope N__law_segments ["m"] (defScope s__law_segments) := ⟨rfl, rfl, rfl, by decide +kernel, rfl, by decide +kernel, by decide +kernel⟩
abbrev N__law_all : List Str := ["some"]
theorem sc__law_all : FnScope N__law_all ["some"] (defScope s__law_all) := ⟨rfl, rfl, rfl, by decide +kernel, rfl, by decide +kernel, by decide +kernel⟩
abbrev N_check_up_to : List Str := ["value", "limit"]
theorem sc_check_up_to : FnScope N_check_up_to ["value", "limit"] (defScope s_check_up_to) := ⟨rfl, rfl, rfl, by decide +kernel, rfl, by decide +kernel, by decide +kernel⟩
abbrev N_piece_tuples : List Str := ["line", "stretches", "made", "begin", "kind", "target", "source", "from_line", "from_column", "word", "words"]
theorem sc_piece_tuples : FnScope N_piece_tuples ["line", "stretches"] (defScope s_piece_tuples) := ⟨rfl, rfl, rfl, by decide +kernel, rfl, by decide +kernel, by decide +kernel⟩
abbrev N__are_numbers : List Str := ["value", "many", "limit", "number"]
theorem sc__are_numbers : FnScope N__are_numbers ["value", "many", "limit"] (defScope s__are_numbers) := ⟨rfl, rfl, rfl, by decide +kernel, rfl, by decide +kernel, by decide +kernel⟩
abbrev N__lines_of_segments : List Str := ["segments", "rows", "segment", "line"]
theorem sc__lines_of_segments : FnScope N__lines_of_segments ["segments"] (defScope s__lines_of_segments) := ⟨rfl, rfl, rfl, by decide +kernel, rfl, by decide +kernel, by decide +kernel⟩
abbrev N__is_segment : List Str := ["value", "limit", "leads"]
theorem sc__is_segment : FnScope N__is_segment ["value", "limit"] (defScope s__is_segment) := ⟨rfl, rfl, rfl, by decide +kernel, rfl, by decide +kernel, by decide +kernel⟩
abbrev N_pieces_of_lines : List Str := ["lines", "rows", "line"]
theorem sc_pieces_of_lines : FnScope N_pieces_of_lines ["lines"] (defScope s_pieces_of_lines) := ⟨rfl, rfl, rfl, by decide +kernel, rfl, by decide +kernel, by decide +kernel⟩
abbrev N_Map_getitem : List Str := ["self", "at"]
theorem sc_Map_getitem : FnScope N_Map_getitem ["self", "at"] (defScope s_Map_getitem) := ⟨rfl, rfl, rfl, by decide +kernel, rfl, by decide +kernel, by decide +kernel⟩
abbrev N__check_segments : List Str := ["segments", "limit", "index", "segment", "begins"]
theorem sc__check_segments : FnScope N__check_segments ["segments", "limit"] (defScope s__check_segments) := ⟨rfl, rfl, rfl, by decide +kernel, rfl, by decide +kernel, by decide +kernel⟩
abbrev N_Map_init : List Str := ["self", "segments"]
theorem sc_Map_init : FnScope N_Map_init ["self", "segments"] (defScope s_Map_init) := ⟨rfl, rfl, rfl, by decide +kernel, rfl, by decide +kernel, by decide +kernel⟩
abbrev N_Map_of : List Str := ["cls", "segments"]
theorem sc_Map_of : FnScope N_Map_of ["cls", "segments"] (defScope s_Map_of) := ⟨rfl, rfl, rfl, by decide +kernel, rfl, by decide +kernel, by decide +kernel⟩
abbrev N__law_right : List Str := ["some", "made", "due", "row", "rows", "again", "one"]
theorem sc__law_right : FnScope N__law_right ["some"] (defScope s__law_right) := ⟨rfl, rfl, rfl, by decide +kernel, rfl, by decide +kernel, by decide +kernel⟩
abbrev N_law : List Str := ["script", "m", "turn", "some"]
theorem sc_law : FnScope N_law ["script"] (defScope s_law) := ⟨rfl, rfl, rfl, by decide +kernel, rfl, by decide +kernel, by decide +kernel⟩
structure Txt (K : PySem.W.Frag) (mg : Str → Option Value) (A : Ad) (B : Fd) : Prop where
  f_is_integer : Fun K "is_integer" "is_integer" s_is_integer A.a_is_integer B.d_is_integer
  b_is_integer : L2.Binds K B.d_is_integer ["value"] []
  f_told_further : Fun K "told_further" "told_further" s_told_further A.a_told_further B.d_told_further
  b_told_further : L2.Binds K B.d_told_further ["told", "by"] []
  f_word_of : Fun K "word_of" "word_of" s_word_of A.a_word_of B.d_word_of
  b_word_of : L2.Binds K B.d_word_of ["piece"] []
  f__goes_on : Fun K "_goes_on" "_goes_on" s__goes_on A.a__goes_on B.d__goes_on
  b__goes_on : L2.Binds K B.d__goes_on ["piece", "column", "target"] []
  f_is_source : Fun K "is_source" "is_source" s_is_source A.a_is_source B.d_is_source
  b_is_source : L2.Binds K B.d_is_source ["value"] []
  f__begin_of : Fun K "_begin_of" "_begin_of" s__begin_of A.a__begin_of B.d__begin_of
  b__begin_of : L2.Binds K B.d__begin_of ["segment"] []
  f__all_pieces : Fun K "_all_pieces" "_all_pieces" s__all_pieces A.a__all_pieces B.d__all_pieces
  b__all_pieces : L2.Binds K B.d__all_pieces ["rows"] []
  f_Map_row_at : Fun K "row_at" "Map.row_at" s_Map_row_at A.a_Map_row_at B.d_Map_row_at
  b_Map_row_at : L2.Binds K B.d_Map_row_at ["self", "line"] []
  f_Map_len : Fun K "__len__" "Map.__len__" s_Map_len A.a_Map_len B.d_Map_len
  b_Map_len : L2.Binds K B.d_Map_len ["self"] []
  f_Map_bool : Fun K "__bool__" "Map.__bool__" s_Map_bool A.a_Map_bool B.d_Map_bool
  b_Map_bool : L2.Binds K B.d_Map_bool ["self"] []
  f_Map_eq : Fun K "__eq__" "Map.__eq__" s_Map_eq A.a_Map_eq B.d_Map_eq
  b_Map_eq : L2.Binds K B.d_Map_eq ["self", "other"] []
  f_Map_pieces : Fun K "pieces" "Map.pieces" s_Map_pieces A.a_Map_pieces B.d_Map_pieces
  b_Map_pieces : L2.Binds K B.d_Map_pieces ["self"] []
  f_Map_used_lines : Fun K "used_lines" "Map.used_lines" s_Map_used_lines A.a_Map_used_lines B.d_Map_used_lines
  b_Map_used_lines : L2.Binds K B.d_Map_used_lines ["self"] []
  f__law_begun : Fun K "_law_begun" "_law_begun" s__law_begun A.a__law_begun B.d__law_begun
  b__law_begun : L2.Binds K B.d__law_begun ["script"] []
  f__law_draw : Fun K "_law_draw" "_law_draw" s__law_draw A.a__law_draw B.d__law_draw
  b__law_draw : L2.Binds K B.d__law_draw ["m", "top"] []
  f__law_told : Fun K "_law_told" "_law_told" s__law_told A.a__law_told B.d__law_told
  b__law_told : L2.Binds K B.d__law_told ["some", "row", "place"] []
  f__law_length : Fun K "_law_length" "_law_length" s__law_length A.a__law_length B.d__law_length
  b__law_length : L2.Binds K B.d__law_length ["values", "place", "step"] []
  f_is_count : Fun K "is_count" "is_count" s_is_count A.a_is_count B.d_is_count
  b_is_count : L2.Binds K B.d_is_count ["value"] []
  f_told_of : Fun K "told_of" "told_of" s_told_of A.a_told_of B.d_told_of
  b_told_of : L2.Binds K B.d_told_of ["piece"] []
  f__some_columns : Fun K "_some_columns" "_some_columns" s__some_columns A.a__some_columns B.d__some_columns
  b__some_columns : L2.Binds K B.d__some_columns ["stretches"] []
  f__law_of : Fun K "_law_of" "_law_of" s__law_of A.a__law_of B.d__law_of
  b__law_of : L2.Binds K B.d__law_of ["m", "some"] []
  f__law_values : Fun K "_law_values" "_law_values" s__law_values A.a__law_values B.d__law_values
  b__law_values : L2.Binds K B.d__law_values ["some", "row"] []
  f__law_pieces : Fun K "_law_pieces" "_law_pieces" s__law_pieces A.a__law_pieces B.d__law_pieces
  b__law_pieces : L2.Binds K B.d__law_pieces ["row", "values"] []
  f_is_up_to : Fun K "is_up_to" "is_up_to" s_is_up_to A.a_is_up_to B.d_is_up_to
  b_is_up_to : L2.Binds K B.d_is_up_to ["value", "limit"] []
  f_stretches_of : Fun K "stretches_of" "stretches_of" s_stretches_of A.a_stretches_of B.d_stretches_of
  b_stretches_of : L2.Binds K B.d_stretches_of ["pieces_of_line"] []
  f_fewest : Fun K "fewest" "fewest" s_fewest A.a_fewest B.d_fewest
  b_fewest : L2.Binds K B.d_fewest ["stretches"] []
  f__law_segments : Fun K "_law_segments" "_law_segments" s__law_segments A.a__law_segments B.d__law_segments
  b__law_segments : L2.Binds K B.d__law_segments ["m"] []
  f__law_all : Fun K "_law_all" "_law_all" s__law_all A.a__law_all B.d__law_all
  b__law_all : L2.Binds K B.d__law_all ["some"] []
  f_check_up_to : Fun K "check_up_to" "check_up_to" s_check_up_to A.a_check_up_to B.d_check_up_to
  b_check_up_to : L2.Binds K B.d_check_up_to ["value", "limit"] []
  f_piece_tuples : Fun K "piece_tuples" "piece_tuples" s_piece_tuples A.a_piece_tuples B.d_piece_tuples
  b_piece_tuples : L2.Binds K B.d_piece_tuples ["line", "stretches"] []
  f__are_numbers : Fun K "_are_numbers" "_are_numbers" s__are_numbers A.a__are_numbers B.d__are_numbers
  b__are_numbers : L2.Binds K B.d__are_numbers ["value", "many", "limit"] []
  f__lines_of_segments : Fun K "_lines_of_segments" "_lines_of_segments" s__lines_of_segments A.a__lines_of_segments B.d__lines_of_segments
  b__lines_of_segments : L2.Binds K B.d__lines_of_segments ["segments"] []
  f__is_segment : Fun K "_is_segment" "_is_segment" s__is_segment A.a__is_segment B.d__is_segment
  b__is_segment : L2.Binds K B.d__is_segment ["value", "limit"] []
  f_pieces_of_lines : Fun K "pieces_of_lines" "pieces_of_lines" s_pieces_of_lines A.a_pieces_of_lines B.d_pieces_of_lines
  b_pieces_of_lines : L2.Binds K B.d_pieces_of_lines ["lines"] []
  f_Map_getitem : Fun K "__getitem__" "Map.__getitem__" s_Map_getitem A.a_Map_getitem B.d_Map_getitem
  b_Map_getitem : L2.Binds K B.d_Map_getitem ["self", "at"] []
  f__check_segments : Fun K "_check_segments" "_check_segments" s__check_segments A.a__check_segments B.d__check_segments
  b__check_segments : L2.Binds K B.d__check_segments ["segments", "limit"] []
  f_Map_init : Fun K "__init__" "Map.__init__" s_Map_init A.a_Map_init B.d_Map_init
  b_Map_init : StarB B.d_Map_init ["self"] "segments"
  f_Map_of : Fun K "of" "Map.of" s_Map_of A.a_Map_of B.d_Map_of
  b_Map_of : L2.Binds K B.d_Map_of ["cls", "segments"] []
  f__law_right : Fun K "_law_right" "_law_right" s__law_right A.a__law_right B.d__law_right
  b__law_right : L2.Binds K B.d__law_right ["some"] []
  f_law : Fun K "law" "law" s_law A.a_law B.d_law
  b_law : L2.Binds K B.d_law ["script"] []
  cm_Map_of : ClX.CMet K A.c_Map (.type "type") "of" A.p_Map_of A.a_Map_of
  g__all_pieces : mg "_all_pieces" = some (.ref A.a__all_pieces)
  g__are_numbers : mg "_are_numbers" = some (.ref A.a__are_numbers)
  g__begin_of : mg "_begin_of" = some (.ref A.a__begin_of)
  g__check_segments : mg "_check_segments" = some (.ref A.a__check_segments)
  g__goes_on : mg "_goes_on" = some (.ref A.a__goes_on)
  g__is_segment : mg "_is_segment" = some (.ref A.a__is_segment)
  g__law_all : mg "_law_all" = some (.ref A.a__law_all)
  g__law_begun : mg "_law_begun" = some (.ref A.a__law_begun)
  g__law_draw : mg "_law_draw" = some (.ref A.a__law_draw)
  g__law_length : mg "_law_length" = some (.ref A.a__law_length)
  g__law_of : mg "_law_of" = some (.ref A.a__law_of)
  g__law_pieces : mg "_law_pieces" = some (.ref A.a__law_pieces)
  g__law_right : mg "_law_right" = some (.ref A.a__law_right)
  g__law_segments : mg "_law_segments" = some (.ref A.a__law_segments)
  g__law_told : mg "_law_told" = some (.ref A.a__law_told)
  g__law_values : mg "_law_values" = some (.ref A.a__law_values)
  g__lines_of_segments : mg "_lines_of_segments" = some (.ref A.a__lines_of_segments)
  g__some_columns : mg "_some_columns" = some (.ref A.a__some_columns)
  g_check_up_to : mg "check_up_to" = some (.ref A.a_check_up_to)
  g_fewest : mg "fewest" = some (.ref A.a_fewest)
  g_is_count : mg "is_count" = some (.ref A.a_is_count)
  g_is_integer : mg "is_integer" = some (.ref A.a_is_integer)
  g_is_source : mg "is_source" = some (.ref A.a_is_source)
  g_is_up_to : mg "is_up_to" = some (.ref A.a_is_up_to)
  g_piece_tuples : mg "piece_tuples" = some (.ref A.a_piece_tuples)
  g_pieces_of_lines : mg "pieces_of_lines" = some (.ref A.a_pieces_of_lines)
  g_stretches_of : mg "stretches_of" = some (.ref A.a_stretches_of)
  g_told_further : mg "told_further" = some (.ref A.a_told_further)
  g_told_of : mg "told_of" = some (.ref A.a_told_of)
  g_word_of : mg "word_of" = some (.ref A.a_word_of)
  gc_Map : mg "Map" = some (.ref A.c_Map)
  k_NAME_LIMIT : mg "NAME_LIMIT" = some (.int 40 A.t_NAME_LIMIT)
  k_NAME_SIGNS : mg "NAME_SIGNS" = some (.str (PySem.Str.ofString "ABCDEFGHIJKLMNOPQRSTUVWXYZabcdefghijklmnopqrstuvwxyz0123456789_-./") A.t_NAME_SIGNS)
  k_NUMBER_LIMIT : mg "NUMBER_LIMIT" = some (.int 1000000000 A.t_NUMBER_LIMIT)
  k_PIECE_LIMIT : mg "PIECE_LIMIT" = some (.int 10000 A.t_PIECE_LIMIT)
  me_Map_pieces : Meth K A.c_Map "pieces" A.a_Map_pieces
  me_Map_row_at : Meth K A.c_Map "row_at" A.a_Map_row_at
  me_Map_used_lines : Meth K A.c_Map "used_lines" A.a_Map_used_lines
  mk_Map : Mk K A.c_Map A.a_Map_init
  n_all : mg "all" = none
  n_bool : mg "bool" = none
  n_enumerate : mg "enumerate" = none
  n_int : mg "int" = none
  n_isinstance : mg "isinstance" = none
  n_len : mg "len" = none
  n_max : mg "max" = none
  n_min : mg "min" = none
  n_range : mg "range" = none
  n_repr : mg "repr" = none
  n_sorted : mg "sorted" = none
  n_str : mg "str" = none
  n_tuple : mg "tuple" = none
  es_Map : PySem.W.findIn K (.ref A.c_Map) "__eq__" = some (some (.ref A.a_Map_eq))
  ef_Map : PySem.W.isFn K (.ref A.a_Map_eq) = true
  en_Map : neB K A.c_Map A.a_Map_eq = true
  ssa_Map_bool : PySem.W.findIn K (.ref A.c_Map) "__bool__" = some (some (.ref A.a_Map_bool))
  ssf_Map_bool : PySem.W.isFn K (.ref A.a_Map_bool) = true
  ssi_Map_bool : PySem.W.fnIn K A.a_Map_bool = true
  ssa_Map_getitem : PySem.W.findIn K (.ref A.c_Map) "__getitem__" = some (some (.ref A.a_Map_getitem))
  ssf_Map_getitem : PySem.W.isFn K (.ref A.a_Map_getitem) = true
  ssi_Map_getitem : PySem.W.fnIn K A.a_Map_getitem = true
  ssa_Map_len : PySem.W.findIn K (.ref A.c_Map) "__len__" = some (some (.ref A.a_Map_len))
  ssf_Map_len : PySem.W.isFn K (.ref A.a_Map_len) = true
  ssi_Map_len : PySem.W.fnIn K A.a_Map_len = true
  cr_Map : ClX.CRead K A.c_Map (.type "type")
  tc : TxtC K A
theorem kf__begin_of {K : PySem.W.Frag} {mg : Str → Option Value} {A : Ad} {B : Fd} (T : Txt K mg A B) : KeyFn K A.a__begin_of 1 2 := by
  obtain ⟨oc, od, kV, doc, pm, an, cdv, ct, osl, hfd, lk, hc⟩ := T.f__begin_of.ex
  exact ⟨oc, od, B.d__begin_of, osl, "segment", ⟨154, 12, 154, 19⟩, ⟨154, 20, 154, 21⟩, ⟨154, 12, 154, 22⟩, ⟨154, 24, 154, 31⟩, ⟨154, 32, 154, 33⟩, ⟨154, 24, 154, 34⟩, ⟨154, 11, 154, 35⟩, ⟨154, 4, 154, 35⟩, 0, lk, by rw [hfd]; exact hc, by rw [hfd]; rfl, fun t => by rw [hfd]; rfl, by rw [hfd]; rfl, by rw [hfd]; rfl, by rw [hfd]; rfl, by rw [hfd]; rfl, by decide +kernel, by decide, by decide⟩
section
variable {Pr : Program} {w : World} {K : PySem.W.Frag} [Tb K] {mg : Str → Option Value} {base : Heap} {A : Ad} {B : Fd}
theorem tm_is_integer (T : Txt K mg A B)  {f : Addr} {cdv : Value} {Ar : Around} {outer : List Env} {s : Shared} {H : Hp} {E : XK} (hr : Room 0 (Ar.deeper (envOfC "is_integer" (defScope s_is_integer) s.heap.objs.size f cdv))) :
    PSs (cxOf CX0 Pr w K mg base N_is_integer "is_integer" (defScope s_is_integer) f cdv Ar outer s H E).nox (defBody s_is_integer) (t_is_integer K A) :=
  (pss_one (ps_ret (pe_and (pe_callB call_isi (by rfl) T.n_isinstance (by decide +kernel) (pa_cons (pv 0) (pa_cons (pe_bltn (v := .ty "int") (by rfl) T.n_int (by decide +kernel) rfl) pa_nil))) (pe_one (pe_not (pe_callB call_isi (by rfl) T.n_isinstance (by decide +kernel) (pa_cons (pv 0) (pa_cons (pe_bltn (v := .ty "bool") (by rfl) T.n_bool (by decide +kernel) rfl) pa_nil))))))))
theorem tm_told_further (T : Txt K mg A B)  {f : Addr} {cdv : Value} {Ar : Around} {outer : List Env} {s : Shared} {H : Hp} {E : XK} (hr : Room 0 (Ar.deeper (envOfC "told_further" (defScope s_told_further) s.heap.objs.size f cdv))) :
    PSs (cxOf CX0 Pr w K mg base N_told_further "told_further" (defScope s_told_further) f cdv Ar outer s H E).nox (defBody s_told_further) (t_told_further K A) :=
  (pss_cons (ps_if (PW.pt (pw_or (pt_cmpR op_isN (pv 0) pe_non (nomark _)) (pw_or1 (pt_cmpR (op_eqP hr.units) (pe_ix ix_seq (pv 0) pe_int (fun _ _ => rfl)) pe_str (nomark _))))) (pss_one (ps_ret (pv 0))) pss_nil)
      (pss_cons (ps_asg (pv 0) (pg_tup rfl (pgs_cons (pg_name (i := 2) sc_told_further.nd rfl (Or.inl rfl)) (pgs_cons (pg_name (i := 3) sc_told_further.nd rfl (Or.inl rfl)) (pgs_cons (pg_name (i := 4) sc_told_further.nd rfl (Or.inl rfl)) (pgs_cons (pg_name (i := 5) sc_told_further.nd rfl (Or.inl rfl)) (pgs_cons (pg_name (i := 6) sc_told_further.nd rfl (Or.inl rfl)) pgs_nil)))))))
      (pss_one (ps_ret (pe_tup (pa_cons (pv 2) (pa_cons (pv 3) (pa_cons (pv 4) (pa_cons (pe_op op_addU (pv 5) (pv 1)) (pa_cons (pv 6) pa_nil))))))))))
theorem tm_word_of (T : Txt K mg A B)  {f : Addr} {cdv : Value} {Ar : Around} {outer : List Env} {s : Shared} {H : Hp} {E : XK} (hr : Room 0 (Ar.deeper (envOfC "word_of" (defScope s_word_of) s.heap.objs.size f cdv))) :
    PSs (cxOf CX0 Pr w K mg base N_word_of "word_of" (defScope s_word_of) f cdv Ar outer s H E).nox (defBody s_word_of) (t_word_of K A) :=
  (pss_one (ps_ret (pe_ifExp (pt_cmpR (op_gtP hr.units) (pe_callB call_len (by rfl) T.n_len (by decide +kernel) (pa_cons (pv 0) pa_nil)) pe_int (nomark _)) (pe_ix ix_seq (pv 0) pe_int (fun _ _ => rfl)) pe_non)))
theorem tm__goes_on (T : Txt K mg A B)  {f : Addr} {cdv : Value} {Ar : Around} {outer : List Env} {s : Shared} {H : Hp} {E : XK} (hr : Room 0 (Ar.deeper (envOfC "_goes_on" (defScope s__goes_on) s.heap.objs.size f cdv))) :
    PSs (cxOf CX0 Pr w K mg base N__goes_on "_goes_on" (defScope s__goes_on) f cdv Ar outer s H E).nox (defBody s__goes_on) (t__goes_on K A) :=
  (pss_cons (ps_asg (pv 0) (pg_tup rfl (pgs_cons (pg_name (i := 3) sc__goes_on.nd rfl (Or.inl rfl)) (pgs_cons (pg_name (i := 4) sc__goes_on.nd rfl (Or.inl rfl)) (pgs_cons (pg_name (i := 5) sc__goes_on.nd rfl (Or.inl rfl)) pgs_nil)))))
      (pss_cons (ps_if (pt_cmpR (op_eqP hr.units) (pv 4) pe_str (nomark _)) (pss_cons (ps_asg (pv 5) (pg_tup rfl (pgs_cons (pg_name (i := 6) sc__goes_on.nd rfl (Or.inl rfl)) (pgs_cons (pg_name (i := 7) sc__goes_on.nd rfl (Or.inl rfl)) (pgs_cons (pg_name (i := 8) sc__goes_on.nd rfl (Or.inl rfl)) (pgs_cons (pg_name (i := 9) sc__goes_on.nd rfl (Or.inl rfl)) pgs_nil))))))
      (pss_one (ps_ret (pe_cmpR (op_eqP hr.units) (pv 2) (pe_tup (pa_cons (pv 6) (pa_cons (pv 7) (pa_cons (pe_op op_sub (pe_op op_addU (pv 8) (pv 1)) (pv 3)) (pa_cons (pv 9) pa_nil))))) (nomark _))))) pss_nil)
      (pss_one (ps_ret (pe_cmpR (op_eqP hr.units) (pv 2) (pv 5) (nomark _))))))
theorem tm_is_source (T : Txt K mg A B)  {f : Addr} {cdv : Value} {Ar : Around} {outer : List Env} {s : Shared} {H : Hp} {E : XK} (hr : Room 0 (Ar.deeper (envOfC "is_source" (defScope s_is_source) s.heap.objs.size f cdv))) :
    PSs (cxOf CX0 Pr w K mg base N_is_source "is_source" (defScope s_is_source) f cdv Ar outer s H E).nox (defBody s_is_source) (t_is_source K A) :=
  (pss_cons (ps_if (PW.pt (pw_or (pt_not (pt_val (pe_callB call_isi (by rfl) T.n_isinstance (by decide +kernel) (pa_cons (pv 0) (pa_cons (pe_bltn (v := .ty "str") (by rfl) T.n_str (by decide +kernel) rfl) pa_nil))))) (pw_or1 (pt_not (pt_chain (op_leP hr.units) (op_leP hr.units) pe_int (pe_callB call_len (by rfl) T.n_len (by decide +kernel) (pa_cons (pv 0) pa_nil)) (pe_glob rfl T.k_NAME_LIMIT ⟨_, rfl⟩)))))) (pss_one (ps_ret pe_bl)) pss_nil)
      (pss_one (ps_ret (pe_callB (cr_all rfl) (by rfl) T.n_all (by decide +kernel) (pa_cons (pe_lc (own := [("sign", 1)]) rfl sc_is_source.nd (pi_str (pv 0)) (blkOk_by (own := [("sign", 1)]) (N := N_is_source) (sc := defScope s_is_source) (by decide +kernel)) (fun _ _ _ _ _ => (pg_name (i := 1) sc_is_source.nd rfl (Or.inl rfl))) (fun _ _ _ _ _ => pts_nil) (fun _ _ _ _ _ => (pe_cmpR op_inS (pv 1) (pe_glob rfl T.k_NAME_SIGNS ⟨_, rfl⟩) rfl))) pa_nil)))))
theorem tm__begin_of (T : Txt K mg A B)  {f : Addr} {cdv : Value} {Ar : Around} {outer : List Env} {s : Shared} {H : Hp} {E : XK} (hr : Room 0 (Ar.deeper (envOfC "_begin_of" (defScope s__begin_of) s.heap.objs.size f cdv))) :
    PSs (cxOf CX0 Pr w K mg base N__begin_of "_begin_of" (defScope s__begin_of) f cdv Ar outer s H E).nox (defBody s__begin_of) (t__begin_of K A) :=
  (pss_one (ps_ret (pe_tup (pa_cons (pe_ix ix_seq (pv 0) pe_int (fun _ _ => rfl)) (pa_cons (pe_ix ix_seq (pv 0) pe_int (fun _ _ => rfl)) pa_nil)))))
theorem tm__all_pieces (T : Txt K mg A B)  {f : Addr} {cdv : Value} {Ar : Around} {outer : List Env} {s : Shared} {H : Hp} {E : XK} (hr : Room 0 (Ar.deeper (envOfC "_all_pieces" (defScope s__all_pieces) s.heap.objs.size f cdv))) :
    PSs (cxOf CX0 Pr w K mg base N__all_pieces "_all_pieces" (defScope s__all_pieces) f cdv Ar outer s H E).nox (defBody s__all_pieces) (t__all_pieces K A) :=
  (pss_cons (ps_set (i := 1) sc__all_pieces.nd rfl (Or.inl rfl) (pe_lst pa_nil))
      (pss_cons (ps_for PassesOwn.never rfl (pi_keys (pv 0)) (pg_name (i := 2) sc__all_pieces.nd rfl (Or.inl rfl)) (pss_cons (ps_expr (pe_bm PySem.F.plainAttrs_list PySem.F.slot_list_extend PySem.F.type_list_extend mt_extT (pv 1) (pa_cons (pe_dget (Nat.lt_of_le_of_lt (Nat.add_le_add_left (by decide) _) hr.units) (pv 0) (pv 2) (fun _ _ => rfl)) pa_nil)))
      (pss_one (ps_if (pt_cmpR (op_gtP hr.units) (pe_callB call_len (by rfl) T.n_len (by decide +kernel) (pa_cons (pv 1) pa_nil)) (pe_glob rfl T.k_PIECE_LIMIT ⟨_, rfl⟩) (nomark _)) pss_never pss_nil))))
      (pss_one (ps_ret (pe_callTy call_tuple_of (by rfl) T.n_tuple (by decide +kernel) (pa_cons (pv 1) pa_nil))))))
theorem tm_Map_row_at (T : Txt K mg A B)  {f : Addr} {cdv : Value} {Ar : Around} {outer : List Env} {s : Shared} {H : Hp} {E : XK} (hr : Room 0 (Ar.deeper (envOfC "Map.row_at" (defScope s_Map_row_at) s.heap.objs.size f cdv))) :
    PSs (cxOf CX0 Pr w K mg base N_Map_row_at "Map.row_at" (defScope s_Map_row_at) f cdv Ar outer s H E).nox (defBody s_Map_row_at) (t_Map_row_at K A) :=
  (pss_one (ps_ret (pe_dget2 (Nat.lt_of_le_of_lt (Nat.add_le_add_left (by decide) _) hr.units) (pe_fld (pv 0) rfl) (pv 1) (pe_tup pa_nil) ⟨rfl, rfl, rfl, rfl⟩)))
theorem tm_Map_len (T : Txt K mg A B)  {f : Addr} {cdv : Value} {Ar : Around} {outer : List Env} {s : Shared} {H : Hp} {E : XK} (hr : Room 0 (Ar.deeper (envOfC "Map.__len__" (defScope s_Map_len) s.heap.objs.size f cdv))) :
    PSs (cxOf CX0 Pr w K mg base N_Map_len "Map.__len__" (defScope s_Map_len) f cdv Ar outer s H E).nox (defBody s_Map_len) (t_Map_len K A) :=
  (pss_one (ps_ret (pe_callB call_len (by rfl) T.n_len (by decide +kernel) (pa_cons (pe_fld (pv 0) rfl) pa_nil))))
theorem tm_Map_bool (T : Txt K mg A B)  {f : Addr} {cdv : Value} {Ar : Around} {outer : List Env} {s : Shared} {H : Hp} {E : XK} (hr : Room 0 (Ar.deeper (envOfC "Map.__bool__" (defScope s_Map_bool) s.heap.objs.size f cdv))) :
    PSs (cxOf CX0 Pr w K mg base N_Map_bool "Map.__bool__" (defScope s_Map_bool) f cdv Ar outer s H E).nox (defBody s_Map_bool) (t_Map_bool K A) :=
  (pss_one (ps_ret (pe_callTy call_boolT (by rfl) T.n_bool (by decide +kernel) (pa_cons (pe_fld (pv 0) rfl) pa_nil))))
theorem tm_Map_eq (T : Txt K mg A B)  {f : Addr} {cdv : Value} {Ar : Around} {outer : List Env} {s : Shared} {H : Hp} {E : XK} (hr : Room 0 (Ar.deeper (envOfC "Map.__eq__" (defScope s_Map_eq) s.heap.objs.size f cdv))) :
    PSs (cxOf CX0 Pr w K mg base N_Map_eq "Map.__eq__" (defScope s_Map_eq) f cdv Ar outer s H E).nox (defBody s_Map_eq) (t_Map_eq K A) :=
  (pss_one (ps_ret (pe_and (pe_callB call_isi (by rfl) T.n_isinstance (by decide +kernel) (pa_cons (pv 1) (pa_cons (pe_glob (v := .ref A.c_Map) rfl T.gc_Map rfl) pa_nil))) (pe_one (pe_cmpR (op_eqP hr.units) (pe_fld (pv 0) rfl) (pe_fld (pv 1) rfl) (nomark _))))))
theorem tm__law_begun (T : Txt K mg A B)  {f : Addr} {cdv : Value} {Ar : Around} {outer : List Env} {s : Shared} {H : Hp} {E : XK} (hr : Room 0 (Ar.deeper (envOfC "_law_begun" (defScope s__law_begun) s.heap.objs.size f cdv))) :
    PSs (cxOf CX0 Pr w K mg base N__law_begun "_law_begun" (defScope s__law_begun) f cdv Ar outer s H E).nox (defBody s__law_begun) (t__law_begun K A) :=
  (pss_one (ps_ret (pe_disp (pps_cons pe_str (pv 0) (pps_cons pe_str pe_int (pps_cons pe_str (pe_lc (own := [("part", 1)]) rfl sc__law_begun.nd (pi_list (pv 0)) (blkOk_by (own := [("part", 1)]) (N := N__law_begun) (sc := defScope s__law_begun) (by decide +kernel)) (fun _ _ _ _ _ => (pg_name (i := 1) sc__law_begun.nd rfl (Or.inl rfl))) (fun _ _ _ _ _ => pts_nil) (fun _ _ _ _ _ => (pe_ifExp (pt_cmpR (op_geP hr.units) (pv 1) (pe_op op_pow pe_int pe_int) (nomark _)) (pv 1) pe_int))) pps_nil))) rfl rfl (fun z => by cases z) (by decide))))
theorem tm__law_draw (T : Txt K mg A B)  {f : Addr} {cdv : Value} {Ar : Around} {outer : List Env} {s : Shared} {H : Hp} {E : XK} (hr : Room 0 (Ar.deeper (envOfC "_law_draw" (defScope s__law_draw) s.heap.objs.size f cdv))) :
    PSs (cxOf CX0 Pr w K mg base N__law_draw "_law_draw" (defScope s__law_draw) f cdv Ar outer s H E).nox (defBody s__law_draw) (t__law_draw K A) :=
  (pss_cons (ps_set (i := 2) sc__law_draw.nd rfl (Or.inl rfl) (pe_dget (Nat.lt_of_le_of_lt (Nat.add_le_add_left (by decide) _) hr.units) (pv 0) pe_str (fun _ _ => rfl)))
      (pss_cons (ps_dput (Nat.lt_of_le_of_lt (Nat.add_le_add_left (by decide) _) hr.units) (pv 0) pe_str (pe_op op_addU (pv 2) pe_int) rfl)
      (pss_cons (ps_set (i := 3) sc__law_draw.nd rfl (Or.inl rfl) (pe_op op_mod (pe_callTy call_int1 (by rfl) T.n_int (by decide +kernel) (pa_cons (pv 2) pa_nil)) (pe_callB (call_max2 rfl) (by rfl) T.n_max (by decide +kernel) (pa_cons pe_int (pa_cons (pe_callB call_len (by rfl) T.n_len (by decide +kernel) (pa_cons (pe_dget (Nat.lt_of_le_of_lt (Nat.add_le_add_left (by decide) _) hr.units) (pv 0) pe_str (fun _ _ => rfl)) pa_nil)) pa_nil)))))
      (pss_cons (ps_if (PW.pt (pw_and (pt_cmpR (op_neP hr.units) (pe_dget (Nat.lt_of_le_of_lt (Nat.add_le_add_left (by decide) _) hr.units) (pv 0) pe_str (fun _ _ => rfl)) (pe_lst pa_nil) (nomark _)) (pw_and1 (pt_cmpR (op_gtP hr.units) (pe_ix ix_seq (pe_dget (Nat.lt_of_le_of_lt (Nat.add_le_add_left (by decide) _) hr.units) (pv 0) pe_str (fun _ _ => rfl)) (pv 3) (fun _ _ => rfl)) pe_int (nomark _))))) (pss_cons (ps_set (i := 4) sc__law_draw.nd rfl (Or.inl rfl) (pe_ix ix_seq (pe_dget (Nat.lt_of_le_of_lt (Nat.add_le_add_left (by decide) _) hr.units) (pv 0) pe_str (fun _ _ => rfl)) (pv 3) (fun _ _ => rfl)))
      (pss_cons (ps_asg (pe_op op_fdiv (pv 4) (pv 1)) (pg_sub (pe_dget (Nat.lt_of_le_of_lt (Nat.add_le_add_left (by decide) _) hr.units) (pv 0) pe_str (fun _ _ => rfl)) (pv 3) set_list))
      (pss_one (ps_ret (pe_op op_mod (pe_callTy call_int1 (by rfl) T.n_int (by decide +kernel) (pa_cons (pv 4) pa_nil)) (pv 1)))))) pss_nil)
      (pss_cons (ps_set (i := 4) sc__law_draw.nd rfl (Or.inl rfl) (pe_ifExp (pt_cmpR (op_neP hr.units) (pe_dget (Nat.lt_of_le_of_lt (Nat.add_le_add_left (by decide) _) hr.units) (pv 0) pe_str (fun _ _ => rfl)) (pe_lst pa_nil) (nomark _)) (pe_op op_mod (pe_callTy call_int1 (by rfl) T.n_int (by decide +kernel) (pa_cons (pe_ix ix_seq (pe_dget (Nat.lt_of_le_of_lt (Nat.add_le_add_left (by decide) _) hr.units) (pv 0) pe_str (fun _ _ => rfl)) (pv 3) (fun _ _ => rfl)) pa_nil)) pe_int) pe_int))
      (pss_cons (ps_set (i := 5) sc__law_draw.nd rfl (Or.inl rfl) (pe_op op_mod (pe_callTy call_int1 (by rfl) T.n_int (by decide +kernel) (pa_cons (pe_op op_addU (pe_op op_addU (pe_op op_addU (pe_op op_mul (pv 4) pe_int) (pe_op op_mul (pe_op op_mul pe_int (pv 2)) (pv 2))) (pe_op op_mul pe_int (pv 2))) pe_int) pa_nil)) pe_int))
      (pss_cons (ps_set (i := 5) sc__law_draw.nd rfl (Or.inl rfl) (pe_op op_mod (pe_callTy call_int1 (by rfl) T.n_int (by decide +kernel) (pa_cons (pe_op op_addU (pe_op op_addU (pe_op op_mul (pv 5) pe_int) (pe_op op_mul pe_int (pv 2))) pe_int) pa_nil)) pe_int))
      (pss_one (ps_ret (pe_op op_mod (pe_callTy call_int1 (by rfl) T.n_int (by decide +kernel) (pa_cons (pe_op op_fdiv (pe_op op_mod (pe_callTy call_int1 (by rfl) T.n_int (by decide +kernel) (pa_cons (pe_op op_mul (pv 5) (pv 5)) pa_nil)) pe_int) pe_int) pa_nil)) (pv 1)))))))))))
theorem tm__law_told (T : Txt K mg A B)  {f : Addr} {cdv : Value} {Ar : Around} {outer : List Env} {s : Shared} {H : Hp} {E : XK} (hr : Room 0 (Ar.deeper (envOfC "_law_told" (defScope s__law_told) s.heap.objs.size f cdv))) :
    PSs (cxOf CX0 Pr w K mg base N__law_told "_law_told" (defScope s__law_told) f cdv Ar outer s H E).nox (defBody s__law_told) (t__law_told K A) :=
  (pss_cons (ps_set (i := 3) sc__law_told.nd rfl (Or.inl rfl) pe_non)
      (pss_cons (ps_for PassesOwn.never rfl (pi_list (pv 0)) (pg_name (i := 4) sc__law_told.nd rfl (Or.inl rfl)) (pss_one (ps_if (PW.pt (pw_and (pt_cmpR (op_eqP hr.units) (pe_ix ix_seq (pv 4) pe_int (fun _ _ => rfl)) (pv 1) (nomark _)) (pw_and (pt_cmpR (op_leP hr.units) (pe_ix ix_seq (pv 4) pe_int (fun _ _ => rfl)) (pv 2) (nomark _)) (pw_and1 (PW.pt (pw_or (pt_cmpR op_isN (pv 3) pe_non (nomark _)) (pw_or1 (pt_cmpR (op_gtP hr.units) (pe_ix ix_seq (pv 4) pe_int (fun _ _ => rfl)) (pe_ix ix_seq (pv 3) pe_int (fun _ _ => rfl)) (nomark _))))))))) (pss_one (ps_set (i := 3) sc__law_told.nd rfl (Or.inl rfl) (pv 4))) pss_nil)))
      (pss_cons (ps_if (PW.pt (pw_or (pt_cmpR op_isN (pv 3) pe_non (nomark _)) (pw_or1 (pt_cmpR (op_eqP hr.units) (pe_ix ix_seq (pv 3) pe_int (fun _ _ => rfl)) pe_str (nomark _))))) (pss_one (ps_ret pe_non)) pss_nil)
      (pss_cons (ps_set (i := 5) sc__law_told.nd rfl (Or.inl rfl) (pe_ifExp (pt_cmpR (op_eqP hr.units) (pe_ix ix_seq (pv 3) pe_int (fun _ _ => rfl)) pe_str (nomark _)) (pe_op op_sub (pv 2) (pe_ix ix_seq (pv 3) pe_int (fun _ _ => rfl))) pe_int))
      (pss_one (ps_ret (pe_tup (pa_cons (pe_ix ix_seq (pv 3) pe_int (fun _ _ => rfl)) (pa_cons (pe_ix ix_seq (pv 3) pe_int (fun _ _ => rfl)) (pa_cons (pe_op op_addU (pe_ix ix_seq (pv 3) pe_int (fun _ _ => rfl)) (pv 5)) (pa_cons (pe_ifExp (pt_cmpR (op_eqP hr.units) (pe_callB call_len (by rfl) T.n_len (by decide +kernel) (pa_cons (pv 3) pa_nil)) pe_int (nomark _)) (pe_ix ix_seq (pv 3) pe_int (fun _ _ => rfl)) pe_non) pa_nil)))))))))))
theorem tm__law_length (T : Txt K mg A B)  {f : Addr} {cdv : Value} {Ar : Around} {outer : List Env} {s : Shared} {H : Hp} {E : XK} (hr : Room 0 (Ar.deeper (envOfC "_law_length" (defScope s__law_length) s.heap.objs.size f cdv))) :
    PSs (cxOf CX0 Pr w K mg base N__law_length "_law_length" (defScope s__law_length) f cdv Ar outer s H E).nox (defBody s__law_length) (t__law_length K A) :=
  (pss_cons (ps_par (i := 3) (j := 4) (by rfl) sc__law_length.nd rfl rfl (by decide) rfl rfl (pa_cons (pe_ix ix_seq (pv 0) (pv 1) (fun _ _ => rfl)) (pa_cons pe_int pa_nil)) (by rfl))
      (pss_cons (ps_while PassesOwn.never (pt_cmpR (op_ltP hr.units) (pe_op op_addU (pv 1) (pv 4)) (pe_callB call_len (by rfl) T.n_len (by decide +kernel) (pa_cons (pv 0) pa_nil)) (nomark _)) (pss_cons (ps_if (pt_cmpR (op_neP hr.units) (pe_ix ix_seq (pv 0) (pe_op op_addU (pv 1) (pv 4)) (fun _ _ => rfl)) (pe_tup (pa_cons (pe_ix ix_seq (pv 3) pe_int (fun _ _ => rfl)) (pa_cons (pe_ix ix_seq (pv 3) pe_int (fun _ _ => rfl)) (pa_cons (pe_op op_addU (pe_ix ix_seq (pv 3) pe_int (fun _ _ => rfl)) (pe_op op_mul (pv 2) (pv 4))) (pa_cons (pe_ix ix_seq (pv 3) pe_int (fun _ _ => rfl)) pa_nil))))) (nomark _)) (pss_one (ps_ret (pv 4))) pss_nil)
      (pss_one (ps_set (i := 4) sc__law_length.nd rfl (Or.inl rfl) (pe_op op_addU (pv 4) pe_int)))))
      (pss_one (ps_ret pe_non))))
theorem tm_is_count (T : Txt K mg A B) (G_is_integer : FnOk Pr w K mg base CX0 1 A.a_is_integer B.d_is_integer ["value"] (spD K (R_is_integer A))) {f : Addr} {cdv : Value} {Ar : Around} {outer : List Env} {s : Shared} {H : Hp} {E : XK} (hr : Room 1 (Ar.deeper (envOfC "is_count" (defScope s_is_count) s.heap.objs.size f cdv))) :
    PSs (cxOf CX0 Pr w K mg base N_is_count "is_count" (defScope s_is_count) f cdv Ar outer s H E).nox (defBody s_is_count) (t_is_count K A) :=
  (pss_one (ps_ret (pe_and (pe_call G_is_integer (hr.mono (by decide)) (by rfl) T.g_is_integer T.f_is_integer.kp T.b_is_integer .nil pass0 (pa_cons (pv 0) pa_nil)) (pe_one (pe_cmpR (op_geP hr.units) (pv 0) pe_int (nomark _))))))
theorem tm_told_of (T : Txt K mg A B) (G_word_of : FnOk Pr w K mg base CX0 1 A.a_word_of B.d_word_of ["piece"] (spD K (R_word_of A))) {f : Addr} {cdv : Value} {Ar : Around} {outer : List Env} {s : Shared} {H : Hp} {E : XK} (hr : Room 1 (Ar.deeper (envOfC "told_of" (defScope s_told_of) s.heap.objs.size f cdv))) :
    PSs (cxOf CX0 Pr w K mg base N_told_of "told_of" (defScope s_told_of) f cdv Ar outer s H E).nox (defBody s_told_of) (t_told_of K A) :=
  (pss_cons (ps_if (pt_cmpR (op_eqP hr.units) (pe_ix ix_seq (pv 0) pe_int (fun _ _ => rfl)) pe_str (nomark _)) (pss_one (ps_ret pe_non)) pss_nil)
      (pss_one (ps_ret (pe_tup (pa_cons (pe_ix ix_seq (pv 0) pe_int (fun _ _ => rfl)) (pa_cons (pe_ix ix_seq (pv 0) pe_int (fun _ _ => rfl)) (pa_cons (pe_ix ix_seq (pv 0) pe_int (fun _ _ => rfl)) (pa_cons (pe_ix ix_seq (pv 0) pe_int (fun _ _ => rfl)) (pa_cons (pe_call G_word_of (hr.mono (by decide)) (by rfl) T.g_word_of T.f_word_of.kp T.b_word_of .nil pass0 (pa_cons (pv 0) pa_nil)) pa_nil)))))))))
theorem tm__some_columns (T : Txt K mg A B) (G_told_further : FnOk Pr w K mg base CX0 1 A.a_told_further B.d_told_further ["told", "by"] (spD K (R_told_further A))) {f : Addr} {cdv : Value} {Ar : Around} {outer : List Env} {s : Shared} {H : Hp} {E : XK} (hr : Room 1 (Ar.deeper (envOfC "_some_columns" (defScope s__some_columns) s.heap.objs.size f cdv))) :
    PSs (cxOf CX0 Pr w K mg base N__some_columns "_some_columns" (defScope s__some_columns) f cdv Ar outer s H E).nox (defBody s__some_columns) (t__some_columns K A) :=
  (pss_cons (ps_set (i := 1) sc__some_columns.nd rfl (Or.inl rfl) (pe_lst pa_nil))
      (pss_cons (ps_for PassesOwn.never rfl (pi_enum (by rfl) T.n_enumerate (pa_cons (pv 0) pa_nil)) (pg_tup rfl (pgs_cons (pg_name (i := 2) sc__some_columns.nd rfl (Or.inl rfl)) (pgs_cons (pg_tup rfl (pgs_cons (pg_name (i := 3) sc__some_columns.nd rfl (Or.inl rfl)) (pgs_cons (pg_name (i := 4) sc__some_columns.nd rfl (Or.inl rfl)) pgs_nil))) pgs_nil))) (pss_cons (ps_set (i := 5) sc__some_columns.nd rfl (Or.inl rfl) pe_int)
      (pss_cons (ps_if (pt_cmpR (op_ltP hr.units) (pe_op op_addU (pv 2) pe_int) (pe_callB call_len (by rfl) T.n_len (by decide +kernel) (pa_cons (pv 0) pa_nil)) (nomark _)) (pss_one (ps_set (i := 5) sc__some_columns.nd rfl (Or.inl rfl) (pe_callB (call_min2 rfl) (by rfl) T.n_min (by decide +kernel) (pa_cons pe_int (pa_cons (pe_op op_sub (pe_ix ix_seq (pe_ix ix_seq (pv 0) (pe_op op_addU (pv 2) pe_int) (fun _ _ => rfl)) pe_int (fun _ _ => rfl)) (pv 3)) pa_nil))))) pss_nil)
      (pss_one (ps_for PassesOwn.never rfl (pi_range1 rfl T.n_range (pa_cons (pv 5) pa_nil)) (pg_name (i := 6) sc__some_columns.nd rfl (Or.inl rfl)) (pss_cons (ps_set (i := 7) sc__some_columns.nd rfl (Or.inl rfl) (pe_call G_told_further (hr.mono (by decide)) (by rfl) T.g_told_further T.f_told_further.kp T.b_told_further .nil pass0 (pa_cons (pv 4) (pa_cons (pv 6) pa_nil))))
      (pss_one (ps_expr (pe_bm PySem.F.plainAttrs_list PySem.F.slot_list_append PySem.F.type_list_append mt_append (pv 1) (pa_cons (pe_tup (pa_cons (pe_op op_addU (pv 3) (pv 6)) (pa_cons (pe_ifExp (pt_truth (pv 7) (by intro _; rfl)) (pe_slice sl_U (pv 7) (po_some pe_int) po_none) pe_non) pa_nil))) pa_nil))))))))))
      (pss_one (ps_ret (pv 1)))))
theorem tm__law_of (T : Txt K mg A B) (G__law_draw : FnOk Pr w K mg base CX0 1 A.a__law_draw B.d__law_draw ["m", "top"] (spD K (R__law_draw A))) {f : Addr} {cdv : Value} {Ar : Around} {outer : List Env} {s : Shared} {H : Hp} {E : XK} (hr : Room 1 (Ar.deeper (envOfC "_law_of" (defScope s__law_of) s.heap.objs.size f cdv))) :
    PSs (cxOf CX0 Pr w K mg base N__law_of "_law_of" (defScope s__law_of) f cdv Ar outer s H E).nox (defBody s__law_of) (t__law_of K A) :=
  (pss_one (ps_ret (pe_ix ix_seq (pv 1) (pe_call G__law_draw (hr.mono (by decide)) (by rfl) T.g__law_draw T.f__law_draw.kp T.b__law_draw .nil pass0 (pa_cons (pv 0) (pa_cons (pe_callB call_len (by rfl) T.n_len (by decide +kernel) (pa_cons (pv 1) pa_nil)) pa_nil))) (fun _ _ => rfl))))
theorem tm__law_values (T : Txt K mg A B) (G__law_told : FnOk Pr w K mg base CX0 1 A.a__law_told B.d__law_told ["some", "row", "place"] (spD K (R__law_told A))) {f : Addr} {cdv : Value} {Ar : Around} {outer : List Env} {s : Shared} {H : Hp} {E : XK} (hr : Room 1 (Ar.deeper (envOfC "_law_values" (defScope s__law_values) s.heap.objs.size f cdv))) :
    PSs (cxOf CX0 Pr w K mg base N__law_values "_law_values" (defScope s__law_values) f cdv Ar outer s H E).nox (defBody s__law_values) (t__law_values K A) :=
  (pss_cons (ps_set (i := 2) sc__law_values.nd rfl (Or.inl rfl) (pe_callB (call_maxP rfl hr.units) (by rfl) T.n_max (by decide +kernel) (pa_cons (pe_op op_addU (pe_lst (pa_cons (pe_un un_neg pe_int) pa_nil)) (pe_lc (own := [("one", 3)]) rfl sc__law_values.nd (pi_list (pv 0)) (blkOk_by (own := [("one", 3)]) (N := N__law_values) (sc := defScope s__law_values) (by decide +kernel)) (fun _ _ _ _ _ => (pg_name (i := 3) sc__law_values.nd rfl (Or.inl rfl))) (fun _ _ _ _ _ => pts_one (pt_cmpR (op_eqP hr.units) (pe_ix ix_seq (pv 3) pe_int (fun _ _ => rfl)) (pv 1) (nomark _))) (fun _ _ _ _ _ => (pe_ix ix_seq (pv 3) pe_int (fun _ _ => rfl))))) pa_nil)))
      (pss_one (ps_ret (pe_lc (own := [("place", 4)]) rfl sc__law_values.nd (pi_range1 rfl T.n_range (pa_cons (pe_op op_addU (pv 2) pe_int) pa_nil)) (blkOk_by (own := [("place", 4)]) (N := N__law_values) (sc := defScope s__law_values) (by decide +kernel)) (fun _ _ _ _ _ => (pg_name (i := 4) sc__law_values.nd rfl (Or.inl rfl))) (fun _ _ _ _ _ => pts_nil) (fun _ _ _ _ _ => (pe_call G__law_told (hr.mono (by decide)) (by rfl) T.g__law_told T.f__law_told.kp T.b__law_told .nil pass0 (pa_cons (pv 0) (pa_cons (pv 1) (pa_cons (pv 4) pa_nil)))))))))
theorem tm__law_pieces (T : Txt K mg A B) (G__law_length : FnOk Pr w K mg base CX0 1 A.a__law_length B.d__law_length ["values", "place", "step"] (spD K (R__law_length A))) {f : Addr} {cdv : Value} {Ar : Around} {outer : List Env} {s : Shared} {H : Hp} {E : XK} (hr : Room 1 (Ar.deeper (envOfC "_law_pieces" (defScope s__law_pieces) s.heap.objs.size f cdv))) :
    PSs (cxOf CX0 Pr w K mg base N__law_pieces "_law_pieces" (defScope s__law_pieces) f cdv Ar outer s H E).nox (defBody s__law_pieces) (t__law_pieces K A) :=
  (pss_cons (ps_par (i := 2) (j := 3) (by rfl) sc__law_pieces.nd rfl rfl (by decide) rfl rfl (pa_cons (pe_lst pa_nil) (pa_cons pe_int pa_nil)) (by rfl))
      (pss_cons (ps_while PassesOwn.never (PW.pt (pw_and (pt_cmpR op_notN (pv 3) pe_non (nomark _)) (pw_and1 (pt_cmpR (op_ltP hr.units) (pv 3) (pe_callB call_len (by rfl) T.n_len (by decide +kernel) (pa_cons (pv 1) pa_nil)) (nomark _))))) (pss_cons (ps_par (i := 4) (j := 5) (by rfl) sc__law_pieces.nd rfl rfl (by decide) rfl rfl (pa_cons (pe_ix ix_seq (pv 1) (pv 3) (fun _ _ => rfl)) (pa_cons pe_int pa_nil)) (by rfl))
      (pss_cons (ps_if (pt_cmpR op_isN (pv 4) pe_non (nomark _)) (pss_cons (ps_while PassesOwn.never (PW.pt (pw_and (pt_cmpR (op_ltP hr.units) (pe_op op_addU (pv 3) (pv 5)) (pe_callB call_len (by rfl) T.n_len (by decide +kernel) (pa_cons (pv 1) pa_nil)) (nomark _)) (pw_and1 (pt_cmpR op_isN (pe_ix ix_seq (pv 1) (pe_op op_addU (pv 3) (pv 5)) (fun _ _ => rfl)) pe_non (nomark _))))) (pss_one (ps_set (i := 5) sc__law_pieces.nd rfl (Or.inl rfl) (pe_op op_addU (pv 5) pe_int))))
      (pss_cons (ps_if (pt_cmpR (op_neP hr.units) (pv 2) (pe_lst pa_nil) (nomark _)) (pss_one (ps_expr (pe_bm PySem.F.plainAttrs_list PySem.F.slot_list_append PySem.F.type_list_append mt_append (pv 2) (pa_cons (pe_tup (pa_cons pe_str (pa_cons (pv 0) (pa_cons (pv 3) pa_nil)))) pa_nil)))) pss_nil)
      (pss_cons (ps_set (i := 3) sc__law_pieces.nd rfl (Or.inl rfl) (pe_op op_addU (pv 3) (pv 5)))
      (pss_one ps_continue)))) pss_nil)
      (pss_cons (ps_par (i := 6) (j := 7) (by rfl) sc__law_pieces.nd rfl rfl (by decide) rfl rfl (pa_cons (pe_call G__law_length (hr.mono (by decide)) (by rfl) T.g__law_length T.f__law_length.kp T.b__law_length .nil pass0 (pa_cons (pv 1) (pa_cons (pv 3) (pa_cons pe_int pa_nil)))) (pa_cons (pe_call G__law_length (hr.mono (by decide)) (by rfl) T.g__law_length T.f__law_length.kp T.b__law_length .nil pass0 (pa_cons (pv 1) (pa_cons (pv 3) (pa_cons pe_int pa_nil)))) pa_nil)) (by rfl))
      (pss_cons (ps_set (i := 8) sc__law_pieces.nd rfl (Or.inl rfl) (pe_and (pe_cmpR op_notN (pv 7) pe_non (nomark _)) (pe_one (pe_or (pe_cmpR op_isN (pv 6) pe_non (nomark _)) (pe_one (pe_cmpR (op_geP hr.units) (pv 6) (pv 7) (nomark _)))))))
      (pss_cons (ps_set (i := 9) sc__law_pieces.nd rfl (Or.inl rfl) (pe_op op_addU (pe_tup (pa_cons (pv 0) (pa_cons (pv 3) (pa_cons (pe_ix ix_seq (pv 4) pe_int (fun _ _ => rfl)) (pa_cons (pe_ix ix_seq (pv 4) pe_int (fun _ _ => rfl)) (pa_cons (pe_ix ix_seq (pv 4) pe_int (fun _ _ => rfl)) pa_nil)))))) (pe_ifExp (pt_cmpR op_notN (pe_ix ix_seq (pv 4) pe_int (fun _ _ => rfl)) pe_non (nomark _)) (pe_tup (pa_cons (pe_ix ix_seq (pv 4) pe_int (fun _ _ => rfl)) pa_nil)) (pe_tup pa_nil))))
      (pss_cons (ps_expr (pe_bm PySem.F.plainAttrs_list PySem.F.slot_list_append PySem.F.type_list_append mt_append (pv 2) (pa_cons (pe_op op_addU (pe_ifExp (pt_truth (pv 8) (by intro _; rfl)) (pe_tup (pa_cons pe_str pa_nil)) (pe_tup (pa_cons pe_str pa_nil))) (pv 9)) pa_nil)))
      (pss_cons (ps_set (i := 5) sc__law_pieces.nd rfl (Or.inl rfl) (pe_ifExp (pt_truth (pv 8) (by intro _; rfl)) (pv 6) (pv 7)))
      (pss_one (ps_set (i := 3) sc__law_pieces.nd rfl (Or.inl rfl) (pe_ifExp (pt_cmpR op_isN (pv 5) pe_non (nomark _)) pe_non (pe_op op_addU (pv 3) (pv 5)))))))))))))
      (pss_one (ps_ret (pv 2)))))
theorem tm_is_up_to (T : Txt K mg A B) (G_is_count : FnOk Pr w K mg base CX0 2 A.a_is_count B.d_is_count ["value"] (spD K (R_is_count A))) {f : Addr} {cdv : Value} {Ar : Around} {outer : List Env} {s : Shared} {H : Hp} {E : XK} (hr : Room 2 (Ar.deeper (envOfC "is_up_to" (defScope s_is_up_to) s.heap.objs.size f cdv))) :
    PSs (cxOf CX0 Pr w K mg base N_is_up_to "is_up_to" (defScope s_is_up_to) f cdv Ar outer s H E).nox (defBody s_is_up_to) (t_is_up_to K A) :=
  (pss_one (ps_ret (pe_and (pe_call G_is_count (hr.mono (by decide)) (by rfl) T.g_is_count T.f_is_count.kp T.b_is_count .nil pass0 (pa_cons (pv 0) pa_nil)) (pe_one (pe_or (pe_cmpR op_isN (pv 1) pe_non (nomark _)) (pe_one (pe_cmpR (op_leP hr.units) (pv 0) (pv 1) (nomark _))))))))
theorem tm_stretches_of (T : Txt K mg A B) (G_told_of : FnOk Pr w K mg base CX0 2 A.a_told_of B.d_told_of ["piece"] (spD K (R_told_of A))) {f : Addr} {cdv : Value} {Ar : Around} {outer : List Env} {s : Shared} {H : Hp} {E : XK} (hr : Room 2 (Ar.deeper (envOfC "stretches_of" (defScope s_stretches_of) s.heap.objs.size f cdv))) :
    PSs (cxOf CX0 Pr w K mg base N_stretches_of "stretches_of" (defScope s_stretches_of) f cdv Ar outer s H E).nox (defBody s_stretches_of) (t_stretches_of K A) :=
  (pss_one (ps_ret (pe_lc (own := [("piece", 1)]) rfl sc_stretches_of.nd (pi_seq (pv 0)) (blkOk_by (own := [("piece", 1)]) (N := N_stretches_of) (sc := defScope s_stretches_of) (by decide +kernel)) (fun _ _ _ _ _ => (pg_name (i := 1) sc_stretches_of.nd rfl (Or.inl rfl))) (fun _ _ _ _ _ => pts_nil) (fun _ _ _ _ _ => (pe_tup (pa_cons (pe_ix ix_seq (pv 1) pe_int (fun _ _ => rfl)) (pa_cons (pe_call G_told_of (hr.mono (by decide)) (by rfl) T.g_told_of T.f_told_of.kp T.b_told_of .nil pass0 (pa_cons (pv 1) pa_nil)) pa_nil)))))))
theorem tm_fewest (T : Txt K mg A B) (G__goes_on : FnOk Pr w K mg base CX0 1 A.a__goes_on B.d__goes_on ["piece", "column", "target"] (spD K (R__goes_on A))) (G__some_columns : FnOk Pr w K mg base CX0 2 A.a__some_columns B.d__some_columns ["stretches"] (spD K (R__some_columns A))) {f : Addr} {cdv : Value} {Ar : Around} {outer : List Env} {s : Shared} {H : Hp} {E : XK} (hr : Room 2 (Ar.deeper (envOfC "fewest" (defScope s_fewest) s.heap.objs.size f cdv))) :
    PSs (cxOf CX0 Pr w K mg base N_fewest "fewest" (defScope s_fewest) f cdv Ar outer s H E).nox (defBody s_fewest) (t_fewest K A) :=
  (pss_cons (ps_set (i := 1) sc_fewest.nd rfl (Or.inl rfl) (pe_lst pa_nil))
      (pss_cons (ps_set (i := 2) sc_fewest.nd rfl (Or.inl rfl) (pe_tup (pa_cons pe_int (pa_cons pe_str (pa_cons pe_non pa_nil)))))
      (pss_cons (ps_for PassesOwn.never rfl (pi_list (pe_call G__some_columns (hr.mono (by decide)) (by rfl) T.g__some_columns T.f__some_columns.kp T.b__some_columns .nil pass0 (pa_cons (pv 0) pa_nil))) (pg_tup rfl (pgs_cons (pg_name (i := 3) sc_fewest.nd rfl (Or.inl rfl)) (pgs_cons (pg_name (i := 4) sc_fewest.nd rfl (Or.inl rfl)) pgs_nil))) (pss_cons (ps_if (PW.pt (pw_and (pt_cmpR op_notN (pv 4) pe_non (nomark _)) (pw_and (pt_cmpR (op_eqP hr.units) (pv 4) (pe_ix ix_seq (pv 2) pe_int (fun _ _ => rfl)) (nomark _)) (pw_and1 (pt_cmpR (op_eqP hr.units) (pv 3) (pe_op op_addU (pe_ix ix_seq (pv 2) pe_int (fun _ _ => rfl)) pe_int) (nomark _)))))) (pss_one (ps_set (i := 2) sc_fewest.nd rfl (Or.inl rfl) (pe_tup (pa_cons (pe_ix ix_seq (pv 2) pe_int (fun _ _ => rfl)) (pa_cons pe_str (pa_cons (pv 4) pa_nil)))))) pss_nil)
      (pss_one (ps_if (pt_not (pt_val (pe_call G__goes_on (hr.mono (by decide)) (by rfl) T.g__goes_on T.f__goes_on.kp T.b__goes_on .nil pass0 (pa_cons (pv 2) (pa_cons (pv 3) (pa_cons (pv 4) pa_nil)))))) (pss_cons (ps_expr (pe_bm PySem.F.plainAttrs_list PySem.F.slot_list_append PySem.F.type_list_append mt_append (pv 1) (pa_cons (pv 2) pa_nil)))
      (pss_one (ps_set (i := 2) sc_fewest.nd rfl (Or.inl rfl) (pe_tup (pa_cons (pv 3) (pa_cons (pe_ifExp (pt_cmpR op_isN (pv 4) pe_non (nomark _)) pe_str pe_str) (pa_cons (pv 4) pa_nil))))))) pss_nil))))
      (pss_cons (ps_expr (pe_bm PySem.F.plainAttrs_list PySem.F.slot_list_append PySem.F.type_list_append mt_append (pv 1) (pa_cons (pv 2) pa_nil)))
      (pss_one (ps_ret (pe_slice sl_U (pv 1) (po_some pe_int) po_none)))))))
theorem tm__law_segments (T : Txt K mg A B) (G__law_draw : FnOk Pr w K mg base CX0 1 A.a__law_draw B.d__law_draw ["m", "top"] (spD K (R__law_draw A))) (G__law_of : FnOk Pr w K mg base CX0 2 A.a__law_of B.d__law_of ["m", "some"] (spD K (R__law_of A))) {f : Addr} {cdv : Value} {Ar : Around} {outer : List Env} {s : Shared} {H : Hp} {E : XK} (hr : Room 2 (Ar.deeper (envOfC "_law_segments" (defScope s__law_segments) s.heap.objs.size f cdv))) :
    PSs (cxOf CX0 Pr w K mg base N__law_segments "_law_segments" (defScope s__law_segments) f cdv Ar outer s H E).nox (defBody s__law_segments) (t__law_segments K A) :=
  (pss_cons (ps_par3 (i := 1) (j := 2) (l := 3) (by rfl) sc__law_segments.nd rfl rfl rfl (by decide) (by decide) (by decide) rfl rfl rfl (pa_cons (pe_lst pa_nil) (pa_cons (pe_lst pa_nil) (pa_cons (pe_call G__law_draw (hr.mono (by decide)) (by rfl) T.g__law_draw T.f__law_draw.kp T.b__law_draw .nil pass0 (pa_cons (pv 0) (pa_cons pe_int pa_nil))) pa_nil))) (by rfl))
      (pss_cons (ps_for PassesOwn.never rfl (pi_range1 rfl T.n_range (pa_cons (pe_call G__law_draw (hr.mono (by decide)) (by rfl) T.g__law_draw T.f__law_draw.kp T.b__law_draw .nil pass0 (pa_cons (pv 0) (pa_cons pe_int pa_nil))) pa_nil)) (pg_name (i := 4) sc__law_segments.nd rfl (Or.inl rfl)) (pss_cons (ps_set (i := 5) sc__law_segments.nd rfl (Or.inl rfl) (pe_tup (pa_cons (pe_call G__law_draw (hr.mono (by decide)) (by rfl) T.g__law_draw T.f__law_draw.kp T.b__law_draw .nil pass0 (pa_cons (pv 0) (pa_cons pe_int pa_nil))) (pa_cons (pe_call G__law_draw (hr.mono (by decide)) (by rfl) T.g__law_draw T.f__law_draw.kp T.b__law_draw .nil pass0 (pa_cons (pv 0) (pa_cons pe_int pa_nil))) pa_nil))))
      (pss_cons (ps_if (pt_cmpR (op_inP hr.units) (pv 5) (pv 2) rfl) (pss_one ps_continue) pss_nil)
      (pss_cons (ps_expr (pe_bm PySem.F.plainAttrs_list PySem.F.slot_list_append PySem.F.type_list_append mt_append (pv 2) (pa_cons (pv 5) pa_nil)))
      (pss_cons (ps_par (i := 6) (j := 7) (by rfl) sc__law_segments.nd rfl rfl (by decide) rfl rfl (pa_cons (pe_call G__law_draw (hr.mono (by decide)) (by rfl) T.g__law_draw T.f__law_draw.kp T.b__law_draw .nil pass0 (pa_cons (pv 0) (pa_cons pe_int pa_nil))) (pa_cons (pe_call G__law_draw (hr.mono (by decide)) (by rfl) T.g__law_draw T.f__law_draw.kp T.b__law_draw .nil pass0 (pa_cons (pv 0) (pa_cons pe_int pa_nil))) pa_nil)) (by rfl))
      (pss_cons (ps_if (pt_cmpR (op_eqP hr.units) (pv 6) pe_int (nomark _)) (pss_cons (ps_expr (pe_bm PySem.F.plainAttrs_list PySem.F.slot_list_append PySem.F.type_list_append mt_append (pv 1) (pa_cons (pe_tup (pa_cons pe_str (pa_cons (pe_ix ix_seq (pv 5) pe_int (fun _ _ => rfl)) (pa_cons (pe_ix ix_seq (pv 5) pe_int (fun _ _ => rfl)) pa_nil)))) pa_nil)))
      (pss_one ps_continue)) pss_nil)
      (pss_cons (ps_par (i := 7) (j := 8) (by rfl) sc__law_segments.nd rfl rfl (by decide) rfl rfl (pa_cons (pe_ifExp (pt_cmpR (op_ltP hr.units) (pv 6) pe_int (nomark _)) (pe_op op_addU (pe_ix ix_seq (pv 5) pe_int (fun _ _ => rfl)) (pv 3)) (pv 7)) (pa_cons (pe_call G__law_of (hr.mono (by decide)) (by rfl) T.g__law_of T.f__law_of.kp T.b__law_of .nil pass0 (pa_cons (pv 0) (pa_cons (pe_lst (pa_cons pe_str (pa_cons pe_str (pa_cons pe_str pa_nil)))) pa_nil))) pa_nil)) (by rfl))
      (pss_cons (ps_set (i := 9) sc__law_segments.nd rfl (Or.inl rfl) (pe_op op_addU (pe_op op_addU (pe_tup (pa_cons (pe_ifExp (pt_cmpR (op_ltP hr.units) (pv 6) pe_int (nomark _)) pe_str pe_str) pa_nil)) (pv 5)) (pe_tup (pa_cons (pv 8) (pa_cons (pe_call G__law_draw (hr.mono (by decide)) (by rfl) T.g__law_draw T.f__law_draw.kp T.b__law_draw .nil pass0 (pa_cons (pv 0) (pa_cons pe_int pa_nil))) (pa_cons (pv 7) pa_nil))))))
      (pss_cons (ps_if (pt_cmpR (op_eqP hr.units) (pe_call G__law_draw (hr.mono (by decide)) (by rfl) T.g__law_draw T.f__law_draw.kp T.b__law_draw .nil pass0 (pa_cons (pv 0) (pa_cons pe_int pa_nil))) pe_int (nomark _)) (pss_one (ps_set (i := 9) sc__law_segments.nd rfl (Or.inl rfl) (pe_op op_addU (pv 9) (pe_tup (pa_cons (pe_call G__law_of (hr.mono (by decide)) (by rfl) T.g__law_of T.f__law_of.kp T.b__law_of .nil pass0 (pa_cons (pv 0) (pa_cons (pe_lst (pa_cons pe_str (pa_cons pe_str pa_nil))) pa_nil))) pa_nil))))) pss_nil)
      (pss_one (ps_expr (pe_bm PySem.F.plainAttrs_list PySem.F.slot_list_append PySem.F.type_list_append mt_append (pv 1) (pa_cons (pv 9) pa_nil)))))))))))))
      (pss_one (ps_ret (pv 1)))))
theorem tm__law_all (T : Txt K mg A B) (G__law_pieces : FnOk Pr w K mg base CX0 2 A.a__law_pieces B.d__law_pieces ["row", "values"] (spD K (R__law_pieces A))) (G__law_values : FnOk Pr w K mg base CX0 2 A.a__law_values B.d__law_values ["some", "row"] (spD K (R__law_values A))) {f : Addr} {cdv : Value} {Ar : Around} {outer : List Env} {s : Shared} {H : Hp} {E : XK} (hr : Room 2 (Ar.deeper (envOfC "_law_all" (defScope s__law_all) s.heap.objs.size f cdv))) :
    PSs (cxOf CX0 Pr w K mg base N__law_all "_law_all" (defScope s__law_all) f cdv Ar outer s H E).nox (defBody s__law_all) (t__law_all K A) :=
  (pss_one (ps_ret (pe_op op_addU (pe_call G__law_pieces (hr.mono (by decide)) (by rfl) T.g__law_pieces T.f__law_pieces.kp T.b__law_pieces .nil pass0 (pa_cons pe_int (pa_cons (pe_call G__law_values (hr.mono (by decide)) (by rfl) T.g__law_values T.f__law_values.kp T.b__law_values .nil pass0 (pa_cons (pv 0) (pa_cons pe_int pa_nil))) pa_nil))) (pe_call G__law_pieces (hr.mono (by decide)) (by rfl) T.g__law_pieces T.f__law_pieces.kp T.b__law_pieces .nil pass0 (pa_cons pe_int (pa_cons (pe_call G__law_values (hr.mono (by decide)) (by rfl) T.g__law_values T.f__law_values.kp T.b__law_values .nil pass0 (pa_cons (pv 0) (pa_cons pe_int pa_nil))) pa_nil))))))
theorem tm_check_up_to (T : Txt K mg A B) (G_is_up_to : FnOk Pr w K mg base CX0 3 A.a_is_up_to B.d_is_up_to ["value", "limit"] (spD K (R_is_up_to A))) {f : Addr} {cdv : Value} {Ar : Around} {outer : List Env} {s : Shared} {H : Hp} {E : XK} (hr : Room 3 (Ar.deeper (envOfC "check_up_to" (defScope s_check_up_to) s.heap.objs.size f cdv))) :
    PSs (cxOf CX0 Pr w K mg base N_check_up_to "check_up_to" (defScope s_check_up_to) f cdv Ar outer s H E).nox (defBody s_check_up_to) (t_check_up_to K A) :=
  (pss_one (ps_if (pt_not (pt_val (pe_call G_is_up_to (hr.mono (by decide)) (by rfl) T.g_is_up_to T.f_is_up_to.kp T.b_is_up_to .nil pass0 (pa_cons (pv 0) (pa_cons (pv 1) pa_nil))))) pss_never pss_nil))
theorem tm_piece_tuples (T : Txt K mg A B) (G_fewest : FnOk Pr w K mg base CX0 3 A.a_fewest B.d_fewest ["stretches"] (spD K (R_fewest A))) {f : Addr} {cdv : Value} {Ar : Around} {outer : List Env} {s : Shared} {H : Hp} {E : XK} (hr : Room 3 (Ar.deeper (envOfC "piece_tuples" (defScope s_piece_tuples) s.heap.objs.size f cdv))) :
    PSs (cxOf CX0 Pr w K mg base N_piece_tuples "piece_tuples" (defScope s_piece_tuples) f cdv Ar outer s H E).nox (defBody s_piece_tuples) (t_piece_tuples K A) :=
  (pss_cons (ps_set (i := 2) sc_piece_tuples.nd rfl (Or.inl rfl) (pe_lst pa_nil))
      (pss_cons (ps_for PassesOwn.never rfl (pi_list (pe_call G_fewest (hr.mono (by decide)) (by rfl) T.g_fewest T.f_fewest.kp T.b_fewest .nil pass0 (pa_cons (pv 1) pa_nil))) (pg_tup rfl (pgs_cons (pg_name (i := 3) sc_piece_tuples.nd rfl (Or.inl rfl)) (pgs_cons (pg_name (i := 4) sc_piece_tuples.nd rfl (Or.inl rfl)) (pgs_cons (pg_name (i := 5) sc_piece_tuples.nd rfl (Or.inl rfl)) pgs_nil)))) (pss_one (ps_if (pt_cmpR op_isN (pv 5) pe_non (nomark _)) (pss_one (ps_expr (pe_bm PySem.F.plainAttrs_list PySem.F.slot_list_append PySem.F.type_list_append mt_append (pv 2) (pa_cons (pe_tup (pa_cons (pv 4) (pa_cons (pv 0) (pa_cons (pv 3) pa_nil)))) pa_nil)))) (pss_cons (ps_asg (pv 5) (pg_tup rfl (pgs_cons (pg_name (i := 6) sc_piece_tuples.nd rfl (Or.inl rfl)) (pgs_cons (pg_name (i := 7) sc_piece_tuples.nd rfl (Or.inl rfl)) (pgs_cons (pg_name (i := 8) sc_piece_tuples.nd rfl (Or.inl rfl)) (pgs_cons (pg_name (i := 9) sc_piece_tuples.nd rfl (Or.inl rfl)) pgs_nil))))))
      (pss_cons (ps_set (i := 10) sc_piece_tuples.nd rfl (Or.inl rfl) (pe_ifExp (pt_cmpR op_isN (pv 9) pe_non (nomark _)) (pe_tup pa_nil) (pe_tup (pa_cons (pv 9) pa_nil))))
      (pss_one (ps_expr (pe_bm PySem.F.plainAttrs_list PySem.F.slot_list_append PySem.F.type_list_append mt_append (pv 2) (pa_cons (pe_op op_addU (pe_tup (pa_cons (pv 4) (pa_cons (pv 0) (pa_cons (pv 3) (pa_cons (pv 6) (pa_cons (pv 7) (pa_cons (pv 8) pa_nil))))))) (pv 10)) pa_nil)))))))))
      (pss_one (ps_ret (pe_callTy call_tuple_of (by rfl) T.n_tuple (by decide +kernel) (pa_cons (pv 2) pa_nil))))))
theorem tm__are_numbers (T : Txt K mg A B) (G_is_up_to : FnOk Pr w K mg base CX0 3 A.a_is_up_to B.d_is_up_to ["value", "limit"] (spD K (R_is_up_to A))) {f : Addr} {cdv : Value} {Ar : Around} {outer : List Env} {s : Shared} {H : Hp} {E : XK} (hr : Room 3 (Ar.deeper (envOfC "_are_numbers" (defScope s__are_numbers) s.heap.objs.size f cdv))) :
    PSs (cxOf CX0 Pr w K mg base N__are_numbers "_are_numbers" (defScope s__are_numbers) f cdv Ar outer s H E).nox (defBody s__are_numbers) (t__are_numbers K A) :=
  (pss_cons (ps_if (PW.pt (pw_or (pt_not (pt_val (pe_callB call_isi (by rfl) T.n_isinstance (by decide +kernel) (pa_cons (pv 0) (pa_cons (pe_bltn (v := .ty "tuple") (by rfl) T.n_tuple (by decide +kernel) rfl) pa_nil))))) (pw_or1 (pt_cmpR (op_neP hr.units) (pe_callB call_len (by rfl) T.n_len (by decide +kernel) (pa_cons (pv 0) pa_nil)) (pv 1) (nomark _))))) (pss_one (ps_ret pe_bl)) pss_nil)
      (pss_one (ps_ret (pe_callB (cr_all rfl) (by rfl) T.n_all (by decide +kernel) (pa_cons (pe_lc (own := [("number", 3)]) rfl sc__are_numbers.nd (pi_tup (pv 0)) (blkOk_by (own := [("number", 3)]) (N := N__are_numbers) (sc := defScope s__are_numbers) (by decide +kernel)) (fun _ _ _ _ _ => (pg_name (i := 3) sc__are_numbers.nd rfl (Or.inl rfl))) (fun _ _ _ _ _ => pts_nil) (fun _ _ _ _ _ => (pe_call G_is_up_to (hr.mono (by decide)) (by rfl) T.g_is_up_to T.f_is_up_to.kp T.b_is_up_to .nil pass0 (pa_cons (pv 3) (pa_cons (pv 2) pa_nil))))) pa_nil)))))
theorem tm__lines_of_segments (T : Txt K mg A B) (G_stretches_of : FnOk Pr w K mg base CX0 3 A.a_stretches_of B.d_stretches_of ["pieces_of_line"] (spD K (R_stretches_of A))) {f : Addr} {cdv : Value} {Ar : Around} {outer : List Env} {s : Shared} {H : Hp} {E : XK} (hr : Room 3 (Ar.deeper (envOfC "_lines_of_segments" (defScope s__lines_of_segments) s.heap.objs.size f cdv))) :
    PSs (cxOf CX0 Pr w K mg base N__lines_of_segments "_lines_of_segments" (defScope s__lines_of_segments) f cdv Ar outer s H E).nox (defBody s__lines_of_segments) (t__lines_of_segments K A) :=
  (pss_cons (ps_set (i := 1) sc__lines_of_segments.nd rfl (Or.inr rfl) pe_dnewK)
      (pss_cons (ps_for PassesOwn.never rfl (pi_list (pe_callBK (cr_sortedKT (hr.mono (by decide)) (kf__begin_of T)) (by rfl) T.n_sorted (by decide +kernel) (pa_cons (pv 0) pa_nil) (pk_cons (pe_glob (v := .ref A.a__begin_of) (by rfl) T.g__begin_of (by rfl)) pk_nil))) (pg_name (i := 2) sc__lines_of_segments.nd rfl (Or.inl rfl)) (pss_one (ps_expr (pe_bm PySem.F.plainAttrs_list PySem.F.slot_list_append PySem.F.type_list_append mt_append (pe_dsetd (pv 1) (pe_ix ix_seq (pv 2) pe_int (fun _ _ => rfl)) (pe_lst pa_nil) ⟨rfl, rfl, rfl, rfl⟩) (pa_cons (pv 2) pa_nil)))))
      (pss_one (ps_frzS (i := 1) (ps_ret (pe_frz (pe_dc (own := [("line", 3)]) rfl sc__lines_of_segments.nd (pi_keys (pv 1)) (blkOk_by (own := [("line", 3)]) (N := N__lines_of_segments) (sc := defScope s__lines_of_segments) (by decide +kernel)) (fun _ _ _ _ _ => (pg_name (i := 3) sc__lines_of_segments.nd rfl (Or.inl rfl))) (fun _ _ _ _ _ => pts_nil) (fun _ _ _ _ _ => (pv 3)) (fun _ _ _ _ _ => (pe_call G_stretches_of (hr.mono (by decide)) (by rfl) T.g_stretches_of T.f_stretches_of.kp T.b_stretches_of .nil pass0 (pa_cons (pe_dget (Nat.lt_of_le_of_lt (Nat.add_le_add_left (by decide) _) hr.units) (pv 1) (pv 3) (fun _ _ => rfl)) pa_nil))))))))))
theorem tm__is_segment (T : Txt K mg A B) (G__are_numbers : FnOk Pr w K mg base CX0 4 A.a__are_numbers B.d__are_numbers ["value", "many", "limit"] (spD K (R__are_numbers A))) (G_is_source : FnOk Pr w K mg base CX0 1 A.a_is_source B.d_is_source ["value"] (spD K (R_is_source A))) {f : Addr} {cdv : Value} {Ar : Around} {outer : List Env} {s : Shared} {H : Hp} {E : XK} (hr : Room 4 (Ar.deeper (envOfC "_is_segment" (defScope s__is_segment) s.heap.objs.size f cdv))) :
    PSs (cxOf CX0 Pr w K mg base N__is_segment "_is_segment" (defScope s__is_segment) f cdv Ar outer s H E).nox (defBody s__is_segment) (t__is_segment K A) :=
  (pss_cons (ps_if (PW.pt (pw_or (pt_not (pt_val (pe_callB call_isi (by rfl) T.n_isinstance (by decide +kernel) (pa_cons (pv 0) (pa_cons (pe_bltn (v := .ty "tuple") (by rfl) T.n_tuple (by decide +kernel) rfl) pa_nil))))) (pw_or (pt_cmpR (op_niP hr.units) (pe_callB call_len (by rfl) T.n_len (by decide +kernel) (pa_cons (pv 0) pa_nil)) (pe_tup (pa_cons pe_int (pa_cons pe_int (pa_cons pe_int pa_nil)))) rfl) (pw_or1 (pt_not (pt_val (pe_callB call_isi (by rfl) T.n_isinstance (by decide +kernel) (pa_cons (pe_ix ix_seq (pv 0) pe_int (fun _ _ => rfl)) (pa_cons (pe_bltn (v := .ty "str") (by rfl) T.n_str (by decide +kernel) rfl) pa_nil))))))))) (pss_one (ps_ret pe_bl)) pss_nil)
      (pss_cons (ps_if (pt_not (pt_val (pe_call G__are_numbers (hr.mono (by decide)) (by rfl) T.g__are_numbers T.f__are_numbers.kp T.b__are_numbers .nil pass0 (pa_cons (pe_slice sl_U (pv 0) (po_some pe_int) (po_some pe_int)) (pa_cons pe_int (pa_cons (pv 1) pa_nil)))))) (pss_one (ps_ret pe_bl)) pss_nil)
      (pss_cons (ps_if (pt_cmpR (op_eqP hr.units) (pe_callB call_len (by rfl) T.n_len (by decide +kernel) (pa_cons (pv 0) pa_nil)) pe_int (nomark _)) (pss_one (ps_ret (pe_cmpR (op_eqP hr.units) (pe_ix ix_seq (pv 0) pe_int (fun _ _ => rfl)) pe_str (nomark _)))) pss_nil)
      (pss_cons (ps_set (i := 2) sc__is_segment.nd rfl (Or.inl rfl) (pe_and (pe_call G_is_source (hr.mono (by decide)) (by rfl) T.g_is_source T.f_is_source.kp T.b_is_source .nil pass0 (pa_cons (pe_ix ix_seq (pv 0) pe_int (fun _ _ => rfl)) pa_nil)) (pe_one (pe_call G__are_numbers (hr.mono (by decide)) (by rfl) T.g__are_numbers T.f__are_numbers.kp T.b__are_numbers .nil pass0 (pa_cons (pe_slice sl_U (pv 0) (po_some pe_int) (po_some pe_int)) (pa_cons pe_int (pa_cons (pv 1) pa_nil)))))))
      (pss_one (ps_ret (pe_and (pe_cmpR (op_inP hr.units) (pe_ix ix_seq (pv 0) pe_int (fun _ _ => rfl)) (pe_tup (pa_cons pe_str (pa_cons pe_str pa_nil))) rfl) (pe_and (pv 2) (pe_one (pe_or (pe_cmpR (op_eqP hr.units) (pe_callB call_len (by rfl) T.n_len (by decide +kernel) (pa_cons (pv 0) pa_nil)) pe_int (nomark _)) (pe_one (pe_call G_is_source (hr.mono (by decide)) (by rfl) T.g_is_source T.f_is_source.kp T.b_is_source .nil pass0 (pa_cons (pe_ix ix_seq (pv 0) pe_int (fun _ _ => rfl)) pa_nil)))))))))))))
theorem tm_pieces_of_lines (T : Txt K mg A B) (G_piece_tuples : FnOk Pr w K mg base CX0 4 A.a_piece_tuples B.d_piece_tuples ["line", "stretches"] (spD K (R_piece_tuples A))) {f : Addr} {cdv : Value} {Ar : Around} {outer : List Env} {s : Shared} {H : Hp} {E : XK} (hr : Room 4 (Ar.deeper (envOfC "pieces_of_lines" (defScope s_pieces_of_lines) s.heap.objs.size f cdv))) :
    PSs (cxOf CX0 Pr w K mg base N_pieces_of_lines "pieces_of_lines" (defScope s_pieces_of_lines) f cdv Ar outer s H E).nox (defBody s_pieces_of_lines) (t_pieces_of_lines K A) :=
  (pss_cons (ps_set (i := 1) sc_pieces_of_lines.nd rfl (Or.inr rfl) (pe_frz (pe_dc (own := [("line", 2)]) rfl sc_pieces_of_lines.nd (pi_list (pe_callB (call_sortDI rfl) (by rfl) T.n_sorted (by decide +kernel) (pa_cons (pv 0) pa_nil))) (blkOk_by (own := [("line", 2)]) (N := N_pieces_of_lines) (sc := defScope s_pieces_of_lines) (by decide +kernel)) (fun _ _ _ _ _ => (pg_name (i := 2) sc_pieces_of_lines.nd rfl (Or.inl rfl))) (fun _ _ _ _ _ => pts_nil) (fun _ _ _ _ _ => (pv 2)) (fun _ _ _ _ _ => (pe_call G_piece_tuples (hr.mono (by decide)) (by rfl) T.g_piece_tuples T.f_piece_tuples.kp T.b_piece_tuples .nil pass0 (pa_cons (pv 2) (pa_cons (pe_dget (Nat.lt_of_le_of_lt (Nat.add_le_add_left (by decide) _) hr.units) (pv 0) (pv 2) (fun _ _ => rfl)) pa_nil)))))))
      (pss_one (ps_ret (pe_frz (pe_dc (own := [("line", 2)]) rfl sc_pieces_of_lines.nd (pi_keys (pv 1)) (blkOk_by (own := [("line", 2)]) (N := N_pieces_of_lines) (sc := defScope s_pieces_of_lines) (by decide +kernel)) (fun _ _ _ _ _ => (pg_name (i := 2) sc_pieces_of_lines.nd rfl (Or.inl rfl))) (fun _ _ _ _ _ => pts_one (pt_truth (pe_dget (Nat.lt_of_le_of_lt (Nat.add_le_add_left (by decide) _) hr.units) (pv 1) (pv 2) (fun _ _ => rfl)) (by intro _; rfl))) (fun _ _ _ _ _ => (pv 2)) (fun _ _ _ _ _ => (pe_dget (Nat.lt_of_le_of_lt (Nat.add_le_add_left (by decide) _) hr.units) (pv 1) (pv 2) (fun _ _ => rfl))))))))
theorem tm_Map_getitem (T : Txt K mg A B) (G_Map_row_at : FnOk Pr w K mg base CX0 1 A.a_Map_row_at B.d_Map_row_at ["self", "line"] (spD K (R_Map_row_at A))) (G_check_up_to : FnOk Pr w K mg base CX0 4 A.a_check_up_to B.d_check_up_to ["value", "limit"] (spD K (R_check_up_to A))) {f : Addr} {cdv : Value} {Ar : Around} {outer : List Env} {s : Shared} {H : Hp} {E : XK} (hr : Room 4 (Ar.deeper (envOfC "Map.__getitem__" (defScope s_Map_getitem) s.heap.objs.size f cdv))) :
    PSs (cxOf CX0 Pr w K mg base N_Map_getitem "Map.__getitem__" (defScope s_Map_getitem) f cdv Ar outer s H E).nox (defBody s_Map_getitem) (t_Map_getitem K A) :=
  (pss_cons (ps_expr (pe_call G_check_up_to (hr.mono (by decide)) (by rfl) T.g_check_up_to T.f_check_up_to.kp T.b_check_up_to .nil pass0 (pa_cons (pv 1) (pa_cons (pe_glob rfl T.k_NUMBER_LIMIT ⟨_, rfl⟩) pa_nil))))
      (pss_one (ps_ret (pe_meth (pv 0) T.tc.cl_Map T.me_Map_row_at G_Map_row_at (hr.mono (by decide)) T.b_Map_row_at .nil pass0 (pa_cons (pv 1) pa_nil)))))
theorem tm__check_segments (T : Txt K mg A B) (G__is_segment : FnOk Pr w K mg base CX0 5 A.a__is_segment B.d__is_segment ["value", "limit"] (spD K (R__is_segment A))) {f : Addr} {cdv : Value} {Ar : Around} {outer : List Env} {s : Shared} {H : Hp} {E : XK} (hr : Room 5 (Ar.deeper (envOfC "_check_segments" (defScope s__check_segments) s.heap.objs.size f cdv))) :
    PSs (cxOf CX0 Pr w K mg base N__check_segments "_check_segments" (defScope s__check_segments) f cdv Ar outer s H E).nox (defBody s__check_segments) (t__check_segments K A) :=
  (pss_cons (ps_for PassesOwn.never rfl (pi_enumT (by rfl) T.n_enumerate (pa_cons (pv 0) pa_nil)) (pg_tup rfl (pgs_cons (pg_name (i := 2) sc__check_segments.nd rfl (Or.inl rfl)) (pgs_cons (pg_name (i := 3) sc__check_segments.nd rfl (Or.inl rfl)) pgs_nil))) (pss_one (ps_if (pt_not (pt_val (pe_call G__is_segment (hr.mono (by decide)) (by rfl) T.g__is_segment T.f__is_segment.kp T.b__is_segment .nil pass0 (pa_cons (pv 3) (pa_cons (pv 1) pa_nil))))) pss_never pss_nil)))
      (pss_cons (ps_set (i := 4) sc__check_segments.nd rfl (Or.inl rfl) pe_dnewT)
      (pss_one (ps_for PassesOwn.never rfl (pi_enumT (by rfl) T.n_enumerate (pa_cons (pv 0) pa_nil)) (pg_tup rfl (pgs_cons (pg_name (i := 2) sc__check_segments.nd rfl (Or.inl rfl)) (pgs_cons (pg_name (i := 3) sc__check_segments.nd rfl (Or.inl rfl)) pgs_nil))) (pss_cons (ps_if (pt_cmp (pc_din (Nat.lt_of_le_of_lt (Nat.add_le_add_left (by decide) _) hr.units) (pe_slice sl_U (pv 3) (po_some pe_int) (po_some pe_int)) (pv 4))) pss_never pss_nil)
      (pss_one (ps_dput (Nat.lt_of_le_of_lt (Nat.add_le_add_left (by decide) _) hr.units) (pv 4) (pe_slice sl_U (pv 3) (po_some pe_int) (po_some pe_int)) pe_bl rfl)))))))
theorem tm_Map_init (T : Txt K mg A B) (G__all_pieces : FnOk Pr w K mg base CX0 1 A.a__all_pieces B.d__all_pieces ["rows"] (spD K (R__all_pieces A))) (G__check_segments : FnOk Pr w K mg base CX0 6 A.a__check_segments B.d__check_segments ["segments", "limit"] (spD K (R__check_segments A))) (G__lines_of_segments : FnOk Pr w K mg base CX0 4 A.a__lines_of_segments B.d__lines_of_segments ["segments"] (spD K (R__lines_of_segments A))) (G_pieces_of_lines : FnOk Pr w K mg base CX0 5 A.a_pieces_of_lines B.d_pieces_of_lines ["lines"] (spD K (R_pieces_of_lines A))) {f : Addr} {cdv : Value} {Ar : Around} {outer : List Env} {s : Shared} {H : Hp} {E : XK} (hr : Room 6 (Ar.deeper (envOfC "Map.__init__" (defScope s_Map_init) s.heap.objs.size f cdv))) :
    PSs (cxOf CX0 Pr w K mg base N_Map_init "Map.__init__" (defScope s_Map_init) f cdv Ar outer s H E).nox (defBody s_Map_init) (t_Map_init K A) :=
  (pss_cons (ps_expr (pe_call G__check_segments (hr.mono (by decide)) (by rfl) T.g__check_segments T.f__check_segments.kp T.b__check_segments .nil pass0 (pa_cons (pv 1) (pa_cons (pe_glob rfl T.k_NUMBER_LIMIT ⟨_, rfl⟩) pa_nil))))
      (pss_cons (ps_fld (pv 0) (pe_call G_pieces_of_lines (hr.mono (by decide)) (by rfl) T.g_pieces_of_lines T.f_pieces_of_lines.kp T.b_pieces_of_lines .nil pass0 (pa_cons (pe_call G__lines_of_segments (hr.mono (by decide)) (by rfl) T.g__lines_of_segments T.f__lines_of_segments.kp T.b__lines_of_segments .nil pass0 (pa_cons (pv 1) pa_nil)) pa_nil)) rfl)
      (pss_one (ps_fld (pv 0) (pe_call G__all_pieces (hr.mono (by decide)) (by rfl) T.g__all_pieces T.f__all_pieces.kp T.b__all_pieces .nil pass0 (pa_cons (pe_fld (pv 0) rfl) pa_nil)) rfl))))
theorem tm_Map_of (T : Txt K mg A B) (G_Map_init : FnR Pr w K mg base CX0 7 A.a_Map_init (starS 1 (spI K A.c_Map (R_Map_init A)))) {f : Addr} {cdv : Value} {Ar : Around} {outer : List Env} {s : Shared} {H : Hp} {E : XK} (hr : Room 8 (Ar.deeper (envOfC "Map.of" (defScope s_Map_of) s.heap.objs.size f cdv))) :
    PSs (cxOf CX0 Pr w K mg base N_Map_of "Map.of" (defScope s_Map_of) f cdv Ar outer s H E).nox (defBody s_Map_of) (t_Map_of K A) :=
  (pss_cons (ps_if (pt_not (pt_val (pe_callB call_isi (by rfl) T.n_isinstance (by decide +kernel) (pa_cons (pv 1) (pa_cons (pe_bltn (v := .ty "tuple") (by rfl) T.n_tuple (by decide +kernel) rfl) pa_nil))))) pss_never pss_nil)
      (pss_one (ps_ret (pe_makeS T.mk_Map G_Map_init (hr.mono (by decide)) rfl T.gc_Map pass0 (pv 1)))))
theorem tm__law_right (T : Txt K mg A B) (G_Map_bool : FnOk Pr w K mg base CX0 1 A.a_Map_bool B.d_Map_bool ["self"] (spD K (R_Map_bool A))) (G_Map_eq : FnOk Pr w K mg base CX0 1 A.a_Map_eq B.d_Map_eq ["self", "other"] (spD K (R_Map_eq A))) (G_Map_getitem : FnOk Pr w K mg base CX0 5 A.a_Map_getitem B.d_Map_getitem ["self", "at"] (spD K (R_Map_getitem A))) (G_Map_len : FnOk Pr w K mg base CX0 1 A.a_Map_len B.d_Map_len ["self"] (spD K (R_Map_len A))) (G_Map_of : FnOk Pr w K mg base CX0 9 A.a_Map_of B.d_Map_of ["cls", "segments"] (spD K (R_Map_of A))) (G_Map_pieces : GFnP Pr w K mg base 1 A.a_Map_pieces B.d_Map_pieces ["self"] (rzF K A.c_Map "_pieces")) (G_Map_used_lines : GFnP Pr w K mg base 1 A.a_Map_used_lines B.d_Map_used_lines ["self"] (rzK K A.c_Map "_rows")) (G__law_all : FnOk Pr w K mg base CX0 3 A.a__law_all B.d__law_all ["some"] (spD K (R__law_all A))) {f : Addr} {cdv : Value} {Ar : Around} {outer : List Env} {s : Shared} {H : Hp} {E : XK} (hgu : (Ar.deeper (envOfC "_law_right" (defScope s__law_right) s.heap.objs.size f cdv)).guards = some []) (hr : Room 9 (Ar.deeper (envOfC "_law_right" (defScope s__law_right) s.heap.objs.size f cdv))) :
    PSs (cxOf CX0 Pr w K mg base N__law_right "_law_right" (defScope s__law_right) f cdv Ar outer s H E).nox (defBody s__law_right) (t__law_right K A) :=
  (pss_cons (ps_par (i := 1) (j := 2) (by rfl) sc__law_right.nd rfl rfl (by decide) rfl rfl (pa_cons (ClX.pe_cmeth (pe_glob (v := .ref A.c_Map) (by rfl) T.gc_Map (by rfl)) T.cr_Map T.cm_Map_of (FnOk.raw0 G_Map_of T.b_Map_of) (hr.mono (by decide)) pass0 (pa_cons (pe_callTy call_tuple_of (by rfl) T.n_tuple (by decide +kernel) (pa_cons (pv 0) pa_nil)) pa_nil)) (pa_cons (pe_call G__law_all (hr.mono (by decide)) (by rfl) T.g__law_all T.f__law_all.kp T.b__law_all .nil pass0 (pa_cons (pv 0) pa_nil)) pa_nil)) (by rfl))
      (pss_cons (ps_if (pt_cmpR (op_neP hr.units) (pe_lcP (k := 1) (own := [("one", 6)]) rfl (hr.mono (by decide)) sc__law_right.nd (pgenP_meth0 (pv 1) T.tc.cl_Map T.me_Map_pieces G_Map_pieces (hr.mono (by decide)) T.b_Map_pieces) (blkOk_by (own := [("one", 6)]) (N := N__law_right) (sc := defScope s__law_right) (by decide +kernel)) (fun _ _ _ _ _ => (pg_name (i := 6) sc__law_right.nd rfl (Or.inl rfl))) (fun _ _ _ _ _ => pts_nil) (fun _ _ _ _ _ => (pv 6))) (pv 2) (nomark _)) (pss_one (ps_ret pe_bl)) pss_nil)
      (pss_cons (ps_if (pt_cmpR (op_neP hr.units) (pe_callB (call_repr hgu hr.units) (by rfl) T.n_repr (by decide +kernel) (pa_cons (pe_lst (pa_cons (pe_callB (call_lenO G_Map_len T.ssa_Map_len T.ssf_Map_len T.b_Map_len pass0 (hr.mono (by decide))) (by rfl) T.n_len (by decide +kernel) (pa_cons (pv 1) pa_nil)) (pa_cons (pe_callTy (call_boolO G_Map_bool T.ssa_Map_bool T.ssf_Map_bool T.b_Map_bool pass0 (hr.mono (by decide))) (by rfl) T.n_bool (by decide +kernel) (pa_cons (pv 1) pa_nil)) pa_nil))) pa_nil)) (pe_callB (call_repr hgu hr.units) (by rfl) T.n_repr (by decide +kernel) (pa_cons (pe_lst (pa_cons (pe_callB call_len (by rfl) T.n_len (by decide +kernel) (pa_cons (pv 2) pa_nil)) (pa_cons (pe_cmpR (op_neP hr.units) (pv 2) (pe_lst pa_nil) (nomark _)) pa_nil))) pa_nil)) (nomark _)) (pss_one (ps_ret pe_bl)) pss_nil)
      (pss_cons (ps_for PassesOwn.never rfl (pi_range1 rfl T.n_range (pa_cons pe_int pa_nil)) (pg_name (i := 3) sc__law_right.nd rfl (Or.inr rfl)) (pss_one (ps_if (pt_cmpR (op_neP hr.units) (pe_ixO G_Map_getitem T.ssa_Map_getitem T.ssf_Map_getitem T.ssi_Map_getitem T.b_Map_getitem pass0 (hr.mono (by decide)) (pv 1) (pv 3)) (pe_callTy call_tuple_of (by rfl) T.n_tuple (by decide +kernel) (pa_cons (pe_lc (own := [("one", 6)]) rfl sc__law_right.nd (pi_list (pv 2)) (blkOk_by (own := [("one", 6)]) (N := N__law_right) (sc := defScope s__law_right) (by decide +kernel)) (fun _ _ _ _ _ => (pg_name (i := 6) sc__law_right.nd rfl (Or.inl rfl))) (fun _ _ _ _ _ => pts_one (pt_cmpR (op_eqP hr.units) (pe_ix ix_seq (pv 6) pe_int (fun _ _ => rfl)) (pv 3) (nomark _))) (fun _ _ _ _ _ => (pv 6))) pa_nil)) (nomark _)) (pss_one (ps_ret pe_bl)) pss_nil)))
      (pss_cons (ps_set (i := 4) sc__law_right.nd rfl (Or.inr rfl) (pe_lc (own := [("one", 6)]) rfl sc__law_right.nd (pi_list (pv 2)) (blkOk_by (own := [("one", 6)]) (N := N__law_right) (sc := defScope s__law_right) (by decide +kernel)) (fun _ _ _ _ _ => (pg_name (i := 6) sc__law_right.nd rfl (Or.inl rfl))) (fun _ _ _ _ _ => pts_nil) (fun _ _ _ _ _ => (pe_ix ix_seq (pv 6) pe_int (fun _ _ => rfl)))))
      (pss_cons (ps_if (pt_cmpR (op_neP hr.units) (pe_lcP (k := 1) (own := [("row", 3)]) rfl (hr.mono (by decide)) sc__law_right.nd (pgenP_meth0 (pv 1) T.tc.cl_Map T.me_Map_used_lines G_Map_used_lines (hr.mono (by decide)) T.b_Map_used_lines) (blkOk_by (own := [("row", 3)]) (N := N__law_right) (sc := defScope s__law_right) (by decide +kernel)) (fun _ _ _ _ _ => (pg_name (i := 3) sc__law_right.nd rfl (Or.inl rfl))) (fun _ _ _ _ _ => pts_nil) (fun _ _ _ _ _ => (pv 3))) (pe_lc (own := [("row", 3)]) rfl sc__law_right.nd (pi_range1 rfl T.n_range (pa_cons pe_int pa_nil)) (blkOk_by (own := [("row", 3)]) (N := N__law_right) (sc := defScope s__law_right) (by decide +kernel)) (fun _ _ _ _ _ => (pg_name (i := 3) sc__law_right.nd rfl (Or.inl rfl))) (fun _ _ _ _ _ => pts_one (pt_cmpR (op_inP hr.units) (pv 3) (pv 4) rfl)) (fun _ _ _ _ _ => (pv 3))) (nomark _)) (pss_one (ps_ret pe_bl)) pss_nil)
      (pss_cons (ps_if (PW.pt (pw_or (pt_cmpR (op_neP hr.units) (pe_ixO G_Map_getitem T.ssa_Map_getitem T.ssf_Map_getitem T.ssi_Map_getitem T.b_Map_getitem pass0 (hr.mono (by decide)) (pv 1) (pe_op op_pow pe_int pe_int)) (pe_tup pa_nil) (nomark _)) (pw_or1 (pt_cmpR (op_neP hr.units) (pe_ixO G_Map_getitem T.ssa_Map_getitem T.ssf_Map_getitem T.ssi_Map_getitem T.b_Map_getitem pass0 (hr.mono (by decide)) (pv 1) pe_int) (pe_tup pa_nil) (nomark _))))) (pss_one (ps_ret pe_bl)) pss_nil)
      (pss_cons (ps_set (i := 5) sc__law_right.nd rfl (Or.inl rfl) (ClX.pe_cmeth (pe_glob (v := .ref A.c_Map) (by rfl) T.gc_Map (by rfl)) T.cr_Map T.cm_Map_of (FnOk.raw0 G_Map_of T.b_Map_of) (hr.mono (by decide)) pass0 (pa_cons (pe_callTy call_tuple_of (by rfl) T.n_tuple (by decide +kernel) (pa_cons (pv 2) pa_nil)) pa_nil)))
      (pss_one (ps_ret (pe_and (pe_cmpR (op_eqO G_Map_eq T.es_Map T.ef_Map T.b_Map_eq pass0 (hr.mono (by decide))) (pv 5) (pv 1) (nomark _)) (pe_one (pe_cmpR (op_eqP hr.units) (pe_lcP (k := 1) (own := [("one", 6)]) rfl (hr.mono (by decide)) sc__law_right.nd (pgenP_meth0 (pv 5) T.tc.cl_Map T.me_Map_pieces G_Map_pieces (hr.mono (by decide)) T.b_Map_pieces) (blkOk_by (own := [("one", 6)]) (N := N__law_right) (sc := defScope s__law_right) (by decide +kernel)) (fun _ _ _ _ _ => (pg_name (i := 6) sc__law_right.nd rfl (Or.inl rfl))) (fun _ _ _ _ _ => pts_nil) (fun _ _ _ _ _ => (pv 6))) (pv 2) (nomark _))))))))))))))
theorem tm_law (T : Txt K mg A B) (G_Map_getitem : FnOk Pr w K mg base CX0 5 A.a_Map_getitem B.d_Map_getitem ["self", "at"] (spD K (R_Map_getitem A))) (G_Map_init : FnR Pr w K mg base CX0 7 A.a_Map_init (starS 1 (spI K A.c_Map (R_Map_init A)))) (G__law_begun : FnOk Pr w K mg base CX0 1 A.a__law_begun B.d__law_begun ["script"] (spD K (R__law_begun A))) (G__law_right : FnG Pr w K mg base CX0 10 A.a__law_right B.d__law_right ["some"] (spD K (R__law_right A))) (G__law_segments : FnOk Pr w K mg base CX0 3 A.a__law_segments B.d__law_segments ["m"] (spD K (R__law_segments A))) {f : Addr} {cdv : Value} {Ar : Around} {outer : List Env} {s : Shared} {H : Hp} {E : XK} (hgu : (Ar.deeper (envOfC "law" (defScope s_law) s.heap.objs.size f cdv)).guards = some []) (hr : Room 10 (Ar.deeper (envOfC "law" (defScope s_law) s.heap.objs.size f cdv))) :
    PSs (cxOf CX0 Pr w K mg base N_law "law" (defScope s_law) f cdv Ar outer s H E).nox (defBody s_law) (t_law K A) :=
  (pss_cons (ps_set (i := 1) sc_law.nd rfl (Or.inl rfl) (pe_call G__law_begun (hr.mono (by decide)) (by rfl) T.g__law_begun T.f__law_begun.kp T.b__law_begun .nil pass0 (pa_cons (pv 0) pa_nil)))
      (pss_cons (ps_for PassesOwn.never rfl (pi_range1 rfl T.n_range (pa_cons (pe_op op_addU pe_int (pe_callB (call_min2 rfl) (by rfl) T.n_min (by decide +kernel) (pa_cons pe_int (pa_cons (pe_callB call_len (by rfl) T.n_len (by decide +kernel) (pa_cons (pv 0) pa_nil)) pa_nil)))) pa_nil)) (pg_name (i := 2) sc_law.nd rfl (Or.inl rfl)) (pss_one (ps_if (pt_not (pt_val (pe_callG hgu G__law_right (hr.mono (by decide)) rfl T.g__law_right T.f__law_right.kp T.b__law_right pass0 (pa_cons (pe_call G__law_segments (hr.mono (by decide)) (by rfl) T.g__law_segments T.f__law_segments.kp T.b__law_segments .nil pass0 (pa_cons (pv 1) pa_nil)) pa_nil)))) (pss_one (ps_ret pe_bl)) pss_nil)))
      (pss_cons (ps_set (i := 3) sc_law.nd rfl (Or.inl rfl) (pe_makeR T.mk_Map G_Map_init (hr.mono (by decide)) rfl T.gc_Map pass0 (pa_cons (pe_tup (pa_cons pe_str (pa_cons pe_int (pa_cons pe_int (pa_cons pe_str (pa_cons pe_int (pa_cons pe_int pa_nil))))))) (pa_cons (pe_tup (pa_cons pe_str (pa_cons pe_int (pa_cons pe_int (pa_cons pe_str (pa_cons pe_int (pa_cons pe_int pa_nil))))))) pa_nil))))
      (pss_cons (ps_if (pt_cmpR (op_neP hr.units) (pe_ixO G_Map_getitem T.ssa_Map_getitem T.ssf_Map_getitem T.ssi_Map_getitem T.b_Map_getitem pass0 (hr.mono (by decide)) (pv 3) pe_int) (pe_tup (pa_cons (pe_tup (pa_cons pe_str (pa_cons pe_int (pa_cons pe_int (pa_cons pe_str (pa_cons pe_int (pa_cons pe_int pa_nil))))))) (pa_cons (pe_tup (pa_cons pe_str (pa_cons pe_int (pa_cons pe_int (pa_cons pe_str (pa_cons pe_int (pa_cons pe_int pa_nil))))))) pa_nil))) (nomark _)) (pss_one (ps_ret pe_bl)) pss_nil)
      (pss_cons (ps_set (i := 3) sc_law.nd rfl (Or.inl rfl) (pe_makeR T.mk_Map G_Map_init (hr.mono (by decide)) rfl T.gc_Map pass0 (pa_cons (pe_tup (pa_cons pe_str (pa_cons pe_int (pa_cons pe_int (pa_cons pe_str (pa_cons pe_int (pa_cons pe_int pa_nil))))))) (pa_cons (pe_tup (pa_cons pe_str (pa_cons pe_int (pa_cons pe_int (pa_cons pe_str (pa_cons pe_int (pa_cons pe_int pa_nil))))))) (pa_cons (pe_tup (pa_cons pe_str (pa_cons pe_int (pa_cons pe_int (pa_cons pe_str (pa_cons pe_int (pa_cons pe_int pa_nil))))))) pa_nil)))))
      (pss_one (ps_ret (pe_cmpR (op_eqP hr.units) (pe_ixO G_Map_getitem T.ssa_Map_getitem T.ssf_Map_getitem T.ssi_Map_getitem T.b_Map_getitem pass0 (hr.mono (by decide)) (pv 3) pe_int) (pe_tup (pa_cons (pe_tup (pa_cons pe_str (pa_cons pe_int (pa_cons pe_int (pa_cons pe_str (pa_cons pe_int (pa_cons pe_int pa_nil))))))) (pa_cons (pe_tup (pa_cons pe_str (pa_cons pe_int (pa_cons pe_int (pa_cons pe_str (pa_cons pe_int (pa_cons pe_int pa_nil))))))) pa_nil))) (nomark _)))))))))
end
section
variable {Pr : Program} {w : World} {K : PySem.W.Frag} [Tb K] {mg : Str → Option Value} {base : Heap} {A : Ad} {B : Fd}
theorem ok_is_integer (T : Txt K mg A B)  : FnOk Pr w K mg base CX0 1 A.a_is_integer B.d_is_integer ["value"] (spD K (R_is_integer A)) :=
  dok T.f_is_integer sc_is_integer len_is_integer (by decide) fun cdv Ar outer s H E hr => ⟨t_is_integer K A, tm_is_integer T  hr, w_is_integer T.tc⟩
theorem ok_told_further (T : Txt K mg A B)  : FnOk Pr w K mg base CX0 1 A.a_told_further B.d_told_further ["told", "by"] (spD K (R_told_further A)) :=
  dok T.f_told_further sc_told_further len_told_further (by decide) fun cdv Ar outer s H E hr => ⟨t_told_further K A, tm_told_further T  hr, w_told_further T.tc⟩
theorem ok_word_of (T : Txt K mg A B)  : FnOk Pr w K mg base CX0 1 A.a_word_of B.d_word_of ["piece"] (spD K (R_word_of A)) :=
  dok T.f_word_of sc_word_of len_word_of (by decide) fun cdv Ar outer s H E hr => ⟨t_word_of K A, tm_word_of T  hr, w_word_of T.tc⟩
theorem ok__goes_on (T : Txt K mg A B)  : FnOk Pr w K mg base CX0 1 A.a__goes_on B.d__goes_on ["piece", "column", "target"] (spD K (R__goes_on A)) :=
  dok T.f__goes_on sc__goes_on len__goes_on (by decide) fun cdv Ar outer s H E hr => ⟨t__goes_on K A, tm__goes_on T  hr, w__goes_on T.tc⟩
theorem ok_is_source (T : Txt K mg A B)  : FnOk Pr w K mg base CX0 1 A.a_is_source B.d_is_source ["value"] (spD K (R_is_source A)) :=
  dok T.f_is_source sc_is_source len_is_source (by decide) fun cdv Ar outer s H E hr => ⟨t_is_source K A, tm_is_source T  hr, w_is_source T.tc⟩
theorem ok__begin_of (T : Txt K mg A B)  : FnOk Pr w K mg base CX0 1 A.a__begin_of B.d__begin_of ["segment"] (spD K (R__begin_of A)) :=
  dok T.f__begin_of sc__begin_of len__begin_of (by decide) fun cdv Ar outer s H E hr => ⟨t__begin_of K A, tm__begin_of T  hr, w__begin_of T.tc⟩
theorem ok__all_pieces (T : Txt K mg A B)  : FnOk Pr w K mg base CX0 1 A.a__all_pieces B.d__all_pieces ["rows"] (spD K (R__all_pieces A)) :=
  dok T.f__all_pieces sc__all_pieces len__all_pieces (by decide) fun cdv Ar outer s H E hr => ⟨t__all_pieces K A, tm__all_pieces T  hr, w__all_pieces T.tc⟩
theorem ok_Map_row_at (T : Txt K mg A B)  : FnOk Pr w K mg base CX0 1 A.a_Map_row_at B.d_Map_row_at ["self", "line"] (spD K (R_Map_row_at A)) :=
  dok T.f_Map_row_at sc_Map_row_at len_Map_row_at (by decide) fun cdv Ar outer s H E hr => ⟨t_Map_row_at K A, tm_Map_row_at T  hr, w_Map_row_at T.tc⟩
theorem ok_Map_len (T : Txt K mg A B)  : FnOk Pr w K mg base CX0 1 A.a_Map_len B.d_Map_len ["self"] (spD K (R_Map_len A)) :=
  dok T.f_Map_len sc_Map_len len_Map_len (by decide) fun cdv Ar outer s H E hr => ⟨t_Map_len K A, tm_Map_len T  hr, w_Map_len T.tc⟩
theorem ok_Map_bool (T : Txt K mg A B)  : FnOk Pr w K mg base CX0 1 A.a_Map_bool B.d_Map_bool ["self"] (spD K (R_Map_bool A)) :=
  dok T.f_Map_bool sc_Map_bool len_Map_bool (by decide) fun cdv Ar outer s H E hr => ⟨t_Map_bool K A, tm_Map_bool T  hr, w_Map_bool T.tc⟩
theorem ok_Map_eq (T : Txt K mg A B)  : FnOk Pr w K mg base CX0 1 A.a_Map_eq B.d_Map_eq ["self", "other"] (spD K (R_Map_eq A)) :=
  dok T.f_Map_eq sc_Map_eq len_Map_eq (by decide) fun cdv Ar outer s H E hr => ⟨t_Map_eq K A, tm_Map_eq T  hr, w_Map_eq T.tc⟩
theorem ok_Map_pieces (T : Txt K mg A B) : GFnP Pr w K mg base 1 A.a_Map_pieces B.d_Map_pieces ["self"] (rzF K A.c_Map "_pieces") :=
  T.f_Map_pieces.okP T.tc.cl_Map T.tc.na_Map__pieces rfl sc_Map_pieces rfl
theorem ok_Map_used_lines (T : Txt K mg A B) : GFnP Pr w K mg base 1 A.a_Map_used_lines B.d_Map_used_lines ["self"] (rzK K A.c_Map "_rows") :=
  T.f_Map_used_lines.okK T.tc.cl_Map T.tc.na_Map__rows rfl sc_Map_used_lines rfl
theorem ok__law_begun (T : Txt K mg A B)  : FnOk Pr w K mg base CX0 1 A.a__law_begun B.d__law_begun ["script"] (spD K (R__law_begun A)) :=
  dok T.f__law_begun sc__law_begun len__law_begun (by decide) fun cdv Ar outer s H E hr => ⟨t__law_begun K A, tm__law_begun T  hr, w__law_begun T.tc⟩
theorem ok__law_draw (T : Txt K mg A B)  : FnOk Pr w K mg base CX0 1 A.a__law_draw B.d__law_draw ["m", "top"] (spD K (R__law_draw A)) :=
  dok T.f__law_draw sc__law_draw len__law_draw (by decide) fun cdv Ar outer s H E hr => ⟨t__law_draw K A, tm__law_draw T  hr, w__law_draw T.tc⟩
theorem ok__law_told (T : Txt K mg A B)  : FnOk Pr w K mg base CX0 1 A.a__law_told B.d__law_told ["some", "row", "place"] (spD K (R__law_told A)) :=
  dok T.f__law_told sc__law_told len__law_told (by decide) fun cdv Ar outer s H E hr => ⟨t__law_told K A, tm__law_told T  hr, w__law_told T.tc⟩
theorem ok__law_length (T : Txt K mg A B)  : FnOk Pr w K mg base CX0 1 A.a__law_length B.d__law_length ["values", "place", "step"] (spD K (R__law_length A)) :=
  dok T.f__law_length sc__law_length len__law_length (by decide) fun cdv Ar outer s H E hr => ⟨t__law_length K A, tm__law_length T  hr, w__law_length T.tc⟩
theorem ok_is_count (T : Txt K mg A B) (G_is_integer : FnOk Pr w K mg base CX0 1 A.a_is_integer B.d_is_integer ["value"] (spD K (R_is_integer A))) : FnOk Pr w K mg base CX0 2 A.a_is_count B.d_is_count ["value"] (spD K (R_is_count A)) :=
  dok T.f_is_count sc_is_count len_is_count (by decide) fun cdv Ar outer s H E hr => ⟨t_is_count K A, tm_is_count T G_is_integer hr, w_is_count T.tc⟩
theorem ok_told_of (T : Txt K mg A B) (G_word_of : FnOk Pr w K mg base CX0 1 A.a_word_of B.d_word_of ["piece"] (spD K (R_word_of A))) : FnOk Pr w K mg base CX0 2 A.a_told_of B.d_told_of ["piece"] (spD K (R_told_of A)) :=
  dok T.f_told_of sc_told_of len_told_of (by decide) fun cdv Ar outer s H E hr => ⟨t_told_of K A, tm_told_of T G_word_of hr, w_told_of T.tc⟩
theorem ok__some_columns (T : Txt K mg A B) (G_told_further : FnOk Pr w K mg base CX0 1 A.a_told_further B.d_told_further ["told", "by"] (spD K (R_told_further A))) : FnOk Pr w K mg base CX0 2 A.a__some_columns B.d__some_columns ["stretches"] (spD K (R__some_columns A)) :=
  dok T.f__some_columns sc__some_columns len__some_columns (by decide) fun cdv Ar outer s H E hr => ⟨t__some_columns K A, tm__some_columns T G_told_further hr, w__some_columns T.tc⟩
theorem ok__law_of (T : Txt K mg A B) (G__law_draw : FnOk Pr w K mg base CX0 1 A.a__law_draw B.d__law_draw ["m", "top"] (spD K (R__law_draw A))) : FnOk Pr w K mg base CX0 2 A.a__law_of B.d__law_of ["m", "some"] (spD K (R__law_of A)) :=
  dok T.f__law_of sc__law_of len__law_of (by decide) fun cdv Ar outer s H E hr => ⟨t__law_of K A, tm__law_of T G__law_draw hr, w__law_of T.tc⟩
theorem ok__law_values (T : Txt K mg A B) (G__law_told : FnOk Pr w K mg base CX0 1 A.a__law_told B.d__law_told ["some", "row", "place"] (spD K (R__law_told A))) : FnOk Pr w K mg base CX0 2 A.a__law_values B.d__law_values ["some", "row"] (spD K (R__law_values A)) :=
  dok T.f__law_values sc__law_values len__law_values (by decide) fun cdv Ar outer s H E hr => ⟨t__law_values K A, tm__law_values T G__law_told hr, w__law_values T.tc⟩
theorem ok__law_pieces (T : Txt K mg A B) (G__law_length : FnOk Pr w K mg base CX0 1 A.a__law_length B.d__law_length ["values", "place", "step"] (spD K (R__law_length A))) : FnOk Pr w K mg base CX0 2 A.a__law_pieces B.d__law_pieces ["row", "values"] (spD K (R__law_pieces A)) :=
  dok T.f__law_pieces sc__law_pieces len__law_pieces (by decide) fun cdv Ar outer s H E hr => ⟨t__law_pieces K A, tm__law_pieces T G__law_length hr, w__law_pieces T.tc⟩
theorem ok_is_up_to (T : Txt K mg A B) (G_is_count : FnOk Pr w K mg base CX0 2 A.a_is_count B.d_is_count ["value"] (spD K (R_is_count A))) : FnOk Pr w K mg base CX0 3 A.a_is_up_to B.d_is_up_to ["value", "limit"] (spD K (R_is_up_to A)) :=
  dok T.f_is_up_to sc_is_up_to len_is_up_to (by decide) fun cdv Ar outer s H E hr => ⟨t_is_up_to K A, tm_is_up_to T G_is_count hr, w_is_up_to T.tc⟩
theorem ok_stretches_of (T : Txt K mg A B) (G_told_of : FnOk Pr w K mg base CX0 2 A.a_told_of B.d_told_of ["piece"] (spD K (R_told_of A))) : FnOk Pr w K mg base CX0 3 A.a_stretches_of B.d_stretches_of ["pieces_of_line"] (spD K (R_stretches_of A)) :=
  dok T.f_stretches_of sc_stretches_of len_stretches_of (by decide) fun cdv Ar outer s H E hr => ⟨t_stretches_of K A, tm_stretches_of T G_told_of hr, w_stretches_of T.tc⟩
theorem ok_fewest (T : Txt K mg A B) (G__goes_on : FnOk Pr w K mg base CX0 1 A.a__goes_on B.d__goes_on ["piece", "column", "target"] (spD K (R__goes_on A))) (G__some_columns : FnOk Pr w K mg base CX0 2 A.a__some_columns B.d__some_columns ["stretches"] (spD K (R__some_columns A))) : FnOk Pr w K mg base CX0 3 A.a_fewest B.d_fewest ["stretches"] (spD K (R_fewest A)) :=
  dok T.f_fewest sc_fewest len_fewest (by decide) fun cdv Ar outer s H E hr => ⟨t_fewest K A, tm_fewest T G__goes_on G__some_columns hr, w_fewest T.tc⟩
theorem ok__law_segments (T : Txt K mg A B) (G__law_draw : FnOk Pr w K mg base CX0 1 A.a__law_draw B.d__law_draw ["m", "top"] (spD K (R__law_draw A))) (G__law_of : FnOk Pr w K mg base CX0 2 A.a__law_of B.d__law_of ["m", "some"] (spD K (R__law_of A))) : FnOk Pr w K mg base CX0 3 A.a__law_segments B.d__law_segments ["m"] (spD K (R__law_segments A)) :=
  dok T.f__law_segments sc__law_segments len__law_segments (by decide) fun cdv Ar outer s H E hr => ⟨t__law_segments K A, tm__law_segments T G__law_draw G__law_of hr, w__law_segments T.tc⟩
theorem ok__law_all (T : Txt K mg A B) (G__law_pieces : FnOk Pr w K mg base CX0 2 A.a__law_pieces B.d__law_pieces ["row", "values"] (spD K (R__law_pieces A))) (G__law_values : FnOk Pr w K mg base CX0 2 A.a__law_values B.d__law_values ["some", "row"] (spD K (R__law_values A))) : FnOk Pr w K mg base CX0 3 A.a__law_all B.d__law_all ["some"] (spD K (R__law_all A)) :=
  dok T.f__law_all sc__law_all len__law_all (by decide) fun cdv Ar outer s H E hr => ⟨t__law_all K A, tm__law_all T G__law_pieces G__law_values hr, w__law_all T.tc⟩
theorem ok_check_up_to (T : Txt K mg A B) (G_is_up_to : FnOk Pr w K mg base CX0 3 A.a_is_up_to B.d_is_up_to ["value", "limit"] (spD K (R_is_up_to A))) : FnOk Pr w K mg base CX0 4 A.a_check_up_to B.d_check_up_to ["value", "limit"] (spD K (R_check_up_to A)) :=
  dok T.f_check_up_to sc_check_up_to len_check_up_to (by decide) fun cdv Ar outer s H E hr => ⟨t_check_up_to K A, tm_check_up_to T G_is_up_to hr, w_check_up_to T.tc⟩
theorem ok_piece_tuples (T : Txt K mg A B) (G_fewest : FnOk Pr w K mg base CX0 3 A.a_fewest B.d_fewest ["stretches"] (spD K (R_fewest A))) : FnOk Pr w K mg base CX0 4 A.a_piece_tuples B.d_piece_tuples ["line", "stretches"] (spD K (R_piece_tuples A)) :=
  dok T.f_piece_tuples sc_piece_tuples len_piece_tuples (by decide) fun cdv Ar outer s H E hr => ⟨t_piece_tuples K A, tm_piece_tuples T G_fewest hr, w_piece_tuples T.tc⟩
theorem ok__are_numbers (T : Txt K mg A B) (G_is_up_to : FnOk Pr w K mg base CX0 3 A.a_is_up_to B.d_is_up_to ["value", "limit"] (spD K (R_is_up_to A))) : FnOk Pr w K mg base CX0 4 A.a__are_numbers B.d__are_numbers ["value", "many", "limit"] (spD K (R__are_numbers A)) :=
  dok T.f__are_numbers sc__are_numbers len__are_numbers (by decide) fun cdv Ar outer s H E hr => ⟨t__are_numbers K A, tm__are_numbers T G_is_up_to hr, w__are_numbers T.tc⟩
theorem ok__lines_of_segments (T : Txt K mg A B) (G_stretches_of : FnOk Pr w K mg base CX0 3 A.a_stretches_of B.d_stretches_of ["pieces_of_line"] (spD K (R_stretches_of A))) : FnOk Pr w K mg base CX0 4 A.a__lines_of_segments B.d__lines_of_segments ["segments"] (spD K (R__lines_of_segments A)) :=
  dok T.f__lines_of_segments sc__lines_of_segments len__lines_of_segments (by decide) fun cdv Ar outer s H E hr => ⟨t__lines_of_segments K A, tm__lines_of_segments T G_stretches_of hr, w__lines_of_segments T.tc⟩
theorem ok__is_segment (T : Txt K mg A B) (G__are_numbers : FnOk Pr w K mg base CX0 4 A.a__are_numbers B.d__are_numbers ["value", "many", "limit"] (spD K (R__are_numbers A))) (G_is_source : FnOk Pr w K mg base CX0 1 A.a_is_source B.d_is_source ["value"] (spD K (R_is_source A))) : FnOk Pr w K mg base CX0 5 A.a__is_segment B.d__is_segment ["value", "limit"] (spD K (R__is_segment A)) :=
  dok T.f__is_segment sc__is_segment len__is_segment (by decide) fun cdv Ar outer s H E hr => ⟨t__is_segment K A, tm__is_segment T G__are_numbers G_is_source hr, w__is_segment T.tc⟩
theorem ok_pieces_of_lines (T : Txt K mg A B) (G_piece_tuples : FnOk Pr w K mg base CX0 4 A.a_piece_tuples B.d_piece_tuples ["line", "stretches"] (spD K (R_piece_tuples A))) : FnOk Pr w K mg base CX0 5 A.a_pieces_of_lines B.d_pieces_of_lines ["lines"] (spD K (R_pieces_of_lines A)) :=
  dok T.f_pieces_of_lines sc_pieces_of_lines len_pieces_of_lines (by decide) fun cdv Ar outer s H E hr => ⟨t_pieces_of_lines K A, tm_pieces_of_lines T G_piece_tuples hr, w_pieces_of_lines T.tc⟩
theorem ok_Map_getitem (T : Txt K mg A B) (G_Map_row_at : FnOk Pr w K mg base CX0 1 A.a_Map_row_at B.d_Map_row_at ["self", "line"] (spD K (R_Map_row_at A))) (G_check_up_to : FnOk Pr w K mg base CX0 4 A.a_check_up_to B.d_check_up_to ["value", "limit"] (spD K (R_check_up_to A))) : FnOk Pr w K mg base CX0 5 A.a_Map_getitem B.d_Map_getitem ["self", "at"] (spD K (R_Map_getitem A)) :=
  dok T.f_Map_getitem sc_Map_getitem len_Map_getitem (by decide) fun cdv Ar outer s H E hr => ⟨t_Map_getitem K A, tm_Map_getitem T G_Map_row_at G_check_up_to hr, w_Map_getitem T.tc⟩
theorem ok__check_segments (T : Txt K mg A B) (G__is_segment : FnOk Pr w K mg base CX0 5 A.a__is_segment B.d__is_segment ["value", "limit"] (spD K (R__is_segment A))) : FnOk Pr w K mg base CX0 6 A.a__check_segments B.d__check_segments ["segments", "limit"] (spD K (R__check_segments A)) :=
  dok T.f__check_segments sc__check_segments len__check_segments (by decide) fun cdv Ar outer s H E hr => ⟨t__check_segments K A, tm__check_segments T G__is_segment hr, w__check_segments T.tc⟩
theorem ok_Map_init (T : Txt K mg A B) (G__all_pieces : FnOk Pr w K mg base CX0 1 A.a__all_pieces B.d__all_pieces ["rows"] (spD K (R__all_pieces A))) (G__check_segments : FnOk Pr w K mg base CX0 6 A.a__check_segments B.d__check_segments ["segments", "limit"] (spD K (R__check_segments A))) (G__lines_of_segments : FnOk Pr w K mg base CX0 4 A.a__lines_of_segments B.d__lines_of_segments ["segments"] (spD K (R__lines_of_segments A))) (G_pieces_of_lines : FnOk Pr w K mg base CX0 5 A.a_pieces_of_lines B.d_pieces_of_lines ["lines"] (spD K (R_pieces_of_lines A))) : FnR Pr w K mg base CX0 7 A.a_Map_init (starS 1 (spI K A.c_Map (R_Map_init A))) :=
  dokSI T.f_Map_init sc_Map_init T.b_Map_init len_Map_init (by decide) fun cdv Ar outer s H E hr => ⟨t_Map_init K A, tm_Map_init T G__all_pieces G__check_segments G__lines_of_segments G_pieces_of_lines hr, w_Map_init T.tc⟩
theorem ok_Map_of (T : Txt K mg A B) (G_Map_init : FnR Pr w K mg base CX0 7 A.a_Map_init (starS 1 (spI K A.c_Map (R_Map_init A)))) : FnOk Pr w K mg base CX0 9 A.a_Map_of B.d_Map_of ["cls", "segments"] (spD K (R_Map_of A)) :=
  dok T.f_Map_of sc_Map_of len_Map_of (by decide) fun cdv Ar outer s H E hr => ⟨t_Map_of K A, tm_Map_of T G_Map_init hr, w_Map_of T.tc⟩
theorem ok__law_right (T : Txt K mg A B) (G_Map_bool : FnOk Pr w K mg base CX0 1 A.a_Map_bool B.d_Map_bool ["self"] (spD K (R_Map_bool A))) (G_Map_eq : FnOk Pr w K mg base CX0 1 A.a_Map_eq B.d_Map_eq ["self", "other"] (spD K (R_Map_eq A))) (G_Map_getitem : FnOk Pr w K mg base CX0 5 A.a_Map_getitem B.d_Map_getitem ["self", "at"] (spD K (R_Map_getitem A))) (G_Map_len : FnOk Pr w K mg base CX0 1 A.a_Map_len B.d_Map_len ["self"] (spD K (R_Map_len A))) (G_Map_of : FnOk Pr w K mg base CX0 9 A.a_Map_of B.d_Map_of ["cls", "segments"] (spD K (R_Map_of A))) (G_Map_pieces : GFnP Pr w K mg base 1 A.a_Map_pieces B.d_Map_pieces ["self"] (rzF K A.c_Map "_pieces")) (G_Map_used_lines : GFnP Pr w K mg base 1 A.a_Map_used_lines B.d_Map_used_lines ["self"] (rzK K A.c_Map "_rows")) (G__law_all : FnOk Pr w K mg base CX0 3 A.a__law_all B.d__law_all ["some"] (spD K (R__law_all A))) : FnG Pr w K mg base CX0 10 A.a__law_right B.d__law_right ["some"] (spD K (R__law_right A)) :=
  dokG T.f__law_right sc__law_right len__law_right (by decide) fun cdv Ar outer s H E hcd hgu hr => ⟨t__law_right K A, tm__law_right T G_Map_bool G_Map_eq G_Map_getitem G_Map_len G_Map_of G_Map_pieces G_Map_used_lines G__law_all hgu hr, w__law_right T.tc⟩
theorem ok_law (T : Txt K mg A B) (G_Map_getitem : FnOk Pr w K mg base CX0 5 A.a_Map_getitem B.d_Map_getitem ["self", "at"] (spD K (R_Map_getitem A))) (G_Map_init : FnR Pr w K mg base CX0 7 A.a_Map_init (starS 1 (spI K A.c_Map (R_Map_init A)))) (G__law_begun : FnOk Pr w K mg base CX0 1 A.a__law_begun B.d__law_begun ["script"] (spD K (R__law_begun A))) (G__law_right : FnG Pr w K mg base CX0 10 A.a__law_right B.d__law_right ["some"] (spD K (R__law_right A))) (G__law_segments : FnOk Pr w K mg base CX0 3 A.a__law_segments B.d__law_segments ["m"] (spD K (R__law_segments A))) : FnG Pr w K mg base CX0 11 A.a_law B.d_law ["script"] (spD K (R_law A)) :=
  dokG T.f_law sc_law len_law (by decide) fun cdv Ar outer s H E hcd hgu hr => ⟨t_law K A, tm_law T G_Map_getitem G_Map_init G__law_begun G__law_right G__law_segments hgu hr, w_law T.tc⟩
theorem ok_all (T : Txt K mg A B)  : FnG Pr w K mg base CX0 11 A.a_law B.d_law ["script"] (spD K (R_law A)) := by
  have h_is_integer := ok_is_integer (Pr := Pr) (w := w) (base := base) T 
  have h_told_further := ok_told_further (Pr := Pr) (w := w) (base := base) T 
  have h_word_of := ok_word_of (Pr := Pr) (w := w) (base := base) T 
  have h__goes_on := ok__goes_on (Pr := Pr) (w := w) (base := base) T 
  have h_is_source := ok_is_source (Pr := Pr) (w := w) (base := base) T 
  have h__begin_of := ok__begin_of (Pr := Pr) (w := w) (base := base) T 
  have h__all_pieces := ok__all_pieces (Pr := Pr) (w := w) (base := base) T 
  have h_Map_row_at := ok_Map_row_at (Pr := Pr) (w := w) (base := base) T 
  have h_Map_len := ok_Map_len (Pr := Pr) (w := w) (base := base) T 
  have h_Map_bool := ok_Map_bool (Pr := Pr) (w := w) (base := base) T 
  have h_Map_eq := ok_Map_eq (Pr := Pr) (w := w) (base := base) T 
  have h_Map_pieces := ok_Map_pieces (Pr := Pr) (w := w) (base := base) T 
  have h_Map_used_lines := ok_Map_used_lines (Pr := Pr) (w := w) (base := base) T 
  have h__law_begun := ok__law_begun (Pr := Pr) (w := w) (base := base) T 
  have h__law_draw := ok__law_draw (Pr := Pr) (w := w) (base := base) T 
  have h__law_told := ok__law_told (Pr := Pr) (w := w) (base := base) T 
  have h__law_length := ok__law_length (Pr := Pr) (w := w) (base := base) T 
  have h_is_count := ok_is_count (Pr := Pr) (w := w) (base := base) T h_is_integer
  have h_told_of := ok_told_of (Pr := Pr) (w := w) (base := base) T h_word_of
  have h__some_columns := ok__some_columns (Pr := Pr) (w := w) (base := base) T h_told_further
  have h__law_of := ok__law_of (Pr := Pr) (w := w) (base := base) T h__law_draw
  have h__law_values := ok__law_values (Pr := Pr) (w := w) (base := base) T h__law_told
  have h__law_pieces := ok__law_pieces (Pr := Pr) (w := w) (base := base) T h__law_length
  have h_is_up_to := ok_is_up_to (Pr := Pr) (w := w) (base := base) T h_is_count
  have h_stretches_of := ok_stretches_of (Pr := Pr) (w := w) (base := base) T h_told_of
  have h_fewest := ok_fewest (Pr := Pr) (w := w) (base := base) T h__goes_on h__some_columns
  have h__law_segments := ok__law_segments (Pr := Pr) (w := w) (base := base) T h__law_draw h__law_of
  have h__law_all := ok__law_all (Pr := Pr) (w := w) (base := base) T h__law_pieces h__law_values
  have h_check_up_to := ok_check_up_to (Pr := Pr) (w := w) (base := base) T h_is_up_to
  have h_piece_tuples := ok_piece_tuples (Pr := Pr) (w := w) (base := base) T h_fewest
  have h__are_numbers := ok__are_numbers (Pr := Pr) (w := w) (base := base) T h_is_up_to
  have h__lines_of_segments := ok__lines_of_segments (Pr := Pr) (w := w) (base := base) T h_stretches_of
  have h__is_segment := ok__is_segment (Pr := Pr) (w := w) (base := base) T h__are_numbers h_is_source
  have h_pieces_of_lines := ok_pieces_of_lines (Pr := Pr) (w := w) (base := base) T h_piece_tuples
  have h_Map_getitem := ok_Map_getitem (Pr := Pr) (w := w) (base := base) T h_Map_row_at h_check_up_to
  have h__check_segments := ok__check_segments (Pr := Pr) (w := w) (base := base) T h__is_segment
  have h_Map_init := ok_Map_init (Pr := Pr) (w := w) (base := base) T h__all_pieces h__check_segments h__lines_of_segments h_pieces_of_lines
  have h_Map_of := ok_Map_of (Pr := Pr) (w := w) (base := base) T h_Map_init
  have h__law_right := ok__law_right (Pr := Pr) (w := w) (base := base) T h_Map_bool h_Map_eq h_Map_getitem h_Map_len h_Map_of h_Map_pieces h_Map_used_lines h__law_all
  have h_law := ok_law (Pr := Pr) (w := w) (base := base) T h_Map_getitem h_Map_init h__law_begun h__law_right h__law_segments
  exact h_law
end
theorem all_mk {l : PySem.W.OpenLaw} {w : World} {K : PySem.W.Frag} {h : Heap} {mg : Str → Option Value} {fa : Addr} (X : K.In h) (G : h.Ns mainGlobals mg) (hfa : mg "law" = some (.ref fa))
    {c_Map a_is_integer a_told_further a_word_of a__goes_on a_is_source a__begin_of a__all_pieces a_Map_row_at a_Map_len a_Map_bool a_Map_eq a_Map_pieces a_Map_used_lines a__law_begun a__law_draw a__law_told a__law_length a_is_count a_told_of a__some_columns a__law_of a__law_values a__law_pieces a_is_up_to a_stretches_of a_fewest a__law_segments a__law_all a_check_up_to a_piece_tuples a__are_numbers a__lines_of_segments a__is_segment a_pieces_of_lines a_Map_getitem a__check_segments a_Map_init a_Map_of a__law_right a_law p_Map_of : Addr}
    {od0 an0 : Option Addr} {sl0 : Array (Option Value)} {oc0 kV0 dc0 pm0 cd0 ct0 : Value}
    {od1 an1 : Option Addr} {sl1 : Array (Option Value)} {oc1 kV1 dc1 pm1 cd1 ct1 : Value}
    {od2 an2 : Option Addr} {sl2 : Array (Option Value)} {oc2 kV2 dc2 pm2 cd2 ct2 : Value}
    {od3 an3 : Option Addr} {sl3 : Array (Option Value)} {oc3 kV3 dc3 pm3 cd3 ct3 : Value}
    {od4 an4 : Option Addr} {sl4 : Array (Option Value)} {oc4 kV4 dc4 pm4 cd4 ct4 : Value}
    {od5 an5 : Option Addr} {sl5 : Array (Option Value)} {oc5 kV5 dc5 pm5 cd5 ct5 : Value}
    {od6 an6 : Option Addr} {sl6 : Array (Option Value)} {oc6 kV6 dc6 pm6 cd6 ct6 : Value}
    {od7 an7 : Option Addr} {sl7 : Array (Option Value)} {oc7 kV7 dc7 pm7 cd7 ct7 : Value}
    {od8 an8 : Option Addr} {sl8 : Array (Option Value)} {oc8 kV8 dc8 pm8 cd8 ct8 : Value}
    {od9 an9 : Option Addr} {sl9 : Array (Option Value)} {oc9 kV9 dc9 pm9 cd9 ct9 : Value}
    {od10 an10 : Option Addr} {sl10 : Array (Option Value)} {oc10 kV10 dc10 pm10 cd10 ct10 : Value}
    {od11 an11 : Option Addr} {sl11 : Array (Option Value)} {oc11 kV11 dc11 pm11 cd11 ct11 : Value}
    {od12 an12 : Option Addr} {sl12 : Array (Option Value)} {oc12 kV12 dc12 pm12 cd12 ct12 : Value}
    {od13 an13 : Option Addr} {sl13 : Array (Option Value)} {oc13 kV13 dc13 pm13 cd13 ct13 : Value}
    {od14 an14 : Option Addr} {sl14 : Array (Option Value)} {oc14 kV14 dc14 pm14 cd14 ct14 : Value}
    {od15 an15 : Option Addr} {sl15 : Array (Option Value)} {oc15 kV15 dc15 pm15 cd15 ct15 : Value}
    {od16 an16 : Option Addr} {sl16 : Array (Option Value)} {oc16 kV16 dc16 pm16 cd16 ct16 : Value}
    {od17 an17 : Option Addr} {sl17 : Array (Option Value)} {oc17 kV17 dc17 pm17 cd17 ct17 : Value}
    {od18 an18 : Option Addr} {sl18 : Array (Option Value)} {oc18 kV18 dc18 pm18 cd18 ct18 : Value}
    {od19 an19 : Option Addr} {sl19 : Array (Option Value)} {oc19 kV19 dc19 pm19 cd19 ct19 : Value}
    {od20 an20 : Option Addr} {sl20 : Array (Option Value)} {oc20 kV20 dc20 pm20 cd20 ct20 : Value}
    {od21 an21 : Option Addr} {sl21 : Array (Option Value)} {oc21 kV21 dc21 pm21 cd21 ct21 : Value}
    {od22 an22 : Option Addr} {sl22 : Array (Option Value)} {oc22 kV22 dc22 pm22 cd22 ct22 : Value}
    {od23 an23 : Option Addr} {sl23 : Array (Option Value)} {oc23 kV23 dc23 pm23 cd23 ct23 : Value}
    {od24 an24 : Option Addr} {sl24 : Array (Option Value)} {oc24 kV24 dc24 pm24 cd24 ct24 : Value}
    {od25 an25 : Option Addr} {sl25 : Array (Option Value)} {oc25 kV25 dc25 pm25 cd25 ct25 : Value}
    {od26 an26 : Option Addr} {sl26 : Array (Option Value)} {oc26 kV26 dc26 pm26 cd26 ct26 : Value}
    {od27 an27 : Option Addr} {sl27 : Array (Option Value)} {oc27 kV27 dc27 pm27 cd27 ct27 : Value}
    {od28 an28 : Option Addr} {sl28 : Array (Option Value)} {oc28 kV28 dc28 pm28 cd28 ct28 : Value}
    {od29 an29 : Option Addr} {sl29 : Array (Option Value)} {oc29 kV29 dc29 pm29 cd29 ct29 : Value}
    {od30 an30 : Option Addr} {sl30 : Array (Option Value)} {oc30 kV30 dc30 pm30 cd30 ct30 : Value}
    {od31 an31 : Option Addr} {sl31 : Array (Option Value)} {oc31 kV31 dc31 pm31 cd31 ct31 : Value}
    {od32 an32 : Option Addr} {sl32 : Array (Option Value)} {oc32 kV32 dc32 pm32 cd32 ct32 : Value}
    {od33 an33 : Option Addr} {sl33 : Array (Option Value)} {oc33 kV33 dc33 pm33 cd33 ct33 : Value}
    {od34 an34 : Option Addr} {sl34 : Array (Option Value)} {oc34 kV34 dc34 pm34 cd34 ct34 : Value}
    {od35 an35 : Option Addr} {sl35 : Array (Option Value)} {oc35 kV35 dc35 pm35 cd35 ct35 : Value}
    {od36 an36 : Option Addr} {sl36 : Array (Option Value)} {oc36 kV36 dc36 pm36 cd36 ct36 : Value}
    {od37 an37 : Option Addr} {sl37 : Array (Option Value)} {oc37 kV37 dc37 pm37 cd37 ct37 : Value}
    {od38 an38 : Option Addr} {sl38 : Array (Option Value)} {oc38 kV38 dc38 pm38 cd38 ct38 : Value}
    {od39 an39 : Option Addr} {sl39 : Array (Option Value)} {oc39 kV39 dc39 pm39 cd39 ct39 : Value}
    {t_NAME_LIMIT t_NAME_SIGNS t_NUMBER_LIMIT t_PIECE_LIMIT : Tok}
    {rs_Map_of : List Value}
    (zma_Map_of : PySem.W.findCls K (.ref c_Map) (.type "type") "of" = some (.get (.builtin "classmethod.__get__") (.ref p_Map_of) .none (.ref c_Map)))
    (zmr_Map_of : PySem.W.recIn K p_Map_of "classmethod" = some (.ref a_Map_of :: rs_Map_of))
    (zmi_Map_of : PySem.W.fnIn K a_Map_of = true)
    (zg__all_pieces : PySem.W.nsIn K mainGlobals "_all_pieces" = some (some (.ref a__all_pieces)))
    (zg__are_numbers : PySem.W.nsIn K mainGlobals "_are_numbers" = some (some (.ref a__are_numbers)))
    (zg__begin_of : PySem.W.nsIn K mainGlobals "_begin_of" = some (some (.ref a__begin_of)))
    (zg__check_segments : PySem.W.nsIn K mainGlobals "_check_segments" = some (some (.ref a__check_segments)))
    (zg__goes_on : PySem.W.nsIn K mainGlobals "_goes_on" = some (some (.ref a__goes_on)))
    (zg__is_segment : PySem.W.nsIn K mainGlobals "_is_segment" = some (some (.ref a__is_segment)))
    (zg__law_all : PySem.W.nsIn K mainGlobals "_law_all" = some (some (.ref a__law_all)))
    (zg__law_begun : PySem.W.nsIn K mainGlobals "_law_begun" = some (some (.ref a__law_begun)))
    (zg__law_draw : PySem.W.nsIn K mainGlobals "_law_draw" = some (some (.ref a__law_draw)))
    (zg__law_length : PySem.W.nsIn K mainGlobals "_law_length" = some (some (.ref a__law_length)))
    (zg__law_of : PySem.W.nsIn K mainGlobals "_law_of" = some (some (.ref a__law_of)))
    (zg__law_pieces : PySem.W.nsIn K mainGlobals "_law_pieces" = some (some (.ref a__law_pieces)))
    (zg__law_right : PySem.W.nsIn K mainGlobals "_law_right" = some (some (.ref a__law_right)))
    (zg__law_segments : PySem.W.nsIn K mainGlobals "_law_segments" = some (some (.ref a__law_segments)))
    (zg__law_told : PySem.W.nsIn K mainGlobals "_law_told" = some (some (.ref a__law_told)))
    (zg__law_values : PySem.W.nsIn K mainGlobals "_law_values" = some (some (.ref a__law_values)))
    (zg__lines_of_segments : PySem.W.nsIn K mainGlobals "_lines_of_segments" = some (some (.ref a__lines_of_segments)))
    (zg__some_columns : PySem.W.nsIn K mainGlobals "_some_columns" = some (some (.ref a__some_columns)))
    (zg_check_up_to : PySem.W.nsIn K mainGlobals "check_up_to" = some (some (.ref a_check_up_to)))
    (zg_fewest : PySem.W.nsIn K mainGlobals "fewest" = some (some (.ref a_fewest)))
    (zg_is_count : PySem.W.nsIn K mainGlobals "is_count" = some (some (.ref a_is_count)))
    (zg_is_integer : PySem.W.nsIn K mainGlobals "is_integer" = some (some (.ref a_is_integer)))
    (zg_is_source : PySem.W.nsIn K mainGlobals "is_source" = some (some (.ref a_is_source)))
    (zg_is_up_to : PySem.W.nsIn K mainGlobals "is_up_to" = some (some (.ref a_is_up_to)))
    (zg_piece_tuples : PySem.W.nsIn K mainGlobals "piece_tuples" = some (some (.ref a_piece_tuples)))
    (zg_pieces_of_lines : PySem.W.nsIn K mainGlobals "pieces_of_lines" = some (some (.ref a_pieces_of_lines)))
    (zg_stretches_of : PySem.W.nsIn K mainGlobals "stretches_of" = some (some (.ref a_stretches_of)))
    (zg_told_further : PySem.W.nsIn K mainGlobals "told_further" = some (some (.ref a_told_further)))
    (zg_told_of : PySem.W.nsIn K mainGlobals "told_of" = some (some (.ref a_told_of)))
    (zg_word_of : PySem.W.nsIn K mainGlobals "word_of" = some (some (.ref a_word_of)))
    (zc_Map : PySem.W.nsIn K mainGlobals "Map" = some (some (.ref c_Map)))
    (zk_NAME_LIMIT : PySem.W.nsIn K mainGlobals "NAME_LIMIT" = some (some (.int 40 t_NAME_LIMIT)))
    (zk_NAME_SIGNS : PySem.W.nsIn K mainGlobals "NAME_SIGNS" = some (some (.str (PySem.Str.ofString "ABCDEFGHIJKLMNOPQRSTUVWXYZabcdefghijklmnopqrstuvwxyz0123456789_-./") t_NAME_SIGNS)))
    (zk_NUMBER_LIMIT : PySem.W.nsIn K mainGlobals "NUMBER_LIMIT" = some (some (.int 1000000000 t_NUMBER_LIMIT)))
    (zk_PIECE_LIMIT : PySem.W.nsIn K mainGlobals "PIECE_LIMIT" = some (some (.int 10000 t_PIECE_LIMIT)))
    (zme_Map_pieces : PySem.W.findIn K (.ref c_Map) "pieces" = some (some (.ref a_Map_pieces)))
    (zmf_Map_pieces : PySem.W.isFn K (.ref a_Map_pieces) = true)
    (zme_Map_row_at : PySem.W.findIn K (.ref c_Map) "row_at" = some (some (.ref a_Map_row_at)))
    (zmf_Map_row_at : PySem.W.isFn K (.ref a_Map_row_at) = true)
    (zme_Map_used_lines : PySem.W.findIn K (.ref c_Map) "used_lines" = some (some (.ref a_Map_used_lines)))
    (zmf_Map_used_lines : PySem.W.isFn K (.ref a_Map_used_lines) = true)
    (zki_Map : PySem.W.findIn K (.ref c_Map) "__init__" = some (some (.ref a_Map_init)))
    (zkf_Map : PySem.W.isFn K (.ref a_Map_init) = true)
    (zkm_Map : PySem.W.makesIn K c_Map = true)
    (zkk_Map : PySem.W.keepIn K (.ref c_Map) = true)
    (zn_all : PySem.W.nsIn K mainGlobals "all" = some none)
    (zn_bool : PySem.W.nsIn K mainGlobals "bool" = some none)
    (zn_enumerate : PySem.W.nsIn K mainGlobals "enumerate" = some none)
    (zn_int : PySem.W.nsIn K mainGlobals "int" = some none)
    (zn_isinstance : PySem.W.nsIn K mainGlobals "isinstance" = some none)
    (zn_len : PySem.W.nsIn K mainGlobals "len" = some none)
    (zn_max : PySem.W.nsIn K mainGlobals "max" = some none)
    (zn_min : PySem.W.nsIn K mainGlobals "min" = some none)
    (zn_range : PySem.W.nsIn K mainGlobals "range" = some none)
    (zn_repr : PySem.W.nsIn K mainGlobals "repr" = some none)
    (zn_sorted : PySem.W.nsIn K mainGlobals "sorted" = some none)
    (zn_str : PySem.W.nsIn K mainGlobals "str" = some none)
    (zn_tuple : PySem.W.nsIn K mainGlobals "tuple" = some none)
    (zea_Map : PySem.W.findIn K (.ref c_Map) "__eq__" = some (some (.ref a_Map_eq)))
    (zef_Map : PySem.W.isFn K (.ref a_Map_eq) = true)
    (zen_Map : neB K c_Map a_Map_eq = true)
    (zsa_Map_bool : PySem.W.findIn K (.ref c_Map) "__bool__" = some (some (.ref a_Map_bool)))
    (zsf_Map_bool : PySem.W.isFn K (.ref a_Map_bool) = true)
    (zsi_Map_bool : PySem.W.fnIn K a_Map_bool = true)
    (zsa_Map_getitem : PySem.W.findIn K (.ref c_Map) "__getitem__" = some (some (.ref a_Map_getitem)))
    (zsf_Map_getitem : PySem.W.isFn K (.ref a_Map_getitem) = true)
    (zsi_Map_getitem : PySem.W.fnIn K a_Map_getitem = true)
    (zsa_Map_len : PySem.W.findIn K (.ref c_Map) "__len__" = some (some (.ref a_Map_len)))
    (zsf_Map_len : PySem.W.isFn K (.ref a_Map_len) = true)
    (zsi_Map_len : PySem.W.fnIn K a_Map_len = true)
    (zrd_Map : PySem.W.readsIn K c_Map (.type "type") = true)
    (zrg_Map : PySem.W.specialIn K (.ref c_Map) "__getattribute__" = some (some (.builtin "type.__getattribute__")))
    (zg_law : PySem.W.nsIn K mainGlobals "law" = some (some (.ref a_law)))
    (zcg_Map : PySem.W.plainGet K c_Map Str.empty = true)
    (zch_Map : PySem.W.hasDictIn K c_Map = true)
    (zcp_Map : PySem.W.plainOver K c_Map = true)
    (zcs_Map : PySem.W.findIn K (.ref c_Map) "__setattr__" = some (some (.builtin "object.__setattr__")))
    (zna_Map__rows : PySem.W.findIn K (.ref c_Map) "_rows" = some none)
    (zna_Map__pieces : PySem.W.findIn K (.ref c_Map) "_pieces" = some none)
    (zyc_Map : PySem.W.findIn K (.ref c_Map) "__class__" = some (some (.builtin "object.__class__")))
    (zyn_Map : PySem.W.specialIn K (.builtin "object.__class__") "__get__" = some (some (.builtin "getset_descriptor.__get__")))
    (zyp_Map : PySem.W.takesIn K (.builtin "object.__class__") = some true)
    (zym_Map : PySem.W.mroIn K c_Map (.type "object") = some true)
    (yks_Map : PySem.W.kitOne K (.ref c_Map) (.ref c_Map) = some true)
    (ynf_Map : PySem.W.notFirst K c_Map (.ref c_Map) = true)
    (zl_is_integer : K.lookup a_is_integer = some ⟨oc0, od0, .func (PySem.W.fnOf "is_integer" "is_integer" (defArgs s_is_integer) (defBody s_is_integer) (defScope s_is_integer) .none kV0 dc0 pm0 an0 cd0 ct0), sl0⟩)
    (zd_is_integer : PySem.W.codeIn K cd0 "is_integer" = true)
    (ze_is_integer : PySem.W.keepIn K (.ref a_is_integer) = true)
    (zl_told_further : K.lookup a_told_further = some ⟨oc1, od1, .func (PySem.W.fnOf "told_further" "told_further" (defArgs s_told_further) (defBody s_told_further) (defScope s_told_further) .none kV1 dc1 pm1 an1 cd1 ct1), sl1⟩)
    (zd_told_further : PySem.W.codeIn K cd1 "told_further" = true)
    (ze_told_further : PySem.W.keepIn K (.ref a_told_further) = true)
    (zl_word_of : K.lookup a_word_of = some ⟨oc2, od2, .func (PySem.W.fnOf "word_of" "word_of" (defArgs s_word_of) (defBody s_word_of) (defScope s_word_of) .none kV2 dc2 pm2 an2 cd2 ct2), sl2⟩)
    (zd_word_of : PySem.W.codeIn K cd2 "word_of" = true)
    (ze_word_of : PySem.W.keepIn K (.ref a_word_of) = true)
    (zl__goes_on : K.lookup a__goes_on = some ⟨oc3, od3, .func (PySem.W.fnOf "_goes_on" "_goes_on" (defArgs s__goes_on) (defBody s__goes_on) (defScope s__goes_on) .none kV3 dc3 pm3 an3 cd3 ct3), sl3⟩)
    (zd__goes_on : PySem.W.codeIn K cd3 "_goes_on" = true)
    (ze__goes_on : PySem.W.keepIn K (.ref a__goes_on) = true)
    (zl_is_source : K.lookup a_is_source = some ⟨oc4, od4, .func (PySem.W.fnOf "is_source" "is_source" (defArgs s_is_source) (defBody s_is_source) (defScope s_is_source) .none kV4 dc4 pm4 an4 cd4 ct4), sl4⟩)
    (zd_is_source : PySem.W.codeIn K cd4 "is_source" = true)
    (ze_is_source : PySem.W.keepIn K (.ref a_is_source) = true)
    (zl__begin_of : K.lookup a__begin_of = some ⟨oc5, od5, .func (PySem.W.fnOf "_begin_of" "_begin_of" (defArgs s__begin_of) (defBody s__begin_of) (defScope s__begin_of) .none kV5 dc5 pm5 an5 cd5 ct5), sl5⟩)
    (zd__begin_of : PySem.W.codeIn K cd5 "_begin_of" = true)
    (ze__begin_of : PySem.W.keepIn K (.ref a__begin_of) = true)
    (zl__all_pieces : K.lookup a__all_pieces = some ⟨oc6, od6, .func (PySem.W.fnOf "_all_pieces" "_all_pieces" (defArgs s__all_pieces) (defBody s__all_pieces) (defScope s__all_pieces) .none kV6 dc6 pm6 an6 cd6 ct6), sl6⟩)
    (zd__all_pieces : PySem.W.codeIn K cd6 "_all_pieces" = true)
    (ze__all_pieces : PySem.W.keepIn K (.ref a__all_pieces) = true)
    (zl_Map_row_at : K.lookup a_Map_row_at = some ⟨oc7, od7, .func (PySem.W.fnOf "row_at" "Map.row_at" (defArgs s_Map_row_at) (defBody s_Map_row_at) (defScope s_Map_row_at) .none kV7 dc7 pm7 an7 cd7 ct7), sl7⟩)
    (zd_Map_row_at : PySem.W.codeIn K cd7 "Map.row_at" = true)
    (ze_Map_row_at : PySem.W.keepIn K (.ref a_Map_row_at) = true)
    (zl_Map_len : K.lookup a_Map_len = some ⟨oc8, od8, .func (PySem.W.fnOf "__len__" "Map.__len__" (defArgs s_Map_len) (defBody s_Map_len) (defScope s_Map_len) .none kV8 dc8 pm8 an8 cd8 ct8), sl8⟩)
    (zd_Map_len : PySem.W.codeIn K cd8 "Map.__len__" = true)
    (ze_Map_len : PySem.W.keepIn K (.ref a_Map_len) = true)
    (zl_Map_bool : K.lookup a_Map_bool = some ⟨oc9, od9, .func (PySem.W.fnOf "__bool__" "Map.__bool__" (defArgs s_Map_bool) (defBody s_Map_bool) (defScope s_Map_bool) .none kV9 dc9 pm9 an9 cd9 ct9), sl9⟩)
    (zd_Map_bool : PySem.W.codeIn K cd9 "Map.__bool__" = true)
    (ze_Map_bool : PySem.W.keepIn K (.ref a_Map_bool) = true)
    (zl_Map_eq : K.lookup a_Map_eq = some ⟨oc10, od10, .func (PySem.W.fnOf "__eq__" "Map.__eq__" (defArgs s_Map_eq) (defBody s_Map_eq) (defScope s_Map_eq) .none kV10 dc10 pm10 an10 cd10 ct10), sl10⟩)
    (zd_Map_eq : PySem.W.codeIn K cd10 "Map.__eq__" = true)
    (ze_Map_eq : PySem.W.keepIn K (.ref a_Map_eq) = true)
    (zl_Map_pieces : K.lookup a_Map_pieces = some ⟨oc11, od11, .func (PySem.W.fnOf "pieces" "Map.pieces" (defArgs s_Map_pieces) (defBody s_Map_pieces) (defScope s_Map_pieces) .none kV11 dc11 pm11 an11 cd11 ct11), sl11⟩)
    (zd_Map_pieces : PySem.W.codeIn K cd11 "Map.pieces" = true)
    (ze_Map_pieces : PySem.W.keepIn K (.ref a_Map_pieces) = true)
    (zl_Map_used_lines : K.lookup a_Map_used_lines = some ⟨oc12, od12, .func (PySem.W.fnOf "used_lines" "Map.used_lines" (defArgs s_Map_used_lines) (defBody s_Map_used_lines) (defScope s_Map_used_lines) .none kV12 dc12 pm12 an12 cd12 ct12), sl12⟩)
    (zd_Map_used_lines : PySem.W.codeIn K cd12 "Map.used_lines" = true)
    (ze_Map_used_lines : PySem.W.keepIn K (.ref a_Map_used_lines) = true)
    (zl__law_begun : K.lookup a__law_begun = some ⟨oc13, od13, .func (PySem.W.fnOf "_law_begun" "_law_begun" (defArgs s__law_begun) (defBody s__law_begun) (defScope s__law_begun) .none kV13 dc13 pm13 an13 cd13 ct13), sl13⟩)
    (zd__law_begun : PySem.W.codeIn K cd13 "_law_begun" = true)
    (ze__law_begun : PySem.W.keepIn K (.ref a__law_begun) = true)
    (zl__law_draw : K.lookup a__law_draw = some ⟨oc14, od14, .func (PySem.W.fnOf "_law_draw" "_law_draw" (defArgs s__law_draw) (defBody s__law_draw) (defScope s__law_draw) .none kV14 dc14 pm14 an14 cd14 ct14), sl14⟩)
    (zd__law_draw : PySem.W.codeIn K cd14 "_law_draw" = true)
    (ze__law_draw : PySem.W.keepIn K (.ref a__law_draw) = true)
    (zl__law_told : K.lookup a__law_told = some ⟨oc15, od15, .func (PySem.W.fnOf "_law_told" "_law_told" (defArgs s__law_told) (defBody s__law_told) (defScope s__law_told) .none kV15 dc15 pm15 an15 cd15 ct15), sl15⟩)
    (zd__law_told : PySem.W.codeIn K cd15 "_law_told" = true)
    (ze__law_told : PySem.W.keepIn K (.ref a__law_told) = true)
    (zl__law_length : K.lookup a__law_length = some ⟨oc16, od16, .func (PySem.W.fnOf "_law_length" "_law_length" (defArgs s__law_length) (defBody s__law_length) (defScope s__law_length) .none kV16 dc16 pm16 an16 cd16 ct16), sl16⟩)
    (zd__law_length : PySem.W.codeIn K cd16 "_law_length" = true)
    (ze__law_length : PySem.W.keepIn K (.ref a__law_length) = true)
    (zl_is_count : K.lookup a_is_count = some ⟨oc17, od17, .func (PySem.W.fnOf "is_count" "is_count" (defArgs s_is_count) (defBody s_is_count) (defScope s_is_count) .none kV17 dc17 pm17 an17 cd17 ct17), sl17⟩)
    (zd_is_count : PySem.W.codeIn K cd17 "is_count" = true)
    (ze_is_count : PySem.W.keepIn K (.ref a_is_count) = true)
    (zl_told_of : K.lookup a_told_of = some ⟨oc18, od18, .func (PySem.W.fnOf "told_of" "told_of" (defArgs s_told_of) (defBody s_told_of) (defScope s_told_of) .none kV18 dc18 pm18 an18 cd18 ct18), sl18⟩)
    (zd_told_of : PySem.W.codeIn K cd18 "told_of" = true)
    (ze_told_of : PySem.W.keepIn K (.ref a_told_of) = true)
    (zl__some_columns : K.lookup a__some_columns = some ⟨oc19, od19, .func (PySem.W.fnOf "_some_columns" "_some_columns" (defArgs s__some_columns) (defBody s__some_columns) (defScope s__some_columns) .none kV19 dc19 pm19 an19 cd19 ct19), sl19⟩)
    (zd__some_columns : PySem.W.codeIn K cd19 "_some_columns" = true)
    (ze__some_columns : PySem.W.keepIn K (.ref a__some_columns) = true)
    (zl__law_of : K.lookup a__law_of = some ⟨oc20, od20, .func (PySem.W.fnOf "_law_of" "_law_of" (defArgs s__law_of) (defBody s__law_of) (defScope s__law_of) .none kV20 dc20 pm20 an20 cd20 ct20), sl20⟩)
    (zd__law_of : PySem.W.codeIn K cd20 "_law_of" = true)
    (ze__law_of : PySem.W.keepIn K (.ref a__law_of) = true)
    (zl__law_values : K.lookup a__law_values = some ⟨oc21, od21, .func (PySem.W.fnOf "_law_values" "_law_values" (defArgs s__law_values) (defBody s__law_values) (defScope s__law_values) .none kV21 dc21 pm21 an21 cd21 ct21), sl21⟩)
    (zd__law_values : PySem.W.codeIn K cd21 "_law_values" = true)
    (ze__law_values : PySem.W.keepIn K (.ref a__law_values) = true)
    (zl__law_pieces : K.lookup a__law_pieces = some ⟨oc22, od22, .func (PySem.W.fnOf "_law_pieces" "_law_pieces" (defArgs s__law_pieces) (defBody s__law_pieces) (defScope s__law_pieces) .none kV22 dc22 pm22 an22 cd22 ct22), sl22⟩)
    (zd__law_pieces : PySem.W.codeIn K cd22 "_law_pieces" = true)
    (ze__law_pieces : PySem.W.keepIn K (.ref a__law_pieces) = true)
    (zl_is_up_to : K.lookup a_is_up_to = some ⟨oc23, od23, .func (PySem.W.fnOf "is_up_to" "is_up_to" (defArgs s_is_up_to) (defBody s_is_up_to) (defScope s_is_up_to) .none kV23 dc23 pm23 an23 cd23 ct23), sl23⟩)
    (zd_is_up_to : PySem.W.codeIn K cd23 "is_up_to" = true)
    (ze_is_up_to : PySem.W.keepIn K (.ref a_is_up_to) = true)
    (zl_stretches_of : K.lookup a_stretches_of = some ⟨oc24, od24, .func (PySem.W.fnOf "stretches_of" "stretches_of" (defArgs s_stretches_of) (defBody s_stretches_of) (defScope s_stretches_of) .none kV24 dc24 pm24 an24 cd24 ct24), sl24⟩)
    (zd_stretches_of : PySem.W.codeIn K cd24 "stretches_of" = true)
    (ze_stretches_of : PySem.W.keepIn K (.ref a_stretches_of) = true)
    (zl_fewest : K.lookup a_fewest = some ⟨oc25, od25, .func (PySem.W.fnOf "fewest" "fewest" (defArgs s_fewest) (defBody s_fewest) (defScope s_fewest) .none kV25 dc25 pm25 an25 cd25 ct25), sl25⟩)
    (zd_fewest : PySem.W.codeIn K cd25 "fewest" = true)
    (ze_fewest : PySem.W.keepIn K (.ref a_fewest) = true)
    (zl__law_segments : K.lookup a__law_segments = some ⟨oc26, od26, .func (PySem.W.fnOf "_law_segments" "_law_segments" (defArgs s__law_segments) (defBody s__law_segments) (defScope s__law_segments) .none kV26 dc26 pm26 an26 cd26 ct26), sl26⟩)
    (zd__law_segments : PySem.W.codeIn K cd26 "_law_segments" = true)
    (ze__law_segments : PySem.W.keepIn K (.ref a__law_segments) = true)
    (zl__law_all : K.lookup a__law_all = some ⟨oc27, od27, .func (PySem.W.fnOf "_law_all" "_law_all" (defArgs s__law_all) (defBody s__law_all) (defScope s__law_all) .none kV27 dc27 pm27 an27 cd27 ct27), sl27⟩)
    (zd__law_all : PySem.W.codeIn K cd27 "_law_all" = true)
    (ze__law_all : PySem.W.keepIn K (.ref a__law_all) = true)
    (zl_check_up_to : K.lookup a_check_up_to = some ⟨oc28, od28, .func (PySem.W.fnOf "check_up_to" "check_up_to" (defArgs s_check_up_to) (defBody s_check_up_to) (defScope s_check_up_to) .none kV28 dc28 pm28 an28 cd28 ct28), sl28⟩)
    (zd_check_up_to : PySem.W.codeIn K cd28 "check_up_to" = true)
    (ze_check_up_to : PySem.W.keepIn K (.ref a_check_up_to) = true)
    (zl_piece_tuples : K.lookup a_piece_tuples = some ⟨oc29, od29, .func (PySem.W.fnOf "piece_tuples" "piece_tuples" (defArgs s_piece_tuples) (defBody s_piece_tuples) (defScope s_piece_tuples) .none kV29 dc29 pm29 an29 cd29 ct29), sl29⟩)
    (zd_piece_tuples : PySem.W.codeIn K cd29 "piece_tuples" = true)
    (ze_piece_tuples : PySem.W.keepIn K (.ref a_piece_tuples) = true)
    (zl__are_numbers : K.lookup a__are_numbers = some ⟨oc30, od30, .func (PySem.W.fnOf "_are_numbers" "_are_numbers" (defArgs s__are_numbers) (defBody s__are_numbers) (defScope s__are_numbers) .none kV30 dc30 pm30 an30 cd30 ct30), sl30⟩)
    (zd__are_numbers : PySem.W.codeIn K cd30 "_are_numbers" = true)
    (ze__are_numbers : PySem.W.keepIn K (.ref a__are_numbers) = true)
    (zl__lines_of_segments : K.lookup a__lines_of_segments = some ⟨oc31, od31, .func (PySem.W.fnOf "_lines_of_segments" "_lines_of_segments" (defArgs s__lines_of_segments) (defBody s__lines_of_segments) (defScope s__lines_of_segments) .none kV31 dc31 pm31 an31 cd31 ct31), sl31⟩)
    (zd__lines_of_segments : PySem.W.codeIn K cd31 "_lines_of_segments" = true)
    (ze__lines_of_segments : PySem.W.keepIn K (.ref a__lines_of_segments) = true)
    (zl__is_segment : K.lookup a__is_segment = some ⟨oc32, od32, .func (PySem.W.fnOf "_is_segment" "_is_segment" (defArgs s__is_segment) (defBody s__is_segment) (defScope s__is_segment) .none kV32 dc32 pm32 an32 cd32 ct32), sl32⟩)
    (zd__is_segment : PySem.W.codeIn K cd32 "_is_segment" = true)
    (ze__is_segment : PySem.W.keepIn K (.ref a__is_segment) = true)
    (zl_pieces_of_lines : K.lookup a_pieces_of_lines = some ⟨oc33, od33, .func (PySem.W.fnOf "pieces_of_lines" "pieces_of_lines" (defArgs s_pieces_of_lines) (defBody s_pieces_of_lines) (defScope s_pieces_of_lines) .none kV33 dc33 pm33 an33 cd33 ct33), sl33⟩)
    (zd_pieces_of_lines : PySem.W.codeIn K cd33 "pieces_of_lines" = true)
    (ze_pieces_of_lines : PySem.W.keepIn K (.ref a_pieces_of_lines) = true)
    (zl_Map_getitem : K.lookup a_Map_getitem = some ⟨oc34, od34, .func (PySem.W.fnOf "__getitem__" "Map.__getitem__" (defArgs s_Map_getitem) (defBody s_Map_getitem) (defScope s_Map_getitem) .none kV34 dc34 pm34 an34 cd34 ct34), sl34⟩)
    (zd_Map_getitem : PySem.W.codeIn K cd34 "Map.__getitem__" = true)
    (ze_Map_getitem : PySem.W.keepIn K (.ref a_Map_getitem) = true)
    (zl__check_segments : K.lookup a__check_segments = some ⟨oc35, od35, .func (PySem.W.fnOf "_check_segments" "_check_segments" (defArgs s__check_segments) (defBody s__check_segments) (defScope s__check_segments) .none kV35 dc35 pm35 an35 cd35 ct35), sl35⟩)
    (zd__check_segments : PySem.W.codeIn K cd35 "_check_segments" = true)
    (ze__check_segments : PySem.W.keepIn K (.ref a__check_segments) = true)
    (zl_Map_init : K.lookup a_Map_init = some ⟨oc36, od36, .func (PySem.W.fnOf "__init__" "Map.__init__" (defArgs s_Map_init) (defBody s_Map_init) (defScope s_Map_init) .none kV36 dc36 pm36 an36 cd36 ct36), sl36⟩)
    (zd_Map_init : PySem.W.codeIn K cd36 "Map.__init__" = true)
    (ze_Map_init : PySem.W.keepIn K (.ref a_Map_init) = true)
    (zl_Map_of : K.lookup a_Map_of = some ⟨oc37, od37, .func (PySem.W.fnOf "of" "Map.of" (defArgs s_Map_of) (defBody s_Map_of) (defScope s_Map_of) .none kV37 dc37 pm37 an37 cd37 ct37), sl37⟩)
    (zd_Map_of : PySem.W.codeIn K cd37 "Map.of" = true)
    (ze_Map_of : PySem.W.keepIn K (.ref a_Map_of) = true)
    (zl__law_right : K.lookup a__law_right = some ⟨oc38, od38, .func (PySem.W.fnOf "_law_right" "_law_right" (defArgs s__law_right) (defBody s__law_right) (defScope s__law_right) .none kV38 dc38 pm38 an38 cd38 ct38), sl38⟩)
    (zd__law_right : PySem.W.codeIn K cd38 "_law_right" = true)
    (ze__law_right : PySem.W.keepIn K (.ref a__law_right) = true)
    (zl_law : K.lookup a_law = some ⟨oc39, od39, .func (PySem.W.fnOf "law" "law" (defArgs s_law) (defBody s_law) (defScope s_law) .none kV39 dc39 pm39 an39 cd39 ct39), sl39⟩)
    (zd_law : PySem.W.codeIn K cd39 "law" = true)
    (ze_law : PySem.W.keepIn K (.ref a_law) = true) :
    LamX.LawAtG l w K CX0 11 63 "script" mg fa h := by
  have e := hfa.symm.trans (PySem.W.mg_of X G zg_law)
  cases e
  have F_is_integer := fun_mk (st := s_is_integer) zl_is_integer zd_is_integer ze_is_integer
  have B_is_integer := F_is_integer.binds (ps := ["value"]) fun _ _ _ _ _ _ us hl => match us, hl with | [_], _ => rfl
  have F_told_further := fun_mk (st := s_told_further) zl_told_further zd_told_further ze_told_further
  have B_told_further := F_told_further.binds (ps := ["told", "by"]) fun _ _ _ _ _ _ us hl => match us, hl with | [_, _], _ => rfl
  have F_word_of := fun_mk (st := s_word_of) zl_word_of zd_word_of ze_word_of
  have B_word_of := F_word_of.binds (ps := ["piece"]) fun _ _ _ _ _ _ us hl => match us, hl with | [_], _ => rfl
  have F__goes_on := fun_mk (st := s__goes_on) zl__goes_on zd__goes_on ze__goes_on
  have B__goes_on := F__goes_on.binds (ps := ["piece", "column", "target"]) fun _ _ _ _ _ _ us hl => match us, hl with | [_, _, _], _ => rfl
  have F_is_source := fun_mk (st := s_is_source) zl_is_source zd_is_source ze_is_source
  have B_is_source := F_is_source.binds (ps := ["value"]) fun _ _ _ _ _ _ us hl => match us, hl with | [_], _ => rfl
  have F__begin_of := fun_mk (st := s__begin_of) zl__begin_of zd__begin_of ze__begin_of
  have B__begin_of := F__begin_of.binds (ps := ["segment"]) fun _ _ _ _ _ _ us hl => match us, hl with | [_], _ => rfl
  have F__all_pieces := fun_mk (st := s__all_pieces) zl__all_pieces zd__all_pieces ze__all_pieces
  have B__all_pieces := F__all_pieces.binds (ps := ["rows"]) fun _ _ _ _ _ _ us hl => match us, hl with | [_], _ => rfl
  have F_Map_row_at := fun_mk (st := s_Map_row_at) zl_Map_row_at zd_Map_row_at ze_Map_row_at
  have B_Map_row_at := F_Map_row_at.binds (ps := ["self", "line"]) fun _ _ _ _ _ _ us hl => match us, hl with | [_, _], _ => rfl
  have F_Map_len := fun_mk (st := s_Map_len) zl_Map_len zd_Map_len ze_Map_len
  have B_Map_len := F_Map_len.binds (ps := ["self"]) fun _ _ _ _ _ _ us hl => match us, hl with | [_], _ => rfl
  have F_Map_bool := fun_mk (st := s_Map_bool) zl_Map_bool zd_Map_bool ze_Map_bool
  have B_Map_bool := F_Map_bool.binds (ps := ["self"]) fun _ _ _ _ _ _ us hl => match us, hl with | [_], _ => rfl
  have F_Map_eq := fun_mk (st := s_Map_eq) zl_Map_eq zd_Map_eq ze_Map_eq
  have B_Map_eq := F_Map_eq.binds (ps := ["self", "other"]) fun _ _ _ _ _ _ us hl => match us, hl with | [_, _], _ => rfl
  have F_Map_pieces := fun_mk (st := s_Map_pieces) zl_Map_pieces zd_Map_pieces ze_Map_pieces
  have B_Map_pieces := F_Map_pieces.binds (ps := ["self"]) fun _ _ _ _ _ _ us hl => match us, hl with | [_], _ => rfl
  have F_Map_used_lines := fun_mk (st := s_Map_used_lines) zl_Map_used_lines zd_Map_used_lines ze_Map_used_lines
  have B_Map_used_lines := F_Map_used_lines.binds (ps := ["self"]) fun _ _ _ _ _ _ us hl => match us, hl with | [_], _ => rfl
  have F__law_begun := fun_mk (st := s__law_begun) zl__law_begun zd__law_begun ze__law_begun
  have B__law_begun := F__law_begun.binds (ps := ["script"]) fun _ _ _ _ _ _ us hl => match us, hl with | [_], _ => rfl
  have F__law_draw := fun_mk (st := s__law_draw) zl__law_draw zd__law_draw ze__law_draw
  have B__law_draw := F__law_draw.binds (ps := ["m", "top"]) fun _ _ _ _ _ _ us hl => match us, hl with | [_, _], _ => rfl
  have F__law_told := fun_mk (st := s__law_told) zl__law_told zd__law_told ze__law_told
  have B__law_told := F__law_told.binds (ps := ["some", "row", "place"]) fun _ _ _ _ _ _ us hl => match us, hl with | [_, _, _], _ => rfl
  have F__law_length := fun_mk (st := s__law_length) zl__law_length zd__law_length ze__law_length
  have B__law_length := F__law_length.binds (ps := ["values", "place", "step"]) fun _ _ _ _ _ _ us hl => match us, hl with | [_, _, _], _ => rfl
  have F_is_count := fun_mk (st := s_is_count) zl_is_count zd_is_count ze_is_count
  have B_is_count := F_is_count.binds (ps := ["value"]) fun _ _ _ _ _ _ us hl => match us, hl with | [_], _ => rfl
  have F_told_of := fun_mk (st := s_told_of) zl_told_of zd_told_of ze_told_of
  have B_told_of := F_told_of.binds (ps := ["piece"]) fun _ _ _ _ _ _ us hl => match us, hl with | [_], _ => rfl
  have F__some_columns := fun_mk (st := s__some_columns) zl__some_columns zd__some_columns ze__some_columns
  have B__some_columns := F__some_columns.binds (ps := ["stretches"]) fun _ _ _ _ _ _ us hl => match us, hl with | [_], _ => rfl
  have F__law_of := fun_mk (st := s__law_of) zl__law_of zd__law_of ze__law_of
  have B__law_of := F__law_of.binds (ps := ["m", "some"]) fun _ _ _ _ _ _ us hl => match us, hl with | [_, _], _ => rfl
  have F__law_values := fun_mk (st := s__law_values) zl__law_values zd__law_values ze__law_values
  have B__law_values := F__law_values.binds (ps := ["some", "row"]) fun _ _ _ _ _ _ us hl => match us, hl with | [_, _], _ => rfl
  have F__law_pieces := fun_mk (st := s__law_pieces) zl__law_pieces zd__law_pieces ze__law_pieces
  have B__law_pieces := F__law_pieces.binds (ps := ["row", "values"]) fun _ _ _ _ _ _ us hl => match us, hl with | [_, _], _ => rfl
  have F_is_up_to := fun_mk (st := s_is_up_to) zl_is_up_to zd_is_up_to ze_is_up_to
  have B_is_up_to := F_is_up_to.binds (ps := ["value", "limit"]) fun _ _ _ _ _ _ us hl => match us, hl with | [_, _], _ => rfl
  have F_stretches_of := fun_mk (st := s_stretches_of) zl_stretches_of zd_stretches_of ze_stretches_of
  have B_stretches_of := F_stretches_of.binds (ps := ["pieces_of_line"]) fun _ _ _ _ _ _ us hl => match us, hl with | [_], _ => rfl
  have F_fewest := fun_mk (st := s_fewest) zl_fewest zd_fewest ze_fewest
  have B_fewest := F_fewest.binds (ps := ["stretches"]) fun _ _ _ _ _ _ us hl => match us, hl with | [_], _ => rfl
  have F__law_segments := fun_mk (st := s__law_segments) zl__law_segments zd__law_segments ze__law_segments
  have B__law_segments := F__law_segments.binds (ps := ["m"]) fun _ _ _ _ _ _ us hl => match us, hl with | [_], _ => rfl
  have F__law_all := fun_mk (st := s__law_all) zl__law_all zd__law_all ze__law_all
  have B__law_all := F__law_all.binds (ps := ["some"]) fun _ _ _ _ _ _ us hl => match us, hl with | [_], _ => rfl
  have F_check_up_to := fun_mk (st := s_check_up_to) zl_check_up_to zd_check_up_to ze_check_up_to
  have B_check_up_to := F_check_up_to.binds (ps := ["value", "limit"]) fun _ _ _ _ _ _ us hl => match us, hl with | [_, _], _ => rfl
  have F_piece_tuples := fun_mk (st := s_piece_tuples) zl_piece_tuples zd_piece_tuples ze_piece_tuples
  have B_piece_tuples := F_piece_tuples.binds (ps := ["line", "stretches"]) fun _ _ _ _ _ _ us hl => match us, hl with | [_, _], _ => rfl
  have F__are_numbers := fun_mk (st := s__are_numbers) zl__are_numbers zd__are_numbers ze__are_numbers
  have B__are_numbers := F__are_numbers.binds (ps := ["value", "many", "limit"]) fun _ _ _ _ _ _ us hl => match us, hl with | [_, _, _], _ => rfl
  have F__lines_of_segments := fun_mk (st := s__lines_of_segments) zl__lines_of_segments zd__lines_of_segments ze__lines_of_segments
  have B__lines_of_segments := F__lines_of_segments.binds (ps := ["segments"]) fun _ _ _ _ _ _ us hl => match us, hl with | [_], _ => rfl
  have F__is_segment := fun_mk (st := s__is_segment) zl__is_segment zd__is_segment ze__is_segment
  have B__is_segment := F__is_segment.binds (ps := ["value", "limit"]) fun _ _ _ _ _ _ us hl => match us, hl with | [_, _], _ => rfl
  have F_pieces_of_lines := fun_mk (st := s_pieces_of_lines) zl_pieces_of_lines zd_pieces_of_lines ze_pieces_of_lines
  have B_pieces_of_lines := F_pieces_of_lines.binds (ps := ["lines"]) fun _ _ _ _ _ _ us hl => match us, hl with | [_], _ => rfl
  have F_Map_getitem := fun_mk (st := s_Map_getitem) zl_Map_getitem zd_Map_getitem ze_Map_getitem
  have B_Map_getitem := F_Map_getitem.binds (ps := ["self", "at"]) fun _ _ _ _ _ _ us hl => match us, hl with | [_, _], _ => rfl
  have F__check_segments := fun_mk (st := s__check_segments) zl__check_segments zd__check_segments ze__check_segments
  have B__check_segments := F__check_segments.binds (ps := ["segments", "limit"]) fun _ _ _ _ _ _ us hl => match us, hl with | [_, _], _ => rfl
  have F_Map_init := fun_mk (st := s_Map_init) zl_Map_init zd_Map_init ze_Map_init
  have B_Map_init := F_Map_init.starB (ps := ["self"]) (pv := "segments") fun _ _ _ _ _ _ => bind_star1 (B := fun l => bindArgs _ ⟨l, []⟩) (fun _ => rfl) fun _ _ _ => rfl
  have F_Map_of := fun_mk (st := s_Map_of) zl_Map_of zd_Map_of ze_Map_of
  have B_Map_of := F_Map_of.binds (ps := ["cls", "segments"]) fun _ _ _ _ _ _ us hl => match us, hl with | [_, _], _ => rfl
  have F__law_right := fun_mk (st := s__law_right) zl__law_right zd__law_right ze__law_right
  have B__law_right := F__law_right.binds (ps := ["some"]) fun _ _ _ _ _ _ us hl => match us, hl with | [_], _ => rfl
  have F_law := fun_mk (st := s_law) zl_law zd_law ze_law
  have B_law := F_law.binds (ps := ["script"]) fun _ _ _ _ _ _ us hl => match us, hl with | [_], _ => rfl
  letI : Tb K := ⟨[]⟩
  have T : Txt K mg ⟨c_Map, a_is_integer, a_told_further, a_word_of, a__goes_on, a_is_source, a__begin_of, a__all_pieces, a_Map_row_at, a_Map_len, a_Map_bool, a_Map_eq, a_Map_pieces, a_Map_used_lines, a__law_begun, a__law_draw, a__law_told, a__law_length, a_is_count, a_told_of, a__some_columns, a__law_of, a__law_values, a__law_pieces, a_is_up_to, a_stretches_of, a_fewest, a__law_segments, a__law_all, a_check_up_to, a_piece_tuples, a__are_numbers, a__lines_of_segments, a__is_segment, a_pieces_of_lines, a_Map_getitem, a__check_segments, a_Map_init, a_Map_of, a__law_right, fa, p_Map_of, t_NAME_LIMIT, t_NAME_SIGNS, t_NUMBER_LIMIT, t_PIECE_LIMIT⟩ ⟨_, _, _, _, _, _, _, _, _, _, _, _, _, _, _, _, _, _, _, _, _, _, _, _, _, _, _, _, _, _, _, _, _, _, _, _, _, _, _, _⟩ := {
    f_is_integer := F_is_integer,
    b_is_integer := B_is_integer,
    f_told_further := F_told_further,
    b_told_further := B_told_further,
    f_word_of := F_word_of,
    b_word_of := B_word_of,
    f__goes_on := F__goes_on,
    b__goes_on := B__goes_on,
    f_is_source := F_is_source,
    b_is_source := B_is_source,
    f__begin_of := F__begin_of,
    b__begin_of := B__begin_of,
    f__all_pieces := F__all_pieces,
    b__all_pieces := B__all_pieces,
    f_Map_row_at := F_Map_row_at,
    b_Map_row_at := B_Map_row_at,
    f_Map_len := F_Map_len,
    b_Map_len := B_Map_len,
    f_Map_bool := F_Map_bool,
    b_Map_bool := B_Map_bool,
    f_Map_eq := F_Map_eq,
    b_Map_eq := B_Map_eq,
    f_Map_pieces := F_Map_pieces,
    b_Map_pieces := B_Map_pieces,
    f_Map_used_lines := F_Map_used_lines,
    b_Map_used_lines := B_Map_used_lines,
    f__law_begun := F__law_begun,
    b__law_begun := B__law_begun,
    f__law_draw := F__law_draw,
    b__law_draw := B__law_draw,
    f__law_told := F__law_told,
    b__law_told := B__law_told,
    f__law_length := F__law_length,
    b__law_length := B__law_length,
    f_is_count := F_is_count,
    b_is_count := B_is_count,
    f_told_of := F_told_of,
    b_told_of := B_told_of,
    f__some_columns := F__some_columns,
    b__some_columns := B__some_columns,
    f__law_of := F__law_of,
    b__law_of := B__law_of,
    f__law_values := F__law_values,
    b__law_values := B__law_values,
    f__law_pieces := F__law_pieces,
    b__law_pieces := B__law_pieces,
    f_is_up_to := F_is_up_to,
    b_is_up_to := B_is_up_to,
    f_stretches_of := F_stretches_of,
    b_stretches_of := B_stretches_of,
    f_fewest := F_fewest,
    b_fewest := B_fewest,
    f__law_segments := F__law_segments,
    b__law_segments := B__law_segments,
    f__law_all := F__law_all,
    b__law_all := B__law_all,
    f_check_up_to := F_check_up_to,
    b_check_up_to := B_check_up_to,
    f_piece_tuples := F_piece_tuples,
    b_piece_tuples := B_piece_tuples,
    f__are_numbers := F__are_numbers,
    b__are_numbers := B__are_numbers,
    f__lines_of_segments := F__lines_of_segments,
    b__lines_of_segments := B__lines_of_segments,
    f__is_segment := F__is_segment,
    b__is_segment := B__is_segment,
    f_pieces_of_lines := F_pieces_of_lines,
    b_pieces_of_lines := B_pieces_of_lines,
    f_Map_getitem := F_Map_getitem,
    b_Map_getitem := B_Map_getitem,
    f__check_segments := F__check_segments,
    b__check_segments := B__check_segments,
    f_Map_init := F_Map_init,
    b_Map_init := B_Map_init,
    f_Map_of := F_Map_of,
    b_Map_of := B_Map_of,
    f__law_right := F__law_right,
    b__law_right := B__law_right,
    f_law := F_law,
    b_law := B_law,
    cm_Map_of := ⟨zma_Map_of, ⟨_, zmr_Map_of⟩, zmi_Map_of⟩,
    g__all_pieces := PySem.W.mg_of X G zg__all_pieces,
    g__are_numbers := PySem.W.mg_of X G zg__are_numbers,
    g__begin_of := PySem.W.mg_of X G zg__begin_of,
    g__check_segments := PySem.W.mg_of X G zg__check_segments,
    g__goes_on := PySem.W.mg_of X G zg__goes_on,
    g__is_segment := PySem.W.mg_of X G zg__is_segment,
    g__law_all := PySem.W.mg_of X G zg__law_all,
    g__law_begun := PySem.W.mg_of X G zg__law_begun,
    g__law_draw := PySem.W.mg_of X G zg__law_draw,
    g__law_length := PySem.W.mg_of X G zg__law_length,
    g__law_of := PySem.W.mg_of X G zg__law_of,
    g__law_pieces := PySem.W.mg_of X G zg__law_pieces,
    g__law_right := PySem.W.mg_of X G zg__law_right,
    g__law_segments := PySem.W.mg_of X G zg__law_segments,
    g__law_told := PySem.W.mg_of X G zg__law_told,
    g__law_values := PySem.W.mg_of X G zg__law_values,
    g__lines_of_segments := PySem.W.mg_of X G zg__lines_of_segments,
    g__some_columns := PySem.W.mg_of X G zg__some_columns,
    g_check_up_to := PySem.W.mg_of X G zg_check_up_to,
    g_fewest := PySem.W.mg_of X G zg_fewest,
    g_is_count := PySem.W.mg_of X G zg_is_count,
    g_is_integer := PySem.W.mg_of X G zg_is_integer,
    g_is_source := PySem.W.mg_of X G zg_is_source,
    g_is_up_to := PySem.W.mg_of X G zg_is_up_to,
    g_piece_tuples := PySem.W.mg_of X G zg_piece_tuples,
    g_pieces_of_lines := PySem.W.mg_of X G zg_pieces_of_lines,
    g_stretches_of := PySem.W.mg_of X G zg_stretches_of,
    g_told_further := PySem.W.mg_of X G zg_told_further,
    g_told_of := PySem.W.mg_of X G zg_told_of,
    g_word_of := PySem.W.mg_of X G zg_word_of,
    gc_Map := PySem.W.mg_of X G zc_Map,
    k_NAME_LIMIT := PySem.W.mg_of X G zk_NAME_LIMIT,
    k_NAME_SIGNS := PySem.W.mg_of X G zk_NAME_SIGNS,
    k_NUMBER_LIMIT := PySem.W.mg_of X G zk_NUMBER_LIMIT,
    k_PIECE_LIMIT := PySem.W.mg_of X G zk_PIECE_LIMIT,
    me_Map_pieces := ⟨zme_Map_pieces, zmf_Map_pieces, ze_Map_pieces⟩,
    me_Map_row_at := ⟨zme_Map_row_at, zmf_Map_row_at, ze_Map_row_at⟩,
    me_Map_used_lines := ⟨zme_Map_used_lines, zmf_Map_used_lines, ze_Map_used_lines⟩,
    mk_Map := ⟨zkm_Map, zki_Map, zkf_Map, zkk_Map⟩,
    n_all := PySem.W.mg_none_of X G zn_all,
    n_bool := PySem.W.mg_none_of X G zn_bool,
    n_enumerate := PySem.W.mg_none_of X G zn_enumerate,
    n_int := PySem.W.mg_none_of X G zn_int,
    n_isinstance := PySem.W.mg_none_of X G zn_isinstance,
    n_len := PySem.W.mg_none_of X G zn_len,
    n_max := PySem.W.mg_none_of X G zn_max,
    n_min := PySem.W.mg_none_of X G zn_min,
    n_range := PySem.W.mg_none_of X G zn_range,
    n_repr := PySem.W.mg_none_of X G zn_repr,
    n_sorted := PySem.W.mg_none_of X G zn_sorted,
    n_str := PySem.W.mg_none_of X G zn_str,
    n_tuple := PySem.W.mg_none_of X G zn_tuple,
    es_Map := zea_Map,
    ef_Map := zef_Map,
    en_Map := zen_Map,
    ssa_Map_bool := zsa_Map_bool,
    ssf_Map_bool := zsf_Map_bool,
    ssi_Map_bool := zsi_Map_bool,
    ssa_Map_getitem := zsa_Map_getitem,
    ssf_Map_getitem := zsf_Map_getitem,
    ssi_Map_getitem := zsi_Map_getitem,
    ssa_Map_len := zsa_Map_len,
    ssf_Map_len := zsf_Map_len,
    ssi_Map_len := zsi_Map_len,
    cr_Map := ⟨zrd_Map, zrg_Map⟩,
    tc := { cl_Map := ⟨zcg_Map, zch_Map, zcp_Map, zcs_Map⟩, na_Map__rows := zna_Map__rows, na_Map__pieces := zna_Map__pieces, ty_Map := ⟨⟨zcg_Map, zch_Map, zcp_Map, zcs_Map⟩, zyc_Map, zyn_Map, zyp_Map, zym_Map⟩, ks_Map := yks_Map, nf_Map := ynf_Map } }
  exact ⟨_, [], spL K, fun p hp => absurd hp (by simp), fun s v => .of_eq rfl, fun H a ns hl hT hS => law_start hl hS (tb := []) rfl .nil (fun p hp => absurd hp (by simp)), fun base _ _ hTB => ok_all T⟩
end Lw
open PySem PySem.W PyProof.Rows in
set_option maxRecDepth 100000 in
set_option maxHeartbeats 0 in
theorem PySem.Challenge.cw_mapstack_k14_whole_pieces_holds : PySem.Challenge.rw_mapstack_k14_whole_pieces.Holds := by
  refine Lw.hd ?_
  k_fill
  refine LamX.walkG (l := PySem.Challenge.rw_mapstack_k14_whole_pieces) (n := 63) (k := 11) (x := "script") (CX := fun _ => L2.CX0) rfl (by decide) rfl ⟨rfl, by decide, by decide⟩ (fun w h Y => PySem.W.kIn_of Y) ?F fun _ _ _ _ _ z => z
  case F =>
    intro w mg fa h Y KX G hmg
    refine' Lw.all_mk KX G hmg ?zma_Map_of ?zmr_Map_of ?zmi_Map_of ?zg__all_pieces ?zg__are_numbers ?zg__begin_of ?zg__check_segments ?zg__goes_on ?zg__is_segment ?zg__law_all ?zg__law_begun ?zg__law_draw ?zg__law_length ?zg__law_of ?zg__law_pieces ?zg__law_right ?zg__law_segments ?zg__law_told ?zg__law_values ?zg__lines_of_segments ?zg__some_columns ?zg_check_up_to ?zg_fewest ?zg_is_count ?zg_is_integer ?zg_is_source ?zg_is_up_to ?zg_piece_tuples ?zg_pieces_of_lines ?zg_stretches_of ?zg_told_further ?zg_told_of ?zg_word_of ?zc_Map ?zk_NAME_LIMIT ?zk_NAME_SIGNS ?zk_NUMBER_LIMIT ?zk_PIECE_LIMIT ?zme_Map_pieces ?zmf_Map_pieces ?zme_Map_row_at ?zmf_Map_row_at ?zme_Map_used_lines ?zmf_Map_used_lines ?zki_Map ?zkf_Map ?zkm_Map ?zkk_Map ?zn_all ?zn_bool ?zn_enumerate ?zn_int ?zn_isinstance ?zn_len ?zn_max ?zn_min ?zn_range ?zn_repr ?zn_sorted ?zn_str ?zn_tuple ?zea_Map ?zef_Map ?zen_Map ?zsa_Map_bool ?zsf_Map_bool ?zsi_Map_bool ?zsa_Map_getitem ?zsf_Map_getitem ?zsi_Map_getitem ?zsa_Map_len ?zsf_Map_len ?zsi_Map_len ?zrd_Map ?zrg_Map ?zg_law ?zcg_Map ?zch_Map ?zcp_Map ?zcs_Map ?zna_Map__rows ?zna_Map__pieces ?zyc_Map ?zyn_Map ?zyp_Map ?zym_Map ?yks_Map ?ynf_Map ?zl_is_integer ?zd_is_integer ?ze_is_integer ?zl_told_further ?zd_told_further ?ze_told_further ?zl_word_of ?zd_word_of ?ze_word_of ?zl__goes_on ?zd__goes_on ?ze__goes_on ?zl_is_source ?zd_is_source ?ze_is_source ?zl__begin_of ?zd__begin_of ?ze__begin_of ?zl__all_pieces ?zd__all_pieces ?ze__all_pieces ?zl_Map_row_at ?zd_Map_row_at ?ze_Map_row_at ?zl_Map_len ?zd_Map_len ?ze_Map_len ?zl_Map_bool ?zd_Map_bool ?ze_Map_bool ?zl_Map_eq ?zd_Map_eq ?ze_Map_eq ?zl_Map_pieces ?zd_Map_pieces ?ze_Map_pieces ?zl_Map_used_lines ?zd_Map_used_lines ?ze_Map_used_lines ?zl__law_begun ?zd__law_begun ?ze__law_begun ?zl__law_draw ?zd__law_draw ?ze__law_draw ?zl__law_told ?zd__law_told ?ze__law_told ?zl__law_length ?zd__law_length ?ze__law_length ?zl_is_count ?zd_is_count ?ze_is_count ?zl_told_of ?zd_told_of ?ze_told_of ?zl__some_columns ?zd__some_columns ?ze__some_columns ?zl__law_of ?zd__law_of ?ze__law_of ?zl__law_values ?zd__law_values ?ze__law_values ?zl__law_pieces ?zd__law_pieces ?ze__law_pieces ?zl_is_up_to ?zd_is_up_to ?ze_is_up_to ?zl_stretches_of ?zd_stretches_of ?ze_stretches_of ?zl_fewest ?zd_fewest ?ze_fewest ?zl__law_segments ?zd__law_segments ?ze__law_segments ?zl__law_all ?zd__law_all ?ze__law_all ?zl_check_up_to ?zd_check_up_to ?ze_check_up_to ?zl_piece_tuples ?zd_piece_tuples ?ze_piece_tuples ?zl__are_numbers ?zd__are_numbers ?ze__are_numbers ?zl__lines_of_segments ?zd__lines_of_segments ?ze__lines_of_segments ?zl__is_segment ?zd__is_segment ?ze__is_segment ?zl_pieces_of_lines ?zd_pieces_of_lines ?ze_pieces_of_lines ?zl_Map_getitem ?zd_Map_getitem ?ze_Map_getitem ?zl__check_segments ?zd__check_segments ?ze__check_segments ?zl_Map_init ?zd_Map_init ?ze_Map_init ?zl_Map_of ?zd_Map_of ?ze_Map_of ?zl__law_right ?zd__law_right ?ze__law_right ?zl_law ?zd_law ?ze_law 
    (case zg__all_pieces => k_is)
    (case zg__are_numbers => k_is)
    (case zg__begin_of => k_is)
    (case zg__check_segments => k_is)
    (case zg__goes_on => k_is)
    (case zg__is_segment => k_is)
    (case zg__law_all => k_is)
    (case zg__law_begun => k_is)
    (case zg__law_draw => k_is)
    (case zg__law_length => k_is)
    (case zg__law_of => k_is)
    (case zg__law_pieces => k_is)
    (case zg__law_right => k_is)
    (case zg__law_segments => k_is)
    (case zg__law_told => k_is)
    (case zg__law_values => k_is)
    (case zg__lines_of_segments => k_is)
    (case zg__some_columns => k_is)
    (case zg_check_up_to => k_is)
    (case zg_fewest => k_is)
    (case zg_is_count => k_is)
    (case zg_is_integer => k_is)
    (case zg_is_source => k_is)
    (case zg_is_up_to => k_is)
    (case zg_piece_tuples => k_is)
    (case zg_pieces_of_lines => k_is)
    (case zg_stretches_of => k_is)
    (case zg_told_further => k_is)
    (case zg_told_of => k_is)
    (case zg_word_of => k_is)
    (case zc_Map => k_is)
    (case zk_NAME_LIMIT => k_is)
    (case zk_NAME_SIGNS => k_is)
    (case zk_NUMBER_LIMIT => k_is)
    (case zk_PIECE_LIMIT => k_is)
    (case zn_all => k_is)
    (case zn_bool => k_is)
    (case zn_enumerate => k_is)
    (case zn_int => k_is)
    (case zn_isinstance => k_is)
    (case zn_len => k_is)
    (case zn_max => k_is)
    (case zn_min => k_is)
    (case zn_range => k_is)
    (case zn_repr => k_is)
    (case zn_sorted => k_is)
    (case zn_str => k_is)
    (case zn_tuple => k_is)
    (case zg_law => k_is)
    (case zma_Map_of => k_is)
    (case zme_Map_pieces => k_is)
    (case zme_Map_row_at => k_is)
    (case zme_Map_used_lines => k_is)
    (case zki_Map => k_is)
    (case zea_Map => k_is)
    (case zsa_Map_bool => k_is)
    (case zsa_Map_getitem => k_is)
    (case zsa_Map_len => k_is)
    (case zmr_Map_of => k_is)
    (case zl_is_integer => k_is)
    (case zl_told_further => k_is)
    (case zl_word_of => k_is)
    (case zl__goes_on => k_is)
    (case zl_is_source => k_is)
    (case zl__begin_of => k_is)
    (case zl__all_pieces => k_is)
    (case zl_Map_row_at => k_is)
    (case zl_Map_len => k_is)
    (case zl_Map_bool => k_is)
    (case zl_Map_eq => k_is)
    (case zl_Map_pieces => k_is)
    (case zl_Map_used_lines => k_is)
    (case zl__law_begun => k_is)
    (case zl__law_draw => k_is)
    (case zl__law_told => k_is)
    (case zl__law_length => k_is)
    (case zl_is_count => k_is)
    (case zl_told_of => k_is)
    (case zl__some_columns => k_is)
    (case zl__law_of => k_is)
    (case zl__law_values => k_is)
    (case zl__law_pieces => k_is)
    (case zl_is_up_to => k_is)
    (case zl_stretches_of => k_is)
    (case zl_fewest => k_is)
    (case zl__law_segments => k_is)
    (case zl__law_all => k_is)
    (case zl_check_up_to => k_is)
    (case zl_piece_tuples => k_is)
    (case zl__are_numbers => k_is)
    (case zl__lines_of_segments => k_is)
    (case zl__is_segment => k_is)
    (case zl_pieces_of_lines => k_is)
    (case zl_Map_getitem => k_is)
    (case zl__check_segments => k_is)
    (case zl_Map_init => k_is)
    (case zl_Map_of => k_is)
    (case zl__law_right => k_is)
    (case zl_law => k_is)
    (case zmi_Map_of => k_is)
    (case zmf_Map_pieces => k_is)
    (case zmf_Map_row_at => k_is)
    (case zmf_Map_used_lines => k_is)
    (case zkf_Map => k_is)
    (case zkm_Map => k_is)
    (case zkk_Map => k_is)
    (case zef_Map => k_is)
    (case zen_Map => kernel_rfl)
    (case zsf_Map_bool => k_is)
    (case zsi_Map_bool => k_is)
    (case zsf_Map_getitem => k_is)
    (case zsi_Map_getitem => k_is)
    (case zsf_Map_len => k_is)
    (case zsi_Map_len => k_is)
    (case zrd_Map => k_is)
    (case zrg_Map => k_is)
    (case zcg_Map => k_is)
    (case zch_Map => k_is)
    (case zcp_Map => k_is)
    (case zcs_Map => k_is)
    (case zna_Map__rows => k_is)
    (case zna_Map__pieces => k_is)
    (case zyc_Map => k_is)
    (case zyn_Map => k_is)
    (case zyp_Map => k_is)
    (case zym_Map => k_is)
    (case yks_Map => kernel_rfl)
    (case ynf_Map => kernel_rfl)
    (case zd_is_integer => k_is)
    (case ze_is_integer => k_is)
    (case zd_told_further => k_is)
    (case ze_told_further => k_is)
    (case zd_word_of => k_is)
    (case ze_word_of => k_is)
    (case zd__goes_on => k_is)
    (case ze__goes_on => k_is)
    (case zd_is_source => k_is)
    (case ze_is_source => k_is)
    (case zd__begin_of => k_is)
    (case ze__begin_of => k_is)
    (case zd__all_pieces => k_is)
    (case ze__all_pieces => k_is)
    (case zd_Map_row_at => k_is)
    (case ze_Map_row_at => k_is)
    (case zd_Map_len => k_is)
    (case ze_Map_len => k_is)
    (case zd_Map_bool => k_is)
    (case ze_Map_bool => k_is)
    (case zd_Map_eq => k_is)
    (case ze_Map_eq => k_is)
    (case zd_Map_pieces => k_is)
    (case ze_Map_pieces => k_is)
    (case zd_Map_used_lines => k_is)
    (case ze_Map_used_lines => k_is)
    (case zd__law_begun => k_is)
    (case ze__law_begun => k_is)
    (case zd__law_draw => k_is)
    (case ze__law_draw => k_is)
    (case zd__law_told => k_is)
    (case ze__law_told => k_is)
    (case zd__law_length => k_is)
    (case ze__law_length => k_is)
    (case zd_is_count => k_is)
    (case ze_is_count => k_is)
    (case zd_told_of => k_is)
    (case ze_told_of => k_is)
    (case zd__some_columns => k_is)
    (case ze__some_columns => k_is)
    (case zd__law_of => k_is)
    (case ze__law_of => k_is)
    (case zd__law_values => k_is)
    (case ze__law_values => k_is)
    (case zd__law_pieces => k_is)
    (case ze__law_pieces => k_is)
    (case zd_is_up_to => k_is)
    (case ze_is_up_to => k_is)
    (case zd_stretches_of => k_is)
    (case ze_stretches_of => k_is)
    (case zd_fewest => k_is)
    (case ze_fewest => k_is)
    (case zd__law_segments => k_is)
    (case ze__law_segments => k_is)
    (case zd__law_all => k_is)
    (case ze__law_all => k_is)
    (case zd_check_up_to => k_is)
    (case ze_check_up_to => k_is)
    (case zd_piece_tuples => k_is)
    (case ze_piece_tuples => k_is)
    (case zd__are_numbers => k_is)
    (case ze__are_numbers => k_is)
    (case zd__lines_of_segments => k_is)
    (case ze__lines_of_segments => k_is)
    (case zd__is_segment => k_is)
    (case ze__is_segment => k_is)
    (case zd_pieces_of_lines => k_is)
    (case ze_pieces_of_lines => k_is)
    (case zd_Map_getitem => k_is)
    (case ze_Map_getitem => k_is)
    (case zd__check_segments => k_is)
    (case ze__check_segments => k_is)
    (case zd_Map_init => k_is)
    (case ze_Map_init => k_is)
    (case zd_Map_of => k_is)
    (case ze_Map_of => k_is)
    (case zd__law_right => k_is)
    (case ze__law_right => k_is)
    (case zd_law => k_is)
    (case ze_law => k_is)
