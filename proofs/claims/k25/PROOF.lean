import PyProof.Rows.All
import Wide.All
import OpenK.AllK
import Wide.FinOn
import HandS.ForMost
import HandS.Evl
import HandS.Walk
import HandS.IsInst
import HandS.Flow
import HandS.TupLe
import HandS.TupAny
import HandS.Property
import HandS.StrMore
import HandS.Conv
import HandS.Star
import HandS.Style
import HandS.Steps
import HandS.WordsExc
import HandS.ExcInit
import PyProof.Rows.SeqMore
import KE.DataEq
import KE.DataCmp
import KE.DatumOrd
import KE.DataMinMax
import HandS.ExcIs
import HandS.ExcField
import HandS.Lambda
import HandS.ExcValue
import HandS.EndTab
import HandS.Defaults
import HandS.MakeKw
import KE.KExcIs
import KE.KTryMore
import KE.KDflt
import KE.KNestM
import HandS.OwnEq
import PyProof.InstNe
import HandS.TupMul
import HandS.ClsMeth
import PyProof.Rows.StrRev
import HandS.MakeKwOnly
import PyProof.ExcBaseAll.RuntimeError
import HandS.Strs
import HandS.DictComp
import HandS.WideBits
import HandS.SortInts
import KE.GoesMore
import OpenK.KMeth
import OpenK.KOps
import KE.SortKeyHeap
import KE.KSortKey
import HandS.SortKw
import PyProof.Rows.Own
import PyProof.AutoSeq1
import HandS.SetKeys
import HandS.More
import KE.KDictSum
import PyProof.EqKinds
import PyProof.EqAt
import HandS.GenList
import PySem.Challenge.RW_mapstack_k25_whole_codes
set_option Elab.async false
set_option linter.all false
set_option maxRecDepth 100000
set_option maxHeartbeats 2000000
/-! what the head would make of its own and never use: named ahead, so that the compiled file stays small -/
def PySem.W.Fast.tw12390798536196764139 : Unit := ()
theorem PySem.W.Fast.te12390798536196764139 : True := trivial
section
open PySem PySem.W PyProof.Rows
set_option maxRecDepth 100000
set_option maxHeartbeats 0
open_top Lw.hd for PySem.Challenge.rw_mapstack_k25_whole_codes
end

/-! Exceptions that were caught and are kept: tracked as things of their own. -/
namespace L2
open PySem PySem.Spec PyProof.Rows
/-- at a: an exception object of the class C with the dict d, caught or not -/
def xo (a : Addr) (C : Value) (d : Option Addr) : HO := .ext fun h => ∃ (oe : Obj) (vs : Array Value), h.get? a = some oe ∧ oe.cls = C ∧ oe.dict = d ∧ oe.data = .fields vs
section
variable {X : Cx} {pins : List (Addr × Obj)} {σ : St} {H : Hp} {s sI s' : Shared} {B : Heap}
end
/-- an except clause's test: it names the classes cs -/
def Clause (X : Cx) (t : Expr) (cs : List Value) : Prop :=
  ∀ (a : Addr) (pn : List (Addr × Obj)) (σ : St) (H : Hp) (s : Shared) (cls : Value) (b : Bool) (Q : Bool → Shared → Prop) (E : Value → Shared → Prop), Inv (X.suite a pn) [] σ H s → PySem.W.Looks (model X.prog X.w) s.heap (typeOf (.ref a)) cls →
    PySem.W.exmAny X.K cls cs = some b → (∀ h', (∀ q o, s.heap.get? q = some o → h'.get? q = some o) → Q b { s with heap := h' }) →
    wpAny (model X.prog X.w) (X.A.mark (some (.ref a))) (eval t X.env) (fun c s1 => wpAny (model X.prog X.w) (X.A.mark (some (.ref a))) (excMatches (.ref a) c) Q E s1) E s
section
variable {X : Cx} {a : Addr} {pn : List (Addr × Obj)} {σ : St} {H : Hp} {s : Shared} {x x1 x2 x3 x4 : Str} {c c1 c2 c3 c4 : Value} {p p1 p2 p3 p4 : Pos} {k : Nat}
end
/-- the wish of a clause that keeps what it catches: it catches all, slot i is the name's -/
def wKeep (K : PySem.W.Frag) (cs : List Value) (i : Nat) (ts : TS) (D : Ends) : WX := fun cls d σ H =>
  PySem.W.exmAny K cls cs = some true ∧ ∀ a, H a = none → ts { nx := fun σ' H' => D.nx (σ'.set i none) H', rt := D.rt, bk := fun σ' H' => D.bk (σ'.set i none) H', ct := fun σ' H' => D.ct (σ'.set i none) H' } (σ.set i (some (.ref a))) (upd H a (xo a cls d))
def tTryK (K : PySem.W.Frag) (cs : List Value) (i : Nat) (ts : TS) (tb : WX → TS) : TS := fun D σ H => tb (wKeep K cs i ts D) D σ H
section
variable {X : Cx} {t : Expr} {n : Str} {cs : List Value} {i : Nat} {body suite : List Stmt} {b₀ : Stmt} {pos pos' : Pos} {tb : WX → TS} {ts : TS}
end
end L2

/-! Own exceptions of any base: made (raised, or as values), their one field, asked by isinstance. -/
namespace PySem
namespace XG
open PySem.W PySem.Calls PyProof.Rows PySem.HandSPX Builtin Builtin.ObjectAttr
/-- classes of the program, then the row tl -/
def ownThen (tl : List Value) : List Value → Bool
  | .ref _ :: r => ownThen tl r
  | l => l == tl
/-- what is asked of a base: its row tl -/
structure BaseX (tl : List Value) (B newId initId : String) : Prop where
  F : ExcBaseFacts B newId initId tl
  pass : ∀ self : Value, refuseLoop self "__setattr__" tl = pure ()
  ob : tl.contains (.type "object") = true
  ne : tl.isEmpty = false
section
variable {tl : List Value} {B newId initId : String} {l : List Value}
end
section
variable {prog : Program} {w : World} {A : Around} {R : Result → Shared → Prop} {hp : Heap} {g : Array GenState} {d : Drawn} {t : Nat} {os : OsState} {tl : List Value} {B newId initId : String}
end
end XG
end PySem
namespace L2
open PySem PySem.Spec PyProof.Rows PySem.XG
/-- what the written part says of an own exception class whose row ends in tl -/
structure OexG (K : PySem.W.Frag) (C : Addr) (tl : List Value) (newId : String) : Prop where
  cls : ∃ nm q N bs bm sn sub ab col dd k0 k1 k2 k3 k5, K.lookup C = some (excClassObj nm q C N bs bm true sn sub ab col dd k0 k1 k2 k3 k5 newId) ∧ ownThen tl bm = true
  sa : PySem.W.findIn K (.ref C) "__setattr__" = some (some (.builtin "object.__setattr__"))
  ty : PySem.W.typeIn K (.ref C) = some (.type "type")
  kp : PySem.W.keepIn K (.ref C) = true
  ga : PySem.W.findIn K (.ref C) "__getattribute__" = some (some (.builtin "BaseException.__getattribute__"))
  gg : PySem.W.findIn K (.ref C) "__getattr__" = some none
  ex : PySem.W.subIn K (.ref C) (.type "BaseException") = some true
  hd : PySem.W.hasDictIn K C = true
  ha : PySem.W.findIn K (.ref C) "__class__" = some (some (.builtin "object.__class__"))
  hn : PySem.W.specialIn K (.builtin "object.__class__") "__get__" = some (some (.builtin "getset_descriptor.__get__"))
  ht : PySem.W.takesIn K (.builtin "object.__class__") = some true
  hm : PySem.W.mroIn K C (.type "object") = some true
/-- the class's own part, by a look at what is written -/
def oexB (K : PySem.W.Frag) (C : Addr) (tl : List Value) (newId : String) : Bool :=
  match K.lookup C with
  | some ⟨.type "type", _, .cls cd, sl⟩ =>
    match cd.mro, sl.toList with
    | .ref C' :: bm, [_, _, _, _, some (.builtin n), _] => C' == C && n == newId && !cd.hasDel && cd.hasDict && ownThen tl bm
    | _, _ => false
  | _ => false
section
variable {X : Cx} {pins : List (Addr × Obj)} {σ : St} {H : Hp} {s : Shared} {a C dx : Addr} {f : Str} {y : V} {u : Value} {A : Around} {tl : List Value} {B newId initId : String}
end
/-- self.f = e, of a new exception -/
def tOsx (K : PySem.W.Frag) (C : Addr) (f : Str) (to te : TE) : TS := fun D σ H => te σ H fun y H1 => to σ H1 fun x H2 => ∃ a : Addr, x = .ref a ∧ H2 a = some (exo a C none) ∧ ∀ dx, H2 dx = none → dx ≠ a → D.nx σ (upd (upd H2 dx (exd dx [(f, y)])) a (exo a C (some dx)))
section
variable {X : Cx} {o e : Expr} {es : List Expr} {to te : TE} {ta : TA} {f : Str} {p p' pos : Pos} {C : Addr} {tl : List Value} {B newId initId : String}
/-- C(e), as a value -/
def tMkX (C : Addr) (sp : Sp) (ta : TA) : TE := fun σ H Q => ta σ H fun vs H1 => vs.length ≤ 1000 ∧ ∀ a, H1 a = none → sp (.ref a :: vs) (upd H1 a (exo a C none))
  (fun v H2 => v = .non ∧ ∃ (d : Addr) (fs : List (Str × V)), H2 a = some (exo a C (some d)) ∧ H2 d = some (exd d fs) ∧ H1 d = none ∧ Q (.ref a) (upd (upd (del H2 a) d (.xd fs)) a (xo a (.ref C) (some d)))) (fun _ _ _ => False)
end
/-! ### a tracked exception asked -/
/-- error.f -/
def tExf (K : PySem.W.Frag) (f : Str) (te : TE) : TE := fun σ H Q => te σ H fun x H1 => ∃ (a C dx : Addr) (fs : List (Str × V)) (v : V), x = .ref a ∧ H1 a = some (xo a (.ref C) (some dx)) ∧ H1 dx = some (.xd fs) ∧ XfC K C ∧ PySem.W.findIn K (.ref C) f = some none ∧ fs.lookup f = some v ∧ Q v H1
section
variable {X : Cx}
/-- isinstance(e, c) of a tracked exception -/
def rIsX (K : PySem.W.Frag) : List V → Hp → VK → Prop := fun xs H Q => ∃ (a C : Addr) (d : Option Addr) (c : V) (cv : Value) (b : Bool), xs = [.ref a, c] ∧ H a = some (xo a (.ref C) d) ∧ (d = none ∨ ∃ dx fs, d = some dx ∧ H dx = some (.xd fs)) ∧ ExcC K C ∧ (∀ u, RelV c u → u = cv) ∧ PySem.W.kitOne K (.ref C) cv = some b ∧ Q (.bl b) H
end
end L2

/-! A lambda without parameters, or with one that has the default 0, handed to a def that calls it. -/
namespace L2
open PySem PySem.Spec PyProof.Rows LamX
/-- the function object of a lambda -/
abbrev lfn (q : Str) (params : Arguments) (body : Expr) (scope : Scope) (cl : List (Str × Addr)) (dV doc pm : Value) (c' : Addr) (ct : Value) : FuncData := PySem.W.kdv_fn "<lambda>" q params (.expr body) scope cl dV doc pm (.ref c') ct
/-- how its defaults stand: none, or a tuple of 0 -/
def DefAt (H : Hp) (fr : List Addr) (h : Heap) (params : Arguments) (bs : List (Str × Value)) (dV : Value) : Prop :=
  (params.defaults = [] ∧ bs = [] ∧ dV = .none) ∨ ∃ (T : Addr) (tk : Tok) (x : Str), dV = .ref T ∧ bs = [(x, .int 0 tk)] ∧ h.get? T = some (PySem.W.kdv_tup [.int 0 tk]) ∧ H T = none ∧ T ∉ fr
/-- how a call without arguments binds -/
structure LamB (params : Arguments) (one : Option Str) : Prop where
  kd : params.kw_defaults = []
  no : one = none → params.defaults = [] ∧ ∀ (q : Str) (body : FuncBody) (scope : Scope) (cl : List (Str × Addr)) (doc pm cv ct : Value), bindArgs (PySem.W.kdv_fn "<lambda>" q params body scope cl .none doc pm cv ct) ⟨[], []⟩ = pure []
  yes : ∀ x, one = some x → (∃ j p, params.defaults = [.Constant (.int 0) j p]) ∧ ∀ (q : Str) (body : FuncBody) (scope : Scope) (cl : List (Str × Addr)) (T : Addr) (tk : Tok) (doc pm cv ct : Value), ∃ k : Option (Array Value) → Sem (List (Str × Value)), bindArgs (PySem.W.kdv_fn "<lambda>" q params body scope cl (.ref T) doc pm cv ct) ⟨[], []⟩ = seqItems? (.ref T) >>= k ∧ k (some #[.int 0 tk]) = pure [(x, .int 0 tk)]
/-- its names: captured ones and globals; the one parameter isn't among the maker's -/
structure LamN (N : List Str) (sc scope : Scope) (one : Option Str) : Prop where
  kind : scope.kind = .function
  co : scope.isCoroutine = false
  gen : scope.isGenerator = false
  cell : ∀ y ∈ scope.names, y.2 ≠ .cell
  own : ∀ y ∈ scope.names, y.2 = .local → y.1 ∉ N
  par : ∀ x, one = some x → scope.names.lookup x = some .local
  free : ∀ y ∈ scope.names, y.2 = .free → sc.names.lookup y.1 = some .cell ∨ sc.names.lookup y.1 = some .free
def lamNB (N : List Str) (sc scope : Scope) (one : Option Str) : Bool :=
  decide (scope.kind = .function) && !scope.isCoroutine && !scope.isGenerator && (scope.names.all fun y => !decide (y.2 = .cell) && (!decide (y.2 = .local) || !decide (y.1 ∈ N)) && (!decide (y.2 = .free) || decide (sc.names.lookup y.1 = some .cell) || decide (sc.names.lookup y.1 = some .free))) &&
    (match one with | none => true | some x => decide (scope.names.lookup x = some .local))
theorem LamN.has {X : Cx} {scope : Scope} {one : Option Str} (L : LamN X.N X.env.scope scope one) (ok : X.Ok) : ∀ y ∈ scope.names, y.2 = .free → ∃ c, X.env.cells.lookup y.1 = some c := fun y hy e => (L.free y hy e).elim (fun k => ok.has _ (.inl k)) fun k => ok.has _ (.inr k)
/-- the table at P tells code objects of the name q -/
def TabO (H : Hp) (ps : Array Value) (q : Str) : Prop := TriplesOk ps.toList ∧ ∀ (pos : Pos) (cv : Value), codeAmong pos ps.toList = some cv → ∃ c, cv = .ref c ∧ H c = some (CodeO c q)
/-- what the making of a lambda does to what is tracked: its code object c' is found in the table ps, or new -/
def LamStep (H : Hp) (P : Addr) (ps : Array Value) (q : Str) (c' : Addr) (H1 : Hp) : Prop :=
  (H1 = H ∧ ∃ p, codeAmong p ps.toList = some (.ref c')) ∨ ∃ ps', H c' = none ∧ c' ≠ P ∧ H1 = upd (upd H P (.tbl ps')) c' (CodeO c' q) ∧ TriplesOk ps'.toList ∧ ∀ p cv, codeAmong p ps'.toList = some cv → cv = .ref c' ∨ codeAmong p ps.toList = some cv
section
variable {X : Cx} {pins : List (Addr × Obj)} {σ : St} {H : Hp} {s : Shared} {P c : Addr} {params : Arguments} {body : Expr} {scope : Scope} {pos : Pos} {ps : Array Value} {E : Value → Shared → Prop}
end

section
variable {X : Cx} {pins : List (Addr × Obj)} {σ : L2.St} {H HZ : Hp} {s s1 : Shared}
/-- what a lambda's call reads: f in the slot, its code object, its own reading -/
def tAct (j : Nat) (f c' : Addr) (q : Str) (tl : Hp → VK → Prop) : TE := fun σZ HZ Q => σZ[j]? = some (some (.ref f)) ∧ HZ c' = some (CodeO c' q) ∧ tl HZ Q
end
/-- the def that calls what it got: TT is what it makes of the lambda's reading -/
def GivesG (X : Cx) (Ng : List Str) (x : Str) (sg : Scope) (g : Addr) (cdg : Value) (bg : List Stmt) (a : Str) (q : Str) (TT : (XK → Hp → VK → Prop) → Addr → Addr → Hp → VK → Prop) : Prop :=
  ∀ (f c' : Addr) (s : Shared) (H : Hp) (Q : VK) (tl : XK → Hp → VK → Prop),
    (∀ (W : WX) (pn : List (Addr × Obj)) (xe : Value → Shared → Prop) (E : XK) (p1 p2 : Pos), Takes ((cxOf C8.CX0 X.prog X.w X.K X.mg X.base Ng x sg g cdg X.A X.stack s H C8.E0).tr pn xe) W → (∀ cls d σ' H', E cls d H' → σ'.length = Ng.length → W cls d σ' H') →
      PE ((cxOf C8.CX0 X.prog X.w X.K X.mg X.base Ng x sg g cdg X.A X.stack s H C8.E0).tr pn xe) (.Call (.Name a p1) [] [] p2) (tAct 0 f c' q (tl E))) → H c' = some (CodeO c' q) → TT tl f c' H Q →
    ∃ t, PSs (cxOf C8.CX0 X.prog X.w X.K X.mg X.base Ng x sg g cdg X.A X.stack s H C8.E0).nox bg t ∧ t { nx := fun _ H' => Q .non H', rt := Q } (L2.start Ng [.ref f]) H
/-- g(lambda: ..): its table at P -/
def tLamG (P : Addr) (q : Str) (TT : (XK → Hp → VK → Prop) → Addr → Addr → Hp → VK → Prop) (t : XK → TE) : TE := fun σ H Q => ∃ ps, H P = some (.tbl ps) ∧ TabO H ps q ∧
  ∀ (f c' : Addr) (H1 : Hp), LamStep H P ps q c' H1 → H1 c' = some (CodeO c' q) → TT (fun E H' Q' => t E σ H' Q') f c' H1 Q
section
variable {X : Cx}
end
end L2

/-! Calls by keywords; defs with a known code object; a try's body for whatever slots. -/
namespace L2
open PySem PySem.Spec PyProof.Rows LamX
/-- the values us, then ws, in another order -/
def perm {α : Type} (ix : List Nat) (us ws : List α) : List α := ix.filterMap fun i => (us ++ ws)[i]?
theorem vals_at : ∀ {vs : List V} {us : List Value}, Vals vs us → ∀ i : Nat, (vs[i]? = none ∧ us[i]? = none) ∨ ∃ v u, vs[i]? = some v ∧ us[i]? = some u ∧ RelV v u
  | _, _, .nil, i => .inl ⟨by simp, by simp⟩
  | _, _, .cons r _, 0 => .inr ⟨_, _, rfl, rfl, r⟩
  | _, _, .cons _ rs, i + 1 => by
    rcases vals_at rs i with ⟨a, b⟩ | ⟨v, u, a, b, r⟩
    · exact .inl ⟨by simpa using a, by simpa using b⟩
    · exact .inr ⟨v, u, by simpa using a, by simpa using b, r⟩
theorem vals_perm (ix : List Nat) {vs zs : List V} {us ws : List Value} (r : Vals vs us) (rz : Vals zs ws) : Vals (perm ix vs zs) (perm ix us ws) := by
  have h := vals_at (r.append rz)
  induction ix with
  | nil => exact .nil
  | cons i ix ih =>
    unfold perm at ih ⊢
    rcases h i with ⟨a, b⟩ | ⟨v, u, a, b, q⟩
    · rw [List.filterMap_cons, List.filterMap_cons, a, b]; exact ih
    · rw [List.filterMap_cons, List.filterMap_cons, a, b]; exact .cons q ih
section
variable {K : PySem.W.Frag}
theorem Fun.kbn {x qual : Str} {st : Stmt} {f : Addr} {fd : FuncData} {ps ks : List Str} {n : Nat} (ix : List Nat) (F : Fun K x qual st f fd)
    (h : ∀ (kV doc pm : Value) (an : Option Addr) (cdv ct : Value) (us ws : List Value), us.length = n → ws.length = ks.length → bindArgs (PySem.W.fnOf x qual (defArgs st) (defBody st) (defScope st) .none kV doc pm an cdv ct) ⟨us, ks.zip ws⟩ = pure (ps.zip (perm ix us ws))) : KBn K fd ps n ks (perm ix) (perm ix) := by
  obtain ⟨oc, od, kV, doc, pm, an, cdv, ct, osl, rfl, lk, hcd⟩ := F.ex
  exact ⟨fun s us ws _ h1 h2 => .of_eq (h kV doc pm an cdv ct us ws h1 h2), fun r rz => vals_perm ix r rz⟩
end
section
variable {X : Cx} {CX : CXT} {k : Nat} {f : Addr} {fd : FuncData} {ps ks : List Str} {sp : Sp} {E : XK} {x : Str} {p pos : Pos} {kws : List Keyword} {tk : TA} {g : List Value → List Value → List Value} {gV : List V → List V → List V} {nk : Nat}
/-- try: the reading t E of the body, E what is wished of exceptions, whatever the slots hold -/
def tTryB (len : Nat) (t : XK → TS) : WX → TS := fun W D σ H => ∃ E : XK, (∀ cls d σ' H', E cls d H' → σ'.length = len → W cls d σ' H') ∧ t E D σ H
end
section
variable {X : Cx} {one : Option Str} {TT : (XK → Hp → VK → Prop) → Addr → Addr → Hp → VK → Prop} {x a : Str} {g c P : Addr} {k : Nat} {stg : Stmt} {fdg : FuncData} {Ng : List Str} {params : Arguments} {body : Expr} {scope : Scope} {t : XK → TE} {p lpos pos : Pos}
end
section
variable {P : Program} {w : World} {K : PySem.W.Frag} {mg : Str → Option Value} {base : Heap}
end
end L2

/-! == and != by an own __eq__; methods and instances called by keywords. -/
namespace L2
open PySem PySem.Spec PyProof.Rows LamX
/-- x == y, x an instance of C, whose __eq__ keeps sp -/
def rEqO (K : PySem.W.Frag) (C : Addr) (sp : Sp) : R2 := fun x y H Q => ∃ (a dx : Addr) (fs : List (Str × V)) (t : Value), x = .ref a ∧ H a = some (.ins C dx fs) ∧ TyX K H y t ∧ PySem.W.notFirst K C t = true ∧ sp [x, y] H (fun z H' => ∃ b, z = .bl b ∧ Q (.bl b) H') E0
/-- x != y, both instances of C -/
def rNeO (C : Addr) (sp : Sp) : R2 := fun x y H Q => ∃ (a dx : Addr) (fs : List (Str × V)) (a' dx' : Addr) (fs' : List (Str × V)), x = .ref a ∧ H a = some (.ins C dx fs) ∧ y = .ref a' ∧ H a' = some (.ins C dx' fs') ∧ sp [x, y] H (fun z H' => ∃ b, z = .bl b ∧ Q (.bl (!b)) H') E0
/-- C has an own __eq__, f, and no __ne__ -/
def neB (K : PySem.W.Frag) (C f : Addr) : Bool := match K.lookup C with
  | some ⟨.type "type", _, .cls cd, sl⟩ => (match cd.mro, sl.toList with
    | [.ref C', .type "object"], [_, _, _, _, some (.builtin _), _] => C' == C && !cd.hasDel && PySem.W.nsOkIn K cd.ns && PySem.W.nsIn K cd.ns "__eq__" == some (some (.ref f)) && PySem.W.nsIn K cd.ns "__ne__" == some none
    | _, _ => false)
  | _ => false
section
variable {X : Cx} {CX : CXT} {k : Nat} {C f : Addr} {fd : FuncData} {ps : List Str} {sp : Sp} {R : Value → Shared → Prop}
end
section
variable {X : Cx} {CX : CXT} {k : Nat} {C f g : Addr} {fd : FuncData} {ps ks : List Str} {sp : Sp} {E : XK} {x m : Str} {p pos apos : Pos} {o fe : Expr} {kws : List Keyword} {ta tf : TE} {t tk : TA} {gL : List Value → List Value → List Value} {gV : List V → List V → List V}
/-- o.m(k = v, ..) -/
def tMethN (C : Addr) (m : Str) (nk : Nat) (sp : Sp) (gV : List V → List V → List V) (E : XK) (ta : TE) (tk : TA) : TE := fun σ H Q => ta σ H fun y H1 => ∃ (a dx : Addr) (fs : List (Str × V)), y = .ref a ∧ H1 a = some (.ins C dx fs) ∧ fs.lookup m = none ∧ tk σ H1 fun zs H2 => zs.length = nk ∧ sp (gV [.ref a] zs) H2 Q E
end
section
variable {X : Cx} {CX : CXT} {k : Nat} {C g : Addr} {fd : FuncData} {ps ks : List Str} {sp : Sp} {E : XK} {pos : Pos} {fe : Expr} {kws : List Keyword} {tf : TE} {tk : TA} {gL : List Value → List Value → List Value} {gV : List V → List V → List V}
/-- o(k = v, ..), o an instance -/
def tCallON (C : Addr) (nk : Nat) (sp : Sp) (gV : List V → List V → List V) (E : XK) (tf : TE) (tk : TA) : TE := fun σ H Q => tf σ H fun y H1 => ∃ a, y = V.ref a ∧ tk σ H1 fun zs H2 => (∃ dx fs, H2 a = some (.ins C dx fs)) ∧ zs.length = nk ∧ sp (gV [.ref a] zs) H2 Q E
theorem pe_callON (hf : PE X fe tf) (c : StX.CallO X.K C g) (F : FnOk X.prog X.w X.K X.mg X.base CX k g fd ps sp) (hr : Room k X.A) (hb : KBn X.K fd ps 1 ks gL gV) (hx : Passes CX X E) (hkw : PK X kws tk)
    (ht : eval (.Call fe [] kws pos) X.env = (do callWith pos (← eval fe X.env) [] (backTo pos (starEach [] X.env)) (backToKw pos (keywordEach kws X.env))) := by rfl)
    (hall : (backToKw pos (keywordEach kws X.env)).all (·.1.isSome) = true := by rfl) (hks : (backToKw pos (keywordEach kws X.env)).filterMap (·.1) = ks := by rfl) (hpl : ((backTo pos (starEach [] X.env)).any (·.1) || (backToKw pos (keywordEach kws X.env)).any (·.1.isNone)) = false := by rfl) {nk : Nat} (hnk : ks.length = nk := by rfl) :
    PE X (.Call fe [] kws pos) (tCallON C nk sp gV E tf tk) := by
  subst hnk
  refine ⟨fun pins s σ H Q I h => ?_⟩
  rw [ht]
  refine wpAny_bind (thn (hf.run pins s σ H _ I h) fun u s1 ⟨y, H1, I1, ry, a, ey, q⟩ => ?_)
  subst ey
  obtain rfl : u = Value.ref a := ry
  unfold callWith
  refine wpAny_bind (wpAny_holding (PyProof.Rows.evalArgs_kw2_nil hall (thn (hkw.run pos pins s1 σ H1 _ I1 q) fun ws s2 ⟨zs, H2, I2, rz, hi, l2, q2⟩ => wpAny_bind (wpAny_standAt ?_))))
  obtain ⟨dx, fs, hi⟩ := hi
  obtain ⟨ox, od, J, hd⟩ := StX.insC_at I2 (.inr ⟨dx, fs, hi⟩)
  simp only [hpl]
  refine wpAny_bind ((PySem.W.kco_keeper J hd).here (wpAny_bind ?_))
  have run : wpAny (model X.prog X.w) X.A (call (.ref a) [] (ks.zip ws)) (EP X pins σ Q) X.xe s2 := by
    have r2 := hb.rel (vs := [.ref a]) (us := [.ref a]) (.cons rfl .nil) rz
    refine wpAny_call (PySem.W.kco_code I2.kIn J hd c.at_ c.fn c.fi (codeAny_mono (F.run X.A X.stack s2 H2 ⟨[.ref a], ks.zip ws⟩ _ _ Q E hr I2.env0 (hb.to s2 [.ref a] ws I2.kIn rfl (rz.length.symm.trans l2)) r2 q2) fun r s' hq => ?_))
    cases r with
    | error e => exact hx pins σ H2 s2 e s' I2 hq
    | ok fl =>
      cases fl with
      | ret w => exact I2.after hq
      | next => exact False.elim hq
      | brk => exact False.elim hq
      | cont => exact False.elim hq
  rw [hks]
  exact wpAny_mono (wpAny_operateT run) (fun r s3 hr => wpAny_bind (wpAny_holding (wpAny_point (wpAny_pure hr)))) fun _ _ z => z
end
end L2

/-! A calculus over data: what a reading gives, told by plain data; the heap stays out of sight.
    Streams: objects of the law's own that draws change; all that is told of them is SO. -/
namespace DL
open PySem L2
abbrev Ex := Evl.Ex
/-- kinds of streams: the list of three; the dict with cells; the dict with a list of what is left, and that list -/
inductive SK where
  | l3 | cells | mp (len : Nat) | nats (len : Nat) | tbl (q : Str) | inv (I : Nat → Hp → HO → Prop)
/-- the tables of code objects that defs with lambdas have -/
class Tb (K : PySem.W.Frag) where
  tb : List (Addr × Str)
/-- what is known: the streams and a bound of their counters; what is settled, all that is tracked -/
structure Wd where
  S : Addr → Prop
  T : Addr → SK
  n : Nat
  H0 : Hp
  H1 : Hp
/-- data: what a value stands for; the last three are things that a def is still making (they stand in a slot alone) -/
inductive D where
  | non | bl (b : Bool) | int (i : Int) | str (x : Str)
  | lst (xs : List D) | tup (xs : List D)
  | obj (C : Addr) (fs : List (Str × D))
  | dct (kvs : List (Key × D))
  | fdc (kvs : List (Key × D))
  | ty (n : String) | cls (a : Addr)
  | strm (a : Addr) (k : SK)
  | exc (C : Addr) (fs : List (Str × D)) | lam (f c' : Addr) (q : Str) (u0 : Wd)
  | mls (xs : List D) | mob (a dx C : Addr) (fs : List (Str × D)) | mdk (kvs : List (Key × D))
/-- nothing that is known is lost -/
structure Le (u v : Wd) : Prop where
  s : ∀ a, u.S a → v.S a
  t : ∀ a, u.S a → v.T a = u.T a
  h : Ex u.H0 v.H0
theorem Le.refl {u : Wd} : Le u u := ⟨fun _ h => h, fun _ _ => rfl, .refl _⟩
theorem Le.trans {u u' u'' : Wd} (a : Le u u') (b : Le u' u'') : Le u u'' := ⟨fun x h => b.s x (a.s x h), fun x h => (b.t x (a.s x h)).trans (a.t x h), a.h.trans b.h⟩
mutual
inductive Den (K : PySem.W.Frag) (u : Wd) : V → D → Prop
  | non : Den K u .non .non
  | bl (b : Bool) : Den K u (.bl b) (.bl b)
  | int (i : Int) : Den K u (.int i) (.int i)
  | str (x : Str) : Den K u (.str x) (.str x)
  | ty (n : String) : Den K u (.ty n) (.ty n)
  | cls (a : Addr) : Den K u (.ref a) (.cls a)
  | strm {a : Addr} {k : SK} : u.S a → u.T a = k → Den K u (.ref a) (.strm a k)
  | lst {a : Addr} {xs : List V} {ds : List D} : SqL K u.H0 a xs → Dens K u xs ds → Den K u (.ref a) (.lst ds)
  | tup {a : Addr} {xs : List V} {ds : List D} : SqT K u.H0 a xs → Dens K u xs ds → Den K u (.ref a) (.tup ds)
  | obj {a C dx : Addr} {fs : List (Str × V)} {gs : List (Str × D)} : u.H0 a = some (.ins C dx fs) → DenF K u fs gs → Den K u (.ref a) (.obj C gs)
  | dct {a : Addr} {kvs : List (Key × V)} {gs : List (Key × D)} : Rd u.H0 a (.dK kvs) → DenK K u kvs gs → Den K u (.ref a) (.dct gs)
  | fdc {a : Addr} {o : Obj} {kvs : List (Key × V)} {gs : List (Key × D)} : u.H0 a = some (.frz o (.dK kvs)) → DenK K u kvs gs → Den K u (.ref a) (.fdc gs)
  | exc {a C dx : Addr} {fs : List (Str × V)} {gs : List (Str × D)} : u.H0 a = some (xo a (.ref C) (some dx)) → u.H0 dx = some (.xd fs) → DenF K u fs gs → Den K u (.ref a) (.exc C gs)
  | exc0 {a C : Addr} : u.H0 a = some (xo a (.ref C) none) → Den K u (.ref a) (.exc C [])
  | lam {f c' : Addr} {q : Str} {u0 : Wd} : Le u0 u → u.H0 c' = some (LamX.CodeO c' q) → Den K u (.ref f) (.lam f c' q u0)
inductive Dens (K : PySem.W.Frag) (u : Wd) : List V → List D → Prop
  | nil : Dens K u [] []
  | cons {v : V} {d : D} {vs : List V} {ds : List D} : Den K u v d → Dens K u vs ds → Dens K u (v :: vs) (d :: ds)
inductive DenF (K : PySem.W.Frag) (u : Wd) : List (Str × V) → List (Str × D) → Prop
  | nil : DenF K u [] []
  | cons {f : Str} {v : V} {d : D} {vs : List (Str × V)} {ds : List (Str × D)} : Den K u v d → DenF K u vs ds → DenF K u ((f, v) :: vs) ((f, d) :: ds)
inductive DenK (K : PySem.W.Frag) (u : Wd) : List (Key × V) → List (Key × D) → Prop
  | nil : DenK K u [] []
  | cons {f : Key} {v : V} {d : D} {vs : List (Key × V)} {ds : List (Key × D)} : Den K u v d → DenK K u vs ds → DenK K u ((f, v) :: vs) ((f, d) :: ds)
end
section
variable {K : PySem.W.Frag} [Tb K] {H H' : Hp} {u u' u'' v' : Wd}
theorem ex_new {p : Addr} {o : HO} (h : H p = none) : Ex H (upd H p o) := Evl.Ex.new h
mutual
theorem Den.mono (e : Le u u') : ∀ {v : V} {d : D}, Den K u v d → Den K u' v d
  | _, _, .non => .non
  | _, _, .bl b => .bl b
  | _, _, .int i => .int i
  | _, _, .str x => .str x
  | _, _, .ty x => .ty x
  | _, _, .cls x => .cls x
  | _, _, .strm h q => .strm (e.s _ h) ((e.t _ h).trans q)
  | _, _, .lst h r => .lst (Evl.ex_l e.h h) (Dens.mono e r)
  | _, _, .tup h r => .tup (Evl.ex_t e.h h) (Dens.mono e r)
  | _, _, .obj h r => .obj (e.h _ _ h) (DenF.mono e r)
  | _, _, .dct h r => .dct (Evl.ex_rd e.h h) (DenK.mono e r)
  | _, _, .fdc h r => .fdc (e.h _ _ h) (DenK.mono e r)
  | _, _, .exc h1 h2 r => .exc (e.h _ _ h1) (e.h _ _ h2) (DenF.mono e r)
  | _, _, .exc0 h => .exc0 (e.h _ _ h)
  | _, _, .lam l h => .lam (l.trans e) (e.h _ _ h)
theorem Dens.mono (e : Le u u') : ∀ {v : List V} {d : List D}, Dens K u v d → Dens K u' v d
  | _, _, .nil => .nil
  | _, _, .cons h r => .cons (Den.mono e h) (Dens.mono e r)
theorem DenF.mono (e : Le u u') : ∀ {v : List (Str × V)} {d : List (Str × D)}, DenF K u v d → DenF K u' v d
  | _, _, .nil => .nil
  | _, _, .cons h r => .cons (Den.mono e h) (DenF.mono e r)
theorem DenK.mono (e : Le u u') : ∀ {v : List (Key × V)} {d : List (Key × D)}, DenK K u v d → DenK K u' v d
  | _, _, .nil => .nil
  | _, _, .cons h r => .cons (Den.mono e h) (DenK.mono e r)
end
theorem Dens.len : ∀ {v : List V} {d : List D}, Dens K u v d → v.length = d.length
  | _, _, .nil => rfl
  | _, _, .cons _ r => by simp [Dens.len r]
theorem Dens.get : ∀ {v : List V} {d : List D} {i : Nat} {x : V}, Dens K u v d → v[i]? = some x → ∃ y, d[i]? = some y ∧ Den K u x y
  | _, _, _, _, .nil, e => by simp at e
  | _, _, 0, _, .cons r _, e => by simp at e; subst e; exact ⟨_, rfl, r⟩
  | _, _, i + 1, x, .cons _ t, e => by
    obtain ⟨u, h1, h2⟩ := Dens.get (i := i) (x := x) t (by simpa using e)
    exact ⟨u, by simpa using h1, h2⟩
theorem Dens.getD : ∀ {v : List V} {d : List D} {i : Nat} {y : D}, Dens K u v d → d[i]? = some y → ∃ x, v[i]? = some x ∧ Den K u x y
  | _, _, _, _, .nil, e => by simp at e
  | _, _, 0, _, .cons r _, e => by simp at e; subst e; exact ⟨_, rfl, r⟩
  | _, _, i + 1, x, .cons _ t, e => by
    obtain ⟨u, h1, h2⟩ := Dens.getD (i := i) (y := x) t (by simpa using e)
    exact ⟨u, by simpa using h1, h2⟩
theorem Dens.app : ∀ {v v' : List V} {d d' : List D}, Dens K u v d → Dens K u v' d' → Dens K u (v ++ v') (d ++ d')
  | _, _, _, _, .nil, s => s
  | _, _, _, _, .cons r t, s => .cons r (Dens.app t s)
theorem Dens.take : ∀ {v : List V} {d : List D} (n : Nat), Dens K u v d → Dens K u (v.take n) (d.take n)
  | _, _, 0, _ => .nil
  | _, _, _ + 1, .nil => .nil
  | _, _, n + 1, .cons r t => .cons r (Dens.take n t)
theorem Dens.drop : ∀ {v : List V} {d : List D} (n : Nat), Dens K u v d → Dens K u (v.drop n) (d.drop n)
  | _, _, 0, r => r
  | _, _, _ + 1, .nil => .nil
  | _, _, n + 1, .cons _ t => Dens.drop n t
theorem DenF.keys : ∀ {v : List (Str × V)} {d : List (Str × D)}, DenF K u v d → v.map (·.1) = d.map (·.1)
  | _, _, .nil => rfl
  | _, _, .cons _ r => by simp [DenF.keys r]
theorem DenF.len {v : List (Str × V)} {d : List (Str × D)} (h : DenF K u v d) : v.length = d.length := by
  have := congrArg List.length h.keys
  simpa using this
theorem DenF.look : ∀ {v : List (Str × V)} {d : List (Str × D)} {f : Str} {y : D}, DenF K u v d → d.lookup f = some y → ∃ x, v.lookup f = some x ∧ Den K u x y
  | _, _, _, _, .nil, e => by simp at e
  | _, _, f, y, .cons (f := g) (v := v) (d := d) r t, e => by
    rw [List.lookup_cons] at e ⊢
    cases hq : f == g with
    | true => rw [hq] at e; cases e; exact ⟨v, rfl, r⟩
    | false => rw [hq] at e; exact DenF.look t e
theorem DenF.miss : ∀ {v : List (Str × V)} {d : List (Str × D)} {f : Str}, DenF K u v d → d.lookup f = none → v.lookup f = none
  | _, _, _, .nil, _ => rfl
  | _, _, f, .cons (f := g) r t, e => by
    rw [List.lookup_cons] at e ⊢
    cases hq : f == g with
    | true => rw [hq] at e; cases e
    | false => rw [hq] at e; exact DenF.miss t e
theorem den_int {v : V} {i : Int} (h : Den K u v (.int i)) : v = .int i := by cases h; rfl
theorem den_bl {v : V} {i : Bool} (h : Den K u v (.bl i)) : v = .bl i := by cases h; rfl
theorem den_str {v : V} {i : Str} (h : Den K u v (.str i)) : v = .str i := by cases h; rfl
theorem den_non {v : V} (h : Den K u v .non) : v = .non := by cases h; rfl
theorem den_strm {v : V} {a : Addr} {k : SK} (h : Den K u v (.strm a k)) : v = .ref a ∧ u.S a ∧ u.T a = k := by cases h with | strm h q => exact ⟨rfl, h, q⟩
theorem den_lst {v : V} {xs : List D} (h : Den K u v (.lst xs)) : ∃ a vs, v = .ref a ∧ SqL K u.H0 a vs ∧ Dens K u vs xs := by cases h with | lst q r => exact ⟨_, _, rfl, q, r⟩
theorem den_tup {v : V} {xs : List D} (h : Den K u v (.tup xs)) : ∃ a vs, v = .ref a ∧ SqT K u.H0 a vs ∧ Dens K u vs xs := by cases h with | tup q r => exact ⟨_, _, rfl, q, r⟩
theorem den_obj {v : V} {C : Addr} {gs : List (Str × D)} (h : Den K u v (.obj C gs)) : ∃ a dx fs, v = .ref a ∧ u.H0 a = some (.ins C dx fs) ∧ DenF K u fs gs := by cases h with | obj q r => exact ⟨_, _, _, rfl, q, r⟩
theorem den_fdc {v : V} {gs : List (Key × D)} (h : Den K u v (.fdc gs)) : ∃ a o kvs, v = .ref a ∧ u.H0 a = some (.frz o (.dK kvs)) ∧ DenK K u kvs gs := by cases h with | fdc q r => exact ⟨_, _, _, rfl, q, r⟩
theorem dens0 {vs : List V} (h : Dens K u vs []) : vs = [] := by cases h; rfl
theorem dens1 {vs : List V} {x : D} (h : Dens K u vs [x]) : ∃ v, vs = [v] ∧ Den K u v x := by cases h with | cons a r => cases r; exact ⟨_, rfl, a⟩
theorem dens2 {vs : List V} {x y : D} (h : Dens K u vs [x, y]) : ∃ v w, vs = [v, w] ∧ Den K u v x ∧ Den K u w y := by cases h with | cons a r => obtain ⟨w, rfl, b⟩ := dens1 r; exact ⟨_, _, rfl, a, b⟩
/-- a field stored -/
def putD (f : Str) (d : D) : List (Str × D) → List (Str × D)
  | [] => [(f, d)]
  | (g, e) :: r => if g = f then (f, d) :: r else (g, e) :: putD f d r
theorem DenF.put {f : Str} {v : V} {d : D} (r : Den K u v d) : ∀ {fs : List (Str × V)} {gs : List (Str × D)}, DenF K u fs gs → DenF K u (putF f v fs) (putD f d gs)
  | _, _, .nil => .cons r .nil
  | _, _, .cons (f := f') (v := v') (d := d') (vs := vs') (ds := ds') h1 h2 => by
    show DenF K u (if f' = f then (f', v) :: vs' else (f', v') :: putF f v vs') (if f' = f then (f, d) :: ds' else (f', d') :: putD f d ds')
    by_cases e : f' = f
    · rw [if_pos e, if_pos e, e]; exact .cons r h2
    · rw [if_neg e, if_neg e]; exact .cons h1 (DenF.put r h2)
theorem ex_none (e : Ex H H') {x : Addr} (h : H' x = none) : H x = none := Evl.fresh_back e h
abbrev ky (x : String) : Key := .inr (Str.ofString x)
/-- what is told of a stream of the law -/
def SO (K : PySem.W.Frag) [Tb K] (u : Wd) : SK → HO → Prop
  | .l3, o => ∃ x c m : Int, o = .lst [.int x, .int c, .int m] ∧ 0 ≤ x ∧ 0 ≤ c ∧ c ≤ u.n ∧ 0 ≤ m ∧ m < 2147483648
  | .cells, o => ∃ (l : Addr) (cs : List Int) (c x : Int), o = .dK [(ky "cells", .ref l), (ky "at", .int c), (ky "left", .int x)] ∧ SqL K u.H0 l (cs.map V.int) ∧ cs ≠ [] ∧ cs.length ≤ 1000 ∧ 0 ≤ c ∧ c ≤ u.n ∧ 0 ≤ x
  | .mp len, o => ∃ (l l2 : Addr) (cs : List Int) (c : Int), o = .dK [(ky "script", .ref l), (ky "at", .int c), (ky "left", .ref l2)] ∧ SqL K u.H0 l (cs.map V.int) ∧ cs.length = len ∧ 0 ≤ c ∧ c ≤ u.n ∧ u.S l2 ∧ u.T l2 = .nats len
  | .tbl q, o => ∃ ps, o = .tbl ps ∧ TabO u.H0 ps q
  | .nats len, o => ∃ xs : List Int, o = .lst (xs.map V.int) ∧ xs.length = len ∧ ∀ x ∈ xs, 0 ≤ x
  | .inv I, o => ∃ m H, m ≤ u.n ∧ Evl.Ex H u.H0 ∧ I m H o ∧ ∀ x, o ≠ .own x
theorem SO.mono {u v : Wd} {k : SK} {o : HO} (h : SO K u k o) (l : Le u v) (hn : u.n ≤ v.n) : SO K v k o := by
  cases k with
  | l3 =>
    obtain ⟨x, c, m, e, h1, h2, h3, h4⟩ := h
    exact ⟨x, c, m, e, h1, h2, by omega, h4⟩
  | cells =>
    obtain ⟨a, cs, c, x, e, q, h1, h2, h3, h4, h5⟩ := h
    exact ⟨a, cs, c, x, e, Evl.ex_l l.h q, h1, h2, h3, by omega, h5⟩
  | mp len =>
    obtain ⟨a, a2, cs, c, e, q, h1, h2, h3, h4, h5⟩ := h
    exact ⟨a, a2, cs, c, e, Evl.ex_l l.h q, h1, h2, by omega, l.s _ h4, (l.t _ h4).trans h5⟩
  | nats len => exact h
  | tbl q =>
    obtain ⟨ps, e, ht, ha⟩ := h
    exact ⟨ps, e, ht, fun p cv hc => let ⟨c, e1, e2⟩ := ha p cv hc; ⟨c, e1, l.h _ _ e2⟩⟩
  | inv I =>
    obtain ⟨m, H, h1, h2, h3⟩ := h
    exact ⟨m, H, by omega, h2.trans l.h, h3⟩
/-- one step on: all that is tracked stands, but streams may change; what is settled now was settled or is new -/
structure Gs (u v : Wd) : Prop where
  a : Ex u.H0 v.H0
  b : ∀ x o, ¬ u.S x → u.H1 x = some o → v.H1 x = some o
  b' : ∀ x, u.H1 x ≠ none → v.H1 x ≠ none
  c : Ex v.H0 v.H1
  n : ∀ x, u.H0 x = none → v.H0 x ≠ none → u.H1 x = none
  sub : ∀ x, u.S x → v.S x
  kd : ∀ x, u.S x → v.T x = u.T x
  new : ∀ x, v.S x → u.S x ∨ u.H1 x = none
  le : u.n ≤ v.n
theorem Gs.ls (g : Gs u v') : Le u v' := ⟨g.sub, g.kd, g.a⟩
theorem Gs.refl (e : Ex u.H0 u.H1) : Gs u u := ⟨.refl _, fun _ _ _ h => h, fun _ h => h, e, fun _ h h' => absurd h h', fun _ h => h, fun _ _ => rfl, fun _ h => .inl h, Nat.le_refl _⟩
theorem Gs.trans (g : Gs u u') (k : Gs u' u'') : Gs u u'' :=
  ⟨g.a.trans k.a, fun x o s h => k.b x o (fun s' => (g.new x s').elim s (fun z => by rw [z] at h; cases h)) (g.b x o s h), fun x h => k.b' x (g.b' x h), k.c, fun x h h' => by
    cases e : u'.H0 x with
    | none =>
      have z := k.n x e h'
      cases q : u.H1 x with
      | none => rfl
      | some o => exact absurd z (g.b' x (by rw [q]; simp))
    | some o => exact g.n x h (by rw [e]; simp), fun x h => k.sub x (g.sub x h), fun x h => (k.kd x (g.sub x h)).trans (g.kd x h), fun x h => by
    rcases k.new x h with h | h
    · exact g.new x h
    · refine .inr ?_
      cases q : u.H1 x with
      | none => rfl
      | some o => exact absurd h (g.b' x (by rw [q]; simp)), Nat.le_trans g.le k.le⟩
/-- the same world with a new object p, settled -/
abbrev Wd.put (u : Wd) (p : Addr) (o : HO) : Wd := ⟨u.S, u.T, u.n, upd u.H0 p o, upd u.H1 p o⟩
/-- streams stand as told -/
structure StOk (K : PySem.W.Frag) [Tb K] (u : Wd) : Prop where
  at_ : ∀ a, u.S a → u.H0 a = none ∧ ∃ o, u.H1 a = some o ∧ SO K u (u.T a) o
  tb : ∀ p ∈ Tb.tb K, u.S p.1 ∧ u.T p.1 = .tbl p.2
  on : ∀ a q, u.S a → u.T a = .tbl q → (a, q) ∈ Tb.tb K
instance : CoeFun (StOk K u) (fun _ => ∀ a, u.S a → u.H0 a = none ∧ ∃ o, u.H1 a = some o ∧ SO K u (u.T a) o) := ⟨StOk.at_⟩
theorem Gs.put (e : Ex u.H0 u.H1) {p : Addr} {o : HO} (h : u.H1 p = none) : Gs u (u.put p o) :=
  ⟨ex_new (ex_none e h), fun x w _ hx => (ex_new h) x w hx, fun x hx => by
      show upd u.H1 p o x ≠ none
      by_cases q : x = p
      · subst q; rw [upd_same]; simp
      · rw [upd_ne q]; exact hx, fun x w (hx : upd u.H0 p o x = some w) => by
      show upd u.H1 p o x = some w
      by_cases q : x = p
      · subst q; rw [upd_same] at hx ⊢; exact hx
      · rw [upd_ne q] at hx ⊢; exact e x w hx, fun x h0 (h1 : upd u.H0 p o x ≠ none) => by
      by_cases q : x = p
      · subst q; exact h
      · rw [upd_ne q] at h1; exact absurd h0 h1, fun _ h => h, fun _ _ => rfl, fun _ h => .inl h, Nat.le_refl _⟩
theorem StOk.put (e : Ex u.H0 u.H1) (s : StOk K u) {p : Addr} {o : HO} (h : u.H1 p = none) : StOk K (u.put p o) := by
  refine ⟨fun a ha => ?_, s.tb, s.on⟩
  obtain ⟨h0, w, h1, hs⟩ := s a ha
  have q : a ≠ p := fun q => by rw [q, h] at h1; cases h1
  exact ⟨(upd_ne q).trans h0, w, (upd_ne q).trans h1, hs.mono ⟨fun _ h => h, fun _ _ => rfl, (Gs.put e h).a⟩ (Nat.le_refl _)⟩
/-- more settled: an object that was not, and is no stream -/
theorem Gs.settle {b : Wd} (g : Gs b u) {p : Addr} {o : HO} (hb : b.H1 p = none) (h0 : u.H0 p = none) (h1 : u.H1 p = some o) : Gs b ⟨u.S, u.T, u.n, upd u.H0 p o, u.H1⟩ :=
  ⟨g.a.trans (ex_new h0), g.b, g.b', fun x w (hx : upd u.H0 p o x = some w) => by
      show u.H1 x = some w
      by_cases q : x = p
      · subst q; rw [upd_same] at hx; rw [h1]; exact hx
      · rw [upd_ne q] at hx; exact g.c x w hx, fun x h (h' : upd u.H0 p o x ≠ none) => by
      by_cases q : x = p
      · subst q; exact hb
      · rw [upd_ne q] at h'; exact g.n x h h', g.sub, g.kd, g.new, g.le⟩
theorem StOk.settle (s : StOk K u) {p : Addr} {o : HO} (h0' : u.H0 p = none) (n : ¬ u.S p) : StOk K ⟨u.S, u.T, u.n, upd u.H0 p o, u.H1⟩ := by
  refine ⟨fun a ha => ?_, s.tb, s.on⟩
  obtain ⟨h0, w, h1, hs⟩ := s a ha
  have q : a ≠ p := fun q => n (q ▸ ha)
  exact ⟨(upd_ne q).trans h0, w, h1, hs.mono ⟨fun _ h => h, fun _ _ => rfl, ex_new h0'⟩ (Nat.le_refl _)⟩
/-- an object that is not settled changes -/
theorem Gs.write {b : Wd} (g : Gs b u) {p : Addr} {o : HO} (hb : b.H1 p = none) (h0 : u.H0 p = none) : Gs b ⟨u.S, u.T, u.n, u.H0, upd u.H1 p o⟩ :=
  ⟨g.a, fun x w s hx => by
      show upd u.H1 p o x = some w
      have q : x ≠ p := fun q => by rw [q, hb] at hx; cases hx
      rw [upd_ne q]; exact g.b x w s hx, fun x hx => by
      show upd u.H1 p o x ≠ none
      by_cases q : x = p
      · subst q; rw [upd_same]; simp
      · rw [upd_ne q]; exact g.b' x hx, fun x w hx => by
      show upd u.H1 p o x = some w
      have q : x ≠ p := fun q => by rw [q, h0] at hx; cases hx
      rw [upd_ne q]; exact g.c x w hx, g.n, g.sub, g.kd, g.new, g.le⟩
theorem StOk.write (s : StOk K u) {p : Addr} {o : HO} (n : ¬ u.S p) : StOk K ⟨u.S, u.T, u.n, u.H0, upd u.H1 p o⟩ := by
  refine ⟨fun a ha => ?_, s.tb, s.on⟩
  obtain ⟨h0, w, h1, hs⟩ := s a ha
  have q : a ≠ p := fun q => n (q ▸ ha)
  exact ⟨h0, w, (upd_ne q).trans h1, hs.mono ⟨fun _ h => h, fun _ _ => rfl, .refl _⟩ (Nat.le_refl _)⟩
end
end DL

namespace DL
open PySem L2
section
variable {K : PySem.W.Frag} [Tb K] {Z : ZX} {b u u' u'' : Wd}
/-- whether a thing stands in a slot alone, still being made -/
def isMut : D → Bool
  | .mls _ | .mob _ _ _ _ | .mdk _ => true
  | _ => false
/-- what a slot holds -/
inductive DenS (K : PySem.W.Frag) (b u : Wd) : V → D → Prop
  | den {v : V} {d : D} : Den K u v d → DenS K b u v d
  | mls {a : Addr} {xs : List V} {ds : List D} : b.H1 a = none → u.H0 a = none → ¬ u.S a → u.H1 a = some (.lst xs) → Dens K u xs ds → DenS K b u (.ref a) (.mls ds)
  | mob {a C dx : Addr} {fs : List (Str × V)} {gs : List (Str × D)} : b.H1 a = none → u.H0 a = none → ¬ u.S a → u.H1 a = some (.ins C dx fs) → u.H1 dx = some (.own a) → ¬ u.S dx → DenF K u fs gs → DenS K b u (.ref a) (.mob a dx C gs)
  | mdk {a : Addr} {kvs : List (Key × V)} {gs : List (Key × D)} : b.H1 a = none → u.H0 a = none → ¬ u.S a → u.H1 a = some (.dK kvs) → DenK K u kvs gs → DenS K b u (.ref a) (.mdk gs)
theorem Den.notMut {v : V} {d : D} (h : Den K u v d) : isMut d = false := by
  cases h <;> rfl
theorem DenS.imm {v : V} {d : D} (h : DenS K b u v d) (i : isMut d = false) : Den K u v d := by
  cases h with
  | den h => exact h
  | mls => cases i
  | mob => cases i
  | mdk => cases i
theorem Gs.nn (g : Gs u u') {a : Addr} {o : HO} (e0 : u.H0 a = none) (e1 : u.H1 a = some o) : u'.H0 a = none := by
  cases q : u'.H0 a with
  | none => rfl
  | some w =>
    have z := g.n a e0 (by rw [q]; simp)
    rw [z] at e1; cases e1
theorem Gs.ns (g : Gs u u') {a : Addr} {o : HO} (e0 : ¬ u.S a) (e1 : u.H1 a = some o) : ¬ u'.S a := fun h => by
  rcases g.new a h with h | h
  · exact e0 h
  · rw [h] at e1; cases e1
theorem DenS.mono {v : V} {d : D} (g : Gs u u') (h : DenS K b u v d) : DenS K b u' v d := by
  cases h with
  | den h => exact .den (h.mono g.ls)
  | mls hb h0 hs h1 r => exact .mls hb (g.nn h0 h1) (g.ns hs h1) (g.b _ _ hs h1) (r.mono g.ls)
  | mob hb h0 hs h1 h2 hx r => exact .mob hb (g.nn h0 h1) (g.ns hs h1) (g.b _ _ hs h1) (g.b _ _ hx h2) (g.ns hx h2) (r.mono g.ls)
  | mdk hb h0 hs h1 r => exact .mdk hb (g.nn h0 h1) (g.ns hs h1) (g.b _ _ hs h1) (r.mono g.ls)
/-- where exceptions go, and what is told of them: class, fields, the bound of the streams -/
structure ZX where
  E : XK
  X : Addr → List (Str × D) → Nat → Prop
/-- an exception that flies: of the class C, with these fields -/
def DenE (K : PySem.W.Frag) [Tb K] (u : Wd) (cls : Value) (d : Option Addr) (C : Addr) (fs : List (Str × D)) : Prop :=
  cls = .ref C ∧ ((d = none ∧ fs = []) ∨ ∃ dx vs, d = some dx ∧ u.H0 dx = some (.xd vs) ∧ DenF K u vs fs)
def XOk (K : PySem.W.Frag) [Tb K] (Z : ZX) (b : Wd) : Prop := ∀ cls d C fs u', Gs b u' → StOk K u' → DenE K u' cls d C fs → Z.X C fs u'.n → Z.E cls d u'.H1
abbrev DS := List (Option D)
/-- the slots, told by data; b: the world that the def was handed -/
structure Sd (K : PySem.W.Frag) [Tb K] (Z : ZX) (b u : Wd) (σ : St) (ds : DS) : Prop where
  gr : Gs b u
  xk : XOk K Z b
  st : StOk K u
  len : σ.length = ds.length
  sl : ∀ (i : Nat) (d : D), ds[i]? = some (some d) → ∃ v, σ[i]? = some (some v) ∧ DenS K b u v d
  ap : ∀ (i j : Nat) (d e : D) (a c : Addr), ds[i]? = some (some d) → ds[j]? = some (some e) → isMut d = true → isMut e = true → i ≠ j → σ[i]? = some (some (.ref a)) → σ[j]? = some (some (.ref c)) → a ≠ c
variable {σ : St} {ds : DS}
theorem Sd.ex (S : Sd K Z b u σ ds) : Ex u.H0 u.H1 := S.gr.c
theorem Sd.go (S : Sd K Z b u σ ds) (g : Gs u u') (s : StOk K u') : Sd K Z b u' σ ds :=
  ⟨S.gr.trans g, S.xk, s, S.len, fun i d e => let ⟨v, h1, h2⟩ := S.sl i d e; ⟨v, h1, h2.mono g⟩, S.ap⟩
theorem get_set {α : Type} (l : List α) (i j : Nat) (x : α) : (l.set i x)[j]? = if i = j then (if i < l.length then some x else none) else l[j]? := by
  rw [List.getElem?_set]
/-- a value stored -/
theorem Sd.set {i : Nat} {v : V} {d : D} (S : Sd K Z b u σ ds) (h : Den K u v d) : Sd K Z b u (σ.set i (some v)) (ds.set i (some d)) := by
  refine ⟨S.gr, S.xk, S.st, by simp [S.len], fun j e q => ?_, fun j k e f a b h1 h2 m1 m2 ne q1 q2 => ?_⟩
  · by_cases q' : i = j
    · subst q'
      rw [get_set] at q
      by_cases hl : i < ds.length
      · simp [hl] at q
        subst q
        exact ⟨v, by simp [get_set, S.len, hl], .den h⟩
      · simp [hl] at q
    · rw [get_set, if_neg q'] at q
      obtain ⟨w, h1, h2⟩ := S.sl j e q
      exact ⟨w, by rw [get_set, if_neg q']; exact h1, h2⟩
  · have nd := h.notMut
    have k1 : i ≠ j := fun z => by
      subst z
      rw [get_set] at h1
      by_cases hl : i < ds.length
      · simp [hl] at h1; subst h1; rw [nd] at m1; cases m1
      · simp [hl] at h1
    have k2 : i ≠ k := fun z => by
      subst z
      rw [get_set] at h2
      by_cases hl : i < ds.length
      · simp [hl] at h2; subst h2; rw [nd] at m2; cases m2
      · simp [hl] at h2
    rw [get_set, if_neg k1] at h1 q1
    rw [get_set, if_neg k2] at h2 q2
    exact S.ap j k e f a b h1 h2 m1 m2 ne q1 q2

/-! ### judgements: P of what comes out, and of the bound of the streams behind -/
def We (K : PySem.W.Frag) [Tb K] (Z : ZX) (te : TE) (ds : DS) (n : Nat) (P : D → Nat → Prop) : Prop :=
  ∀ (b u : Wd) (σ : St) (Q : VK), u.n = n → Sd K Z b u σ ds → (∀ v d u', Gs u u' → StOk K u' → Den K u' v d → P d u'.n → Q v u'.H1) → te σ u.H1 Q
def Wt (K : PySem.W.Frag) [Tb K] (Z : ZX) (tt : TT) (ds : DS) (n : Nat) (P : Bool → Nat → Prop) : Prop :=
  ∀ (b u : Wd) (σ : St) (Q : Bool → Hp → Prop), u.n = n → Sd K Z b u σ ds → (∀ c u', Gs u u' → StOk K u' → P c u'.n → Q c u'.H1) → tt σ u.H1 Q
def Wa (K : PySem.W.Frag) [Tb K] (Z : ZX) (ta : TA) (ds : DS) (n : Nat) (P : List D → Nat → Prop) : Prop :=
  ∀ (b u : Wd) (σ : St) (Q : List V → Hp → Prop), u.n = n → Sd K Z b u σ ds → (∀ vs xs u', Gs u u' → StOk K u' → Dens K u' vs xs → P xs u'.n → Q vs u'.H1) → ta σ u.H1 Q
def Wo (K : PySem.W.Frag) [Tb K] (Z : ZX) (to : TO) (ds : DS) (n : Nat) (P : Option Int → Nat → Prop) : Prop :=
  ∀ (b u : Wd) (σ : St) (Q : Option Int → Hp → Prop), u.n = n → Sd K Z b u σ ds → (∀ c u', Gs u u' → StOk K u' → P c u'.n → Q c u'.H1) → to σ u.H1 Q
structure Nd where
  nx : DS → Nat → Prop
  rt : D → Nat → Prop
  bk : DS → Nat → Prop := fun _ _ => False
  ct : DS → Nat → Prop := fun _ _ => False
/-- the ends of a statement at the heaps, where the ends at the data are N; s: where it began -/
structure EndsOk (K : PySem.W.Frag) [Tb K] (Z : ZX) (b s : Wd) (De : Ends) (N : Nd) : Prop where
  nx : ∀ ds u σ, Le s u → Sd K Z b u σ ds → N.nx ds u.n → De.nx σ u.H1
  rt : ∀ d v u, Gs b u → StOk K u → Den K u v d → N.rt d u.n → De.rt v u.H1
  bk : ∀ ds u σ, Le s u → Sd K Z b u σ ds → N.bk ds u.n → De.bk σ u.H1
  ct : ∀ ds u σ, Le s u → Sd K Z b u σ ds → N.ct ds u.n → De.ct σ u.H1
theorem EndsOk.mono {s s' : Wd} {De : Ends} {N : Nd} (O : EndsOk K Z b s De N) (e : Le s s') : EndsOk K Z b s' De N :=
  ⟨fun ds u σ x => O.nx ds u σ (e.trans x), O.rt, fun ds u σ x => O.bk ds u σ (e.trans x), fun ds u σ x => O.ct ds u σ (e.trans x)⟩
def Ws (K : PySem.W.Frag) [Tb K] (Z : ZX) (ts : TS) (ds : DS) (n : Nat) (N : Nd) : Prop :=
  ∀ (b u : Wd) (σ : St) (De : Ends), u.n = n → Sd K Z b u σ ds → EndsOk K Z b u De N → ts De σ u.H1
/-- a target: x is stored -/
def Wg (K : PySem.W.Frag) [Tb K] (Z : ZX) (g : TG) (x : D) (ds : DS) (P : DS → Prop) : Prop :=
  ∀ (b u : Wd) (σ : St) (v : V) (Q : St → Hp → Prop), Sd K Z b u σ ds → Den K u v x → (∀ ds' σ', Sd K Z b u σ' ds' → P ds' → Q σ' u.H1) → g v σ u.H1 Q
def Wgs (K : PySem.W.Frag) [Tb K] (Z : ZX) (g : TGs) (xs : List D) (ds : DS) (P : DS → Prop) : Prop :=
  ∀ (b u : Wd) (σ : St) (vs : List V) (Q : St → Hp → Prop), Sd K Z b u σ ds → Dens K u vs xs → (∀ ds' σ', Sd K Z b u σ' ds' → P ds' → Q σ' u.H1) → g vs σ u.H1 Q

/-! ### expressions -/
variable {n : Nat} {P : D → Nat → Prop} {te ta tb tc : TE} {N : Nd}
theorem We.imp {P' : D → Nat → Prop} (h : We K Z te ds n P) (i : ∀ d m, P d m → P' d m) : We K Z te ds n P' := fun b u σ Q e S k => h b u σ Q e S fun v d u' g s r p => k v d u' g s r (i d _ p)
theorem we_here {v : V} {d : D} (hd : ∀ u, Den K u v d) (p : P d n) : We K Z (tC v) ds n P := fun b u σ Q e S k => k _ d u (.refl S.ex) S.st (hd u) (e ▸ p)
theorem we_var {i : Nat} {d : D} (h : ds[i]? = some (some d)) (m : isMut d = false) (p : P d n) : We K Z (tVar i) ds n P := fun b u σ Q e S k => by
  obtain ⟨v, h1, h2⟩ := S.sl i d h
  exact ⟨v, h1, k v d u (.refl S.ex) S.st (h2.imm m) (e ▸ p)⟩
theorem we_int {i : Int} (p : P (.int i) n) : We K Z (tC (.int i)) ds n P := we_here (fun _ => .int i) p
theorem we_bl {i : Bool} (p : P (.bl i) n) : We K Z (tC (.bl i)) ds n P := we_here (fun _ => .bl i) p
theorem we_non (p : P .non n) : We K Z (tC .non) ds n P := we_here (fun _ => .non) p
theorem we_str {x : Str} (p : P (.str x) n) : We K Z (tC (.str x)) ds n P := we_here (fun _ => .str x) p
theorem we_ty {x : String} (p : P (.ty x) n) : We K Z (tC (.ty x)) ds n P := we_here (fun _ => .ty x) p
theorem we_cls {x : Addr} (p : P (.cls x) n) : We K Z (tC (.ref x)) ds n P := we_here (fun _ => .cls x) p
/-- pure growth -/
structure Gp (K : PySem.W.Frag) [Tb K] (u v : Wd) : Prop where
  g : Gs u v
  st : StOk K u → StOk K v
  n : v.n = u.n
theorem Gp.refl (e : Ex u.H0 u.H1) : Gp K u u := ⟨.refl e, fun h => h, rfl⟩
theorem Gp.put (e : Ex u.H0 u.H1) {p : Addr} {o : HO} (h : u.H1 p = none) : Gp K u (u.put p o) := ⟨.put e h, fun s => s.put e h, rfl⟩
/-- an operator on data -/
def Op (K : PySem.W.Frag) [Tb K] (r : R2) (x y : D) (P : D → Prop) : Prop :=
  ∀ (u : Wd) (v w : V) (Q : VK), Ex u.H0 u.H1 → StOk K u → Den K u v x → Den K u w y → (∀ z d u', Gp K u u' → Den K u' z d → P d → Q z u'.H1) → r v w u.H1 Q
theorem we_op {r : R2} (h : We K Z ta ds n fun x m => We K Z tb ds m fun y k => Op K r x y fun z => P z k) : We K Z (tOp r ta tb) ds n P := fun b u σ Q e S k =>
  h b u σ _ e S fun v x u1 g1 s1 d1 h2 => h2 b u1 σ _ rfl (S.go g1 s1) fun w y u2 g2 s2 d2 h3 => h3 u2 v w Q g2.c s2 (d1.mono g2.ls) d2 fun z d u3 g3 d3 p => k z d u3 ((g1.trans g2).trans g3.g) (g3.st s2) d3 (g3.n ▸ p)
def Un (K : PySem.W.Frag) [Tb K] (r : V → Hp → VK → Prop) (x : D) (P : D → Prop) : Prop :=
  ∀ (u : Wd) (v : V) (Q : VK), Ex u.H0 u.H1 → Den K u v x → (∀ z d u', Gp K u u' → Den K u' z d → P d → Q z u'.H1) → r v u.H1 Q
theorem we_un {r : V → Hp → VK → Prop} (h : We K Z ta ds n fun x m => Un K r x fun z => P z m) : We K Z (tUn r ta) ds n P := fun b u σ Q e S k =>
  h b u σ _ e S fun v x u1 g1 s1 d1 h2 => h2 u1 v Q g1.c d1 fun z d u3 g3 d3 p => k z d u3 (g1.trans g3.g) (g3.st s1) d3 (g3.n ▸ p)
theorem wa_nil {P : List D → Nat → Prop} (p : P [] n) : Wa K Z tNil ds n P := fun b u σ Q e S k => k _ [] u (.refl S.ex) S.st .nil (e ▸ p)
theorem wa_cons {P : List D → Nat → Prop} {tr : TA} (h : We K Z ta ds n fun x m => Wa K Z tr ds m fun xs k => P (x :: xs) k) : Wa K Z (tCons ta tr) ds n P := fun b u σ Q e S k =>
  h b u σ _ e S fun v x u1 g1 s1 d1 h2 => h2 b u1 σ _ rfl (S.go g1 s1) fun vs xs u2 g2 s2 d2 p => k (v :: vs) (x :: xs) u2 (g1.trans g2) s2 (.cons (d1.mono g2.ls) d2) p
/-- what a call of a built-in gives -/
def Cb (K : PySem.W.Frag) [Tb K] (r : List V → Hp → VK → Prop) (xs : List D) (P : D → Prop) : Prop :=
  ∀ (u : Wd) (vs : List V) (Q : VK), Ex u.H0 u.H1 → Dens K u vs xs → (∀ z d u', Gp K u u' → Den K u' z d → P d → Q z u'.H1) → r vs u.H1 Q
theorem we_cb {r : List V → Hp → VK → Prop} {t : TA} (h : Wa K Z t ds n fun xs m => Cb K r xs fun z => P z m) : We K Z (tCB r t) ds n P := fun b u σ Q e S k =>
  h b u σ _ e S fun vs xs u1 g1 s1 d1 h2 => h2 u1 vs Q g1.c d1 fun z d u3 g3 d3 p => k z d u3 (g1.trans g3.g) (g3.st s1) d3 (g3.n ▸ p)
theorem sz100 {n : Nat} (h : n ≤ 1000000) : n ≤ sizeLine := Nat.le_trans h (by decide)
theorem we_tup {t : TA} (h : Wa K Z t ds n fun xs m => xs.length ≤ 1000000 ∧ P (.tup xs) m) : We K Z (tTup t) ds n P := fun b u σ Q e S k =>
  h b u σ _ e S fun vs xs u1 g1 s1 d1 h2 => ⟨by rw [d1.len]; exact sz100 h2.1, fun p hp => k _ _ (u1.put p _) (g1.trans (.put g1.c hp)) (s1.put g1.c hp) (.tup (SqT.of upd_same) (d1.mono (Gs.put g1.c hp).ls)) h2.2⟩
theorem we_lst {t : TA} (h : Wa K Z t ds n fun xs m => xs.length ≤ 1000000 ∧ P (.lst xs) m) : We K Z (tLst t) ds n P := fun b u σ Q e S k =>
  h b u σ _ e S fun vs xs u1 g1 s1 d1 h2 => ⟨by rw [d1.len]; exact sz100 h2.1, fun p hp => k _ _ (u1.put p _) (g1.trans (.put g1.c hp)) (s1.put g1.c hp) (.lst (SqL.of upd_same) (d1.mono (Gs.put g1.c hp).ls)) h2.2⟩
/-! ### tests -/
theorem wt_test {P : Bool → Nat → Prop} (h : We K Z te ds n fun d m => ∃ c, d = .bl c ∧ P c m) : Wt K Z (tTest te) ds n P := fun b u σ Q e S k =>
  h b u σ _ e S fun v d u1 g1 s1 d1 ⟨c, q, p⟩ => by
    subst q
    cases den_bl d1
    exact ⟨c, rfl, k c u1 g1 s1 p⟩
theorem wt_B {P : Bool → Nat → Prop} (h : We K Z te ds n fun d m => ∃ c, d = .bl c ∧ P c m) : Wt K Z (tB te) ds n P := fun b u σ Q e S k =>
  h b u σ _ e S fun v d u1 g1 s1 d1 ⟨c, q, p⟩ => by
    subst q
    cases den_bl d1
    exact ⟨c, rfl, k c u1 g1 s1 p⟩
theorem wt_yes {P : Bool → Nat → Prop} (p : P true n) : Wt K Z tYes ds n P := fun b u σ Q e S k => k true u (.refl S.ex) S.st (e ▸ p)
variable {tt tu : TT}
theorem wt_and {P : Bool → Nat → Prop} (h : Wt K Z tt ds n fun c m => if c = true then Wt K Z tu ds m P else P false m) : Wt K Z (tAnd tt tu) ds n P := fun b u σ Q e S k =>
  h b u σ _ e S fun c u1 g1 s1 q => by
    cases c with
    | true => exact q b u1 σ Q rfl (S.go g1 s1) fun c u2 g2 s2 p => k c u2 (g1.trans g2) s2 p
    | false => exact k false u1 g1 s1 q
theorem wt_or {P : Bool → Nat → Prop} (h : Wt K Z tt ds n fun c m => if c = true then P true m else Wt K Z tu ds m P) : Wt K Z (tOr tt tu) ds n P := fun b u σ Q e S k =>
  h b u σ _ e S fun c u1 g1 s1 q => by
    cases c with
    | true => exact k true u1 g1 s1 q
    | false => exact q b u1 σ Q rfl (S.go g1 s1) fun c u2 g2 s2 p => k c u2 (g1.trans g2) s2 p
theorem wt_not {P : Bool → Nat → Prop} (h : Wt K Z tt ds n fun c m => P (!c) m) : Wt K Z (tNot tt) ds n P := fun b u σ Q e S k =>
  h b u σ _ e S fun c u1 g1 s1 q => k (!c) u1 g1 s1 q
theorem we_andV (h : We K Z ta ds n fun d m => ∃ c, d = .bl c ∧ if c = true then We K Z tb ds m P else P (.bl false) m) : We K Z (tAndV ta tb) ds n P := fun b u σ Q e S k =>
  h b u σ _ e S fun v d u1 g1 s1 d1 ⟨c, z, q⟩ => by
    subst z
    cases den_bl d1
    refine ⟨c, rfl, ?_⟩
    cases c with
    | true => exact q b u1 σ Q rfl (S.go g1 s1) fun v d u2 g2 s2 r p => k v d u2 (g1.trans g2) s2 r p
    | false => exact k _ _ u1 g1 s1 (.bl false) q
theorem we_orV (h : We K Z ta ds n fun d m => ∃ c, d = .bl c ∧ if c = true then P (.bl true) m else We K Z tb ds m P) : We K Z (tOrV ta tb) ds n P := fun b u σ Q e S k =>
  h b u σ _ e S fun v d u1 g1 s1 d1 ⟨c, z, q⟩ => by
    subst z
    cases den_bl d1
    refine ⟨c, rfl, ?_⟩
    cases c with
    | true => exact k _ _ u1 g1 s1 (.bl true) q
    | false => exact q b u1 σ Q rfl (S.go g1 s1) fun v d u2 g2 s2 r p => k v d u2 (g1.trans g2) s2 r p
theorem we_notV (h : We K Z ta ds n fun d m => ∃ c, d = .bl c ∧ P (.bl (!c)) m) : We K Z (tNotV ta) ds n P := fun b u σ Q e S k =>
  h b u σ _ e S fun v d u1 g1 s1 d1 ⟨c, z, q⟩ => by
    subst z
    cases den_bl d1
    exact ⟨c, rfl, k _ _ u1 g1 s1 (.bl (!c)) q⟩
theorem we_if (h : Wt K Z tt ds n fun c m => if c = true then We K Z ta ds m P else We K Z tb ds m P) : We K Z (tIf tt ta tb) ds n P := fun b u σ Q e S k =>
  h b u σ _ e S fun c u1 g1 s1 q => by
    cases c with
    | true => exact q b u1 σ Q rfl (S.go g1 s1) fun v d u2 g2 s2 r p => k v d u2 (g1.trans g2) s2 r p
    | false => exact q b u1 σ Q rfl (S.go g1 s1) fun v d u2 g2 s2 r p => k v d u2 (g1.trans g2) s2 r p
theorem wo_none {P : Option Int → Nat → Prop} (p : P none n) : Wo K Z tNoPart ds n P := fun b u σ Q e S k => k _ u (.refl S.ex) S.st (e ▸ p)
theorem wo_some {P : Option Int → Nat → Prop} (h : We K Z te ds n fun d m => ∃ i, d = .int i ∧ P (some i) m) : Wo K Z (tPart te) ds n P := fun b u σ Q e S k =>
  h b u σ _ e S fun v d u1 g1 s1 d1 ⟨i, z, q⟩ => by
    subst z
    cases den_int d1
    exact ⟨i, rfl, k _ u1 g1 s1 q⟩
def Sl (K : PySem.W.Frag) [Tb K] (r : V → Option Int → Option Int → Hp → VK → Prop) (x : D) (lo hi : Option Int) (P : D → Prop) : Prop :=
  ∀ (u : Wd) (v : V) (Q : VK), Ex u.H0 u.H1 → Den K u v x → (∀ z d u', Gp K u u' → Den K u' z d → P d → Q z u'.H1) → r v lo hi u.H1 Q
theorem we_sl {r : V → Option Int → Option Int → Hp → VK → Prop} {tl th : TO} (h : We K Z te ds n fun x m => Wo K Z tl ds m fun lo k => Wo K Z th ds k fun hi j => Sl K r x lo hi fun z => P z j) : We K Z (tSl r te tl th) ds n P := fun b u σ Q e S k =>
  h b u σ _ e S fun v x u1 g1 s1 d1 h1 => h1 b u1 σ _ rfl (S.go g1 s1) fun lo u2 g2 s2 h2 => h2 b u2 σ _ rfl ((S.go g1 s1).go g2 s2) fun hi u3 g3 s3 h3 =>
    h3 u3 v Q g3.c (d1.mono (g2.ls.trans g3.ls)) fun z d u4 g4 r p => k z d u4 (((g1.trans g2).trans g3).trans g4.g) (g4.st s3) r (g4.n ▸ p)
theorem we_fld {f : Str} (h : We K Z te ds n fun x m => ∃ C fs d, x = .obj C fs ∧ Cls K C ∧ NoAttr K C f ∧ fs.lookup f = some d ∧ P d m) : We K Z (tFld K te f) ds n P := fun b u σ Q e S k =>
  h b u σ _ e S fun v x u1 g1 s1 d1 ⟨C, fs, d, z, hc, hn, hl, p⟩ => by
    subst z
    obtain ⟨a, dx, fv, rfl, ha, hf⟩ := den_obj d1
    obtain ⟨w, h1, h2⟩ := hf.look hl
    exact ⟨_, _, _, _, w, rfl, g1.c _ _ ha, hc, hn, h1, k w d u1 g1 s1 h2 p⟩
theorem we_chain {r r' : R2} (h : We K Z ta ds n fun x m => We K Z tb ds m fun y k => Op K r x y fun z => ∃ c, z = .bl c ∧ if c = true then We K Z tc ds k fun w j => Op K r' y w fun z => P z j else P (.bl false) k) : We K Z (tChain r r' ta tb tc) ds n P := fun b u σ Q e S k =>
  h b u σ _ e S fun v x u1 g1 s1 d1 h1 => h1 b u1 σ _ rfl (S.go g1 s1) fun w y u2 g2 s2 d2 h2 => h2 u2 v w _ g2.c s2 (d1.mono g2.ls) d2 fun t z u3 g3 d3 ⟨c, q, p⟩ => by
    subst q
    cases den_bl d3
    refine ⟨c, rfl, ?_⟩
    cases c with
    | false => exact k _ _ u3 ((g1.trans g2).trans g3.g) (g3.st s2) (.bl false) (g3.n ▸ p)
    | true => exact p b u3 σ _ g3.n (((S.go g1 s1).go g2 s2).go g3.g (g3.st s2)) fun w' y' u4 g4 s4 d4 h4 => h4 u4 w w' Q g4.c s4 ((d2.mono g3.g.ls).mono g4.ls) d4 fun t d u5 g5 d5 p => k t d u5 ((((g1.trans g2).trans g3.g).trans g4).trans g5.g) (g5.st s4) d5 (g5.n ▸ p)
/-! ### statements -/
variable {ts t1 t2 : TS} {g : TG} {De : Ends}
theorem ws_next (p : N.nx ds n) : Ws K Z tNext ds n N := fun b u σ De e S O => O.nx _ u σ .refl S (e ▸ p)
theorem ws_seq (h : Ws K Z t1 ds n { N with nx := fun ds' m => Ws K Z t2 ds' m N }) : Ws K Z (tSeq t1 t2) ds n N := fun b u σ De e S O =>
  h b u σ _ e S ⟨fun ds' u' σ' x S' q => q b u' σ' De rfl S' (O.mono x), O.rt, O.bk, O.ct⟩
theorem ws_drop (h : We K Z te ds n fun _ m => N.nx ds m) : Ws K Z (tDrop te) ds n N := fun b u σ De e S O =>
  h b u σ _ e S fun v d u1 g1 s1 r p => O.nx _ u1 _ g1.ls (S.go g1 s1) p
theorem ws_ret (h : We K Z te ds n N.rt) : Ws K Z (tRet te) ds n N := fun b u σ De e S O =>
  h b u σ _ e S fun v d u1 g1 s1 r p => O.rt d v u1 (S.gr.trans g1) s1 r p
theorem ws_if (h : Wt K Z tt ds n fun c m => if c = true then Ws K Z t1 ds m N else Ws K Z t2 ds m N) : Ws K Z (tIfS tt t1 t2) ds n N := fun b u σ De e S O =>
  h b u σ _ e S fun c u1 g1 s1 q => by
    cases c with
    | true => exact q b u1 σ De rfl (S.go g1 s1) (O.mono g1.ls)
    | false => exact q b u1 σ De rfl (S.go g1 s1) (O.mono g1.ls)
theorem ws_asg (h : We K Z te ds n fun d m => Wg K Z g d ds fun ds' => N.nx ds' m) : Ws K Z (tAsg te g) ds n N := fun b u σ De e S O =>
  h b u σ _ e S fun v d u1 g1 s1 r p => p b u1 σ v _ (S.go g1 s1) r fun ds' σ' S' q => O.nx _ u1 _ g1.ls S' q
theorem wg_name {i : Nat} {x : D} {P : DS → Prop} (p : P (ds.set i (some x))) : Wg K Z (gName i) x ds P := fun b u σ v Q S r k => k _ _ (S.set r) p
theorem wgs_nil {P : DS → Prop} {xs : List D} (e : xs = []) (p : P ds) : Wgs K Z gNil xs ds P := fun b u σ v Q S r k => by
  subst e
  cases r
  exact ⟨rfl, k _ _ S p⟩
theorem wgs_cons {P : DS → Prop} {x : D} {xs ys : List D} {gs : TGs} (e : ys = x :: xs) (h : Wg K Z g x ds fun ds' => Wgs K Z gs xs ds' P) : Wgs K Z (gCons g gs) ys ds P := fun b u σ v Q S r k => by
  subst e
  cases r with
  | cons r1 r2 =>
    rename_i v vs
    exact ⟨v, vs, rfl, h b u σ v _ S r1 fun ds' σ' S' q => q b u σ' vs _ S' r2 k⟩
theorem wg_tup {P : DS → Prop} {j : Nat} {x : D} {xs : List D} {gs : TGs} (e : x = .tup xs) (hn : xs.length = j) (h : Wgs K Z gs xs ds P) : Wg K Z (gTup K j gs) x ds P := fun b u σ v Q S r k => by
  subst e
  obtain ⟨a, vs, rfl, q, r2⟩ := den_tup r
  exact ⟨_, _, rfl, Evl.ex_t S.ex q, r2.len.trans hn, h b u σ _ Q S r2 k⟩
theorem ws_par {i j : Nat} {t : TA} (h : Wa K Z t ds n fun xs m => ∃ a c, xs = [a, c] ∧ N.nx ((ds.set i (some a)).set j (some c)) m) : Ws K Z (tPar i j t) ds n N := fun b u σ De e S O =>
  h b u σ _ e S fun vs xs u1 g1 s1 r ⟨a, c, z, p⟩ => by
    subst z
    obtain ⟨v, w, rfl, r1, r2⟩ := dens2 r
    exact ⟨v, w, rfl, O.nx _ u1 _ g1.ls (((S.go g1 s1).set r1).set r2) p⟩
/-- a slot forgotten -/
theorem Sd.drop {i : Nat} {y : Option V} (S : Sd K Z b u σ ds) : Sd K Z b u (σ.set i y) (ds.set i none) := by
  refine ⟨S.gr, S.xk, S.st, by simp [S.len], fun j e q => ?_, fun j k e f a b h1 h2 m1 m2 ne q1 q2 => ?_⟩
  · by_cases q' : i = j
    · subst q'
      rw [get_set] at q
      by_cases hl : i < ds.length <;> simp [hl] at q
    · rw [get_set, if_neg q'] at q
      obtain ⟨w, h1, h2⟩ := S.sl j e q
      exact ⟨w, by rw [get_set, if_neg q']; exact h1, h2⟩
  · have k1 : i ≠ j := fun z => by
      subst z
      rw [get_set] at h1
      by_cases hl : i < ds.length <;> simp [hl] at h1
    have k2 : i ≠ k := fun z => by
      subst z
      rw [get_set] at h2
      by_cases hl : i < ds.length <;> simp [hl] at h2
    rw [get_set, if_neg k1] at h1 q1
    rw [get_set, if_neg k2] at h2 q2
    exact S.ap j k e f a b h1 h2 m1 m2 ne q1 q2
/-- a new list that the def goes on with -/
theorem Sd.setMls {i p : Nat} {vs : List V} {xs : List D} (S : Sd K Z b u σ ds) (hp : u.H1 p = none) (h : Dens K u vs xs) : Sd K Z b ⟨u.S, u.T, u.n, u.H0, upd u.H1 p (.lst vs)⟩ (σ.set i (some (.ref p))) (ds.set i (some (.mls xs))) := by
  have n0 : u.H0 p = none := ex_none S.ex hp
  have nb : b.H1 p = none := by
    cases q : b.H1 p with
    | none => rfl
    | some o => exact absurd hp (S.gr.b' p (by rw [q]; simp))
  have nS : ¬ u.S p := fun h => by
    obtain ⟨_, o, h1, _⟩ := S.st p h
    rw [hp] at h1; cases h1
  have l1 : Le u ⟨u.S, u.T, u.n, u.H0, upd u.H1 p (.lst vs)⟩ := ⟨fun _ h => h, fun _ _ => rfl, .refl _⟩
  have G1 : Gs u ⟨u.S, u.T, u.n, u.H0, upd u.H1 p (.lst vs)⟩ := ⟨.refl _, fun x w _ hx => ex_new hp x w hx, fun x hx => by
      show upd u.H1 p _ x ≠ none
      by_cases q : x = p
      · subst q; rw [upd_same]; simp
      · rw [upd_ne q]; exact hx, S.ex.trans (ex_new hp), fun _ a b => absurd a b, fun _ h => h, fun _ _ => rfl, fun _ h => .inl h, Nat.le_refl _⟩
  have T := S.go G1 (S.st.write nS)
  refine ⟨T.gr, T.xk, T.st, by simp [S.len], fun j e q => ?_, fun j k e f a b h1 h2 m1 m2 ne q1 q2 => ?_⟩
  · by_cases q' : i = j
    · subst q'
      rw [get_set] at q
      by_cases hl : i < ds.length
      · simp [hl] at q
        subst q
        exact ⟨.ref p, by simp [get_set, S.len, hl], .mls nb n0 nS upd_same (h.mono l1)⟩
      · simp [hl] at q
    · rw [get_set, if_neg q'] at q
      obtain ⟨w, h1, h2⟩ := T.sl j e q
      exact ⟨w, by rw [get_set, if_neg q']; exact h1, h2⟩
  · -- a place that was told before is not the new one
    have old : ∀ (j : Nat) (e : D) (a : Addr), ds[j]? = some (some e) → isMut e = true → σ[j]? = some (some (.ref a)) → a ≠ p := fun j e a h m q z => by
      subst z
      obtain ⟨w, h1, h2⟩ := S.sl j e h
      rw [q] at h1
      cases h1
      cases h2 with
      | den hh => rw [hh.notMut] at m; cases m
      | mls _ _ _ hh _ => rw [hp] at hh; cases hh
      | mob _ _ _ hh _ _ _ => rw [hp] at hh; cases hh
      | mdk _ _ _ hh _ => rw [hp] at hh; cases hh
    by_cases k1 : i = j
    · subst k1
      rw [get_set] at q1
      by_cases hl : i < σ.length
      · simp [hl] at q1
        subst q1
        rw [get_set, if_neg ne] at h2 q2
        exact fun z => old k f b h2 m2 q2 z.symm
      · simp [hl] at q1
    · rw [get_set, if_neg k1] at h1 q1
      by_cases k2 : i = k
      · subst k2
        rw [get_set] at q2
        by_cases hl : i < σ.length
        · simp [hl] at q2
          subst q2
          exact old j e a h1 m1 q1
        · simp [hl] at q2
      · rw [get_set, if_neg k2] at h2 q2
        exact S.ap j k e f a b h1 h2 m1 m2 ne q1 q2
theorem ws_newlist {i : Nat} {t : TA} (h : Wa K Z t ds n fun xs m => xs.length ≤ 1000000 ∧ N.nx (ds.set i (some (.mls xs))) m) : Ws K Z (tAsg (tLst t) (gName i)) ds n N := fun b u σ De e S O =>
  h b u σ _ e S fun vs xs u1 g1 s1 r h2 => ⟨by rw [r.len]; exact sz100 h2.1, fun p hp => O.nx _ ⟨u1.S, u1.T, u1.n, u1.H0, _⟩ _ ⟨g1.sub, g1.kd, g1.a⟩ ((S.go g1 s1).setMls hp r) h2.2⟩
/-- what a slot is making changes -/
theorem Sd.change {i : Nat} {a : Addr} {o : HO} {d d' : D} (S : Sd K Z b u σ ds) (hd : ds[i]? = some (some d)) (m : isMut d = true) (hs : σ[i]? = some (some (.ref a))) (m' : isMut d' = true) (hb : b.H1 a = none) (h0 : u.H0 a = none) (hS : ¬ u.S a)
    (hx' : ∀ x, u.H1 a ≠ some (.own x)) (new : DenS K b ⟨u.S, u.T, u.n, u.H0, upd u.H1 a o⟩ (.ref a) d') : Sd K Z b ⟨u.S, u.T, u.n, u.H0, upd u.H1 a o⟩ σ (ds.set i (some d')) := by
  have l1 : Le u ⟨u.S, u.T, u.n, u.H0, upd u.H1 a o⟩ := ⟨fun _ h => h, fun _ _ => rfl, .refl _⟩
  refine ⟨S.gr.write hb h0, S.xk, S.st.write hS, by simp [S.len], fun j e q => ?_, fun j k e f b c h1 h2 m1 m2 ne q1 q2 => ?_⟩
  · by_cases q' : i = j
    · subst q'
      have hl : i < ds.length := (List.getElem?_eq_some_iff.mp hd).1
      rw [get_set] at q
      simp [hl] at q
      subst q
      exact ⟨.ref a, hs, new⟩
    · rw [get_set, if_neg q'] at q
      obtain ⟨w, h1, h2⟩ := S.sl j e q
      refine ⟨w, h1, ?_⟩
      cases h2 with
      | den h => exact .den (h.mono l1)
      | mls b0 b1 b5 b2 b3 =>
        have z := S.ap i j _ _ _ _ hd q m rfl q' hs h1
        exact .mls b0 b1 b5 ((upd_ne z.symm).trans b2) (b3.mono l1)
      | mob b0 b1 b5 b2 b4 b6 b3 =>
        have z := S.ap i j _ _ _ _ hd q m rfl q' hs h1
        exact .mob b0 b1 b5 ((upd_ne z.symm).trans b2) ((upd_ne (fun z : _ = a => by rw [z] at b4; exact hx' _ b4)).trans b4) b6 (b3.mono l1)
      | mdk b0 b1 b5 b2 b3 =>
        have z := S.ap i j _ _ _ _ hd q m rfl q' hs h1
        exact .mdk b0 b1 b5 ((upd_ne z.symm).trans b2) (b3.mono l1)
  · have hl : i < ds.length := (List.getElem?_eq_some_iff.mp hd).1
    have at_ : ∀ (j : Nat) (e : D), (ds.set i (some d'))[j]? = some (some e) → isMut e = true → ∃ e', ds[j]? = some (some e') ∧ isMut e' = true := fun j e h m1 => by
      by_cases q : i = j
      · subst q; exact ⟨d, hd, m⟩
      · rw [get_set, if_neg q] at h; exact ⟨e, h, m1⟩
    obtain ⟨e', h1', m1'⟩ := at_ j e h1 m1
    obtain ⟨f', h2', m2'⟩ := at_ k f h2 m2
    exact S.ap j k e' f' b c h1' h2' m1' m2' ne q1 q2
/-- xs.append(e) -/
theorem ws_append {i : Nat} {xs : List D} (hd : ds[i]? = some (some (.mls xs))) (hz : xs.length < 1000000) (h : We K Z te ds n fun d m => N.nx (ds.set i (some (.mls (xs ++ [d])))) m) : Ws K Z (tDrop (tBM K "list" rAppend (tVar i) (tCons te tNil))) ds n N := fun b u σ De e S O => by
  obtain ⟨v, hv, hS⟩ := S.sl i _ hd
  cases hS with
  | den h => cases h
  | mls b0 b1 b5 b2 b3 =>
    rename_i a vs
    refine ⟨.ref a, hv, ⟨Or.inl ⟨rfl, vs, SqL.of b2⟩, h b u σ _ e S fun w d u1 g1 s1 r p => ?_⟩⟩
    have S' := S.go g1 s1
    obtain ⟨v', hv', hS'⟩ := S'.sl i _ hd
    rw [hv] at hv'
    cases hv'
    cases hS' with
    | den h => cases h
    | mls c0 c1 c5 c2 c3 =>
      have z : vs = _ := HO.lst.inj (Option.some.inj ((g1.b _ _ b5 b2).symm.trans c2))
      subst z
      have l1 : Le u1 ⟨u1.S, u1.T, u1.n, u1.H0, upd u1.H1 a (.lst (vs ++ [w]))⟩ := ⟨fun _ h => h, fun _ _ => rfl, .refl _⟩
      exact ⟨a, vs, w, rfl, rfl, c2, by rw [c3.len]; exact Nat.lt_of_lt_of_le hz (by decide), O.nx _ ⟨u1.S, u1.T, u1.n, u1.H0, _⟩ _ ⟨g1.sub, g1.kd, g1.a⟩ (S'.change hd rfl hv rfl c0 c1 c5 (fun _ z => by rw [c2] at z; cases z) (.mls c0 c1 c5 upd_same ((c3.app (.cons r .nil)).mono l1))) p⟩
/-- what a slot is making is done -/
theorem Sd.settle {i : Nat} {xs : List D} (S : Sd K Z b u σ ds) (hd : ds[i]? = some (some (.mls xs))) : ∃ u', Le u u' ∧ u'.n = u.n ∧ u'.H1 = u.H1 ∧ Sd K Z b u' σ (ds.set i (some (.lst xs))) := by
  obtain ⟨v, hv, hS⟩ := S.sl i _ hd
  cases hS with
  | den h => cases h
  | mls b0 b1 b5 b2 b3 =>
    rename_i a vs
    have l1 : Le u ⟨u.S, u.T, u.n, upd u.H0 a (.lst vs), u.H1⟩ := ⟨fun _ h => h, fun _ _ => rfl, ex_new b1⟩
    refine ⟨⟨u.S, u.T, u.n, upd u.H0 a (.lst vs), u.H1⟩, l1, rfl, rfl, S.gr.settle b0 b1 b2, S.xk, S.st.settle b1 b5, by simp [S.len], fun j e q => ?_, fun j k e f b c h1 h2 m1 m2 ne q1 q2 => ?_⟩
    · by_cases q' : i = j
      · subst q'
        have hl : i < ds.length := (List.getElem?_eq_some_iff.mp hd).1
        rw [get_set] at q
        simp [hl] at q
        subst q
        exact ⟨.ref a, hv, .den (.lst (SqL.of upd_same) (b3.mono l1))⟩
      · rw [get_set, if_neg q'] at q
        obtain ⟨w, h1, h2⟩ := S.sl j e q
        refine ⟨w, h1, ?_⟩
        cases h2 with
        | den h => exact .den (h.mono l1)
        | mls c0 c1 c5 c2 c3 => exact .mls c0 ((upd_ne (S.ap i j _ _ _ _ hd q rfl rfl q' hv h1).symm).trans c1) c5 c2 (c3.mono l1)
        | mob c0 c1 c5 c2 c4 c6 c3 => exact .mob c0 ((upd_ne (S.ap i j _ _ _ _ hd q rfl rfl q' hv h1).symm).trans c1) c5 c2 c4 c6 (c3.mono l1)
        | mdk c0 c1 c5 c2 c3 => exact .mdk c0 ((upd_ne (S.ap i j _ _ _ _ hd q rfl rfl q' hv h1).symm).trans c1) c5 c2 (c3.mono l1)
    · have hl : i < ds.length := (List.getElem?_eq_some_iff.mp hd).1
      have ni : ∀ (j : Nat) (e : D), (ds.set i (some (D.lst xs)))[j]? = some (some e) → isMut e = true → ds[j]? = some (some e) := fun j e h m => by
        by_cases q : i = j
        · subst q
          rw [get_set] at h
          simp [hl] at h
          subst h
          cases m
        · rw [get_set, if_neg q] at h; exact h
      exact S.ap j k e f b c (ni _ _ h1 m1) (ni _ _ h2 m2) m1 m2 ne q1 q2
theorem ws_settle {i : Nat} {xs : List D} (hd : ds[i]? = some (some (.mls xs))) (h : Ws K Z ts (ds.set i (some (.lst xs))) n N) : Ws K Z ts ds n N := fun b u σ De e S O => by
  obtain ⟨u', x, en, eh, S'⟩ := S.settle hd
  have := h b u' σ De (en.trans e) S' (O.mono x)
  rw [eh] at this
  exact this
end
end DL

namespace DL
open PySem L2 StX
open PyProof.Rows (envOfC)
section
variable {K : PySem.W.Frag} [Tb K] {Z : ZX} {b u u' u'' : Wd} {σ : L2.St} {ds : DS} {n : Nat} {P : D → Nat → Prop} {te ta tb tc : TE} {tt tu : TT} {N : Nd} {ts t1 t2 : TS} {g : TG} {De : Ends} {Pl : List D → Nat → Prop}
theorem ws_while (Iv : Nat → DS → Nat → Prop) (h0 : ∃ m, Iv m ds n) (hs : ∀ m ds' n', Iv m ds' n' → Wt K Z tt ds' n' fun c k => if c = true then Ws K Z ts ds' k { nx := fun d j => ∃ m', m' < m ∧ Iv m' d j, rt := N.rt, bk := N.nx, ct := fun d j => ∃ m', m' < m ∧ Iv m' d j } else N.nx ds' k) :
    Ws K Z (tWhile tt ts) ds n N := fun b u σ De e S O => by
  obtain ⟨m0, h0⟩ := h0
  refine ⟨fun m σ' H' => ∃ w ds', w.H1 = H' ∧ Le u w ∧ Sd K Z b w σ' ds' ∧ Iv m ds' w.n, ⟨m0, u, ds, rfl, .refl, S, e ▸ h0⟩, ?_⟩
  rintro m σ' H' ⟨w, ds', rfl, l, S', iv⟩
  refine hs m ds' w.n iv b w σ' _ rfl S' fun c u1 g1 s1 q => ?_
  cases c with
  | false => exact O.nx _ u1 _ (l.trans g1.ls) (S'.go g1 s1) q
  | true =>
    refine ⟨fun σ2 H2 => ∃ m', m' < m ∧ ∃ w ds', w.H1 = H2 ∧ Le u w ∧ Sd K Z b w σ2 ds' ∧ Iv m' ds' w.n, fun σ2 H2 q => q, ?_⟩
    refine q b u1 σ' _ rfl (S'.go g1 s1) ⟨?_, O.rt, ?_, ?_⟩
    · rintro ds3 u3 σ3 x S3 ⟨m', hm, q3⟩
      exact ⟨m', hm, u3, ds3, rfl, (l.trans g1.ls).trans x, S3, q3⟩
    · exact fun ds3 u3 σ3 x S3 q3 => O.nx _ u3 _ ((l.trans g1.ls).trans x) S3 q3
    · rintro ds3 u3 σ3 x S3 ⟨m', hm, q3⟩
      exact ⟨m', hm, u3, ds3, rfl, (l.trans g1.ls).trans x, S3, q3⟩
/-! ### what is walked gives the data xs -/
def Wi (K : PySem.W.Frag) [Tb K] (Z : ZX) (wi : TI) (ds : DS) (n : Nat) (P : List D → Nat → Prop) : Prop :=
  ∀ (b u : Wd) (σ : St) (R : It → Hp → Prop), u.n = n → Sd K Z b u σ ds → (∀ J xs u' G Y, Gs u u' → StOk K u' → P xs u'.n → Walk J xs.length G Y → (∀ w, Le u' w → Ex w.H0 w.H1 → G w.H1) →
    (∀ w i v A, Le u' w → Ex w.H0 w.H1 → StOk K w → i < xs.length → Y i w.H1 v A → ∃ x w', w'.H1 = A ∧ xs[i]? = some x ∧ Gp K w w' ∧ Den K w' v x) → R J u'.H1) → wi σ u.H1 R
theorem ws_for {wi : TI} {g : TG} {tb : TS} (h : Wi K Z wi ds n fun xs m => ∃ Iv : Nat → DS → Nat → Prop, Iv 0 ds m ∧
    (∀ i x ds' k, xs[i]? = some x → Iv i ds' k → Wg K Z g x ds' fun ds2 => Ws K Z tb ds2 k { nx := Iv (i + 1), rt := N.rt, bk := N.nx, ct := Iv (i + 1) }) ∧ (∀ ds' k, Iv xs.length ds' k → N.nx ds' k)) : Ws K Z (tFor wi g tb) ds n N := fun b u σ De e S O =>
  h b u σ _ e S fun J xs u1 G Y g1 s1 ⟨Iv, i0, is, idn⟩ w hG hY => by
    refine for_it w (fun i σ' H' => ∃ w ds', w.H1 = H' ∧ Le u1 w ∧ Sd K Z b w σ' ds' ∧ Iv i ds' w.n) ⟨u1, ds, rfl, .refl, S.go g1 s1, i0⟩ (fun i σ' H' _ ⟨w, ds', eh, l, S', _⟩ => eh ▸ hG w l S'.ex) ?_ ?_
    · rintro i v σ' H' H'' hi ⟨w, ds', rfl, l, S', iv⟩ y
      obtain ⟨x, w', rfl, hx, g2, r⟩ := hY w i v H'' l S'.ex S'.st hi y
      have q := is i x ds' w.n hx iv
      rw [← g2.n] at q
      refine q b w' σ' v _ (S'.go g2.g (g2.st S'.st)) r fun ds2 σ2 S2 q => q b w' σ2 _ rfl S2 ⟨fun ds3 u3 σ3 x S3 q3 => ⟨u3, ds3, rfl, (l.trans g2.g.ls).trans x, S3, q3⟩, O.rt, fun ds3 u3 σ3 x S3 q3 => O.nx _ u3 _ (g1.ls.trans ((l.trans g2.g.ls).trans x)) S3 q3, fun ds3 u3 σ3 x S3 q3 => ⟨u3, ds3, rfl, (l.trans g2.g.ls).trans x, S3, q3⟩⟩
    · rintro σ' H' ⟨w, ds', rfl, l, S', iv⟩
      exact O.nx _ w _ (g1.ls.trans l) S' (idn ds' _ iv)
theorem wi_list (h : We K Z te ds n fun d m => ∃ xs, d = .lst xs ∧ Pl xs m) : Wi K Z (iList K te) ds n Pl := fun b u σ R e S k =>
  h b u σ _ e S fun v d u1 g1 s1 r ⟨xs, z, p⟩ => by
    subst z
    obtain ⟨a, vs, rfl, q, r⟩ := den_lst r
    refine ⟨a, rfl, ⟨vs, Evl.ex_l g1.c q⟩, k _ xs u1 _ _ g1 s1 p (r.len ▸ walk_list (K := K) (a := a) (xs := vs)) (fun w l e => Evl.ex_l e (Evl.ex_l l.h q)) fun w i v A l e1 _ hi y => ?_⟩
    obtain ⟨rfl, y⟩ := y
    obtain ⟨z, hz, hd⟩ := r.get y
    exact ⟨z, w, rfl, hz, .refl e1, hd.mono l⟩
theorem wi_tup (h : We K Z te ds n fun d m => ∃ xs, d = .tup xs ∧ Pl xs m) : Wi K Z (iTup K te) ds n Pl := fun b u σ R e S k =>
  h b u σ _ e S fun v d u1 g1 s1 r ⟨xs, z, p⟩ => by
    subst z
    obtain ⟨a, vs, rfl, q, r⟩ := den_tup r
    refine ⟨a, rfl, ⟨vs, Evl.ex_t g1.c q⟩, k _ xs u1 _ _ g1 s1 p (r.len ▸ walk_tup (K := K) (a := a) (xs := vs)) (fun w l e => Evl.ex_t e (Evl.ex_t l.h q)) fun w i v A l e1 _ hi y => ?_⟩
    obtain ⟨rfl, y⟩ := y
    obtain ⟨z, hz, hd⟩ := r.get y
    exact ⟨z, w, rfl, hz, .refl e1, hd.mono l⟩
def rng (lo : Int) (n : Nat) : List D := (List.range n).map fun (i : Nat) => D.int (lo + (i : Int))
theorem rng_len (lo : Int) (n : Nat) : (rng lo n).length = n := by simp [rng]
theorem rng_get {lo : Int} {n i : Nat} (h : i < n) : (rng lo n)[i]? = some (.int (lo + i)) := by simp [rng, h]
theorem wi_rng {lo : Int} {n : Nat} {R : It → Hp → Prop} (g : Gs u u') (s : StOk K u') (p : Pl (rng lo n) u'.n) (k : ∀ J xs u' G Y, Gs u u' → StOk K u' → Pl xs u'.n → Walk J xs.length G Y → (∀ w, Le u' w → Ex w.H0 w.H1 → G w.H1) →
    (∀ w i v A, Le u' w → Ex w.H0 w.H1 → StOk K w → i < xs.length → Y i w.H1 v A → ∃ x w', w'.H1 = A ∧ xs[i]? = some x ∧ Gp K w w' ∧ Den K w' v x) → R J u'.H1) : R (Itr lo n) u'.H1 := by
  refine k _ (rng lo n) u' _ _ g s p (by rw [rng_len]; exact walk_range (lo := lo) (n := n)) (fun _ _ _ => trivial) fun w i v A l e1 _ hi y => ?_
  obtain ⟨rfl, rfl⟩ := y
  exact ⟨.int (lo + i), w, rfl, rng_get (by simpa [rng_len] using hi), .refl e1, .int _⟩
theorem wi_range1 {t : TA} (h : Wa K Z t ds n fun xs m => ∃ j : Int, xs = [.int j] ∧ (-(2 ^ 62) ≤ j ∧ j < 2 ^ 62) ∧ Pl (rng 0 j.toNat) m) : Wi K Z (iRng1 t) ds n Pl := fun b u σ R e S k =>
  h b u σ _ e S fun vs d u1 g1 s1 r ⟨j, z, ⟨b1, b2⟩, p⟩ => by
    subst z
    obtain ⟨v, rfl, r1⟩ := dens1 r
    cases den_int r1
    exact ⟨j, rfl, b1, b2, wi_rng g1 s1 p k⟩
def signs (z : Str) : List D := z.cps.toList.map fun c => D.str ⟨#[c]⟩
theorem signs_len (z : Str) : (signs z).length = z.cps.size := by simp [signs]
theorem wi_str (h : We K Z te ds n fun d m => ∃ z, d = .str z ∧ Pl (signs z) m) : Wi K Z (iStr te) ds n Pl := fun b u σ R e S k =>
  h b u σ _ e S fun v d u1 g1 s1 r ⟨z, hz, p⟩ => by
    subst hz
    cases den_str r
    refine ⟨z, rfl, k _ (signs z) u1 _ _ g1 s1 p ((signs_len z).symm ▸ walk_str (z := z)) (fun _ _ _ => trivial) fun w i v A l e1 _ hi y => ?_⟩
    obtain ⟨rfl, c, hc, rfl⟩ := y
    exact ⟨.str ⟨#[c]⟩, w, rfl, by simp [signs, hc], .refl e1, .str _⟩
def enumD (xs : List D) : List D := (List.range xs.length).zipWith (fun (i : Nat) x => D.tup [.int (i : Int), x]) xs
theorem enumD_len (xs : List D) : (enumD xs).length = xs.length := by simp [enumD]
theorem enumD_get {xs : List D} {i : Nat} {x : D} (h : xs[i]? = some x) : (enumD xs)[i]? = some (.tup [.int (i : Nat), x]) := by
  have hl := (List.getElem?_eq_some_iff.mp h).1
  simp only [enumD, List.getElem?_zipWith, h, List.getElem?_range hl]
/-- a new pair -/
theorem gp_pair {w : Wd} {T : Addr} {x y : V} {d e : D} (e1 : Ex w.H0 w.H1) (hT : w.H1 T = none) (hx : Den K w x d) (hy : Den K w y e) : Gp K w (w.put T (.tup [x, y])) ∧ Den K (w.put T (.tup [x, y])) (.ref T) (.tup [d, e]) :=
  ⟨.put e1 hT, .tup (SqT.of upd_same) (.cons (hx.mono (Gs.put e1 hT).ls) (.cons (hy.mono (Gs.put e1 hT).ls) .nil))⟩
theorem wi_enum {t : TA} (h : Wa K Z t ds n fun ys m => ∃ xs, ys = [.lst xs] ∧ Pl (enumD xs) m) : Wi K Z (iEnum K t) ds n Pl := fun b u σ R e S k =>
  h b u σ _ e S fun vs d u1 g1 s1 r ⟨xs, z, p⟩ => by
    subst z
    obtain ⟨v, rfl, r1⟩ := dens1 r
    clear r
    obtain ⟨a, ws, rfl, q, r⟩ := den_lst r1
    refine ⟨a, ws, rfl, Evl.ex_l g1.c q, k _ (enumD xs) u1 _ _ g1 s1 p (by rw [enumD_len, ← r.len]; exact walk_enum (K := K) (a := a) (xs := ws)) (fun w l e => Evl.ex_l e (Evl.ex_l l.h q)) fun w i v A l e1 _ hi y => ?_⟩
    obtain ⟨T, x, y, rfl, hT, rfl, hx, hy⟩ := y
    cases hx
    obtain ⟨z, hz, hd⟩ := r.get hy
    obtain ⟨g2, d2⟩ := gp_pair e1 hT (.int (i : Nat)) (hd.mono l)
    exact ⟨_, _, rfl, enumD_get hz, g2, d2⟩
def zipD (xs ys : List D) : List D := xs.zipWith (fun x y => D.tup [x, y]) ys
/-! ### comprehensions -/
def wipeD (ds : DS) : List Nat → DS
  | [] => ds
  | v :: vs => (wipeD ds vs).set v none
theorem Sd.wipe (S : Sd K Z b u σ ds) : ∀ vs : List Nat, Sd K Z b u (L2.wipe σ vs) (wipeD ds vs)
  | [] => S
  | v :: vs => (Sd.wipe S vs).drop
theorem wipe_get (σ : St) (i : Nat) : ∀ vs : List Nat, (L2.wipe σ vs)[i]? = if i ∈ vs then (if i < σ.length then some none else none) else σ[i]?
  | [] => by simp [L2.wipe]
  | v :: vs => by
    show ((L2.wipe σ vs).set v none)[i]? = _
    rw [get_set, wipe_length, wipe_get σ i vs]
    by_cases h : v = i
    · subst h; simp
    · have h' : i ≠ v := fun z => h z.symm
      simp [h, h']
theorem wipe_of {σ σ' : St} {vs : List Nat} (hl : σ'.length = σ.length) (h : ∀ j, j ∉ vs → σ'[j]? = (L2.wipe σ vs)[j]?) : L2.wipe σ' vs = L2.wipe σ vs := by
  apply List.ext_getElem?
  intro i
  rw [wipe_get]
  by_cases q : i ∈ vs
  · rw [if_pos q, wipe_get, if_pos q, hl]
  · rw [if_neg q, h i q]
def Wgc (K : PySem.W.Frag) [Tb K] (Z : ZX) (g : TG) (js : List Nat) (x : D) (ds : DS) (P : DS → Prop) : Prop :=
  ∀ (b u : Wd) (σ : St) (v : V) (Q : St → Hp → Prop), Sd K Z b u σ ds → Den K u v x → (∀ ds' σ', Sd K Z b u σ' ds' → σ'.length = σ.length → (∀ j, j ∉ js → σ'[j]? = σ[j]?) → P ds' → Q σ' u.H1) → g v σ u.H1 Q
def Wgsc (K : PySem.W.Frag) [Tb K] (Z : ZX) (g : TGs) (js : List Nat) (xs : List D) (ds : DS) (P : DS → Prop) : Prop :=
  ∀ (b u : Wd) (σ : St) (vs : List V) (Q : St → Hp → Prop), Sd K Z b u σ ds → Dens K u vs xs → (∀ ds' σ', Sd K Z b u σ' ds' → σ'.length = σ.length → (∀ j, j ∉ js → σ'[j]? = σ[j]?) → P ds' → Q σ' u.H1) → g vs σ u.H1 Q
theorem wgc_name {i : Nat} {js : List Nat} {x : D} {P : DS → Prop} (hi : i ∈ js) (p : P (ds.set i (some x))) : Wgc K Z (gName i) js x ds P := fun b u σ v Q S r k =>
  k _ _ (S.set r) (by simp) (fun j hj => by rw [get_set, if_neg (fun z : i = j => hj (by rw [← z]; exact hi))]) p
theorem wgsc_nil {P : DS → Prop} {js : List Nat} {xs : List D} (e : xs = []) (p : P ds) : Wgsc K Z gNil js xs ds P := fun b u σ v Q S r k => by
  subst e
  cases r
  exact ⟨rfl, k _ _ S rfl (fun _ _ => rfl) p⟩
theorem wgsc_cons {P : DS → Prop} {js : List Nat} {x : D} {xs ys : List D} {gs : TGs} (e : ys = x :: xs) (h : Wgc K Z g js x ds fun ds' => Wgsc K Z gs js xs ds' P) : Wgsc K Z (gCons g gs) js ys ds P := fun b u σ v Q S r k => by
  subst e
  cases r with
  | cons r1 r2 =>
    rename_i v vs
    exact ⟨v, vs, rfl, h b u σ v _ S r1 fun ds' σ' S' l1 f1 q => q b u σ' vs _ S' r2 fun ds2 σ2 S2 l2 f2 p => k ds2 σ2 S2 (l2.trans l1) (fun j hj => (f2 j hj).trans (f1 j hj)) p⟩
theorem wgc_tup {P : DS → Prop} {js : List Nat} {j : Nat} {x : D} {xs : List D} {gs : TGs} (e : x = .tup xs) (hn : xs.length = j) (h : Wgsc K Z gs js xs ds P) : Wgc K Z (gTup K j gs) js x ds P := fun b u σ v Q S r k => by
  subst e
  obtain ⟨a, vs, rfl, q, r2⟩ := den_tup r
  exact ⟨_, _, rfl, Evl.ex_t S.ex q, r2.len.trans hn, h b u σ _ Q S r2 k⟩
theorem we_lc {wi : TI} {vs : List Nat} (h : Wi K Z wi ds n fun xs m => ∃ Iv : Nat → List D → Nat → Prop, Iv 0 [] m ∧
    (∀ i x ys k, xs[i]? = some x → Iv i ys k → Wgc K Z g vs x (wipeD ds vs) fun ds2 => Wt K Z tt ds2 k fun c j => if c = true then We K Z te ds2 j (fun y l => ys.length < 1000000 ∧ Iv (i + 1) (ys ++ [y]) l) else Iv (i + 1) ys j) ∧
    (∀ ys k, Iv xs.length ys k → P (.lst ys) k)) : We K Z (tLc wi g tt te vs) ds n P := fun b u σ Q e S k =>
  h b u σ _ e S fun J xs u1 G Y g1 s1 ⟨Iv, i0, is, idn⟩ w hG hY => fun Dl hD => by
    have n0 : u1.H0 Dl = none := ex_none g1.c hD
    have nS : ¬ u1.S Dl := fun h => by
      obtain ⟨_, o, h1, _⟩ := s1 Dl h
      rw [hD] at h1; cases h1
    refine lc_it w (fun i H' => ∃ w ys acc, w.H1 = H' ∧ Gs u1 w ∧ StOk K w ∧ w.H0 Dl = none ∧ ¬ w.S Dl ∧ H' Dl = some (.lst acc) ∧ Dens K w acc ys ∧ Iv i ys w.n)
      ⟨⟨u1.S, u1.T, u1.n, u1.H0, upd u1.H1 Dl (.lst [])⟩, [], [], rfl, (Gs.refl g1.c).write hD n0, s1.write nS, n0, nS, upd_same, .nil, i0⟩ (fun i H' _ ⟨w, ys, acc, eh, g', _⟩ => eh ▸ hG w g'.ls g'.c) ?_ ?_
    · rintro i v H' H'' hi ⟨w, ys, acc, rfl, g', sw, c0, cS, hc, hr, iv⟩ y
      obtain ⟨x, w', rfl, hx, g2, r⟩ := hY w i v H'' g'.ls g'.c sw hi y
      have c1 := g2.g.nn c0 hc
      have cS1 := g2.g.ns cS hc
      have hc1 := g2.g.b _ _ cS hc
      have S1 := ((S.go g1 s1).go (g'.trans g2.g) (g2.st sw)).wipe vs
      have q := is i x ys w.n hx iv
      rw [← g2.n] at q
      refine q b w' (L2.wipe σ vs) v _ S1 r fun ds2 σ2 S2 l2 f2 q => ⟨wipe_of (l2.trans (wipe_length _ _)) f2, q b w' σ2 _ rfl S2 fun c u3 g3 s3 q3 => ?_⟩
      have c2 := g3.nn c1 hc1
      have cS2 := g3.ns cS1 hc1
      have hc2 := g3.b _ _ cS1 hc1
      cases c with
      | false => exact ⟨u3, ys, acc, rfl, (g'.trans g2.g).trans g3, s3, c2, cS2, hc2, hr.mono (g2.g.ls.trans g3.ls), q3⟩
      | true =>
        refine q3 b u3 σ2 _ rfl (S2.go g3 s3) fun y d u4 g4 s4 r4 ⟨hl, p4⟩ => ?_
        have c3 := g4.nn c2 hc2
        have cS3 := g4.ns cS2 hc2
        have hc3 := g4.b _ _ cS2 hc2
        have l4 : Le u4 ⟨u4.S, u4.T, u4.n, u4.H0, upd u4.H1 Dl (.lst (acc ++ [y]))⟩ := ⟨fun _ h => h, fun _ _ => rfl, .refl _⟩
        exact ⟨acc, hc3, by rw [hr.len]; exact Nat.lt_of_lt_of_le hl (by decide), ⟨u4.S, u4.T, u4.n, u4.H0, upd u4.H1 Dl (.lst (acc ++ [y]))⟩, ys ++ [d], acc ++ [y], rfl, (((g'.trans g2.g).trans g3).trans g4).write hD c3, s4.write cS3, c3, cS3, upd_same, ((hr.mono ((g2.g.ls.trans g3.ls).trans g4.ls)).app (.cons r4 .nil)).mono l4, p4⟩
    · rintro H' ⟨w, ys, acc, rfl, g', sw, c0, cS, hc, hr, iv⟩
      have l1 : Le w ⟨w.S, w.T, w.n, upd w.H0 Dl (.lst acc), w.H1⟩ := ⟨fun _ h => h, fun _ _ => rfl, ex_new c0⟩
      exact k _ _ ⟨w.S, w.T, w.n, upd w.H0 Dl (.lst acc), w.H1⟩ (g1.trans (g'.settle hD c0 hc)) (sw.settle c0 cS) (.lst (SqL.of upd_same) (hr.mono l1)) (idn ys _ iv)
end
/-! ### defs -/
abbrev Xp := Addr → List (Str × D) → Nat → Prop
abbrev Rl := List D → Nat → (D → Nat → Prop) → Xp → Prop
/-- a def that draws nothing and raises nothing -/
abbrev pr (R : List D → (D → Prop) → Prop) : Rl := fun ds n P _ => R ds fun d => P d n
/-- a def that draws nothing -/
abbrev px (R : List D → (D → Prop) → (Addr → List (Str × D) → Prop) → Prop) : Rl := fun ds n P X => R ds (fun d => P d n) fun C fs => X C fs n
def spD (K : PySem.W.Frag) [Tb K] (R : Rl) : Sp := fun vs H Q E => ∃ (u : Wd) (ds : List D) (P : D → Nat → Prop) (X : Xp), u.H1 = H ∧ Ex u.H0 u.H1 ∧ StOk K u ∧ Dens K u vs ds ∧ R ds u.n P X ∧ (∀ v d u', Gs u u' → StOk K u' → Den K u' v d → P d u'.n → Q v u'.H1) ∧ XOk K ⟨E, X⟩ u
abbrev noX : Xp := fun _ _ _ => False
theorem xok_no {K : PySem.W.Frag} [Tb K] {E : XK} {u : Wd} : XOk K ⟨E, noX⟩ u := fun _ _ _ _ _ _ _ _ z => z.elim
/-- of an __init__: the fields that the new object has -/
abbrev Ri := List D → Nat → (List (Str × D) → Prop) → Xp → Prop
def spI (K : PySem.W.Frag) [Tb K] (C : Addr) (R : Ri) : Sp := fun vs H Q E => ∃ (x dx : Addr) (ws : List V) (u : Wd) (ds : List D) (P : List (Str × D) → Prop) (X : Xp), vs = .ref x :: ws ∧ u.H1 x = none ∧ u.H1 dx = none ∧ dx ≠ x ∧ H = upd (upd u.H1 dx (.own x)) x (.ins C dx []) ∧ Ex u.H0 u.H1 ∧ StOk K u ∧ Dens K u ws ds ∧ R ds u.n P X ∧
  (∀ fs gs u', Gs u u' → StOk K u' → u'.n = u.n → u'.H0 x = none → ¬ u'.S x → u'.H1 x = some (.ins C dx fs) → u'.H1 dx = some (.own x) → DenF K u' fs gs → P gs → Q .non u'.H1) ∧ XOk K ⟨E, X⟩ u
section
variable {K : PySem.W.Frag} [Tb K] {Z : ZX} {b u u' u'' : Wd} {σ : L2.St} {ds : DS} {n : Nat} {P : D → Nat → Prop} {te ta tb tc : TE} {tt tu : TT} {N : Nd} {ts t1 t2 : TS} {g : TG} {De : Ends} {E : XK} {C : Addr} {R : Rl}
theorem we_call {t : TA} (h : Wa K Z t ds n fun xs m => R xs m P noX) : We K Z (tCall (spD K R) [] E t) ds n P := fun b u σ Q e S k =>
  h b u σ _ e S fun vs xs u1 g1 s1 r p => ⟨u1, xs, P, noX, rfl, g1.c, s1, by rw [List.append_nil]; exact r, p, fun v d u2 g2 s2 r' p' => k v d u2 (g1.trans g2) s2 r' p', xok_no⟩
theorem we_meth {m : Str} {t : TA} (h : We K Z ta ds n fun o j => ∃ fs, o = .obj C fs ∧ fs.lookup m = none ∧ Wa K Z t ds j fun xs k => R (o :: xs) k P noX) : We K Z (tMeth C m (spD K R) [] E ta t) ds n P := fun b u σ Q e S k =>
  h b u σ _ e S fun v o u1 g1 s1 r ⟨fs, z, hl, q⟩ => by
    subst z
    obtain ⟨a, dx, fv, rfl, ha, hf⟩ := den_obj r
    refine ⟨a, dx, fv, rfl, g1.c _ _ ha, hf.miss hl, q b u1 σ _ rfl (S.go g1 s1) fun vs xs u2 g2 s2 r2 p2 => ?_⟩
    exact ⟨u2, _ :: xs, P, noX, rfl, g2.c, s2, by rw [List.append_nil]; exact .cons (r.mono g2.ls) r2, p2, fun v d u3 g3 s3 r' p' => k v d u3 ((g1.trans g2).trans g3) s3 r' p', xok_no⟩
theorem we_make {t : TA} {R : Ri} (h : Wa K Z t ds n fun xs m => R xs m (fun gs => P (.obj C gs) m) noX) : We K Z (tMake C (spI K C R) [] E t) ds n P := fun b u σ Q e S k =>
  h b u σ _ e S fun vs xs u1 g1 s1 r p => fun x dx hx hdx ne => ⟨x, dx, vs, u1, xs, _, _, by rw [List.append_nil], hx, hdx, ne, rfl, g1.c, s1, r, p, fun fs gs u2 g2 s2 en n0 nS h1 h2 hf pg => ⟨rfl, by
    have l1 : Le u2 ⟨u2.S, u2.T, u2.n, upd u2.H0 x (.ins C dx fs), u2.H1⟩ := ⟨fun _ h => h, fun _ _ => rfl, ex_new n0⟩
    exact k _ _ ⟨u2.S, u2.T, u2.n, upd u2.H0 x (.ins C dx fs), u2.H1⟩ (g1.trans (g2.settle hx n0 h1)) (s2.settle n0 nS) (.obj upd_same (hf.mono l1)) (en ▸ pg)⟩, xok_no⟩
/-- self.f = e, in an __init__ -/
theorem ws_fld {i : Nat} {f : Str} {a dx : Addr} {fs : List (Str × D)} (hd : ds[i]? = some (some (.mob a dx C fs))) (hc : Cls K C) (hn : NoAttr K C f) (hz : fs.length < 1000) (h : We K Z te ds n fun d m => N.nx (ds.set i (some (.mob a dx C (putD f d fs)))) m) : Ws K Z (sFld K (tVar i) te f) ds n N := fun b u σ De e S O =>
  h b u σ _ e S fun w d u1 g1 s1 r p => by
    have S' := S.go g1 s1
    obtain ⟨v, hv, hS⟩ := S'.sl i _ hd
    cases hS with
    | den h => cases h
    | mob c0 c1 c5 c2 c4 c6 c3 =>
      rename_i fv
      have na : dx ≠ a := fun z => by rw [z, c2] at c4; cases c4
      have l1 : Le u1 ⟨u1.S, u1.T, u1.n, u1.H0, upd u1.H1 a (.ins C dx (putF f w fv))⟩ := ⟨fun _ h => h, fun _ _ => rfl, .refl _⟩
      exact ⟨.ref a, hv, a, C, dx, fv, rfl, c2, hc, hn, by rw [c3.len]; exact hz, O.nx _ ⟨u1.S, u1.T, u1.n, u1.H0, _⟩ _ ⟨g1.sub, g1.kd, g1.a⟩ (S'.change hd rfl hv rfl c0 c1 c5 (fun _ z => by rw [c2] at z; cases z) (.mob c0 c1 c5 upd_same ((upd_ne na).trans c4) c6 ((DenF.put r c3).mono l1))) p⟩
variable {Pr : Program} {w : World} {mg : Str → Option Value} {base : Heap}
theorem start_get {N : List Str} {vs : List V} (h : vs.length ≤ N.length) : (L2.start N vs).length = N.length := by simp [L2.start]; omega
def startD (n : Nat) (ds : List D) : DS := ds.map some ++ List.replicate (n - ds.length) none
theorem sd_start {N : List Str} {vs : List V} {xs : List D} (e : Ex u.H0 u.H1) (xk : XOk K Z u) (st : StOk K u) (r : Dens K u vs xs) (hl : vs.length ≤ N.length) : Sd K Z u u (L2.start N vs) (startD N.length xs) := by
  have get : ∀ (i : Nat) (d : D), (startD N.length xs)[i]? = some (some d) → xs[i]? = some d := fun i d h => by
    unfold startD at h
    rw [List.getElem?_append] at h
    by_cases q : i < (xs.map some).length
    · rw [if_pos q] at h
      simpa using h
    · rw [if_neg q, List.getElem?_replicate] at h
      split at h <;> cases h
  refine ⟨.refl e, xk, st, by rw [start_get hl]; simp [startD, r.len.symm]; omega, fun i d h => ?_, fun i j d e a b h1 h2 m1 m2 => ?_⟩
  · obtain ⟨v, hv, hd⟩ := r.getD (get i d h)
    refine ⟨v, ?_, .den hd⟩
    unfold L2.start
    rw [List.getElem?_append_left (by simpa using (List.getElem?_eq_some_iff.mp hv).1)]
    simp [hv]
  · obtain ⟨v, hv, hd⟩ := r.getD (get i d h1)
    rw [hd.notMut] at m1
    cases m1
/-- a def keeps its promise: its body, told by data -/
theorem dok {x qual : Str} {st : Stmt} {f : Addr} {fd : FuncData} {N ps : List Str} {k : Nat} (F : Fun K x qual st f fd) (S : FnScope N ps (defScope st)) (len : ∀ ds n P X, R ds n P X → ds.length = ps.length) (hNp : ps.length ≤ N.length)
    (hbody : ∀ (cdv : Value) (A : Around) (outer : List Env) (s : Shared) (H : Hp) (E : XK), Room k (A.deeper (envOfC qual (defScope st) s.heap.objs.size f cdv)) →
      ∃ t, PSs (cxOf CX0 Pr w K mg base N qual (defScope st) f cdv A outer s H E).nox (defBody st) t ∧ ∀ Z ds n P, R ds n P Z.X → Ws K Z t (startD N.length ds) n { nx := fun _ m => P .non m, rt := P }) : FnOk Pr w K mg base CX0 (k + 1) f fd ps (spD K R) := by
  refine F.ok S (fun vs H Q E ⟨u, ds, P, X, _, e, _, r, h, _⟩ => by rw [r.len]; exact len ds _ P X h) (fun cdv A outer s H vs Q E hr ⟨u, ds, P, X, eh, e, st, r, h, q, xk⟩ => ?_)
  obtain ⟨t, ht, hW⟩ := hbody cdv A outer s H E hr
  subst eh
  refine ⟨t, ht, hW ⟨E, X⟩ ds u.n P h u u _ _ rfl (sd_start e xk st r (by rw [r.len, len ds _ P X h]; exact hNp)) ⟨fun ds' v σ' _ S' p => q _ _ _ S'.gr S'.st .non p, fun d v v' g s r p => q v d v' g s r p, fun _ _ _ _ _ z => z.elim, fun _ _ _ _ _ z => z.elim⟩⟩
theorem dokI {x qual : Str} {st : Stmt} {f : Addr} {fd : FuncData} {N ps : List Str} {k : Nat} {R : Ri} (F : Fun K x qual st f fd) (S : FnScope N ps (defScope st)) (len : ∀ ds n P X, R ds n P X → ds.length + 1 = ps.length) (hNp : ps.length ≤ N.length)
    (hbody : ∀ (cdv : Value) (A : Around) (outer : List Env) (s : Shared) (H : Hp) (E : XK), Room k (A.deeper (envOfC qual (defScope st) s.heap.objs.size f cdv)) →
      ∃ t, PSs (cxOf CX0 Pr w K mg base N qual (defScope st) f cdv A outer s H E).nox (defBody st) t ∧ ∀ Z x dx ds n P, R ds n P Z.X → Ws K Z t (some (.mob x dx C []) :: startD (N.length - 1) ds) n { nx := fun ds' m => m = n ∧ ∃ gs, ds'[0]? = some (some (.mob x dx C gs)) ∧ P gs, rt := fun _ _ => False }) : FnOk Pr w K mg base CX0 (k + 1) f fd ps (spI K C R) := by
  refine F.ok S (fun vs H Q E ⟨x, dx, ws, u, ds, P, X, e, _, _, _, _, _, _, r, h, _⟩ => by subst e; rw [List.length_cons, r.len]; exact len ds _ P X h) (fun cdv A outer s H vs Q E hr ⟨x, dx, ws, u, ds, P, X, e, hx, hdx, ne, eH, ex, st, r, h, q, xk⟩ => ?_)
  obtain ⟨t, ht, hW⟩ := hbody cdv A outer s H E hr
  subst e
  subst eH
  have hl := len ds _ P X h
  obtain ⟨j, hn⟩ : ∃ j, N.length = j + 1 := ⟨N.length - 1, by omega⟩
  have x0 : u.H0 x = none := ex_none ex hx
  have dx0 : u.H0 dx = none := ex_none ex hdx
  have xS : ¬ u.S x := fun h => by
    obtain ⟨_, o, h1, _⟩ := st x h
    rw [hx] at h1; cases h1
  have dxS : ¬ u.S dx := fun h => by
    obtain ⟨_, o, h1, _⟩ := st dx h
    rw [hdx] at h1; cases h1
  have g : Gs u ⟨u.S, u.T, u.n, u.H0, upd (upd u.H1 dx (.own x)) x (.ins C dx [])⟩ := ((Gs.refl ex).write (o := .own x) hdx dx0).write (o := .ins C dx []) hx x0
  have s2 : StOk K ⟨u.S, u.T, u.n, u.H0, upd (upd u.H1 dx (.own x)) x (.ins C dx [])⟩ := (st.write (o := .own x) dxS).write (o := .ins C dx []) xS
  have S0 : Sd K ⟨E, X⟩ u ⟨u.S, u.T, u.n, u.H0, upd (upd u.H1 dx (.own x)) x (.ins C dx [])⟩ (L2.start N (.ref x :: ws)) (some (.mob x dx C []) :: startD (N.length - 1) ds) := by
    cases hN : N with
    | nil => rw [hN] at hn; cases hn
    | cons y N' =>
      have T := (sd_start (Z := ⟨E, X⟩) (N := N') (vs := ws) ex xk st r (by rw [hN] at hNp; simp at hNp; rw [r.len]; omega)).go g s2
      have es : L2.start (y :: N') (V.ref x :: ws) = some (V.ref x) :: L2.start N' ws := by simp [L2.start]
      rw [es]
      have nm : ∀ (i : Nat) (d : D), (some (D.mob x dx C []) :: startD ((y :: N').length - 1) ds)[i]? = some (some d) → isMut d = true → i = 0 := fun i d h m => by
        cases i with
        | zero => rfl
        | succ i =>
          have h' : (startD N'.length ds)[i]? = some (some d) := by simpa using h
          unfold startD at h'
          rw [List.getElem?_append] at h'
          by_cases q : i < (ds.map some).length
          · rw [if_pos q] at h'
            have h3 : ds[i]? = some d := by simpa using h'
            obtain ⟨v, _, hd⟩ := r.getD h3
            rw [hd.notMut] at m
            cases m
          · rw [if_neg q, List.getElem?_replicate] at h'
            split at h' <;> cases h'
      refine ⟨g, xk, s2, by simpa using T.len, fun i d hi => ?_, fun i j d e a b h1 h2 m1 m2 nij => absurd ((nm i d h1 m1).trans (nm j e h2 m2).symm) nij⟩
      cases i with
      | zero =>
        simp at hi
        subst hi
        exact ⟨.ref x, by simp, .mob hx x0 xS upd_same ((upd_ne ne).trans upd_same) dxS .nil⟩
      | succ i =>
        obtain ⟨v, hv, hd⟩ := T.sl i d (by simpa using hi)
        exact ⟨v, by simpa using hv, hd⟩
  refine ⟨t, ht, hW ⟨E, X⟩ x dx ds u.n P h u ⟨u.S, u.T, u.n, u.H0, _⟩ _ _ rfl S0 ⟨fun ds' u2 σ' _ S' ⟨en, gs, hg, p⟩ => ?_, fun d v _ _ _ _ p => p.elim, fun _ _ _ _ _ z => z.elim, fun _ _ _ _ _ z => z.elim⟩⟩
  obtain ⟨v, _, hS⟩ := S'.sl 0 _ hg
  cases hS with
  | den z => cases z
  | mob c0 c1 c5 c2 c4 c6 c3 => exact q _ gs u2 S'.gr S'.st en c1 c5 c2 c4 c3 p
end
end DL

namespace L2
open PySem PySem.Spec PyProof.Rows
section
variable {X : Cx}
/-- list + list, whatever the lists are -/
def rCatL (K : PySem.W.Frag) : R2 := fun x y H Q => ∃ l b xs zs, x = .ref l ∧ y = .ref b ∧ SqL K H l xs ∧ SqL K H b zs ∧ xs.length + zs.length ≤ sizeLine ∧ ∀ p, H p = none → Q (.ref p) (upd H p (.lst (xs ++ zs)))
theorem op_catL : OpR X (binaryOp .Add) (rCatL X.K) := by
  intro pins s σ H x y v u Q I rx ry h
  obtain ⟨l, b, xs, zs, rfl, rfl, hH, hB, hz, q⟩ := h
  cases rx
  cases ry
  obtain ⟨its, r, pl, hl⟩ := I.list hH
  obtain ⟨its2, r2, pl2, hl2⟩ := I.list hB
  obtain ⟨⟨cls, dd, data, sl⟩, ho, hc, n, hd⟩ := pl.isList
  obtain ⟨⟨cls2, dd2, data2, sl2⟩, ho2, hc2, n2, hd2⟩ := pl2.isList
  simp only at hc hd hc2 hd2
  subst hc hd hc2 hd2
  have ea : its.toArray ++ its2.toArray = (its ++ its2).toArray := by simp
  have l1 := r.length
  have l2 := r2.length
  refine concat_meets ⟨_, ho, rfl⟩ ⟨_, ho2, rfl⟩ noFill_list_add seq_list_add PySem.F.slot_list_add PySem.F.entry_list_add (PySem.F.args_list_add_2 _ _) (list_addW l b its.toArray its2.toArray n n2 dd dd2 sl sl2 (by simp; omega)) ⟨ho, ho2, ?_⟩
  rw [ea]
  exact ⟨.ref _, _, I.lnew (t' := s.toks) (r.append r2) (by rw [List.length_append]; omega), rfl, q _ I.fresh⟩
/-- a + b: ints, texts, lists, tuples -/
def rAddI : R2 := rI0 fun i j => .int (i + j)
def rAddT : R2 := fun x y H Q => ∃ i j, x = .str i ∧ y = .str j ∧ i.length + j.length ≤ sizeLine ∧ Q (.str (i ++ j)) H
def rAddU (K : PySem.W.Frag) : R2 := fun x y H Q => rAddI x y H Q ∨ rAddT x y H Q ∨ rCatL K x y H Q ∨ rCatA K x y H Q
theorem op_addU : OpR X (binaryOp .Add) (rAddU X.K) := (show OpR X (binaryOp .Add) rAddI from op_add).or ((show OpR X (binaryOp .Add) rAddT from op_add_str).or (op_catL.or op_catA))
end
end L2
namespace DL
open PySem L2 StX
section
variable {K : PySem.W.Frag} [Tb K] {Z : ZX} {u u' : Wd} {σ : L2.St} {ds : DS} {P : D → Prop} {te ta tb tc : TE} {tt tu : TT} {i j : Int} {x y : Str} {xs ys : List D} {C : Addr} {a b : D} {p q : Bool}
theorem Op.or {r r' : R2} (h : Op K r a b P) : Op K (fun x y H Q => r x y H Q ∨ r' x y H Q) a b P := fun u v w Q e s d1 d2 k => .inl (h u v w Q e s d1 d2 k)
theorem op_I0 {g : Int → Int → V} {d : D} (hd : ∀ u, Den K u (g i j) d) (h : P d) : Op K (rI0 g) (.int i) (.int j) P := fun u v w Q e _ d1 d2 k => by
  cases den_int d1
  cases den_int d2
  exact ⟨i, j, rfl, rfl, k _ _ u (.refl e) (hd _) h⟩
theorem op_I {c : Int → Int → Prop} {g : Int → Int → V} {d : D} (hd : ∀ u, Den K u (g i j) d) (hc : c i j) (h : P d) : Op K (rI c g) (.int i) (.int j) P := fun u v w Q e _ d1 d2 k => by
  cases den_int d1
  cases den_int d2
  exact ⟨i, j, rfl, rfl, hc, k _ _ u (.refl e) (hd _) h⟩
/-! ### + -/
theorem add_int (h : P (.int (i + j))) : Op K (rAddU K) (.int i) (.int j) P := Op.or (op_I0 (fun _ => .int _) h)
theorem add_str (hz : x.length + y.length ≤ 1000000) (h : P (.str (x ++ y))) : Op K (rAddU K) (.str x) (.str y) P := fun u v w Q e _ d1 d2 k => by
  cases den_str d1
  cases den_str d2
  exact .inr (.inl ⟨x, y, rfl, rfl, sz100 hz, k _ _ u (.refl e) (.str _) h⟩)
theorem add_lst (hz : xs.length + ys.length ≤ 1000000) (h : P (.lst (xs ++ ys))) : Op K (rAddU K) (.lst xs) (.lst ys) P := fun u v w Q e _ d1 d2 k => by
  obtain ⟨a, vs, rfl, q, r⟩ := den_lst d1
  obtain ⟨a', vs', rfl, q', r'⟩ := den_lst d2
  refine .inr (.inr (.inl ⟨a, a', vs, vs', rfl, rfl, Evl.ex_l e q, Evl.ex_l e q', by rw [r.len, r'.len]; exact sz100 hz, fun p hp => k _ _ (u.put p _) (.put e hp) (.lst (SqL.of upd_same) ((r.app r').mono (Gs.put e hp).ls)) h⟩))
/-! ### other operators on ints -/
theorem sub_int (h : P (.int (i - j))) : Op K (rI0 fun i j => .int (i - j)) (.int i) (.int j) P := op_I0 (fun _ => .int _) h
theorem mul_int (hc : CMul i j) (h : P (.int (i * j))) : Op K (rI CMul fun i j => .int (i * j)) (.int i) (.int j) P := op_I (fun _ => .int _) hc h
theorem fdiv_int (hc : 0 < j ∧ j < 1073741824) (h : P (.int (i / j))) : Op K (rI CDiv fun i j => .int (i / j)) (.int i) (.int j) P := op_I (fun _ => .int _) hc h
theorem mod_int (hc : 0 < j) (h : P (.int (i % j))) : Op K (rI (fun _ j => 0 < j) fun i j => .int (i % j)) (.int i) (.int j) P := op_I (fun _ => .int _) hc h
theorem pow_int (hc : CPow i j) (h : P (.int (i ^ j.toNat))) : Op K (rI CPow fun i j => .int (i ^ j.toNat)) (.int i) (.int j) P := op_I (fun _ => .int _) hc h
theorem neg_int (h : P (.int (-i))) : Un K (rU fun i => .int (-i)) (.int i) P := fun u v Q e d1 k => by
  cases den_int d1
  exact ⟨i, rfl, k _ _ u (.refl e) (.int _) h⟩
/-! ### is None -/
abbrev rIsN' : R2 := fun x y H Q => y = .non ∧ Q (.bl (decide (x = .non))) H
abbrev rNotN' : R2 := fun x y H Q => y = .non ∧ Q (.bl (!decide (x = .non))) H
def isNonD : D → Bool
  | .non => true
  | _ => false
theorem den_isNon {v : V} {d : D} (h : Den K u v d) : decide (v = .non) = isNonD d := by cases h <;> rfl
theorem is_non (h : P (.bl (isNonD a))) : Op K rIsN' a .non P := fun u v w Q e _ d1 d2 k => by
  cases den_non d2
  exact ⟨rfl, by rw [den_isNon d1]; exact k _ _ u (.refl e) (.bl _) h⟩
theorem not_non (h : P (.bl (!isNonD a))) : Op K rNotN' a .non P := fun u v w Q e _ d1 d2 k => by
  cases den_non d2
  exact ⟨rfl, by rw [den_isNon d1]; exact k _ _ u (.refl e) (.bl _) h⟩
end
/-! ### plain data: ==, !=, <, <=, >, >=, in -/
mutual
def pd : D → Option PyData
  | .non => some .none
  | .bl b => some (.bool b)
  | .int i => some (.int i)
  | .str x => some (.str x)
  | .lst xs => (pds xs).map .list
  | .tup xs => (pds xs).map .tuple
  | _ => none
def pds : List D → Option (List PyData)
  | [] => some []
  | x :: xs => (pd x).bind fun y => (pds xs).map fun ys => y :: ys
end
section
variable {K : PySem.W.Frag} [Tb K] {Z : ZX} {H : Hp} {u : Wd}
mutual
theorem den_dp (x : Ex u.H0 H) : ∀ {v : V} {d : D} {e : PyData}, Den K u v d → pd d = some e → Dp K H v e
  | _, _, e, .non, h => by simp only [pd] at h; cases h; exact .non
  | _, _, e, .bl b, h => by simp only [pd] at h; cases h; exact .bl b
  | _, _, e, .int i, h => by simp only [pd] at h; cases h; exact .int i
  | _, _, e, .str y, h => by simp only [pd] at h; cases h; exact .str y
  | _, _, e, .lst (ds := ds) q r, h => by
    simp only [pd] at h
    cases hp : pds ds with
    | none => rw [hp] at h; cases h
    | some es => rw [hp] at h; cases h; exact .lst (Evl.ex_l x q) (dens_dp x r hp)
  | _, _, e, .tup (ds := ds) q r, h => by
    simp only [pd] at h
    cases hp : pds ds with
    | none => rw [hp] at h; cases h
    | some es => rw [hp] at h; cases h; exact .tup (Evl.ex_t x q) (dens_dp x r hp)
  | _, _, e, .ty _, h => by simp only [pd] at h; cases h
  | _, _, e, .cls _, h => by simp only [pd] at h; cases h
  | _, _, e, .strm _ _, h => by simp only [pd] at h; cases h
  | _, _, e, .obj _ _, h => by simp only [pd] at h; cases h
  | _, _, e, .dct _ _, h => by simp only [pd] at h; cases h
  | _, _, e, .fdc _ _, h => by simp only [pd] at h; cases h
theorem dens_dp (x : Ex u.H0 H) : ∀ {v : List V} {d : List D} {e : List PyData}, Dens K u v d → pds d = some e → DpAll K H v e
  | _, _, e, .nil, h => by simp only [pds] at h; cases h; exact .nil
  | _, _, e, .cons (d := d) (ds := ds) r rs, h => by
    simp only [pds] at h
    cases hp : pd d with
    | none => rw [hp] at h; cases h
    | some y =>
      rw [hp] at h
      cases hq : pds ds with
      | none => rw [hq] at h; cases h
      | some ys => rw [hq] at h; cases h; exact .cons (den_dp x r hp) (dens_dp x rs hq)
end
end
end DL
namespace L2
open PySem PySem.Spec PyProof.Rows
section
variable {X : Cx}
def rEqP (K : PySem.W.Frag) : R2 := fun x y H Q => ∃ d e, Dp K H x d ∧ Dp K H y e ∧ d.plain = true ∧ e.plain = true ∧ d.depth ≤ 64 ∧ Q (.bl (PyData.eqv d e)) H
def rNeP (K : PySem.W.Frag) : R2 := fun x y H Q => ∃ d e, Dp K H x d ∧ Dp K H y e ∧ d.plain = true ∧ e.plain = true ∧ d.depth ≤ 64 ∧ Q (.bl (!PyData.eqv d e)) H
def rLtP (K : PySem.W.Frag) : R2 := fun x y H Q => ∃ d e, Dp K H x d ∧ Dp K H y e ∧ PySem.W.alike d e = true ∧ d ≠ .none ∧ d.depth ≤ 64 ∧ Q (.bl (PySem.W.dataLt d e)) H
def rGtP (K : PySem.W.Frag) : R2 := fun x y H Q => ∃ d e, Dp K H x d ∧ Dp K H y e ∧ PySem.W.alike d e = true ∧ d ≠ .none ∧ d.depth ≤ 64 ∧ Q (.bl (PySem.W.dataLt e d)) H
def rLeP (K : PySem.W.Frag) : R2 := fun x y H Q => ∃ d e, Dp K H x d ∧ Dp K H y e ∧ PySem.W.alike d e = true ∧ d ≠ .none ∧ d.depth ≤ 64 ∧ Q (.bl (!PySem.W.dataLt e d)) H
def rGeP (K : PySem.W.Frag) : R2 := fun x y H Q => ∃ d e, Dp K H x d ∧ Dp K H y e ∧ PySem.W.alike d e = true ∧ d ≠ .none ∧ d.depth ≤ 64 ∧ Q (.bl (!PySem.W.dataLt d e)) H
theorem room_min {u a b : Nat} (hu : u + 64 < cLine) (h : a ≤ 64) : u + min a b < cLine := by have := Nat.min_le_left a b; omega
theorem op_eqP (hu : X.A.units + 64 < cLine) : OpR X (compareOp .Eq) (rEqP X.K) := by
  intro pins s σ H x y v u Q I rx ry ⟨d, e, hd, he, pd, pe, dd, q⟩
  obtain ⟨as, r1⟩ := Dp.reads I d x v hd rx
  obtain ⟨bs, r2⟩ := Dp.reads I e y u he ry
  exact PySem.SeqAt.eq_plain r1 r2 pd pe (room_min hu dd) ⟨.bl _, H, I, rfl, q⟩
theorem op_neP (hu : X.A.units + 64 < cLine) : OpR X (compareOp .NotEq) (rNeP X.K) := by
  intro pins s σ H x y v u Q I rx ry ⟨d, e, hd, he, pd, pe, dd, q⟩
  obtain ⟨as, r1⟩ := Dp.reads I d x v hd rx
  obtain ⟨bs, r2⟩ := Dp.reads I e y u he ry
  exact PySem.SeqAt.ne_plain r1 r2 pd pe (room_min hu dd) ⟨.bl _, H, I, rfl, q⟩
theorem op_gtP (hu : X.A.units + 64 < cLine) : OpR X (compareOp .Gt) (rGtP X.K) := by
  intro pins s σ H x y v u Q I rx ry ⟨d, e, hd, he, al, nn, dd, q⟩
  obtain ⟨as, r1⟩ := Dp.reads I d x v hd rx
  obtain ⟨bs, r2⟩ := Dp.reads I e y u he ry
  exact PySem.W.gt_data r1 r2 al nn (room_min hu dd) ⟨.bl _, H, I, rfl, q⟩
theorem op_leP (hu : X.A.units + 64 < cLine) : OpR X (compareOp .LtE) (rLeP X.K) := by
  intro pins s σ H x y v u Q I rx ry ⟨d, e, hd, he, al, nn, dd, q⟩
  obtain ⟨as, r1⟩ := Dp.reads I d x v hd rx
  obtain ⟨bs, r2⟩ := Dp.reads I e y u he ry
  exact PySem.W.le_data r1 r2 al nn (room_min hu dd) ⟨.bl _, H, I, rfl, q⟩
theorem op_geP (hu : X.A.units + 64 < cLine) : OpR X (compareOp .GtE) (rGeP X.K) := by
  intro pins s σ H x y v u Q I rx ry ⟨d, e, hd, he, al, nn, dd, q⟩
  obtain ⟨as, r1⟩ := Dp.reads I d x v hd rx
  obtain ⟨bs, r2⟩ := Dp.reads I e y u he ry
  exact PySem.W.ge_data r1 r2 al nn (room_min hu dd) ⟨.bl _, H, I, rfl, q⟩
/-- x in a list or a tuple of data; c in a text -/
def rInP (K : PySem.W.Frag) : R2 := fun x y H Q => ∃ d xs, Dp K H x d ∧ (Dp K H y (.list xs) ∨ Dp K H y (.tuple xs)) ∧ d.plain = true ∧ PyData.plainAll xs = true ∧ d.depth ≤ 60 ∧ Q (.bl (xs.any fun z => PyData.eqv z d)) H
def rNiP (K : PySem.W.Frag) : R2 := fun x y H Q => ∃ d xs, Dp K H x d ∧ (Dp K H y (.list xs) ∨ Dp K H y (.tuple xs)) ∧ d.plain = true ∧ PyData.plainAll xs = true ∧ d.depth ≤ 60 ∧ Q (.bl (!xs.any fun z => PyData.eqv z d)) H
end
end L2
namespace DL
open PySem L2 StX
section
variable {K : PySem.W.Frag} [Tb K] {Z : ZX} {u u' : Wd} {P : D → Prop} {a b : D} {d e : PyData} {xs : List PyData} {ys : List D}
theorem eqP (h1 : pd a = some d) (h2 : pd b = some e) (p1 : d.plain = true) (p2 : e.plain = true) (hd : d.depth ≤ 64) (h : P (.bl (PyData.eqv d e))) : Op K (rEqP K) a b P := fun u v w Q ex _ d1 d2 k =>
  ⟨d, e, den_dp ex d1 h1, den_dp ex d2 h2, p1, p2, hd, k _ _ u (.refl ex) (.bl _) h⟩
theorem neP (h1 : pd a = some d) (h2 : pd b = some e) (p1 : d.plain = true) (p2 : e.plain = true) (hd : d.depth ≤ 64) (h : P (.bl (!PyData.eqv d e))) : Op K (rNeP K) a b P := fun u v w Q ex _ d1 d2 k =>
  ⟨d, e, den_dp ex d1 h1, den_dp ex d2 h2, p1, p2, hd, k _ _ u (.refl ex) (.bl _) h⟩
theorem gtP (h1 : pd a = some d) (h2 : pd b = some e) (p1 : PySem.W.alike d e = true) (p2 : d ≠ .none) (hd : d.depth ≤ 64) (h : P (.bl (PySem.W.dataLt e d))) : Op K (rGtP K) a b P := fun u v w Q ex _ d1 d2 k =>
  ⟨d, e, den_dp ex d1 h1, den_dp ex d2 h2, p1, p2, hd, k _ _ u (.refl ex) (.bl _) h⟩
theorem leP (h1 : pd a = some d) (h2 : pd b = some e) (p1 : PySem.W.alike d e = true) (p2 : d ≠ .none) (hd : d.depth ≤ 64) (h : P (.bl (!PySem.W.dataLt e d))) : Op K (rLeP K) a b P := fun u v w Q ex _ d1 d2 k =>
  ⟨d, e, den_dp ex d1 h1, den_dp ex d2 h2, p1, p2, hd, k _ _ u (.refl ex) (.bl _) h⟩
theorem geP (h1 : pd a = some d) (h2 : pd b = some e) (p1 : PySem.W.alike d e = true) (p2 : d ≠ .none) (hd : d.depth ≤ 64) (h : P (.bl (!PySem.W.dataLt d e))) : Op K (rGeP K) a b P := fun u v w Q ex _ d1 d2 k =>
  ⟨d, e, den_dp ex d1 h1, den_dp ex d2 h2, p1, p2, hd, k _ _ u (.refl ex) (.bl _) h⟩
end
end DL
namespace L2
open PySem PySem.Spec PyProof.Rows
section
variable {X : Cx}
def rSlU (K : PySem.W.Frag) : V → Option Int → Option Int → Hp → VK → Prop := fun x lo hi H Q => rSlS x lo hi H Q ∨ (rSlL K x lo hi H Q ∨ rSlA K x lo hi H Q)
theorem sl_U : SlR X (rSlU X.K) := sl_str.or (sl_list.or sl_tupA)
/-- min, max of a list of data -/
def rMinP (K : PySem.W.Frag) : List V → Hp → VK → Prop := fun xs H Q => ∃ p vs d ds, xs = [.ref p] ∧ SqL K H p vs ∧ DpAll K H vs (d :: ds) ∧ PySem.W.AlikeAll (d :: ds) ∧ PyData.depthAll (d :: ds) ≤ 60 ∧ ∀ (i : Nat) v, vs[i]? = some v → Dp K H v (PySem.W.minD d ds) → Q v H
def rMaxP (K : PySem.W.Frag) : List V → Hp → VK → Prop := fun xs H Q => ∃ p vs d ds, xs = [.ref p] ∧ SqL K H p vs ∧ DpAll K H vs (d :: ds) ∧ PySem.W.AlikeAll (d :: ds) ∧ PyData.depthAll (d :: ds) ≤ 60 ∧ ∀ (i : Nat) v, vs[i]? = some v → Dp K H v (PySem.W.maxD d ds) → Q v H
end
end L2
namespace DL
open PySem L2 StX
section
variable {K : PySem.W.Frag} [Tb K] {Z : ZX} {u u' : Wd} {σ : L2.St} {ds : DS} {P : D → Prop} {te ta tb tc : TE} {tt tu : TT} {i j : Int} {x y : Str} {xs ys : List D} {C : Addr} {a b : D} {p q : Bool}
/-! ### subscripts -/
theorem atI_of {α : Type} {xs : List α} {i : Int} {n : Nat} (h : (0 ≤ i ∧ i.toNat = n ∨ i < 0 ∧ (i + xs.length).toNat = n ∧ -(xs.length : Int) ≤ i)) (hn : n < xs.length) : atI xs i = xs[n]? := by
  unfold atI ixN
  rcases h with ⟨h1, h2⟩ | ⟨h1, h2, h3⟩
  · rw [if_pos h1, if_pos (by omega)]; simp [h2]
  · rw [if_neg (by omega), if_pos h3]; simp [h2]
theorem ix_lst {n : Nat} {d : D} (h0 : 0 ≤ i) (hn : xs[i.toNat]? = some d) (h : P d) : Op K (rIx K) (.lst xs) (.int i) P := fun u v w Q e _ d1 d2 k => by
  obtain ⟨a, vs, rfl, q, r⟩ := den_lst d1
  cases den_int d2
  obtain ⟨z, hz, hd⟩ := r.getD hn
  refine .inl ⟨a, vs, i, z, rfl, rfl, Evl.ex_l e q, ?_, k _ _ u (.refl e) hd h⟩
  rw [atI_of (.inl ⟨h0, rfl⟩) (List.getElem?_eq_some_iff.mp hz).1, hz]
theorem ix_str {c : Nat} (hz : x.length ≤ 1000000) (h0 : 0 ≤ i) (hn : x.cps.toList[i.toNat]? = some c) (h : P (.str ⟨#[c]⟩)) : Op K (rIx K) (.str x) (.int i) P := fun u v w Q e _ d1 d2 k => by
  cases den_str d1
  cases den_int d2
  refine .inr (.inr ⟨x, i, c, rfl, rfl, sz100 hz, ?_, k _ _ u (.refl e) (.str _) h⟩)
  rw [atI_of (.inl ⟨h0, rfl⟩) (List.getElem?_eq_some_iff.mp hn).1, hn]
/-! ### slices -/
def cutD (xs : List D) (lo hi : Option Int) : List D := (xs.drop (HT.sIx xs.length 0 lo)).take (HT.sIx xs.length xs.length hi - HT.sIx xs.length 0 lo)
theorem Dens.cut {vs : List V} (r : Dens K u vs xs) (lo hi : Option Int) : Dens K u (cutV vs lo hi) (cutD xs lo hi) := by
  unfold cutV cutD
  rw [r.len]
  exact (r.drop _).take _
theorem sl_lst {lo hi : Option Int} (h : P (.lst (cutD xs lo hi))) : Sl K (rSlU K) (.lst xs) lo hi P := fun u v Q e d1 k => by
  obtain ⟨a, vs, rfl, q, r⟩ := den_lst d1
  exact .inr (.inl ⟨a, vs, rfl, Evl.ex_l e q, fun p hp => k _ _ (u.put p _) (.put e hp) (.lst (SqL.of upd_same) ((r.cut lo hi).mono (Gs.put e hp).ls)) h⟩)
theorem sl_str {lo hi : Option Int} (hz : x.length ≤ 1000000) (h : P (.str (cutS x lo hi))) : Sl K (rSlU K) (.str x) lo hi P := fun u v Q e d1 k => by
  cases den_str d1
  exact .inl ⟨x, rfl, sz100 hz, k _ _ u (.refl e) (.str _) h⟩
/-! ### built-ins -/
abbrev rLen' (K : PySem.W.Frag) [Tb K] : List V → Hp → VK → Prop := fun xs H Q => ∃ x n, xs = [x] ∧ LenV K x H n ∧ Q (.int n) H
theorem len_lst (h : P (.int xs.length)) : Cb K (rLen' K) [.lst xs] P := fun u vs Q e r k => by
  obtain ⟨v, rfl, r1⟩ := dens1 r
  obtain ⟨a, ws, rfl, q, r2⟩ := den_lst r1
  exact ⟨_, ws.length, rfl, .inl ⟨ws, Evl.ex_l e q, rfl⟩, by rw [r2.len]; exact k _ _ u (.refl e) (.int _) h⟩
theorem len_str (hz : x.length ≤ 1000000) (h : P (.int x.length)) : Cb K (rLen' K) [.str x] P := fun u vs Q e r k => by
  obtain ⟨v, rfl, r1⟩ := dens1 r
  cases den_str r1
  exact ⟨_, x.length, rfl, ⟨sz100 hz, rfl⟩, k _ _ u (.refl e) (.int _) h⟩
abbrev rInt1 : List V → Hp → VK → Prop := fun xs H Q => (∃ i, xs = [.int i] ∧ Q (.int i) H) ∨ ∃ k, xs = [.bl k] ∧ Q (.int (if k then 1 else 0)) H
theorem int_int (h : P (.int i)) : Cb K rInt1 [.int i] P := fun u vs Q e r k => by
  obtain ⟨v, rfl, r1⟩ := dens1 r
  cases den_int r1
  exact .inl ⟨i, rfl, k _ _ u (.refl e) (.int _) h⟩
abbrev rMin2 : List V → Hp → VK → Prop := fun xs H Q => ∃ i j, xs = [.int i, .int j] ∧ Q (.int (if j < i then j else i)) H
abbrev rMax2 : List V → Hp → VK → Prop := fun xs H Q => ∃ i j, xs = [.int i, .int j] ∧ Q (.int (if j > i then j else i)) H
theorem min_int (h : P (.int (if j < i then j else i))) : Cb K rMin2 [.int i, .int j] P := fun u vs Q e r k => by
  obtain ⟨v, w, rfl, r1, r2⟩ := dens2 r
  cases den_int r1
  cases den_int r2
  exact ⟨i, j, rfl, k _ _ u (.refl e) (.int _) h⟩
theorem dens_ints {vs : List V} {ns : List Int} (r : Dens K u vs (ns.map D.int)) : vs = ns.map V.int := by
  induction ns generalizing vs with
  | nil => exact dens0 r
  | cons n ns ih =>
    cases r with
    | cons a b => rw [den_int a, ih b]; rfl
theorem dens_strs {vs : List V} {ns : List Str} (r : Dens K u vs (ns.map D.str)) : vs = ns.map V.str := by
  induction ns generalizing vs with
  | nil => exact dens0 r
  | cons n ns ih =>
    cases r with
    | cons a b => rw [den_str a, ih b]; rfl
theorem ints_dens (ns : List Int) : Dens K u (ns.map V.int) (ns.map D.int) := by
  induction ns with
  | nil => exact .nil
  | cons n ns ih => exact .cons (.int n) ih
abbrev rTupOf (K : PySem.W.Frag) [Tb K] : List V → Hp → VK → Prop := fun xs H Q => ∃ p ys, xs = [.ref p] ∧ ((SqL K H p ys ∧ ∀ l, H l = none → Q (.ref l) (upd H l (.tup ys))) ∨ (SqT K H p ys ∧ Q (.ref p) H))
abbrev rLstOf (K : PySem.W.Frag) [Tb K] : List V → Hp → VK → Prop := fun xs H Q => ∃ p ys, xs = [.ref p] ∧ (SqL K H p ys ∨ SqT K H p ys) ∧ ∀ l, H l = none → Q (.ref l) (upd H l (.lst ys))
theorem list_lst (h : P (.lst xs)) : Cb K (rLstOf K) [.lst xs] P := fun u vs Q e r k => by
  obtain ⟨v, rfl, r1⟩ := dens1 r
  obtain ⟨a, ws, rfl, q, r2⟩ := den_lst r1
  exact ⟨a, ws, rfl, .inl (Evl.ex_l e q), fun p hp => k _ _ (u.put p _) (.put e hp) (.lst (SqL.of upd_same) (r2.mono (Gs.put e hp).ls)) h⟩
/-! ### isinstance -/
def tyD : D → Option String
  | .non => some "NoneType"
  | .bl _ => some "bool"
  | .int _ => some "int"
  | .str _ => some "str"
  | .lst _ => some "list"
  | .tup _ => some "tuple"
  | .dct _ => some "dict"
  | .fdc _ => some "dict"
  | _ => none
theorem den_ty {v : V} {d : D} {T : String} (h : Den K u v d) (ht : tyD d = some T) : TyX K u.H0 v (.type T) := by
  cases h with
  | non => cases ht; exact .base .non
  | bl => cases ht; exact .base (.bl _)
  | int => cases ht; exact .base (.int _)
  | str => cases ht; exact .base (.str _)
  | lst q r =>
    cases ht
    rcases q with (q | ⟨o, q⟩) | ⟨o, its, n, hk, hc, _⟩
    · exact .base (.lst q)
    · exact .base (.frz q)
    · exact .kList hk hc
  | tup q r =>
    cases ht
    rcases q with (q | ⟨o, q⟩) | ⟨o, its, n, hk, hc, _⟩
    · exact .base (.tup q)
    · exact .fTuple q
    · exact .kTuple hk hc
  | dct q r =>
    cases ht
    rcases q with q | ⟨o, q⟩
    · exact .base (.dK q)
    · exact .fDict q
  | fdc q r => cases ht; exact .fDict q
  | _ => cases ht
theorem isi_ty {T T' : String} {r : Bool} (ht : tyD a = some T) (hk : kitB T T' = some r) (h : P (.bl r)) : Cb K (rIsi K) [a, .ty T'] P := fun u vs Q e rs k => by
  obtain ⟨v, w, rfl, r1, r2⟩ := dens2 rs
  cases r2
  exact ⟨v, .ty T', .type T, .type T', r, rfl, .ty _, den_ty (u := ⟨u.S, u.T, u.n, u.H1, u.H1⟩) (Den.mono (show Le u ⟨u.S, u.T, u.n, u.H1, u.H1⟩ from ⟨fun _ h => h, fun _ _ => rfl, e⟩) r1) ht, kit_ty hk, k _ _ u (.refl e) (.bl _) h⟩
/-! ### truth -/
def truD : D → Option Bool
  | .non => some false
  | .bl b => some b
  | .int i => some (i != 0)
  | .lst xs => some (!xs.isEmpty)
  | .tup xs => some (!xs.isEmpty)
  | _ => none
theorem isEmpty_den {vs : List V} (r : Dens K u vs xs) : vs.isEmpty = xs.isEmpty := by cases r <;> rfl
theorem den_tru {v : V} {d : D} {b : Bool} (h : Den K u v d) (ht : truD d = some b) : TruV K v u.H0 b := by
  cases h with
  | non => cases ht; rfl
  | bl => cases ht; rfl
  | int => cases ht; rfl
  | lst q r => cases ht; exact .inl ⟨_, q, by rw [isEmpty_den r]⟩
  | tup q r => cases ht; exact .inr (.inl ⟨_, q, by rw [isEmpty_den r]⟩)
  | _ => cases ht
theorem den_truE {H : Hp} {v : V} {d : D} {b : Bool} (x : Ex u.H0 H) (h : Den K u v d) (ht : truD d = some b) : TruV K v H b := den_tru (u := ⟨u.S, u.T, u.n, H, H⟩) (Den.mono (show Le u ⟨u.S, u.T, u.n, H, H⟩ from ⟨fun _ h => h, fun _ _ => rfl, x⟩) h) ht
theorem wt_tru {ds : DS} {n : Nat} {P : Bool → Nat → Prop} (h : We K Z ta ds n fun d m => ∃ k, truD d = some k ∧ P k m) : Wt K Z (L2.tTru K ta) ds n P := fun b u σ Q e S k =>
  h b u σ _ e S fun v d u1 g1 s1 r ⟨c, ht, q⟩ => ⟨c, den_truE g1.c r ht, k _ u1 g1 s1 q⟩
/-! ### methods of texts -/
/-- s.m(e), s a text -/
def Mt (K : PySem.W.Frag) [Tb K] (r : V → List V → Hp → VK → Prop) (a : Str) (y : D) (P : D → Prop) : Prop :=
  ∀ (u : Wd) (w : V) (Q : VK), Ex u.H0 u.H1 → Den K u w y → (∀ z d u', Gp K u u' → Den K u' z d → P d → Q z u'.H1) → r (.str a) [w] u.H1 Q
theorem we_m1 {ds : DS} {n : Nat} {P : D → Nat → Prop} {r : V → List V → Hp → VK → Prop} (h : We K Z ta ds n fun d m => ∃ a, d = .str a ∧ We K Z tb ds m fun y k => Mt K r a y fun z => P z k) : We K Z (tM1 r ta tb) ds n P := fun b u σ Q e S k =>
  h b u σ _ e S fun v d u1 g1 s1 rr ⟨a, z, q⟩ => by
    subst z
    cases den_str rr
    exact ⟨⟨a, rfl⟩, q b u1 σ _ rfl (S.go g1 s1) fun w y u2 g2 s2 r2 hm => hm u2 w Q g2.c r2 fun t d u3 g3 r p => k t d u3 ((g1.trans g2).trans g3.g) (g3.st s2) r (g3.n ▸ p)⟩
theorem mt_joinD {zs : List Str} (h1 : (zs.map (·.length)).sum + zs.length * x.length ≤ 1000000) (h : P (.str (Txt.join x zs))) :
    Mt K (fun x xs H Q => ∃ a p, ∃ ys : List Str, x = .str a ∧ xs = [.ref p] ∧ (SqL K H p (ys.map V.str) ∨ SqT K H p (ys.map V.str)) ∧ (ys.map (·.length)).sum + ys.length * a.length ≤ 16777216 ∧ Q (.str (Txt.join a ys)) H) x (.lst (zs.map D.str)) P := fun u w Q e d1 k => by
  obtain ⟨a, ws, rfl, q, r2⟩ := den_lst d1
  have ew := dens_strs r2
  subst ew
  exact ⟨x, a, zs, rfl, rfl, .inl (Evl.ex_l e q), Nat.le_trans h1 (by decide), k _ _ u (.refl e) (.str _) h⟩
end
end DL
namespace L2
open PySem PySem.Spec PyProof.Rows StX
section
variable {X : Cx}
def rMinQ (K : PySem.W.Frag) : List V → Hp → VK → Prop := fun xs H Q => ∃ p vs d ds, xs = [.ref p] ∧ SqL K H p vs ∧ DpAll K H vs (d :: ds) ∧ PySem.W.AlikeAll (d :: ds) ∧ PyData.plainAll (d :: ds) = true ∧ PyData.depthAll (d :: ds) ≤ 60 ∧ ∀ (i : Nat) v, vs[i]? = some v → (d :: ds)[i]? = some (PySem.W.minD d ds) → Q v H
def rMaxQ (K : PySem.W.Frag) : List V → Hp → VK → Prop := fun xs H Q => ∃ p vs d ds, xs = [.ref p] ∧ SqL K H p vs ∧ DpAll K H vs (d :: ds) ∧ PySem.W.AlikeAll (d :: ds) ∧ PyData.plainAll (d :: ds) = true ∧ PyData.depthAll (d :: ds) ≤ 60 ∧ ∀ (i : Nat) v, vs[i]? = some v → (d :: ds)[i]? = some (PySem.W.maxD d ds) → Q v H
/-- x(e, ..), x an instance -/
def tCallO' (C : Addr) (sp : Sp) (E : XK) (tf : TE) (t : TA) : TE := fun σ H Q => tf σ H fun y H1 => ∃ a, y = V.ref a ∧ t σ H1 fun vs H2 => (∃ dx fs, H2 a = some (.ins C dx fs)) ∧ sp (V.ref a :: vs) H2 Q E
variable {CX : CXT} {k : Nat} {C : Addr} {sp : Sp} {E : XK} {e fe : Expr} {es : List Expr} {tf : TE} {t : TA} {pos : Pos} {g : Addr}
theorem pe_callO' (hf : PE X fe tf) (c : CallO X.K C g) (F : FnR X.prog X.w X.K X.mg X.base CX k g sp) (hr : Room k X.A) (hx : Passes CX X E) (ha : PA X (e :: es) t)
    (ht : eval (.Call fe (e :: es) [] pos) X.env = (do callWith pos (← eval fe X.env) [] (backTo pos (starEach (e :: es) X.env)) (backToKw pos (keywordEach [] X.env))) := by rfl)
    (he : starEach (e :: es) X.env = (false, eval e X.env) :: starEach es X.env := by rfl) (hpl : (backTo pos (starEach es X.env)).any (·.1) = false := by rfl) : PE X (.Call fe (e :: es) [] pos) (tCallO' C sp E tf t) := by
  refine ⟨fun pins s σ H Q I h => ?_⟩
  refine Call_ (thn (hf.run pins s σ H _ I h) fun u s1 ⟨y, H1, I1, ry, a, ey, q⟩ => ?_) ht
  subst ey
  obtain rfl : u = Value.ref a := ry
  refine callO_with (thn (ha.run pos pins s1 σ H1 _ I1 q) fun us s2 ⟨vs, H2, I2, r, hi, q2⟩ => ?_) he hpl
  obtain ⟨ox, od, J, hd⟩ := insC_at I2 (.inr hi)
  exact ⟨⟨C, ox, od, J, hd⟩, run_callO c F hr hx I2 (.inr hi) r q2⟩
theorem FnOk.raw0 {P : Program} {w : World} {K : PySem.W.Frag} {mg : Str → Option Value} {base : Heap} {f : Addr} {fd : FuncData} {ps : List Str} (F : FnOk P w K mg base CX k f fd ps sp) (hb : Binds K fd ps []) : FnR P w K mg base CX k f sp :=
  (F.raw hb .nil).imp fun vs H Q E h => by rw [List.append_nil]; exact h
end
abbrev rCount : V → List V → Hp → VK → Prop := fun x xs H Q => ∃ a b, x = .str a ∧ xs = [.str b] ∧ Q (.int (Txt.count a b)) H
abbrev rRfind : V → List V → Hp → VK → Prop := fun x xs H Q => ∃ a b, x = .str a ∧ xs = [.str b] ∧ Q (.int (Txt.rfind a b)) H
abbrev rSplit : V → List V → Hp → VK → Prop := fun x xs H Q => ∃ a b, x = .str a ∧ xs = [.str b] ∧ (b.length == 0) = false ∧ a.length + 2 ≤ sizeLine ∧ rNewStrs (Txt.split a b) H Q
abbrev rJoin (K : PySem.W.Frag) : V → List V → Hp → VK → Prop := fun x xs H Q => ∃ a p, ∃ ys : List Str, x = .str a ∧ xs = [.ref p] ∧ (SqL K H p (ys.map V.str) ∨ SqT K H p (ys.map V.str)) ∧ (ys.map (·.length)).sum + ys.length * a.length ≤ 16777216 ∧ Q (.str (Txt.join a ys)) H
abbrev rOrd' : List V → Hp → VK → Prop := fun xs H Q => ∃ x, xs = [.str x] ∧ x.length = 1 ∧ Q (.int (x.cps.getD 0 0 : Nat)) H
end L2
namespace DL
open PySem L2 StX
section
variable {K : PySem.W.Frag} [Tb K] {Z : ZX} {u u' : Wd} {σ : L2.St} {ds : DS} {P : D → Prop} {te ta tb tc : TE} {tt tu : TT} {C : Addr} {E : XK} {R : Rl} {N : Nd}
/-- x(..) of an instance -/
theorem we_callO' {ds : DS} {n : Nat} {P : D → Nat → Prop} {t : TA} (h : We K Z ta ds n fun o m => ∃ fs, o = .obj C fs ∧ Wa K Z t ds m fun xs k => R (o :: xs) k P noX) : We K Z (tCallO' C (spD K R) E ta t) ds n P := fun b u σ Q e S k =>
  h b u σ _ e S fun v o u1 g1 s1 r ⟨fs, z, q⟩ => by
    subst z
    obtain ⟨a, dx, fv, rfl, ha, hf⟩ := den_obj r
    refine ⟨a, rfl, q b u1 σ _ rfl (S.go g1 s1) fun vs xs u2 g2 s2 r2 p2 => ⟨⟨dx, fv, g2.c _ _ (g2.a _ _ ha)⟩, ?_⟩⟩
    exact ⟨u2, _ :: xs, P, noX, rfl, g2.c, s2, .cons (r.mono g2.ls) r2, p2, fun v d u3 g3 s3 r' p' => k v d u3 ((g1.trans g2).trans g3) s3 r' p', xok_no⟩
end
end DL

namespace DL
open PySem L2 StX
section
variable {K : PySem.W.Frag} [Tb K] {Z : ZX} {b u u' u'' : Wd} {σ : L2.St} {ds : DS} {n : Nat} {P : D → Nat → Prop} {te ta tb tc : TE} {tt tu : TT} {N : Nd} {ts t1 t2 : TS} {g : TG} {De : Ends}
/-! ### streams -/
theorem strm_at {i : Nat} {a : Addr} {k : SK} (S : Sd K Z b u σ ds) (hd : ds[i]? = some (some (.strm a k))) : σ[i]? = some (some (.ref a)) ∧ u.S a ∧ u.T a = k ∧ u.H0 a = none ∧ ∃ o, u.H1 a = some o ∧ SO K u k o := by
  obtain ⟨v, hv, hS⟩ := S.sl i _ hd
  obtain ⟨rfl, hs, ht⟩ := den_strm (hS.imm rfl)
  obtain ⟨h0, o, h1, q⟩ := S.st a hs
  rw [ht] at q
  exact ⟨hv, hs, ht, h0, o, h1, q⟩
theorem gs_strm {a : Addr} {o : HO} {k : Nat} (e : Ex u.H0 u.H1) (s : StOk K u) (hs : u.S a) (hk : u.n ≤ k) (ho : SO K ⟨u.S, u.T, k, u.H0, upd u.H1 a o⟩ (u.T a) o) : Gs u ⟨u.S, u.T, k, u.H0, upd u.H1 a o⟩ ∧ StOk K ⟨u.S, u.T, k, u.H0, upd u.H1 a o⟩ := by
  obtain ⟨a0, o1, a1, _⟩ := s a hs
  refine ⟨⟨.refl _, fun x w ns hx => ?_, fun x hx => ?_, fun x w hx => ?_, fun x h h' => absurd h h', fun _ h => h, fun _ _ => rfl, fun _ h => .inl h, hk⟩, ⟨fun x hx => ?_, s.tb, s.on⟩⟩
  · exact (upd_ne (fun q : x = a => ns (by rw [q]; exact hs))).trans hx
  · show upd u.H1 a o x ≠ none
    by_cases q : x = a
    · rw [q, upd_same]; simp
    · rw [upd_ne q]; exact hx
  · exact (upd_ne (fun q => by rw [q, a0] at hx; cases hx)).trans (e x w hx)
  · obtain ⟨x0, w, x1, xs⟩ := s x hx
    by_cases q : x = a
    · subst q
      exact ⟨x0, o, upd_same, ho⟩
    · exact ⟨x0, w, (upd_ne q).trans x1, xs.mono ⟨fun _ h => h, fun _ _ => rfl, .refl _⟩ hk⟩
end
/-! ### comparisons of known forms -/
section
variable {K : PySem.W.Frag} [Tb K] {Z : ZX} {P : D → Prop} {i j k l : Int} {p q : Bool} {x y : Str}
theorem b_eq {α : Type} [DecidableEq α] (a b : α) : (a == b) = decide (a = b) := by
  by_cases h : a = b
  · subst h; simp
  · simp [h]
theorem eq_int (h : P (.bl (decide (i = j)))) : Op K (rEqP K) (.int i) (.int j) P := eqP (d := .int i) (e := .int j) rfl rfl rfl rfl (by simp [PyData.depth, PyData.depthAll]) (by simpa [PyData.eqv, b_eq] using h)
theorem ne_int (h : P (.bl (!decide (i = j)))) : Op K (rNeP K) (.int i) (.int j) P := neP (d := .int i) (e := .int j) rfl rfl rfl rfl (by simp [PyData.depth, PyData.depthAll]) (by simpa [PyData.eqv, b_eq] using h)
theorem eq_str (h : P (.bl (decide (x = y)))) : Op K (rEqP K) (.str x) (.str y) P := eqP (d := .str x) (e := .str y) rfl rfl rfl rfl (by simp [PyData.depth, PyData.depthAll]) (by simpa [PyData.eqv, b_eq] using h)
theorem ne_str (h : P (.bl (!decide (x = y)))) : Op K (rNeP K) (.str x) (.str y) P := neP (d := .str x) (e := .str y) rfl rfl rfl rfl (by simp [PyData.depth, PyData.depthAll]) (by simpa [PyData.eqv, b_eq] using h)
abbrev pos (a b : Int) : D := .tup [.int a, .int b]
abbrev ppos (a b : Int) : PyData := .tuple [.int a, .int b]
theorem gt_int (h : P (.bl (decide (j < i)))) : Op K (rGtP K) (.int i) (.int j) P := gtP (d := .int i) (e := .int j) rfl rfl rfl (fun z => by cases z) (by simp [PyData.depth, PyData.depthAll]) (by rw [PySem.W.dataLt_int]; exact h)
theorem le_int (h : P (.bl (decide (i ≤ j)))) : Op K (rLeP K) (.int i) (.int j) P := leP (d := .int i) (e := .int j) rfl rfl rfl (fun z => by cases z) (by simp [PyData.depth, PyData.depthAll]) (by
  rw [PySem.W.dataLt_int]
  have e : (!decide (j < i)) = decide (i ≤ j) := by by_cases q : i ≤ j <;> simp [q] <;> omega
  rw [e]; exact h)
theorem ge_int (h : P (.bl (decide (j ≤ i)))) : Op K (rGeP K) (.int i) (.int j) P := geP (d := .int i) (e := .int j) rfl rfl rfl (fun z => by cases z) (by simp [PyData.depth, PyData.depthAll]) (by
  rw [PySem.W.dataLt_int]
  have e : (!decide (i < j)) = decide (j ≤ i) := by by_cases q : j ≤ i <;> simp [q] <;> omega
  rw [e]; exact h)
/-- positions in order -/
abbrev plt (i j k l : Int) : Prop := i < k ∨ i = k ∧ j < l
theorem isiI {T' : String} {r : Bool} (hk : kitB "int" T' = some r) (h : P (.bl r)) : Cb K (rIsi K) [.int i, .ty T'] P := isi_ty (a := .int i) rfl hk h
theorem isiS {T' : String} {r : Bool} (hk : kitB "str" T' = some r) (h : P (.bl r)) : Cb K (rIsi K) [.str x, .ty T'] P := isi_ty (a := .str x) rfl hk h
theorem iteD {c A B : Prop} [Decidable c] (h1 : c → A) (h2 : ¬ c → B) : if decide c = true then A else B := by
  by_cases h : c
  · rw [if_pos (decide_eq_true h)]; exact h1 h
  · rw [if_neg (by simp [h])]; exact h2 h
theorem iteND {c A B : Prop} [Decidable c] (h1 : ¬ c → A) (h2 : c → B) : if (!decide c) = true then A else B := by
  by_cases h : c
  · rw [if_neg (by simp [h])]; exact h2 h
  · rw [if_pos (by simp [h])]; exact h1 h
theorem iteNT {A B : Prop} (h : B) : if (!true) = true then A else B := by simpa using h
theorem iteNF {A B : Prop} (h : A) : if (!false) = true then A else B := by simpa using h
end
end DL

namespace DL
open PySem L2 StX
section
variable {K : PySem.W.Frag} [Tb K] {Z : ZX} {b u u' u'' : Wd} {σ : L2.St} {ds : DS} {n : Nat} {P : D → Nat → Prop} {te ta tb tc : TE} {tt tu : TT} {N : Nd} {ts t1 t2 : TS} {g : TG} {De : Ends}
/-- an object that nothing tells of -/
theorem Gs.junk (e : Ex u.H0 u.H1) {p : Addr} {o : HO} (hp : u.H1 p = none) : Gs u ⟨u.S, u.T, u.n, u.H0, upd u.H1 p o⟩ :=
  ⟨.refl _, fun x w _ hx => ex_new hp x w hx, fun x hx => by
      show upd u.H1 p o x ≠ none
      by_cases q : x = p
      · subst q; rw [upd_same]; simp
      · rw [upd_ne q]; exact hx, e.trans (ex_new hp), fun _ a b => absurd a b, fun _ h => h, fun _ _ => rfl, fun _ h => .inl h, Nat.le_refl _⟩
theorem StOk.not (s : StOk K u) {p : Addr} (hp : u.H1 p = none) : ¬ u.S p := fun h => by
  obtain ⟨_, o, h1, _⟩ := s p h
  rw [hp] at h1; cases h1
end
end DL

namespace DL
open PySem L2 StX
section
variable {K : PySem.W.Frag} [Tb K] {Z : ZX} {b u u' u'' : Wd} {σ : L2.St} {ds : DS} {n : Nat} {P : D → Nat → Prop} {te ta tb tc tv : TE} {N : Nd} {De : Ends}
/-! ### three keys -/
theorem get1 {k1 k2 k3 : Key} {x y z : V} : valV [(k1, x), (k2, y), (k3, z)] k1 = some x := valV_pos rfl
theorem get2 {k1 k2 k3 : Key} {x y z : V} (h : ¬ k1 = k2) : valV [(k1, x), (k2, y), (k3, z)] k2 = some y := (valV_neg h).trans (valV_pos rfl)
theorem get3 {k1 k2 k3 : Key} {x y z : V} (h : ¬ k1 = k3) (h' : ¬ k2 = k3) : valV [(k1, x), (k2, y), (k3, z)] k3 = some z := (valV_neg h).trans ((valV_neg h').trans (valV_pos rfl))
theorem put2 {k1 k2 k3 : Key} {x y z v : V} (h : ¬ k1 = k2) (h' : ¬ k3 = k2) : putK [(k1, x), (k2, y), (k3, z)] k2 v = [(k1, x), (k2, v), (k3, z)] := by
  simp [putK, h, h']
theorem put3 {k1 k2 k3 : Key} {x y z v : V} (h : ¬ k1 = k3) (h' : ¬ k2 = k3) : putK [(k1, x), (k2, y), (k3, z)] k3 v = [(k1, x), (k2, y), (k3, v)] := by
  simp [putK, h, h']
theorem merge3 {k1 k2 k3 : Key} {x y z : V} (h1 : ¬ k1 = k2) (h2 : ¬ k1 = k3) (h3 : ¬ k2 = k3) : mergeK [] [(k1, x), (k2, y), (k3, z)] = [(k1, x), (k2, y), (k3, z)] := by
  show putK (putK (putK [] k1 x) k2 y) k3 z = _
  rw [putK_new x valV_nil, putK_new (kvs := [] ++ [(k1, x)]) y ((valV_neg h1).trans valV_nil), putK_new (kvs := [] ++ [(k1, x)] ++ [(k2, y)]) z ((valV_neg h2).trans ((valV_neg h3).trans valV_nil))]
  rfl
theorem kca : ¬ ky "cells" = ky "at" := by decide +kernel
theorem kcl : ¬ ky "cells" = ky "left" := by decide +kernel
theorem kal : ¬ ky "at" = ky "left" := by decide +kernel
theorem kla : ¬ ky "left" = ky "at" := by decide +kernel
/-! ### the dict with cells -/
theorem we_cAt {i : Nat} {a : Addr} (hd : ds[i]? = some (some (.strm a .cells))) (h : ∀ c : Int, 0 ≤ c → c ≤ n → P (.int c) n) : We K Z (tDGet (tVar i) (tC (.str (Str.ofString "at")))) ds n P := fun b u σ Q e S k => by
  subst e
  obtain ⟨hv, hs, ht, h0, o, h1, l, cs, c, x, rfl, q, z1, z2, z3, z4, z5⟩ := strm_at S hd
  have g := DGet.k (k := ky "at") h1
  rw [get2 kca] at g
  exact ⟨.ref a, hv, a, .int c, rfl, g, k _ _ u (.refl S.ex) S.st (.int c) (h c z3 z4)⟩
theorem we_cLeft {i : Nat} {a : Addr} (hd : ds[i]? = some (some (.strm a .cells))) (h : ∀ x : Int, 0 ≤ x → P (.int x) n) : We K Z (tDGet (tVar i) (tC (.str (Str.ofString "left")))) ds n P := fun b u σ Q e S k => by
  subst e
  obtain ⟨hv, hs, ht, h0, o, h1, l, cs, c, x, rfl, q, z1, z2, z3, z4, z5⟩ := strm_at S hd
  have g := DGet.k (k := ky "left") h1
  rw [get3 kcl kal] at g
  exact ⟨.ref a, hv, a, .int x, rfl, g, k _ _ u (.refl S.ex) S.st (.int x) (h x z5)⟩
theorem we_cCells {i : Nat} {a : Addr} (hd : ds[i]? = some (some (.strm a .cells))) (h : ∀ cs : List Int, cs ≠ [] → cs.length ≤ 1000 → P (.lst (cs.map .int)) n) : We K Z (tDGet (tVar i) (tC (.str (Str.ofString "cells")))) ds n P := fun b u σ Q e S k => by
  subst e
  obtain ⟨hv, hs, ht, h0, o, h1, l, cs, c, x, rfl, q, z1, z2, z3, z4, z5⟩ := strm_at S hd
  have g := DGet.k (k := ky "cells") h1
  rw [get1] at g
  exact ⟨.ref a, hv, a, .ref l, rfl, g, k _ _ u (.refl S.ex) S.st (.lst q (ints_dens cs)) (h cs z1 z2)⟩
theorem ws_cAt {i : Nat} {a : Addr} (hd : ds[i]? = some (some (.strm a .cells))) (h : We K Z tv ds n fun d m => ∃ x : Int, d = .int x ∧ 0 ≤ x ∧ x ≤ m + 1 ∧ N.nx ds (m + 1)) : Ws K Z (sDPut (tVar i) (tC (.str (Str.ofString "at"))) tv) ds n N := fun b u σ De e S O =>
  h b u σ _ e S fun v d u1 g1 s1 r ⟨x, z, x0, xn, p⟩ => by
    subst z
    cases den_int r
    have S1 := S.go g1 s1
    obtain ⟨hv, hs, ht, h0, o, h1, l, cs, c, y, rfl, q, z1, z2, z3, z4, z5⟩ := strm_at S1 hd
    obtain ⟨gg, ss⟩ := gs_strm (o := .dK [(ky "cells", .ref l), (ky "at", .int x), (ky "left", .int y)]) (k := u1.n + 1) g1.c s1 hs (by omega) (by rw [ht]; exact ⟨l, cs, x, y, rfl, q, z1, z2, x0, by show x ≤ ((u1.n + 1 : Nat) : Int); omega, z5⟩)
    have w := DPut.k (k := ky "at") (v := .int x) h1 (by show 3 < sizeLine; decide)
    rw [put2 kca kla] at w
    exact ⟨.ref a, hv, a, _, rfl, w, O.nx _ ⟨u1.S, u1.T, u1.n + 1, u1.H0, _⟩ _ (g1.trans gg).ls (S1.go gg ss) p⟩
theorem ws_cLeft {i : Nat} {a : Addr} (hd : ds[i]? = some (some (.strm a .cells))) (h : We K Z tv ds n fun d m => ∃ x : Int, d = .int x ∧ 0 ≤ x ∧ N.nx ds m) : Ws K Z (sDPut (tVar i) (tC (.str (Str.ofString "left"))) tv) ds n N := fun b u σ De e S O =>
  h b u σ _ e S fun v d u1 g1 s1 r ⟨x, z, x0, p⟩ => by
    subst z
    cases den_int r
    have S1 := S.go g1 s1
    obtain ⟨hv, hs, ht, h0, o, h1, l, cs, c, y, rfl, q, z1, z2, z3, z4, z5⟩ := strm_at S1 hd
    obtain ⟨gg, ss⟩ := gs_strm (o := .dK [(ky "cells", .ref l), (ky "at", .int c), (ky "left", .int x)]) (k := u1.n) g1.c s1 hs (Nat.le_refl _) (by rw [ht]; exact ⟨l, cs, c, x, rfl, q, z1, z2, z3, z4, x0⟩)
    have w := DPut.k (k := ky "left") (v := .int x) h1 (by show 3 < sizeLine; decide)
    rw [put3 kcl kal] at w
    exact ⟨.ref a, hv, a, _, rfl, w, O.nx _ ⟨u1.S, u1.T, u1.n, u1.H0, _⟩ _ (g1.trans gg).ls (S1.go gg ss) p⟩
/-- what was made apart becomes a stream -/
theorem Gs.toStrm {k : SK} {o : HO} {p : Addr} (g : Gs b u) (s : StOk K u) (hb : b.H1 p = none) (h0 : u.H0 p = none) (hS : ¬ u.S p) (ho : SO K u k o) (hkt : ∀ z, k ≠ .tbl z := by intro _ z; cases z) :
    Gs b ⟨fun a => u.S a ∨ a = p, fun a => if a = p then k else u.T a, u.n, u.H0, upd u.H1 p o⟩ ∧ StOk K ⟨fun a => u.S a ∨ a = p, fun a => if a = p then k else u.T a, u.n, u.H0, upd u.H1 p o⟩ := by
  have nq : ∀ a, u.S a → a ≠ p := fun a ha z => hS (z ▸ ha)
  have l : Le u ⟨fun a => u.S a ∨ a = p, fun a => if a = p then k else u.T a, u.n, u.H0, upd u.H1 p o⟩ := ⟨fun _ h => .inl h, fun a ha => if_neg (nq a ha), .refl _⟩
  have w := Gs.write (o := o) g hb h0
  refine ⟨⟨w.a, w.b, w.b', w.c, w.n, fun x h => .inl (g.sub x h), fun x h => (if_neg (nq x (g.sub x h))).trans (g.kd x h), fun x h => h.elim (g.new x) fun z => .inr (by rw [z]; exact hb), g.le⟩, ⟨?_, fun p hp => ⟨.inl (s.tb p hp).1, (if_neg (nq p.1 (s.tb p hp).1)).trans (s.tb p hp).2⟩, fun a z ha hz => ?_⟩⟩
  rotate_left
  · have hz' : (if a = p then k else u.T a) = .tbl z := hz
    by_cases h : a = p
    · rw [if_pos h] at hz'; exact absurd hz' (hkt z)
    · rw [if_neg h] at hz'; exact s.on a z (ha.resolve_right h) hz'
  rintro a (ha | rfl)
  · obtain ⟨a0, w, a1, as⟩ := s a ha
    refine ⟨a0, w, (upd_ne (nq a ha)).trans a1, ?_⟩
    show SO K _ (if a = p then k else u.T a) w
    rw [if_neg (nq a ha)]
    exact as.mono l (Nat.le_refl _)
  · refine ⟨h0, _, upd_same, ?_⟩
    show SO K _ (if a = a then k else u.T a) o
    rw [if_pos rfl]
    exact ho.mono l (Nat.le_refl _)
/-- {"cells": .., "at": .., "left": ..} -/
theorem we_cNew (h : We K Z ta ds n fun d1 m1 => We K Z tb ds m1 fun d2 m2 => We K Z tc ds m2 fun d3 m3 => ∃ (cs : List Int) (c x : Int), d1 = .lst (cs.map .int) ∧ d2 = .int c ∧ d3 = .int x ∧ cs ≠ [] ∧ cs.length ≤ 1000 ∧ 0 ≤ c ∧ c ≤ m3 ∧ 0 ≤ x ∧ ∀ p, P (.strm p .cells) m3) :
    We K Z (tDisp [(tC (.str (Str.ofString "cells")), ta), (tC (.str (Str.ofString "at")), tb), (tC (.str (Str.ofString "left")), tc)]) ds n P := fun b u σ Q e S k => fun p hp => by
  have n0 : u.H0 p = none := ex_none S.ex hp
  have G0 : Gs u _ := Gs.junk S.ex (o := .dK []) hp
  have S0 := S.go G0 (S.st.write (S.st.not hp))
  have nS : ¬ u.S p := S.st.not hp
  refine h b ⟨u.S, u.T, u.n, u.H0, upd u.H1 p (.dK [])⟩ σ _ e S0 fun v1 d1 u1 g1 s1 r1 h2 => h2 b u1 σ _ rfl (S0.go g1 s1) fun v2 d2 u2 g2 s2 r2 h3 => h3 b u2 σ _ rfl ((S0.go g1 s1).go g2 s2) fun v3 d3 u3 g3 s3 r3 ⟨cs, c, x, e1, e2, e3, z1, z2, z3, z4, z5, hP⟩ => ?_
  subst e1 e2 e3
  have gg := (g1.trans g2).trans g3
  have hp3 : u3.H1 p = some (.dK []) := gg.b p _ nS upd_same
  have h03 : u3.H0 p = none := gg.nn n0 upd_same
  have hS3 : ¬ u3.S p := gg.ns nS upd_same
  obtain ⟨l, vs, rfl, q, rr⟩ := den_lst (r1.mono (g2.trans g3).ls)
  have ev := dens_ints rr
  subst ev
  have ec := den_int r2
  subst ec
  have ex := den_int r3
  subst ex
  obtain ⟨g4, s4⟩ := Gs.toStrm (k := .cells) (o := .dK [(ky "cells", .ref l), (ky "at", .int c), (ky "left", .int x)]) (G0.trans gg) s3 hp h03 hS3 ⟨l, cs, c, x, rfl, q, z1, z2, z3, z4, z5⟩
  refine ⟨hp3, [(ky "cells", .ref l), (ky "at", .int c), (ky "left", .int x)], rfl, (by show 3 ≤ 15; decide), ?_⟩
  rw [merge3 kca kcl kal]
  exact k _ _ _ g4 s4 (.strm (.inr rfl) (if_pos rfl)) (hP p)
end
end DL

/-! Positions, lines and edits of texts, told of lists of signs. -/
namespace Mx
abbrev Pt := Int × Int
def step (p : Pt) (c : Nat) : Pt := if c = 10 then (p.1 + 1, 0) else (p.1, p.2 + 1)
def beh (p : Pt) (l : List Nat) : Pt := l.foldl step p
def addP (p q : Pt) : Pt := if q.1 = 0 then (p.1, p.2 + q.2) else (p.1 + q.1, q.2)
def nn (p : Pt) : Prop := 0 ≤ p.1 ∧ 0 ≤ p.2
theorem add_zero (p : Pt) : addP p (0, 0) = p := by simp [addP]
/-! order -/
def lt (p q : Pt) : Prop := p.1 < q.1 ∨ p.1 = q.1 ∧ p.2 < q.2
instance (p q : Pt) : Decidable (lt p q) := by unfold lt; exact inferInstance
def mv (p o w : Pt) : Pt := if p.1 = o.1 then (w.1, p.2 - o.2 + w.2) else (p.1 - o.1 + w.1, p.2)
/-! lines -/
def lns : List Nat → List (List Nat)
  | [] => [[]]
  | c :: r => if c = 10 then [] :: lns r else (c :: (lns r).headD []) :: (lns r).tail
/-- the place of a position -/
def sm (rows : List (List Nat)) : Int := (rows.map fun r => ((r.length : Nat) : Int) + 1).sum
end Mx

namespace DL
open PySem L2 StX
/-- an own exception's __init__ that stores its one argument in the field f -/
def spX1 (C : Addr) (f : Str) : Sp := fun vs H Q _ => ∃ a y, vs = [.ref a, y] ∧ H a = some (exo a C none) ∧ ∀ dx, H dx = none → dx ≠ a → Q .non (upd (upd H dx (exd dx [(f, y)])) a (exo a C (some dx)))
/-- raise C(..) -/
def tRaise (E : XK) (C : Addr) (sp : Sp) (ta : TA) : TS := fun _ σ H => tMkO C sp [] ta σ H E
section
variable {K : PySem.W.Frag} [Tb K] {Z : ZX} {b u u' u'' : Wd} {σ : L2.St} {ds : DS} {n : Nat} {P : D → Nat → Prop} {te ta tb tc tv : TE} {N : Nd} {De : Ends} {C : Addr} {f : Str}
end
section
variable {Pr : Program} {w : World} {K : PySem.W.Frag} [Tb K] {mg : Str → Option Value} {base : Heap} {C fI : Addr} {f : Str}
end
end DL

namespace DL
open PySem L2 StX
section
variable {K : PySem.W.Frag} [Tb K] {Z : ZX} {b u u' u'' : Wd} {σ : L2.St} {ds : DS} {n : Nat} {P : D → Nat → Prop} {te ta tb tc tv : TE} {N : Nd} {De : Ends} {tt : TT} {g : TG} {len : Nat}
/-! ### the dict with a list of what is left -/
theorem dp_ints {H : Hp} : ∀ xs : List Int, DpAll K H (xs.map V.int) (xs.map PyData.int)
  | [] => .nil
  | x :: xs => .cons (.int x) (dp_ints xs)
theorem plain_is : ∀ xs : List Int, PyData.plainAll (xs.map PyData.int) = true
  | [] => rfl
  | x :: xs => by simp only [List.map_cons, PyData.plainAll, plain_is xs]; rfl
theorem depth_is : ∀ xs : List Int, PyData.depthAll (xs.map PyData.int) ≤ 1
  | [] => by simp [PyData.depthAll]
  | x :: xs => by
    have := depth_is xs
    simp only [List.map_cons, PyData.depthAll, PyData.depth]
    omega
end
end DL

namespace L2
open PySem
end L2
namespace DL
open PySem L2 StX
section
variable {K : PySem.W.Frag} [Tb K] {Z Z' : ZX} {b u u' u'' : Wd} {σ : L2.St} {ds : DS} {n : Nat} {P : D → Nat → Prop} {te : TE} {N : Nd} {De : Ends}
/-- slots that hold no thing that is being made -/
def immO : Option D → Option D
  | some d => if isMut d then none else some d
  | none => none
def immDS (ds : DS) : DS := ds.map immO
theorem imm_get {i : Nat} {d : D} (h : (immDS ds)[i]? = some (some d)) : ds[i]? = some (some d) ∧ isMut d = false := by
  unfold immDS at h
  rw [List.getElem?_map] at h
  cases q : ds[i]? with
  | none => rw [q] at h; cases h
  | some o =>
    rw [q] at h
    cases o with
    | none => cases h
    | some e =>
      simp only [Option.map_some, immO] at h
      by_cases m : isMut e = true
      · rw [if_pos m] at h; cases h
      · rw [if_neg m] at h
        cases h
        exact ⟨rfl, by simpa using m⟩
/-- the same slots from here on -/
theorem Sd.imm (S : Sd K Z b u σ ds) {w : Wd} (l : Le u w) (e : Ex w.H0 w.H1) (st : StOk K w) (xk : XOk K Z' w) : Sd K Z' w w σ (immDS ds) := by
  refine ⟨.refl e, xk, st, by simp [S.len, immDS], fun i d h => ?_, fun i j d e a c h1 h2 m1 m2 => ?_⟩
  · obtain ⟨q, m⟩ := imm_get h
    obtain ⟨v, h1, h2⟩ := S.sl i d q
    exact ⟨v, h1, .den ((h2.imm m).mono l)⟩
  · rw [(imm_get h1).2] at m1; cases m1
/-! ### lambdas -/
/-- what is told of a lambda's reading, from the world u0 on -/
def TlOk (K : PySem.W.Frag) [Tb K] (tl : XK → Hp → VK → Prop) (u0 : Wd) (n0 : Nat) (P : D → Nat → Prop) (X0 : Xp) : Prop :=
  ∀ (E : XK) (w : Wd) (Q : VK), Le u0 w → w.n = n0 → Ex w.H0 w.H1 → StOk K w → (∀ v d w', Gs w w' → StOk K w' → Den K w' v d → P d w'.n → Q v w'.H1) → XOk K ⟨E, X0⟩ w → tl E w.H1 Q
abbrev Rg := (D → Nat → Prop) → Xp → Nat → (D → Nat → Prop) → Prop
def TTd (K : PySem.W.Frag) [Tb K] (q : Str) (RG : Rg) : (XK → Hp → VK → Prop) → Addr → Addr → Hp → VK → Prop := fun tl f c' H Q => ∃ (u : Wd) (P0 : D → Nat → Prop) (X0 : Xp) (P : D → Nat → Prop), u.H1 = H ∧ Ex u.H0 u.H1 ∧ StOk K u ∧ u.H0 c' = some (LamX.CodeO c' q) ∧
  TlOk K tl u u.n P0 X0 ∧ RG P0 X0 u.n P ∧ ∀ v d u', Gs u u' → StOk K u' → Den K u' v d → P d u'.n → Q v u'.H1
end
end DL

namespace DL
open PySem L2 StX
open PyProof.Rows (envOfC)
section
variable {K : PySem.W.Frag} [Tb K] {Z : ZX} {b u u' : Wd} {σ : L2.St} {ds : DS} {n : Nat} {P : D → Nat → Prop} {te ta tb : TE} {t tk : TA} {N : Nd} {C : Addr} {E : XK} {R : Rl}
theorem dens_at : ∀ {vs : List V} {ds : List D}, Dens K u vs ds → ∀ i : Nat, (vs[i]? = none ∧ ds[i]? = none) ∨ ∃ v d, vs[i]? = some v ∧ ds[i]? = some d ∧ Den K u v d
  | _, _, .nil, i => .inl ⟨by simp, by simp⟩
  | _, _, .cons r _, 0 => .inr ⟨_, _, rfl, rfl, r⟩
  | _, _, .cons _ rs, i + 1 => by
    rcases dens_at rs i with ⟨a, b⟩ | ⟨v, u, a, b, r⟩
    · exact .inl ⟨by simpa using a, by simpa using b⟩
    · exact .inr ⟨v, u, by simpa using a, by simpa using b, r⟩
theorem dens_perm (ix : List Nat) {vs zs : List V} {xs ys : List D} (r : Dens K u vs xs) (rz : Dens K u zs ys) : Dens K u (perm ix vs zs) (perm ix xs ys) := by
  have h := dens_at (r.app rz)
  induction ix with
  | nil => exact .nil
  | cons i ix ih =>
    unfold perm at ih ⊢
    rcases h i with ⟨a, b⟩ | ⟨v, u, a, b, q⟩
    · rw [List.filterMap_cons, List.filterMap_cons, a, b]; exact ih
    · rw [List.filterMap_cons, List.filterMap_cons, a, b]; exact .cons q ih
/-- o.m(k = v, ..) -/
theorem we_methN {m : Str} {nk : Nat} {ix : List Nat} (h : We K Z ta ds n fun o j => ∃ fs, o = .obj C fs ∧ fs.lookup m = none ∧ Wa K Z tk ds j fun ys k => ys.length = nk ∧ R (perm ix [o] ys) k P noX) : We K Z (tMethN C m nk (spD K R) (perm ix) E ta tk) ds n P := fun b u σ Q e S k =>
  h b u σ _ e S fun v o u1 g1 s1 r ⟨fs, z, hl, q⟩ => by
    subst z
    obtain ⟨a, dx, fv, rfl, ha, hf⟩ := den_obj r
    refine ⟨a, dx, fv, rfl, g1.c _ _ ha, hf.miss hl, q b u1 σ _ rfl (S.go g1 s1) fun zs ys u2 g2 s2 r2 ⟨h2, p⟩ => ?_⟩
    exact ⟨r2.len.trans h2, u2, perm ix [_] ys, P, noX, rfl, g2.c, s2, dens_perm ix (.cons (r.mono g2.ls) .nil) r2, p, fun v d u3 g3 s3 r' p' => k v d u3 ((g1.trans g2).trans g3) s3 r' p', xok_no⟩
/-- o(k = v, ..) -/
theorem we_callON {nk : Nat} {ix : List Nat} (h : We K Z ta ds n fun o j => ∃ fs, o = .obj C fs ∧ Wa K Z tk ds j fun ys k => ys.length = nk ∧ R (perm ix [o] ys) k P noX) : We K Z (tCallON C nk (spD K R) (perm ix) E ta tk) ds n P := fun b u σ Q e S k =>
  h b u σ _ e S fun v o u1 g1 s1 r ⟨fs, z, q⟩ => by
    subst z
    obtain ⟨a, dx, fv, rfl, ha, hf⟩ := den_obj r
    refine ⟨a, rfl, q b u1 σ _ rfl (S.go g1 s1) fun zs ys u2 g2 s2 r2 ⟨h2, p⟩ => ?_⟩
    exact ⟨⟨dx, fv, g2.c _ _ (g2.a _ _ ha)⟩, r2.len.trans h2, u2, perm ix [_] ys, P, noX, rfl, g2.c, s2, dens_perm ix (.cons (r.mono g2.ls) .nil) r2, p, fun v d u3 g3 s3 r' p' => k v d u3 ((g1.trans g2).trans g3) s3 r' p', xok_no⟩
/-! ### own == -/
/-- what a class must say so that its instances' type is told -/
structure TyC (K : PySem.W.Frag) (C : Addr) : Prop where
  c : Cls K C
  a : PySem.W.findIn K (.ref C) "__class__" = some (some (.builtin "object.__class__"))
  g : PySem.W.specialIn K (.builtin "object.__class__") "__get__" = some (some (.builtin "getset_descriptor.__get__"))
  t : PySem.W.takesIn K (.builtin "object.__class__") = some true
  m : PySem.W.mroIn K C (.type "object") = some true
/-- the type of a thing -/
def TyD (K : PySem.W.Frag) (d : D) (w : Value) : Prop := (∃ T, tyD d = some T ∧ w = .type T) ∨ ∃ C fs, d = .obj C fs ∧ w = .ref C ∧ TyC K C
end
/-! ### defs -/
section
variable {Pr : Program} {w : World} {K : PySem.W.Frag} [Tb K] {mg : Str → Option Value} {base : Heap} {R : Rl}
end
section
variable {Pr : Program} {w : World} {K : PySem.W.Frag} {mg : Str → Option Value} {base : Heap} {C fI : Addr} {f : Str} {tl : List Value} {B newId initId : String}
end
theorem lookup_nodup {tb : List (Addr × Str)} (hn : (tb.map (·.1)).Nodup) : ∀ p ∈ tb, tb.lookup p.1 = some p.2 := by
  induction tb with
  | nil => intro p hp; cases hp
  | cons q tb ih =>
    intro p hp
    obtain ⟨a, n⟩ := q
    rw [List.map_cons, List.nodup_cons] at hn
    rw [List.lookup_cons]
    rcases List.mem_cons.mp hp with rfl | hp
    · simp
    · have : p.1 ≠ a := fun z => hn.1 (by rw [← z]; exact List.mem_map.mpr ⟨p, hp, rfl⟩)
      have e : (p.1 == a) = false := by simpa using this
      rw [e]
      exact ih hn.2 p hp
/-- where a law begins: its script is told, the tables are empty -/
theorem law_begin {K : PySem.W.Frag} {tb : List (Addr × Str)} [i : Tb K] {R : Rl} {H : Hp} {a : Addr} {ns : List Int} (n0 : Nat) (hS : SqL K H a (ns.map V.int)) (hi : Tb.tb K = tb) (hn : (tb.map (·.1)).Nodup) (hT : ∀ p ∈ tb, H p.1 = some (.tbl #[])) (hR : R [.lst (ns.map .int)] n0 (fun d _ => d = .bl true) noX) :
    spD K R [.ref a] H (fun v _ => v = .bl true) fun _ _ _ => False := by
  have mem : ∀ x, x ∈ tb.map (·.1) → H x = some (.tbl #[]) := fun x hx => by
    obtain ⟨p, hp, e⟩ := List.mem_map.mp hx
    rw [← e]; exact hT p hp
  have hH0 : ∀ x o, H x = some o → (∀ ps, o ≠ .tbl ps) → (if x ∈ tb.map (·.1) then none else H x) = some o := fun x o h n => by
    rw [if_neg (fun z => by rw [mem x z] at h; cases h; exact n _ rfl)]; exact h
  refine ⟨⟨fun x => x ∈ tb.map (·.1), fun x => .tbl ((tb.lookup x).getD Str.empty), n0, fun x => if x ∈ tb.map (·.1) then none else H x, H⟩, [.lst (ns.map .int)], fun d _ => d = .bl true, noX, rfl, fun x o h => ?_, ⟨fun x hx => ⟨if_pos hx, _, mem x hx, #[], rfl, True.intro, fun pos cv hc => ?_⟩, fun p hp => ?_, fun x q hx hq => ?_⟩, .cons (.lst ?_ (ints_dens ns)) .nil, hR, fun v d _ _ _ r p => by cases p; exact den_bl r, xok_no⟩
  · have h' : (if x ∈ tb.map (·.1) then none else H x) = some o := h
    show H x = some o
    by_cases z : x ∈ tb.map (·.1)
    · rw [if_pos z] at h'; cases h'
    · rw [if_neg z] at h'; exact h'
  · have z : codeAmong pos [] = some cv := hc
    simp [codeAmong] at z
  · rw [hi] at hp
    refine ⟨List.mem_map.mpr ⟨p, hp, rfl⟩, ?_⟩
    show SK.tbl ((tb.lookup p.1).getD Str.empty) = _
    rw [lookup_nodup hn p hp]; rfl
  · rw [hi]
    obtain ⟨p, hp, e⟩ := List.mem_map.mp (show x ∈ tb.map (·.1) from hx)
    have hq' : SK.tbl ((tb.lookup x).getD Str.empty) = .tbl q := hq
    rw [← e, lookup_nodup hn p hp] at hq'
    cases hq'
    rw [← e]
    exact hp
  · rcases hS with (h | ⟨o, h⟩) | h
    · exact .inl (.inl (hH0 _ _ h fun _ z => by cases z))
    · exact .inl (.inr ⟨o, hH0 _ _ h fun _ z => by cases z⟩)
    · exact .inr h
end DL

/-! Classmethods called by keywords, cls(..), texts backwards. -/
namespace L2
open PySem PySem.Spec PyProof.Rows ClX
section
variable {X : Cx} {CX : CXT} {k : Nat} {C p f g : Addr} {mc : Value} {fd : FuncData} {ps ks : List Str} {ds : List Value} {dvs : List V} {sp : Sp} {E : XK} {o e : Expr} {es : List Expr} {kws : List Keyword} {m x : Str} {np pos apos : Pos} {te ta : TE} {t tk : TA} {gL : List Value → List Value → List Value} {gV : List V → List V → List V}
/-- C.m(k = v, ..), m a classmethod -/
def tCMethN (C : Addr) (nk : Nat) (sp : Sp) (gV : List V → List V → List V) (E : XK) (ta : TE) (tk : TA) : TE := fun σ H Q => ta σ H fun y H1 => y = .ref C ∧ tk σ H1 fun zs H2 => zs.length = nk ∧ sp (gV [.ref C] zs) H2 Q E
/-- cls(..), the class a variable -/
def tMakeV (C : Addr) (sp : Sp) (dvs : List V) (E : XK) (te : TE) (t : TA) : TE := fun σ H Q => te σ H fun y H1 => y = .ref C ∧ tMake C sp dvs E t σ H1 Q
theorem pe_makeV (hv : PE X o te) (M : Mk X.K C f) (F : FnOk X.prog X.w X.K X.mg X.base CX k f fd ps sp) (hr : Room (k + 1) X.A) (hb : Binds X.K fd ps ds) (hd : Vals dvs ds) (hx : Passes CX X E) (ha : PA X (e :: es) t)
    (ht : eval (.Call o (e :: es) [] pos) X.env = (do callWith pos (← eval o X.env) [] (backTo pos (starEach (e :: es) X.env)) (backToKw pos (keywordEach [] X.env))) := by rfl)
    (he : starEach (e :: es) X.env = (false, eval e X.env) :: starEach es X.env := by rfl) (hpl : (backTo pos (starEach es X.env)).any (·.1) = false := by rfl) :
    PE X (.Call o (e :: es) [] pos) (tMakeV C sp dvs E te t) := by
  refine ⟨fun pins s σ H Q I h => ?_⟩
  rw [ht]
  refine wpAny_bind (thn (hv.run pins s σ H _ I h) fun u s1 ⟨y, H1, I1, ry, ey, q⟩ => ?_)
  subst ey
  obtain rfl : u = Value.ref C := ry
  exact PySem.W.callWith_K (h₀ := X.base) I1.ok.mod.kin M.kp (thn (ha.run pos pins s1 σ H1 _ I1 q) fun us s2 ⟨vs, H2, I2, r, q2⟩ => ⟨I2.kIn, run_make M F hr hb hd hx I2 r q2⟩) he hpl
/-- a text backwards -/
def revS (z : Str) : Str := ⟨z.cps.toList.reverse.toArray⟩
def tRevS (te : TE) : TE := fun σ H Q => te σ H fun x H1 => ∃ z, x = .str z ∧ z.length ≤ sizeLine ∧ Q (.str (revS z)) H1
end
end L2

namespace DL
open PySem L2 StX ClX
section
variable {K : PySem.W.Frag} [Tb K] {Z : ZX} {ds : DS} {n : Nat} {P : D → Nat → Prop} {te ta : TE} {t tk : TA} {C : Addr} {E : XK} {R : Rl}
/-- C.m(..) of a class -/
theorem we_cmeth (h : We K Z ta ds n fun o j => o = .cls C ∧ Wa K Z t ds j fun xs k => R (.cls C :: xs) k P noX) : We K Z (tCMeth C (spD K R) E ta t) ds n P := fun b u σ Q e S k =>
  h b u σ _ e S fun v o u1 g1 s1 r ⟨z, q⟩ => by
    subst z
    cases r
    exact ⟨rfl, q b u1 σ _ rfl (S.go g1 s1) fun vs xs u2 g2 s2 r2 p => ⟨u2, .cls C :: xs, P, noX, rfl, g2.c, s2, .cons (.cls C) r2, p, fun v d u3 g3 s3 r' p' => k v d u3 ((g1.trans g2).trans g3) s3 r' p', xok_no⟩⟩
/-- cls(..) -/
theorem we_makeV {R : Ri} (h : We K Z te ds n fun o j => o = .cls C ∧ Wa K Z t ds j fun xs m => R xs m (fun gs => P (.obj C gs) m) noX) : We K Z (tMakeV C (spI K C R) [] E te t) ds n P := fun b u σ Q e S k =>
  h b u σ _ e S fun v o u1 g1 s1 r ⟨z, q⟩ => by
    subst z
    cases r
    exact ⟨rfl, we_make q b u1 σ _ rfl (S.go g1 s1) fun v d u' g s r p => k v d u' (g1.trans g) s r p⟩
end
end DL

/-! What is known of repr's guards, carried from the law down to the defs that ask for repr. -/
namespace L2
open PySem PySem.Spec PyProof.Rows
section
variable {X : Cx}
/-- repr of a list or a tuple of data -/
def rRepr (K : PySem.W.Frag) : List V → Hp → VK → Prop := fun xs H Q => ∃ a d, xs = [.ref a] ∧ Dp K H (.ref a) d ∧ d.showable = true ∧ d.hasDict = false ∧ d.depth ≤ 60 ∧ d.shown.length ≤ sizeLine ∧ Q (.str d.shown) H
theorem call_repr (hg : X.A.guards = some []) (hu : X.A.units + 64 < cLine) : CallR X (.builtin "repr") (rRepr X.K) := by
  intro pins s σ H xs us Q I r ⟨a, d, e, hd, h1, h2, h3, h4, q⟩
  subst e
  obtain ⟨u1, rfl, r1⟩ := vals1 r
  cases r1
  obtain ⟨as, hr⟩ := Dp.reads I d _ _ hd rfl
  exact repr_of_reads' hr h1 (fun z => by rw [h2] at z; cases z) hg (by omega) (fun _ _ e => e) (fun h' u tk hk => ⟨.str _, H, I.kept hk, ⟨_, rfl⟩, q⟩) h4
end
/-- a def that may be called where no repr is under way -/
structure FnG (P : Program) (w : World) (K : PySem.W.Frag) (mg : Str → Option Value) (base : Heap) (CX : CXT) (k : Nat) (f : Addr) (fd : FuncData) (ps : List Str) (sp : Sp) : Prop where
  size : ∀ {vs : List V} {H : Hp} {Q : VK} {E : XK}, sp vs H Q E → vs.length = ps.length
  goes : ∀ {A : Around} {outer : List Env} {s : Shared} {H : Hp} {args : Args} {us : List Value} {vs : List V} {Q : VK} {E : XK}, A.guards = some [] → Room k A → Env0 P w K mg base A outer s H → BindsTo s fd args (ps.zip us) → Vals vs us → sp vs H Q E →
    codeAny (model P w) A (.call (.ref f) args) (CR CX outer P w H s Q E) s
section
variable {P : Program} {w : World} {K : PySem.W.Frag} {mg : Str → Option Value} {base : Heap} {CX : CXT} {k : Nat} {f : Addr} {fd : FuncData} {ps N : List Str} {sp : Sp}
/-- a def by its body, the guards told -/
theorem Fun.okG {x qual : Str} {st : Stmt} (F : Fun K x qual st f fd) (S : FnScope N ps (defScope st)) (len : ∀ vs H Q E, sp vs H Q E → vs.length = ps.length)
    (hbody : ∀ (cdv : Value) (A : Around) (outer : List Env) (s : Shared) (H : Hp) (vs : List V) (Q : VK) (E : XK), fd.code = cdv → (A.deeper (envOfC qual (defScope st) s.heap.objs.size f cdv)).guards = some [] → Room k (A.deeper (envOfC qual (defScope st) s.heap.objs.size f cdv)) → sp vs H Q E →
      ∃ t, PSs (cxOf CX P w K mg base N qual (defScope st) f cdv A outer s H E) (defBody st) t ∧ t { nx := fun _ H' => Q .non H', rt := Q } (start N vs) H) :
    FnG P w K mg base CX (k + 1) f fd ps sp := by
  obtain ⟨oc, od, kV, doc, pm, an, cdv, ct, osl, rfl, lk, hcg⟩ := F.ex
  refine ⟨len _ _ _ _, fun {A outer s H args us vs Q E} hg hr e0 hb rv h => ?_⟩
  have same : ∀ b o, base.get? b = some o → s.heap.get? b = some o := fun b o e => (e0.bs b o e).1
  have KH : K.In s.heap := e0.mod.kin.keeps same
  refine codeAny_call_function hr.depth (KH _ _ lk) rfl S.co S.gen rfl (PySem.W.codeRec_of KH hcg) (hb _ _ _ _ (wpAny_newFunctionEnv_cells S.kind (fun ⟨y, z⟩ hy => ?_) fun env he s1 c => ?_))
  · exact (S.par y (List.of_mem_zip hy).1).elim .inl fun q => .inr ⟨q, PySem.W.cellsFrom_some _ _ _ (.inl q)⟩
  · subst he
    refine ⟨(e0.mod.nolimit.keeps same).keeps c.toInCall.keep, codeAny_func ?_⟩
    obtain ⟨t, ht, hq⟩ := hbody cdv A outer s H vs Q E rfl hg (hr.deeper _) h
    refine wpAny_mono (ht.run [] s1 (start N vs) H _ (inv_start S hr.hd e0 (len _ _ _ _ h) rv c) hq) (fun fl s' z => ?_) fun _ _ z => z
    match fl, z with
    | .ret u, ⟨v, σ', H', J, rv', q⟩ => exact ⟨v, H', J.os, J.bare, J.base, J.hok, rv', q⟩
    | .next, ⟨σ', H', J, q⟩ => exact ⟨.non, H', J.os, J.bare, J.base, J.hok, rfl, q⟩
    | .brk, ⟨_, _, _, q⟩ => exact q.elim
    | .cont, ⟨_, _, _, q⟩ => exact q.elim
end
section
variable {X : Cx} {CX : CXT} {k : Nat} {f : Addr} {fd : FuncData} {ps : List Str} {sp : Sp} {E : XK} {x : Str} {np pos : Pos} {e : Expr} {es : List Expr} {t : TA}
/-- f(..), f told with the guards -/
theorem pe_callG (hgu : X.A.guards = some []) (F : FnG X.prog X.w X.K X.mg X.base CX k f fd ps sp) (hr : Room k X.A) (hg : Gl X x) (hm : X.mg x = some (.ref f)) (hk : PySem.W.keepIn X.K (.ref f) = true) (hb : L2.Binds X.K fd ps []) (hx : Passes CX X E) (ha : PA X (e :: es) t)
    (hdb : (x == ("__debug__" : Str)) = false := by decide) (he : starEach (e :: es) X.env = (false, eval e X.env) :: starEach es X.env := by rfl) (hpl : (backTo pos (starEach es X.env)).any (·.1) = false := by rfl) :
    PE X (.Call (.Name x np) (e :: es) [] pos) (tCall sp [] E t) := by
  refine ⟨fun pins s σ H Q I h => wpAny_Call_Name_kw (ld_glob I hg hm (PySem.W.callWith_K (h₀ := X.base) I.ok.mod.kin hk (thn (ha.run pos pins s σ H _ I h) fun us s1 ⟨vs, H1, I1, rv, q⟩ => ⟨I1.kIn, ?_⟩) he hpl) hdb)⟩
  have rv2 : Vals (vs ++ []) (us ++ []) := rv.append .nil
  have hl : (us ++ []).length = ps.length := rv2.length.symm.trans (F.size q)
  refine wpAny_call (codeAny_mono (F.goes hgu hr I1.env0 (hb s1 us I1.kIn hl) rv2 q) fun fl s2 z => ?_)
  match fl, z with
  | .error er, z => exact hx pins σ H1 s1 er s2 I1 z
  | .ok (.ret u), z => exact I1.after z
  | .ok .next, z => exact False.elim z
  | .ok .brk, z => exact False.elim z
  | .ok .cont, z => exact False.elim z
end
end L2

/-! The end of a law whose def is told with the guards. -/
namespace LamX
open PySem PySem.Spec PyProof.Rows L2
/-- what a law begins with: empty tables, and its script, unless that is written out already -/
def beginH (ts : List Addr) (a : Addr) (o : Obj) (xs : List V) (kn : Bool) : Hp := fun b => if b ∈ ts then some (.tbl #[]) else if b = a ∧ kn = false then some (.frz o (.lst xs)) else none
section
variable {P : Program} {w : World} {K : PySem.W.Frag} {mg mb : Str → Option Value} {CX : CXT} {k : Nat} {fa a : Addr} {cs : List (Addr × Addr)} {fd : FuncData} {x : Str} {sp : Sp} {s₁ : Shared} {vs : List Value} {ns : List Int}
theorem law_callG (KX : K.In s₁.heap) (gN : s₁.heap.Ns mainGlobals mg) (bN : s₁.heap.Ns builtinsNs mb) (bB : ∀ y : Str, y ≠ "__name__" → mb y = bootBuiltins y) (nl : s₁.heap.NoLimit) (ge : s₁.gens = #[])
    (tE : ∀ p ∈ cs, s₁.heap.get? p.2 = some { cls := .none, data := .fields #[] }) (tN : ∀ p ∈ cs, K.lookup p.2 = none) (tC : ∀ p ∈ cs, PySem.W.CodeHd s₁.heap p.1 p.2)
    (bm : ∃ (c : Addr) (o : Obj), mg "__builtins__" = some (.ref c) ∧ c ≠ builtinsNs ∧ s₁.heap.get? c = some o ∧ o.cls = .type "module" ∧ o.dict = some builtinsNs ∧ o.data = .plain)
    (sc : s₁.heap.get? a = some { cls := .type "list", data := .seq vs.toArray }) (si : IntsAre vs ns) (sl : ns.length ≤ sizeLine) (hr : Room k callerA)
    (F : ∀ b : Heap, K.In b → b.Ns mainGlobals mg → (∀ p ∈ cs, TabB b mg p.1 p.2) → FnG P w K mg b CX k fa fd [x] sp) (fb : ∀ (s : Shared) (u : Value), BindsTo s fd ⟨[u], []⟩ [(x, u)])
    (go : ∀ H : Hp, (∀ p ∈ cs, H p.2 = some (.tbl #[])) → SqL K H a (ns.map V.int) → sp [.ref a] H (fun v _ => v = .bl true) fun _ _ _ => False)
    (noE : ∀ H e s', CX [] H s₁ (fun _ _ _ => False) e s' → False) :
    codeAny (model P w) callerA (.call (.ref fa) ⟨[.ref a], []⟩) (fun r s' => r = .ok (.ret (.bool true)) ∧ OldK s₁.heap s'.heap ∧ s'.os = s₁.os ∧ AllBare s'.gens) s₁ := by
  have isTab : ∀ {b : Addr}, b ∈ cs.map (·.2) → ∃ p ∈ cs, p.2 = b := fun hb => List.mem_map.mp hb
  have tab : ∀ {b : Addr}, b ∈ cs.map (·.2) → s₁.heap.get? b = some { cls := .none, data := .fields #[] } := fun hb => let ⟨p, h1, h2⟩ := isTab hb; h2 ▸ tE p h1
  have aN : a ∉ cs.map (·.2) := fun z => by
    have q := congrArg Obj.data (Option.some.inj ((tab z).symm.trans sc))
    cases q
  generalize hH : beginH (cs.map (·.2)) a { cls := .type "list", data := .seq vs.toArray } (ns.map V.int) (K.lookup a).isSome = H
  have atT : ∀ {b : Addr}, b ∈ cs.map (·.2) → H b = some (.tbl #[]) := fun hb => by rw [← hH]; exact if_pos hb
  have atN : ∀ {b : Addr}, b ∉ cs.map (·.2) → (b = a → (K.lookup a).isSome = true) → H b = none := fun {b} h1 h2 => by
    rw [← hH]
    show (if b ∈ _ then _ else if b = a ∧ (K.lookup a).isSome = false then _ else _) = none
    rw [if_neg h1, if_neg fun z => by rw [h2 z.1] at z; cases z.2]
  have cases3 : ∀ (b : Addr) (u : HO), H b = some u → (b ∈ cs.map (·.2) ∧ u = .tbl #[]) ∨ (b = a ∧ (K.lookup a).isSome = false ∧ u = .frz { cls := .type "list", data := .seq vs.toArray } (.lst (ns.map V.int))) := fun b u z => by
    rw [← hH] at z
    have z' : (if b ∈ cs.map (·.2) then some (HO.tbl #[]) else if b = a ∧ (K.lookup a).isSome = false then some (.frz { cls := .type "list", data := .seq vs.toArray } (.lst (ns.map V.int))) else none) = some u := z
    split at z'
    · next h => cases z'; exact .inl ⟨h, rfl⟩
    · split at z'
      · next h => cases z'; exact .inr ⟨h.1, h.2, rfl⟩
      · cases z'
  have see : ∀ {b : Addr} {o : Obj}, s₁.heap.get? b = some o → (∀ v m, o.data ≠ .seq v m) → o.data ≠ .fields #[] → (hidT s₁.heap H).get? b = some o := fun {b o} e h1 h2 => hidT_get e (atN (fun z => by
    have q := (tab z).symm.trans e
    cases q
    exact h2 rfl) fun z => by
    subst z
    have q := sc.symm.trans e
    cases q
    exact absurd rfl (h1 _ _))
  have seeN : ∀ {b : Addr} {m : Str → Option Value}, s₁.heap.Ns b m → (hidT s₁.heap H).Ns b m := fun ⟨o, es, n, e, d, q⟩ => ⟨o, es, n, see e (fun v m => by rw [d]; exact fun z => nomatch z) (by rw [d]; exact fun z => nomatch z), d, q⟩
  have seeK : K.In (hidT s₁.heap H) := fun b o e => hidT_get (KX b o e) (atN (fun z => by
    obtain ⟨p, h1, h2⟩ := isTab z
    rw [← h2, tN p h1] at e
    cases e) fun z => by rw [← z, e]; rfl)
  have seeT : ∀ p ∈ cs, TabB (hidT s₁.heap H) mg p.1 p.2 := fun p hp => by
    obtain ⟨co, cv, c1, c2, c3, c4, c5, c6, c7, at_, f1, f2, f3, f4, f5, f6, f7, f8, f9⟩ := tC p hp
    refine ⟨⟨co, cv, c1, c2, c3, c4, c5, c6, c7, see at_ (fun v m => by rw [f2]; exact fun z => nomatch z) (by rw [f2]; intro z; injection z with z; rw [z] at f3; cases f3), f1, f2, f3, f4, f5, f6, f7, f8, f9⟩, ?_, fun z => ?_⟩
    · obtain ⟨c, o, b1, b2, b3, b4, b5, b6⟩ := bm
      refine ⟨c, o, b1, b2, fun z => ?_, fun z => ?_, see b3 (fun v m => by rw [b6]; exact fun z => nomatch z) (by rw [b6]; exact fun z => nomatch z), b4, b5, b6⟩
      · obtain ⟨o', es, n, e, d, -⟩ := gN
        rw [← z, b3] at e
        cases e
        rw [b6] at d
        cases d
      · rw [z, tE p hp] at b3
        cases b3
        cases b6
    · obtain ⟨o', es, n, e, d, -⟩ := gN
      rw [z, tE p hp] at e
      cases e
      cases d
  have iv := vals_ints si
  have ln := si.length
  have ok : HOk P w H s₁.heap := fun b u z => by
    rcases cases3 b u z with ⟨h, rfl⟩ | ⟨rfl, -, rfl⟩
    · exact tab h
    · exact ⟨sc, by rw [List.length_map]; exact sl, vs, _, iv, sc⟩
  have sq : SqL K H a (ns.map V.int) := by
    cases hk : K.lookup a with
    | some o =>
      have e := (KX a o hk).symm.trans sc
      cases e
      exact .inr ⟨_, vs.toArray, _, hk, rfl, rfl, rfl, by rw [List.size_toArray, ln]; exact sl, by simpa using iv⟩
    | none =>
      refine .inl (.inr ⟨{ cls := .type "list", data := .seq vs.toArray }, ?_⟩)
      rw [← hH]
      show (if a ∈ _ then _ else if a = a ∧ (K.lookup a).isSome = false then _ else _) = _
      rw [if_neg aN, if_pos ⟨rfl, by rw [hk]; rfl⟩]
  have e0 : Env0 P w K mg (hidT s₁.heap H) callerA [] s₁ H := {
    frames := rfl
    mod := ⟨seeK, seeN gN, ⟨mb, seeN bN, bB⟩, let ⟨c, n1, n2⟩ := nl; ⟨c, seeN n1, n2⟩⟩
    bs := fun b o e => of_hidT e
    bsz := Nat.le_of_eq (hidT_size _ _)
    funs := trivial
    frf := fun b z => nomatch z
    hok := ok
    bare := .of_eq ge }
  refine codeAny_mono ((F _ seeK (seeN gN) seeT).goes rfl hr e0 (us := [.ref a]) (vs := [.ref a]) (fb s₁ (.ref a)) (.cons rfl .nil) (go H (fun p hp => atT (List.mem_map.mpr ⟨p, hp, rfl⟩)) sq)) fun r s' z => ?_
  match r, z with
  | .error e, z => exact (noE H e s' z).elim
  | .ok .next, z => exact False.elim z
  | .ok .brk, z => exact False.elim z
  | .ok .cont, z => exact False.elim z
  | .ok (.ret u), ⟨v, H', so, sb, un, ok', rv, (q : v = .bl true)⟩ =>
    subst q
    obtain rfl : u = Value.bool true := rv
    have kept : ∀ b o, b ∉ cs.map (·.2) → s₁.heap.get? b = some o → s'.heap.get? b = some o := fun b o nb e => by
      cases q : H b with
      | none => exact un.keep b o e q (fun z => nomatch z) (fun z => nomatch z)
      | some u =>
        rcases cases3 b u q with ⟨h, -⟩ | ⟨rfl, -, rfl⟩
        · exact absurd h nb
        · rw [sc] at e
          cases e
          exact (ok' _ _ (un.frzs _ _ _ q)).1
    have more : ∀ {b : Addr}, b ∈ cs.map (·.2) → ∃ m : Array Value, s'.heap.get? b = some { cls := .none, data := .fields m } := fun {b} hb => let ⟨m, z⟩ := un.tbls b #[] (atT hb); ⟨_, ok' b _ z⟩
    refine ⟨rfl, ⟨fun b o e => ?_, fun b o e => ?_⟩, so, sb⟩
    · by_cases hb : b ∈ cs.map (·.2)
      · obtain ⟨p, h1, rfl⟩ := isTab hb
        obtain ⟨m, hm⟩ := more hb
        have e' := (tE p h1).symm.trans e
        cases e'
        exact .inr (.inl ⟨((tC p h1).tab (tE p h1)).isCodeTable, rfl, #[], m, rfl, by rw [Array.empty_append]; exact hm⟩)
      · exact .inl (kept b o hb e)
    · by_cases hb : b ∈ cs.map (·.2)
      · exact let ⟨m, hm⟩ := more hb; ⟨_, hm⟩
      · exact ⟨o, kept b o hb e⟩
end
/-- what is to be known of a law's def, with the guards -/
def LawAtG (l : PySem.W.OpenLaw) (w : World) (K : PySem.W.Frag) (CX : CXT) (k n : Nat) (x : Str) (mg : Str → Option Value) (fa : Addr) (h : Heap) : Prop :=
  ∃ (fd : FuncData) (cs : List (Addr × Addr)) (sp : Sp), (∀ p ∈ cs, h.get? p.2 = some { cls := .none, data := .fields #[] } ∧ K.lookup p.2 = none ∧ PySem.W.CodeHd h p.1 p.2) ∧ (∀ (s : Shared) (u : Value), BindsTo s fd ⟨[u], []⟩ [(x, u)]) ∧
    (∀ (H : Hp) (a : Addr) (ns : List Int), ns.length ≤ n → (∀ p ∈ cs, H p.2 = some (.tbl #[])) → SqL K H a (ns.map V.int) → sp [.ref a] H (fun v _ => v = .bl true) fun _ _ _ => False) ∧
    ∀ b : Heap, K.In b → b.Ns mainGlobals mg → (∀ p ∈ cs, TabB b mg p.1 p.2) → FnG l.prog w K mg b CX k fa fd [x] sp
theorem walkG {l : PySem.W.OpenLaw} {n k : Nat} {q : Program} {loose : List Str} {XP : (Str → Option Value) → Heap → Prop} {YP : World → Heap → Prop} {d : DefRec} {K : Params → PySem.W.Frag} {CX : World → CXT} {x : Str} (most : l.most = some n) (small : n ≤ sizeLine) (nodef : d.params.defaults = []) (hr : Room k callerA)
    (inK : ∀ (w : World) (h : Heap), YP w h → (K w.params).In h) (F : ∀ (w : World) (mg : Str → Option Value) (fa : Addr) (h : Heap), YP w h → (K w.params).In h → h.Ns mainGlobals mg → mg d.name = some (.ref fa) → LawAtG l w (K w.params) (CX w) k n x mg fa h)
    (noE : ∀ (w : World) (H : Hp) (s : Shared) (e : Value) (s' : Shared), CX w [] H s (fun _ _ _ => False) e s' → False) : PySem.W.WalkO q loose XP YP l.row.toRowW d [] (fun f vs => PySem.call f vs) :=
  Att.attach_callB most nodef fun w s₀ s₁ mg mb fa o pm cd doc a vs ns G Y ho hd hcd hmg sc si hl hbits hg =>
    let ⟨fd, cs, sp, hT, hb, hsp, hF⟩ := F w mg fa _ Y (inK w _ Y) G.T.g hmg
    law_callG (inK w _ Y) G.T.g G.T.b G.T.builtins G.T.nolimit hg (fun p hp => (hT p hp).1) (fun p hp => (hT p hp).2.1) (fun p hp => (hT p hp).2.2) G.T.bmain sc si (Nat.le_trans hl small) hr hF hb (fun H h1 h2 => hsp H a ns hl h1 h2) fun H e s' => noE w H s₁ e s'
end LamX

namespace DL
open PySem L2 StX
open PyProof.Rows (envOfC)
section
variable {K : PySem.W.Frag} [Tb K]
/-- repr of a list or a tuple of data without dicts -/
theorem repr_of {P : D → Prop} {d : D} {e : PyData} (hc : ∃ xs, d = .lst xs ∨ d = .tup xs) (h1 : pd d = some e) (h2 : e.showable = true) (h3 : e.hasDict = false) (h4 : e.depth ≤ 60) (h5 : e.shown.length ≤ sizeLine) (h : P (.str e.shown)) : Cb K (rRepr K) [d] P := fun u vs Q ex r k => by
  obtain ⟨v, rfl, r1⟩ := dens1 r
  have hd := den_dp ex r1 h1
  obtain ⟨xs, rfl | rfl⟩ := hc
  · obtain ⟨a, ws, rfl, q, r2⟩ := den_lst r1
    exact ⟨a, e, rfl, hd, h2, h3, h4, h5, k _ _ u (.refl ex) (.str _) h⟩
  · obtain ⟨a, ws, rfl, q, r2⟩ := den_tup r1
    exact ⟨a, e, rfl, hd, h2, h3, h4, h5, k _ _ u (.refl ex) (.str _) h⟩
end
section
variable {Pr : Program} {w : World} {K : PySem.W.Frag} [Tb K] {mg : Str → Option Value} {base : Heap} {R : Rl}
/-- a def that asks for repr, or calls one that does; its code object is cdv (for lambdas) -/
theorem dokG {x qual : Str} {st : Stmt} {f : Addr} {fd : FuncData} {N ps : List Str} {k : Nat} (F : Fun K x qual st f fd) (S : FnScope N ps (defScope st)) (len : ∀ ds n P X, R ds n P X → ds.length = ps.length) (hNp : ps.length ≤ N.length)
    (hbody : ∀ (cdv : Value) (A : Around) (outer : List Env) (s : Shared) (H : Hp) (E : XK), fd.code = cdv → (A.deeper (envOfC qual (defScope st) s.heap.objs.size f cdv)).guards = some [] → Room k (A.deeper (envOfC qual (defScope st) s.heap.objs.size f cdv)) →
      ∃ t, PSs (cxOf CX0 Pr w K mg base N qual (defScope st) f cdv A outer s H E).nox (defBody st) t ∧ ∀ Z ds n P, R ds n P Z.X → Ws K Z t (startD N.length ds) n { nx := fun _ m => P .non m, rt := P }) : FnG Pr w K mg base CX0 (k + 1) f fd ps (spD K R) := by
  refine F.okG S (fun vs H Q E ⟨u, ds, P, X, _, e, _, r, h, _⟩ => by rw [r.len]; exact len ds _ P X h) (fun cdv A outer s H vs Q E hcd hg hr ⟨u, ds, P, X, eh, e, st, r, h, q, xk⟩ => ?_)
  obtain ⟨t, ht, hW⟩ := hbody cdv A outer s H E hcd hg hr
  subst eh
  exact ⟨t, ht.nox, hW ⟨E, X⟩ ds u.n P h u u _ _ rfl (sd_start e xk st r (by rw [r.len, len ds _ P X h]; exact hNp)) ⟨fun ds' v σ' _ S' p => q _ _ _ S'.gr S'.st .non p, fun d v v' g s r p => q v d v' g s r p, fun _ _ _ _ _ z => z.elim, fun _ _ _ _ _ z => z.elim⟩⟩
end
end DL

/-! repr of a list of two pairs of a text and an empty dict. -/
namespace L2
open PySem PySem.Spec PyProof.Rows
/-- a pair of a text and an empty dict -/
abbrev pairE (x : Str) : PyData := .tuple [.str x, .dict []]
def Dq (K : PySem.W.Frag) (H : Hp) (x : Str) (v : V) : Prop := ∃ t d, v = .ref t ∧ SqT K H t [.str x, .ref d] ∧ Rd H d (.dK [])
section
variable {X : Cx} {pins : List (Addr × Obj)} {σ : St} {H : Hp} {s : Shared}
theorem Dq.reads {x : Str} {v : V} {u : Value} (I : Inv X pins σ H s) (h : Dq X.K H x v) (r : RelV v u) : ∃ as, Reads s.heap u (pairE x) as ∧ sysModules ∉ as := by
  obtain ⟨t, d, rfl, ht, hd⟩ := h
  cases r
  obtain ⟨its, rv, ⟨o, ho, hc, n, hdat⟩, _⟩ := I.tuple ht
  cases rv with
  | cons r1 rv =>
  cases rv with
  | cons r2 rv =>
  cases rv
  obtain ⟨tk, rfl⟩ := r1
  cases r2
  obtain ⟨_, hsm, vs, kv, hD⟩ := dk_rd I.hok hd
  obtain ⟨od, es, ep, h1, h2, h3, _, hp, _⟩ := hD
  have e1 : vs = [] := by
    cases vs with
    | nil => rfl
    | cons a b => cases kv
  subst e1
  have e2 : es.toList = [] := by
    generalize es.toList = l at hp
    cases l with
    | nil => rfl
    | cons a b => cases hp
  refine ⟨_, Reads.tuple ho hc hdat (.cons (.str _ _) (.cons (.dict (kvs := []) h1 h2.1 h3 (by rw [e2]; exact .nil) (by rw [e2]; exact .nil)) .nil)), ?_⟩
  have : ¬ sysModules = d := fun z => by rw [z] at hsm; simp at hsm
  simpa using this
end
section
variable {X : Cx}
/-- repr of a list of two such pairs -/
def rRepr2 (K : PySem.W.Frag) : List V → Hp → VK → Prop := fun xs H Q => ∃ a x v1 v2, xs = [.ref a] ∧ SqL K H a [v1, v2] ∧ Dq K H x v1 ∧ Dq K H x v2 ∧ (PyData.list [pairE x, pairE x]).shown.length ≤ sizeLine ∧ Q (.str (PyData.list [pairE x, pairE x]).shown) H
/-- repr of data, or of a list of two pairs with empty dicts -/
def rReprU (K : PySem.W.Frag) : List V → Hp → VK → Prop := fun xs H Q => rRepr K xs H Q ∨ rRepr2 K xs H Q
end
end L2
namespace DL
open PySem L2 StX
section
variable {K : PySem.W.Frag} [Tb K]
end
end DL

namespace L2
open PySem PySem.Spec PyProof.Rows
section
variable {X : Cx} {pins : List (Addr × Obj)} {σ : St} {H : Hp} {s : Shared}
theorem dqs_reads {x : Str} (I : Inv X pins σ H s) : ∀ {vs : List V} {us : List Value}, (∀ v ∈ vs, Dq X.K H x v) → Vals vs us → ∃ as, ReadsAll s.heap us (List.replicate vs.length (pairE x)) as ∧ sysModules ∉ as
  | _, _, _, .nil => ⟨[], .nil, by simp⟩
  | _, _, h, .cons r rs => by
    obtain ⟨as, k1, n1⟩ := (h _ (List.mem_cons_self ..)).reads I r
    obtain ⟨bs, k2, n2⟩ := dqs_reads I (fun v hv => h v (List.mem_cons_of_mem _ hv)) rs
    exact ⟨as ++ bs, .cons k1 k2, by simp [n1, n2]⟩
theorem show_pairs (x : Str) : ∀ n : Nat, PyData.showableAll (List.replicate n (pairE x)) = true
  | 0 => by simp [PyData.showableAll]
  | n + 1 => by
    rw [List.replicate_succ]
    simp only [PyData.showableAll, show_pairs x n, Bool.and_true]
    rfl
theorem depth_pairs (x : Str) : ∀ n : Nat, PyData.depthAll (List.replicate n (pairE x)) ≤ 10
  | 0 => by simp [PyData.depthAll]
  | n + 1 => by
    have := depth_pairs x n
    rw [List.replicate_succ]
    simp only [PyData.depthAll]
    have e : (pairE x).depth ≤ 10 := by simp [PyData.depth, PyData.depthAll, PyData.depthKv]
    omega
end
section
variable {X : Cx}
/-- repr of a list of such pairs -/
def rReprs (K : PySem.W.Frag) : List V → Hp → VK → Prop := fun xs H Q => ∃ a x vs, xs = [.ref a] ∧ vs ≠ [] ∧ SqL K H a vs ∧ (∀ v ∈ vs, Dq K H x v) ∧ (PyData.list (List.replicate vs.length (pairE x))).shown.length ≤ sizeLine ∧ Q (.str (PyData.list (List.replicate vs.length (pairE x))).shown) H
theorem call_reprs (hg : X.A.guards = some []) (hu : X.A.units + 64 < cLine) : CallR X (.builtin "repr") (rReprs X.K) := by
  intro pins s σ H xs us Q I r ⟨a, x, vs, e, hne, hs, dq, hz, q⟩
  subst e
  obtain ⟨u1, rfl, r1⟩ := vals1 r
  cases r1
  obtain ⟨its, rv, ⟨o, n, ho, hc, _, hd⟩, _⟩ := I.list hs
  obtain ⟨as, all, na⟩ := dqs_reads I dq rv
  have hz' : (listText (PyData.shownAll (List.replicate vs.length (pairE x)))).length ≤ sizeLine := by simpa only [PyData.shown] using hz
  obtain ⟨bs, hb, hk⟩ := ReprAllK.of_readsAll (prog := X.prog) (w := X.w) all (show_pairs x _) (fun _ => na) (fun t ht => Nat.le_trans (listText_mem_le ht) hz')
  have hna : a ∉ bs := not_mem_of_deeper (Reads.list ho hc hd all) (by simp only [PyData.depth]; omega) hb
  have dp := depth_pairs x vs.length
  have hle := hk.length_eq
  obtain ⟨y0, ys, rfl⟩ : ∃ y ys, its = y :: ys := by
    cases its with
    | nil => exact absurd (List.eq_nil_of_length_eq_zero rv.length) hne
    | cons y ys => exact ⟨y, ys, rfl⟩
  exact call_repr_slot (by omega) ⟨o, ho, hc⟩ F.slot_list_repr.toG (call_list_reprK ho hc hd hna (by simpa using hle) (fun i y e => hk.item i y (by simpa using e)) hg (fun b _ => Clear.nil b) (by show X.A.units + 1 + (PyData.depthAll (List.replicate vs.length (pairE x)) + 1) < cLine; omega) (fun _ _ e => e)
    (fun h' u tk hk2 => ⟨_, _, rfl, .str _, H, I.kept hk2, ⟨_, rfl⟩, by simpa only [PyData.shown] using q⟩) hz')
/-- repr of data, or of a list of pairs with empty dicts -/
def rReprV (K : PySem.W.Frag) : List V → Hp → VK → Prop := fun xs H Q => rRepr K xs H Q ∨ rReprs K xs H Q
theorem call_reprV (hg : X.A.guards = some []) (hu : X.A.units + 64 < cLine) : CallR X (.builtin "repr") (rReprV X.K) := fun pins s σ H xs us Q I r h => h.elim (call_repr hg hu pins s σ H xs us Q I r) (call_reprs hg hu pins s σ H xs us Q I r)
end
section
variable {X : Cx} {CX : CXT} {k nk : Nat} {f C : Addr} {fd : FuncData} {ps ks : List Str} {sp : Sp} {E : XK} {x : Str} {p pos : Pos} {kws : List Keyword} {tk : TA} {g : List Value → List Value → List Value} {gV : List V → List V → List V}
end
end L2
namespace DL
open PySem L2 StX
open PyProof.Rows (envOfC)
section
variable {K : PySem.W.Frag} [Tb K]
theorem reprV_of {P : D → Prop} {d : D} {e : PyData} (hc : ∃ xs, d = .lst xs ∨ d = .tup xs) (h1 : pd d = some e) (h2 : e.showable = true) (h3 : e.hasDict = false) (h4 : e.depth ≤ 60) (h5 : e.shown.length ≤ sizeLine) (h : P (.str e.shown)) : Cb K (rReprV K) [d] P := fun u vs Q ex r k => .inl (repr_of hc h1 h2 h3 h4 h5 h u vs Q ex r k)
end
section
variable {K : PySem.W.Frag} [Tb K] {Z : ZX} {ds : DS} {n : Nat} {P : D → Nat → Prop} {tk : TA} {C : Addr} {E : XK} {R : Ri}
end
section
variable {Pr : Program} {w : World} {K : PySem.W.Frag} [Tb K] {mg : Str → Option Value} {base : Heap} {C : Addr}
end
end DL

/-! Lists that are grown: read, stored into, measured. -/
namespace DL
open PySem L2 StX
section
variable {K : PySem.W.Frag} [Tb K] {Z : ZX} {b u u' u'' : Wd} {σ : L2.St} {ds : DS} {n : Nat} {P : D → Nat → Prop} {te ta tb tc ti : TE} {N : Nd}
end
end DL

/-! Exceptions made as values; dict displays; repr of lists with one thing many times. -/
namespace L2
open PySem PySem.Spec PyProof.Rows
/-- the making of an exception, its object kept -/
def tMkE (t : St → Hp → XK → Prop) : TE := fun σ H Q => t σ H fun cls d H' => ∀ a, H' a = none → Q (.ref a) (upd H' a (xo a cls d))
section
variable {X : Cx}
end
/-- X(e) of an own exception class that stores its argument; X() of one that stores nothing -/
def tXv (C : Addr) (sp : Sp) (ta : TA) : TE := tMkE fun σ H E => tMkO C sp [] ta σ H E
def tXv0 (C : Addr) : TE := tMkE fun σ H E => E (.ref C) none H
/-! repr -/
/-- a dict with one text as its key and a number -/
def Dd (K : PySem.W.Frag) (H : Hp) (x : Str) (i : Int) (v : V) : Prop := ∃ d, v = .ref d ∧ Rd H d (.dK [(.inr x, .int i)])
section
variable {X : Cx} {pins : List (Addr × Obj)} {σ : St} {H : Hp} {s : Shared}
theorem Dd.reads {x : Str} {i : Int} {v : V} {u : Value} (I : Inv X pins σ H s) (h : Dd X.K H x i v) (r : RelV v u) : ∃ as, Reads s.heap u (.dict [(.str x, .int i)]) as ∧ sysModules ∉ as := by
  obtain ⟨d, rfl, hd⟩ := h
  cases r
  obtain ⟨_, hsm, vs, kv, hD⟩ := dk_rd I.hok hd
  obtain ⟨od, es, ep, h1, h2, h3, _, hp, _⟩ := hD
  obtain ⟨k, w, rfl, hk, hw⟩ : ∃ (k : Key) (w : Value), vs = [(k, w)] ∧ (.inr x : Key) = k ∧ RelV (.int i) w := by
    cases kv with
    | cons r0 kv2 =>
      cases kv2
      exact ⟨_, _, rfl, r0.1, r0.2⟩
  obtain ⟨tk, rfl⟩ := hw
  subst hk
  generalize hes : es.toList = l at hp
  cases hp with
  | cons he hv hp =>
  cases hp
  rename_i e
  have he' : keyIs (.inr x) e.key = true := he
  rcases keyIs_shape he' with ⟨j, t, hj, z⟩ | ⟨y, t, hy, z⟩
  · cases hj
  · cases hy
    refine ⟨_, Reads.dict (kvs := [(.str x, .int i)]) h1 h2.1 h3 (by rw [hes]; simp only [List.map_cons, List.map_nil]; rw [z]; exact .cons (.str _ _) .nil) (by rw [hes]; simp only [List.map_cons, List.map_nil]; rw [hv]; exact .cons (.int _ _) .nil), ?_⟩
    have : ¬ sysModules = d := fun z => by rw [z] at hsm; simp at hsm
    simpa using this
end
section
variable {X : Cx}
/-- repr of a list of such dicts -/
def rReprDs (K : PySem.W.Frag) : List V → Hp → VK → Prop := fun xs H Q => ∃ a x i vs, xs = [.ref a] ∧ vs ≠ [] ∧ SqL K H a vs ∧ (∀ v ∈ vs, Dd K H x i v) ∧ (PyData.dict [(.str x, .int i)]).showable = true ∧ (PyData.list (List.replicate vs.length (.dict [(.str x, .int i)]))).shown.length ≤ sizeLine ∧ Q (.str (PyData.list (List.replicate vs.length (.dict [(.str x, .int i)]))).shown) H
def rReprW (K : PySem.W.Frag) : List V → Hp → VK → Prop := fun xs H Q => rReprV K xs H Q ∨ rReprDs K xs H Q
end
end L2
namespace DL
open PySem L2 StX
section
variable {K : PySem.W.Frag} [Tb K]
end
section
variable {K : PySem.W.Frag} [Tb K] {Z : ZX} {b u u' u'' : Wd} {σ : L2.St} {ds : DS} {n : Nat} {P : D → Nat → Prop} {t : TA} {C : Addr} {f : Str}
end
end DL

/-! set(text), and how many signs it has. -/
namespace SS2
open PySem PySem.Spec PyProof.Rows SS
def signsOf (x : Str) : List Str := x.cps.toList.map fun c => ⟨#[c]⟩
theorem sign_at {x : Str} {i : Nat} {v : Value} (h : SignAt x i v) : ∃ t, v = .str ((signsOf x).getD i Str.empty) t := by
  obtain ⟨c, t, hc, rfl⟩ := h
  refine ⟨t, ?_⟩
  have e : (signsOf x)[i]? = some ⟨#[c]⟩ := by
    unfold signsOf
    rw [List.getElem?_map, Array.getElem?_toList, hc]; rfl
  rw [List.getD_eq_getElem?_getD, e]; rfl
section
variable {prog : Program} {w : World} {A : Around} {R : Result → Shared → Prop} {I : Addr} {fp wr : List Addr} {G : Array GenState → Array GenState → Prop} {n : Nat} {P : Nat → Value → Prop} {St : Nat → Shared → Prop}
theorem loopStrN (W : WalksS prog w A.in1 I fp wr G n P St) (S : Addr) (hSf : S ∉ fp) (xs : List Str) (hsz : xs.length = n) (hnd : xs.Nodup) (hb : n + 1 < scanBound)
    (hval : ∀ i v, P i v → ∃ t, v = .str (xs.getD i Str.empty) t) :
    ∀ (k i : Nat) (s : Shared), n - i = k → i ≤ n → St i s →
      s.heap.SetOf (PySem.strKind prog w) S (fun k' => (xs.take i).any (· == k')) i →
      (∀ s', Moved (S :: wr) G s s' → s'.heap.SetOf (PySem.strKind prog w) S (fun k' => (xs.take n).any (· == k')) n → R (.ok (.ret .none)) s') →
      codeAny (model prog w) A (.builtin "set.update.loop" ⟨[.ref S, .ref I], []⟩) R s := by
  have hSw : S ∉ wr := fun h => hSf (W.sub _ h)
  have hsub : ∀ b ∈ wr, b ∈ S :: wr := fun b hb => List.mem_cons_of_mem _ hb
  intro k
  induction k with
  | zero =>
    intro i s hk hi hst hS hR
    have hin : i = n := by omega
    subst hin
    refine codeAny_builtin PyProof.Rows.F.entry_set_update_loop ?_
    rw [Around.under_plainId PyProof.Rows.F.plain_set_update_loop _]
    show wpAny _ A.in1 (pyNext (.ref I) >>= _) _ _ s
    refine wpAny_bind (W.done s _ _ hst fun s' hm => ?_)
    show wpAny _ A.in1 (ret Value.none) _ _ s'
    exact wpAny_pure (hR s' (hm.mono hsub) (by
      obtain ⟨o, es, ep, t, ho, rest⟩ := hS
      exact ⟨o, es, ep, t, hm.heap S _ hSw ho, rest⟩))
  | succ k ih =>
    intro i s hk hi hst hS hR
    have hlt : i < n := by omega
    refine codeAny_builtin PyProof.Rows.F.entry_set_update_loop ?_
    rw [Around.under_plainId PyProof.Rows.F.plain_set_update_loop _]
    show wpAny _ A.in1 (pyNext (.ref I) >>= _) _ _ s
    refine wpAny_bind (W.item i s _ _ hlt hst fun v s' hP hst' hm => ?_)
    obtain ⟨t, rfl⟩ := hval i v hP
    have hS' : s'.heap.SetOf (PySem.strKind prog w) S (fun k' => (xs.take i).any (· == k')) i := by
      obtain ⟨o, es, ep, tb, ho, rest⟩ := hS
      exact ⟨o, es, ep, tb, hm.heap S _ hSw ho, rest⟩
    show wpAny _ A.in1 (holding [Value.str (xs.getD i Str.empty) t] (setAdd S (.str (xs.getD i Str.empty) t)) >>= _) _ _ s'
    refine wpAny_bind (wpAny_holding ?_)
    unfold setAdd
    refine wpAny_holding ?_
    refine wpAny_bind ((PySem.strKind prog w).pyHash (k := xs.getD i Str.empty) (strKind_is _ _ _ _) ?_)
    refine wpAny_setAddHashed_of (knd := PySem.strKind prog w) (s := { s' with toks := s'.toks + 1 }) (strKind_is _ _ _ _) rfl hS' (by omega) fun h' hsb hS2 => ?_
    have hSi : h'.SetOf (PySem.strKind prog w) S (fun k' => (xs.take (i + 1)).any (· == k')) (i + 1) := by
      have hix : i < xs.length := by omega
      have e1 : xs.getD i Str.empty = xs[i] := by rw [List.getD_eq_getElem?_getD, List.getElem?_eq_getElem hix]; rfl
      have e2 : xs.take (i + 1) = xs.take i ++ [xs[i]] := by rw [List.take_add_one, List.getElem?_eq_getElem hix]; rfl
      have no : ((xs.take i).any (· == xs[i])) = false := by
        cases hb : (xs.take i).any (· == xs[i]) with
        | false => rfl
        | true =>
          obtain ⟨y, hy, ey⟩ := List.any_eq_true.mp hb
          have ey2 : y = xs[i] := eq_of_beq ey
          rw [ey2] at hy
          obtain ⟨j, hj⟩ := List.mem_iff_getElem?.mp hy
          rw [List.getElem?_take] at hj
          by_cases hji : j < i
          · rw [if_pos hji] at hj
            obtain ⟨hjl, ej⟩ := List.getElem?_eq_some_iff.mp hj
            exact absurd ej (List.pairwise_iff_getElem.mp hnd j i hjl hix hji)
          · rw [if_neg hji] at hj
            cases hj
      refine SetOf_congr hS2 (fun k' => ?_) (by rw [e1, no]; rfl)
      rw [e1, e2, List.any_append]
      by_cases e : k' = xs[i]
      · subst e; simp
      · have hb : (xs[i] == k') = false := by simpa [beq_iff_eq] using (fun h' : xs[i] = k' => e h'.symm)
        simp [hb, e]
    refine wpAny_pure ⟨plainId_quiet PyProof.Rows.F.plain_set_update_loop _, ih (i + 1) _ (by omega) hlt (W.frame _ s' _ _ hst' (Nat.le_succ _) fun b hb o e => ?_) hSi fun s'' hm'' hS'' => ?_⟩
    · rw [hsb.2 b (fun h : b = S => hSf (by rw [← h]; exact hb))]; exact e
    · refine hR s'' (Moved.trans W.gtrans ((hm.mono hsub).then_heap (Nat.le_succ _) fun b o hb e => ?_) hm'') hS''
      rw [hsb.2 b (fun h : b = S => hb (by rw [h]; exact List.mem_cons_self))]; exact e
end

section
variable {prog : Program} {w : World} {A : Around} {E : Value → Shared → Prop} {s : Shared}
set_option maxHeartbeats 3200000 in
theorem call_set_strN {x : Str} {tx : Tok} {Q : Value → Shared → Prop}
    (hh : A.handled = none) (hnd : (signsOf x).Nodup) (hb : x.cps.size + 1 < scanBound)
    (h : ∀ (h' : Heap) (tk : Nat), h'.SetOf (PySem.strKind prog w) s.heap.objs.size (fun k' => ((signsOf x).take x.cps.size).any (· == k')) x.cps.size →
      (∀ b o, b < s.heap.objs.size → s.heap.get? b = some o → h'.get? b = some o) → Q (.ref s.heap.objs.size) { s with heap := h', toks := tk }) :
    wpAny (model prog w) A (call (.type "set") [.str x tx]) Q E s := by
  obtain ⟨c, tl, hmro⟩ := PySem.F.called_set.mro
  have hmade := PySem.F.called_set.made
  have hsub := PySem.F.called_set.sub
  refine wpAny_call (codeAny_of_tree ?_)
  show wpAny _ _ (callAny (.type "set") _) _ _ _
  refine wpAny_pure ⟨Code.quiet_builtin _ (by decide +kernel), codeAny_builtin PySem.F.entry_type_call ?_⟩
  rw [Around.under_plain (weight_type_call_type "set" [.str x tx] []) rfl]
  have h1 := PySem.F.called_set.notType
  have h2 := PySem.F.called_set.canCreate
  have hct := PySem.F.typeCall_set_1 (.str x tx)
  repeat (any_goals (first | assumption | wp_step))

  refine codeAny_mono (code_set_new_1 (.str x tx) (E := E) (Q₁ := fun obj s₁ => ∃ led : Bool, obj = .ref s.heap.objs.size ∧ s₁ = { s with heap := s.heap.push { cls := .type "set", dict := none, data := .set #[] 0 (.fresh 0 0 led) } }) fun led => ⟨led, rfl, rfl⟩) fun r s₁ hr => ?_
  cases r with
  | error e => exact hr
  | ok fl =>
    cases fl with
    | ret obj =>
      obtain ⟨led, rfl, rfl⟩ := hr
      have hS : (s.heap.push { cls := .type "set", dict := none, data := .set #[] 0 (.fresh 0 0 led) }).get? s.heap.objs.size = some { cls := .type "set", dict := none, data := .set #[] 0 (.fresh 0 0 led) } := Heap.get?_push_size _ rfl
      have hT : Shared.TypeIs { s with heap := s.heap.push { cls := .type "set", dict := none, data := .set #[] 0 (.fresh 0 0 led) } } (.ref s.heap.objs.size) "set" := ⟨_, hS, rfl⟩
      have hli := PySem.F.called_set.init.lookup
      have hbi := PySem.F.called_set.init.bind (.ref s.heap.objs.size)
      repeat (any_goals (first | assumption | wp_step))

      refine codeAny_mono (codeAny_call_builtin (R := wants (fun r s₂ => r = .none ∧ ∃ h' tk, s₂ = { s with heap := h', toks := tk } ∧
          h'.SetOf (PySem.strKind prog w) s.heap.objs.size (fun k' => ((signsOf x).take x.cps.size).any (· == k')) x.cps.size ∧
          (∀ b o, b < s.heap.objs.size → s.heap.get? b = some o → h'.get? b = some o)) E) PySem.F.called_set.init.plain PySem.F.entry_set_init (check_set_init_1 hT ?_)) fun r₂ s₂ hr₂ => ?_
      · have hsls : isSubtype (.type "str") (.type "set") = pure false := by rw [isSubtype_type]; kernel_rfl
        have hslf : isSubtype (.type "str") (.type "frozenset") = pure false := by rw [isSubtype_type]; kernel_rfl
        have hne : (Value.type "str" == Value.type "dict") = false := by decide
        unfold Builtin.«set.__init__» noKeywords Builtin.Frozenset.updateFrom
        generalize hPI : pyIter = PI
        wp_walk
        subst hPI
        refine wpAny_pyIter_str fun oI St W st0 => ?_
        refine wpAny_bind (wpAny_runValue ?_)
        have hh3 : A.in1.in1.in1.handled = none := by simp [hh]
        have hSf : s.heap.objs.size ∉ [(s.heap.push { cls := .type "set", dict := none, data := .set #[] 0 (.fresh 0 0 led) }).objs.size] := by
          rw [Heap.size_push]; simp
        have hsz : (signsOf x).length = x.cps.size := by simp [signsOf]
        have hval : ∀ (i : Nat) (v : Value), SignAt x i v → ∃ t, v = .str ((signsOf x).getD i Str.empty) t := fun i v hv => sign_at hv
        refine loopStrN ((W _ hh3).toS) s.heap.objs.size
          hSf (signsOf x) hsz hnd hb hval (x.cps.size - 0) 0 _ (by omega) (Nat.zero_le _)
          st0 ?hS0 ?hR
        case hS0 =>
          have hget : ((s.heap.push { cls := .type "set", dict := none, data := .set #[] 0 (.fresh 0 0 led) }).push oI).get? s.heap.objs.size
              = some { cls := .type "set", dict := none, data := .set #[] 0 (.fresh 0 0 led) } := Heap.get?_push_of_some _ hS
          exact PyProof.Rows.SetOf_congr ((PyProof.Rows.setObjOf_fresh (knd := PySem.strKind prog w) led).setOf hget (by unfold scanBound; omega)) (fun _ => rfl) rfl
        case hR =>
          intro s' hm hS'
          obtain ⟨h', g', d', tk', os'⟩ := s'
          have eg : g' = s.gens := hm.gens
          have ed : d' = s.drawn := hm.drawn
          have eo : os' = s.os := hm.os
          subst eg; subst ed; subst eo
          show wpAny _ _ _ _ _ _
          refine wpAny_pure ?_
          show wpAny _ _ (ret Value.none) _ _ _
          refine wpAny_pure ⟨rfl, h', tk', rfl, hS', fun b o hb e => ?_⟩
          have hb1 : b ≠ s.heap.objs.size := Nat.ne_of_lt hb
          have hb2 : b ≠ (s.heap.push { cls := .type "set", dict := none, data := .set #[] 0 (.fresh 0 0 led) }).objs.size := by
            rw [Heap.size_push]; exact Nat.ne_of_lt (Nat.lt_succ_of_lt hb)
          exact hm.heap b o (by simp only [List.mem_cons, List.mem_singleton, List.not_mem_nil, or_false, not_or]; exact ⟨hb1, hb2⟩) (Heap.get?_push_of_some _ (Heap.get?_push_of_some _ e))

      · cases r₂ with
        | error e => exact hr₂
        | ok fl₂ =>
          cases fl₂ with
          | ret r =>
            obtain ⟨rfl, h', tk, rfl, hS', hk'⟩ := hr₂
            repeat (any_goals (first | assumption | wp_step))
            exact h _ _ hS' hk'
          | _ => exact hr₂.elim
    | _ => exact hr.elim
end
end SS2
namespace L2
open PySem PySem.Spec PyProof.Rows
/-- len(set(x)), x a text without a sign twice -/
def tLenSetS (ta : TE) : TE := fun σ H Q => ta σ H fun x H1 => ∃ z : Str, x = .str z ∧ (SS2.signsOf z).Nodup ∧ z.cps.size ≤ 4000 ∧ Q (.int (z.cps.size : Nat)) H1
theorem pe_lenSetS {X : Cx} {a : Expr} {ta : TE} {p p2 q pos : Pos} (hg : Gl X "len") (hm : X.mg "len" = none) (hg2 : Gl X "set") (hm2 : X.mg "set" = none) (ha : PE X a ta) (hc : X.calm = true := by rfl)
    (na : starEach [a] X.env = (false, eval a X.env) :: starEach [] X.env := by rfl) : PE X (.Call (.Name "len" p) [.Call (.Name "set" p2) [a] [] q] [] pos) (tLenSetS ta) := by
  refine ⟨fun pins s σ H Q I h => ?_⟩
  refine Call_ (ld_blt I hg hm boot_len ?_)
  refine PyProof.Rows.callWith_builtin1 (PyProof.Rows.args_cons ?_ rfl) rfl rfl
  refine Call_ (ld_blt I hg2 hm2 boot_set ?_)
  refine PyProof.Rows.callWith_type1 (PyProof.Rows.args_cons (thn (ha.run pins s σ H _ I h) fun v s1 ⟨x, H1, I1, r1, q1⟩ => PyProof.Rows.args_nil ?_) na) na rfl
  obtain ⟨z, rfl, hnd, hz, q1⟩ := q1
  obtain ⟨t, rfl⟩ := r1
  refine SS2.call_set_strN (I1.ok.hd hc) hnd (by unfold scanBound; omega) fun h' tk hS hk => ?_
  refine PyProof.Rows.args_nil ?_
  obtain ⟨o, es, ep, tb, ho, hex, hd, _, _, _, hf, hn⟩ := hS
  have I2 : Inv X pins σ H1 { s1 with heap := h', toks := tk } := I1.kept fun b o e => hk b o (Heap.lt_size e) e
  exact call_len_set ho hex hd hf (by rw [hn] <;> omega) ⟨.int (z.cps.size : Nat), H1, I2.tok _, ⟨_, by rw [hn]⟩, q1⟩
end L2

/-! Dict comprehensions, class attributes, masks, signs in texts, all(..). -/
namespace L2
open PySem PySem.Spec PyProof.Rows
section
variable {J : It} {n : Nat} {G : Hp → Prop} {Y : Nat → V → Hp → Hp → Prop}
/-- i & (2 ^ k - 1) -/
def rAndM : R2 := fun x y H Q => ∃ (i : Int) (k : Nat), x = .int i ∧ y = .int (2 ^ k - 1) ∧ Q (.int (i % 2 ^ k)) H
theorem op_andM' {X : Cx} : OpR X (binaryOp .BitAnd) rAndM := op_andM
end
end L2
namespace DL
open PySem L2 StX
section
variable {K : PySem.W.Frag} [Tb K] {Z : ZX} {b u u' u'' : Wd} {σ : L2.St} {ds : DS} {n : Nat} {P : D → Nat → Prop} {te ta tb tk tv : TE} {tt : TT} {g : TG} {N : Nd}
/-- the key that a thing is -/
def keyD : D → Key → Prop
  | .int i, k => k = .inl i
  | .str x, k => k = .inr x
  | _, _ => False
theorem den_keyD {v : V} {d : D} {k : Key} (h : Den K u v d) (q : keyD d k) : v = kV k := by
  cases d <;> simp only [keyD] at q <;> first | exact q.elim | skip
  · subst q; exact den_int h
  · subst q; exact den_str h
theorem denK_keys : ∀ {kvs : List (Key × V)} {ys : List (Key × D)}, DenK K u kvs ys → kvs.map (·.1) = ys.map (·.1)
  | _, _, .nil => rfl
  | _, _, .cons _ r => by simp [denK_keys r]
theorem denK_len {kvs : List (Key × V)} {ys : List (Key × D)} (h : DenK K u kvs ys) : kvs.length = ys.length := by
  have := congrArg List.length (denK_keys h)
  simpa using this
theorem denK_app : ∀ {kvs : List (Key × V)} {ys : List (Key × D)} {k : Key} {v : V} {d : D}, DenK K u kvs ys → Den K u v d → DenK K u (kvs ++ [(k, v)]) (ys ++ [(k, d)])
  | _, _, _, _, _, .nil, r => .cons r .nil
  | _, _, _, _, _, .cons q t, r => .cons q (denK_app t r)
/-- len(set(x)) -/
theorem we_lenSet (h : We K Z te ds n fun d m => ∃ z : Str, d = .str z ∧ (SS2.signsOf z).Nodup ∧ z.cps.size ≤ 4000 ∧ P (.int (z.cps.size : Nat)) m) : We K Z (tLenSetS te) ds n P := fun b u σ Q e S k =>
  h b u σ _ e S fun v d u1 g s r ⟨z, hd, h1, h2, p⟩ => by
    subst hd
    cases den_str r
    exact ⟨z, rfl, h1, h2, k _ _ u1 g s (.int _) p⟩
theorem dens_bls : ∀ {vs : List V} {bs : List Bool}, Dens K u vs (bs.map D.bl) → vs = bs.map V.bl
  | [], [], _ => rfl
  | [], _ :: _, h => by cases h
  | _ :: _, [], h => by cases h
  | v :: vs, c :: bs, h => by
    cases h with
    | cons r rs =>
      rw [den_bl r, dens_bls rs]; rfl
/-- all([..]) -/
theorem all_bls {P : D → Prop} {bs : List Bool} (h : P (.bl (bs.all id))) : Cb K (rAll K) [.lst (bs.map .bl)] P := fun u vs Q ex rs k => by
  obtain ⟨v, rfl, r1⟩ := dens1 rs
  obtain ⟨a, ws, rfl, q, r2⟩ := den_lst r1
  obtain rfl := dens_bls r2
  exact ⟨a, bs, rfl, Evl.ex_l ex q, k _ _ u (.refl ex) (.bl _) h⟩
/-- i & 31 -/
theorem and31 {P : D → Prop} {i : Int} (h : P (.int (i % 32))) : Op K rAndM (.int i) (.int 31) P := fun u v w Q ex _ d1 d2 k => by
  cases den_int d1
  cases den_int d2
  exact ⟨i, 5, rfl, rfl, k _ _ u (.refl ex) (.int _) h⟩
theorem nin_sign {P : D → Prop} {c : Nat} {z : Str} (h : P (.bl (!decide (c ∈ z.cps.toList)))) : Op K rNotInS (.str ⟨#[c]⟩) (.str z) P := fun u v w Q ex _ d1 d2 k => by
  cases den_str d1
  cases den_str d2
  exact ⟨c, z, rfl, rfl, k _ _ u (.refl ex) (.bl _) h⟩
/-- C.f, a text -/
theorem we_cval {C : Addr} {mc u : Value} {f x : Str} (r : ClX.CRead K C mc) (c : ClX.CVal K C mc f (.str x) u) (h : We K Z te ds n fun d m => d = .cls C ∧ P (.str x) m) : We K Z (ClX.tCVal K te f) ds n P := fun b u1 σ Q e S k =>
  h b u1 σ _ e S fun v d u2 g s rr ⟨hd, p⟩ => by
    subst hd
    cases rr
    exact ⟨C, mc, .str x, u, rfl, r, c, k _ _ u2 g s (.str x) p⟩
end
end DL

/-! sorted(..) of numbers. -/
namespace DL
open PySem L2 StX
section
variable {K : PySem.W.Frag} [Tb K]
end
end DL

/-! enumerate(text). -/
namespace L2
open PySem PySem.Spec PyProof.Rows
/-- a text, sign by sign, each in a new pair -/
def Ites (x : Str) : It := ⟨fun i _ => i < x.cps.size, fun i H v H' => ∃ T c, v = .ref T ∧ H T = none ∧ H' = upd H T (.tup [.int (i : Nat), .str ⟨#[c]⟩]) ∧ x.cps[i]? = some c, fun i _ => x.cps.size ≤ i⟩
theorem turn_enumS {P : Program} {w : World} {K : PySem.W.Frag} {elts : List Expr} {kk : Nat} {tpos : Pos} (x : Str) (t : Tok) (e it : Addr) :
    Turn P w K (.Tuple elts kk tpos) (Ites x) [e, it] e (fun i h => (∃ old, IsEnum h e it ((i : Nat) : Int) old) ∧ h.IsStrIter it (strIterType x) x t i ∧ e ≠ it) where
  mem := by simp
  obj := fun i h st b hb => by
    obtain ⟨⟨old, he⟩, ⟨o, ho, hc, hd⟩, _⟩ := st
    have e' : b = e ∨ b = it := by simpa using hb
    rcases e' with z | z
    · rw [z]; exact ⟨_, he, fun v q => nomatch q⟩
    · rw [z]; exact ⟨o, ho, fun v q => by rw [hd] at q; cases q⟩
  keep := fun i h h' st k => let ⟨⟨old, he⟩, ⟨o, ho, r⟩, hne⟩ := st; ⟨⟨old, k e (by simp) _ he⟩, ⟨o, k it (by simp) o ho, r⟩, hne⟩
  item := by
    intro X hP hw hK hc i pins s σ H E I hf st hg
    subst hP hw hK
    obtain ⟨⟨old, he⟩, hit, hne⟩ := st
    have hel : e < s.heap.objs.size := Heap.lt_size he
    have hil : it < s.heap.objs.size := by obtain ⟨_, q, _⟩ := hit; exact Heap.lt_size q
    have D : Draws X.prog X.w X.A.in1 it [it] x.cps.size (fun i v => ∃ c u, x.cps[i]? = some c ∧ v = .str ⟨#[c]⟩ u) (fun i h => h.IsStrIter it (strIterType x) x t i) := Draws.text (A := X.A.in1) (show X.A.handled = none from I.ok.hd hc) it x t
    refine wpAny_pyNext_enum_itemD D he hit hg hne (by simpa using hne) fun v h' tk hv ho hit' hT hsz hk => ?_
    obtain ⟨c, u, hcx, rfl⟩ := hv
    refine ⟨_, rfl, wpAny_letOwnedTupleGo_enum (s := { s with heap := h', toks := tk + 1 }) ho fun h'' he' sb => ?_⟩
    have hT2 : h''.get? s.heap.objs.size = some { cls := .type "tuple", data := .seq #[.int i tk, .str ⟨#[c]⟩ u] } := (sb.2 _ (Nat.ne_of_gt hel)).trans hT
    have new : ObjOk X.prog X.w (upd H s.heap.objs.size (.tup [.int (i : Nat), .str ⟨#[c]⟩])) h'' s.heap.objs.size (.tup [.int (i : Nat), .str ⟨#[c]⟩]) :=
      ⟨by show 2 ≤ sizeLine; decide, [.int i tk, .str ⟨#[c]⟩ u], .cons ⟨_, rfl⟩ (.cons ⟨_, rfl⟩ .nil), ⟨_, hT2, rfl, _, rfl⟩⟩
    have I1 : Inv X pins σ (upd H s.heap.objs.size (.tup [.int (i : Nat), .str ⟨#[c]⟩])) { s with heap := h'', toks := tk + 1 } :=
      I.turnedNew (t' := tk + 1) (ch := [e, it]) (fun b ob hb q => (sb.2 b (fun z => hb (by simp [z]))).trans (hk b ob (fun z => hb (by simp [z])) (fun z => hb (by simp [z])) q)) hf (Nat.le_refl _) new
    refine ⟨.ref s.heap.objs.size, _, I1, rfl, ⟨_, c, rfl, I.hok.fresh (Nat.le_refl _), rfl, hcx⟩, ⟨⟨.str ⟨#[c]⟩ u, ?_⟩, ?_, hne⟩, fun b hb => ?_⟩
    · have e1 : ((i + 1 : Nat) : Int) = (i : Int) + 1 := by omega
      rw [e1]; exact he'
    · obtain ⟨o, h1, r⟩ := hit'
      exact ⟨o, (sb.2 it (Ne.symm hne)).trans h1, r⟩
    · have hb' : b < s.heap.objs.size := by
        have e' : b = e ∨ b = it := by simpa using hb
        rcases e' with z | z
        · rw [z]; exact hel
        · rw [z]; exact hil
      rw [upd_ne (Nat.ne_of_lt hb')]
      exact (hf b hb).1
  done := by
    intro X hP hw hK hc i pins s σ H E I hf st hg
    subst hP hw hK
    obtain ⟨⟨old, he⟩, hit, hne⟩ := st
    obtain ⟨f0, f1, f2, f3, f4, f5⟩ := hf it (by simp)
    have hno : x.cps[i]? = none := Array.getElem?_eq_none hg
    have D : Draws X.prog X.w X.A.in1 it [it] i (fun _ _ => False) (fun j h => j = i ∧ h.IsStrIter it (strIterType x) x t i) :=
      { live := fun _ _ st => let ⟨o, ho, _⟩ := st.2; ⟨o, ho⟩
        frame := fun _ _ _ st hk => let ⟨o, ho, r⟩ := st.2; ⟨st.1, o, hk it (by simp) o ho, r⟩
        item := fun j s Q E hi st _ => absurd st.1 (Nat.ne_of_lt hi)
        done := fun s Q E st hE => by
          cases ha : x.cps.all (· < 128)
          · have e2 : strIterType x = "str_iterator" := by simp [strIterType, ha]
            rw [e2] at st
            exact wpAny_nextOf_wide_end (A := X.A.in1) (show X.A.handled = none from I.ok.hd hc) st.2 hno hE
          · have e2 : strIterType x = "str_ascii_iterator" := by simp [strIterType, ha]
            rw [e2] at st
            exact wpAny_nextOf_ascii_end (A := X.A.in1) (show X.A.handled = none from I.ok.hd hc) st.2 hno hE }
    exact wpAny_pyNext_enum_endD D he ⟨rfl, hit⟩ fun h' eb => ⟨rfl, I.turned (t' := s.toks) (fun b o hb q => eb b o hb q) f0 f1 f3 f4 f5⟩
  self := fun A i s Q E st h => let ⟨⟨_, he⟩, _⟩ := st; wpAny_pyIter_enum he h
def iEnumS (ta : TA) : TI := fun σ H R => ta σ H fun vs H1 => ∃ x, vs = [.str x] ∧ R (Ites x) H1
theorem pi_enumS {X : Cx} {e : Expr} {ta : TA} {p pos tpos : Pos} {elts : List Expr} {kk : Nat} (hg : Gl X "enumerate") (hm : X.mg "enumerate" = none) (ha : PA X [e] ta) (hs : starEach [e] X.env = [(false, eval e X.env)] := by rfl) :
    PI X (.Tuple elts kk tpos) (.Call (.Name "enumerate" p) [e] [] pos) (iEnumS ta) := by
  refine ⟨fun pins s σ H R I h => ?_⟩
  refine Call_ (ld_blt I hg hm boot_enumerate (PyProof.Rows.callWith_type1 (thn (ha.run pos pins s σ H _ I h) fun us s1 ⟨vs, H1, I1, r1, q1⟩ => ?_) hs rfl))
  obtain ⟨x, ex, q⟩ := q1
  subst ex
  cases r1 with
  | cons r rr =>
    cases rr
    obtain ⟨t, rfl⟩ := r
    refine call_enumerate_str fun h' he hit hsz hk => wpAny_pyIter_enum he ?_
    have I2 : Inv X pins σ H1 { s1 with heap := h' } := I1.kept (t' := s1.toks) hk
    refine ⟨s1.heap.objs.size + 1, [s1.heap.objs.size + 1, s1.heap.objs.size], _, _, H1, rfl, I2, turn_enumS x t (s1.heap.objs.size + 1) s1.heap.objs.size, ⟨⟨.none, he⟩, hit, Nat.succ_ne_self _⟩, fun b hb => ?_, q⟩
    have e' : b = s1.heap.objs.size + 1 ∨ b = s1.heap.objs.size := by simpa using hb
    have hle : s1.heap.objs.size ≤ b := by
      rcases e' with z | z
      · rw [z]; exact Nat.le_add_right _ _
      · rw [z]; exact Nat.le_refl _
    exact I1.fpOk hle (I1.hok.fresh hle)
theorem walk_enumS {x : Str} : Walk (Ites x) x.cps.size (fun _ => True) (fun i H v H' => ∃ T c, v = .ref T ∧ H T = none ∧ H' = upd H T (.tup [.int (i : Nat), .str ⟨#[c]⟩]) ∧ x.cps[i]? = some c) :=
  ⟨fun _ _ hi _ => hi, fun _ _ => Nat.le_refl _, fun _ _ _ _ _ _ y => y⟩
end L2
namespace DL
open PySem L2 StX
section
variable {K : PySem.W.Frag} [Tb K] {Z : ZX} {ds : DS} {n : Nat} {Pl : List D → Nat → Prop}
theorem wi_enumS {t : TA} (h : Wa K Z t ds n fun ys m => ∃ x, ys = [.str x] ∧ Pl (enumD (signs x)) m) : Wi K Z (iEnumS t) ds n Pl := fun b u σ R e S k =>
  h b u σ _ e S fun vs d u1 g1 s1 r ⟨x, z, p⟩ => by
    subst z
    obtain ⟨v, rfl, r1⟩ := dens1 r
    clear r
    cases den_str r1
    refine ⟨x, rfl, k _ (enumD (signs x)) u1 _ _ g1 s1 p (by rw [enumD_len, signs_len]; exact walk_enumS) (fun _ _ _ => trivial) fun w i v A l e1 _ hi y => ?_⟩
    obtain ⟨T, c, rfl, hT, rfl, hc⟩ := y
    obtain ⟨g2, d2⟩ := gp_pair e1 hT (.int (i : Nat)) (.str (K := K) (u := w) ⟨#[c]⟩)
    exact ⟨_, _, rfl, enumD_get (by simp [signs, hc]), g2, d2⟩
end
end DL

/-! Own [ ], in and len of instances. -/
namespace L2
open PySem PySem.Spec PyProof.Rows LamX
/-- o[e], o an instance of C, whose __getitem__ keeps sp -/
def rIxO (C : Addr) (sp : Sp) : R2 := fun x y H Q => ∃ (a dx : Addr) (fs : List (Str × V)), x = .ref a ∧ H a = some (.ins C dx fs) ∧ sp [x, y] H Q E0
/-- e in o -/
def rInO (C : Addr) (sp : Sp) : R2 := fun y x H Q => ∃ (a dx : Addr) (fs : List (Str × V)), x = .ref a ∧ H a = some (.ins C dx fs) ∧ sp [x, y] H (fun z H' => ∃ b, z = .bl b ∧ Q (.bl b) H') E0
def rNotInO (C : Addr) (sp : Sp) : R2 := fun y x H Q => ∃ (a dx : Addr) (fs : List (Str × V)), x = .ref a ∧ H a = some (.ins C dx fs) ∧ sp [x, y] H (fun z H' => ∃ b, z = .bl b ∧ Q (.bl (!b)) H') E0
section
variable {X : Cx} {CX : CXT} {k : Nat} {C f : Addr} {fd : FuncData} {ps : List Str} {sp : Sp} {a b : Expr} {ta tb : TE} {pos : Pos}
/-- len(o) -/
def rLenO (C : Addr) (sp : Sp) : List V → Hp → VK → Prop := fun xs H Q => ∃ (a dx : Addr) (fs : List (Str × V)), xs = [.ref a] ∧ H a = some (.ins C dx fs) ∧ sp [.ref a] H (fun z H' => ∃ n : Int, z = .int n ∧ 0 ≤ n ∧ n < 2 ^ 62 ∧ Q (.int n) H') E0
end
end L2
namespace DL
open PySem L2 StX
section
variable {K : PySem.W.Frag} [Tb K] {C : Addr} {R : Rl} {P : D → Prop}
end
section
variable {K : PySem.W.Frag} [Tb K] {Z : ZX} {C : Addr} {R : Rl} {ds : DS} {n : Nat} {P : D → Nat → Prop} {te : TE}
end
end DL

/-! A stream that is a list of numbers: stores at any place, one made by a display. -/
namespace DL
open PySem L2 StX
section
variable {K : PySem.W.Frag} [Tb K] {Z : ZX} {b u u' u'' : Wd} {σ : L2.St} {ds : DS} {n : Nat} {P : D → Nat → Prop} {te tp ta tb tc : TE} {N : Nd} {len : Nat}
end
end DL

/-! A key def's call over the heap: it keeps all. -/
namespace L2
open PySem PySem.Spec PyProof.Rows
section
variable {P : Program} {w : World} {A : Around} {s : Shared} {E : Value → Shared → Prop} {fd : FuncData} {f t : Addr} {o : Obj} {x : Str} {p1 p2 p3 p4 p5 p6 p7 p8 : Pos} {kk : Nat} {items : Array Value} {i j a b : Int} {u u' : Tok}
end
/-- a before b: by the first number, then by the second -/
abbrev ordP {α : Type} (x y : α × (Int × Int)) : Bool := decide (x.2.1 < y.2.1 ∨ (x.2.1 = y.2.1 ∧ x.2.2 ≤ y.2.2))
/-- f is a def that returns the items i and j of its tuple -/
structure KeyFn (K : PySem.W.Frag) (f : Addr) (i j : Nat) : Prop where
  ex : ∃ (oc : Value) (od : Option Addr) (fd : FuncData) (osl : Array (Option Value)) (x : Str) (p1 p2 p3 p4 p5 p6 p7 p8 : Pos) (kk : Nat), K.lookup f = some ⟨oc, od, .func fd, osl⟩ ∧ PySem.W.codeIn K fd.code fd.qualname = true ∧
    fd.body = .stmts [.Return (some (.Tuple [.Subscript (.Name x p1) (.Constant (.int (i : Nat)) 0 p2) p3, .Subscript (.Name x p4) (.Constant (.int (j : Nat)) 0 p5) p6] kk p7)) p8] ∧ (∀ t, bindArgs fd ⟨[.ref t], []⟩ = pure [(x, .ref t)]) ∧
    fd.scope.names = [(x, .local)] ∧ fd.scope.isCoroutine = false ∧ fd.scope.isGenerator = false ∧ fd.scope.kind = .function ∧ (x == ("__debug__" : Str)) = false ∧ i < 1000 ∧ j < 1000
/-- sorted(xs, key=f) -/
def rSortedK (K : PySem.W.Frag) (f : Addr) (i j : Nat) : List V → List V → Hp → VK → Prop := fun vs zs H Q => ∃ (a : Addr) (bs : List (V × (Int × Int))), vs = [.ref a] ∧ zs = [.ref f] ∧ SqL K H a (bs.map (·.1)) ∧
  (∀ b ∈ bs, ∃ t ys, b.1 = .ref t ∧ SqT K H t ys ∧ ys[i]? = some (.int b.2.1) ∧ ys[j]? = some (.int b.2.2)) ∧ ∀ p, H p = none → Q (.ref p) (upd H p (.lst ((bs.mergeSort ordP).map (·.1))))
end L2

/-! sorted(tuple, key=def). -/
namespace L2
open PySem PySem.Spec PyProof.Rows
section
variable {prog : Program} {w : World} {A : Around} {E : Value → Shared → Prop} {s : Shared}
end
/-- sorted(xs, key=f), xs a tuple -/
def rSortedKT (K : PySem.W.Frag) (f : Addr) (i j : Nat) : List V → List V → Hp → VK → Prop := fun vs zs H Q => ∃ (a : Addr) (bs : List (V × (Int × Int))), vs = [.ref a] ∧ zs = [.ref f] ∧ SqT K H a (bs.map (·.1)) ∧
  (∀ b ∈ bs, ∃ t ys, b.1 = .ref t ∧ SqT K H t ys ∧ ys[i]? = some (.int b.2.1) ∧ ys[j]? = some (.int b.2.2)) ∧ ∀ p, H p = none → Q (.ref p) (upd H p (.lst ((bs.mergeSort ordP).map (·.1))))
end L2

/-! sorted(xs, key=def) over data. -/
namespace DL
open PySem L2 StX
section
variable {K : PySem.W.Frag} [Tb K] {Z : ZX} {u : Wd} {ds : DS} {n : Nat} {P : D → Nat → Prop} {te : TE} {f : Addr} {i j : Nat}
end
end DL

/-! Dicts that are frozen as soon as they are made; fresh lists and dicts put into slots. -/
namespace L2
open PySem PySem.Spec PyProof.Rows
/-- a new dict, from now on read alone -/
def tFrz (te : TE) : TE := fun σ H Q => te σ H fun v H' => ∃ d u, v = .ref d ∧ H' d = some u ∧ Mut (some u) ∧ ∀ od, Q v (upd H' d (.frz od u))
theorem pe_frz {X : Cx} {e : Expr} {te : TE} (h : PE X e te) : PE X e (tFrz te) := by
  refine ⟨fun pins s σ H Q I hw => ?_⟩
  refine thn (h.run pins s σ H _ I hw) fun v s1 ⟨x, H1, I1, r, d, u, ex, hd, mu, q⟩ => ?_
  obtain ⟨od, I2⟩ := I1.lock hd mu
  exact ⟨x, _, I2, r, q od⟩
/-- the dict in slot i, from now on read alone -/
def tFrzS (i : Nat) (t : TS) : TS := fun D σ H => ∃ d u, σ[i]? = some (some (.ref d)) ∧ H d = some u ∧ Mut (some u) ∧ ∀ od, t D σ (upd H d (.frz od u))
end L2
namespace DL
open PySem L2 StX
section
variable {K : PySem.W.Frag} [Tb K] {Z : ZX} {b u u' u'' : Wd} {σ : L2.St} {ds : DS} {n : Nat} {P : D → Nat → Prop} {te ta tb tc tk tv : TE} {tt tu : TT} {N : Nd} {ts t1 t2 : TS} {g : TG} {De : Ends}
/-- a value that goes into a slot: data, or a new thing that the def goes on with -/
inductive NewS (K : PySem.W.Frag) (u u' : Wd) : V → D → Prop
  | den {v : V} {d : D} : Den K u' v d → NewS K u u' v d
  | mls {p : Addr} {vs : List V} {xs : List D} : u.H1 p = none → u'.H0 p = none → ¬ u'.S p → u'.H1 p = some (.lst vs) → Dens K u' vs xs → NewS K u u' (.ref p) (.mls xs)
  | mdk {p : Addr} {vs : List (Key × V)} {xs : List (Key × D)} : u.H1 p = none → u'.H0 p = none → ¬ u'.S p → u'.H1 p = some (.dK vs) → DenK K u' vs xs → NewS K u u' (.ref p) (.mdk xs)
  | mob {p C dx : Addr} {fs : List (Str × V)} {gs : List (Str × D)} : u.H1 p = none → u'.H0 p = none → ¬ u'.S p → u'.H1 p = some (.ins C dx fs) → u'.H1 dx = some (.own p) → ¬ u'.S dx → DenF K u' fs gs → NewS K u u' (.ref p) (.mob p dx C gs)
def Wx (K : PySem.W.Frag) [Tb K] (Z : ZX) (te : TE) (ds : DS) (n : Nat) (P : D → Nat → Prop) : Prop :=
  ∀ (b u : Wd) (σ : L2.St) (Q : VK), u.n = n → Sd K Z b u σ ds → (∀ v d u', Gs u u' → StOk K u' → NewS K u u' v d → P d u'.n → Q v u'.H1) → te σ u.H1 Q
/-- .. frozen at once -/
theorem we_frz (h : Wx K Z te ds n fun d m => ∃ xs, d = .mdk xs ∧ P (.fdc xs) m) : We K Z (tFrz te) ds n P := fun b u σ Q e S k =>
  h b u σ _ e S fun v d u1 g1 s1 r ⟨xs, hd, p⟩ => by
    subst hd
    cases r with
    | den r => cases r
    | mdk h0 h1 h2 h3 h4 =>
      rename_i a vs
      refine ⟨a, .dK vs, rfl, h3, trivial, fun od => ?_⟩
      have hb : u.H1 a = none := h0
      have g2 : Gs u ⟨u1.S, u1.T, u1.n, u1.H0, upd u1.H1 a (.frz od (.dK vs))⟩ := g1.write hb h1
      have s2 : StOk K ⟨u1.S, u1.T, u1.n, u1.H0, upd u1.H1 a (.frz od (.dK vs))⟩ := s1.write h2
      have l2 : Le u1 ⟨u1.S, u1.T, u1.n, upd u1.H0 a (.frz od (.dK vs)), upd u1.H1 a (.frz od (.dK vs))⟩ := ⟨fun _ h => h, fun _ _ => rfl, ex_new h1⟩
      exact k _ _ ⟨u1.S, u1.T, u1.n, upd u1.H0 a (.frz od (.dK vs)), upd u1.H1 a (.frz od (.dK vs))⟩ (g2.settle hb h1 upd_same) (s2.settle h1 h2) (.fdc upd_same (h4.mono l2)) p
/-! ### dicts read -/
def valD : List (Key × D) → Key → Option D
  | [], _ => none
  | (f, d) :: r, k => if f = k then some d else valD r k
theorem denK_val : ∀ {kvs : List (Key × V)} {ys : List (Key × D)} {k : Key}, DenK K u kvs ys → (valV kvs k = none ∧ valD ys k = none) ∨ ∃ v d, valV kvs k = some v ∧ valD ys k = some d ∧ Den K u v d
  | _, _, _, .nil => .inl ⟨rfl, rfl⟩
  | _, _, k, .cons (f := f) (v := v) (d := d) (vs := vs) (ds := ds') h1 h2 => by
    by_cases q : f = k
    · exact .inr ⟨v, d, valV_pos q, if_pos q, h1⟩
    · rcases denK_val (k := k) h2 with ⟨a1, a2⟩ | ⟨v', d', a1, a2, a3⟩
      · exact .inl ⟨(valV_neg q).trans a1, (if_neg q).trans a2⟩
      · exact .inr ⟨v', d', (valV_neg q).trans a1, (if_neg q).trans a2, a3⟩
/-- the keys as data -/
def keyDt : Key → D
  | .inl i => .int i
  | .inr x => .str x
theorem den_keyDt {k : Key} : Den K u (kV k) (keyDt k) := by
  cases k with
  | inl i => exact .int i
  | inr x => exact .str x
end
end DL

/-! Lists, dicts and instances that a def is making: grown, stored into, read. -/
namespace PySem.AutoSeq1
end PySem.AutoSeq1
namespace L2
open PySem PySem.Spec PyProof.Rows
/-- xs.extend(a tuple) -/
def rExtT (K : PySem.W.Frag) : V → List V → Hp → VK → Prop := fun x vs H Q => ∃ l b xs zs, x = .ref l ∧ vs = [.ref b] ∧ H l = some (.lst xs) ∧ SqT K H b zs ∧ xs.length + zs.length ≤ sizeLine ∧ Q .non (upd H l (.lst (xs ++ zs)))
end L2
namespace DL
open PySem L2 StX
section
variable {K : PySem.W.Frag} [Tb K] {Z : ZX} {b u u' u'' : Wd} {σ : L2.St} {ds : DS} {n : Nat} {P : D → Nat → Prop} {te ta tb tc tk tv ti : TE} {tt tu : TT} {N : Nd} {ts t1 t2 : TS} {g : TG} {De : Ends} {C : Addr}
/-- x = xs.pop(k), xs.append(ys.pop(k)) .. : what is popped, and the list left -/
def Wp (K : PySem.W.Frag) [Tb K] (Z : ZX) (te : TE) (ds : DS) (n : Nat) (P : D → DS → Nat → Prop) : Prop :=
  ∀ (b u : Wd) (σ : L2.St) (Q : VK), u.n = n → Sd K Z b u σ ds → (∀ v d ds' u', Le u u' → Sd K Z b u' σ ds' → Den K u' v d → P d ds' u'.n → Q v u'.H1) → te σ u.H1 Q
/-! ### dicts and instances in the making -/
def putKD (kvs : List (Key × D)) (k : Key) (d : D) : List (Key × D) := if kvs.any (fun p => decide (p.1 = k)) then kvs.map (fun p => if p.1 = k then (k, d) else p) else kvs ++ [(k, d)]
end
end DL

/-! Defs with *args: their promise, calls, instances made by such an __init__; what is walked: a list or a tuple. -/
namespace L2
open PySem PySem.Spec PyProof.Rows StX
/-- def f(a, .., *v): what is left over stands in a new tuple -/
def starS (k : Nat) (sp : Sp) : Sp := fun vs H Q E => ∃ ws rest, vs = ws ++ rest ∧ ws.length = k ∧ rest.length ≤ sizeLine ∧ ∀ p, H p = Option.none → sp (ws ++ [V.ref p]) (upd H p (.tup rest)) Q E
def StarB (fd : FuncData) (ps : List Str) (pv : Str) : Prop := ∀ us rest : List Value, us.length = ps.length → bindArgs fd ⟨us ++ rest, []⟩ = (newTuple rest >>= fun t => pure (ps.zip us ++ [(pv, t)]))
theorem Fun.starB {K : PySem.W.Frag} {x qual pv : Str} {st : Stmt} {f : Addr} {fd : FuncData} {ps : List Str} (F : Fun K x qual st f fd)
    (h : ∀ (kV doc pm : Value) (an : Option Addr) (cdv ct : Value) (us rest : List Value), us.length = ps.length → bindArgs (PySem.W.fnOf x qual (defArgs st) (defBody st) (defScope st) .none kV doc pm an cdv ct) ⟨us ++ rest, []⟩ = (newTuple rest >>= fun t => pure (ps.zip us ++ [(pv, t)]))) : StarB fd ps pv := by
  obtain ⟨oc, od, kV, doc, pm, an, cdv, ct, osl, rfl, lk, hcd⟩ := F.ex
  exact h kV doc pm an cdv ct
theorem Fun.okStar {Pr : Program} {w : World} {K : PySem.W.Frag} {mg : Str → Option Value} {base : Heap} {x qual pv : Str} {st : Stmt} {f : Addr} {fd : FuncData} {N ps : List Str} {k : Nat} {sp : Sp} (F : Fun K x qual st f fd) (S : FnScope N (ps ++ [pv]) (defScope st)) (hb : StarB fd ps pv)
    (hbody : ∀ (cdv : Value) (A : Around) (outer : List Env) (s : Shared) (H : Hp) (vs : List V) (Q : VK) (E : XK), Room k (A.deeper (envOfC qual (defScope st) s.heap.objs.size f cdv)) → sp vs H Q E →
      ∃ t, PSs (cxOf CX0 Pr w K mg base N qual (defScope st) f cdv A outer s H E).nox (defBody st) t ∧ t { nx := fun _ H' => Q .non H', rt := Q } (start N vs) H) : FnR Pr w K mg base CX0 (k + 1) f (starS ps.length sp) := by
  obtain ⟨oc, od, kV, doc, pm, an, cdv, ct, osl, rfl, lk, hcd⟩ := F.ex
  refine fn_star lk hcd S cxUp_none hb fun A outer s H vs Q E hr hsp => ?_
  obtain ⟨t, h, q⟩ := hbody cdv A outer s H vs Q E hr hsp
  exact ⟨t, h.nox, q⟩
section
variable {X : Cx} {CX : CXT} {k i : Nat} {f C : Addr} {sp : Sp} {E : XK} {x : Str} {e fe : Expr} {es : List Expr} {te tf : TE} {t : TA} {p pos sp_ : Pos}
/-- C(*e) -/
def tMakeS (K : PySem.W.Frag) (C : Addr) (sp : Sp) (E : XK) (te : TE) : TE := fun σ H Q => te σ H fun y H1 => ∃ a xs, y = V.ref a ∧ (SqT K H1 a xs ∨ SqL K H1 a xs) ∧ ∀ x dx, H1 x = Option.none → H1 dx = Option.none → dx ≠ x →
  sp (V.ref x :: xs) (upd (upd H1 dx (.own x)) x (.ins C dx [])) (fun v H2 => v = .non ∧ Q (.ref x) H2) E
end
/-- a list or a tuple, walked -/
def iSeq (K : PySem.W.Frag) (te : TE) : TI := fun σ H R => iList K te σ H R ∨ iTup K te σ H R
end L2
namespace DL
open PySem L2 StX
open PyProof.Rows (envOfC)
section
variable {K : PySem.W.Frag} [Tb K] {Z : ZX} {b u u' u'' : Wd} {σ : L2.St} {ds : DS} {n : Nat} {P : D → Nat → Prop} {te ta tb tc tk tv ti : TE} {tt tu : TT} {N : Nd} {ts t1 t2 : TS} {g : TG} {De : Ends} {C : Addr} {Pl : List D → Nat → Prop}
variable {Pr : Program} {w : World} {mg : Str → Option Value} {base : Heap}
/-- a def with *args keeps its promise -/
theorem dokS {x qual pv : Str} {ps : List Str} {st : Stmt} {f : Addr} {fd : FuncData} {N : List Str} {k : Nat} {R : Rl} (F : Fun K x qual st f fd) (S : FnScope N (ps ++ [pv]) (defScope st)) (hb : StarB fd ps pv) (len : ∀ ds n P X, R ds n P X → ds.length = (ps ++ [pv]).length) (hNp : (ps ++ [pv]).length ≤ N.length)
    (hbody : ∀ (cdv : Value) (A : Around) (outer : List Env) (s : Shared) (H : Hp) (E : XK), Room k (A.deeper (envOfC qual (defScope st) s.heap.objs.size f cdv)) →
      ∃ t, PSs (cxOf CX0 Pr w K mg base N qual (defScope st) f cdv A outer s H E).nox (defBody st) t ∧ ∀ Z ds n P, R ds n P Z.X → Ws K Z t (startD N.length ds) n { nx := fun _ m => P .non m, rt := P }) : FnR Pr w K mg base CX0 (k + 1) f (starS ps.length (spD K R)) := by
  refine F.okStar S hb fun cdv A outer s H vs Q E hr ⟨u, ds, P, X, eh, e, st, r, h, q, xk⟩ => ?_
  obtain ⟨t, ht, hW⟩ := hbody cdv A outer s H E hr
  subst eh
  refine ⟨t, ht, hW ⟨E, X⟩ ds u.n P h u u _ _ rfl (sd_start e xk st r (by rw [r.len, len ds _ P X h]; exact hNp)) ⟨fun ds' v σ' _ S' p => q _ _ _ S'.gr S'.st .non p, fun d v v' g s r p => q v d v' g s r p, fun _ _ _ _ _ z => z.elim, fun _ _ _ _ _ z => z.elim⟩⟩
end
end DL

/-! enumerate(tuple). -/
namespace PySem
open Sem (wp)
open AutoSeq1 (wpAny_loadPart')
section
variable {prog : Program} {w : World} {A : Around} {E : Value → Shared → Prop} {s : Shared}
end
end PySem
namespace L2
open PySem PySem.Spec PyProof.Rows
/-- a tuple, each item in a new pair -/
def Itet (K : PySem.W.Frag) (a : Addr) : It :=
  ⟨fun i H => ∃ (xs : List V) (x : V), SqT K H a xs ∧ xs[i]? = some x, fun i H v H' => ∃ T x, v = .ref T ∧ H T = none ∧ H' = upd H T (.tup [.int (i : Nat), x]) ∧ ∀ xs, SqT K H a xs → xs[i]? = some x, fun i H => ∃ xs : List V, SqT K H a xs ∧ xs.length ≤ i⟩
def iEnumT (K : PySem.W.Frag) (ta : TA) : TI := fun σ H R => ta σ H fun vs H1 => ∃ a xs, vs = [.ref a] ∧ SqT K H1 a xs ∧ R (Itet K a) H1
/-- enumerate of a list or a tuple -/
def iEnumQ (K : PySem.W.Frag) (ta : TA) : TI := fun σ H R => iEnum K ta σ H R ∨ iEnumT K ta σ H R
end L2
namespace DL
open PySem L2 StX
section
variable {K : PySem.W.Frag} [Tb K] {Z : ZX} {b u u' u'' : Wd} {σ : L2.St} {ds : DS} {n : Nat} {Pl : List D → Nat → Prop}
end
end DL

/-! rows.setdefault(k, []).append(x) in a loop; a dict of tuple keys that sees no key twice. -/
namespace DL
open PySem L2 StX
section
variable {K : PySem.W.Frag} [Tb K] {Z : ZX} {b u u' u'' : Wd} {σ : L2.St} {ds : DS} {n : Nat} {P : D → Nat → Prop} {te ta tb tc tk tv ti : TE} {tt tu : TT} {N : Nd} {ts t1 t2 : TS} {g : TG} {De : Ends} {C : Addr} {Pl : List D → Nat → Prop}
def noMut (ds : DS) : Prop := ∀ (i : Nat) (d : D), ds[i]? = some (some d) → isMut d = false
/-! ### groups -/
def addG (k : Int) (x : D) : List (Int × List D) → List (Int × List D)
  | [] => [(k, [x])]
  | (k', l) :: r => if k' = k then (k', l ++ [x]) :: r else (k', l) :: addG k x r
def kAt (kx : Nat) : D → Int
  | .tup ys => match ys[kx]? with
    | some (.int k) => k
    | _ => 0
  | _ => 0
def grpD (kx : Nat) (xs : List D) : List (Int × List D) := xs.foldl (fun g x => addG (kAt kx x) x g) []
structure GE where
  k : Int
  a : Addr
  vs : List V
  ds : List D
/-- the groups at d as they stand -/
structure Grp (K : PySem.W.Frag) (b w : Wd) (d : Addr) (gl : List GE) (G : List (Int × List D)) : Prop where
  dd : w.H1 d = some (.dK (gl.map fun g => (Sum.inl g.k, V.ref g.a)))
  db : b.H1 d = none
  d0 : w.H0 d = none
  dS : ¬ w.S d
  ls : ∀ g ∈ gl, b.H1 g.a = none ∧ w.H0 g.a = none ∧ ¬ w.S g.a ∧ w.H1 g.a = some (.lst g.vs) ∧ Dens K w g.vs g.ds
  nd : (gl.map (·.a)).Nodup
  eq : gl.map (fun g => (g.k, g.ds)) = G
end
end DL

/-! A dict of tuple keys that sees no key twice; sorted(dict). -/
namespace DL
open PySem L2 StX
section
variable {K : PySem.W.Frag} [Tb K] {Z : ZX} {b u u' u'' : Wd} {σ : L2.St} {ds : DS} {n : Nat} {P : D → Nat → Prop} {te ta tb tc tk tv ti : TE} {tt tu : TT} {N : Nd} {ts t1 t2 : TS} {g : TG} {De : Ends} {C : Addr} {Pl : List D → Nat → Prop}
def kAs : Option D → Int
  | some (.int l) => l
  | _ => 0
def key13 : D → List Key
  | .tup [_, .tup ys] => [.inl (kAs ys[1]?), .inl (kAs ys[2]?)]
  | _ => []
/-- sorted(d), d's keys numbers -/
def rSortDI (K : PySem.W.Frag) : List V → Hp → VK → Prop := fun xs H Q => ∃ (a : Addr) (kvs : List (Key × V)) (ks : List Int), xs = [.ref a] ∧ Rd H a (.dK kvs) ∧ kvs.map (·.1) = ks.map Sum.inl ∧ ks.length < 64 ∧
    ∀ (ys : List Int) (p : Addr), ys.Perm ks → ys.Pairwise (· ≤ ·) → H p = none → Q (.ref p) (upd H p (.lst (ys.map V.int)))
end
end DL
namespace L2
end L2

/-! Static methods read off a class. -/
namespace ClX
open PySem PySem.Spec PyProof.Rows L2
/-- C.m is a staticmethod: its record at p, its def at g -/
structure SMet (K : PySem.W.Frag) (C : Addr) (mc : Value) (m : Str) (p g : Addr) : Prop where
  at_ : PySem.W.findCls K (.ref C) mc m = some (.get (.builtin "staticmethod.__get__") (.ref p) .none (.ref C))
  rc : ∃ rest, PySem.W.recIn K p "staticmethod" = some (.ref g :: rest)
  kp : PySem.W.keepIn K (.ref g) = true
section
variable {X : Cx} {pins : List (Addr × Obj)} {σ : L2.St} {H : Hp} {s : Shared} {a C p g : Addr} {mc : Value} {f m : Str} {v : V} {u : Value} {A : Around} {E : Value → Shared → Prop}
def tSMeth (C : Addr) (sp : Sp) (E : XK) (ta : TE) (t : TA) : TE := fun σ H Q => ta σ H fun x H1 => x = .ref C ∧ t σ H1 fun vs H2 => sp vs H2 Q E
variable {CX : CXT} {k : Nat} {sp : Sp} {o e : Expr} {es : List Expr} {ta : TE} {t : TA} {apos pos : Pos} {EX : XK}
end
end ClX
namespace DL
open PySem L2 StX
section
variable {K : PySem.W.Frag} [Tb K] {Z : ZX} {b u u' u'' : Wd} {σ : L2.St} {ds : DS} {n : Nat} {P : D → Nat → Prop} {te ta tb tc tk tv ti : TE} {N : Nd} {C : Addr} {R : Rl} {E : XK}
end
end DL

/-! tuple(d): the keys; dict comprehensions whose keys come again. -/
namespace L2
open PySem PySem.Spec PyProof.Rows
section
variable {X : Cx}
end
end L2
namespace DL
open PySem L2 StX
section
variable {K : PySem.W.Frag} [Tb K] {Z : ZX} {b u u' u'' : Wd} {σ : L2.St} {ds : DS} {n : Nat} {P : D → Nat → Prop} {te ta tb tc tk tv : TE} {tt tu : TT} {N : Nd} {ts t1 t2 : TS} {g : TG} {De : Ends}
def rTupD (K : PySem.W.Frag) : List V → Hp → VK → Prop := fun xs H Q => ∃ (a : Addr) (kvs : List (Key × V)), xs = [.ref a] ∧ Rd H a (.dK kvs) ∧ ∀ p, H p = none → Q (.ref p) (upd H p (.tup (kvs.map fun kv => kV kv.1)))
theorem dens_keys {u : Wd} : ∀ {kvs : List (Key × V)} {ys : List (Key × D)}, DenK K u kvs ys → Dens K u (kvs.map fun kv => kV kv.1) (ys.map fun p => keyDt p.1)
  | _, _, .nil => .nil
  | _, _, .cons _ t => .cons den_keyDt (dens_keys t)
theorem denK_map {u : Wd} {k : Key} {v : V} {d : D} (r : Den K u v d) : ∀ {kvs : List (Key × V)} {ys : List (Key × D)}, DenK K u kvs ys → DenK K u (kvs.map fun kv => if kv.1 = k then (kv.1, v) else kv) (ys.map fun p => if p.1 = k then (k, d) else p)
  | _, _, .nil => .nil
  | _, _, .cons (f := f) q t => by
    rw [List.map_cons, List.map_cons]
    by_cases e : f = k
    · simp only [e, if_true]
      exact .cons r (denK_map r t)
    · simp only [e, if_false]
      exact .cons q (denK_map r t)
theorem denK_put {u : Wd} {kvs : List (Key × V)} {ys : List (Key × D)} {k : Key} {v : V} {d : D} (h : DenK K u kvs ys) (r : Den K u v d) : DenK K u (putK kvs k v) (putKD ys k d) := by
  have e : (kvs.any fun kv => decide (kv.1 = k)) = ys.any fun p => decide (p.1 = k) := by
    have z := congrArg (fun l : List Key => l.any fun x => decide (x = k)) (denK_keys h)
    simp only [List.any_map] at z
    exact z
  unfold putK putKD
  rw [e]
  by_cases q : (ys.any fun p => decide (p.1 = k)) = true
  · rw [if_pos q, if_pos q]
    exact denK_map r h
  · rw [if_neg q, if_neg q]
    exact denK_app h r
theorem wx_dcP {wi : TI} {vs : List Nat} (h : Wi K Z wi ds n fun xs m => ∃ Iv : Nat → List (Key × D) → Nat → Prop, Iv 0 [] m ∧
    (∀ i x ys k, xs[i]? = some x → Iv i ys k → Wgc K Z g vs x (wipeD ds vs) fun ds2 => Wt K Z tt ds2 k fun c j => if c = true then We K Z tk ds2 j (fun y l => We K Z tv ds2 l fun z q => ys.length < 1000000 ∧ ∃ kk, keyD y kk ∧ Iv (i + 1) (putKD ys kk z) q) else Iv (i + 1) ys j) ∧
    (∀ ys k, Iv xs.length ys k → P (.mdk ys) k)) : Wx K Z (tDc wi g tt tk tv vs) ds n P := fun b u σ Q e S k =>
  h b u σ _ e S fun J xs u1 G Y g1 s1 ⟨Iv, i0, is, idn⟩ w hG hY => fun Dl hD => by
    have n0 : u1.H0 Dl = none := ex_none g1.c hD
    have nS : ¬ u1.S Dl := fun h => by
      obtain ⟨_, o, h1, _⟩ := s1 Dl h
      rw [hD] at h1; cases h1
    let Pv : Nat → Hp → Prop := fun i H' => ∃ w ys acc, w.H1 = H' ∧ Gs u1 w ∧ StOk K w ∧ w.H0 Dl = none ∧ ¬ w.S Dl ∧ H' Dl = some (.dK acc) ∧ DenK K w acc ys ∧ Iv i ys w.n
    have start : Pv 0 (upd u1.H1 Dl (.dK [])) := ⟨⟨u1.S, u1.T, u1.n, u1.H0, upd u1.H1 Dl (.dK [])⟩, [], [], rfl, (Gs.refl g1.c).write hD n0, s1.write nS, n0, nS, upd_same, .nil, i0⟩
    have hGG : ∀ i H, i ≤ xs.length → Pv i H → G H := fun i H' _ ⟨w, ys, acc, eh, g', _⟩ => eh ▸ hG w g'.ls g'.c
    refine ⟨fun i m H => m = xs.length - i ∧ i ≤ xs.length ∧ Pv i H, ⟨xs.length, by simp, Nat.zero_le _, start⟩, ?_⟩
    rintro i m H ⟨rfl, hi, p⟩
    have q := hGG i H hi p
    by_cases hlt : i < xs.length
    · refine .inr ⟨w.goes i H hlt q, Pv (i + 1), fun H' p' => ⟨xs.length - (i + 1), by omega, rfl, hlt, p'⟩, fun v H'' y0 => ?_⟩
      have y := w.yields i H v H'' hlt q y0
      obtain ⟨w, ys, acc, rfl, g', sw, c0, cS, hc, hr, iv⟩ := p
      obtain ⟨x, w', rfl, hx, g2, r⟩ := hY w i v H'' g'.ls g'.c sw hlt y
      have c1 := g2.g.nn c0 hc
      have cS1 := g2.g.ns cS hc
      have hc1 := g2.g.b _ _ cS hc
      have S1 := ((S.go g1 s1).go (g'.trans g2.g) (g2.st sw)).wipe vs
      have q := is i x ys w.n hx iv
      rw [← g2.n] at q
      refine q b w' (L2.wipe σ vs) v _ S1 r fun ds2 σ2 S2 l2 f2 q => ⟨wipe_of (l2.trans (wipe_length _ _)) f2, q b w' σ2 _ rfl S2 fun c u3 g3 s3 q3 => ?_⟩
      have c2 := g3.nn c1 hc1
      have cS2 := g3.ns cS1 hc1
      have hc2 := g3.b _ _ cS1 hc1
      cases c with
      | false => exact ⟨u3, ys, acc, rfl, (g'.trans g2.g).trans g3, s3, c2, cS2, hc2, hr.mono (g2.g.ls.trans g3.ls), q3⟩
      | true =>
        refine q3 b u3 σ2 _ rfl (S2.go g3 s3) fun vk dk u4 g4 s4 r4 q4 => q4 b u4 σ2 _ rfl ((S2.go g3 s3).go g4 s4) fun vz dz u5 g5 s5 r5 ⟨hl, kk, hk, p5⟩ => ?_
        have g45 := g4.trans g5
        have c3 := g45.nn c2 hc2
        have cS3 := g45.ns cS2 hc2
        have hc3 := g45.b _ _ cS2 hc2
        have hrr := hr.mono ((g2.g.ls.trans g3.ls).trans g45.ls)
        have l4 : Le u5 ⟨u5.S, u5.T, u5.n, u5.H0, upd u5.H1 Dl (.dK (putK acc kk vz))⟩ := ⟨fun _ h => h, fun _ _ => rfl, .refl _⟩
        refine ⟨acc, kk, den_keyD r4 hk, hc3, by rw [denK_len hrr]; exact Nat.lt_of_lt_of_le hl (by decide), ?_⟩
        exact ⟨⟨u5.S, u5.T, u5.n, u5.H0, upd u5.H1 Dl (.dK (putK acc kk vz))⟩, putKD ys kk dz, putK acc kk vz, rfl, (((g'.trans g2.g).trans g3).trans g45).write hD c3, s5.write cS3, c3, cS3, upd_same, (denK_put hrr r5).mono l4, p5⟩
    · have e : i = xs.length := by omega
      subst e
      obtain ⟨w', ys, acc, rfl, g', sw, c0, cS, hc, hr, iv⟩ := p
      refine .inl ⟨w.stops _ q, ?_⟩
      refine k _ (.mdk ys) w' (g1.trans g') sw (.mdk ?_ c0 cS hc hr) (idn ys _ iv)
      cases q : u.H1 Dl with
      | none => rfl
      | some o => exact absurd hD (g1.b' Dl (by rw [q]; simp))
end
end DL
namespace L2
end L2

/-! a dict in a list or a tuple of texts: never. -/
namespace L2
open PySem PySem.Spec PyProof.Rows PySem.SeqAt
end L2
namespace L2
open PySem PySem.Spec PyProof.Rows PySem.SeqAt
/-- d in a list or a tuple of texts -/
def rInU (K : PySem.W.Frag) : R2 := fun x y H Q => ∃ (a p : Addr) (kvs : List (Key × V)) (zs : List Str), x = .ref a ∧ Rd H a (.dK kvs) ∧ y = .ref p ∧ (SqL K H p (zs.map V.str) ∨ SqT K H p (zs.map V.str)) ∧ Q (.bl false) H
end L2
namespace L2
open PySem PySem.Spec PyProof.Rows
def rInQ (K : PySem.W.Frag) : R2 := fun x y H Q => rInP K x y H Q ∨ rInU K x y H Q
end L2
namespace DL
open PySem L2 StX
section
variable {K : PySem.W.Frag} [Tb K] {P : D → Prop} {a b : D}
end
end DL

/-! Generators whose consumer changes what it likes of its own. -/
namespace L2
open PySem PySem.Spec PyProof.Rows GenW
/-- asleep: all but C stands as it was -/
structure Zzz (C : List Addr) (s s' : Shared) : Prop where
  o : s'.os = s.os
  g : AllBare s'.gens
  k : ∀ b ob, b ∉ C → s.heap.get? b = some ob → s'.heap.get? b = some ob
section
variable {X : Cx} {ip : List (Addr × Obj)} {σ : L2.St} {H : Hp} {s s' : Shared} {C : List Addr}
theorem Inv.asleep (I : Inv X ip σ H s) (hf : ∀ b ∈ C, FpOk X ip H b) (z : Zzz C s s') : Inv X ip σ H s' := by
  have nc : ∀ b u, H b = some u → b ∉ C := fun b u e m => by rw [(hf b m).1] at e; cases e
  have lc : X.env.locals ∉ C := fun m => (hf _ m).2.1 rfl
  obtain ⟨z1, z2, z3⟩ := z
  obtain ⟨hp, ge, dr, tk, os⟩ := s'
  obtain rfl : os = s.os := z1
  refine I.step (g' := ge) (t' := tk) (d' := dr) (ch := C) (fun b m => ⟨(hf b m).2.2.2.1, (hf b m).2.1, (hf b m).2.2.2.2.1, (hf b m).2.2.2.2.2⟩)
    (fun b ob _ _ m e _ => z3 b ob m e) (fun b ob _ _ m e _ => ⟨_, z3 b ob m e⟩) (fun _ _ _ _ e => e) (fun b ob m e => ⟨_, z3 b ob m e⟩) (fun _ _ e => e) (fun _ _ _ e => e) (fun b ps e => ⟨#[], by simp [e]⟩) (fun m hm => ?_) (fun b u e => ?_) z2
  · obtain ⟨ob, es, ep, e, r⟩ := hm
    exact ⟨ob, es, ep, z3 _ _ lc e, r⟩
  · refine (I.hok b u e).stay (fun c v hc y => z3 c v ?_ y) (fun _ y => y) fun _ _ y => y
    rcases hc with y | y
    · rw [y]; exact nc b u e
    · exact nc c _ y
/-- what stood stands, but own -/
abbrev Stood (own : Addr → Prop) (s s' : Shared) : Prop := ∀ b ob, ¬ own b → s.heap.get? b = some ob → s'.heap.get? b = some ob
/-- an expression that changes nothing -/
structure PureE (X : Cx) (e : Expr) (r : L2.St → Hp → V → Prop) : Prop where
  run : ∀ (pins : List (Addr × Obj)) (s : Shared) (σ : L2.St) (H : Hp) (v : V) (Q : Value → Shared → Prop) (E : Value → Shared → Prop), Inv X pins σ H s → r σ H v → (∀ u k, RelV v u → Q u { s with toks := k }) → wpAny (model X.prog X.w) X.A (eval e X.env) Q E s
/-- self._f -/
def rdFld (K : PySem.W.Frag) (i : Nat) (f : Str) : L2.St → Hp → V → Prop := fun σ H v => ∃ a C dx fs, σ[i]? = some (some (.ref a)) ∧ H a = some (.ins C dx fs) ∧ Cls K C ∧ NoAttr K C f ∧ fs.lookup f = some v
end
end L2

/-! Generators, their consumer with objects of his own: how these stand when ys are out -/
namespace ZG
open PySem PySem.Spec PyProof.Rows GenW L2
structure Cons where
  C : List Addr
  R : List V → List (Addr × Obj) → Prop
  ad : ∀ {ys : List V} {P : List (Addr × Obj)}, R ys P → P.map (·.1) = C
/-- they stand so -/
def Held (P : List (Addr × Obj)) (s : Shared) : Prop := ∀ p ∈ P, s.heap.get? p.1 = some p.2 ∧ ∀ v, p.2.data ≠ .cell v
def ApartC (X : Cx) (S : Cons) : Prop := ∀ b ∈ S.C, X.s_0.heap.objs.size ≤ b ∧ b ≠ X.env.locals ∧ ∀ x c, X.env.cells.lookup x = some c → c ≠ b
def GIz (X : Cx) (S : Cons) (ip : List (Addr × Obj)) (ys : List V) (σ : L2.St) (H : Hp) (s : Shared) : Prop := ∃ P, S.R ys P ∧ Inv X (P ++ ip) σ H s
section
variable {X : Cx} {S : Cons} {ip : List (Addr × Obj)} {ys : List V} {σ : L2.St} {H : Hp} {s s' : Shared}
theorem GIz.at (h : GIz X S ip ys σ H s) : ∃ P, S.R ys P ∧ Held P s ∧ ∀ c ∈ S.C, H c = none ∧ c ≠ X.env.locals ∧ c ∉ X.fs := by
  obtain ⟨P, r, I⟩ := h
  have hp : ∀ p ∈ P, _ := fun p m => I.pin p (List.mem_append_right _ (List.mem_append_left _ m))
  refine ⟨P, r, fun p m => ⟨(hp p m).1, (hp p m).2.2.2.2⟩, fun c m => ?_⟩
  rw [← S.ad r] at m
  obtain ⟨p, mp, rfl⟩ := List.mem_map.mp m
  exact ⟨(hp p mp).2.1, (hp p mp).2.2.1, (hp p mp).2.2.2.1⟩
/-- woken again -/
theorem GIz.woken {ys' : List V} {P' : List (Addr × Obj)} (hpn : ∀ p ∈ X.pn, p.1 ∉ S.C) (hip : ∀ p ∈ ip, p.1 ∉ S.C) (hA : ApartC X S) (h : GIz X S ip ys σ H s) (z : Zzz S.C s s') (hR : S.R ys' P') (hp' : Held P' s') : GIz X S ip ys' σ H s' := by
  obtain ⟨_, _, _, hc⟩ := h.at
  obtain ⟨P, r, I⟩ := h
  have I0 : Inv X ip σ H s := I.pins_of fun p hp => I.pin p (List.mem_append_right _ (List.mem_append_right _ hp))
  have hf : ∀ b ∈ S.C, FpOk X ip H b := fun b m => ⟨(hc b m).1, (hc b m).2.1, (hc b m).2.2, .inr (hA b m).1, (hA b m).2.2, fun p hp e => by
    rcases List.mem_append.mp hp with q | q
    · exact hpn p q (e ▸ m)
    · exact hip p q (e ▸ m)⟩
  have J := I0.asleep hf z
  refine ⟨P', hR, J.pins_of fun p hp => ?_⟩
  rcases List.mem_append.mp hp with q | q
  · have m : p.1 ∈ S.C := by rw [← S.ad hR]; exact List.mem_map.mpr ⟨p, q, rfl⟩
    exact ⟨(hp' p q).1, (hc _ m).1, (hc _ m).2.1, (hc _ m).2.2, (hp' p q).2⟩
  · exact J.pin p (List.mem_append_right _ q)
end
/-! ### the protocol -/
def GY (X : Cx) (S : Cons) : Protocol := fun n s₀ v s kap =>
  ∃ ys x ip σ H, n + 1 + ys.length = sizeLine ∧ RelV x v ∧ GIz X S ip ys σ H s ∧ ∀ s' P', Zzz S.C s s' → S.R (ys ++ [x]) P' → Held P' s' → kap (.send .none) s'
def GR (X : Cx) (S : Cons) (Q : List V → VK) (F : Value → Shared → Prop) : GenEnd := fun n s₀ r s => match r with
  | .ok (.ret u) => ∃ ys v ip σ H, n + ys.length = sizeLine ∧ GIz X S ip ys σ H s ∧ RelV v u ∧ Q ys v H
  | .ok _ => False
  | .error e => F e s
/-- what is wanted behind a statement of a generator; the list: what is out so far -/
structure GEnds where
  nx : List V → L2.St → Hp → Prop
  rt : List V → VK
  bk : List V → L2.St → Hp → Prop := fun _ _ _ => False
  ct : List V → L2.St → Hp → Prop := fun _ _ _ => False
abbrev TGn := GEnds → List V → L2.St → Hp → Prop
def GEnds.at (D : GEnds) (ys : List V) : Ends := { nx := D.nx ys, rt := D.rt ys, bk := D.bk ys, ct := D.ct ys }
def GSP (X : Cx) (S : Cons) (ip : List (Addr × Obj)) (D : GEnds) (ys : List V) (f : Flow) (s : Shared) : Prop :=
  match f with
  | .next => ∃ σ H, GIz X S ip ys σ H s ∧ D.nx ys σ H
  | .brk => ∃ σ H, GIz X S ip ys σ H s ∧ D.bk ys σ H
  | .cont => ∃ σ H, GIz X S ip ys σ H s ∧ D.ct ys σ H
  | .ret u => ∃ v σ H, GIz X S ip ys σ H s ∧ RelV v u ∧ D.rt ys v H
/-- where the generator's code stands -/
structure GC (X : Cx) (S : Cons) (ip : List (Addr × Obj)) (A : Around) (c : Code) (fs : List Frame) (gd : Bool → Bool) : Prop where
  pn : ∀ p ∈ X.pn, p.1 ∉ S.C
  ip : ∀ p ∈ ip, p.1 ∉ S.C
  apart : ApartC X S
  over : A.over c fs = X.A
  split : splitAtGen fs = none
  guard : fs.any Frame.guarded = false
  gd : gd false = false
/-- what follows -/
structure GK (X : Cx) (S : Cons) (ip : List (Addr × Obj)) (A : Around) (R : GenEnd) (c : Code) (fs : List Frame) (K : Flow → Sem PySem.Fin) (J : Value → Sem PySem.Fin) (D : GEnds) : Prop where
  ok : ∀ (n : Nat) (ys : List V) (s₀ s : Shared) (f : Flow), n + ys.length = sizeLine → GSP X S ip D ys f s → Seg (model X.prog X.w) A R (GY X S) n s₀ c (K f) fs s
  exc : ∀ (n : Nat) (s₀ : Shared) (e : Value) (s : Shared), X.xe e s → Seg (model X.prog X.w) A R (GY X S) n s₀ c (J e) fs s
structure GS (X : Cx) (st : Stmt) (t : TGn) : Prop where
  run : ∀ (A : Around) (S : Cons) (ip : List (Addr × Obj)) (R : GenEnd) (n : Nat) (ys : List V) (s₀ : Shared) (c : Code) (fs : List Frame) (K : Flow → Sem PySem.Fin) (J : Value → Sem PySem.Fin) (gd : Bool → Bool) (lv : List Value → List Value) (s : Shared) (σ : L2.St) (H : Hp) (D : GEnds),
    GC X S ip A c fs gd → n + ys.length = sizeLine → GK X S ip A R c fs K J D → GIz X S ip ys σ H s → t D ys σ H →
    Seg (model X.prog X.w) A R (GY X S) n s₀ c ((exec st X.env).wrap K J gd lv) fs s
structure GSs (X : Cx) (st : List Stmt) (t : TGn) : Prop where
  run : ∀ (A : Around) (S : Cons) (ip : List (Addr × Obj)) (R : GenEnd) (n : Nat) (ys : List V) (s₀ : Shared) (c : Code) (fs : List Frame) (K : Flow → Sem PySem.Fin) (J : Value → Sem PySem.Fin) (gd : Bool → Bool) (lv : List Value → List Value) (s : Shared) (σ : L2.St) (H : Hp) (D : GEnds),
    GC X S ip A c fs gd → n + ys.length = sizeLine → GK X S ip A R c fs K J D → GIz X S ip ys σ H s → t D ys σ H →
    Seg (model X.prog X.w) A R (GY X S) n s₀ c ((execs st X.env).wrap K J gd lv) fs s

section
variable {X : Cx} {st : Stmt} {rest : List Stmt}
/-- a statement that hands out nothing -/
def tPlain (t : TS) : TGn := fun D ys σ H => t (D.at ys) σ H
theorem sp_gsp {S : Cons} {P : List (Addr × Obj)} {ip : List (Addr × Obj)} {s : Shared} {D : GEnds} {ys : List V} {f : Flow} (r : S.R ys P) (h : SP X (P ++ ip) (D.at ys) f s) : GSP X S ip D ys f s := by
  cases f with
  | next => obtain ⟨σ, H, I, q⟩ := h; exact ⟨σ, H, ⟨P, r, I⟩, q⟩
  | brk => obtain ⟨σ, H, I, q⟩ := h; exact ⟨σ, H, ⟨P, r, I⟩, q⟩
  | cont => obtain ⟨σ, H, I, q⟩ := h; exact ⟨σ, H, ⟨P, r, I⟩, q⟩
  | ret u => obtain ⟨v, σ, H, I, r1, q⟩ := h; exact ⟨v, σ, H, ⟨P, r, I⟩, r1, q⟩
theorem gs_ps {t : TS} (h : PS X st t) : GS X st (tPlain t) := by
  refine ⟨fun A S ip R n ys s₀ c fs K J gd lv s σ H D g hn k hI ht => ?_⟩
  obtain ⟨P, r, I⟩ := hI
  refine seg_wrap ?_
  rw [g.over]
  exact wpAny_mono (h.run _ s σ H (D.at ys) I ht) (fun f s' hs => k.ok n ys s₀ s' f hn (sp_gsp r hs)) fun x s' hx => k.exc n s₀ x s' hx
def tG0 : TGn := fun D ys σ H => D.nx ys σ H
theorem gss_nil : GSs X [] tG0 := by
  refine ⟨fun A S ip R n ys s₀ c fs K J gd lv s σ H D g hn k hI ht => ?_⟩
  exact seg_execs_nil (k.ok n ys s₀ s .next hn ⟨σ, H, hI, ht⟩)
def tGThen (t u : TGn) : TGn := fun D ys σ H => t { D with nx := fun ys' σ' H' => u D ys' σ' H' } ys σ H
theorem gss_cons {t u : TGn} (a : GS X st t) (b : GSs X rest u) : GSs X (st :: rest) (tGThen t u) := by
  refine ⟨fun A S ip R n ys s₀ c fs K J gd lv s σ H D g hn k hI ht => ?_⟩
  refine seg_execs_cons ?_
  refine a.run A S ip R n ys s₀ c fs _ J gd lv s σ H { D with nx := fun ys' σ' H' => u D ys' σ' H' } g hn ⟨fun n' ys' s₀' s' f hn' hs => ?_, k.exc⟩ hI ht
  cases f with
  | next =>
    obtain ⟨σ', H', I', q⟩ := hs
    exact b.run A S ip R n' ys' s₀' c fs K J gd lv s' σ' H' D g hn' k I' q
  | brk => exact k.ok n' ys' s₀' s' .brk hn' hs
  | cont => exact k.ok n' ys' s₀' s' .cont hn' hs
  | ret u => exact k.ok n' ys' s₀' s' (.ret u) hn' hs

/-! ### while -/
def tGWhile (c : TT) (tb : TGn) : TGn := fun D ys σ H => ∃ W : Nat → List V → L2.St → Hp → Prop, (∃ m, W m ys σ H) ∧ ∀ m ys σ H, W m ys σ H →
  c σ H fun b H1 => if b = true then ∃ N : List V → L2.St → Hp → Prop, (∀ ys' σ' H', N ys' σ' H' → ∃ m', m' < m ∧ W m' ys' σ' H') ∧ tb { D with nx := N, ct := N, bk := D.nx } ys σ H1 else D.nx ys σ H1
theorem gc_loop {S : Cons} {ip : List (Addr × Obj)} {A : Around} {c c' : Code} {fs : List Frame} {gd : Bool → Bool} {k : Result → Sem PySem.Fin} {l kp : List Value} {p : Pos} (g : GC X S ip A c fs gd) (hw : c'.weight = 0) (hu : c'.cUnits = 0) :
    GC X S ip A c' (.ret k none (gd false) l c p kp :: fs) id where
  pn := g.pn
  ip := g.ip
  apart := g.apart
  over := (over_loop hw hu).trans g.over
  split := by
    show (splitAtGen fs).map _ = none
    rw [g.split]; rfl
  guard := by
    show (gd false || fs.any Frame.guarded) = false
    rw [g.gd, g.guard]; rfl
  gd := rfl
/-- what a loop's call does with an exception that comes back -/
def cameBack (env : Env) (x : Value) : Sem Unit := do
  if (← field x 1) == Value.none then unsupported "frame.own-activation:exception-without-traceback"
  setFlight x env.frame
/-- an exception leaves the loop's code -/
theorem seg_cameBack {S : Cons} {ip : List (Addr × Obj)} {A : Around} {R : GenEnd} {c : Code} {fs : List Frame} {K : Flow → Sem PySem.Fin} {J : Value → Sem PySem.Fin} {gd : Bool → Bool} {lv : List Value → List Value} {D : GEnds} {n : Nat} {s₀ s : Shared} {e : Value}
    (g : GC X S ip A c fs gd) (k : GK X S ip A R c fs K J D) (h : cameBackBy (model X.prog X.w) X.A X.env X.xe e s) :
    Seg (model X.prog X.w) A R (GY X S) n s₀ c (((Sem.raise e : Sem Flow).onRaise (cameBack X.env)).wrap K J gd lv) fs s := by
  show Seg _ _ _ _ _ _ _ (((cameBack X.env e).bind fun _ => (Sem.raise e : Sem Flow)).wrap K J gd lv) _ _
  rw [Sem.bind_eq_wrap, Sem.wrap_wrap]
  refine seg_wrap ?_
  rw [g.over]
  exact wpAny_mono h (fun _ s' hx => k.exc n s₀ e s' hx) fun x s' hx => k.exc n s₀ x s' hx
end
section
variable {X : Cx} {e : Expr} {yp pos : Pos} {te : TE}
/-! ### yield -/
def tGYield (te : TE) : TGn := fun D ys σ H => ys.length < sizeLine ∧ te σ H fun x H1 => D.nx (ys ++ [x]) σ H1
theorem gs_yield (he : PE X e te) (hco : X.env.scope.isCoroutine = false := by rfl) (hi : interactive X.env = false := by rfl) : GS X (.Expr (.Yield (some e) yp) pos) (tGYield te) := by
  refine ⟨fun A S ip R n ys s₀ c fs K J gd lv s σ H D g hn k hI ht => ?_⟩
  obtain ⟨hlt, ht⟩ := ht
  obtain ⟨n, rfl⟩ : ∃ m, n = m + 1 := ⟨n - 1, by omega⟩
  obtain ⟨P, r, I⟩ := hI
  refine seg_Expr_Yield g.split g.gd g.guard ?_ hco hi
  rw [g.over]
  refine wpAny_mono (he.run _ s σ H _ I ht) (fun v s' hv => ?_) fun x s' hx => k.exc _ s₀ x s' hx
  obtain ⟨x, H1, I1, rv, q⟩ := hv
  have G1 : GIz X S ip ys σ H1 s' := ⟨P, r, I1⟩
  intro kap hk
  refine ⟨ys, x, ip, σ, H1, hn, rv, G1, fun s'' P' z hR hp => hk .none s'' ?_⟩
  refine k.ok n (ys ++ [x]) s'' s'' .next ?_ ⟨σ, H1, G1.woken g.pn g.ip g.apart z hR hp, q⟩
  rw [List.length_append, List.length_singleton]; omega

end
end ZG

/-! for within a generator -/
namespace PySem
open Sem (wp)
section
variable {prog : Program} {w : World} {A : Around} {R : GenEnd} {Y : Protocol} {n : Nat} {s₀ : Shared} {fs : List Frame} {s : Shared} {env : Env}
abbrev noteW (env : Env) : Value → Sem PySem.Fin := fun e => (do noteFrame e env; theTreesLotGoes e : Sem Unit).wrap (fun _ => .raise e) .raise id id
theorem noteW_eq (x : Value) : ((do noteFrame x env; theTreesLotGoes x : Sem Unit).bind fun _ => (Sem.raise x : Sem PySem.Fin)) = noteW env x := Sem.bind_eq_wrap _ _
theorem seg_block0 (h : Seg (model prog w) A R Y n s₀ (.block [] env) (.pure (.done .next)) fs s) : Seg (model prog w) A R Y n s₀ (.block [] env) ((model prog w).den (.block [] env)) fs s := h
/-- a turn of a for loop -/
theorem seg_forLoop {target : Expr} {it : Value} {body : List Stmt}
    (h : wpAny (model prog w) (A.over (.forLoop target it body [] env) fs) (pyNext it) (fun r s' => match r with
        | none => Seg (model prog w) A R Y n s₀ (.block [] env) (.pure (.done .next)) fs s'
        | some v => wpAny (model prog w) (A.over (.forLoop target it body [] env) fs) (letOwnedTupleGo target it v) (fun _ s1 => wpAny (model prog w) (A.over (.forLoop target it body [] env) fs) (assign target env v) (fun _ s2 =>
            Seg (model prog w) A R Y n s₀ (.forLoop target it body [] env) ((execs body env).wrap (fun f => match f with
              | .next | .cont => .pure (.again (.forLoop target it body [] env))
              | .brk => .pure (.done .next)
              | .ret v => .pure (.done (.ret v))) (noteW env) id id) fs s2)
            (fun x s' => Seg (model prog w) A R Y n s₀ (.forLoop target it body [] env) (noteW env x) fs s') s1) (fun x s' => Seg (model prog w) A R Y n s₀ (.forLoop target it body [] env) (noteW env x) fs s') s')
      (fun x s' => Seg (model prog w) A R Y n s₀ (.forLoop target it body [] env) (noteW env x) fs s') s) :
    Seg (model prog w) A R Y n s₀ (.forLoop target it body [] env) ((model prog w).den (.forLoop target it body [] env)) fs s := by
  show Seg _ A R Y n s₀ _ ((forTurn target it body [] env).onRaise (fun x => do noteFrame x env; theTreesLotGoes x)) fs s
  unfold forTurn
  rw [Sem.onRaise_eq_wrap]
  refine seg_bind_wrap (wpAny_standAt ?_)
  refine seg_bind_wrap (wpAny_onRaise (wpAny_mono h (fun r s' hr => ?_) fun x s' hx => wpAny_standAt ?_))
  · cases r with
    | none => exact seg_again rfl (seg_block0 hr)
    | some v =>
      refine seg_bind_wrap (wpAny_mono hr (fun _ s1 h1 => ?_) fun x s1 hx => ?_)
      · refine seg_bind_wrap (wpAny_mono h1 (fun _ s2 h2 => ?_) fun x s2 hx => ?_)
        · rw [Sem.bind_eq_wrap', Sem.wrap_wrap]
          rw [Sem.wrap_congr (execs body env) _ _ (K' := fun f => match f with
              | .next | .cont => .pure (.again (.forLoop target it body [] env))
              | .brk => .pure (.done .next)
              | .ret v => .pure (.done (.ret v))) (H' := noteW env) (fun f => by cases f <;> rfl) (fun e => by exact noteW_eq e)]
          exact h2
        · show Seg _ _ _ _ _ _ _ _ _ _
          rw [noteW_eq]; exact hx
      · show Seg _ _ _ _ _ _ _ _ _ _
        rw [noteW_eq]; exact hx
  · show Seg _ _ _ _ _ _ _ _ _ _
    rw [noteW_eq]; exact hx
end
end PySem
namespace ZG
open PySem PySem.Spec PyProof.Rows GenW L2
section
variable {X : Cx}
def tGFor (wi : TI) (g : TG) (tb : TGn) : TGn := fun D ys σ H => wi σ H fun J H1 => ∃ W : Nat → Nat → List V → L2.St → Hp → Prop, (∃ m, W 0 m ys σ H1) ∧ ∀ i m ys σ H, W i m ys σ H →
  (J.stop i H ∧ D.nx ys σ H) ∨ (J.go i H ∧ ∃ N : List V → L2.St → Hp → Prop, (∀ ys' σ' H', N ys' σ' H' → ∃ m', m' < m ∧ W (i + 1) m' ys' σ' H') ∧ ∀ v H', J.yld i H v H' → g v σ H' fun σ2 H2 => tb { D with nx := N, ct := N, bk := D.nx } ys σ2 H2)
theorem gs_for {tg iter : Expr} {body : List Stmt} {wi : TI} {g : TG} {tb : TGn} {pos : Pos} (hp : PassesOwn (model X.prog X.w) X.A X.env X.xe) (hc : X.calm = true) (hi : PI X tg iter wi) (hg : PG X tg g) (hb : GSs X body tb)
    (hs : ∀ x, foldedSetIterable iter X.env x = pure x := by intro _; rfl) : GS X (.For tg iter body [] pos) (tGFor wi g tb) := by
  refine ⟨fun A S ip R n ys s₀ c fs K J gd lv s σ H D g' hn k hI ht => ?_⟩
  rw [exec_For]
  show Seg _ _ _ _ n s₀ c (.at pos fun _ => (eval iter X.env >>= fun y => (foldedSetIterable iter X.env y >>= fun x => (standAt iter.pos >>= fun _ => (holding [x] (pyIter x) >>= fun it => runOwn (.forLoop tg it body [] X.env) X.env)))).wrap K J gd lv) fs s
  refine seg_at ?_
  obtain ⟨P, r, I⟩ := hI
  refine seg_bind_wrap ?_
  rw [g'.over]
  refine wpAny_mono (hi.run _ s σ H _ I ht) (fun v s1 h1 => ?_) fun x s' hx => k.exc n s₀ x s' hx
  refine seg_bind_wrap (wpAny_of_eq (hs v) ?_)
  refine seg_bind_wrap (wpAny_standAt (seg_bind_wrap (wpAny_holding ?_)))
  rw [g'.over]
  refine wpAny_mono h1 (fun itv s2 h2 => ?_) fun x s' hx => k.exc n s₀ x s' hx
  obtain ⟨it, fp, tn, Jt, H2, e, I2, T, st2, f2, W, ⟨m0, w0⟩, turn⟩ := h2
  subst e
  refine seg_call fun p => ?_
  have gl := fun (kk : Result → Sem PySem.Fin) => gc_loop (k := kk) (c' := .forLoop tg (.ref it) body [] X.env) (l := lv []) (kp := []) (p := p) g' rfl rfl
  have gl0 := fun (kk : Result → Sem PySem.Fin) => gc_loop (k := kk) (c' := .block [] X.env) (l := lv []) (kp := []) (p := p) g' rfl rfl
  have fpC : ∀ b ∈ fp, b ∉ S.C := fun b m hC => by
    rw [← S.ad r] at hC
    obtain ⟨q, mq, eq⟩ := List.mem_map.mp hC
    exact (f2 b m).2.2.2.2.2 q (List.mem_append_right _ (List.mem_append_left _ mq)) eq
  have stat : ∀ {P' : List (Addr × Obj)} {ys' : List V} {H' : Hp}, S.R ys' P' → (∀ b ∈ fp, H' b = none) → ∀ b ∈ fp, FpOk X (P' ++ ip) H' b := fun {P' ys' H'} hR hn b m => by
    obtain ⟨q1, q2, q3, q4, q5, q6⟩ := f2 b m
    refine ⟨hn b m, q2, q3, q4, q5, fun x hx => ?_⟩
    rcases List.mem_append.mp hx with y | y
    · exact q6 x (List.mem_append_left _ y)
    · rcases List.mem_append.mp y with y | y
      · intro z
        exact fpC b m (by rw [← S.ad hR, ← z]; exact List.mem_map.mpr ⟨x, y, rfl⟩)
      · exact q6 x (List.mem_append_right _ (List.mem_append_right _ y))
  have loop : ∀ (m i n : Nat) (ys : List V) (s₀ s : Shared) (σ : L2.St) (H : Hp), n + ys.length = sizeLine → W i m ys σ H → GIz X S ip ys σ H s → tn i s.heap → (∀ b ∈ fp, H b = none) →
      Seg (model X.prog X.w) A R (GY X S) n s₀ (.forLoop tg (.ref it) body [] X.env) ((model X.prog X.w).den (.forLoop tg (.ref it) body [] X.env))
        (.ret (fun r => ((match r with | .ok f => (.pure f : Sem Flow) | .error e => .raise e).onRaise (cameBack X.env)).wrap K J gd lv) none (gd false) (lv []) c p [] :: fs) s := by
    intro m
    induction m using Nat.strongRecOn with
    | ind m ih =>
      intro i n ys s₀ s3 σ3 H3 hn w3 hI3 st3 fr3
      obtain ⟨P3, r3, I3⟩ := hI3
      have ee : ∀ (n : Nat) (s₀ : Shared) (x : Value) (s' : Shared), X.xe x s' → Seg (model X.prog X.w) A R (GY X S) n s₀ (.forLoop tg (.ref it) body [] X.env) (noteW X.env x)
          (.ret (fun r => ((match r with | .ok f => (.pure f : Sem Flow) | .error e => .raise e).onRaise (cameBack X.env)).wrap K J gd lv) none (gd false) (lv []) c p [] :: fs) s' := fun n s₀ x s' hx => by
        refine seg_wrap ?_
        rw [(gl _).over]
        refine wpAny_bind (wpAny_mono (hp x s' hx) (fun _ s'' hcb => wpAny_theTreesLotGoes ?_) fun y s'' hcb => ?_)
        · exact seg_leaf (.error x) (seg_cameBack g' k hcb)
        · exact seg_leaf (.error y) (seg_cameBack g' k hcb)
      refine seg_forLoop ?_
      rw [(gl _).over]
      rcases turn i m ys σ3 H3 w3 with ⟨stop, qn⟩ | ⟨go, N, hN, step⟩
      · refine wpAny_mono (T.done X rfl rfl rfl hc i _ s3 σ3 H3 X.xe I3 (stat r3 fr3) st3 stop) (fun rr s4 ⟨hr, I4⟩ => ?_) fun x s' hx => ee n s₀ x s' hx
        subst hr
        exact seg_leaf (.ok .next) (k.ok n ys s₀ s4 .next hn ⟨σ3, H3, ⟨P3, r3, I4⟩, qn⟩)
      · refine wpAny_mono (T.item X rfl rfl rfl hc i _ s3 σ3 H3 X.xe I3 (stat r3 fr3) st3 go) (fun rr s4 ⟨u, hr, h4⟩ => ?_) fun x s' hx => ee n s₀ x s' hx
        subst hr
        refine wpAny_mono h4 (fun _ s5 ⟨x, H5, I5, r5, y5, st5, fr5⟩ => ?_) fun x s' hx => ee n s₀ x s' hx
        have I5' := I5.pinned (stat r3 fr5) (T.obj _ _ st5)
        refine wpAny_mono (hg.run _ s5 σ3 H5 x u _ I5' r5 (step x H5 y5)) (fun _ s6 ⟨σ6, H6, I6, q6⟩ => ?_) fun x s' hx => ee n s₀ x s' hx
        have ip' : ∀ q ∈ ip ++ pinsAt fp s5.heap, q.1 ∉ S.C := fun q hq => by
          rcases List.mem_append.mp hq with y | y
          · exact g'.ip q y
          · exact fpC _ ((of_pinsAt y).1)
        have I6' : Inv X (P3 ++ (ip ++ pinsAt fp s5.heap)) σ6 H6 s6 := by rw [← List.append_assoc]; exact I6
        have again : ∀ {ys7 : List V} {σ7 : L2.St} {H7 : Hp} {s7 : Shared} {n' : Nat} {s₀' : Shared}, n' + ys7.length = sizeLine → GIz X S (ip ++ pinsAt fp s5.heap) ys7 σ7 H7 s7 → N ys7 σ7 H7 →
            Seg (model X.prog X.w) A R (GY X S) n' s₀' (.forLoop tg (.ref it) body [] X.env) (.pure (.again (.forLoop tg (.ref it) body [] X.env))) (.ret (fun r => ((match r with | .ok f => (.pure f : Sem Flow) | .error e => .raise e).onRaise (cameBack X.env)).wrap K J gd lv) none (gd false) (lv []) c p [] :: fs) s7 := fun {ys7 σ7 H7 s7 n' s₀'} hn' ⟨P7, r7, I7⟩ n7 => by
          obtain ⟨m', hm, w7⟩ := hN ys7 σ7 H7 n7
          refine seg_again rfl (ih m' hm (i + 1) n' ys7 s₀' s7 σ7 H7 hn' w7 ⟨P7, r7, I7.pins_of fun q hq => I7.pin q ?_⟩ ?_ fun b hb => ?_)
          · rcases List.mem_append.mp hq with y | y
            · exact List.mem_append_right _ (List.mem_append_left _ y)
            · exact List.mem_append_right _ (List.mem_append_right _ (List.mem_append_left _ y))
          · exact T.keep _ _ _ st5 fun b hb o e => (I7.pin (b, o) (List.mem_append_right _ (List.mem_append_right _ (List.mem_append_right _ (mem_pinsAt hb e))))).1
          · obtain ⟨o, e, d⟩ := T.obj _ _ st5 b hb
            exact (I7.pin (b, o) (List.mem_append_right _ (List.mem_append_right _ (List.mem_append_right _ (mem_pinsAt hb e))))).2.1
        have back : ∀ {ys7 : List V} {σ7 : L2.St} {H7 : Hp} {s7 : Shared}, GIz X S (ip ++ pinsAt fp s5.heap) ys7 σ7 H7 s7 → GIz X S ip ys7 σ7 H7 s7 := fun {ys7 σ7 H7 s7} ⟨P7, r7, I7⟩ => ⟨P7, r7, I7.pins_of fun q hq => I7.pin q (by
            rcases List.mem_append.mp hq with y | y
            · exact List.mem_append_right _ (List.mem_append_left _ y)
            · exact List.mem_append_right _ (List.mem_append_right _ (List.mem_append_left _ y)))⟩
        refine hb.run A S (ip ++ pinsAt fp s5.heap) R n ys s₀ _ _ _ _ id id s6 σ6 H6 { D with nx := N, ct := N, bk := D.nx } { (gl _) with ip := ip' } hn ⟨fun n' ys' s₀' s7 f hn' hs7 => ?_, fun n' s₀' x s7 hx => ee n' s₀' x s7 hx⟩ ⟨P3, r3, I6'⟩ q6
        cases f with
        | next => obtain ⟨σ7, H7, I7, n7⟩ := hs7; exact again hn' I7 n7
        | cont => obtain ⟨σ7, H7, I7, n7⟩ := hs7; exact again hn' I7 n7
        | brk => obtain ⟨σ7, H7, I7, q7⟩ := hs7; exact seg_leaf (.ok .next) (k.ok n' ys' s₀' s7 .next hn' ⟨σ7, H7, back I7, q7⟩)
        | ret v => obtain ⟨x7, σ7, H7, I7, r7, q7⟩ := hs7; exact seg_leaf (.ok (.ret v)) (k.ok n' ys' s₀' s7 (.ret v) hn' ⟨x7, σ7, H7, back I7, r7, q7⟩)
  exact loop m0 0 n ys s₀ s2 σ H2 hn w0 ⟨P, r, I2⟩ st2 fun b hb => (f2 b hb).1
end
end ZG

namespace ZG
open PySem PySem.Spec PyProof.Rows GenW L2
def REnd (P : Program) (w : World) (outer : List Env) (H : Hp) (s : Shared) (ex : List Addr) (S : Cons) (a : Addr) (g : Nat) (Q : List V → Hp → Prop) (E : XK) : GenEnd := fun n s₀ r s1 =>
  ((r = .ok (.ret .none) ∨ r = .ok .next) ∧ ∃ H' ys Pn, s1.os = s.os ∧ AllBare s1.gens ∧ Un (frs outer) ex H H' s.heap s1.heap ∧ HOk P w H' s1.heap ∧ (∀ c ∈ S.C, H' c = none) ∧ S.R ys Pn ∧ Held Pn s1 ∧ ys.length ≤ sizeLine ∧ Q ys H') ∨
  ∃ e, r = .error e ∧ CX P w outer H s E e s1 ∧ s1.heap.IsGen a g
def YItem (s : Shared) (S : Cons) (a : Addr) (g : Nat) : Protocol := fun n s₀ v s1 kap =>
  s1.os = s.os ∧ AllBare s1.gens ∧ s1.heap.NoLimit ∧ s1.heap.IsGen a g ∧ ∃ ys x Pn, n + 1 + ys.length = sizeLine ∧ RelV x v ∧ S.R ys Pn ∧ Held Pn s1 ∧ ∀ s' P', Zzz S.C s1 s' → S.R (ys ++ [x]) P' → Held P' s' → kap (.send .none) s'
def GMade (P : Program) (w : World) (k : Nat) (outer : List Env) (H : Hp) (s : Shared) (ex : List Addr) (Q : List V → Hp → Prop) (E : XK) (u : Value) (s' : Shared) : Prop :=
  ∃ (a : Addr) (g : Nat) (c : Code), u = .ref a ∧ s.heap.objs.size ≤ a ∧ a < s'.heap.objs.size ∧ s'.heap.IsGen a g ∧ s'.gens[g]? = some (.fresh c) ∧ s'.os = s.os ∧ AllBare s'.gens ∧ s'.heap.NoLimit ∧ (∀ b o, s.heap.get? b = some o → s'.heap.get? b = some o) ∧
    ∀ (A : Around) (S : Cons) (s2 : Shared), Room k A → A.frames = some outer → (∀ c ∈ S.C, s'.heap.objs.size ≤ c) → (∀ b o, s'.heap.get? b = some o → s2.heap.get? b = some o) → (∃ Pn, S.R [] Pn ∧ Held Pn s2) → s2.os = s.os → AllBare s2.gens →
      Seg (model P w) A (REnd P w outer H s ex S a g Q E) (YItem s S a g) sizeLine s2 c ((model P w).den c) [] s2
structure GFn (P : Program) (w : World) (K : PySem.W.Frag) (mg : Str → Option Value) (base : Heap) (k : Nat) (f : Addr) (fd : FuncData) (ps : List Str) (sp : SpG) : Prop where
  len : ∀ vs H Q E, sp vs H Q E → vs.length = ps.length
  run : ∀ (A : Around) (outer : List Env) (s : Shared) (H : Hp) (args : Args) (us : List Value) (vs : List V) (Q : List V → Hp → Prop) (E : XK), Room k A → Env0 P w K mg base A outer s H → BindsTo s fd args (ps.zip us) → Vals vs us → sp vs H Q E →
    codeAny (model P w) A (.call (.ref f) args) (fun r s' => match r with | .ok (.ret u) => GMade P w k outer H s [] Q E u s' | _ => False) s

/-- THE RULE: a generator def, by its body -/
theorem gfn_of {P : Program} {w : World} {K : PySem.W.Frag} {mg : Str → Option Value} {base : Heap} {k : Nat} {f : Addr} {name qual : Str} {params : Arguments} {body : List Stmt} {scope : Scope} {dV kV doc pm cdv ct oc : Value} {an od : Option Addr}
    {osl : Array (Option Value)} {N ps : List Str} {sp : SpG} (lk : K.lookup f = some ⟨oc, od, .func (PySem.W.fnOf name qual params body scope dV kV doc pm an cdv ct), osl⟩) (hcd : PySem.W.codeIn K cdv qual = true) (S : GScope N ps scope)
    (len : ∀ vs H Q E, sp vs H Q E → vs.length = ps.length)
    (hbody : ∀ (A : Around) (outer : List Env) (s : Shared) (H : Hp) (vs : List V) (Q : List V → Hp → Prop) (E : XK) (pn : List (Addr × Obj)), Room k (A.deeper (envOfC qual scope s.heap.objs.size f cdv)) → sp vs H Q E →
      ∃ t, GSs (gcxOf P w K mg base N qual scope f cdv A outer s H E pn) body t ∧ t { nx := fun ys _ H' => Q ys H', rt := fun ys v H' => v = .non ∧ Q ys H' } [] (start N vs) H) :
    GFn P w K mg base (k + 1) f (PySem.W.fnOf name qual params body scope dV kV doc pm an cdv ct) ps sp := by
  refine ⟨len, fun A outer s H args us vs Q E hr e0 hb r hsp => ?_⟩
  have hl := len _ _ _ _ hsp
  have KX : K.In s.heap := e0.mod.kin.keeps fun b o e => (e0.bs b o e).1
  have lim : s.heap.NoLimit := e0.mod.nolimit.keeps fun b o e => (e0.bs b o e).1
  have hkind : ∀ y ∈ ps.zip us, scope.names.lookup y.1 = some .local ∨ (scope.names.lookup y.1 = some .cell ∧ ((cellsFrom (s.heap.objs.size + 1) scope.names []).lookup y.1).isSome = true) := fun ⟨n, v⟩ hy => by
    rcases S.par n (List.of_mem_zip hy).1 with q | q
    · exact .inl q
    · exact .inr ⟨q, PySem.W.cellsFrom_some _ _ _ (.inl q)⟩
  refine codeAny_call_generator hr.depth (KX _ _ lk) rfl S.co S.gen rfl (PySem.W.codeRec_of KX hcd) (hb _ _ _ _ ?_)
  refine wpAny_newFunctionEnv_cells S.kind hkind fun env he s1 x => ?_
  subst he
  have lim1 : s1.heap.NoLimit := lim.keeps x.toInCall.keep
  refine ⟨lim1, ?_⟩
  obtain ⟨h1, tk, es1, hk1⟩ := x.done
  have os1 : s1.os = s.os := by rw [es1]
  have gen1 : s1.gens = s.gens := by rw [es1]
  have lt1 : s.heap.objs.size < s1.heap.objs.size := x.toInCall.ns.lt
  have sz1 : s.heap.objs.size ≤ s1.heap.objs.size := Nat.le_of_lt lt1
  have kp1 : ∀ b o, s.heap.get? b = some o → s1.heap.get? b = some o := x.toInCall.keep
  have main : ∀ (go : Obj) (nm qn : Value) (tk2 : Nat), go.cls = .type "generator" → go.data = .fields #[.int s1.gens.size 0, nm, qn] → go.slots = #[] → (∀ h : Heap, (h.push go).get? h.objs.size = some go) →
      GMade P w (k + 1) outer H s [] Q E (.ref s1.heap.objs.size) { s1 with gens := s1.gens.push (.fresh (.func body (envOfC qual scope s.heap.objs.size f cdv))), toks := tk2, heap := s1.heap.push go } := by
    intro go nm qn tk2 hgc hgd0 hgs hgp
    have hgen : ∀ h : Heap, h.get? s1.heap.objs.size = some go → h.IsGen s1.heap.objs.size s1.gens.size := fun h e => ⟨go, nm, qn, e, hgc, hgd0, hgs⟩
    have hpushed : (s1.heap.push go).get? s1.heap.objs.size = some go := hgp _
    refine ⟨s1.heap.objs.size, s1.gens.size, _, rfl, sz1, ?_, hgen _ hpushed, Array.getElem?_push_size .., os1, ?_, lim1.keeps fun b o e => Heap.get?_push_of_some _ e, fun b o e => Heap.get?_push_of_some _ (kp1 b o e), ?_⟩
    · show _ < (s1.heap.push _).objs.size
      rw [Heap.size_push]; exact Nat.lt_succ_self _
    · exact AllBare.push (by rw [gen1]; exact e0.bare) rfl
    intro Aw Sx s2 hrw hfr hSx hk2 hSo hos hba
    have e0w : Env0 P w K mg base Aw outer s H := ⟨hfr, e0.mod, e0.bs, e0.bsz, e0.funs, e0.frf, e0.hok, e0.bare⟩
    obtain ⟨t, ht, hq⟩ := hbody Aw outer s H vs Q E [(s1.heap.objs.size, go)] (hrw.deeper _) hsp
    have I1 : Inv (gcxOf P w K mg base N qual scope f cdv Aw outer s H E []) [] (start N vs) H s1 := inv_startG S hrw.hd e0w hl r x
    have kp2 : ∀ b o, s1.heap.get? b = some o → s2.heap.get? b = some o := fun b o e => hk2 b o (Heap.get?_push_of_some _ e)
    have I2 : Inv (gcxOf P w K mg base N qual scope f cdv Aw outer s H E []) [] (start N vs) H s2 :=
      I1.call' (ch := []) (hos.trans os1.symm) (Un.kept kp2) (I1.hok.kept kp2) hba fun b z => by simp at z
    have hSz : ∀ c ∈ Sx.C, s1.heap.objs.size < c := fun c m => by
      have hSx' : (s1.heap.push go).objs.size ≤ c := hSx c m
      rw [Heap.size_push] at hSx'
      exact hSx'
    obtain ⟨Pn, hRn, hHn⟩ := hSo
    have hea : s2.heap.get? s1.heap.objs.size = some go := hk2 s1.heap.objs.size go hpushed
    have hgd : ∀ v, go.data ≠ .cell v := fun v q => by rw [hgd0] at q; cases q
    have young : ∀ b, s1.heap.objs.size ≤ b → H b = none ∧ b ≠ s.heap.objs.size ∧ b ∉ frs outer ∧ s.heap.objs.size ≤ b ∧ ∀ y c, (cellsFrom (s.heap.objs.size + 1) scope.names []).lookup y = some c → c ≠ b := fun b hb => by
      refine ⟨I1.hok.fresh hb, Nat.ne_of_gt (Nat.lt_of_lt_of_le lt1 hb), I1.nofs hb, Nat.le_trans sz1 hb, fun y c e z => ?_⟩
      obtain ⟨v, ob, ho, _⟩ := I1.cell y c e
      have := Heap.lt_size ho
      rw [z] at this
      exact absurd (Nat.lt_of_lt_of_le this hb) (Nat.lt_irrefl _)
    have hSne : s1.heap.objs.size ∉ Sx.C := fun m => Nat.lt_irrefl _ (hSz _ m)
    have hG : GIz (gcxOf P w K mg base N qual scope f cdv Aw outer s H E [(s1.heap.objs.size, go)]) Sx [] [] (start N vs) H s2 := by
      refine ⟨Pn, hRn, Inv.pinnedG I2 fun p hp => ?_⟩
      rcases List.mem_append.mp hp with z | z
      · rw [List.mem_singleton.mp z]
        obtain ⟨y1, y2, y3, _, _⟩ := young s1.heap.objs.size (Nat.le_refl _)
        exact ⟨hea, y1, y2, y3, hgd⟩
      · rw [List.append_nil] at z
        have m : p.1 ∈ Sx.C := by rw [← Sx.ad hRn]; exact List.mem_map.mpr ⟨p, z, rfl⟩
        obtain ⟨y1, y2, y3, _, _⟩ := young p.1 (Nat.le_of_lt (hSz _ m))
        exact ⟨(hHn p z).1, y1, y2, y3, (hHn p z).2⟩
    have hAp : ApartC (gcxOf P w K mg base N qual scope f cdv Aw outer s H E [(s1.heap.objs.size, go)]) Sx := fun b m => by
      obtain ⟨_, y2, _, y4, y5⟩ := young b (Nat.le_of_lt (hSz b m))
      exact ⟨y4, y2, y5⟩
    have hpn : ∀ p ∈ [(s1.heap.objs.size, go)], p.1 ∉ Sx.C := fun p hp => by
      rw [List.mem_singleton.mp hp]
      exact hSne
    have pinned : ∀ {ip : List (Addr × Obj)} {ys : List V} {s' : Shared} {σ' : L2.St} {H' : Hp}, GIz (gcxOf P w K mg base N qual scope f cdv Aw outer s H E [(s1.heap.objs.size, go)]) Sx ip ys σ' H' s' → s'.heap.IsGen s1.heap.objs.size s1.gens.size := fun {ip ys s' σ' H'} hI => by
      obtain ⟨_, _, J⟩ := hI
      exact hgen _ (J.pin (s1.heap.objs.size, go) (List.mem_append_left _ (List.mem_singleton.mpr rfl))).1
    refine seg_func ?_
    refine seg_imp (R := GR (gcxOf P w K mg base N qual scope f cdv Aw outer s H E [(s1.heap.objs.size, go)]) Sx (fun ys v H' => v = .non ∧ Q ys H') fun e s' => CX P w outer H s E e s' ∧ ∀ p ∈ [(s1.heap.objs.size, go)], s'.heap.get? p.1 = some p.2)
      (Y := GY (gcxOf P w K mg base N qual scope f cdv Aw outer s H E [(s1.heap.objs.size, go)]) Sx) (fun n s₀ r s1' hR => ?_) (fun n s₀ v s1' kap kap' hkk hY => ?_) sizeLine ?_
    · cases r with
      | error e =>
        obtain ⟨q1, q2⟩ := hR
        exact .inr ⟨e, rfl, q1, hgen _ (q2 (s1.heap.objs.size, go) (List.mem_singleton.mpr rfl))⟩
      | ok fl =>
        cases fl with
        | next => exact False.elim hR
        | brk => exact False.elim hR
        | cont => exact False.elim hR
        | ret u =>
          obtain ⟨ys, v, ip, σ', H', hn, hI, rv, ev, hQ⟩ := hR
          subst ev
          have eu : u = Value.none := rv
          subst eu
          obtain ⟨Pn', hR', hH', hC'⟩ := hI.at
          obtain ⟨_, _, J⟩ := hI
          exact .inl ⟨.inl rfl, H', ys, Pn', J.os, J.bare, J.base, J.hok, fun c m => (hC' c m).1, hR', hH', by omega, hQ⟩
    · obtain ⟨ys, xx, ip, σ', H', hn, h2, hI, h3⟩ := hY
      obtain ⟨Pn', hR', hH', hC'⟩ := hI.at
      have hg := pinned hI
      obtain ⟨_, _, J⟩ := hI
      exact ⟨J.os, J.bare, J.nolimit, hg, ys, xx, Pn', hn, h2, hR', hH', fun s' P' z hR hp => hkk _ _ (h3 s' P' z hR hp)⟩
    · refine ht.run Aw Sx [] _ sizeLine [] s2 _ [] _ _ id id s2 (start N vs) H _ ⟨hpn, fun p hp => (by simp at hp), hAp, over_func, rfl, rfl, rfl⟩ (Nat.add_zero _) ⟨fun n ys s₀ s' fl hn hs => ?_, fun n s₀ e s' hx => ?_⟩ hG hq
      · cases fl with
        | next =>
          obtain ⟨σ', H', hI, hQ⟩ := hs
          exact seg_end (.ok (.ret .none)) ⟨ys, .non, [], σ', H', hn, hI, rfl, rfl, hQ⟩
        | brk => obtain ⟨_, _, _, q⟩ := hs; exact False.elim q
        | cont => obtain ⟨_, _, _, q⟩ := hs; exact False.elim q
        | ret u =>
          obtain ⟨v, σ', H', hI, rv, ev, hQ⟩ := hs
          exact seg_end (.ok (.ret u)) ⟨ys, v, [], σ', H', hn, hI, rv, ev, hQ⟩
      · refine seg_wrap ?_
        rw [over_func]
        refine wpAny_mono (show wpAny (model P w) (Aw.deeper (envOfC qual scope s.heap.objs.size f cdv)) (leaving (envOfC qual scope s.heap.objs.size f cdv) e) (fun _ s'' => CX P w outer H s E e s'' ∧ ∀ p ∈ [(s1.heap.objs.size, go)], s''.heap.get? p.1 = some p.2) (fun _ _ => False) s' from hx) (fun _ s'' q => ?_) fun _ s'' q => q.elim
        exact seg_end (.error e) q
  exact main _ _ _ _ rfl rfl rfl fun h => Heap.get?_push_size _ rfl
end ZG

/-! [x for x in g]: g a generator def's -/
namespace ZG
open PySem PySem.Spec PyProof.Rows GenW L2
structure PGen (X : Cx) (k : Nat) (e : Expr) (tg : TGen) (E : XK) : Prop where
  run : ∀ (pins : List (Addr × Obj)) (s : Shared) (σ : L2.St) (H : Hp) (cont : List V → Hp → Prop), Inv X pins σ H s → tg σ H cont → wpAny (model X.prog X.w) X.A (eval e X.env)
    (fun u s' => ∃ H1 sc ex, Inv X pins σ H1 sc ∧ ExOk X pins ex ∧ GMade X.prog X.w k X.stack H1 sc ex cont E u s') X.xe s
def NsO (o : Obj) (m : Str → Option Value) : Prop := ∃ es ep, o.data = .dict es ep ∧ StrKeys es ∧ ∀ name, nsFind es name = m name
/-- a list that is filled, and the comprehension's names -/
def consL (D L : Addr) : Cons where
  C := [D, L]
  R := fun ys P => ∃ acc c o m, P = [(D, lstObj acc c), (L, o)] ∧ Vals ys acc.toList ∧ NsO o m
  ad := fun ⟨_, _, _, _, e, _, _⟩ => by rw [e]; rfl
section
variable {X : Cx}
theorem lcz_core {k : Nat} {pins : List (Addr × Obj)} {s : Shared} {σ : L2.St} {H : Hp} {Q : VK} {iter : Expr} {x : Str} {px px' : Pos} {scope : Scope} {own : List (Str × Nat)} {pos pos' : Pos} {tg : TGen} {use : Option (Value → Sem Unit)} {Qf : Value → Shared → Prop}
    (hr : Room (k + 1) X.A) (hN : X.N.Nodup) (I : Inv X pins σ H s) (hi : PGen X k iter tg (fun _ _ _ => False)) (ok : BlkOk X.N X.env.scope scope own)
    (hxl : (relabel scope X.env).names.lookup x = some .local) (hfun : (relabel scope X.env).kind = .function) (hd : (x == ("__debug__" : Str)) = false) (hs : ∀ y, foldedSetIterable iter X.env y = pure y)
    (h : tg σ H fun ys H2 => ∀ p, H2 p = none → Q (.ref p) (upd H2 p (.lst ys)))
    (hRR : ∀ D C s' m H', Inv X pins σ H' s' → Q (.ref D) H' → s'.heap.Ns C m → FpOk X pins H' C → compPost (model X.prog X.w) X.A X.xe use Qf (.ref D) C (.ok .next) s') :
    wpAny (model X.prog X.w) X.A (comprehension (.ListComp (.Name x px') [⟨.Name x px, iter, [], 0⟩] scope pos) scope X.env pos' (newList []) false (eval iter X.env) use) Qf X.xe s := by
  have hfree : ∀ y ∈ scope.names, y.2 = .free → ∃ c, X.env.cells.lookup y.1 = some c := fun y hy e => by
    rcases ok.free y hy e with k | k
    · exact I.ok.has _ (.inl k)
    · exact I.ok.has _ (.inr k)
  refine wpAny_comprehension_free (use := use) rfl hs (closure_ok hfree) ok.kind (fun y hy e => by rw [ok.uniq y hy, e])
    (thn (hi.run pins s σ H _ I h) fun u s2 hx => ?_)
  obtain ⟨H2, sc, ex, Ic, hex, ⟨a, gn, cd, hu, ha1, ha2, hgen, hfr, hos, hbare, hnl, hkp, wake⟩⟩ := hx
  subst hu
  refine wpAny_pyIter_gen hgen ?_
  refine wpAny_newObj_type (newEnv_comp ?_) (by show 0 ≤ sizeLine; decide)
  generalize hD : s2.heap.objs.size = D
  generalize hs3 : ({ s2 with heap := s2.heap.push { cls := .type "list", data := .seq ([] : List Value).toArray } } : Shared) = s3
  have h3 : s3.heap = s2.heap.push { cls := .type "list", data := .seq ([] : List Value).toArray } := by rw [← hs3]
  have g3 : s3.gens = s2.gens := by rw [← hs3]
  have o3 : s3.os = s2.os := by rw [← hs3]
  have z3 : s3.heap.objs.size = D + 1 := by rw [h3, Heap.size_push, hD]
  generalize hL : s3.heap.objs.size = L
  have aD : a ≠ D := by rw [← hD]; exact Nat.ne_of_lt ha2
  have DL : D ≠ L := by rw [← hL, z3]; exact Nat.ne_of_lt (Nat.lt_succ_self _)
  have aL : a ≠ L := by rw [← hL, z3, ← hD]; exact Nat.ne_of_lt (Nat.lt_succ_of_lt ha2)
  show codeAny _ _ (.compStart (.ListComp (.Name x px') [⟨.Name x px, iter, [], 0⟩] scope pos) 0 (.ref a) (.ref D) (compEnvC scope (cellsFrom (L + 1) scope.names (cloFrom X.env.cells scope.names [])) L X.env)) (compPost (model X.prog X.w) X.A X.xe use Qf (.ref D) L) { s3 with heap := pushCells (s3.heap.push { cls := .type "dict", data := .dict #[] }) scope.names }
  generalize hce : compEnvC scope (cellsFrom (L + 1) scope.names (cloFrom X.env.cells scope.names [])) L X.env = ce
  have cL : ce.locals = L := by rw [← hce]; rfl
  have ck : ce.kindOf x = some .local := by rw [← hce]; exact hxl
  have cf : ce.scope.kind = .function := by rw [← hce]; exact hfun
  have cp : (ce.scope.kind == .class || (ce.scope.kind == .module && ce.locals != ce.globals)) = false := by rw [cf]; rfl
  generalize hs4 : ({ s3 with heap := pushCells (s3.heap.push { cls := .type "dict", data := .dict #[] }) scope.names } : Shared) = s4
  have k34 : ∀ b o, (s3.heap.push { cls := .type "dict", data := .dict #[] }).get? b = some o → s4.heap.get? b = some o := fun b o e => by rw [← hs4]; exact pushCells_keeps _ _ _ _ e
  have k24 : ∀ b o, s2.heap.get? b = some o → s4.heap.get? b = some o := fun b o e => k34 b o (Heap.get?_push_of_some _ (by rw [h3]; exact Heap.get?_push_of_some _ e))
  have g4 : s4.gens = s2.gens := by rw [← hs4]; exact g3
  have o4 : s4.os = s2.os := by rw [← hs4]; exact o3
  have e4D : s4.heap.get? D = some (lstObj #[] 0) := k34 _ _ (Heap.get?_push_of_some _ (by rw [h3, ← hD]; exact Heap.get?_push_size _ rfl))
  have e4L : s4.heap.get? L = some { cls := .type "dict", data := .dict #[] } := k34 _ _ (by rw [← hL]; exact Heap.get?_push_size _ rfl)
  have hroom : Room k X.A.in1 := ⟨hr.hd, by have := hr.dp; show X.A.depth + 3 * k + 5 < recursionLimit; omega, by have := hr.un; show X.A.units + 1 + 16 * k + 200 < cLine; omega⟩
  have hh : X.A.handled = none := hr.hd
  have held0 : ∃ Pn, (consL D L).R [] Pn ∧ Held Pn (s4.setGen gn .running) := ⟨[(D, lstObj #[] 0), (L, { cls := .type "dict", data := .dict #[] })], ⟨#[], 0, _, fun _ => none, rfl, .nil, #[], 0, rfl, fun i hi => absurd hi (by simp), fun _ => rfl⟩, fun p hp => by
    rcases List.mem_cons.mp hp with rfl | hp
    · exact ⟨e4D, fun v z => by cases z⟩
    · obtain rfl : p = (L, _) := by simpa using hp
      exact ⟨e4L, fun v z => by cases z⟩⟩
  have seg0 := wake X.A.in1 (consL D L) (s4.setGen gn .running) hroom Ic.ok.frames (fun c m => by
    rcases List.mem_cons.mp m with rfl | m
    · exact Nat.le_of_eq hD
    · obtain rfl : c = L := by simpa using m
      omega) k24 held0 (o4.trans hos) (allBare_setGen (by rw [g4]; exact hbare) rfl)
  have gen4 : s4.heap.IsGen a gn := hgen.keeps k24
  have loop : codeAny (model X.prog X.w) X.A (.compLoop (.ListComp (.Name x px') [⟨.Name x px, iter, [], 0⟩] scope pos) 0 (.ref a) (.ref D) ce) (compPost (model X.prog X.w) X.A X.xe use Qf (.ref D) L) s4 := by
    refine compLoop_any (fun n s' => s'.heap.IsGen a gn ∧ s'.heap.NoLimit ∧ ∃ gs, s'.gens[gn]? = some gs ∧ gs.Goes (model X.prog X.w) X.A.in1 (REnd X.prog X.w X.stack H2 sc ex (consL D L) a gn (fun ys H2 => ∀ p, H2 p = none → Q (.ref p) (upd H2 p (.lst ys))) (fun _ _ _ => False)) (YItem sc (consL D L) a gn) n (.send .none) (s'.setGen gn .running)) ?_ sizeLine
      ⟨gen4, hnl.keeps k24, .fresh cd, by rw [g4]; exact hfr, rfl, seg0⟩
    rintro n s5 ⟨hg5, hl5, gs, hgs, hgo⟩
    have goes : ∀ {gs : GenState} {n : Nat} {r : Resume} {s : Shared}, gs.Goes (model X.prog X.w) X.A.in1 (REnd X.prog X.w X.stack H2 sc ex (consL D L) a gn (fun ys H2 => ∀ p, H2 p = none → Q (.ref p) (upd H2 p (.lst ys))) (fun _ _ _ => False)) (YItem sc (consL D L) a gn) n r s →
        gs.Goes (model X.prog X.w) X.A.in1 (fun n s₀ r s1 => ((r = .ok (.ret .none) ∨ r = .ok .next) ∧ (∃ H' ys Pn, s1.os = sc.os ∧ AllBare s1.gens ∧ Un (frs X.stack) ex H2 H' sc.heap s1.heap ∧ HOk X.prog X.w H' s1.heap ∧ (∀ c ∈ (consL D L).C, H' c = none) ∧ (consL D L).R ys Pn ∧ Held Pn s1 ∧ ys.length ≤ sizeLine ∧ ∀ p, H' p = none → Q (.ref p) (upd H' p (.lst ys)))) ∨
          ∃ e, r = .error e ∧ (CX X.prog X.w X.stack H2 sc (fun _ _ _ => False) e s1 ∧ s1.heap.IsGen a gn)) (YItem sc (consL D L) a gn) n r s := fun h => h
    have hgl : gn < s5.gens.size := (Array.getElem?_eq_some_iff.mp hgs).1
    refine wpAny_gsz (n := gn + 1) hgl (next_genG hh hl5 hr.depth hg5 hgs (goes hgo) (fun v s₁ gs' hbare' hv => ?_) (fun s₁ hp h' hk => ?_) fun e s₁ he => ?_)
    · -- an item
      intro hsz
      obtain ⟨os1, hb1, hl1, hg1, ys, y, Pn, hny, ry, ⟨acc, c, oL, m, hPn, rys, nsL⟩, hHeld, hkap⟩ := hv
      subst hPn
      have e1D : s₁.heap.get? D = some (lstObj acc c) := (hHeld (D, lstObj acc c) (by simp)).1
      have e1L : s₁.heap.get? L = some oL := (hHeld (L, oL) (by simp)).1
      have hlen := rys.length
      have hasz : acc.size = ys.length := by rw [hlen]; simp
      have hg6 : (s₁.setGen gn gs').gens[gn]? = some gs' := setGen_at (by
        have q : (s₁.setGen gn gs').gens.size = s₁.gens.size := setGen_size _ _ _
        have hsz' : gn + 1 ≤ (s₁.setGen gn gs').gens.size := hsz
        omega)
      obtain ⟨oa, nm, qn, ea, ca, da, sa⟩ := hg1
      refine go_of (o := oa) ea ca da (by decide) ?_
      have ns1 : (s₁.setGen gn gs').heap.Ns ce.locals m := by
        rw [cL]
        obtain ⟨es, ep, q1, q2, q3⟩ := nsL
        exact ⟨oL, es, ep, e1L, q1, q2, q3⟩
      refine wpAny_assign_Name (wpAny_storeName_local ck ns1 (fun h2 ns2 sb2 => ?_) cp)
      rw [cL] at ns2 sb2
      show wpAny _ _ (pure true) _ _ _
      refine wpAny_pure ?_
      rw [if_pos rfl]
      refine wpAny_Name (wpAny_loadName_local cf ck (by rw [cL]; exact ns2) (by rw [if_pos rfl]) ?_) hd
      have e2D : h2.get? D = some (lstObj acc c) := (sb2.2 D DL).trans e1D
      refine append_at (hsz := by rw [hasz]; omega) e2D fun h3' sb3 ho3 => ?_
      have k3 : ∀ b o, b ∉ [D, L] → s₁.heap.get? b = some o → h3'.get? b = some o := fun b o hb e => by
        have b1 : b ≠ D := fun z => hb (by simp [z])
        have b2 : b ≠ L := fun z => hb (by simp [z])
        exact (sb3.2 b b1).trans ((sb2.2 b b2).trans e)
      have e3L : ∃ o, h3'.get? L = some o ∧ NsO o (fun q => if q = x then some v else m q) := by
        obtain ⟨o, es, ep, q0, q1, q2, q3⟩ := ns2
        exact ⟨o, (sb3.2 L DL.symm).trans q0, es, ep, q1, q2, q3⟩
      obtain ⟨oL3, e3L, nsL3⟩ := e3L
      have hR3 : (consL D L).R (ys ++ [y]) [(D, lstObj (acc.push v) (c + 1)), (L, oL3)] := ⟨acc.push v, c + 1, oL3, _, rfl, by rw [Array.toList_push]; exact rys.append (.cons ry .nil), nsL3⟩
      have hc3 : ∀ w, oL3.data ≠ .cell w := fun w z => by
        obtain ⟨es, ep, q1, _⟩ := nsL3
        rw [z] at q1; cases q1
      generalize hs8 : ({ heap := h3', gens := (s₁.setGen gn gs').gens, drawn := (s₁.setGen gn gs').drawn, toks := (s₁.setGen gn gs').toks + 1, os := (s₁.setGen gn gs').os } : Shared) = s8
      have h8 : s8.heap = h3' := by rw [← hs8]
      have g8 : s8.gens = (s₁.setGen gn gs').gens := by rw [← hs8]
      have o8 : s8.os = s₁.os := by rw [← hs8]; rfl
      have fin := hkap (s8.setGen gn .running) _ ⟨o8, allBare_setGen (by rw [g8]; exact allBare_setGen hb1 hbare') rfl, fun b o hb e => by show s8.heap.get? b = _; rw [h8]; exact k3 b o hb e⟩ hR3 (fun p hp => by
        rcases List.mem_cons.mp hp with rfl | hp
        · exact ⟨by show s8.heap.get? D = _; rw [h8]; exact ho3, fun w z => by cases z⟩
        · obtain rfl : p = (L, oL3) := by simpa using hp
          exact ⟨by show s8.heap.get? L = _; rw [h8]; exact e3L, hc3⟩)
      cases n with
      | zero => exact False.elim fin
      | succ m' =>
        refine ⟨m', Nat.lt_succ_self _, ⟨oa, nm, qn, by rw [h8]; exact k3 a oa (by simp [aD, aL]) ea, ca, da, sa⟩, ?_, gs', by rw [g8]; exact hg6, fin⟩
        obtain ⟨mc, hns, hnn⟩ := hl1
        have hcl : cStatics < s2.heap.objs.size := let ⟨_, hn, _⟩ := hnl; hn.lt
        have c1 : cStatics ≠ D := by rw [← hD]; exact Nat.ne_of_lt hcl
        have c2 : cStatics ≠ L := by rw [← hL, z3, ← hD]; exact Nat.ne_of_lt (Nat.lt_succ_of_lt hcl)
        exact ⟨mc, hns.at' fun o e => by rw [h8]; exact k3 _ o (by simp [c1, c2]) e, hnn⟩
    · -- the end
      intro hsz
      obtain ⟨H', ys, Pn, os1, hb1, un, hok, hC, ⟨acc, c, oL, m, hPn, rys, nsL⟩, hHeld, hle, hQ⟩ := hp
      subst hPn
      have e1D : s₁.heap.get? D = some (lstObj acc c) := (hHeld (D, lstObj acc c) (by simp)).1
      have e1L : s₁.heap.get? L = some oL := (hHeld (L, oL) (by simp)).1
      have hS : sc.heap.objs.size ≤ D := by rw [← hD]; exact Nat.le_trans ha1 (Nat.le_of_lt ha2)
      have hS2 : sc.heap.objs.size ≤ L := by rw [← hL, z3]; exact Nat.le_succ_of_le hS
      have hD0 := hC D (by simp [consL])
      have hL0 := hC L (by simp [consL])
      refine hRR D L _ m (upd H' D (.lst ys)) (Ic.drained (s' := { s₁.setGen gn .finished with heap := h' }) hS hle (hk _ _ e1D) rys hex os1 (allBare_setGen hb1 rfl) (un.trans (Un.kept hk)) (hok.kept hk) hD0) (hQ D hD0) ?_ (Ic.fpOk hS2 (by rw [upd_ne DL.symm]; exact hL0))
      obtain ⟨es, ep, q1, q2, q3⟩ := nsL
      exact ⟨oL, es, ep, hk _ _ e1L, q1, q2, q3⟩
    · obtain ⟨⟨_, _, _, _, _, _, _, _, _, _, _, _, hW⟩, _⟩ := he
      exact hW.elim
  exact codeAny_compStart_list loop (wpAny_pyIter_gen gen4 loop)
end
end ZG

/-! calls of generator defs; the comprehension -/
namespace ZG
open PySem PySem.Spec PyProof.Rows GenW L2
section
variable {X : Cx} {k : Nat} {f C : Addr} {fd : FuncData} {ps : List Str} {sp : SpG} {dvs : List V} {ds : List Value} {x m : Str} {p pos pos' apos : Pos} {o : Expr} {ta : TE}
theorem run_gfn {pins : List (Addr × Obj)} {σ : L2.St} {H : Hp} {s : Shared} {us : List Value} {vs : List V} {cont : List V → Hp → Prop} {E : XK} {E1 : Value → Shared → Prop} (F : GFn X.prog X.w X.K X.mg X.base k f fd ps sp) (hr : Room k X.A) (hb : Binds X.K fd ps ds) (hd : Vals dvs ds)
    (I : Inv X pins σ H s) (r : Vals vs us) (h : sp (vs ++ dvs) H cont E) :
    wpAny (model X.prog X.w) X.A (call (.ref f) us) (fun u s' => ∃ H1 sc ex, Inv X pins σ H1 sc ∧ ExOk X pins ex ∧ GMade X.prog X.w k X.stack H1 sc ex cont E u s') E1 s := by
  have r2 : Vals (vs ++ dvs) (us ++ ds) := r.append hd
  have hl2 : (us ++ ds).length = ps.length := by rw [← r2.length]; exact F.len _ _ _ _ h
  refine wpAny_call (codeAny_mono (F.run X.A X.stack s H ⟨us, []⟩ (us ++ ds) (vs ++ dvs) cont E hr I.env0 (hb s us I.kIn hl2) r2 h) fun r s' hq => ?_)
  cases r with
  | error e => exact False.elim hq
  | ok fl =>
    cases fl with
    | ret u => exact ⟨H, s, [], I, .nil, hq⟩
    | next => exact False.elim hq
    | brk => exact False.elim hq
    | cont => exact False.elim hq
/-- o.m(e, ..) of a generator method -/
theorem pgen_meth {E : XK} {pl : Sem Bool} {e : Expr} {es : List Expr} {t : TA} (he : PE X o ta) (c : Cls X.K C) (hm : Meth X.K C m f) (F : GFn X.prog X.w X.K X.mg X.base k f fd ps sp) (hr : Room k X.A) (hb : Binds X.K fd ps ds) (hd : Vals dvs ds) (ha : PA X (e :: es) t)
    (hst : starEach (e :: es) X.env = (false, eval e X.env) :: starEach es X.env := by rfl) (hpl : (backTo pos' (starEach es X.env)).any (·.1) = false := by rfl)
    (ht : eval (.Call (.Attribute o m apos) (e :: es) [] pos') X.env = (do
      let ov ← eval o X.env
      standAt apos.atName
      let (f, first) ← holding [ov] (getMethod ov m pl)
      callWith pos' f first (backTo pos' (starEach (e :: es) X.env)) (backToKw pos' (keywordEach [] X.env))) := by rfl) :
    PGen X k (.Call (.Attribute o m apos) (e :: es) [] pos') (tMethG C m sp dvs E ta t) E := by
  refine ⟨fun pins s σ H cont I h => ?_⟩
  refine PySem.W.methodCall_KW (pl := pl) (thn (he.run pins s σ H _ I h) fun u s1 ⟨x, H1, I1, rx, a, dx, fs, ex, ea, l, q⟩ => ?_) ht
  subst ex
  obtain rfl : u = Value.ref a := rx
  refine getmeth_ok I1 ea c hm l ?_
  refine PySem.W.callWith_K (first := [.ref a]) (h₀ := X.base) I.ok.mod.kin hm.kp (thn (ha.run pos' pins s1 σ H1 _ I1 q) fun us s2 ⟨vs, H2, I2, r, q2⟩ => ⟨I2.kIn, ?_⟩) hst hpl
  exact run_gfn (us := .ref a :: us) (vs := .ref a :: vs) F hr hb hd I2 (.cons rfl r) q2
def tMethGN (C : Addr) (m : Str) (nk : Nat) (sp : SpG) (gV : List V → List V → List V) (E : XK) (ta : TE) (tk : TA) : TGen := fun σ H cont => ta σ H fun x H1 => ∃ a dx fs, x = .ref a ∧ H1 a = some (.ins C dx fs) ∧ fs.lookup m = none ∧
  tk σ H1 fun zs H2 => zs.length = nk ∧ sp (gV [.ref a] zs) H2 cont E
/-- o.m(k = v, ..) of a generator method -/
theorem pgen_methN {E : XK} {pl : Sem Bool} {kws : List Keyword} {tk : TA} {ks : List Str} {gL : List Value → List Value → List Value} {gV : List V → List V → List V} (he : PE X o ta) (c : Cls X.K C) (hm : Meth X.K C m f) (F : GFn X.prog X.w X.K X.mg X.base k f fd ps sp) (hr : Room k X.A) (hb : KBn X.K fd ps 1 ks gL gV) (hkw : PK X kws tk)
    (hall : (backToKw pos (keywordEach kws X.env)).all (·.1.isSome) = true := by rfl) (hks : (backToKw pos (keywordEach kws X.env)).filterMap (·.1) = ks := by rfl) (hpl : ((backTo pos (starEach [] X.env)).any (·.1) || (backToKw pos (keywordEach kws X.env)).any (·.1.isNone)) = false := by rfl)
    (ht : eval (.Call (.Attribute o m apos) [] kws pos) X.env = (do
      let ov ← eval o X.env; standAt apos.atName
      let (f, first) ← holding [ov] (getMethod ov m pl); callWith pos f first (backTo pos (starEach [] X.env)) (backToKw pos (keywordEach kws X.env))) := by rfl) {nk : Nat} (hnk : ks.length = nk := by rfl) : PGen X k (.Call (.Attribute o m apos) [] kws pos) (tMethGN C m nk sp gV E ta tk) E := by
  subst hnk
  refine ⟨fun pins s σ H cont I h => PySem.W.methodCall_KW (pl := pl) (thn (he.run pins s σ H _ I h) fun u s1 ⟨y, H1, I1, rx, a, dx, fs, ex, ea, l, q⟩ => ?_) ht⟩
  subst ex
  obtain rfl : u = Value.ref a := rx
  refine getmeth_ok I1 ea c hm l (PySem.W.callWith_KW0 (first := [.ref a]) (h₀ := X.base) I.ok.mod.kin hm.kp hall (thn (hkw.run pos pins s1 σ H1 _ I1 q) fun ws s2 ⟨zs, H2, I2, rz, l2, q2⟩ => ⟨I2.kIn, ?_⟩) hpl)
  rw [hks]
  have r2 := hb.rel (vs := [.ref a]) (us := [.ref a]) (.cons rfl .nil) rz
  refine wpAny_call (codeAny_mono (F.run X.A X.stack s2 H2 ⟨[.ref a], ks.zip ws⟩ (gL [.ref a] ws) (gV [.ref a] zs) cont E hr I2.env0 (hb.to s2 [.ref a] ws I2.kIn rfl (rz.length.symm.trans l2)) r2 q2) fun r s' hq => ?_)
  cases r with
  | error e => exact False.elim hq
  | ok fl =>
    cases fl with
    | ret u => exact ⟨H2, s2, [], I2, .nil, hq⟩
    | next => exact False.elim hq
    | brk => exact False.elim hq
    | cont => exact False.elim hq
/-- [x for x in g] -/
theorem pe_lcZ {iter : Expr} {x : Str} {px px' : Pos} {scope : Scope} {own : List (Str × Nat)} {pos : Pos} {tg : TGen} (hr : Room (k + 1) X.A) (hN : X.N.Nodup) (hi : PGen X k iter tg (fun _ _ _ => False)) (ok : BlkOk X.N X.env.scope scope own)
    (hxl : (relabel scope X.env).names.lookup x = some .local) (hfun : (relabel scope X.env).kind = .function) (hd : (x == ("__debug__" : Str)) = false := by decide) (hs : ∀ y, foldedSetIterable iter X.env y = pure y := by intro _; rfl) :
    PE X (.ListComp (.Name x px') [⟨.Name x px, iter, [], 0⟩] scope pos) (tListG tg) := by
  refine ⟨fun pins s σ H Q I h => ?_⟩
  rw [eval_ListComp]
  refine lcz_core hr hN I hi ok hxl hfun hd hs h fun D C s' m H' I' q hn f => ⟨m, hn, fun h'' sb => ?_⟩
  obtain ⟨f0, f1, f2, f3, f4, f5⟩ := f
  exact ⟨.ref D, H', I'.turned (t' := s'.toks) (fun b o hb e => (sb.2 b hb).trans e) f0 f1 f3 f4 f5, rfl, q⟩
end
end ZG

/-! A generator that is asleep stays as it is while others run: a run that never wakes it goes the same
    where its way on is blocked; so a run over the blocked table tells that it is not woken. -/
namespace PZ
open PySem
open Sem (wp)
/-- its way on is blocked; all that can be seen of it is the same -/
def blk : GenState → GenState
  | .suspended _ l c p fs cl => .suspended (fun _ => .unsupported "asleep") l c p fs cl
  | x => x
def slp : GenState → Bool
  | .suspended .. => true
  | _ => false
theorem blk_seen (x : GenState) : (blk x).seen = x.seen := by cases x <;> rfl
theorem blk_bare (x : GenState) : (blk x).bare = x.bare := by cases x <;> rfl
theorem no_way {M : Model} {Γ : Ctx} {p : Pos} {t : Sem PySem.Fin} {what : String} {fs : List Frame} {s s' : Shared} {e : End} (h : Runs M Γ p t fs s e s') : t = .unsupported what → False := by
  induction h with
  | segRet _ _ ih _ => exact ih
  | segGen _ _ ih _ => exact ih
  | segSuspOut _ _ ih => exact ih
  | segSuspGen _ _ _ _ ih _ => exact ih
  | _ => intro z; cases z
/-- frames without a generator's own -/
abbrev NoG (fs : List Frame) : Prop := splitAtGen fs = none
theorem noG_tail {F : Frame} {fs : List Frame} (h : NoG (F :: fs)) : NoG fs := by
  cases F with
  | gen => cases h
  | ret =>
    have q : (splitAtGen fs).map _ = none := h
    exact Option.map_eq_none_iff.mp q
theorem noG_app : ∀ {fs gs : List Frame}, NoG fs → NoG gs → NoG (fs ++ gs)
  | [], _, _, h => h
  | F :: fs, gs, h, h2 => by
    have ih := noG_app (noG_tail h) h2
    cases F with
    | gen => cases h
    | ret =>
      show (splitAtGen (fs ++ gs)).map _ = none
      rw [ih]; rfl
/-- W: those that are blocked in x, as they are in y; the others are the same, their frames plain -/
structure Tw (W : Nat → Option GenState) (x y : Array GenState) : Prop where
  size : x.size = y.size
  at_ : ∀ i, (∃ z, W i = some z ∧ slp z = true ∧ y[i]? = some z ∧ x[i]? = some (blk z)) ∨ (W i = none ∧ x[i]? = y[i]? ∧ ∀ k l c p fs cl, y[i]? = some (.suspended k l c p fs cl) → NoG fs)
section
variable {W : Nat → Option GenState} {x y : Array GenState}
def plainG : GenState → Prop
  | .suspended _ _ _ _ fs _ => NoG fs
  | _ => True
theorem Tw.set (T : Tw W x y) {g : Nat} {z : GenState} (h : W g = none) (hz : plainG z) : Tw W (x.setIfInBounds g z) (y.setIfInBounds g z) := by
  refine ⟨by simp [T.size], fun i => ?_⟩
  by_cases q : g = i
  · subst q
    refine .inr ⟨h, ?_, fun k l c p fs cl e => ?_⟩
    · rw [Array.getElem?_setIfInBounds_self, Array.getElem?_setIfInBounds_self, T.size]
    · rw [Array.getElem?_setIfInBounds_self] at e
      by_cases b : g < y.size
      · rw [if_pos b] at e
        cases e
        exact hz
      · rw [if_neg b] at e; cases e
  · rw [Array.getElem?_setIfInBounds_ne q, Array.getElem?_setIfInBounds_ne q]
    exact T.at_ i
theorem Tw.push (T : Tw W x y) {c : Code} : Tw W (x.push (.fresh c)) (y.push (.fresh c)) := by
  refine ⟨by simp [T.size], fun i => ?_⟩
  rcases T.at_ i with ⟨z, h1, h2, h3, h4⟩ | ⟨h1, h2, h3⟩
  · refine .inl ⟨z, h1, h2, ?_, ?_⟩
    · rw [Array.getElem?_push, if_neg (fun e => by subst e; simp at h3)]; exact h3
    · rw [Array.getElem?_push, if_neg (fun e => by subst e; simp at h4)]; exact h4
  · refine .inr ⟨h1, ?_, fun k l c' p fs cl e => ?_⟩
    · rw [Array.getElem?_push, Array.getElem?_push, T.size, h2]
    · rw [Array.getElem?_push] at e
      by_cases b : i = y.size
      · rw [if_pos b] at e; cases e
      · rw [if_neg b] at e; exact h3 _ _ _ _ _ _ e
theorem Tw.seen (T : Tw W x y) {g : Nat} {st : GenState} (h : x[g]? = some st) : ∃ st', y[g]? = some st' ∧ st'.seen = st.seen := by
  rcases T.at_ g with ⟨z, _, _, h3, h4⟩ | ⟨_, h2, _⟩
  · rw [h] at h4; cases h4
    exact ⟨z, h3, (blk_seen z).symm⟩
  · exact ⟨st, h2 ▸ h, rfl⟩
/-- what is not asleep is the same in both -/
theorem Tw.same (T : Tw W x y) {g : Nat} {st : GenState} (h : x[g]? = some st) (hs : slp st = false) : W g = none ∧ y[g]? = some st := by
  rcases T.at_ g with ⟨z, _, h2, _, h4⟩ | ⟨h1, h2, _⟩
  · rw [h] at h4; cases h4
    cases z <;> simp_all [slp, blk]
  · exact ⟨h1, h2 ▸ h⟩
/-- what is asleep: the same, or blocked -/
theorem Tw.susp (T : Tw W x y) {g : Nat} {k : Resume → Sem PySem.Fin} {l : List Value} {c : Code} {p : Pos} {fs : List Frame} {cl : Bool} (h : x[g]? = some (.suspended k l c p fs cl)) :
    (W g = none ∧ y[g]? = some (.suspended k l c p fs cl) ∧ NoG fs) ∨ k = fun _ => .unsupported "asleep" := by
  rcases T.at_ g with ⟨z, _, h2, _, h4⟩ | ⟨h1, h2, h3⟩
  · rw [h] at h4
    cases z with
    | suspended k' l' c' p' fs' cl' => cases h4; exact .inr rfl
    | _ => cases h2
  · exact .inl ⟨h1, h2 ▸ h, h3 _ _ _ _ _ _ (h2 ▸ h)⟩
theorem Tw.bare (T : Tw W x y) (h : PyProof.Rows.AllBare x) : PyProof.Rows.AllBare y := fun z hz => by
  obtain ⟨i, hi, e⟩ := Array.mem_iff_getElem.mp hz
  have e2 : y[i]? = some z := by rw [Array.getElem?_eq_getElem hi, e]
  rcases T.at_ i with ⟨z', _, _, h3, h4⟩ | ⟨_, h2, _⟩
  · rw [e2] at h3; cases h3
    rw [← blk_bare]
    exact h _ (Array.mem_of_getElem? h4)
  · exact h _ (Array.mem_of_getElem? (h2.trans e2))
/-- all that are asleep, blocked -/
theorem tw_all (y : Array GenState) : Tw (fun i => match y[i]? with | some z => if slp z = true then some z else none | none => none) (y.map blk) y := by
  refine ⟨by simp, fun i => ?_⟩
  rw [Array.getElem?_map]
  cases h : y[i]? with
  | none => exact .inr ⟨by simp [h], by simp, fun _ _ _ _ _ _ e => by cases e⟩
  | some z =>
    cases hz : slp z with
    | true => exact .inl ⟨z, by simp [h, hz], hz, rfl, rfl⟩
    | false =>
      refine .inr ⟨by simp [h, hz], ?_, fun k l c p fs cl e => ?_⟩
      · cases z <;> simp_all [slp, blk]
      · cases e; cases hz
end
abbrev PlainE (e : End) : Prop := ∀ v g l k c p fs, e = .susp v g l k c p fs → NoG fs
theorem plainE_gen {e : End} (h : PlainE e) : plainG e.genState := by
  cases e with
  | ret _ => exact trivial
  | susp v g l k c p fs => exact h v g l k c p fs rfl
theorem plainE_ret {r : Result} : PlainE (.ret r) := fun _ _ _ _ _ _ _ z => by cases z
/-- a run over the table x is one over the table y -/
theorem runs_tw {W : Nat → Option GenState} {M : Model} {Γ : Ctx} {p : Pos} {t : Sem PySem.Fin} {fs : List Frame} {s s' : Shared} {e : End} (h : Runs M Γ p t fs s e s') :
    NoG fs → ∀ y, Tw W s.gens y → PlainE e ∧ ∃ y', Tw W s'.gens y' ∧ Runs M Γ p t fs { s with gens := y } e { s' with gens := y' } := by
  induction h with
  | done => exact fun _ y T => ⟨plainE_ret, y, T, .done⟩
  | raise => exact fun _ y T => ⟨plainE_ret, y, T, .raise⟩
  | again hq _ ih => intro n y T; obtain ⟨a, y', b, c⟩ := ih n y T; exact ⟨a, y', b, .again hq c⟩
  | rule _ ih => intro n y T; obtain ⟨a, y', b, c⟩ := ih n y T; exact ⟨a, y', b, .rule c⟩
  | «at» _ ih => intro n y T; obtain ⟨a, y', b, c⟩ := ih n y T; exact ⟨a, y', b, .at c⟩
  | load ho _ ih => intro n y T; obtain ⟨a, y', b, c⟩ := ih n y T; exact ⟨a, y', b, .load ho c⟩
  | update ho _ ih => intro n y T; obtain ⟨a, y', b, c⟩ := ih n y T; exact ⟨a, y', b, .update ho c⟩
  | loadIfAlive _ ih => intro n y T; obtain ⟨a, y', b, c⟩ := ih n y T; exact ⟨a, y', b, .loadIfAlive c⟩
  | point _ ih => intro n y T; obtain ⟨a, y', b, c⟩ := ih n y T; exact ⟨a, y', b, .point c⟩
  | alloc _ ih => intro n y T; obtain ⟨a, y', b, c⟩ := ih n y T; exact ⟨a, y', b, .alloc c⟩
  | fresh _ ih => intro n y T; obtain ⟨a, y', b, c⟩ := ih n y T; exact ⟨a, y', b, .fresh c⟩
  | ask _ ih => intro n y T; obtain ⟨a, y', b, c⟩ := ih n y T; exact ⟨a, y', b, .ask c⟩
  | choose h0 _ ih => intro n y T; obtain ⟨a, y', b, c⟩ := ih n y T; exact ⟨a, y', b, .choose h0 c⟩
  | os _ ih => intro n y T; obtain ⟨a, y', b, c⟩ := ih n y T; exact ⟨a, y', b, .os c⟩
  | handled _ ih => intro n y T; obtain ⟨a, y', b, c⟩ := ih n y T; exact ⟨a, y', b, .handled c⟩
  | genState hs _ ih =>
    intro n y T
    obtain ⟨a, y', b, c⟩ := ih n y T
    obtain ⟨st, h1, h2⟩ := T.seen hs
    exact ⟨a, y', b, .genState h1 (h2 ▸ c)⟩
  | stack _ ih => intro n y T; obtain ⟨a, y', b, c⟩ := ih n y T; exact ⟨a, y', b, .stack c⟩
  | thread _ ih => intro n y T; obtain ⟨a, y', b, c⟩ := ih n y T; exact ⟨a, y', b, .thread c⟩
  | newGen _ ih =>
    intro n y T
    obtain ⟨a, y', b, c⟩ := ih n _ T.push
    refine ⟨a, y', b, .newGen ?_⟩
    rw [T.size] at c
    exact c
  | call _ _ ih1 ih2 =>
    intro n y T
    obtain ⟨_, y1, b1, c1⟩ := ih1 rfl y T
    obtain ⟨a, y', b, c⟩ := ih2 n y1 b1
    exact ⟨a, y', b, .call c1 c⟩
  | callSusp _ ih =>
    intro n y T
    obtain ⟨a, y', b, c⟩ := ih rfl y T
    refine ⟨fun v g l k c p fs z => ?_, y', b, .callSusp c⟩
    cases z
    exact noG_app (a _ _ _ _ _ _ _ rfl) rfl
  | yield => exact fun _ y T => ⟨fun v g l k c p fs z => by cases z; rfl, y, T, .yield⟩
  | resumeFresh hs _ hq _ ih1 ih2 =>
    intro n y T
    obtain ⟨w, hy⟩ := T.same hs rfl
    obtain ⟨a1, y1, b1, c1⟩ := ih1 rfl _ (T.set w (z := .running) trivial)
    obtain ⟨a, y', b, c⟩ := ih2 n _ (b1.set w (plainE_gen a1))
    exact ⟨a, y', b, .resumeFresh hy c1 hq c⟩
  | resumeSuspended hs h1 hq _ ih1 ih2 =>
    intro n y T
    rcases T.susp hs with ⟨w, hy, hn⟩ | z
    · obtain ⟨a1, y1, b1, c1⟩ := ih1 hn _ (T.set w (z := .running) trivial)
      obtain ⟨a, y', b, c⟩ := ih2 n _ (b1.set w (plainE_gen a1))
      exact ⟨a, y', b, .resumeSuspended hy c1 hq c⟩
    · subst z
      exact (no_way h1 rfl).elim
  | resumeJustStarted hs hv _ ih =>
    intro n y T
    obtain ⟨w, hy⟩ := T.same hs rfl
    obtain ⟨a, y', b, c⟩ := ih n y T
    exact ⟨a, y', b, .resumeJustStarted hy hv c⟩
  | resumeThrowFresh hs _ ih =>
    intro n y T
    obtain ⟨w, hy⟩ := T.same hs rfl
    obtain ⟨a, y', b, c⟩ := ih n _ (T.set w (z := .finished) trivial)
    exact ⟨a, y', b, .resumeThrowFresh hy c⟩
  | resumeRunning hs _ ih =>
    intro n y T
    obtain ⟨w, hy⟩ := T.same hs rfl
    obtain ⟨a, y', b, c⟩ := ih n y T
    exact ⟨a, y', b, .resumeRunning hy c⟩
  | resumeFinished hs _ ih =>
    intro n y T
    obtain ⟨w, hy⟩ := T.same hs rfl
    obtain ⟨a, y', b, c⟩ := ih n y T
    exact ⟨a, y', b, .resumeFinished hy c⟩
  | segRet _ _ ih1 ih2 =>
    intro n y T
    obtain ⟨_, y1, b1, c1⟩ := ih1 rfl y T
    obtain ⟨a, y', b, c⟩ := ih2 (noG_tail n) y1 b1
    exact ⟨a, y', b, .segRet c1 c⟩
  | segGen _ _ _ _ => intro n; cases n
  | segSuspOut hn _ ih =>
    intro n y T
    obtain ⟨a, y', b, c⟩ := ih rfl y T
    refine ⟨fun v g l k c p fs z => ?_, y', b, .segSuspOut hn c⟩
    cases z
    exact noG_app (a _ _ _ _ _ _ _ rfl) n
  | segSuspGen hn _ _ _ _ _ => intro n; rw [n] at hn; cases hn
theorem wakes_tw {W : Nat → Option GenState} {M : Model} {Γ : Ctx} {p : Pos} {g : Nat} {r : Resume} {s s' : Shared} {res : GenResult} {y : Array GenState} (h : Wakes M Γ p g r s res s') (T : Tw W s.gens y) :
    ∃ y', Tw W s'.gens y' ∧ Wakes M Γ p g r { s with gens := y } res { s' with gens := y' } := by
  unfold Wakes at h ⊢
  split at h
  · exact h.elim
  · rename_i c hs
    obtain ⟨w, hy⟩ := T.same hs rfl
    split at h
    · obtain ⟨e, s1, hr, hq, rfl, rfl⟩ := h
      obtain ⟨a1, y1, b1, c1⟩ := runs_tw hr rfl _ (T.set w (z := .running) trivial)
      refine ⟨_, b1.set w (plainE_gen a1), ?_⟩
      show (match y[g]? with | _ => _)
      rw [hy]
      exact ⟨e, _, c1, hq, rfl, rfl⟩
    · obtain ⟨rfl, rfl⟩ := h
      refine ⟨y, T, ?_⟩
      show (match y[g]? with | _ => _)
      rw [hy]
      rename_i v hv
      cases v with
      | none => exact absurd rfl hv
      | _ => exact ⟨rfl, rfl⟩
    · obtain ⟨rfl, rfl⟩ := h
      refine ⟨_, T.set w (z := .finished) trivial, ?_⟩
      show (match y[g]? with | _ => _)
      rw [hy]
      exact ⟨rfl, rfl⟩
  · rename_i k l c q fs cl hs
    rcases T.susp hs with ⟨w, hy, hn⟩ | z
    · obtain ⟨e, s1, hr, hq, rfl, rfl⟩ := h
      obtain ⟨a1, y1, b1, c1⟩ := runs_tw hr hn _ (T.set w (z := .running) trivial)
      refine ⟨_, b1.set w (plainE_gen a1), ?_⟩
      show (match y[g]? with | _ => _)
      rw [hy]
      exact ⟨e, _, c1, hq, rfl, rfl⟩
    · subst z
      obtain ⟨e, s1, hr, _⟩ := h
      exact (no_way hr rfl).elim
  · rename_i hs
    obtain ⟨w, hy⟩ := T.same hs rfl
    obtain ⟨rfl, rfl⟩ := h
    refine ⟨y, T, ?_⟩
    show (match y[g]? with | _ => _)
    rw [hy]
    exact ⟨rfl, rfl⟩
  · rename_i hs
    obtain ⟨w, hy⟩ := T.same hs rfl
    obtain ⟨rfl, rfl⟩ := h
    refine ⟨y, T, ?_⟩
    show (match y[g]? with | _ => _)
    rw [hy]
    exact ⟨rfl, rfl⟩
/-- what is wanted over the table x, behind a run over the table y -/
def Bk {α : Type} (W : Nat → Option GenState) (Q : α → Pos → Shared → Prop) : α → Pos → Shared → Prop := fun a p s => ∃ x, Tw W x s.gens ∧ Q a p { s with gens := x }
theorem wp_tw {α : Type} (W : Nat → Option GenState) (M : Model) (Γ : Ctx) (t : Sem α) : ∀ (Q : α → Pos → Shared → Prop) (E : Value → Pos → Shared → Prop) (p : Pos) (s : Shared) (y : Array GenState), Tw W s.gens y → wp M Γ t Q E p s →
    wp M Γ t (Bk W Q) (Bk W E) p { s with gens := y } := by
  induction t with
  | pure a => intro Q E p s y T h; exact ⟨_, T, h⟩
  | raise e => intro Q E p s y T h; exact ⟨_, T, h⟩
  | unsupported _ => intro Q E p s y _ h; exact h
  | finish _ => intro Q E p s y _ h; exact h
  | register _ _ => intro Q E p s y _ h; exact h
  | fork _ _ => intro Q E p s y _ h; exact h
  | yield _ _ _ _ => intro Q E p s y _ h; exact h
  | await _ _ _ _ _ => intro Q E p s y _ h; exact h
  | rule _ k ih => intro Q E p s y T h; exact ih () Q E p s y T h
  | «at» q k ih => intro Q E p s y T h; exact ih () Q E q s y T h
  | point _ k ih => intro Q E p s y T h; exact ih () Q E p s y T h
  | loadIfAlive a k ih => intro Q E p s y T h; exact ih _ Q E p s y T h
  | ask k ih => intro Q E p s y T h; exact ih _ Q E p s y T h
  | handled own k ih => intro Q E p s y T h; exact ih _ Q E p s y T h
  | stack k ih => intro Q E p s y T h; exact ih _ Q E p s y T h
  | thread k ih => intro Q E p s y T h; exact ih _ Q E p s y T h
  | load a _ k ih => intro Q E p s y T ⟨o, ho, h⟩; exact ⟨o, ho, ih o Q E p s y T h⟩
  | update a _ f k ih => intro Q E p s y T h; exact ⟨h.1, ih () Q E p { s with heap := s.heap.update a f } y T h.2⟩
  | alloc o k ih => intro Q E p s y T h; exact ih _ Q E p { s with heap := s.heap.push o } y T h
  | fresh k ih => intro Q E p s y T h; exact ih _ Q E p { s with toks := s.toks + 1 } y T h
  | choose src m k ih => intro Q E p s y T h; exact ⟨h.1, ih _ Q E p { s with drawn := s.drawn.bump src } y T h.2⟩
  | os q _ k ih => intro Q E p s y T h; exact ih _ Q E p { s with os := (Os.step s.os q).1 } y T h
  | call c hd _ _ k ih =>
    intro Q E p s y T ⟨r, s1, hr, h⟩
    obtain ⟨_, y1, T1, hr1⟩ := runs_tw (W := W) hr rfl y T
    exact ⟨r, { s1 with gens := y1 }, hr1, ih r Q E p s1 y1 T1 h⟩
  | genState g k ih =>
    intro Q E p s y T ⟨st, hs, h⟩
    obtain ⟨st', h1, h2⟩ := T.seen hs
    exact ⟨st', h1, by rw [h2]; exact ih _ Q E p s y T h⟩
  | newGen c k ih =>
    intro Q E p s y T h
    have := ih _ Q E p { s with gens := s.gens.push (.fresh c) } _ T.push h
    rw [T.size] at this
    exact this
  | resume g r _ k ih =>
    intro Q E p s y T ⟨res, s1, hw, h⟩
    obtain ⟨y1, T1, hw1⟩ := wakes_tw hw T
    exact ⟨res, { s1 with gens := y1 }, hw1, ih res Q E p s1 y1 T1 h⟩
/-- a run told where all that are asleep are blocked: they sleep on -/
theorem asleep {α : Type} {M : Model} {A : Around} {t : Sem α} {Q : α → Shared → Prop} {E : Value → Shared → Prop} {s : Shared} (h : wpAny M A t Q E { s with gens := s.gens.map blk }) :
    wpAny M A t (fun a s1 => ∃ x, Tw (fun i => match s.gens[i]? with | some z => if slp z = true then some z else none | none => none) x s1.gens ∧ Q a { s1 with gens := x })
      (fun a s1 => ∃ x, Tw (fun i => match s.gens[i]? with | some z => if slp z = true then some z else none | none => none) x s1.gens ∧ E a { s1 with gens := x }) s := fun Γ p hΓ =>
  wp_tw _ M Γ t _ _ p { s with gens := s.gens.map blk } s.gens (tw_all s.gens) (h Γ p hΓ)
end PZ

/-! Generators whose turns change their own iterator alone; what is told of a turn is told of the heap alone. -/
namespace L2
open PySem PySem.Spec PyProof.Rows GenW
/-- nothing but the object at it has changed (or has been made) -/
def OnlyZ (it : Addr) (s s' : Shared) : Prop := ∃ h tk, s' = { s with heap := h, toks := tk } ∧ ∀ b o, b ≠ it → s.heap.get? b = some o → h.get? b = some o
theorem OnlyZ.refl {it : Addr} {s : Shared} : OnlyZ it s s := ⟨s.heap, s.toks, rfl, fun _ _ _ e => e⟩
theorem OnlyZ.trans {it : Addr} {s s1 s2 : Shared} (a : OnlyZ it s s1) (b : OnlyZ it s1 s2) : OnlyZ it s s2 := by
  obtain ⟨h, tk, rfl, k⟩ := a
  obtain ⟨h2, tk2, rfl, k2⟩ := b
  exact ⟨h2, tk2, rfl, fun b o n e => k2 b o n (k b o n e)⟩
theorem OnlyZ.of {it : Addr} {s : Shared} {h : Heap} {tk : Nat} (k : ∀ b o, b ≠ it → s.heap.get? b = some o → h.get? b = some o) : OnlyZ it s { s with heap := h, toks := tk } := ⟨h, tk, rfl, k⟩
structure QP (P : Program) (w : World) (it : Addr) (xs : List V) (St : Nat → Heap → Prop) : Prop where
  ty : ∃ T, (∀ j h, St j h → ∃ o, h.get? it = some o ∧ o.cls = .type T) ∧ typeLookup (.type T) "close" = pure none ∧ (Value.type T != Value.type "generator") = true
  item : ∀ (A : Around) (j : Nat) (x : V) (s : Shared) (Q : Option Value → Shared → Prop) (E : Value → Shared → Prop), A.handled = none → xs[j]? = some x → St j s.heap →
    (∀ v s', RelV x v → St (j + 1) s'.heap → OnlyZ it s s' → Q (some v) s') → wpAny (model P w) A (callSpecial? (.ref it) "__next__") Q E s
  done : ∀ (A : Around) (s : Shared) (Q : Option Value → Shared → Prop) (E : Value → Shared → Prop), A.handled = none → St xs.length s.heap →
    (∀ e s', StopX e s'.heap → OnlyZ it s s' → E e s') → wpAny (model P w) A (callSpecial? (.ref it) "__next__") Q E s
/-- an item; the end -/
def YP (it : Addr) (xs : List V) (St : Nat → Heap → Prop) : Protocol := fun n s₀ v s1 kap => n + 1 ≤ xs.length ∧ ∃ x, xs[xs.length - (n + 1)]? = some x ∧ RelV x v ∧ OnlyZ it s₀ s1 ∧ St (xs.length - n) s1.heap ∧ ∀ s2 : Shared, St (xs.length - n) s2.heap → kap (.send .none) s2
def RP (it : Addr) : GenEnd := fun n s₀ r s1 => n = 0 ∧ (r = .ok (.ret .none) ∨ r = .ok .next) ∧ OnlyZ it s₀ s1
abbrev cYf (it : Addr) : Code := .builtin "proto.yield_from" ⟨[.ref it, .bool false, .none], []⟩
section
variable {P : Program} {w : World}
/-! the iterator of a tuple -/
def TupAt (h : Heap) (t : Addr) (xs : List V) : Prop := ∃ its : List Value, Vals xs its ∧ IsTup h t its.toArray
def StT (it t : Addr) (xs : List V) : Nat → Heap → Prop := fun j h => IsTupIter h it t j ∧ TupAt h t xs
end
section
variable {X : Cx} {ip : List (Addr × Obj)} {σ : L2.St} {H : Hp} {s : Shared}
end
/-- what a call gives: a generator that has not begun; Src: what it wants of the heap when it is woken -/
def GMadeP (P : Program) (w : World) (k : Nat) (outer : List Env) (s : Shared) (xs : List V) (Src : Heap → Prop) (u : Value) (s' : Shared) : Prop :=
  ∃ (a : Addr) (g : Nat) (c : Code), u = .ref a ∧ s.heap.objs.size ≤ a ∧ a < s'.heap.objs.size ∧ s'.heap.IsGen a g ∧ s'.gens[g]? = some (.fresh c) ∧ s'.os = s.os ∧ AllBare s'.gens ∧ s'.heap.NoLimit ∧ (∀ b o, s.heap.get? b = some o → s'.heap.get? b = some o) ∧
    ∀ (Aw : Around) (s2 : Shared), Room k Aw → Aw.frames = some outer → (∀ b o, s'.heap.get? b = some o → s2.heap.get? b = some o) → s2.os = s.os → AllBare s2.gens →
      ∃ St : Nat → Heap → Prop, (∀ j h h', St j h → (∀ o, h.get? s2.heap.objs.size = some o → h'.get? s2.heap.objs.size = some o) → Src h' → St j h') ∧ (∀ j h, St j h → ∃ o, h.get? s2.heap.objs.size = some o ∧ ∀ v, o.data ≠ .cell v) ∧
        Seg (model P w) Aw (RP s2.heap.objs.size) (YP s2.heap.objs.size xs St) xs.length s2 c ((model P w).den c) [] s2
structure GFnP (P : Program) (w : World) (K : PySem.W.Frag) (mg : Str → Option Value) (base : Heap) (k : Nat) (f : Addr) (fd : FuncData) (ps : List Str) (rz : List V → Hp → List V → (Hp → Prop) → Prop) : Prop where
  len : ∀ vs H xs L, rz vs H xs L → vs.length = ps.length
  run : ∀ (A : Around) (outer : List Env) (s : Shared) (H : Hp) (args : Args) (us : List Value) (vs xs : List V) (L : Hp → Prop), Room k A → Env0 P w K mg base A outer s H → BindsTo s fd args (ps.zip us) → Vals vs us → rz vs H xs L →
    codeAny (model P w) A (.call (.ref f) args) (fun r s' => match r with | .ok (.ret u) => ∃ Src : Heap → Prop, (∀ H' h, K.In h → HOk P w H' h → L H' → Src h) ∧ GMadeP P w k outer s xs Src u s' | _ => False) s
end L2

/-! Calls of generator methods; list comprehensions over them; their elements are whatever PE serves. -/
namespace L2
open PySem PySem.Spec PyProof.Rows GenW
section
variable {X : Cx} {pins : List (Addr × Obj)} {σ : L2.St} {H : Hp} {s : Shared}
theorem Inv.gens {y : Array GenState} (I : Inv X pins σ H s) (h : AllBare y) : Inv X pins σ H { s with gens := y } := ⟨I.ok, I.os, h, I.base, I.loc, I.cell, I.free, I.freeC, I.pin, I.hok, I.len⟩
end
abbrev TGenP := L2.St → Hp → (List V → (Hp → Prop) → Hp → Prop) → Prop
/-- an expression whose value is a generator that has not begun -/
structure PGenP (X : Cx) (k : Nat) (e : Expr) (tg : TGenP) : Prop where
  run : ∀ (pins : List (Addr × Obj)) (s : Shared) (σ : L2.St) (H : Hp) (cont : List V → (Hp → Prop) → Hp → Prop), Inv X pins σ H s → tg σ H cont → wpAny (model X.prog X.w) X.A (eval e X.env)
    (fun u s' => ∃ H1 sc xs L Src, Inv X pins σ H1 sc ∧ (∀ H' h, X.K.In h → HOk X.prog X.w H' h → L H' → Src h) ∧ GMadeP X.prog X.w k X.stack sc xs Src u s' ∧ cont xs L H1) X.xe s
def tMethP (C : Addr) (m : Str) (rz : List V → Hp → List V → (Hp → Prop) → Prop) (ta : TE) : TGenP := fun σ H cont => ta σ H fun x H1 => ∃ a dx fs xs L, x = .ref a ∧ H1 a = some (.ins C dx fs) ∧ fs.lookup m = none ∧ rz [x] H1 xs L ∧ cont xs L H1
section
variable {X : Cx} {k : Nat} {f C : Addr} {fd : FuncData} {ps : List Str} {rz : List V → Hp → List V → (Hp → Prop) → Prop} {m : Str} {pos' apos : Pos} {o : Expr} {ta : TE}
end
/-- [elt for g in e if ..], e a generator -/
def tLcP (tg : TGenP) (g : TG) (tt : TT) (te : TE) (vs : List Nat) : TE := fun σ H Q => tg σ H fun xs L H1 => ∀ D, H1 D = none → ∃ W : Nat → Hp → Prop, W 0 (upd H1 D (.lst [])) ∧ (∀ i H, W i H → L H) ∧
  (∀ i x H, xs[i]? = some x → W i H → g x (wipe σ vs) H fun σ2 H2 => wipe σ2 vs = wipe σ vs ∧ tt σ2 H2 fun b H3 =>
    if b = true then te σ2 H3 fun y H4 => ∃ acc, H4 D = some (.lst acc) ∧ acc.length < sizeLine ∧ W (i + 1) (upd H4 D (.lst (acc ++ [y]))) else W (i + 1) H3) ∧
  ∀ H, W xs.length H → Q (.ref D) H
section
variable {X : Cx}
end
end L2

/-! The mathematics of pieces: columns that are looked at, the machine that makes pieces, all columns. -/
namespace MP
open PySem
structure Tg where
  s : Str
  l : Nat
  c : Nat
  w : Option Str
  deriving DecidableEq
abbrev Td := Option (Bool × Tg)
abbrev Stt := Nat × Td
def adv (t : Tg) (i : Nat) : Tg := { t with c := t.c + i }
theorem adv_adv (t : Tg) (i j : Nat) : adv (adv t i) j = adv t (i + j) := by simp [adv, Nat.add_assoc]
def furt : Td → Nat → Td
  | some (true, t), i => some (true, adv t i)
  | o, _ => o
/-- the value at an offset -/
def tv (td : Td) (i : Nat) : Option Tg := (furt td i).map (·.2)
/-- pieces: begin, kind (0 gap, 1 run, 2 point), first value -/
structure Pc where
  b : Nat
  k : Nat
  f : Option Tg
  deriving DecidableEq
def goes (p : Pc) (c : Nat) (t : Option Tg) : Prop := if p.k = 1 then t = p.f.map (adv · (c - p.b)) else t = p.f
instance (p : Pc) (c : Nat) (t : Option Tg) : Decidable (goes p c t) := by unfold goes; exact inferInstance
def trig (p : Pc) (c : Nat) (t : Option Tg) : Prop := t ≠ none ∧ t = p.f ∧ c = p.b + 1
instance (p : Pc) (c : Nat) (t : Option Tg) : Decidable (trig p c t) := by unfold trig; exact inferInstance
def tr (p : Pc) (c : Nat) (t : Option Tg) : Pc := if trig p c t then ⟨p.b, 2, t⟩ else p
abbrev Ms := List Pc × Pc
def step (s : Ms) (x : Nat × Option Tg) : Ms :=
  if goes (tr s.2 x.1 x.2) x.1 x.2 then (s.1, tr s.2 x.1 x.2) else (s.1 ++ [tr s.2 x.1 x.2], ⟨x.1, if x.2 = none then 0 else 1, x.2⟩)
def p0 : Pc := ⟨0, 0, none⟩
def run (s : Ms) (f : Nat → Option Tg) (b m : Nat) : Ms := (List.range' b m).foldl (fun s c => step s (c, f c)) s
theorem run0 (s : Ms) (f : Nat → Option Tg) (b : Nat) : run s f b 0 = s := rfl
theorem run_s (s : Ms) (f : Nat → Option Tg) (b m : Nat) : run s f b (m + 1) = run (step s (b, f b)) f (b + 1) m := by simp [run, List.range'_succ]
theorem run_add (s : Ms) (f : Nat → Option Tg) (b m k : Nat) : run s f b (m + k) = run (run s f b m) f (b + m) k := by
  induction m generalizing s b with
  | zero => simp [run0]
  | succ m ih => rw [show m + 1 + k = (m + k) + 1 by omega, run_s, run_s, ih, show b + 1 + m = b + (m + 1) by omega]
theorem run_last (s : Ms) (f : Nat → Option Tg) (b m : Nat) : run s f b (m + 1) = step (run s f b m) (b + m, f (b + m)) := by rw [run_add, run_s, run0]
/-- a piece as it stands in front of column c -/
structure PcOk (p : Pc) (c : Nat) : Prop where
  k : p.k = 0 ∨ p.k = 1 ∨ p.k = 2
  g : p.k = 0 ↔ p.f = none
  b : p.b < c ∨ p = p0
/-- nothing changes at column c -/
def still (p : Pc) (c : Nat) (t : Option Tg) : Prop := goes p c t ∧ ¬ trig p c t
/-! ### after three columns of one stretch nothing changes any more -/
/-! ### all columns -/
def cols : List Stt → List (Nat × Option Tg)
  | [] => []
  | [(b, td)] => (List.range 3).map fun i => (b + i, tv td i)
  | (b, td) :: (b', td') :: r => ((List.range (min 3 (b' - b))).map fun i => (b + i, tv td i)) ++ cols ((b', td') :: r)
def at_ : List Stt → Nat → Option Stt
  | [], _ => none
  | st :: r, c => match at_ r c with
    | some s => some s
    | none => if st.1 ≤ c then some st else none
def val (xs : List Stt) (c : Nat) : Option Tg := match at_ xs c with
  | none => none
  | some (b, td) => tv td (c - b)
def fold (xs : List (Nat × Option Tg)) (s : Ms) : Ms := xs.foldl step s
abbrev Asc (xs : List Stt) : Prop := (xs.map (·.1)).Pairwise (· < ·)
/-- the machine over the first N columns -/
def full (f : Nat → Option Tg) (N : Nat) : Ms := run ([], p0) f 0 N
def machine (xs : List Stt) : Ms := fold (cols xs) ([], p0)
/-- the pieces -/
def few (xs : List Stt) : List Pc := ((machine xs).1 ++ [(machine xs).2]).drop 1
end MP

/-! Pieces are longest, and fewest. -/
namespace MP
variable {f : Nat → Option Tg}
/-- one piece could tell the columns a .. b - 1 -/
def vld (f : Nat → Option Tg) (a b : Nat) : Prop := (∀ c, a ≤ c → c < b → f c = none) ∨ (∃ t, ∀ c, a ≤ c → c < b → f c = some (adv t (c - a))) ∨ ∃ t, ∀ c, a ≤ c → c < b → f c = some t
theorem vld.sub {a b a' b' : Nat} (h : vld f a b) (h1 : a ≤ a') (h2 : b' ≤ b) : vld f a' b' := by
  rcases h with h | ⟨t, h⟩ | ⟨t, h⟩
  · exact .inl fun c q1 q2 => h c (by omega) (by omega)
  · refine .inr (.inl ⟨adv t (a' - a), fun c q1 q2 => ?_⟩)
    rw [h c (by omega) (by omega), adv_adv, show a' - a + (c - a') = c - a by omega]
  · exact .inr (.inr ⟨t, fun c q1 q2 => h c (by omega) (by omega)⟩)
/-- what the piece p tells of the columns up to N -/
def desc (f : Nat → Option Tg) (p : Pc) (N : Nat) : Prop :=
  (p.k = 0 ∧ p.f = none ∧ ∀ c, p.b ≤ c → c < N → f c = none) ∨ (∃ t, p.k = 1 ∧ p.f = some t ∧ p.b < N ∧ ∀ c, p.b ≤ c → c < N → f c = some (adv t (c - p.b))) ∨ ∃ t, p.k = 2 ∧ p.f = some t ∧ p.b + 1 < N ∧ ∀ c, p.b ≤ c → c < N → f c = some t
theorem full_s (f : Nat → Option Tg) (N : Nat) : full f (N + 1) = step (full f N) (N, f N) := by
  unfold full; rw [run_last, Nat.zero_add]
def cnt (f : Nat → Option Tg) (N : Nat) : Nat := (full f N).1.length
/-- how the machine stands in front of column N -/
structure Inv (f : Nat → Option Tg) (N : Nat) : Prop where
  ds : desc f (full f N).2 N
  at_ : ((full f N).1 = [] ∧ (full f N).2 = p0) ∨ ((full f N).2.b < N ∧ (full f N).1.length = cnt f (full f N).2.b + 1 ∧ ((full f N).2.b = 0 → f 0 ≠ none) ∧ ∃ q, (full f N).1 = (full f (full f N).2.b).1 ++ [q] ∧ ((full f N).2.b = 0 → q = p0))
theorem step_cases (s : Ms) (c : Nat) (t : Option Tg) : (goes (tr s.2 c t) c t ∧ step s (c, t) = (s.1, tr s.2 c t)) ∨ (¬ goes (tr s.2 c t) c t ∧ step s (c, t) = (s.1 ++ [tr s.2 c t], ⟨c, if t = none then 0 else 1, t⟩)) := by
  unfold step
  by_cases h : goes (tr s.2 c t) c t
  · exact .inl ⟨h, if_pos h⟩
  · exact .inr ⟨h, if_neg h⟩
theorem desc_go {p : Pc} {N : Nat} (h : desc f p N) (hb : p.b ≤ N) (g : goes (tr p N (f N)) N (f N)) : desc f (tr p N (f N)) (N + 1) := by
  unfold tr at g ⊢
  by_cases ht : trig p N (f N)
  · rw [if_pos ht]
    obtain ⟨h1, h2, h3⟩ := ht
    cases q : f N with
    | none => exact absurd q h1
    | some t =>
      refine .inr (.inr ⟨t, rfl, rfl, by show p.b + 1 < N + 1; omega, fun c (q1 : p.b ≤ c) q2 => ?_⟩)
      by_cases e : c = N
      · rw [e, q]
      · have ec : c = p.b := by omega
        rw [q] at h2
        rcases h with ⟨z1, z2, z3⟩ | ⟨t', z1, z2, z3, z4⟩ | ⟨t', z1, z2, z3, z4⟩
        · rw [z2] at h2; cases h2
        · rw [z2] at h2; cases h2
          rw [z4 c q1 (by omega), ec, Nat.sub_self]; rfl
        · rw [z2] at h2; cases h2
          exact z4 c q1 (by omega)
  · rw [if_neg ht] at g ⊢
    unfold goes at g
    rcases h with ⟨z1, z2, z3⟩ | ⟨t', z1, z2, z3, z4⟩ | ⟨t', z1, z2, z3, z4⟩
    · rw [if_neg (by omega), z2] at g
      refine .inl ⟨z1, z2, fun c q1 q2 => ?_⟩
      by_cases e : c = N
      · rw [e]; exact g
      · exact z3 c q1 (by omega)
    · rw [if_pos z1, z2] at g
      refine .inr (.inl ⟨t', z1, z2, by omega, fun c q1 q2 => ?_⟩)
      by_cases e : c = N
      · rw [e]; exact g
      · exact z4 c q1 (by omega)
    · rw [if_neg (by omega), z2] at g
      refine .inr (.inr ⟨t', z1, z2, by omega, fun c q1 q2 => ?_⟩)
      by_cases e : c = N
      · rw [e]; exact g
      · exact z4 c q1 (by omega)
theorem tr_b (p : Pc) (c : Nat) (t : Option Tg) : (tr p c t).b = p.b := by unfold tr; split <;> rfl
theorem inv : ∀ N, Inv f N
  | 0 => ⟨.inl ⟨rfl, rfl, fun c _ h => absurd h (Nat.not_lt_zero _)⟩, .inl ⟨rfl, rfl⟩⟩
  | N + 1 => by
    have h := inv N
    have hb : (full f N).2.b ≤ N := by
      rcases h.at_ with ⟨_, z⟩ | ⟨z, _⟩
      · rw [z]; exact Nat.zero_le _
      · omega
    rcases step_cases (full f N) N (f N) with ⟨g, e⟩ | ⟨g, e⟩
    · have e' : full f (N + 1) = ((full f N).1, tr (full f N).2 N (f N)) := (full_s f N).trans e
      refine ⟨by rw [e']; exact desc_go h.ds hb g, ?_⟩
      rw [e']
      rcases h.at_ with ⟨z1, z2⟩ | ⟨z1, z2, z3, z4⟩
      · refine .inl ⟨z1, ?_⟩
        rw [z2]
        unfold tr
        rw [if_neg]
        intro ht
        exact ht.1 ht.2.1
      · refine .inr ?_
        simp only [tr_b]
        exact ⟨by omega, z2, z3, z4⟩
    · have e' : full f (N + 1) = ((full f N).1 ++ [tr (full f N).2 N (f N)], ⟨N, if f N = none then 0 else 1, f N⟩) := (full_s f N).trans e
      refine ⟨?_, ?_⟩
      · rw [e']
        cases q : f N with
        | none =>
          refine .inl ⟨by simp, rfl, fun c (q1 : N ≤ c) q2 => ?_⟩
          rw [show c = N by omega, q]
        | some t =>
          refine .inr (.inl ⟨t, by simp, rfl, Nat.lt_succ_self _, fun c (q1 : N ≤ c) q2 => ?_⟩)
          show f c = some (adv t (c - N))
          rw [show c = N by omega, q, Nat.sub_self]; rfl
      · rw [e']
        refine .inr ⟨Nat.lt_succ_self _, by simp [cnt], fun z => ?_, _, rfl, fun z => ?_⟩
        · have z' : N = 0 := z
          subst z'
          intro hf
          apply g
          rw [hf]
          show goes (tr p0 0 none) 0 none
          unfold tr goes
          simp [trig, p0]
        · have z' : N = 0 := z
          subst z'
          show tr p0 0 (f 0) = p0
          unfold tr
          rw [if_neg]
          intro ht
          have := ht.2.2
          simp [p0] at this
end MP

/-! Segments, stretches, pieces and maps as data. -/
namespace MP
open PySem L2 DL
def wD : Option Str → D
  | none => .non
  | some x => .str x
def wLs : Option Str → List D
  | none => []
  | some x => [.str x]
def kD (r : Bool) : Str := if r then Str.ofString "run" else Str.ofString "point"
def kN : Nat → Str
  | 0 => Str.ofString "gap"
  | 1 => Str.ofString "run"
  | _ => Str.ofString "point"
abbrev tgD (t : Tg) : D := .tup [.str t.s, .int (t.l : Nat), .int (t.c : Nat), wD t.w]
def tgO : Option Tg → D
  | none => .non
  | some t => tgD t
def tdD : Td → D
  | none => .non
  | some (r, t) => .tup [.str (kD r), .str t.s, .int (t.l : Nat), .int (t.c : Nat), wD t.w]
abbrev stD (x : Stt) : D := .tup [.int (x.1 : Nat), tdD x.2]
abbrev colD (x : Nat × Option Tg) : D := .tup [.int (x.1 : Nat), tgO x.2]
abbrev pcD (p : Pc) : D := .tup [.int (p.b : Nat), .str (kN p.k), tgO p.f]
structure Sg where
  ln : Nat
  b : Nat
  td : Td
  deriving DecidableEq
def sgL (g : Sg) : List D := match g.td with
  | none => [.str (Str.ofString "gap"), .int (g.ln : Nat), .int (g.b : Nat)]
  | some (r, t) => [.str (kD r), .int (g.ln : Nat), .int (g.b : Nat), .str t.s, .int (t.l : Nat), .int (t.c : Nat)] ++ wLs t.w
abbrev sgD (g : Sg) : D := .tup (sgL g)
def pcS (l : Nat) (p : Pc) : Sg := ⟨l, p.b, p.f.map fun t => (p.k == 1, t)⟩
/-! ### sorted, by lines -/
def lexB (g h : Sg) : Bool := decide (g.ln < h.ln ∨ (g.ln = h.ln ∧ g.b ≤ h.b))
def srt (gs : List Sg) : List Sg := gs.mergeSort lexB
abbrev KeyNd (gs : List Sg) : Prop := (gs.map fun g => (g.ln, g.b)).Nodup
abbrev stt (g : Sg) : Stt := (g.b, g.td)
/-- the stretches of a line -/
def rowSt (gs : List Sg) (l : Nat) : List Stt := ((srt gs).filter fun g => g.ln == l).map stt
/-! ### the groups of the sorted segments -/
def addN (g : Sg) : List (Nat × List Sg) → List (Nat × List Sg)
  | [] => [(g.ln, [g])]
  | (k, l) :: r => if k = g.ln then (k, l ++ [g]) :: r else (k, l) :: addN g r
def linesG (gs : List Sg) : List (Nat × List Sg) := gs.foldl (fun a g => addN g a) []
def enc (p : Nat × List Sg) : Int × List D := ((p.1 : Int), p.2.map sgD)
/-- lines of sorted segments: in order, each with its segments -/
structure Lines (gs : List Sg) (L : List (Nat × List Sg)) : Prop where
  asc : (L.map (·.1)).Pairwise (· < ·)
  row : ∀ p ∈ L, p.2 = gs.filter (fun g => g.ln == p.1) ∧ p.2 ≠ []
  all : ∀ g ∈ gs, ∃ p ∈ L, p.1 = g.ln
/-- the lines that have segments -/
def ks (gs : List Sg) : List Nat := (linesG (srt gs)).map (·.1)
/-! ### rows of pieces -/
abbrev Rows := List (Nat × List Pc)
def rowsOf (L : List (Nat × List Stt)) : Rows := (L.map fun p => (p.1, few p.2)).filter fun p => !p.2.isEmpty
def rowsG (gs : List Sg) : Rows := rowsOf ((ks gs).map fun l => (l, rowSt gs l))
abbrev rowD (p : Nat × List Pc) : Key × D := (Sum.inl (p.1 : Int), .tup (p.2.map fun q => sgD (pcS p.1 q)))
def allP (R : Rows) : List Sg := (R.map fun p => p.2.map (pcS p.1)).flatten
def rowAt (R : Rows) (l : Nat) : List Pc := ((R.find? fun p => p.1 == l).map (·.2)).getD []
def tot (R : Rows) : Nat := (R.map fun p => p.2.length).sum
abbrev mapF (R : Rows) : List (Str × D) := [("_rows", .fdc (R.map rowD)), ("_pieces", .tup ((allP R).map sgD))]
/-! ### values by the law's walk -/
def bet : Option Sg → Sg → Bool
  | none, _ => true
  | some h, g => decide (h.b < g.b)
def best (gs : List Sg) (l c : Nat) : Option Sg := gs.foldl (fun a g => if g.ln = l ∧ g.b ≤ c ∧ bet a g = true then some g else a) none
def tol (gs : List Sg) (l c : Nat) : Option Tg := match best gs l c with
  | none => none
  | some g => tv g.td (c - g.b)
def top (gs : List Sg) (l : Nat) : Nat := (gs.filter fun g => g.ln == l).foldl (fun a g => max a (g.b + 1)) 0
end MP

/-! Rules over typed data; comparisons of targets. -/
namespace DL
open PySem L2 StX
section
variable {K : PySem.W.Frag} [Tb K] {Z : ZX} {ds : DS} {n : Nat} {P : D → Nat → Prop} {g : TG} {tt : TT} {te tk tv : TE}
theorem Wi_imp {wi : TI} {ds : DS} {n : Nat} {P P' : List D → Nat → Prop} (h : Wi K Z wi ds n P) (i : ∀ xs m, P xs m → P' xs m) : Wi K Z wi ds n P' := fun b u σ R e S k => h b u σ R e S fun J xs u' G Y g s p w a c => k J xs u' G Y g s (i _ _ p) w a c
theorem Wgc_imp {g : TG} {js : List Nat} {x : D} {ds : DS} {P P' : DS → Prop} (h : Wgc K Z g js x ds P) (i : ∀ d, P d → P' d) : Wgc K Z g js x ds P' := fun b u σ v Q S r k => h b u σ v Q S r fun ds' σ' S' l f p => k ds' σ' S' l f (i _ p)
theorem Wt.imp {P P' : Bool → Nat → Prop} (h : Wt K Z tt ds n P) (i : ∀ c m, P c m → P' c m) : Wt K Z tt ds n P' := fun b u σ Q e S k => h b u σ Q e S fun c u' g s p => k c u' g s (i _ _ p)
end
end DL
namespace MP
open PySem L2 DL
def lmD : Option Nat → D
  | none => .non
  | some l => .int (l : Nat)
def wP : Option Str → PyData
  | none => .none
  | some x => .str x
def tgP : Option Tg → PyData
  | none => .none
  | some t => .tuple [.str t.s, .int (t.l : Nat), .int (t.c : Nat), wP t.w]
section
variable {K : PySem.W.Frag} [Tb K] {P : D → Prop}
end
end MP
namespace MP
open PySem L2 DL
/-- the columns of the first i stretches -/
def colsP (xs : List Stt) : Nat → List (Nat × Option Tg)
  | 0 => []
  | i + 1 => colsP xs i ++ (match xs[i]?, xs[i + 1]? with
    | some x, some y => (List.range (min 3 (y.1 - x.1))).map fun q => (x.1 + q, tv x.2 q)
    | some x, none => (List.range 3).map fun q => (x.1 + q, tv x.2 q)
    | none, _ => [])
end MP
namespace MP
open PySem L2 DL
end MP

namespace DL
open PySem L2 StX
section
variable {K : PySem.W.Frag} [Tb K] {P : D → Prop}
end
section
variable {K : PySem.W.Frag} [Tb K] {Z : ZX} {ds : DS} {n : Nat} {g : TG}
end
end DL
namespace MP
open PySem L2 DL
def bD : Option Sg → D
  | none => .non
  | some g => sgD g
end MP

/-! Generator methods whose body is `yield from self.f`, f a tuple: their promise; comprehensions over them, told by data. -/
namespace L2
open PySem PySem.Spec PyProof.Rows GenW
/-- self is an instance of C, its attribute f the tuple xs -/
def rzF (K : PySem.W.Frag) (C : Addr) (f : Str) : List V → Hp → List V → (Hp → Prop) → Prop := fun vs H xs L => ∃ a dx fs t, vs = [.ref a] ∧ H a = some (.ins C dx fs) ∧ fs.lookup f = some (.ref t) ∧ SqT K H t xs ∧ L = fun H' => SqT K H' t xs
def gbodyF (slf f : Str) (p1 p2 yp pos : Pos) : List Stmt := [.Expr (.YieldFrom (.Attribute (.Name slf p1) f p2) yp) pos]
end L2
namespace DL
open PySem L2 StX
section
variable {K : PySem.W.Frag} [Tb K] {Z : ZX} {b u u' u'' : Wd} {σ : L2.St} {ds : DS} {n : Nat} {P : D → Nat → Prop} {te ta : TE} {tt : TT} {g : TG} {C : Addr} {f m : Str} {vs : List Nat}
end
end DL

/-! generators by data -/
namespace ZG
open PySem PySem.Spec PyProof.Rows L2
section
variable {J : It} {n : Nat} {G : Hp → Prop} {Y : Nat → Hp → V → Hp → Prop}
theorem gfor_it (w : Walk J n G Y) {g : TG} {tb : TGn} {D : GEnds} {ys : List V} {σ : L2.St} {H : Hp} (Pv : Nat → List V → L2.St → Hp → Prop) (h0 : Pv 0 ys σ H) (hG : ∀ i ys σ H, i ≤ n → Pv i ys σ H → G H)
    (hs : ∀ i x ys σ H H', i < n → Pv i ys σ H → Y i H x H' → g x σ H' fun σ2 H2 => tb { D with nx := Pv (i + 1), ct := Pv (i + 1), bk := D.nx } ys σ2 H2) (hd : ∀ ys σ H, Pv n ys σ H → D.nx ys σ H) :
    ∃ W : Nat → Nat → List V → L2.St → Hp → Prop, (∃ m, W 0 m ys σ H) ∧ ∀ i m ys σ H, W i m ys σ H →
      (J.stop i H ∧ D.nx ys σ H) ∨ (J.go i H ∧ ∃ N : List V → L2.St → Hp → Prop, (∀ ys' σ' H', N ys' σ' H' → ∃ m', m' < m ∧ W (i + 1) m' ys' σ' H') ∧ ∀ x H', J.yld i H x H' → g x σ H' fun σ2 H2 => tb { D with nx := N, ct := N, bk := D.nx } ys σ2 H2) := by
  refine ⟨fun i m ys σ H => m = n - i ∧ i ≤ n ∧ Pv i ys σ H, ⟨n, rfl, Nat.zero_le _, h0⟩, ?_⟩
  rintro i m ys σ H ⟨rfl, hi, p⟩
  by_cases hlt : i < n
  · exact .inr ⟨w.goes i H hlt (hG i ys σ H hi p), Pv (i + 1), fun ys' σ' H' p' => ⟨n - (i + 1), by omega, rfl, hlt, p'⟩, fun x H' y => hs i x ys σ H H' hlt p (w.yields i H x H' hlt (hG i ys σ H hi p) y)⟩
  · have e : i = n := by omega
    subst e
    exact .inl ⟨w.stops H (hG _ ys σ H hi p), hd ys σ H p⟩
end
section
variable {X : Cx} {S : Cons} {ip : List (Addr × Obj)} {ys : List V} {σ : L2.St} {H : Hp} {s : Shared}
theorem GIz.unwish {E : Value → Shared → Prop} (h : GIz (X.wish E) S ip ys σ H s) : GIz X S ip ys σ H s := let ⟨P, r, I⟩ := h; ⟨P, r, I.unwish⟩
theorem GIz.wish {E : Value → Shared → Prop} (h : GIz X S ip ys σ H s) : GIz (X.wish E) S ip ys σ H s := let ⟨P, r, I⟩ := h; ⟨P, r, I.wish E⟩
theorem gy_un {n : Nat} {s₀ : Shared} {v : Value} {kap kap' : Resume → Shared → Prop} {E : Value → Shared → Prop} (hk : ∀ r s', kap r s' → kap' r s') (h : GY (X.wish E) S n s₀ v s kap) : GY X S n s₀ v s kap' :=
  let ⟨ys, x, ip, σ, H, h1, h2, h3, h4⟩ := h; ⟨ys, x, ip, σ, H, h1, h2, h3.unwish, fun s' P' z a b => hk _ _ (h4 s' P' z a b)⟩
theorem gy_to {n : Nat} {s₀ : Shared} {v : Value} {kap kap' : Resume → Shared → Prop} {E : Value → Shared → Prop} (hk : ∀ r s', kap r s' → kap' r s') (h : GY X S n s₀ v s kap) : GY (X.wish E) S n s₀ v s kap' :=
  let ⟨ys, x, ip, σ, H, h1, h2, h3, h4⟩ := h; ⟨ys, x, ip, σ, H, h1, h2, h3.wish, fun s' P' z a b => hk _ _ (h4 s' P' z a b)⟩
theorem GSs.nox {st : List Stmt} {t : TGn} (h : GSs X.nox st t) : GSs X st t := by
  refine ⟨fun A S ip R n ys s₀ c fs K J gd lv s σ H D g hn k hI ht => ?_⟩
  have g' : GC X.nox S ip A c fs gd := ⟨g.pn, g.ip, g.apart, g.over, g.split, g.guard, g.gd⟩
  refine seg_imp (R := R) (R' := R) (Y := GY X.nox S) (Y' := GY X S) (fun _ _ _ _ q => q) (fun n s₀ v s kap kap' hk q => gy_un (X := X) (S := S) (E := fun _ _ => False) hk q) n (h.run A S ip R n ys s₀ c fs K J gd lv s σ H D g' hn ⟨fun n' ys' s₀' s' f hn' hs => ?_, fun _ _ _ _ z => z.elim⟩ hI.wish ht)
  refine seg_imp (R := R) (R' := R) (Y := GY X S) (Y' := GY X.nox S) (fun _ _ _ _ q => q) (fun n s₀ v s kap kap' hk q => gy_to (X := X) (S := S) (E := fun _ _ => False) hk q) n' (k.ok n' ys' s₀' s' f hn' ?_)
  cases f with
  | next => obtain ⟨σ', H', I', q⟩ := hs; exact ⟨σ', H', I'.unwish, q⟩
  | brk => obtain ⟨σ', H', I', q⟩ := hs; exact ⟨σ', H', I'.unwish, q⟩
  | cont => obtain ⟨σ', H', I', q⟩ := hs; exact ⟨σ', H', I'.unwish, q⟩
  | ret u => obtain ⟨v, σ', H', I', rv, q⟩ := hs; exact ⟨v, σ', H', I'.unwish, rv, q⟩
end
end ZG
namespace DL
open PySem L2 StX
open PyProof.Rows (envOfC)
/-- a generator def: what it hands out -/
abbrev Rz := List D → Nat → (List D → Nat → Prop) → Prop
def spGD (K : PySem.W.Frag) [Tb K] (R : Rz) : SpG := fun vs H Q _ => ∃ (u : Wd) (ds : List D) (P : List D → Nat → Prop), u.H1 = H ∧ Ex u.H0 u.H1 ∧ StOk K u ∧ Dens K u vs ds ∧ R ds u.n P ∧ (∀ ys es u', Gs u u' → StOk K u' → Dens K u' ys es → P es u'.n → Q ys u'.H1)
structure GNd where
  nx : List D → DS → Nat → Prop
  bk : List D → DS → Nat → Prop := fun _ _ _ => False
  ct : List D → DS → Nat → Prop := fun _ _ _ => False
section
variable {K : PySem.W.Frag} [Tb K] {Z : ZX} {b u u' u'' : Wd} {σ : L2.St} {ds : DS} {n : Nat} {te ta : TE} {es : List D}
structure GEOk (K : PySem.W.Frag) [Tb K] (Z : ZX) (b s : Wd) (De : ZG.GEnds) (N : GNd) : Prop where
  nx : ∀ es ys ds u σ, Le s u → Sd K Z b u σ ds → Dens K u ys es → N.nx es ds u.n → De.nx ys σ u.H1
  bk : ∀ es ys ds u σ, Le s u → Sd K Z b u σ ds → Dens K u ys es → N.bk es ds u.n → De.bk ys σ u.H1
  ct : ∀ es ys ds u σ, Le s u → Sd K Z b u σ ds → Dens K u ys es → N.ct es ds u.n → De.ct ys σ u.H1
theorem GEOk.mono {s s' : Wd} {De : ZG.GEnds} {N : GNd} (O : GEOk K Z b s De N) (e : Le s s') : GEOk K Z b s' De N :=
  ⟨fun es ys ds u σ x => O.nx es ys ds u σ (e.trans x), fun es ys ds u σ x => O.bk es ys ds u σ (e.trans x), fun es ys ds u σ x => O.ct es ys ds u σ (e.trans x)⟩
/-- a statement of a generator, es out -/
def Gw (K : PySem.W.Frag) [Tb K] (Z : ZX) (tg : ZG.TGn) (es : List D) (ds : DS) (n : Nat) (N : GNd) : Prop :=
  ∀ (b u : Wd) (σ : L2.St) (De : ZG.GEnds) (ys : List V), u.n = n → Sd K Z b u σ ds → Dens K u ys es → GEOk K Z b u De N → tg De ys σ u.H1
variable {N : GNd} {t v : ZG.TGn}
theorem gw_plain {ts : TS} (h : Ws K Z ts ds n { nx := N.nx es, rt := fun _ _ => False, bk := N.bk es, ct := N.ct es }) : Gw K Z (ZG.tPlain ts) es ds n N := fun b u σ De ys e S r O =>
  h b u σ (De.at ys) e S ⟨fun ds' u' σ' l S' p => O.nx es ys ds' u' σ' l S' (r.mono l) p, fun _ _ _ _ _ _ z => z.elim, fun ds' u' σ' l S' p => O.bk es ys ds' u' σ' l S' (r.mono l) p, fun ds' u' σ' l S' p => O.ct es ys ds' u' σ' l S' (r.mono l) p⟩
theorem gw_nil (h : N.nx es ds n) : Gw K Z ZG.tG0 es ds n N := fun b u σ De ys e S r O => O.nx es ys ds u σ .refl S r (e ▸ h)
theorem gw_then (h : Gw K Z t es ds n { nx := fun es' ds' m => Gw K Z v es' ds' m N, bk := N.bk, ct := N.ct }) : Gw K Z (ZG.tGThen t v) es ds n N := fun b u σ De ys e S r O =>
  h b u σ { De with nx := fun ys' σ' H' => v De ys' σ' H' } ys e S r ⟨fun es' ys' ds' u' σ' l S' r' p => p b u' σ' De ys' rfl S' r' (O.mono l), O.bk, O.ct⟩
theorem gw_yield (hz : es.length < 1000000) (h : We K Z te ds n fun d m => N.nx (es ++ [d]) ds m) : Gw K Z (ZG.tGYield te) es ds n N := fun b u σ De ys e S r O =>
  ⟨by rw [r.len]; exact Nat.lt_of_lt_of_le hz (by decide), h b u σ _ e S fun w d u1 g1 s1 r1 p => O.nx _ _ ds u1 σ g1.ls (S.go g1 s1) ((r.mono g1.ls).app (.cons r1 .nil)) p⟩
theorem gw_for {wi : TI} {g : TG} {tb : ZG.TGn} (h : Wi K Z wi ds n fun xs m => ∃ Iv : Nat → List D → DS → Nat → Prop, Iv 0 es ds m ∧
    (∀ i x es' ds' k, xs[i]? = some x → Iv i es' ds' k → Wg K Z g x ds' fun ds2 => Gw K Z tb es' ds2 k { nx := Iv (i + 1), bk := N.nx, ct := Iv (i + 1) }) ∧ (∀ es' ds' k, Iv xs.length es' ds' k → N.nx es' ds' k)) : Gw K Z (ZG.tGFor wi g tb) es ds n N := fun b u σ De ys e S r O =>
  h b u σ _ e S fun J xs u1 G Y g1 s1 ⟨Iv, i0, is, idn⟩ w hG hY => by
    refine ZG.gfor_it w (fun i ys' σ' H' => ∃ w es' ds', w.H1 = H' ∧ Le u1 w ∧ Sd K Z b w σ' ds' ∧ Dens K w ys' es' ∧ Iv i es' ds' w.n) ⟨u1, es, ds, rfl, .refl, S.go g1 s1, r.mono g1.ls, i0⟩ (fun i ys' σ' H' _ ⟨w, es', ds', eh, l, S', _, _⟩ => eh ▸ hG w l S'.ex) ?_ ?_
    · rintro i v ys' σ' H' H'' hi ⟨w, es', ds', rfl, l, S', r', iv⟩ y
      obtain ⟨x, w', rfl, hx, g2, rv⟩ := hY w i v H'' l S'.ex S'.st hi y
      have q := is i x es' ds' w.n hx iv
      rw [← g2.n] at q
      refine q b w' σ' v _ (S'.go g2.g (g2.st S'.st)) rv fun ds2 σ2 S2 q => q b w' σ2 _ ys' rfl S2 (r'.mono g2.g.ls) ⟨fun es3 ys3 ds3 u3 σ3 x3 S3 r3 q3 => ⟨u3, es3, ds3, rfl, (l.trans g2.g.ls).trans x3, S3, r3, q3⟩,
        fun es3 ys3 ds3 u3 σ3 x3 S3 r3 q3 => O.nx _ _ _ u3 _ (g1.ls.trans ((l.trans g2.g.ls).trans x3)) S3 r3 q3, fun es3 ys3 ds3 u3 σ3 x3 S3 r3 q3 => ⟨u3, es3, ds3, rfl, (l.trans g2.g.ls).trans x3, S3, r3, q3⟩⟩
    · rintro ys' σ' H' ⟨w, es', ds', rfl, l, S', r', iv⟩
      exact O.nx _ _ _ w _ (g1.ls.trans l) S' r' (idn es' ds' _ iv)
/-! the comprehension over a generator's call -/
def Wz (K : PySem.W.Frag) [Tb K] (Z : ZX) (tg : TGen) (ds : DS) (n : Nat) (P : List D → Nat → Prop) : Prop :=
  ∀ (b u : Wd) (σ : L2.St) (cont : List V → Hp → Prop), u.n = n → Sd K Z b u σ ds → (∀ ys es u', Gs u u' → StOk K u' → Dens K u' ys es → P es u'.n → cont ys u'.H1) → tg σ u.H1 cont
theorem we_listZ {tg : TGen} {P : D → Nat → Prop} (h : Wz K Z tg ds n fun es m => P (.lst es) m) : We K Z (tListG tg) ds n P := fun b u σ Q e S k =>
  h b u σ _ e S fun ys es u1 g1 s1 r p q hq => by
    have g0 := Gs.put g1.c hq (o := .lst ys)
    exact k (.ref q) (.lst es) (u1.put q (.lst ys)) (g1.trans g0) (s1.put g1.c hq) (.lst (SqL.of upd_same) (r.mono g0.ls)) p
theorem wz_meth {C : Addr} {m : Str} {R : Rz} {E : XK} {t : TA} {P : List D → Nat → Prop} (h : We K Z ta ds n fun o j => ∃ fs, o = .obj C fs ∧ fs.lookup m = none ∧ Wa K Z t ds j fun xs k => R (o :: xs) k P) : Wz K Z (tMethG C m (spGD K R) [] E ta t) ds n P := fun b u σ cont e S k =>
  h b u σ _ e S fun v d u1 g1 s1 r ⟨fs, z, hl, p⟩ => by
    subst z
    obtain ⟨a, dx, ws, rfl, h1, hf⟩ := den_obj r
    refine ⟨a, dx, ws, rfl, g1.c _ _ h1, hf.miss hl, p b u1 σ _ rfl (S.go g1 s1) fun vs xs u2 g2 s2 rr p2 => ?_⟩
    exact ⟨u2, .obj C fs :: xs, P, rfl, g2.c, s2, by rw [List.append_nil]; exact .cons (r.mono g2.ls) rr, p2, fun ys es u' g s r p => k ys es u' (g1.trans (g2.trans g)) s r p⟩
theorem wz_methN {C : Addr} {m : Str} {R : Rz} {E : XK} {tk : TA} {P : List D → Nat → Prop} {nk : Nat} {ix : List Nat} (h : We K Z ta ds n fun o j => ∃ fs, o = .obj C fs ∧ fs.lookup m = none ∧ Wa K Z tk ds j fun ys k => ys.length = nk ∧ R (perm ix [o] ys) k P) : Wz K Z (ZG.tMethGN C m nk (spGD K R) (perm ix) E ta tk) ds n P := fun b u σ cont e S k =>
  h b u σ _ e S fun v d u1 g1 s1 r ⟨fs, z, hl, p⟩ => by
    subst z
    obtain ⟨a, dx, ws, rfl, h1, hf⟩ := den_obj r
    refine ⟨a, dx, ws, rfl, g1.c _ _ h1, hf.miss hl, p b u1 σ _ rfl (S.go g1 s1) fun vs xs u2 g2 s2 rr ⟨h2, p2⟩ => ?_⟩
    exact ⟨rr.len.trans h2, u2, perm ix [_] xs, P, rfl, g2.c, s2, dens_perm ix (.cons (r.mono g2.ls) .nil) rr, p2, fun ys es u' g s r p => k ys es u' (g1.trans (g2.trans g)) s r p⟩
end
section
variable {Pr : Program} {w : World} {K : PySem.W.Frag} [Tb K] {mg : Str → Option Value} {base : Heap}
/-- a generator def's body keeps its spec -/
theorem dokZ {x qual : Str} {st : Stmt} {f : Addr} {fd : FuncData} {N ps : List Str} {k : Nat} {R : Rz} (F : Fun K x qual st f fd) (S : GScope N ps (defScope st)) (len : ∀ ds n P, R ds n P → ds.length = ps.length) (hNp : ps.length ≤ N.length)
    (hbody : ∀ (cdv : Value) (A : Around) (outer : List Env) (s : Shared) (H : Hp) (E : XK) (pn : List (Addr × Obj)), Room k (A.deeper (envOfC qual (defScope st) s.heap.objs.size f cdv)) →
      ∃ t, ZG.GSs (gcxOf Pr w K mg base N qual (defScope st) f cdv A outer s H E pn).nox (defBody st) t ∧ ∀ Z ds n P, R ds n P → Gw K Z t [] (startD N.length ds) n { nx := fun es _ m => P es m }) :
    ZG.GFn Pr w K mg base (k + 1) f fd ps (spGD K R) := by
  obtain ⟨oc, od, kV, doc, pm, an, cdv, ct, osl, rfl, lk, hcode⟩ := F.ex
  refine ZG.gfn_of lk hcode S (fun vs H Q E ⟨u, ds, P, _, e, _, r, h, _⟩ => by rw [r.len]; exact len ds _ P h) (fun A outer s H vs Q E pn hr ⟨u, ds, P, eh, e, st', r, h, q⟩ => ?_)
  obtain ⟨t, ht, hW⟩ := hbody cdv A outer s H E pn hr
  subst eh
  refine ⟨t, ht.nox, hW ⟨E, noX⟩ ds u.n P h u u _ _ [] rfl (sd_start e xok_no st' r (by rw [r.len, len ds _ P h]; exact hNp)) .nil ⟨fun es ys ds' v σ' _ S' r' p => q ys es v S'.gr S'.st r' p, fun _ _ _ _ _ _ _ _ z => z.elim, fun _ _ _ _ _ _ _ _ z => z.elim⟩⟩
end
end DL

/-! Streams with an invariant of their own: dicts with text keys, read and stored. -/
namespace DL
open PySem L2 StX
/-! data without streams and things that a def is making -/
mutual
def pureD : D → Bool
  | .non => true | .bl _ => true | .int _ => true | .str _ => true | .ty _ => true | .cls _ => true
  | .lst xs => puresD xs | .tup xs => puresD xs
  | _ => false
def puresD : List D → Bool
  | [] => true
  | x :: xs => pureD x && puresD xs
end
section
variable {K : PySem.W.Frag} [Tb K] {Z : ZX} {b u u' u'' : Wd} {σ : L2.St} {ds : DS} {n : Nat} {P : D → Nat → Prop} {te ta tb tc tv : TE} {N : Nd} {De : Ends}
/-- what stands for a thing wherever this much is settled -/
def PDen (K : PySem.W.Frag) [Tb K] (H : Hp) (v : V) (d : D) : Prop := ∀ u : Wd, Ex H u.H0 → Den K u v d
mutual
theorem den_pure : ∀ {v : V} {d : D}, Den K u v d → pureD d = true → PDen K u.H0 v d
  | _, _, .non, _ => fun _ _ => .non
  | _, _, .bl b, _ => fun _ _ => .bl b
  | _, _, .int i, _ => fun _ _ => .int i
  | _, _, .str x, _ => fun _ _ => .str x
  | _, _, .ty x, _ => fun _ _ => .ty x
  | _, _, .cls x, _ => fun _ _ => .cls x
  | _, _, .lst h r, p => fun w e => .lst (Evl.ex_l e h) (dens_pure r (by simpa only [pureD] using p) w e)
  | _, _, .tup h r, p => fun w e => .tup (Evl.ex_t e h) (dens_pure r (by simpa only [pureD] using p) w e)
  | _, _, .strm _ _, p => by simp [pureD] at p
  | _, _, .obj _ _, p => by simp [pureD] at p
  | _, _, .dct _ _, p => by simp [pureD] at p
  | _, _, .fdc _ _, p => by simp [pureD] at p
  | _, _, .exc _ _ _, p => by simp [pureD] at p
  | _, _, .exc0 _, p => by simp [pureD] at p
  | _, _, .lam _ _, p => by simp [pureD] at p
theorem dens_pure : ∀ {vs : List V} {ds : List D}, Dens K u vs ds → puresD ds = true → ∀ w : Wd, Ex u.H0 w.H0 → Dens K w vs ds
  | _, _, .nil, _ => fun _ _ => .nil
  | _, _, .cons h r, p => fun w e => by
    simp only [puresD, Bool.and_eq_true] at p
    exact .cons (den_pure h p.1 w e) (dens_pure r p.2 w e)
end
theorem PDen.mono {H H' : Hp} {v : V} {d : D} (h : PDen K H v d) (e : Ex H H') : PDen K H' v d := fun u e' => h u (e.trans e')
end
end DL

/-! isinstance(x, (T1, T2)); sorted(xs, key=def) of a list or a tuple. -/
namespace L2
open PySem
/-- sorted(xs, key=f), xs a list or a tuple -/
def rSortedKQ (K : PySem.W.Frag) (f : Addr) (i j : Nat) : List V → List V → Hp → VK → Prop := fun vs zs H Q => rSortedK K f i j vs zs H Q ∨ rSortedKT K f i j vs zs H Q
end L2
namespace DL
open PySem L2 StX
section
variable {K : PySem.W.Frag} [Tb K] {Z : ZX} {b u u' u'' : Wd} {σ : L2.St} {ds : DS} {n : Nat} {P : D → Nat → Prop} {te ta tb tc tv : TE} {N : Nd} {f : Addr} {i j : Nat}
/-- isinstance(x, (T1, T2)) -/
def kit2 (T T1 T2 : String) : Option Bool := match kitB T T1 with
  | some true => some true
  | some false => kitB T T2
  | none => none
end
end DL

/-! for k, v in d.items(), d a frozen dict. -/
namespace DL
open PySem L2 StX
section
variable {K : PySem.W.Frag} [Tb K] {Z : ZX} {b u u' u'' : Wd} {σ : L2.St} {ds : DS} {n : Nat} {te : TE}
/-- an item -/
abbrev itD (p : Key × D) : D := .tup [keyDt p.1, p.2]
end
end DL

/-! {"k1": .., "k2": ..}, new. -/
namespace DL
open PySem L2 StX
section
variable {K : PySem.W.Frag} [Tb K] {Z : ZX} {b u u' u'' : Wd} {σ : L2.St} {ds : DS} {n : Nat} {P : D → Nat → Prop} {te ta tb tc : TE}
end
end DL

/-! a plain call of a def f(a, .., *v) -/
namespace L2
open PySem PySem.Spec PyProof.Rows StX
def tCallR (sp : Sp) (E : XK) (t : TA) : TE := fun σ H Q => t σ H fun vs H1 => sp vs H1 Q E
section
variable {X : Cx} {CX : CXT} {k i : Nat} {f C : Addr} {sp : Sp} {E : XK} {x : Str} {e : Expr} {es : List Expr} {te tf : TE} {t : TA} {p pos : Pos}
end
end L2
namespace DL
open PySem L2 StX
section
variable {K : PySem.W.Frag} [Tb K] {Z : ZX} {b u u' u'' : Wd} {σ : L2.St} {ds : DS} {n : Nat} {P : D → Nat → Prop} {R : Rl} {E : XK}
end
end DL

/-! d.get(k); o.m(..) where m is def m(self, *xs); i & 1 -/
namespace L2
open PySem PySem.Spec PyProof.Rows StX
section
variable {X : Cx} {CX : CXT} {k : Nat} {f C : Addr} {sp : Sp} {E : XK} {m : Str} {o e : Expr} {es : List Expr} {ta : TE} {t : TA} {apos pos : Pos}
theorem pe_methVs {pl : Sem Bool} (he : PE X o ta) (c : Cls X.K C) (hm : Meth X.K C m f) (F : FnR X.prog X.w X.K X.mg X.base CX k f sp) (hr : Room k X.A) (hx : Passes CX X E) (ha : PA X (e :: es) t)
    (hst : starEach (e :: es) X.env = (false, eval e X.env) :: starEach es X.env := by rfl) (hpl : (backTo pos (starEach es X.env)).any (·.1) = false := by rfl)
    (ht : eval (.Call (.Attribute o m apos) (e :: es) [] pos) X.env = (do
      let ov ← eval o X.env
      standAt apos.atName
      let (f, first) ← holding [ov] (getMethod ov m pl)
      callWith pos f first (backTo pos (starEach (e :: es) X.env)) (backToKw pos (keywordEach [] X.env))) := by rfl) :
    PE X (.Call (.Attribute o m apos) (e :: es) [] pos) (tMeth C m sp [] E ta t) := by
  refine ⟨fun pins s σ H Q I h => ?_⟩
  refine PySem.W.methodCall_KW (pl := pl) (thn (he.run pins s σ H _ I h) fun u s1 ⟨x, H1, I1, rx, a, dx, fs, ex, ea, l, q⟩ => ?_) ht
  subst ex
  obtain rfl : u = Value.ref a := rx
  refine getmeth_ok I1 ea c hm l ?_
  refine PySem.W.callWith_K (first := [.ref a]) (h₀ := X.base) I.ok.mod.kin hm.kp (thn (ha.run pos pins s1 σ H1 _ I1 q) fun us s2 ⟨vs, H2, I2, r, q2⟩ => ⟨I2.kIn, ?_⟩) hst hpl
  replace q2 : sp (V.ref a :: (vs ++ [])) H2 Q E := q2
  rw [List.append_nil] at q2
  exact wpAny_call (run_fnR (us := .ref a :: us) (vs := .ref a :: vs) F hr hx I2 (.cons rfl r) q2)
theorem pe_methVs0 {pl : Sem Bool} (he : PE X o ta) (c : Cls X.K C) (hm : Meth X.K C m f) (F : FnR X.prog X.w X.K X.mg X.base CX k f sp) (hr : Room k X.A) (hx : Passes CX X E)
    (ht : eval (.Call (.Attribute o m apos) [] [] pos) X.env = (do
      let ov ← eval o X.env
      standAt apos.atName
      let (f, first) ← holding [ov] (getMethod ov m pl)
      callWith pos f first (backTo pos (starEach [] X.env)) (backToKw pos (keywordEach [] X.env))) := by rfl) :
    PE X (.Call (.Attribute o m apos) [] [] pos) (tMeth C m sp [] E ta tNil) := by
  refine ⟨fun pins s σ H Q I h => ?_⟩
  refine PySem.W.methodCall_KW (pl := pl) (thn (he.run pins s σ H _ I h) fun u s1 ⟨x, H1, I1, rx, a, dx, fs, ex, ea, l, q⟩ => ?_) ht
  subst ex
  obtain rfl : u = Value.ref a := rx
  refine getmeth_ok I1 ea c hm l ?_
  exact PySem.W.callWith_K0 (first := [.ref a]) I1.kIn hm.kp (wpAny_call (run_fnR (us := [.ref a]) (vs := [.ref a]) F hr hx I1 (.cons rfl .nil) q))
end
end L2
namespace ClX
open PySem PySem.Spec PyProof.Rows L2 StX
section
variable {X : Cx} {CX : CXT} {k : Nat} {p g C : Addr} {mc : Value} {sp : Sp} {E : XK} {m : Str} {o : Expr} {ta : TE} {apos pos : Pos}
/-- C.m() -/
theorem pe_cmeth0 {pl : Sem Bool} (he : PE X o ta) (r : CRead X.K C mc) (c : CMet X.K C mc m p g) (F : FnR X.prog X.w X.K X.mg X.base CX k g sp) (hr : Room k X.A) (hx : Passes CX X E)
    (ht : eval (.Call (.Attribute o m apos) [] [] pos) X.env = (do
      let ov ← eval o X.env
      standAt apos.atName
      let (f, first) ← holding [ov] (getMethod ov m pl)
      callWith pos f first (backTo pos (starEach [] X.env)) (backToKw pos (keywordEach [] X.env))) := by rfl) :
    PE X (.Call (.Attribute o m apos) [] [] pos) (tCMeth C sp E ta tNil) := by
  refine ⟨fun pins s σ H Q I h => ?_⟩
  refine PySem.W.methodCall_KW (pl := pl) (thn (he.run pins s σ H _ I h) fun u s1 ⟨x, H1, I1, rx, ex, q⟩ => ?_) ht
  subst ex
  obtain rfl : u = Value.ref C := rx
  refine getmethcm_ok I1 r c fun s2 I2 => ?_
  exact PySem.W.callWith_M0 (K := X.K) ⟨pin_at I2, I2.kIn⟩ c.fi (run_cm (us := []) (vs := []) F hr hx I2 .nil q)
end
end ClX
namespace DL
open PySem L2 StX
section
variable {K : PySem.W.Frag} [Tb K] {Z : ZX} {b u u' u'' : Wd} {σ : L2.St} {ds : DS} {n : Nat} {P : D → Nat → Prop} {R : Rl} {E : XK} {ta tb : TE} {C : Addr} {m : Str}
/-- d.get(k) -/
theorem we_dget1F (h : We K Z ta ds n fun x m => ∃ ys, x = .fdc ys ∧ We K Z tb ds m fun y k => ∃ kk, keyD y kk ∧ P ((valD ys kk).getD .non) k) : We K Z (tDGet1 ta tb) ds n P := fun b u σ Q e S k =>
  h b u σ _ e S fun v x u1 g1 s1 r ⟨ys, hx, q⟩ => by
    subst hx
    obtain ⟨a, o, kvs, rfl, hd, hkv⟩ := den_fdc r
    refine ⟨a, rfl, .inl ⟨kvs, .inr ⟨o, g1.c _ _ hd⟩⟩, q b u1 σ _ rfl (S.go g1 s1) fun w y u2 g2 s2 r2 ⟨kk, hk, p⟩ => ?_⟩
    refine ⟨valV kvs kk, .inl ⟨kvs, kk, .inr ⟨o, g2.c _ _ (g2.a _ _ hd)⟩, den_keyD r2 hk, rfl⟩, ?_⟩
    rcases denK_val (k := kk) (hkv.mono g2.ls) with ⟨z1, z2⟩ | ⟨v', d', z1, z2, z3⟩
    · rw [z1]; rw [z2] at p
      exact k _ _ u2 (g1.trans g2) s2 .non p
    · rw [z1]; rw [z2] at p
      exact k _ _ u2 (g1.trans g2) s2 z3 p
/-- o.m(..), all that is given but o in a tuple -/
theorem we_methR {t : TA} (h : We K Z ta ds n fun o j => ∃ fs, o = .obj C fs ∧ fs.lookup m = none ∧ Wa K Z t ds j fun xs k => xs.length ≤ 1000000 ∧ R [o, .tup xs] k P noX) : We K Z (tMeth C m (starS 1 (spD K R)) [] E ta t) ds n P := fun b u σ Q e S k =>
  h b u σ _ e S fun v o u1 g1 s1 r ⟨fs, z, hl, q⟩ => by
    subst z
    obtain ⟨a, dx, fv, rfl, ha, hf⟩ := den_obj r
    refine ⟨a, dx, fv, rfl, g1.c _ _ ha, hf.miss hl, q b u1 σ _ rfl (S.go g1 s1) fun vs xs u2 g2 s2 r2 ⟨hz, p2⟩ => ?_⟩
    have hl2 := r2.len
    refine ⟨[.ref a], vs, by rw [List.append_nil]; rfl, rfl, sz100 (by omega), fun p' hp => ?_⟩
    have l1 := (Gs.put g2.c (o := .tup vs) hp).ls
    exact ⟨u2.put p' (.tup vs), [_, .tup xs], P, noX, rfl, (Gs.put g2.c hp).c, s2.put g2.c hp, .cons ((r.mono g2.ls).mono l1) (.cons (.tup (SqT.of upd_same) (r2.mono l1)) .nil), p2, fun v d u3 g3 s3 r' p' => k v d u3 (((g1.trans g2).trans (Gs.put g2.c hp)).trans g3) s3 r' p', xok_no⟩
theorem and1 {P : D → Prop} {i : Int} (h : P (.int (i % 2))) : Op K rAndM (.int i) (.int 1) P := fun u v w Q ex _ d1 d2 k => by
  cases den_int d1
  cases den_int d2
  exact ⟨i, 1, rfl, rfl, k _ _ u (.refl ex) (.int _) h⟩
end
end DL

namespace Lw
open PySem L2 StX DL
open PyProof.Rows (envOfC)
structure Ad where
  c_Alphabet : Addr
  a_is_integer : Addr
  a_check_text : Addr
  a_digit_fits : Addr
  a__is_row_of_signs : Addr
  a__law_streams : Addr
  a__law_next : Addr
  a__law_free : Addr
  a__law_code : Addr
  a__law_folded : Addr
  a_is_count : Addr
  a_folded : Addr
  a_Alphabet_init : Addr
  a_Alphabet_read : Addr
  a__law_signs : Addr
  a__law_sized : Addr
  a_is_up_to : Addr
  a_Alphabet_numbers_in : Addr
  a_check_up_to : Addr
  a_Alphabet_standard : Addr
  a_unfolded : Addr
  a_Alphabet_code_of : Addr
  a_Alphabet_call : Addr
  a_Alphabet_signed : Addr
  a_Alphabet_codes : Addr
  a_Alphabet_signed_in : Addr
  a__law_codes_hold : Addr
  a__law_signed_hold : Addr
  a_law : Addr
  p_Alphabet_standard : Addr
  t_CODE_LIMIT : Tok
  t_FOLDED_LIMIT : Tok
  t_MANY_DIGITS : Tok
  t_MANY_SIGNS : Tok
  t_PERCENT_SIGN : Tok
  t_SIGNED_LIMIT : Tok
abbrev k_CODE_LIMIT : V := .int 1000000000000
abbrev k_FOLDED_LIMIT : V := .int 2000000000
abbrev k_MANY_DIGITS : V := .int 32
abbrev k_MANY_SIGNS : V := .int 64
abbrev k_PERCENT_SIGN : V := .int 37
abbrev k_SIGNED_LIMIT : V := .int 1000000000
def RL : Rl := fun ds n P _ => ∃ ns : List Int, ds = [.lst (ns.map .int)] ∧ ns.length ≤ 63 ∧ n = 600 ∧ ∀ m, P (.bl true) m
abbrev spL (K : PySem.W.Frag) [Tb K] : Sp := spD K RL
theorem law_start {K : PySem.W.Frag} {tb : List (Addr × Str)} [i : Tb K] {H : Hp} {a : Addr} {ns : List Int} (hl : ns.length ≤ 63) (hS : SqL K H a (ns.map V.int)) (hi : Tb.tb K = tb) (hn : (tb.map (·.1)).Nodup) (hT : ∀ p ∈ tb, H p.1 = some (.tbl #[])) : spL K [.ref a] H (fun v _ => v = .bl true) fun _ _ _ => False :=
  law_begin 600 hS hi hn hT ⟨ns, rfl, hl, rfl, fun _ => rfl⟩
abbrev mk (l : List Nat) : Str := ⟨l.toArray⟩
abbrev tl (x : Str) : List Nat := x.cps.toList
abbrev P2 (p : Mx.Pt) : D := pos p.1 p.2
def oP : Option Mx.Pt → D
  | none => .non
  | some p => P2 p
/-- signs that no row holds -/
def noSign (c : Nat) : Bool := c == 37 || decide (c ∈ (Str.ofString ",;>.'").cps.toList)
/-- a row of signs -/
def okS (x : Str) : Prop := (tl x).length = 64 ∧ (tl x).Nodup ∧ ∀ c ∈ tl x, 32 ≤ c ∧ c ≤ 126 ∧ noSign c = false
abbrev alD (A : Ad) (x : Str) (e : List (Key × D)) : D := .obj A.c_Alphabet [("_signs", .str x), ("_indexes", .fdc e)]
/-- the signs of the rest in front of what is told -/
def up (s : List Nat) (r : Nat) (acc : List Nat) : List Nat := if h : r = 0 then acc else up s (r / 32) (s.getD (32 + r % 32) 0 :: acc)
termination_by r
decreasing_by exact Nat.div_lt_self (Nat.pos_of_ne_zero h) (by decide)
def cdO (x : Str) (n : Nat) : Str := mk (up (tl x) (n / 32) [(tl x).getD (n % 32) 0])
def fo (i : Int) : Int := if 0 ≤ i then 2 * i else -2 * i - 1
def un (i : Int) : Int := if i = 2 * (i / 2) then i / 2 else -(i / 2) - 1
def fre : Str := Str.ofString " !\"#$&()*+-/0123456789:<=?@ABCDEFGHIJKLMNOPQRSTUVWXYZ[\\]^_`abcdefghijklmnopqrstuvwxyz{|}~"
/-- the signs' places are told -/
def okE (x : Str) (e : List (Key × D)) : Prop := ∀ i c, (tl x)[i]? = some c → valD e (.inr ⟨#[c]⟩) = some (.int (i : Nat))
/-- what is read: the number before, the sign's index -/
abbrev Ev := Nat × Nat
def made (e : Ev) : Nat := 32 * e.1 + e.2 % 32
def okEv (L : Nat) (e : Ev) : Prop := e.2 < 64 ∧ (e.2 < 32 → made e ≤ L) ∧ (32 ≤ e.2 → made e ≠ 0 ∧ 32 * made e ≤ L)
def evU (r : Nat) (acc : List Ev) : List Ev := if h : r = 0 then acc else evU (r / 32) ((r / 32, 32 + r % 32) :: acc)
termination_by r
decreasing_by exact Nat.div_lt_self (Nat.pos_of_ne_zero h) (by decide)
def evs (n : Nat) : List Ev := evU (n / 32) [(n / 32, n % 32)]
/-- many numbers' codes, one after the other -/
def txO (x : Str) (ns : List Nat) : Str := mk (ns.map fun n => tl (cdO x n)).flatten
abbrev nI (ns : List Nat) : D := .lst (ns.map fun (n : Nat) => .int (n : Int))
abbrev R_is_integer (A : Ad) : Rl := pr fun ds P => ∃ i, ds = [.int i] ∧ P (.bl true)
abbrev R_is_count (A : Ad) : Rl := pr fun ds P => ∃ i, ds = [.int i] ∧ P (.bl (decide (0 ≤ i)))
abbrev R_is_up_to (A : Ad) : Rl := pr fun ds P => ∃ i l, ds = [.int i, .int l] ∧ P (.bl (decide (0 ≤ i) && decide (i ≤ l)))
abbrev R_check_up_to (A : Ad) : Rl := pr fun ds P => ∃ i l, ds = [.int i, .int l] ∧ 0 ≤ i ∧ i ≤ l ∧ P .non
abbrev R_folded (A : Ad) : Rl := pr fun ds P => ∃ i : Int, ds = [.int i] ∧ -1000000000 ≤ i ∧ i ≤ 1000000000 ∧ P (.int (fo i))
abbrev R_unfolded (A : Ad) : Rl := pr fun ds P => ∃ i : Int, ds = [.int i] ∧ 0 ≤ i ∧ i ≤ 2000000000 ∧ P (.int (un i))
abbrev R__is_row_of_signs (A : Ad) : Rl := pr fun ds P => ∃ x, ds = [.str x] ∧ okS x ∧ P (.bl true)
abbrev R_Alphabet_init (A : Ad) : Ri := fun ds _ P _ => ∃ x : Str, ds = [.str x] ∧ okS x ∧ ∀ e, okE x e → P [("_signs", .str x), ("_indexes", .fdc e)]
abbrev R_Alphabet_code_of (A : Ad) : Rl := pr fun ds P => ∃ (x : Str) (e : List (Key × D)) (k : Nat), ds = [alD A x e, .int k] ∧ okS x ∧ k ≤ 1000000000000 ∧ P (.str (cdO x k))
abbrev R_Alphabet_call (A : Ad) : Rl := R_Alphabet_code_of A
abbrev R_Alphabet_signed (A : Ad) : Rl := pr fun ds P => ∃ (x : Str) (e : List (Key × D)) (i : Int), ds = [alD A x e, .int i] ∧ okS x ∧ -1000000000 ≤ i ∧ i ≤ 1000000000 ∧ P (.str (cdO x (fo i).toNat))
abbrev R_check_text (A : Ad) : Rl := pr fun ds P => ∃ x : Str, ds = [.str x] ∧ P .non
abbrev R_digit_fits (A : Ad) : Rl := pr fun ds P => ∃ b i L : Nat, ds = [.int b, .int i, .int L, .int L] ∧ okEv L (b, i) ∧ L ≤ 1000000000000 ∧ P (.bl true)
abbrev R_Alphabet_standard (A : Ad) : Rl := pr fun ds P => ds = [.cls A.c_Alphabet] ∧ ∀ e, P (alD A (Str.ofString "ABCDEFGHIJKLMNOPQRSTUVWXYZabcdefghijklmnopqrstuvwxyz0123456789+/") e)
abbrev R_Alphabet_codes (A : Ad) : Rl := pr fun ds P => ∃ (x : Str) (e : List (Key × D)) (ns : List Nat), ds = [alD A x e, .tup (ns.map fun (n : Nat) => .int (n : Int))] ∧ okS x ∧ ns.length ≤ 1100 ∧ (∀ n ∈ ns, n ≤ 1000000000000) ∧ P (.str (txO x ns))
abbrev R_Alphabet_read (A : Ad) : Rl := pr fun ds P => ∃ (x : Str) (e : List (Key × D)) (ns : List Nat) (L : Nat), ds = [alD A x e, .str (txO x ns), .int L] ∧ okS x ∧ okE x e ∧ ns.length ≤ 1100 ∧ L ≤ 1000000000000 ∧ (∀ n ∈ ns, n ≤ L) ∧ P (.tup [nI ns, .non])
abbrev R_Alphabet_numbers_in (A : Ad) : Rz := fun ds n P => ∃ (x : Str) (e : List (Key × D)) (ns : List Nat), ds = [alD A x e, .str (txO x ns)] ∧ okS x ∧ okE x e ∧ ns.length ≤ 1100 ∧ (∀ n ∈ ns, n ≤ 1000000000000) ∧ P (ns.map fun (n : Nat) => .int (n : Int)) n
abbrev R_Alphabet_signed_in (A : Ad) : Rz := fun ds n P => ∃ (x : Str) (e : List (Key × D)) (ns : List Nat), ds = [alD A x e, .str (txO x ns)] ∧ okS x ∧ okE x e ∧ ns.length ≤ 1100 ∧ (∀ n ∈ ns, n ≤ 2000000000) ∧ P (ns.map fun (n : Nat) => .int (un n)) n
/-! the law's own defs -/
abbrev R__law_streams (A : Ad) : Rl := fun ds n P _ => ∃ ns : List Int, ds = [.lst (ns.map .int)] ∧ ns.length ≤ 63 ∧ 600 ≤ n ∧ ∀ ps : List Addr, P (.lst (ps.map fun a => .strm a .cells)) n
abbrev R__law_next (A : Ad) : Rl := fun ds n P _ => ∃ (a : Addr) (t : Int), ds = [.strm a .cells, .int t] ∧ 0 < t ∧ t < 1073741824 ∧ n ≤ 1000000 ∧ ∀ r, 0 ≤ r → r < t → P (.int r) (n + 1)
abbrev R__law_free (A : Ad) : Rl := pr fun ds P => ds = [] ∧ P (.str fre)
abbrev R__law_code (A : Ad) : Rl := pr fun ds P => ∃ (x : Str) (k : Nat), ds = [.str x, .int k] ∧ okS x ∧ k ≤ 1000000000000 ∧ P (.str (cdO x k))
abbrev R__law_folded (A : Ad) : Rl := pr fun ds P => ∃ i : Int, ds = [.int i] ∧ -1000000000 ≤ i ∧ i ≤ 1000000000 ∧ P (.int (fo i))
abbrev R__law_signs (A : Ad) : Rl := fun ds n P _ => ∃ a : Addr, ds = [.strm a .cells] ∧ n ≤ 900000 ∧ ∀ (x : Str) m, okS x → n ≤ m → m ≤ n + 3 → P (.str x) m
abbrev R__law_sized (A : Ad) : Rl := fun ds n P _ => ∃ (a : Addr) (L : Nat), ds = [.strm a .cells, .int L] ∧ L ≤ 1000000000000 ∧ n ≤ 900000 ∧ ∀ (k : Nat) m, k ≤ L → n ≤ m → m ≤ n + 60 → P (.int k) m
abbrev R__law_codes_hold (A : Ad) : Rl := pr fun ds P => ∃ (x : Str) (e : List (Key × D)) (ns : List Nat), ds = [alD A x e, .str x, nI ns] ∧ okS x ∧ okE x e ∧ 3 ≤ ns.length ∧ ns.length ≤ 20 ∧ (∀ n ∈ ns, n ≤ 1000000000000) ∧ P (.bl true)
abbrev R__law_signed_hold (A : Ad) : Rl := pr fun ds P => ∃ (x : Str) (e : List (Key × D)) (is : List Int), ds = [alD A x e, .str x, .lst (is.map .int)] ∧ okS x ∧ okE x e ∧ is.length ≤ 20 ∧ (∀ i ∈ is, -1000000000 ≤ i ∧ i ≤ 1000000000) ∧ P (.bl true)
abbrev R_law (A : Ad) : Rl := RL
structure TxtC (K : PySem.W.Frag) (A : Ad) : Prop where
  cl_Alphabet : Cls K A.c_Alphabet
  na_Alphabet__signs : NoAttr K A.c_Alphabet "_signs"
  na_Alphabet__indexes : NoAttr K A.c_Alphabet "_indexes"
  crd_Alphabet : ClX.CRead K A.c_Alphabet (.type "type")
  cv_Alphabet_MARKS : ∃ u, ClX.CVal K A.c_Alphabet (.type "type") "MARKS" (.str (PySem.Str.ofString ",;>.'")) u
  cv_Alphabet_STANDARD : ∃ u, ClX.CVal K A.c_Alphabet (.type "type") "STANDARD" (.str (PySem.Str.ofString "ABCDEFGHIJKLMNOPQRSTUVWXYZabcdefghijklmnopqrstuvwxyz0123456789+/")) u
structure TxtT (K : PySem.W.Frag) [Tb K] (A : Ad) : Prop where
  none : True
def t_is_integer (K : PySem.W.Frag) [Tb K] (A : Ad) : TS := (tRet (tAndV (tCB (rIsi K) (tCons (tVar 0) (tCons (tC (.ty "int")) tNil))) (tNotV (tCB (rIsi K) (tCons (tVar 0) (tCons (tC (.ty "bool")) tNil))))))
def t_check_text (K : PySem.W.Frag) [Tb K] (A : Ad) : TS := (tIfS (tNot (tB (tCB (rIsi K) (tCons (tVar 0) (tCons (tC (.ty "str")) tNil))))) tNever tNext)
def t_digit_fits (K : PySem.W.Frag) [Tb K] (A : Ad) : TS := (tSeq (tAsg (tOp (rAndM) (tVar 1) (tC (.int 31))) (gName 4))
    (tSeq (tAsg (tOp (rAddU K) (tOp (rI CMul fun i j => .int (i * j)) (tC (k_MANY_DIGITS)) (tVar 0)) (tVar 4)) (gName 5))
    (tSeq (tIfS (tTest (tOp (rEqP K) (tVar 1) (tVar 4))) (tRet (tOp (rLeP K) (tVar 5) (tIf (tTru K (tOp (rAndM) (tVar 5) (tC (.int 1)))) (tVar 3) (tVar 2)))) tNext)
    (tSeq (tIfS (tTest (tOp (rEqP K) (tVar 5) (tC (.int 0)))) (tRet (tC (.bl false))) tNext)
    (tRet (tOrV (tOp (rLeP K) (tOp (rI CMul fun i j => .int (i * j)) (tC (k_MANY_DIGITS)) (tVar 5)) (tVar 2)) (tOp (rLeP K) (tOp (rAddU K) (tOp (rI CMul fun i j => .int (i * j)) (tC (k_MANY_DIGITS)) (tVar 5)) (tC (.int 1))) (tVar 3))))))))
def t__is_row_of_signs (K : PySem.W.Frag) [Tb K] (A : Ad) : TS := (tSeq (tIfS (tOr (tNot (tB (tCB (rIsi K) (tCons (tVar 0) (tCons (tC (.ty "str")) tNil))))) (tOr (tTest (tOp (rNeP K) (tCB (rLen' K) (tCons (tVar 0) tNil)) (tC (k_MANY_SIGNS)))) (tTest (tOp (rNeP K) (tLenSetS (tVar 0)) (tC (k_MANY_SIGNS)))))) (tRet (tC (.bl false))) tNext)
    (tRet (tCB (rAll K) (tCons (tLc (iStr (tVar 0)) (gName 1) tYes (tAndV (tChain (rLeP K) (rLeP K) (tC (.str (PySem.Str.ofString " "))) (tVar 1) (tC (.str (PySem.Str.ofString "~")))) (tAndV (tOp (rNeP K) (tCB (rOrd') (tCons (tVar 1) tNil)) (tC (k_PERCENT_SIGN))) (tOp (rNotInS) (tVar 1) (ClX.tCVal K (tC (.ref A.c_Alphabet)) "MARKS")))) [1]) tNil))))
def t__law_streams (K : PySem.W.Frag) [Tb K] (A : Ad) : TS := (tSeq (tAsg (tIf (tTest (tOp (rNeP K) (tVar 0) (tLst tNil))) (tCB (rLstOf K) (tCons (tVar 0) tNil)) (tLst (tCons (tC (.int 0)) tNil))) (gName 1))
    (tSeq (tAsg (tLst tNil) (gName 2))
    (tSeq (tFor (iEnum K (tCons (tSl (rSlU K) (tVar 1) tNoPart (tPart (tC (.int 6)))) tNil)) (gTup K 2 (gCons (gName 3) (gCons (gName 4) gNil))) (tDrop (tBM K "list" rAppend (tVar 2) (tCons (tDisp [((tC (.str (PySem.Str.ofString "cells"))), (tOp (rAddU K) (tSl (rSlU K) (tVar 1) (tPart (tVar 3)) tNoPart) (tSl (rSlU K) (tVar 1) tNoPart (tPart (tVar 3))))), ((tC (.str (PySem.Str.ofString "at"))), (tOp (rI CMul fun i j => .int (i * j)) (tC (.int 89)) (tVar 3))), ((tC (.str (PySem.Str.ofString "left"))), (tIf (tTest (tOp (rGeP K) (tVar 4) (tOp (rI CPow fun i j => .int (i ^ j.toNat)) (tC (.int 10)) (tC (.int 18))))) (tVar 4) (tC (.int 0))))]) tNil))))
    (tRet (tVar 2)))))
def t__law_next (K : PySem.W.Frag) [Tb K] (A : Ad) : TS := (tSeq (sDPut (tVar 0) (tC (.str (PySem.Str.ofString "at"))) (tOp (rAddU K) (tDGet (tVar 0) (tC (.str (PySem.Str.ofString "at")))) (tC (.int 1))))
    (tSeq (tIfS (tTest (tOp (rGtP K) (tDGet (tVar 0) (tC (.str (PySem.Str.ofString "left")))) (tC (.int 0)))) (tSeq (tAsg (tOp (rI (fun _ j => 0 < j) fun i j => .int (i % j)) (tCB (rInt1) (tCons (tDGet (tVar 0) (tC (.str (PySem.Str.ofString "left")))) tNil)) (tVar 1)) (gName 2))
    (tSeq (sDPut (tVar 0) (tC (.str (PySem.Str.ofString "left"))) (tOp (rI CDiv fun i j => .int (i / j)) (tDGet (tVar 0) (tC (.str (PySem.Str.ofString "left")))) (tVar 1)))
    (tRet (tVar 2)))) tNext)
    (tSeq (tPar 3 4 (tCons (tDGet (tVar 0) (tC (.str (PySem.Str.ofString "at")))) (tCons (tDGet (tVar 0) (tC (.str (PySem.Str.ofString "cells")))) tNil)))
    (tSeq (tAsg (tOp (rAddU K) (tOp (rAddU K) (tOp (rI CMul fun i j => .int (i * j)) (tOp (rI CMul fun i j => .int (i * j)) (tC (.int 7907)) (tVar 3)) (tVar 3)) (tOp (rI CMul fun i j => .int (i * j)) (tC (.int 104723)) (tVar 3))) (tC (.int 11))) (gName 5))
    (tSeq (tAsg (tOp (rAddU K) (tOp (rI (fun _ j => 0 < j) fun i j => .int (i % j)) (tCB (rInt1) (tCons (tOp (rIx K) (tVar 4) (tOp (rI (fun _ j => 0 < j) fun i j => .int (i % j)) (tCB (rInt1) (tCons (tVar 3) tNil)) (tCB (rLen' K) (tCons (tVar 4) tNil)))) tNil)) (tC (.int 2147483629))) (tVar 5)) (gName 6))
    (tSeq (tAsg (tOp (rI (fun _ j => 0 < j) fun i j => .int (i % j)) (tCB (rInt1) (tCons (tOp (rI CPow fun i j => .int (i ^ j.toNat)) (tVar 6) (tC (.int 5))) tNil)) (tC (.int 2147483647))) (gName 6))
    (tRet (tOp (rI (fun _ j => 0 < j) fun i j => .int (i % j)) (tCB (rInt1) (tCons (tOp (rI CDiv fun i j => .int (i / j)) (tOp (rI (fun _ j => 0 < j) fun i j => .int (i % j)) (tCB (rInt1) (tCons (tOp (rI CMul fun i j => .int (i * j)) (tVar 6) (tC (.int 48271))) tNil)) (tC (.int 2147483629))) (tC (.int 7))) tNil)) (tVar 1)))))))))
def t__law_free (K : PySem.W.Frag) [Tb K] (A : Ad) : TS := (tSeq (tAsg (tC (.str (PySem.Str.ofString " !\"#$&()*+-/0123456789:<=?@ABCDEFGHIJKLMNOPQRSTUVWXYZ"))) (gName 0))
    (tRet (tOp (rAddU K) (tVar 0) (tC (.str (PySem.Str.ofString "[\\]^_`abcdefghijklmnopqrstuvwxyz{|}~"))))))
def t__law_code (K : PySem.W.Frag) [Tb K] (A : Ad) : TS := (tSeq (tPar 2 3 (tCons (tOp (rIx K) (tVar 0) (tOp (rI (fun _ j => 0 < j) fun i j => .int (i % j)) (tCB (rInt1) (tCons (tVar 1) tNil)) (tC (.int 32)))) (tCons (tOp (rI CDiv fun i j => .int (i / j)) (tVar 1) (tC (.int 32))) tNil)))
    (tSeq (tWhile (tTest (tOp (rGtP K) (tVar 3) (tC (.int 0)))) (tSeq (tAsg (tOp (rAddU K) (tOp (rIx K) (tVar 0) (tOp (rAddU K) (tC (.int 32)) (tOp (rI (fun _ j => 0 < j) fun i j => .int (i % j)) (tCB (rInt1) (tCons (tVar 3) tNil)) (tC (.int 32))))) (tVar 2)) (gName 2))
    (tAsg (tOp (rI CDiv fun i j => .int (i / j)) (tVar 3) (tC (.int 32))) (gName 3))))
    (tRet (tVar 2))))
def t__law_folded (K : PySem.W.Frag) [Tb K] (A : Ad) : TS := (tRet (tIf (tTest (tOp (rGeP K) (tVar 0) (tC (.int 0)))) (tOp (rI CMul fun i j => .int (i * j)) (tC (.int 2)) (tVar 0)) (tOp (rI0 fun i j => .int (i - j)) (tOp (rI CMul fun i j => .int (i * j)) (tUn (rU fun i => .int (-i)) (tC (.int 2))) (tVar 0)) (tC (.int 1)))))
def t_is_count (K : PySem.W.Frag) [Tb K] (A : Ad) : TS := (tRet (tAndV (tCall (spD K (R_is_integer A)) [] E0 (tCons (tVar 0) tNil)) (tOp (rGeP K) (tVar 0) (tC (.int 0)))))
def t_folded (K : PySem.W.Frag) [Tb K] (A : Ad) : TS := (tSeq (tIfS (tOr (tNot (tB (tCall (spD K (R_is_integer A)) [] E0 (tCons (tVar 0) tNil)))) (tNot (tTest (tChain (rLeP K) (rLeP K) (tUn (rU fun i => .int (-i)) (tC (k_SIGNED_LIMIT))) (tVar 0) (tC (k_SIGNED_LIMIT)))))) tNever tNext)
    (tRet (tIf (tTest (tOp (rGeP K) (tVar 0) (tC (.int 0)))) (tOp (rI CMul fun i j => .int (i * j)) (tC (.int 2)) (tVar 0)) (tOp (rI0 fun i j => .int (i - j)) (tOp (rI CMul fun i j => .int (i * j)) (tUn (rU fun i => .int (-i)) (tC (.int 2))) (tVar 0)) (tC (.int 1))))))
def t_Alphabet_init (K : PySem.W.Frag) [Tb K] (A : Ad) : TS := (tSeq (tIfS (tNot (tB (tCall (spD K (R__is_row_of_signs A)) [] E0 (tCons (tVar 1) tNil)))) tNever tNext)
    (tSeq (sFld K (tVar 0) (tVar 1) "_signs")
    (sFld K (tVar 0) (tFrz (tDc (iEnumS (tCons (tVar 1) tNil)) (gTup K 2 (gCons (gName 2) (gCons (gName 3) gNil))) tYes (tVar 3) (tVar 2) [2, 3])) "_indexes")))
def t_Alphabet_read (K : PySem.W.Frag) [Tb K] (A : Ad) : TS := (tSeq (tAsg (tLst tNil) (gName 3))
    (tSeq (tAsg (tTup (tCons (tC (.int 0)) (tCons (tC (.bl false)) tNil))) (gTup K 2 (gCons (gName 4) (gCons (gName 5) gNil))))
    (tSeq (tFor (iEnumS (tCons (tVar 1) tNil)) (gTup K 2 (gCons (gName 6) (gCons (gName 7) gNil))) (tSeq (tAsg (tDGet1 (tFld K (tVar 0) "_indexes") (tVar 7)) (gName 8))
    (tSeq (tIfS (tOr (tTest (tOp (rIsN') (tVar 8) (tC .non))) (tNot (tB (tCall (spD K (R_digit_fits A)) [] E0 (tCons (tVar 4) (tCons (tVar 8) (tCons (tVar 2) (tCons (tVar 2) tNil)))))))) (tRet (tTup (tCons (tVar 3) (tCons (tVar 6) tNil)))) tNext)
    (tSeq (tAsg (tOp (rAddU K) (tOp (rI CMul fun i j => .int (i * j)) (tC (k_MANY_DIGITS)) (tVar 4)) (tOp (rAndM) (tVar 8) (tC (.int 31)))) (gName 4))
    (tSeq (tAsg (tOp (rGeP K) (tVar 8) (tC (k_MANY_DIGITS))) (gName 5))
    (tIfS (tNot (tTru K (tVar 5))) (tSeq (tDrop (tBM K "list" rAppend (tVar 3) (tCons (tVar 4) tNil)))
    (tAsg (tC (.int 0)) (gName 4))) tNext))))))
    (tRet (tTup (tCons (tVar 3) (tCons (tIf (tTru K (tVar 5)) (tCB (rLen' K) (tCons (tVar 1) tNil)) (tC .non)) tNil)))))))
def t__law_signs (K : PySem.W.Frag) [Tb K] (A : Ad) : TS := (tSeq (tIfS (tTest (tOp (rGtP K) (tCall (spD K (R__law_next A)) [] E0 (tCons (tVar 0) (tCons (tC (.int 3)) tNil))) (tC (.int 0)))) (tSeq (tAsg (tC (.str (PySem.Str.ofString "ABCDEFGHIJKLMNOPQRSTUVWXYZabcdefghijklmnopqrstuvwxyz"))) (gName 1))
    (tRet (tOp (rAddU K) (tVar 1) (tC (.str (PySem.Str.ofString "0123456789+/")))))) tNext)
    (tSeq (tAsg (tTup (tCons (tCall (spD K (R__law_free A)) [] E0 tNil) (tCons (tCall (spD K (R__law_next A)) [] E0 (tCons (tVar 0) (tCons (tC (.int 89)) tNil))) (tCons (tOp (rAddU K) (tC (.int 1)) (tCall (spD K (R__law_next A)) [] E0 (tCons (tVar 0) (tCons (tC (.int 88)) tNil)))) tNil)))) (gTup K 3 (gCons (gName 2) (gCons (gName 3) (gCons (gName 4) gNil)))))
    (tRet (tM1 (rJoin K) (tC (.str (PySem.Str.ofString ""))) (tLc (iRng1 (tCons (tC (.int 64)) tNil)) (gName 5) tYes (tOp (rIx K) (tVar 2) (tOp (rI (fun _ j => 0 < j) fun i j => .int (i % j)) (tCB (rInt1) (tCons (tOp (rAddU K) (tVar 3) (tOp (rI CMul fun i j => .int (i * j)) (tVar 4) (tVar 5))) tNil)) (tC (.int 89)))) [5])))))
def t__law_sized (K : PySem.W.Frag) [Tb K] (A : Ad) : TS := (tSeq (tPar 2 3 (tCons (tOp (rAddU K) (tC (.int 1)) (tCall (spD K (R__law_next A)) [] E0 (tCons (tVar 0) (tCons (tC (.int 40)) tNil)))) (tCons (tC (.int 1)) tNil)))
    (tSeq (tFor (iRng1 (tCons (tVar 2) tNil)) (gName 4) (tAsg (tOp (rAddU K) (tOp (rI CMul fun i j => .int (i * j)) (tC (.int 2)) (tVar 3)) (tCall (spD K (R__law_next A)) [] E0 (tCons (tVar 0) (tCons (tC (.int 2)) tNil)))) (gName 3)))
    (tSeq (tAsg (tC (.int 1)) (gName 5))
    (tSeq (tFor (iRng1 (tCons (tCall (spD K (R__law_next A)) [] E0 (tCons (tVar 0) (tCons (tC (.int 9)) tNil))) tNil)) (gName 4) (tAsg (tOp (rI CMul fun i j => .int (i * j)) (tVar 5) (tC (.int 32))) (gName 5)))
    (tRet (tCB (rMin2) (tCons (tVar 1) (tCons (tOp (rIx K) (tLst (tCons (tVar 3) (tCons (tVar 3) (tCons (tOp (rI0 fun i j => .int (i - j)) (tVar 5) (tC (.int 1))) (tCons (tVar 5) (tCons (tOp (rAddU K) (tVar 5) (tC (.int 1))) tNil)))))) (tCall (spD K (R__law_next A)) [] E0 (tCons (tVar 0) (tCons (tC (.int 5)) tNil)))) tNil))))))))
def t_is_up_to (K : PySem.W.Frag) [Tb K] (A : Ad) : TS := (tRet (tAndV (tCall (spD K (R_is_count A)) [] E0 (tCons (tVar 0) tNil)) (tOrV (tOp (rIsN') (tVar 1) (tC .non)) (tOp (rLeP K) (tVar 0) (tVar 1)))))
def t_Alphabet_numbers_in (K : PySem.W.Frag) [Tb K] (A : Ad) : ZG.TGn := (ZG.tGThen (ZG.tPlain (tDrop (tCall (spD K (R_check_text A)) [] E0 (tCons (tVar 1) tNil))))
    (ZG.tGThen (ZG.tPlain (tAsg (tMeth A.c_Alphabet "_read" (spD K (R_Alphabet_read A)) [] E0 (tVar 0) (tCons (tVar 1) (tCons (tC (k_CODE_LIMIT)) tNil))) (gTup K 2 (gCons (gName 2) (gCons (gName 3) gNil)))))
    (ZG.tGThen (ZG.tGFor (iList K (tVar 2)) (gName 4) (ZG.tGThen (ZG.tGYield (tVar 4))
    ZG.tG0))
    (ZG.tGThen (ZG.tPlain (tIfS (tTest (tOp (rNotN') (tVar 3) (tC .non))) tNever tNext))
    ZG.tG0))))
def t_check_up_to (K : PySem.W.Frag) [Tb K] (A : Ad) : TS := (tIfS (tNot (tB (tCall (spD K (R_is_up_to A)) [] E0 (tCons (tVar 0) (tCons (tVar 1) tNil))))) tNever tNext)
def t_Alphabet_standard (K : PySem.W.Frag) [Tb K] (A : Ad) : TS := (tRet (tMakeV A.c_Alphabet (spI K A.c_Alphabet (R_Alphabet_init A)) [] E0 (tVar 0) (tCons (ClX.tCVal K (tVar 0) "STANDARD") tNil)))
def t_unfolded (K : PySem.W.Frag) [Tb K] (A : Ad) : TS := (tSeq (tDrop (tCall (spD K (R_check_up_to A)) [] E0 (tCons (tVar 0) (tCons (tC (k_FOLDED_LIMIT)) tNil))))
    (tSeq (tAsg (tOp (rI CDiv fun i j => .int (i / j)) (tVar 0) (tC (.int 2))) (gName 1))
    (tRet (tIf (tTest (tOp (rEqP K) (tVar 0) (tOp (rI CMul fun i j => .int (i * j)) (tC (.int 2)) (tVar 1)))) (tVar 1) (tOp (rI0 fun i j => .int (i - j)) (tUn (rU fun i => .int (-i)) (tVar 1)) (tC (.int 1)))))))
def t_Alphabet_code_of (K : PySem.W.Frag) [Tb K] (A : Ad) : TS := (tSeq (tDrop (tCall (spD K (R_check_up_to A)) [] E0 (tCons (tVar 1) (tCons (tC (k_CODE_LIMIT)) tNil))))
    (tSeq (tAsg (tOp (rIx K) (tFld K (tVar 0) "_signs") (tOp (rAndM) (tVar 1) (tC (.int 31)))) (gName 2))
    (tSeq (tAsg (tOp (rI CDiv fun i j => .int (i / j)) (tVar 1) (tC (k_MANY_DIGITS))) (gName 3))
    (tSeq (tWhile (tTest (tOp (rGtP K) (tVar 3) (tC (.int 0)))) (tSeq (tAsg (tOp (rAddU K) (tOp (rIx K) (tFld K (tVar 0) "_signs") (tOp (rAddU K) (tC (k_MANY_DIGITS)) (tOp (rAndM) (tVar 3) (tC (.int 31))))) (tVar 2)) (gName 2))
    (tAsg (tOp (rI CDiv fun i j => .int (i / j)) (tVar 3) (tC (k_MANY_DIGITS))) (gName 3))))
    (tRet (tVar 2))))))
def t_Alphabet_call (K : PySem.W.Frag) [Tb K] (A : Ad) : TS := (tRet (tMeth A.c_Alphabet "_code_of" (spD K (R_Alphabet_code_of A)) [] E0 (tVar 0) (tCons (tVar 1) tNil)))
def t_Alphabet_signed (K : PySem.W.Frag) [Tb K] (A : Ad) : TS := (tRet (tMeth A.c_Alphabet "_code_of" (spD K (R_Alphabet_code_of A)) [] E0 (tVar 0) (tCons (tCall (spD K (R_folded A)) [] E0 (tCons (tVar 1) tNil)) tNil)))
def t_Alphabet_codes (K : PySem.W.Frag) [Tb K] (A : Ad) : TS := (tRet (tM1 (rJoin K) (tC (.str (PySem.Str.ofString ""))) (tLc (iTup K (tVar 1)) (gName 2) tYes (tMeth A.c_Alphabet "_code_of" (spD K (R_Alphabet_code_of A)) [] E0 (tVar 0) (tCons (tVar 2) tNil)) [2])))
def t_Alphabet_signed_in (K : PySem.W.Frag) [Tb K] (A : Ad) : ZG.TGn := (ZG.tGThen (ZG.tPlain (tDrop (tCall (spD K (R_check_text A)) [] E0 (tCons (tVar 1) tNil))))
    (ZG.tGThen (ZG.tPlain (tAsg (tMeth A.c_Alphabet "_read" (spD K (R_Alphabet_read A)) [] E0 (tVar 0) (tCons (tVar 1) (tCons (tC (k_FOLDED_LIMIT)) tNil))) (gTup K 2 (gCons (gName 2) (gCons (gName 3) gNil)))))
    (ZG.tGThen (ZG.tGFor (iList K (tVar 2)) (gName 4) (ZG.tGThen (ZG.tGYield (tCall (spD K (R_unfolded A)) [] E0 (tCons (tVar 4) tNil)))
    ZG.tG0))
    (ZG.tGThen (ZG.tPlain (tIfS (tTest (tOp (rNotN') (tVar 3) (tC .non))) tNever tNext))
    ZG.tG0))))
def t__law_codes_hold (K : PySem.W.Frag) [Tb K] (A : Ad) : TS := (tSeq (tAsg (tM1 (rJoin K) (tC (.str (PySem.Str.ofString ""))) (tLc (iList K (tVar 2)) (gName 7) tYes (tCall (spD K (R__law_code A)) [] E0 (tCons (tVar 1) (tCons (tVar 7) tNil))) [7])) (gName 3))
    (tSeq (tIfS (tOr (tTest (tOp (rNeP K) (tMeth A.c_Alphabet "codes" (starS 1 (spD K (R_Alphabet_codes A))) [] E0 (tVar 0) tNil) (tC (.str (PySem.Str.ofString ""))))) (tTest (tOp (rNeP K) (tM1 (rJoin K) (tC (.str (PySem.Str.ofString ""))) (tLc (iList K (tVar 2)) (gName 7) tYes (tCallO' A.c_Alphabet (spD K (R_Alphabet_call A)) E0 (tVar 0) (tCons (tVar 7) tNil)) [7])) (tVar 3)))) (tRet (tC (.bl false))) tNext)
    (tSeq (tAsg (tM1 (rJoin K) (tC (.str (PySem.Str.ofString ""))) (tLc (iList K (tSl (rSlU K) (tVar 2) tNoPart (tPart (tC (.int 3))))) (gName 5) tYes (tCall (spD K (R__law_code A)) [] E0 (tCons (tVar 1) (tCons (tVar 5) tNil))) [5])) (gName 4))
    (tSeq (tIfS (tTest (tOp (rNeP K) (tMeth A.c_Alphabet "codes" (starS 1 (spD K (R_Alphabet_codes A))) [] E0 (tVar 0) (tCons (tOp (rIx K) (tVar 2) (tC (.int 0))) (tCons (tOp (rIx K) (tVar 2) (tC (.int 1))) (tCons (tOp (rIx K) (tVar 2) (tC (.int 2))) tNil)))) (tVar 4))) (tRet (tC (.bl false))) tNext)
    (tSeq (tIfS (tTest (tOp (rNeP K) (tListG (tMethG A.c_Alphabet "numbers_in" (spGD K (R_Alphabet_numbers_in A)) [] E0 (tVar 0) (tCons (tVar 3) tNil))) (tVar 2))) (tRet (tC (.bl false))) tNext)
    (tSeq (tFor (iList K (tVar 2)) (gName 5) (tFor (iList K (tVar 2)) (gName 6) (tIfS (tAnd (tTest (tOp (rNeP K) (tVar 5) (tVar 6))) (tTest (tOp (rEqP K) (tCallON A.c_Alphabet 1 (spD K (R_Alphabet_call A)) (perm [0, 1]) E0 (tVar 0) (tCons (tVar 5) tNil)) (tSl (rSlU K) (tCallO' A.c_Alphabet (spD K (R_Alphabet_call A)) E0 (tVar 0) (tCons (tVar 6) tNil)) tNoPart (tPart (tCB (rLen' K) (tCons (tCallO' A.c_Alphabet (spD K (R_Alphabet_call A)) E0 (tVar 0) (tCons (tVar 5) tNil)) tNil))))))) (tRet (tC (.bl false))) tNext)))
    (tRet (tC (.bl true)))))))))
def t__law_signed_hold (K : PySem.W.Frag) [Tb K] (A : Ad) : TS := (tSeq (tAsg (tM1 (rJoin K) (tC (.str (PySem.Str.ofString ""))) (tLc (iList K (tVar 2)) (gName 5) tYes (tCall (spD K (R__law_code A)) [] E0 (tCons (tVar 1) (tCons (tCall (spD K (R__law_folded A)) [] E0 (tCons (tVar 5) tNil)) tNil))) [5])) (gName 3))
    (tSeq (tIfS (tTest (tOp (rNeP K) (tM1 (rJoin K) (tC (.str (PySem.Str.ofString ""))) (tLc (iList K (tVar 2)) (gName 5) tYes (tMeth A.c_Alphabet "signed" (spD K (R_Alphabet_signed A)) [] E0 (tVar 0) (tCons (tVar 5) tNil)) [5])) (tVar 3))) (tRet (tC (.bl false))) tNext)
    (tSeq (tIfS (tTest (tOp (rNeP K) (tCB (rReprV K) (tCons (tListG (ZG.tMethGN A.c_Alphabet "signed_in" 1 (spGD K (R_Alphabet_signed_in A)) (perm [0, 1]) E0 (tVar 0) (tCons (tVar 3) tNil))) tNil)) (tCB (rReprV K) (tCons (tVar 2) tNil)))) (tRet (tC (.bl false))) tNext)
    (tSeq (tAsg (tLc (iList K (tVar 2)) (gName 5) tYes (tCall (spD K (R_folded A)) [] E0 (tCons (tVar 5) tNil)) [5]) (gName 4))
    (tSeq (tIfS (tTest (tOp (rNeP K) (tVar 4) (tLc (iList K (tVar 2)) (gName 5) tYes (tCall (spD K (R__law_folded A)) [] E0 (tCons (tVar 5) tNil)) [5]))) (tRet (tC (.bl false))) tNext)
    (tRet (tOp (rEqP K) (tLc (iList K (tVar 4)) (gName 6) tYes (tCall (spD K (R_unfolded A)) [] E0 (tCons (tVar 6) tNil)) [6]) (tVar 2))))))))
def t_law (K : PySem.W.Frag) [Tb K] (A : Ad) : TS := (tSeq (tFor (iList K (tSl (rSlU K) (tCall (spD K (R__law_streams A)) [] E0 (tCons (tVar 0) tNil)) tNoPart (tPart (tC (.int 3))))) (gName 1) (tSeq (tAsg (tCall (spD K (R__law_signs A)) [] E0 (tCons (tVar 1) tNil)) (gName 2))
    (tSeq (tAsg (tMake A.c_Alphabet (spI K A.c_Alphabet (R_Alphabet_init A)) [] E0 (tCons (tVar 2) tNil)) (gName 3))
    (tSeq (tAsg (tLc (iRng1 (tCons (tOp (rAddU K) (tC (.int 3)) (tCall (spD K (R__law_next A)) [] E0 (tCons (tVar 1) (tCons (tC (.int 9)) tNil)))) tNil)) (gName 8) tYes (tCall (spD K (R__law_sized A)) [] E0 (tCons (tVar 1) (tCons (tOp (rI CPow fun i j => .int (i ^ j.toNat)) (tC (.int 10)) (tC (.int 12))) tNil))) [8]) (gName 4))
    (tSeq (tIfS (tNot (tB (tCall (spD K (R__law_codes_hold A)) [] E0 (tCons (tVar 3) (tCons (tVar 2) (tCons (tVar 4) tNil)))))) (tRet (tC (.bl false))) tNext)
    (tSeq (tAsg (tLc (iRng1 (tCons (tOp (rAddU K) (tC (.int 1)) (tCall (spD K (R__law_next A)) [] E0 (tCons (tVar 1) (tCons (tC (.int 12)) tNil)))) tNil)) (gName 8) tYes (tCall (spD K (R__law_sized A)) [] E0 (tCons (tVar 1) (tCons (tOp (rI CPow fun i j => .int (i ^ j.toNat)) (tC (.int 10)) (tC (.int 9))) tNil))) [8]) (gName 4))
    (tSeq (tAsg (tLc (iList K (tVar 4)) (gName 9) tYes (tOp (rIx K) (tLst (tCons (tVar 9) (tCons (tUn (rU fun i => .int (-i)) (tVar 9)) tNil))) (tCall (spD K (R__law_next A)) [] E0 (tCons (tVar 1) (tCons (tC (.int 2)) tNil)))) [9]) (gName 4))
    (tSeq (tIfS (tNot (tB (tCall (spD K (R__law_signed_hold A)) [] E0 (tCons (tVar 3) (tCons (tVar 2) (tCons (tVar 4) tNil)))))) (tRet (tC (.bl false))) tNext)
    (tSeq (tAsg (tLc (iRng1 (tCons (tCall (spD K (R__law_next A)) [] E0 (tCons (tVar 1) (tCons (tC (.int 1100)) tNil))) tNil)) (gName 8) tYes (tVar 8) [8]) (gName 5))
    (tSeq (tAsg (tM1 (rJoin K) (tC (.str (PySem.Str.ofString ""))) (tLc (iList K (tVar 5)) (gName 8) tYes (tCallO' A.c_Alphabet (spD K (R_Alphabet_call A)) E0 (tVar 3) (tCons (tVar 8) tNil)) [8])) (gName 6))
    (tIfS (tTest (tOp (rNeP K) (tListG (tMethG A.c_Alphabet "numbers_in" (spGD K (R_Alphabet_numbers_in A)) [] E0 (tVar 3) (tCons (tVar 6) tNil))) (tVar 5))) (tRet (tC (.bl false))) tNext)))))))))))
    (tSeq (tAsg (tCall (spD K (R__law_code A)) [] E0 (tCons (ClX.tCVal K (tC (.ref A.c_Alphabet)) "STANDARD") (tCons (tOp (rI CPow fun i j => .int (i ^ j.toNat)) (tC (.int 10)) (tC (.int 12))) tNil))) (gName 7))
    (tRet (tOp (rEqP K) (tMeth A.c_Alphabet "codes" (starS 1 (spD K (R_Alphabet_codes A))) [] E0 (ClX.tCMeth A.c_Alphabet (spD K (R_Alphabet_standard A)) E0 (tC (.ref A.c_Alphabet)) tNil) (tCons (tC (.int 0)) (tCons (tC (.int 31)) (tCons (tC (.int 32)) (tCons (tOp (rI CPow fun i j => .int (i ^ j.toNat)) (tC (.int 10)) (tC (.int 12))) tNil))))) (tOp (rAddU K) (tC (.str (PySem.Str.ofString "AfhA"))) (tVar 7))))))
end Lw

namespace Lw
open PySem L2 StX DL
theorem len_tl (x : Str) : x.length = (tl x).length := TL.len_tl x
theorem em_is : Str.ofString "" = ⟨#[]⟩ := TL.ext_tl ((TL.tl_ofString "").trans (by rfl))
theorem tl_mk (l : List Nat) : tl (mk l) = l := rfl
theorem mk_tl (x : Str) : mk (tl x) = x := TL.mk_tl x
theorem mk_len (l : List Nat) : (mk l).length = l.length := by rw [len_tl, tl_mk]
end Lw

namespace DL
open PySem L2 StX
section
variable {K : PySem.W.Frag} [Tb K] {Z : ZX} {ds : DS} {n : Nat} {P P' : D → Nat → Prop} {te ta : TE} {N : Nd}
theorem ne_same {P : D → Prop} {d : D} {e : PyData} (h1 : pd d = some e) (p : e.plain = true) (hd : e.depth ≤ 64) (he : PyData.eqv e e = true) (h : P (.bl false)) : Op K (rNeP K) d d P := neP h1 h1 p p hd (by rw [he]; exact h)
theorem eq_same {P : D → Prop} {d : D} {e : PyData} (h1 : pd d = some e) (p : e.plain = true) (hd : e.depth ≤ 64) (he : PyData.eqv e e = true) (h : P (.bl true)) : Op K (rEqP K) d d P := eqP h1 h1 p p hd (by rw [he]; exact h)
end
end DL
namespace Lw
open PySem L2 StX DL
section
variable {K : PySem.W.Frag} [Tb K] {Z : ZX} {ds : DS} {n : Nat} {P : D → Nat → Prop}
end
section
variable {K : PySem.W.Frag} [Tb K] {Z : ZX} {A : Ad}
theorem Wi_imp {wi : TI} {ds : DS} {n : Nat} {P P' : List D → Nat → Prop} (h : Wi K Z wi ds n P) (i : ∀ xs m, P xs m → P' xs m) : Wi K Z wi ds n P' := fun b u σ R e S k => h b u σ R e S fun J xs u' G Y g s p w a c => k J xs u' G Y g s (i _ _ p) w a c
theorem Wgc_imp {g : TG} {js : List Nat} {x : D} {ds : DS} {P P' : DS → Prop} (h : Wgc K Z g js x ds P) (i : ∀ d, P d → P' d) : Wgc K Z g js x ds P' := fun b u σ v Q S r k => h b u σ v Q S r fun ds' σ' S' l f p => k ds' σ' S' l f (i _ p)
theorem we_lcmap {wi : TI} {g : TG} {te : TE} {ds : DS} {n : Nat} {P : D → Nat → Prop} {vs : List Nat} (f : D → D) (h : Wi K Z wi ds n fun xs m => xs.length ≤ 1000000 ∧ (∀ x, x ∈ xs → Wgc K Z g vs x (wipeD ds vs) fun ds2 => We K Z te ds2 m (fun y l => l = m ∧ y = f x)) ∧ P (.lst (xs.map f)) m) : We K Z (tLc wi g tYes te vs) ds n P :=
  we_lc (Wi_imp h fun xs m ⟨hl, hs, hp⟩ => ⟨fun i ys k => k = m ∧ ys = (xs.take i).map f, ⟨rfl, by simp⟩, fun i x ys k hx ⟨ek, ey⟩ => by
    subst ek ey
    have hi : i < xs.length := (List.getElem?_eq_some_iff.mp hx).1
    refine Wgc_imp (hs x (List.mem_of_getElem? hx)) fun ds2 q => wt_yes ?_
    rw [if_pos rfl]
    refine q.imp fun y l ⟨el, ey⟩ => ?_
    subst el ey
    refine ⟨by rw [List.length_map, List.length_take]; omega, rfl, ?_⟩
    rw [List.take_add_one, hx]
    simp, fun ys k ⟨ek, ey⟩ => by
    subst ek ey
    rw [List.take_length]
    exact hp⟩)
theorem cutD_to {xs : List D} {k : Nat} (h : k ≤ xs.length) : cutD xs none (some (k : Int)) = xs.take k := by
  unfold cutD
  rw [HT.sIx_nat, HT.sIx_none, Nat.min_eq_left h]; rfl
theorem tl_app (x y : Str) : tl (x ++ y) = tl x ++ tl y := TL.tl_append x y
theorem putD_len (f : Str) (d : D) : ∀ fs : List (Str × D), (putD f d fs).length ≤ fs.length + 1
  | [] => by simp [putD]
  | (g, e) :: r => by
    have := putD_len f d r
    unfold putD
    split <;> simp <;> omega
theorem joinL_nil : ∀ zs : List (List Nat), TL.joinL [] zs = zs.flatten
  | [] => rfl
  | [p] => by simp [TL.joinL]
  | p :: q :: r => by
    show p ++ ([] ++ TL.joinL [] (q :: r)) = _
    rw [joinL_nil (q :: r)]; simp
theorem tl_join0 (zs : List Str) : tl (Txt.join (Str.ofString "") zs) = (zs.map tl).flatten := by
  rw [TL.join_eq]
  refine (TL.tl_join _ zs).trans ?_
  rw [em_is]
  exact joinL_nil _
/-- one step -/
local macro_rules | `(tactic| walk_at "w1") => `(tactic| first
  | with_reducible refine ws_seq ?_
  | with_reducible refine ws_if ?_
  | with_reducible refine ws_ret ?_
  | ((fail_if_success (with_reducible show Ws _ _ (tDrop (tBM _ _ _ _ _)) _ _ _)); (with_reducible refine ws_drop ?_))
  | with_reducible refine ws_next ?_
  | with_reducible refine ws_par ?_
  | ((fail_if_success (with_reducible show Ws _ _ (tAsg _ (gSub _ _ _)) _ _ _)); (with_reducible refine ws_asg ?_))
  | with_reducible refine wg_name ?_
  | with_reducible refine we_int ?_
  | with_reducible refine we_bl ?_
  | with_reducible refine we_non ?_
  | with_reducible refine we_str ?_
  | with_reducible refine we_ty ?_
  | with_reducible refine we_cls ?_
  | with_reducible refine ws_par3 ?_
  | ((with_reducible show We _ _ (tVar _) _ _ _); refine we_var rfl rfl ?_)
  | ((with_reducible show We _ _ (tVar _) _ _ _); refine we_var rfl (mut_oP _) ?_)
  | with_reducible refine we_rep ?_
  | with_reducible refine we_op ?_
  | with_reducible refine we_un ?_
  | with_reducible refine we_cb ?_
  | with_reducible refine we_callX ?_
  | with_reducible refine we_call ?_
  | with_reducible refine we_callNX ?_
  | with_reducible refine we_callN ?_
  | with_reducible refine we_methN ?_
  | with_reducible refine we_callON ?_
  | with_reducible refine we_callOX ?_
  | with_reducible refine we_exf ?_
  | with_reducible refine we_dnew ?_
  | with_reducible refine ws_raise ?_
  | with_reducible refine we_tup ?_
  | with_reducible refine we_lst ?_
  | with_reducible refine we_sl ?_
  | with_reducible refine we_m1 ?_
  | with_reducible refine we_andV ?_
  | with_reducible refine we_orV ?_
  | with_reducible refine we_notV ?_
  | with_reducible refine we_if ?_
  | with_reducible refine we_chain ?_
  | with_reducible refine we_fld ?_
  | with_reducible refine we_methX ?_
  | with_reducible refine we_meth ?_
  | with_reducible refine we_prop ?_
  | with_reducible refine we_callO' ?_
  | with_reducible refine we_makeX ?_
  | with_reducible refine we_make ?_
  | with_reducible refine wt_test ?_
  | with_reducible refine wt_B ?_
  | with_reducible refine wt_yes ?_
  | with_reducible refine wt_and ?_
  | with_reducible refine wt_or ?_
  | with_reducible refine wt_not ?_
  | with_reducible refine wa_nil ?_
  | with_reducible refine wa_cons ?_
  | with_reducible refine wo_none ?_
  | with_reducible refine wo_some ?_
  | with_reducible refine add_int ?_
  | with_reducible refine sub_int ?_
  | with_reducible refine neg_int ?_
  | ((with_reducible refine mod_int ?_ ?_); (focus (first | assumption | omega)))
  | ((with_reducible refine mul_int ?_ ?_); (focus (first | exact Or.inl ⟨by omega, by omega⟩ | exact Or.inr ⟨by omega, by omega⟩)))
  | ((with_reducible refine fdiv_int ?_ ?_); (focus (exact ⟨by omega, by omega⟩)))
  | ((with_reducible refine pow_int ?_ ?_); (focus (exact ⟨by decide, by decide, by decide⟩)))
  | with_reducible refine is_non ?_
  | with_reducible refine not_non ?_
  | with_reducible refine eq_int ?_
  | with_reducible refine ne_int ?_
  | with_reducible refine eq_pos ?_
  | with_reducible refine ne_pos ?_
  | with_reducible refine ne_oPs ?_
  | with_reducible refine ne_nn ?_
  | with_reducible refine ne_np ?_
  | with_reducible refine ne_pn ?_
  | with_reducible refine eq_str ?_
  | with_reducible refine ne_str ?_
  | with_reducible refine eq_bl ?_
  | with_reducible refine ne_bl ?_
  | with_reducible refine lt_int ?_
  | with_reducible refine gt_int ?_
  | with_reducible refine le_int ?_
  | with_reducible refine ge_int ?_
  | with_reducible refine lt_pos ?_
  | with_reducible refine gt_pos ?_
  | with_reducible refine le_pos ?_
  | with_reducible refine ge_pos ?_
  | with_reducible refine int_int ?_
  | with_reducible refine min_int ?_
  | with_reducible refine max_int ?_
  | with_reducible refine len_lst ?_
  | with_reducible refine len_tup ?_
  | ((with_reducible refine len_take ?_ ?_ ?_); (focus (first | assumption | omega)); (focus (first | assumption | omega)))
  | ((with_reducible refine len_str ?_ ?_); (focus (first | assumption | omega)))
  | with_reducible refine tuple_lst ?_
  | with_reducible refine tuple_tup ?_
  | ((with_reducible refine sl_to ?_ ?_ ?_); (focus (first | assumption | omega)); (focus (first | assumption | omega)))
  | ((with_reducible refine sl_from ?_ ?_ ?_); (focus (first | assumption | omega)); (focus (first | assumption | omega)))
  | ((with_reducible refine sl_mid ?_ ?_ ?_ ?_); (focus (first | assumption | omega)); (focus (first | assumption | omega)); (focus (first | assumption | omega)))
  | with_reducible refine sl_lst ?_
  | with_reducible refine sl_tup ?_
  | ((with_reducible refine sl_str ?_ ?_); (focus (first | assumption | omega)))
  | with_reducible refine mt_nl ?_
  | with_reducible refine mt_countD ?_
  | with_reducible refine mt_rfindD ?_
  | ((with_reducible refine mt_splitnl ?_ ?_); (focus (first | assumption | omega)))
  | ((with_reducible refine mt_splitD ?_ ?_ ?_); (focus rfl); (focus (first | assumption | omega)))
  | ((with_reducible show Op _ (rIx _) (D.tup _) (D.int _) _); refine ix_tup (by decide) rfl ?_)
  | ((with_reducible show Op _ (rIx _) (D.lst _) (D.int _) _); refine ix_lst (n := 0) (by decide) rfl ?_)
  | ((with_reducible show Cb _ (rIsi _) [D.int _, D.ty _] _); first | refine isiI (r := true) (by decide +kernel) ?_ | refine isiI (r := false) (by decide +kernel) ?_)
  | ((with_reducible show Cb _ (rIsi _) [D.str _, D.ty _] _); first | refine isiS (r := true) (by decide +kernel) ?_ | refine isiS (r := false) (by decide +kernel) ?_)
  | ((with_reducible show Cb _ (rIsi _) [D.tup _, D.ty _] _); first | refine isiT (r := true) (by decide +kernel) ?_ | refine isiT (r := false) (by decide +kernel) ?_)
  | ((with_reducible show Wg _ _ (gTup _ _ _) _ _ _); refine wg_tup rfl rfl ?_)
  | ((with_reducible show Wgs _ _ gNil _ _ _); refine wgs_nil rfl ?_)
  | ((with_reducible show Wgs _ _ (gCons _ _) _ _ _); refine wgs_cons rfl ?_)
  | ((with_reducible show ∃ _, D.bl _ = D.bl _ ∧ _); refine ⟨_, rfl, ?_⟩)
  | ((with_reducible show ∃ _, D.int _ = D.int _ ∧ _); refine ⟨_, rfl, ?_⟩)
  | ((with_reducible show ∃ _, D.str _ = D.str _ ∧ _); refine ⟨_, rfl, ?_⟩)
  | ((with_reducible show ∃ _, D.tup _ = D.tup _ ∧ _); refine ⟨_, rfl, ?_⟩)
  | ((with_reducible show ∃ _, D.lst _ = D.lst _ ∧ _); refine ⟨_, rfl, ?_⟩)
  | with_reducible refine iteNT ?_
  | with_reducible refine iteNF ?_
  | ((with_reducible show if true = true then _ else _); rw [if_pos rfl])
  | ((with_reducible show if false = true then _ else _); rw [if_neg Bool.false_ne_true])
  | ((with_reducible show List.length _ ≤ 1000000 ∧ _); refine ⟨?_, ?_⟩; (focus (simp; done)))
  | fail "no step")
local macro_rules | `(tactic| walk_at "w") => `(tactic| repeat (walk_at "w1"))
local macro_rules | `(tactic| walk_at "ws") => `(tactic| repeat ((fail_if_success (with_reducible show We _ _ (tChain _ _ _ _ _) _ _ _)); (fail_if_success (with_reducible show Wt _ _ (tAnd _ _) _ _ _)); (fail_if_success (with_reducible show We _ _ (tOrT _ _ _) _ _ _)); walk_at "w1"))
local macro_rules | `(tactic| walk_at "wm") => `(tactic| repeat ((fail_if_success (with_reducible show Ws _ _ (tAsg (tLst _) _) _ _ _)); walk_at "w1"))
theorem pds_is : ∀ xs : List Int, pds (xs.map D.int) = some (xs.map PyData.int)
  | [] => rfl
  | x :: xs => by simp only [List.map_cons, pds, pd, pds_is xs]; rfl
theorem ne_ints {xs : List Int} {P : D → Prop} (h : P (.bl (decide (xs.length ≠ 0)))) : Op K (rNeP K) (.lst (xs.map .int)) (.lst []) P := by
  refine neP (d := .list (xs.map .int)) (e := .list []) (by simp only [pd, pds_is]; rfl) rfl (by simp only [PyData.plain, plain_is xs]) rfl (by have := depth_is xs; simp only [PyData.depth]; omega) ?_
  have ev : (!PyData.eqv (.list (xs.map PyData.int)) (.list [])) = decide (xs.length ≠ 0) := by
    cases xs <;> simp [PyData.eqv, PyData.eqvAll]
  rw [ev]; exact h
theorem enumD_gett {xs : List D} {i : Nat} {x : D} (h : (enumD xs)[i]? = some x) : ∃ y, xs[i]? = some y ∧ x = .tup [.int (i : Nat), y] := by
  have hl := (List.getElem?_eq_some_iff.mp h).1
  rw [enumD_len] at hl
  have e := enumD_get (List.getElem?_eq_getElem hl)
  rw [h] at e
  exact ⟨_, List.getElem?_eq_getElem hl, Option.some.inj e⟩
theorem cut_map (cs : List Int) (k : Nat) (h : k ≤ cs.length) : cutD (cs.map D.int) (some (k : Int)) none = (cs.drop k).map D.int ∧ cutD (cs.map D.int) none (some (k : Int)) = (cs.take k).map D.int := by
  constructor
  · unfold cutD
    rw [HT.sIx_nat, HT.sIx_none, List.length_map, Nat.min_eq_left h, ← List.map_drop]
    exact List.take_of_length_le (by rw [List.length_map, List.length_drop]; exact Nat.le_refl _)
  · unfold cutD
    rw [HT.sIx_nat, HT.sIx_none, List.length_map, Nat.min_eq_left h, Nat.sub_zero, List.drop_zero, List.map_take]
theorem len__law_next : ∀ ds n P X, R__law_next A ds n P X → ds.length = 2 := by rintro ds n P X ⟨_, _, rfl, -⟩; rfl
theorem w__law_next (T : TxtC K A) : ∀ Z ds n P, R__law_next A ds n P Z.X → Ws K Z (t__law_next K A) (startD 7 ds) n {nx := fun _ m => P .non m, rt := P} := by
  rintro Z ds n P ⟨a, t, rfl, h0, h1, h2, h⟩
  unfold t__law_next
  walk_at "w"
  refine ws_cAt rfl ?_
  walk_at "w"
  refine we_cAt rfl fun c c0 cn => ?_
  walk_at "w"
  refine ⟨by omega, by omega, ?_⟩
  walk_at "w"
  refine we_cLeft rfl fun x x0 => ?_
  walk_at "w"
  refine iteD (fun q => ?_) (fun q => ?_)
  · walk_at "w"
    refine we_cLeft rfl fun y y0 => ?_
    walk_at "w"
    refine ws_cLeft rfl ?_
    walk_at "w"
    refine we_cLeft rfl fun z z0 => ?_
    walk_at "w"
    refine ⟨Int.ediv_nonneg z0 (by omega), ?_⟩
    walk_at "w"
    exact h _ (Int.emod_nonneg _ (by omega)) (Int.emod_lt_of_pos _ h0)
  · refine ws_next ?_
    walk_at "w"
    refine we_cAt rfl fun c c0 cn => ?_
    walk_at "w"
    refine we_cCells rfl fun cs hne hcs => ?_
    walk_at "w"
    have hl : 0 < cs.length := List.length_pos_iff.mpr hne
    refine ⟨_, _, rfl, ?_⟩
    walk_at "w"
    refine mod_int (by rw [List.length_map]; omega) ?_
    rw [List.length_map]
    have s0 := Int.emod_nonneg c (show (cs.length : Int) ≠ 0 by omega)
    have s1 := Int.emod_lt_of_pos c (show 0 < (cs.length : Int) by omega)
    generalize c % (cs.length : Int) = s at *
    have hi : s.toNat < cs.length := by omega
    refine ix_lst (n := 0) (d := .int cs[s.toNat]) s0 (by rw [List.getElem?_map, List.getElem?_eq_getElem hi]; rfl) ?_
    walk_at "w"
    have cc : c * c ≤ 1000001 * 1000001 := Int.mul_le_mul (by omega) (by omega) c0 (by decide)
    have cp : 0 ≤ c * c := Int.mul_nonneg c0 c0
    rw [show (7907 * c * c : Int) = 7907 * (c * c) from Int.mul_assoc ..]
    generalize c * c = q at *
    have hm := Int.emod_lt_of_pos cs[s.toNat] (show (0 : Int) < 2147483629 by decide)
    have hm0 := Int.emod_nonneg cs[s.toNat] (show (2147483629 : Int) ≠ 0 by decide)
    refine pow_int ⟨by decide, by decide, by omega⟩ ?_
    walk_at "w"
    exact h _ (Int.emod_nonneg _ (by omega)) (Int.emod_lt_of_pos _ h0)
theorem streams_tail {n : Nat} {P : D → Nat → Prop} {ns cs : List Int} (hn : 600 ≤ n) (hne : cs ≠ []) (hl : cs.length ≤ 63) (h : ∀ ps : List Addr, P (.lst (ps.map fun a => .strm a .cells)) n) :
    Ws K Z (tSeq (tAsg (tLst tNil) (gName 2))
    (tSeq (tFor (iEnum K (tCons (tSl (rSlU K) (tVar 1) tNoPart (tPart (tC (.int 6)))) tNil)) (gTup K 2 (gCons (gName 3) (gCons (gName 4) gNil))) (tDrop (tBM K "list" rAppend (tVar 2) (tCons (tDisp [((tC (.str (PySem.Str.ofString "cells"))), (tOp (rAddU K) (tSl (rSlU K) (tVar 1) (tPart (tVar 3)) tNoPart) (tSl (rSlU K) (tVar 1) tNoPart (tPart (tVar 3))))), ((tC (.str (PySem.Str.ofString "at"))), (tOp (rI CMul fun i j => .int (i * j)) (tC (.int 89)) (tVar 3))), ((tC (.str (PySem.Str.ofString "left"))), (tIf (tTest (tOp (rGeP K) (tVar 4) (tOp (rI CPow fun i j => .int (i ^ j.toNat)) (tC (.int 10)) (tC (.int 18))))) (tVar 4) (tC (.int 0))))]) tNil))))
    (tRet (tVar 2)))) [some (.lst (ns.map .int)), some (.lst (cs.map .int)), none, none, none] n {nx := fun _ m => P .non m, rt := P} := by
  refine ws_seq ?_
  refine ws_newlist (wa_nil ⟨by decide, ?_⟩)
  refine ws_seq ?_
  refine ws_for (wi_enum ?_)
  walk_at "w"
  refine ⟨_, rfl, fun i ds' k => k = n ∧ ∃ (ps : List Addr) (a b : Option D), ps.length = i ∧ ds' = [some (.lst (ns.map .int)), some (.lst (cs.map .int)), some (.mls (ps.map fun a => .strm a .cells)), a, b], ⟨rfl, [], _, _, rfl, rfl⟩, ?_, ?_⟩
  · rintro i z ds' k hz ⟨rfl, ps, a, b, rfl, rfl⟩
    obtain ⟨y, hy, rfl⟩ := enumD_gett hz
    have h6 : cutD (List.map D.int cs) none (some 6) = ((cs.take (min 6 cs.length)).map D.int) := by
      have e := (cut_map cs (min 6 cs.length) (Nat.min_le_right _ _)).2
      rw [← e]
      unfold cutD
      rw [show (some 6 : Option Int) = some ((6 : Nat) : Int) from rfl, HT.sIx_nat, HT.sIx_nat, HT.sIx_none, List.length_map, Nat.min_eq_left (Nat.min_le_right 6 cs.length)]
    rw [h6, List.getElem?_map] at hy
    obtain ⟨v, hv, rfl⟩ := Option.map_eq_some_iff.mp hy
    have hi := (List.getElem?_eq_some_iff.mp hv).1
    rw [List.length_take] at hi
    have hk : ps.length < cs.length := by omega
    walk_at "w"
    refine ws_append rfl (by rw [List.length_map]; omega) ?_
    refine we_cNew ?_
    walk_at "w"
    obtain ⟨c1, c2⟩ := cut_map cs ps.length (by omega)
    rw [c1, c2]
    refine add_lst (by rw [List.length_map, List.length_map, List.length_drop, List.length_take]; omega) ?_
    walk_at "w"
    have key : ∀ w : Int, 0 ≤ w → ∃ (zs : List Int) (c x : Int), D.lst ((cs.drop ps.length).map D.int ++ (cs.take ps.length).map D.int) = .lst (zs.map .int) ∧ D.int (89 * (ps.length : Nat)) = .int c ∧ D.int w = .int x ∧ zs ≠ [] ∧ zs.length ≤ 1000 ∧ 0 ≤ c ∧ c ≤ (k : Nat) ∧ 0 ≤ x := fun w w0 =>
      ⟨cs.drop ps.length ++ cs.take ps.length, _, _, by rw [List.map_append], rfl, rfl, fun e => by
        have := congrArg List.length e
        rw [List.length_append, List.length_drop, List.length_take] at this
        simp at this
        omega, by rw [List.length_append, List.length_drop, List.length_take]; omega, by omega, by omega, w0⟩
    have fin : ∀ w : Int, 0 ≤ w → _ := key
    refine iteD (fun q => ?_) (fun q => ?_)
    · walk_at "w"
      obtain ⟨zs, c, x, e1, e2, e3, f1, f2, f3, f4, f5⟩ := key v (Int.le_trans (by decide) q)
      exact ⟨zs, c, x, e1, e2, e3, f1, f2, f3, f4, f5, fun p => ⟨rfl, ps ++ [p], some (.int (ps.length : Nat)), some (.int v), by simp, by simp⟩⟩
    · walk_at "w"
      obtain ⟨zs, c, x, e1, e2, e3, f1, f2, f3, f4, f5⟩ := key 0 (Int.le_refl _)
      exact ⟨zs, c, x, e1, e2, e3, f1, f2, f3, f4, f5, fun p => ⟨rfl, ps ++ [p], some (.int (ps.length : Nat)), some (.int v), by simp, by simp⟩⟩
  · rintro ds' k ⟨rfl, ps, a, b, hps, rfl⟩
    refine ws_settle (i := 2) rfl ?_
    walk_at "w"
    exact h ps
theorem len__law_streams : ∀ ds n P X, R__law_streams A ds n P X → ds.length = 1 := by rintro ds n P X ⟨_, rfl, -⟩; rfl
theorem w__law_streams (T : TxtC K A) : ∀ Z ds n P, R__law_streams A ds n P Z.X → Ws K Z (t__law_streams K A) (startD 5 ds) n {nx := fun _ m => P .non m, rt := P} := by
  rintro Z ds n P ⟨ns, rfl, hn, h6, h⟩
  unfold t__law_streams
  refine ws_seq ?_
  walk_at "w"
  refine ne_ints ?_
  walk_at "w"
  refine iteD (fun q => ?_) (fun q => ?_)
  · walk_at "w1"
    walk_at "w1"
    refine we_var rfl rfl ?_
    refine wa_nil ?_
    refine list_lst (wg_name ?_)
    exact streams_tail (cs := ns) h6 (fun e => q (by rw [e]; rfl)) hn h
  · walk_at "w1"
    refine wa_cons (we_int (wa_nil ⟨by decide, wg_name ?_⟩))
    exact streams_tail (cs := [0]) h6 (by simp) (by decide) h
end
end Lw

namespace Lw
open PySem L2 StX DL
section
variable {K : PySem.W.Frag} [Tb K] {Z : ZX} {A : Ad}
/-- one step -/
local macro_rules | `(tactic| walk_at "w1") => `(tactic| first
  | with_reducible refine ws_seq ?_
  | with_reducible refine ws_if ?_
  | with_reducible refine ws_ret ?_
  | ((fail_if_success (with_reducible show Ws _ _ (tDrop (tBM _ _ _ _ _)) _ _ _)); (with_reducible refine ws_drop ?_))
  | with_reducible refine ws_next ?_
  | with_reducible refine ws_par ?_
  | ((fail_if_success (with_reducible show Ws _ _ (tAsg _ (gSub _ _ _)) _ _ _)); (with_reducible refine ws_asg ?_))
  | with_reducible refine wg_name ?_
  | with_reducible refine we_int ?_
  | with_reducible refine we_bl ?_
  | with_reducible refine we_non ?_
  | with_reducible refine we_str ?_
  | with_reducible refine we_ty ?_
  | with_reducible refine we_cls ?_
  | with_reducible refine ws_par3 ?_
  | ((with_reducible show We _ _ (tVar _) _ _ _); refine we_var rfl rfl ?_)
  | ((with_reducible show We _ _ (tVar _) _ _ _); refine we_var rfl (mut_oP _) ?_)
  | with_reducible refine we_rep ?_
  | with_reducible refine we_op ?_
  | with_reducible refine we_un ?_
  | with_reducible refine we_cb ?_
  | with_reducible refine we_callX ?_
  | with_reducible refine we_call ?_
  | with_reducible refine we_callNX ?_
  | with_reducible refine we_callN ?_
  | with_reducible refine we_methN ?_
  | with_reducible refine we_callON ?_
  | with_reducible refine we_callOX ?_
  | with_reducible refine we_exf ?_
  | with_reducible refine we_dnew ?_
  | with_reducible refine ws_raise ?_
  | with_reducible refine we_tup ?_
  | with_reducible refine we_lst ?_
  | with_reducible refine we_sl ?_
  | with_reducible refine we_m1 ?_
  | with_reducible refine we_andV ?_
  | with_reducible refine we_orV ?_
  | with_reducible refine we_notV ?_
  | with_reducible refine we_if ?_
  | with_reducible refine we_chain ?_
  | with_reducible refine we_fld ?_
  | with_reducible refine we_methX ?_
  | with_reducible refine we_meth ?_
  | with_reducible refine we_prop ?_
  | with_reducible refine we_callO' ?_
  | with_reducible refine we_makeX ?_
  | with_reducible refine we_make ?_
  | with_reducible refine wt_test ?_
  | with_reducible refine wt_B ?_
  | with_reducible refine wt_yes ?_
  | with_reducible refine wt_and ?_
  | with_reducible refine wt_or ?_
  | with_reducible refine wt_not ?_
  | with_reducible refine wa_nil ?_
  | with_reducible refine wa_cons ?_
  | with_reducible refine wo_none ?_
  | with_reducible refine wo_some ?_
  | with_reducible refine add_int ?_
  | with_reducible refine sub_int ?_
  | with_reducible refine neg_int ?_
  | ((with_reducible refine mod_int ?_ ?_); (focus (first | assumption | omega)))
  | ((with_reducible refine mul_int ?_ ?_); (focus (first | exact Or.inl ⟨by omega, by omega⟩ | exact Or.inr ⟨by omega, by omega⟩)))
  | ((with_reducible refine fdiv_int ?_ ?_); (focus (exact ⟨by omega, by omega⟩)))
  | ((with_reducible refine pow_int ?_ ?_); (focus (exact ⟨by decide, by decide, by decide⟩)))
  | with_reducible refine is_non ?_
  | with_reducible refine not_non ?_
  | with_reducible refine eq_int ?_
  | with_reducible refine ne_int ?_
  | with_reducible refine eq_pos ?_
  | with_reducible refine ne_pos ?_
  | with_reducible refine ne_oPs ?_
  | with_reducible refine ne_nn ?_
  | with_reducible refine ne_np ?_
  | with_reducible refine ne_pn ?_
  | with_reducible refine eq_str ?_
  | with_reducible refine ne_str ?_
  | with_reducible refine eq_bl ?_
  | with_reducible refine ne_bl ?_
  | with_reducible refine lt_int ?_
  | with_reducible refine gt_int ?_
  | with_reducible refine le_int ?_
  | with_reducible refine ge_int ?_
  | with_reducible refine lt_pos ?_
  | with_reducible refine gt_pos ?_
  | with_reducible refine le_pos ?_
  | with_reducible refine ge_pos ?_
  | with_reducible refine int_int ?_
  | with_reducible refine min_int ?_
  | with_reducible refine max_int ?_
  | with_reducible refine len_lst ?_
  | with_reducible refine len_tup ?_
  | ((with_reducible refine len_take ?_ ?_ ?_); (focus (first | assumption | omega)); (focus (first | assumption | omega)))
  | ((with_reducible refine len_str ?_ ?_); (focus (first | assumption | omega)))
  | with_reducible refine tuple_lst ?_
  | with_reducible refine tuple_tup ?_
  | ((with_reducible refine sl_to ?_ ?_ ?_); (focus (first | assumption | omega)); (focus (first | assumption | omega)))
  | ((with_reducible refine sl_from ?_ ?_ ?_); (focus (first | assumption | omega)); (focus (first | assumption | omega)))
  | ((with_reducible refine sl_mid ?_ ?_ ?_ ?_); (focus (first | assumption | omega)); (focus (first | assumption | omega)); (focus (first | assumption | omega)))
  | with_reducible refine sl_lst ?_
  | with_reducible refine sl_tup ?_
  | ((with_reducible refine sl_str ?_ ?_); (focus (first | assumption | omega)))
  | with_reducible refine mt_nl ?_
  | with_reducible refine mt_countD ?_
  | with_reducible refine mt_rfindD ?_
  | ((with_reducible refine mt_splitnl ?_ ?_); (focus (first | assumption | omega)))
  | ((with_reducible refine mt_splitD ?_ ?_ ?_); (focus rfl); (focus (first | assumption | omega)))
  | ((with_reducible show Op _ (rIx _) (D.tup _) (D.int _) _); refine ix_tup (by decide) rfl ?_)
  | ((with_reducible show Op _ (rIx _) (D.lst _) (D.int _) _); refine ix_lst (n := 0) (by decide) rfl ?_)
  | ((with_reducible show Cb _ (rIsi _) [D.int _, D.ty _] _); first | refine isiI (r := true) (by decide +kernel) ?_ | refine isiI (r := false) (by decide +kernel) ?_)
  | ((with_reducible show Cb _ (rIsi _) [D.str _, D.ty _] _); first | refine isiS (r := true) (by decide +kernel) ?_ | refine isiS (r := false) (by decide +kernel) ?_)
  | ((with_reducible show Cb _ (rIsi _) [D.tup _, D.ty _] _); first | refine isiT (r := true) (by decide +kernel) ?_ | refine isiT (r := false) (by decide +kernel) ?_)
  | ((with_reducible show Wg _ _ (gTup _ _ _) _ _ _); refine wg_tup rfl rfl ?_)
  | ((with_reducible show Wgs _ _ gNil _ _ _); refine wgs_nil rfl ?_)
  | ((with_reducible show Wgs _ _ (gCons _ _) _ _ _); refine wgs_cons rfl ?_)
  | ((with_reducible show ∃ _, D.bl _ = D.bl _ ∧ _); refine ⟨_, rfl, ?_⟩)
  | ((with_reducible show ∃ _, D.int _ = D.int _ ∧ _); refine ⟨_, rfl, ?_⟩)
  | ((with_reducible show ∃ _, D.str _ = D.str _ ∧ _); refine ⟨_, rfl, ?_⟩)
  | ((with_reducible show ∃ _, D.tup _ = D.tup _ ∧ _); refine ⟨_, rfl, ?_⟩)
  | ((with_reducible show ∃ _, D.lst _ = D.lst _ ∧ _); refine ⟨_, rfl, ?_⟩)
  | with_reducible refine iteNT ?_
  | with_reducible refine iteNF ?_
  | ((with_reducible show if true = true then _ else _); rw [if_pos rfl])
  | ((with_reducible show if false = true then _ else _); rw [if_neg Bool.false_ne_true])
  | ((with_reducible show List.length _ ≤ 1000000 ∧ _); refine ⟨?_, ?_⟩; (focus (simp; done)))
  | fail "no step")
local macro_rules | `(tactic| walk_at "w") => `(tactic| repeat (walk_at "w1"))
local macro_rules | `(tactic| walk_at "ws") => `(tactic| repeat ((fail_if_success (with_reducible show We _ _ (tChain _ _ _ _ _) _ _ _)); (fail_if_success (with_reducible show Wt _ _ (tAnd _ _) _ _ _)); (fail_if_success (with_reducible show We _ _ (tOrT _ _ _) _ _ _)); walk_at "w1"))
local macro_rules | `(tactic| walk_at "wm") => `(tactic| repeat ((fail_if_success (with_reducible show Ws _ _ (tAsg (tLst _) _) _ _ _)); walk_at "w1"))
theorem lk_none {x : Str} {e : List (Key × D)} : List.lookup (Str.ofString "_code_of") [(Str.ofString "_signs", D.str x), (Str.ofString "_indexes", D.fdc e)] = none := by
  simp only [List.lookup, show (Str.ofString "_code_of" == Str.ofString "_signs") = false from by decide +kernel, show (Str.ofString "_code_of" == Str.ofString "_indexes") = false from by decide +kernel]
theorem len_is_integer : ∀ ds n P X, R_is_integer A ds n P X → ds.length = 1 := by rintro ds n P X ⟨_, rfl, -⟩; rfl
theorem w_is_integer (T : TxtC K A) : ∀ Z ds n P, R_is_integer A ds n P Z.X → Ws K Z (t_is_integer K A) (startD 1 ds) n { nx := fun _ m => P .non m, rt := P } := by
  rintro Z ds n P ⟨i, rfl, h⟩
  unfold t_is_integer
  walk_at "w"
  exact h
theorem len_is_count : ∀ ds n P X, R_is_count A ds n P X → ds.length = 1 := by rintro ds n P X ⟨_, rfl, -⟩; rfl
theorem w_is_count (T : TxtC K A) : ∀ Z ds n P, R_is_count A ds n P Z.X → Ws K Z (t_is_count K A) (startD 1 ds) n { nx := fun _ m => P .non m, rt := P } := by
  rintro Z ds n P ⟨i, rfl, h⟩
  unfold t_is_count
  walk_at "w"
  exact ⟨i, rfl, by walk_at "w"; exact h⟩
theorem len_is_up_to : ∀ ds n P X, R_is_up_to A ds n P X → ds.length = 2 := by rintro ds n P X ⟨_, _, rfl, -⟩; rfl
theorem w_is_up_to (T : TxtC K A) : ∀ Z ds n P, R_is_up_to A ds n P Z.X → Ws K Z (t_is_up_to K A) (startD 2 ds) n { nx := fun _ m => P .non m, rt := P } := by
  rintro Z ds n P ⟨i, l, rfl, h⟩
  unfold t_is_up_to
  walk_at "w"
  refine ⟨_, rfl, ?_⟩
  walk_at "w"
  refine iteD (fun z => ?_) (fun z => ?_)
  · walk_at "w"
    rw [show isNonD (D.int l) = false from rfl]
    walk_at "w"
    rw [decide_eq_true z, Bool.true_and] at h
    exact h
  · walk_at "w"
    rw [decide_eq_false z, Bool.false_and] at h
    first | exact h | (rw [decide_eq_false z]; exact h)
theorem len_check_up_to : ∀ ds n P X, R_check_up_to A ds n P X → ds.length = 2 := by rintro ds n P X ⟨_, _, rfl, -⟩; rfl
theorem w_check_up_to (T : TxtC K A) : ∀ Z ds n P, R_check_up_to A ds n P Z.X → Ws K Z (t_check_up_to K A) (startD 2 ds) n { nx := fun _ m => P .non m, rt := P } := by
  rintro Z ds n P ⟨i, l, rfl, h0, h1, h⟩
  unfold t_check_up_to
  walk_at "w"
  refine ⟨_, _, rfl, ?_⟩
  rw [decide_eq_true h0, decide_eq_true h1, show (true && true) = true from rfl]
  walk_at "w"
  exact h
theorem len__law_folded : ∀ ds n P X, R__law_folded A ds n P X → ds.length = 1 := by rintro ds n P X ⟨_, rfl, -⟩; rfl
theorem w__law_folded (T : TxtC K A) : ∀ Z ds n P, R__law_folded A ds n P Z.X → Ws K Z (t__law_folded K A) (startD 1 ds) n { nx := fun _ m => P .non m, rt := P } := by
  rintro Z ds n P ⟨i, rfl, h0, h1, h⟩
  unfold t__law_folded
  walk_at "w"
  unfold fo at h
  refine iteD (fun z => ?_) (fun z => ?_)
  · rw [if_pos z] at h
    walk_at "w"
    exact h
  · rw [if_neg z] at h
    walk_at "w"
    exact h
theorem len_folded : ∀ ds n P X, R_folded A ds n P X → ds.length = 1 := by rintro ds n P X ⟨_, rfl, -⟩; rfl
theorem w_folded (T : TxtC K A) : ∀ Z ds n P, R_folded A ds n P Z.X → Ws K Z (t_folded K A) (startD 1 ds) n { nx := fun _ m => P .non m, rt := P } := by
  rintro Z ds n P ⟨i, rfl, h0, h1, h⟩
  unfold t_folded
  walk_at "w"
  refine ⟨_, rfl, ?_⟩
  walk_at "w"
  refine iteD (fun z => ?_) (fun z => absurd h0 z)
  walk_at "w"
  rw [decide_eq_true h1]
  walk_at "w"
  unfold fo at h
  refine iteD (fun z => ?_) (fun z => ?_)
  · rw [if_pos z] at h
    walk_at "w"
    exact h
  · rw [if_neg z] at h
    walk_at "w"
    exact h
theorem len_unfolded : ∀ ds n P X, R_unfolded A ds n P X → ds.length = 1 := by rintro ds n P X ⟨_, rfl, -⟩; rfl
theorem w_unfolded (T : TxtC K A) : ∀ Z ds n P, R_unfolded A ds n P Z.X → Ws K Z (t_unfolded K A) (startD 2 ds) n { nx := fun _ m => P .non m, rt := P } := by
  rintro Z ds n P ⟨i, rfl, h0, h1, h⟩
  unfold t_unfolded
  walk_at "w"
  refine ⟨_, _, rfl, h0, h1, ?_⟩
  walk_at "w"
  unfold un at h
  refine iteD (fun z => ?_) (fun z => ?_)
  · rw [if_pos z] at h
    walk_at "w"
    exact h
  · rw [if_neg z] at h
    walk_at "w"
    exact h
theorem len__law_free : ∀ ds n P X, R__law_free A ds n P X → ds.length = 0 := by rintro ds n P X ⟨rfl, -⟩; rfl
theorem w__law_free (T : TxtC K A) : ∀ Z ds n P, R__law_free A ds n P Z.X → Ws K Z (t__law_free K A) (startD 1 ds) n { nx := fun _ m => P .non m, rt := P } := by
  rintro Z ds n P ⟨rfl, h⟩
  unfold t__law_free
  walk_at "w"
  refine add_str (by decide +kernel) ?_
  rw [show (Str.ofString " !\"#$&()*+-/0123456789:<=?@ABCDEFGHIJKLMNOPQRSTUVWXYZ" ++ Str.ofString "[\\]^_`abcdefghijklmnopqrstuvwxyz{|}~" : Str) = fre from by decide +kernel]
  exact h
theorem len_Alphabet_call : ∀ ds n P X, R_Alphabet_call A ds n P X → ds.length = 2 := by rintro ds n P X ⟨_, _, _, rfl, -⟩; rfl
theorem w_Alphabet_call (T : TxtC K A) : ∀ Z ds n P, R_Alphabet_call A ds n P Z.X → Ws K Z (t_Alphabet_call K A) (startD 2 ds) n { nx := fun _ m => P .non m, rt := P } := by
  rintro Z ds n P ⟨x, e, k, rfl, h0, h1, h⟩
  unfold t_Alphabet_call
  walk_at "w"
  refine ⟨_, rfl, lk_none, ?_⟩
  walk_at "w"
  exact ⟨_, _, _, rfl, h0, h1, h⟩
theorem len_Alphabet_signed : ∀ ds n P X, R_Alphabet_signed A ds n P X → ds.length = 2 := by rintro ds n P X ⟨_, _, _, rfl, -⟩; rfl
theorem fo_nat {i : Int} (h0 : -1000000000 ≤ i) (h1 : i ≤ 1000000000) : fo i = ((fo i).toNat : Nat) ∧ (fo i).toNat ≤ 2000000000 := by
  unfold fo
  split <;> omega
theorem w_Alphabet_signed (T : TxtC K A) : ∀ Z ds n P, R_Alphabet_signed A ds n P Z.X → Ws K Z (t_Alphabet_signed K A) (startD 2 ds) n { nx := fun _ m => P .non m, rt := P } := by
  rintro Z ds n P ⟨x, e, i, rfl, h0, h1, h2, h⟩
  unfold t_Alphabet_signed
  obtain ⟨e1, e2⟩ := fo_nat h1 h2
  walk_at "w"
  refine ⟨_, rfl, lk_none, ?_⟩
  walk_at "w"
  refine ⟨_, rfl, by omega, h2, ?_⟩
  rw [e1]
  walk_at "w"
  exact ⟨_, _, _, rfl, h0, by omega, h⟩
end
end Lw

namespace Lw
open PySem L2 StX DL

theorem up_eq (s : List Nat) (r : Nat) (acc : List Nat) : up s r acc = if r = 0 then acc else up s (r / 32) (s.getD (32 + r % 32) 0 :: acc) := by
  rw [up]
  by_cases h : r = 0
  · rw [dif_pos h, if_pos h]
  · rw [dif_neg h, if_neg h]
theorem up_ge (s : List Nat) (r : Nat) : ∀ acc, acc.length ≤ (up s r acc).length := by
  induction r using Nat.strongRecOn with
  | _ r ih =>
    intro acc
    rw [up_eq]
    split
    · exact Nat.le_refl _
    · rename_i h
      exact Nat.le_trans (by simp) (ih (r / 32) (Nat.div_lt_self (Nat.pos_of_ne_zero h) (by decide)) _)
theorem up_le (s : List Nat) : ∀ (d r : Nat) (acc : List Nat), r < 32 ^ d → (up s r acc).length ≤ acc.length + d
  | 0, r, acc, h => by
    have : r = 0 := by simpa using h
    rw [up_eq, if_pos this]
    exact Nat.le_refl _
  | d + 1, r, acc, h => by
    rw [up_eq]
    split
    · omega
    · have := up_le s d (r / 32) (s.getD (32 + r % 32) 0 :: acc) (Nat.div_lt_of_lt_mul (by rw [Nat.pow_succ, Nat.mul_comm] at h; exact h))
      rw [List.length_cons] at this
      omega
theorem cons_mk (a : Nat) (acc : List Nat) : (⟨#[a]⟩ : Str) ++ mk acc = mk (a :: acc) := by
  rw [← mk_tl ((⟨#[a]⟩ : Str) ++ mk acc), tl_app]; rfl
section
variable {K : PySem.W.Frag} [Tb K] {Z : ZX} {A : Ad}
/-- one step -/
local macro_rules | `(tactic| walk_at "w1") => `(tactic| first
  | with_reducible refine ws_seq ?_
  | with_reducible refine ws_if ?_
  | with_reducible refine ws_ret ?_
  | ((fail_if_success (with_reducible show Ws _ _ (tDrop (tBM _ _ _ _ _)) _ _ _)); (with_reducible refine ws_drop ?_))
  | with_reducible refine ws_next ?_
  | with_reducible refine ws_par ?_
  | ((fail_if_success (with_reducible show Ws _ _ (tAsg _ (gSub _ _ _)) _ _ _)); (with_reducible refine ws_asg ?_))
  | with_reducible refine wg_name ?_
  | with_reducible refine we_int ?_
  | with_reducible refine we_bl ?_
  | with_reducible refine we_non ?_
  | with_reducible refine we_str ?_
  | with_reducible refine we_ty ?_
  | with_reducible refine we_cls ?_
  | with_reducible refine ws_par3 ?_
  | ((with_reducible show We _ _ (tVar _) _ _ _); refine we_var rfl rfl ?_)
  | ((with_reducible show We _ _ (tVar _) _ _ _); refine we_var rfl (mut_oP _) ?_)
  | with_reducible refine we_rep ?_
  | with_reducible refine we_op ?_
  | with_reducible refine we_un ?_
  | with_reducible refine we_cb ?_
  | with_reducible refine we_callX ?_
  | with_reducible refine we_call ?_
  | with_reducible refine we_callNX ?_
  | with_reducible refine we_callN ?_
  | with_reducible refine we_methN ?_
  | with_reducible refine we_callON ?_
  | with_reducible refine we_callOX ?_
  | with_reducible refine we_exf ?_
  | with_reducible refine we_dnew ?_
  | with_reducible refine ws_raise ?_
  | with_reducible refine we_tup ?_
  | with_reducible refine we_lst ?_
  | with_reducible refine we_sl ?_
  | with_reducible refine we_m1 ?_
  | with_reducible refine we_andV ?_
  | with_reducible refine we_orV ?_
  | with_reducible refine we_notV ?_
  | with_reducible refine we_if ?_
  | with_reducible refine we_chain ?_
  | with_reducible refine we_fld ?_
  | with_reducible refine we_methX ?_
  | with_reducible refine we_meth ?_
  | with_reducible refine we_prop ?_
  | with_reducible refine we_callO' ?_
  | with_reducible refine we_makeX ?_
  | with_reducible refine we_make ?_
  | with_reducible refine wt_test ?_
  | with_reducible refine wt_B ?_
  | with_reducible refine wt_yes ?_
  | with_reducible refine wt_and ?_
  | with_reducible refine wt_or ?_
  | with_reducible refine wt_not ?_
  | with_reducible refine wa_nil ?_
  | with_reducible refine wa_cons ?_
  | with_reducible refine wo_none ?_
  | with_reducible refine wo_some ?_
  | with_reducible refine add_int ?_
  | with_reducible refine sub_int ?_
  | with_reducible refine neg_int ?_
  | ((with_reducible refine mod_int ?_ ?_); (focus (first | assumption | omega)))
  | ((with_reducible refine mul_int ?_ ?_); (focus (first | exact Or.inl ⟨by omega, by omega⟩ | exact Or.inr ⟨by omega, by omega⟩)))
  | ((with_reducible refine fdiv_int ?_ ?_); (focus (exact ⟨by omega, by omega⟩)))
  | ((with_reducible refine pow_int ?_ ?_); (focus (exact ⟨by decide, by decide, by decide⟩)))
  | with_reducible refine is_non ?_
  | with_reducible refine not_non ?_
  | with_reducible refine eq_int ?_
  | with_reducible refine ne_int ?_
  | with_reducible refine eq_pos ?_
  | with_reducible refine ne_pos ?_
  | with_reducible refine ne_oPs ?_
  | with_reducible refine ne_nn ?_
  | with_reducible refine ne_np ?_
  | with_reducible refine ne_pn ?_
  | with_reducible refine eq_str ?_
  | with_reducible refine ne_str ?_
  | with_reducible refine eq_bl ?_
  | with_reducible refine ne_bl ?_
  | with_reducible refine lt_int ?_
  | with_reducible refine gt_int ?_
  | with_reducible refine le_int ?_
  | with_reducible refine ge_int ?_
  | with_reducible refine lt_pos ?_
  | with_reducible refine gt_pos ?_
  | with_reducible refine le_pos ?_
  | with_reducible refine ge_pos ?_
  | with_reducible refine int_int ?_
  | with_reducible refine min_int ?_
  | with_reducible refine max_int ?_
  | with_reducible refine len_lst ?_
  | with_reducible refine len_tup ?_
  | ((with_reducible refine len_take ?_ ?_ ?_); (focus (first | assumption | omega)); (focus (first | assumption | omega)))
  | ((with_reducible refine len_str ?_ ?_); (focus (first | assumption | omega)))
  | with_reducible refine tuple_lst ?_
  | with_reducible refine tuple_tup ?_
  | ((with_reducible refine sl_to ?_ ?_ ?_); (focus (first | assumption | omega)); (focus (first | assumption | omega)))
  | ((with_reducible refine sl_from ?_ ?_ ?_); (focus (first | assumption | omega)); (focus (first | assumption | omega)))
  | ((with_reducible refine sl_mid ?_ ?_ ?_ ?_); (focus (first | assumption | omega)); (focus (first | assumption | omega)); (focus (first | assumption | omega)))
  | with_reducible refine sl_lst ?_
  | with_reducible refine sl_tup ?_
  | ((with_reducible refine sl_str ?_ ?_); (focus (first | assumption | omega)))
  | with_reducible refine mt_nl ?_
  | with_reducible refine mt_countD ?_
  | with_reducible refine mt_rfindD ?_
  | ((with_reducible refine mt_splitnl ?_ ?_); (focus (first | assumption | omega)))
  | ((with_reducible refine mt_splitD ?_ ?_ ?_); (focus rfl); (focus (first | assumption | omega)))
  | ((with_reducible show Op _ (rIx _) (D.tup _) (D.int _) _); refine ix_tup (by decide) rfl ?_)
  | ((with_reducible show Op _ (rIx _) (D.lst _) (D.int _) _); refine ix_lst (n := 0) (by decide) rfl ?_)
  | ((with_reducible show Cb _ (rIsi _) [D.int _, D.ty _] _); first | refine isiI (r := true) (by decide +kernel) ?_ | refine isiI (r := false) (by decide +kernel) ?_)
  | ((with_reducible show Cb _ (rIsi _) [D.str _, D.ty _] _); first | refine isiS (r := true) (by decide +kernel) ?_ | refine isiS (r := false) (by decide +kernel) ?_)
  | ((with_reducible show Cb _ (rIsi _) [D.tup _, D.ty _] _); first | refine isiT (r := true) (by decide +kernel) ?_ | refine isiT (r := false) (by decide +kernel) ?_)
  | ((with_reducible show Wg _ _ (gTup _ _ _) _ _ _); refine wg_tup rfl rfl ?_)
  | ((with_reducible show Wgs _ _ gNil _ _ _); refine wgs_nil rfl ?_)
  | ((with_reducible show Wgs _ _ (gCons _ _) _ _ _); refine wgs_cons rfl ?_)
  | ((with_reducible show ∃ _, D.bl _ = D.bl _ ∧ _); refine ⟨_, rfl, ?_⟩)
  | ((with_reducible show ∃ _, D.int _ = D.int _ ∧ _); refine ⟨_, rfl, ?_⟩)
  | ((with_reducible show ∃ _, D.str _ = D.str _ ∧ _); refine ⟨_, rfl, ?_⟩)
  | ((with_reducible show ∃ _, D.tup _ = D.tup _ ∧ _); refine ⟨_, rfl, ?_⟩)
  | ((with_reducible show ∃ _, D.lst _ = D.lst _ ∧ _); refine ⟨_, rfl, ?_⟩)
  | with_reducible refine iteNT ?_
  | with_reducible refine iteNF ?_
  | ((with_reducible show if true = true then _ else _); rw [if_pos rfl])
  | ((with_reducible show if false = true then _ else _); rw [if_neg Bool.false_ne_true])
  | ((with_reducible show List.length _ ≤ 1000000 ∧ _); refine ⟨?_, ?_⟩; (focus (simp; done)))
  | fail "no step")
local macro_rules | `(tactic| walk_at "w") => `(tactic| repeat (walk_at "w1"))
local macro_rules | `(tactic| walk_at "ws") => `(tactic| repeat ((fail_if_success (with_reducible show We _ _ (tChain _ _ _ _ _) _ _ _)); (fail_if_success (with_reducible show Wt _ _ (tAnd _ _) _ _ _)); (fail_if_success (with_reducible show We _ _ (tOrT _ _ _) _ _ _)); walk_at "w1"))
local macro_rules | `(tactic| walk_at "wm") => `(tactic| repeat ((fail_if_success (with_reducible show Ws _ _ (tAsg (tLst _) _) _ _ _)); walk_at "w1"))

theorem ix_row {x : Str} {j : Nat} {P : D → Prop} (hx : okS x) (hj : j < 64) (h : P (.str (mk [(tl x).getD j 0]))) : Op K (rIx K) (.str x) (.int (j : Nat)) P := by
  have hl := hx.1
  have hl2 := len_tl x
  refine ix_str (c := (tl x).getD j 0) (by omega) (by omega) ?_ h
  rw [Int.toNat_natCast, List.getD_eq_getElem?_getD, List.getElem?_eq_getElem (show j < (tl x).length by omega)]
  rfl
theorem len__law_code : ∀ ds n P X, R__law_code A ds n P X → ds.length = 2 := by rintro ds n P X ⟨_, _, rfl, -⟩; rfl
theorem w__law_code (T : TxtC K A) : ∀ Z ds n P, R__law_code A ds n P Z.X → Ws K Z (t__law_code K A) (startD 4 ds) n { nx := fun _ m => P .non m, rt := P } := by
  rintro Z ds n P ⟨x, k, rfl, hx, hk, h⟩
  have hle : (up (tl x) (k / 32) [(tl x).getD (k % 32) 0]).length ≤ 8 := up_le _ 7 _ _ (by omega)
  unfold t__law_code
  walk_at "w"
  rw [show ((k : Nat) : Int) % 32 = ((k % 32 : Nat) : Int) by omega]
  refine ix_row hx (by omega) ?_
  walk_at "w"
  rw [show ((k : Nat) : Int) / 32 = ((k / 32 : Nat) : Int) by omega]
  refine ⟨_, _, rfl, ?_⟩
  walk_at "w"
  refine ws_while (fun m ds' j => j = n ∧ ∃ acc, up (tl x) m acc = up (tl x) (k / 32) [(tl x).getD (k % 32) 0] ∧ m ≤ 1000000000000 ∧ ds' = [some (.str x), some (.int k), some (.str (mk acc)), some (.int (m : Nat))]) ⟨_, rfl, _, rfl, by omega, rfl⟩ ?_
  rintro m ds' j ⟨rfl, acc, he, hm, rfl⟩
  have hg := up_ge (tl x) m acc
  rw [he] at hg
  rw [up_eq] at he
  walk_at "w"
  refine iteD (fun z => ?_) (fun z => ?_)
  · rw [if_neg (by omega)] at he
    walk_at "w"
    rw [show (32 : Int) + ((m : Nat) : Int) % 32 = ((32 + m % 32 : Nat) : Int) by omega]
    refine ix_row hx (by omega) ?_
    walk_at "w"
    refine add_str (by rw [mk_len]; simp [Str.length]; omega) ?_
    rw [cons_mk]
    walk_at "w"
    rw [show ((m : Nat) : Int) / 32 = ((m / 32 : Nat) : Int) by omega]
    exact ⟨m / 32, by omega, rfl, _, he, by omega, rfl⟩
  · rw [if_pos (by omega)] at he
    walk_at "w"
    rw [he]
    exact h
theorem len_Alphabet_code_of : ∀ ds n P X, R_Alphabet_code_of A ds n P X → ds.length = 2 := by rintro ds n P X ⟨_, _, _, rfl, -⟩; rfl
theorem w_Alphabet_code_of (T : TxtC K A) : ∀ Z ds n P, R_Alphabet_code_of A ds n P Z.X → Ws K Z (t_Alphabet_code_of K A) (startD 4 ds) n { nx := fun _ m => P .non m, rt := P } := by
  rintro Z ds n P ⟨x, e, k, rfl, hx, hk, h⟩
  have hle : (up (tl x) (k / 32) [(tl x).getD (k % 32) 0]).length ≤ 8 := up_le _ 7 _ _ (by omega)
  unfold t_Alphabet_code_of
  walk_at "w"
  refine ⟨_, _, rfl, by omega, by omega, ?_⟩
  walk_at "w"
  refine ⟨_, _, _, rfl, T.cl_Alphabet, T.na_Alphabet__signs, rfl, ?_⟩
  walk_at "w"
  refine and31 ?_
  rw [show ((k : Nat) : Int) % 32 = ((k % 32 : Nat) : Int) by omega]
  refine ix_row hx (by omega) ?_
  walk_at "w"
  rw [show ((k : Nat) : Int) / 32 = ((k / 32 : Nat) : Int) by omega]
  refine ws_while (fun m ds' j => j = n ∧ ∃ acc, up (tl x) m acc = up (tl x) (k / 32) [(tl x).getD (k % 32) 0] ∧ m ≤ 1000000000000 ∧ ds' = [some (alD A x e), some (.int k), some (.str (mk acc)), some (.int (m : Nat))]) ⟨_, rfl, _, rfl, by omega, rfl⟩ ?_
  rintro m ds' j ⟨rfl, acc, he, hm, rfl⟩
  have hg := up_ge (tl x) m acc
  rw [he] at hg
  rw [up_eq] at he
  walk_at "w"
  refine iteD (fun z => ?_) (fun z => ?_)
  · rw [if_neg (by omega)] at he
    walk_at "w"
    refine ⟨_, _, _, rfl, T.cl_Alphabet, T.na_Alphabet__signs, rfl, ?_⟩
    walk_at "w"
    refine and31 ?_
    walk_at "w"
    rw [show (32 : Int) + ((m : Nat) : Int) % 32 = ((32 + m % 32 : Nat) : Int) by omega]
    refine ix_row hx (by omega) ?_
    walk_at "w"
    refine add_str (by rw [mk_len]; simp [Str.length]; omega) ?_
    rw [cons_mk]
    walk_at "w"
    rw [show ((m : Nat) : Int) / 32 = ((m / 32 : Nat) : Int) by omega]
    exact ⟨m / 32, by omega, rfl, _, he, by omega, rfl⟩
  · rw [if_pos (by omega)] at he
    walk_at "w"
    rw [he]
    exact h
end
end Lw

namespace Lw
open PySem L2 StX DL

theorem std_ok : okS (Str.ofString "ABCDEFGHIJKLMNOPQRSTUVWXYZabcdefghijklmnopqrstuvwxyz" ++ Str.ofString "0123456789+/") := by
  unfold okS
  decide +kernel
theorem fre_ok : (tl fre).length = 89 ∧ (tl fre).Nodup ∧ ∀ c ∈ tl fre, 32 ≤ c ∧ c ≤ 126 ∧ noSign c = false := by decide +kernel
theorem prime89 : ∀ s : Fin 89, ∀ d : Fin 64, s.val ≠ 0 → d.val ≠ 0 → (s.val * d.val) % 89 ≠ 0 := by decide +kernel
theorem step_inj {f s i j : Nat} (hs0 : s ≠ 0) (hs : s < 89) (hij : i < j) (hj : j < 64) : (f + s * i) % 89 ≠ (f + s * j) % 89 := by
  intro e
  obtain ⟨d, rfl⟩ : ∃ d, j = i + d := ⟨j - i, by omega⟩
  refine prime89 ⟨s, hs⟩ ⟨d, by omega⟩ hs0 (by show d ≠ 0; omega) ?_
  rw [Nat.mul_add] at e
  show s * d % 89 = 0
  omega
theorem nodup_getD {l : List Nat} (h : l.Nodup) {a b : Nat} (ha : a < l.length) (hb : b < l.length) (e : l.getD a 0 = l.getD b 0) : a = b := by
  rw [List.getD_eq_getElem?_getD, List.getD_eq_getElem?_getD, List.getElem?_eq_getElem ha, List.getElem?_eq_getElem hb] at e
  exact (List.getElem_inj h).mp e
theorem flat1 : ∀ l : List Nat, ((l.map fun c => mk [c]).map tl).flatten = l
  | [] => rfl
  | c :: l => by simp only [List.map_cons, List.flatten_cons, flat1 l]; rfl
theorem sum1 : ∀ l : List Nat, ((l.map fun c => mk [c]).map (·.length)).sum = l.length
  | [] => rfl
  | c :: l => by
    simp only [List.map_cons, List.sum_cons, sum1 l, List.length_cons, mk_len, List.length_nil]; omega
/-- the row that a first sign and a step give -/
def rowOf (f s : Nat) : List Nat := (List.range 64).map fun i => (tl fre).getD ((f + s * i) % 89) 0
theorem row_ok {f s : Nat} (hs0 : s ≠ 0) (hs : s < 89) : okS (mk (rowOf f s)) := by
  obtain ⟨h1, h2, h3⟩ := fre_ok
  refine ⟨by rw [tl_mk]; simp [rowOf], ?_, ?_⟩
  · rw [tl_mk, rowOf, List.Nodup, List.pairwise_map]
    refine List.Pairwise.imp_of_mem ?_ (List.pairwise_lt_range (n := 64))
    intro i j hi hj hlt
    have hj2 := List.mem_range.mp hj
    have q := step_inj (f := f) hs0 hs hlt hj2
    exact fun e => q (nodup_getD h2 (by omega) (by omega) e)
  · intro c hc
    rw [tl_mk, rowOf] at hc
    obtain ⟨i, -, rfl⟩ := List.mem_map.mp hc
    have hl : (f + s * i) % 89 < (tl fre).length := by omega
    rw [List.getD_eq_getElem?_getD, List.getElem?_eq_getElem hl]
    exact h3 _ (List.getElem_mem hl)
section
variable {K : PySem.W.Frag} [Tb K] {Z : ZX} {A : Ad}
/-- one step -/
local macro_rules | `(tactic| walk_at "w1") => `(tactic| first
  | with_reducible refine ws_seq ?_
  | with_reducible refine ws_if ?_
  | with_reducible refine ws_ret ?_
  | ((fail_if_success (with_reducible show Ws _ _ (tDrop (tBM _ _ _ _ _)) _ _ _)); (with_reducible refine ws_drop ?_))
  | with_reducible refine ws_next ?_
  | with_reducible refine ws_par ?_
  | ((fail_if_success (with_reducible show Ws _ _ (tAsg _ (gSub _ _ _)) _ _ _)); (with_reducible refine ws_asg ?_))
  | with_reducible refine wg_name ?_
  | with_reducible refine we_int ?_
  | with_reducible refine we_bl ?_
  | with_reducible refine we_non ?_
  | with_reducible refine we_str ?_
  | with_reducible refine we_ty ?_
  | with_reducible refine we_cls ?_
  | with_reducible refine ws_par3 ?_
  | ((with_reducible show We _ _ (tVar _) _ _ _); refine we_var rfl rfl ?_)
  | ((with_reducible show We _ _ (tVar _) _ _ _); refine we_var rfl (mut_oP _) ?_)
  | with_reducible refine we_rep ?_
  | with_reducible refine we_op ?_
  | with_reducible refine we_un ?_
  | with_reducible refine we_cb ?_
  | with_reducible refine we_callX ?_
  | with_reducible refine we_call ?_
  | with_reducible refine we_callNX ?_
  | with_reducible refine we_callN ?_
  | with_reducible refine we_methN ?_
  | with_reducible refine we_callON ?_
  | with_reducible refine we_callOX ?_
  | with_reducible refine we_exf ?_
  | with_reducible refine we_dnew ?_
  | with_reducible refine ws_raise ?_
  | with_reducible refine we_tup ?_
  | with_reducible refine we_lst ?_
  | with_reducible refine we_sl ?_
  | with_reducible refine we_m1 ?_
  | with_reducible refine we_andV ?_
  | with_reducible refine we_orV ?_
  | with_reducible refine we_notV ?_
  | with_reducible refine we_if ?_
  | with_reducible refine we_chain ?_
  | with_reducible refine we_fld ?_
  | with_reducible refine we_methX ?_
  | with_reducible refine we_meth ?_
  | with_reducible refine we_prop ?_
  | with_reducible refine we_callO' ?_
  | with_reducible refine we_makeX ?_
  | with_reducible refine we_make ?_
  | with_reducible refine wt_test ?_
  | with_reducible refine wt_B ?_
  | with_reducible refine wt_yes ?_
  | with_reducible refine wt_and ?_
  | with_reducible refine wt_or ?_
  | with_reducible refine wt_not ?_
  | with_reducible refine wa_nil ?_
  | with_reducible refine wa_cons ?_
  | with_reducible refine wo_none ?_
  | with_reducible refine wo_some ?_
  | with_reducible refine add_int ?_
  | with_reducible refine sub_int ?_
  | with_reducible refine neg_int ?_
  | ((with_reducible refine mod_int ?_ ?_); (focus (first | assumption | omega)))
  | ((with_reducible refine mul_int ?_ ?_); (focus (first | exact Or.inl ⟨by omega, by omega⟩ | exact Or.inr ⟨by omega, by omega⟩)))
  | ((with_reducible refine fdiv_int ?_ ?_); (focus (exact ⟨by omega, by omega⟩)))
  | ((with_reducible refine pow_int ?_ ?_); (focus (exact ⟨by decide, by decide, by decide⟩)))
  | with_reducible refine is_non ?_
  | with_reducible refine not_non ?_
  | with_reducible refine eq_int ?_
  | with_reducible refine ne_int ?_
  | with_reducible refine eq_pos ?_
  | with_reducible refine ne_pos ?_
  | with_reducible refine ne_oPs ?_
  | with_reducible refine ne_nn ?_
  | with_reducible refine ne_np ?_
  | with_reducible refine ne_pn ?_
  | with_reducible refine eq_str ?_
  | with_reducible refine ne_str ?_
  | with_reducible refine eq_bl ?_
  | with_reducible refine ne_bl ?_
  | with_reducible refine lt_int ?_
  | with_reducible refine gt_int ?_
  | with_reducible refine le_int ?_
  | with_reducible refine ge_int ?_
  | with_reducible refine lt_pos ?_
  | with_reducible refine gt_pos ?_
  | with_reducible refine le_pos ?_
  | with_reducible refine ge_pos ?_
  | with_reducible refine int_int ?_
  | with_reducible refine min_int ?_
  | with_reducible refine max_int ?_
  | with_reducible refine len_lst ?_
  | with_reducible refine len_tup ?_
  | ((with_reducible refine len_take ?_ ?_ ?_); (focus (first | assumption | omega)); (focus (first | assumption | omega)))
  | ((with_reducible refine len_str ?_ ?_); (focus (first | assumption | omega)))
  | with_reducible refine tuple_lst ?_
  | with_reducible refine tuple_tup ?_
  | ((with_reducible refine sl_to ?_ ?_ ?_); (focus (first | assumption | omega)); (focus (first | assumption | omega)))
  | ((with_reducible refine sl_from ?_ ?_ ?_); (focus (first | assumption | omega)); (focus (first | assumption | omega)))
  | ((with_reducible refine sl_mid ?_ ?_ ?_ ?_); (focus (first | assumption | omega)); (focus (first | assumption | omega)); (focus (first | assumption | omega)))
  | with_reducible refine sl_lst ?_
  | with_reducible refine sl_tup ?_
  | ((with_reducible refine sl_str ?_ ?_); (focus (first | assumption | omega)))
  | with_reducible refine mt_nl ?_
  | with_reducible refine mt_countD ?_
  | with_reducible refine mt_rfindD ?_
  | ((with_reducible refine mt_splitnl ?_ ?_); (focus (first | assumption | omega)))
  | ((with_reducible refine mt_splitD ?_ ?_ ?_); (focus rfl); (focus (first | assumption | omega)))
  | ((with_reducible show Op _ (rIx _) (D.tup _) (D.int _) _); refine ix_tup (by decide) rfl ?_)
  | ((with_reducible show Op _ (rIx _) (D.lst _) (D.int _) _); refine ix_lst (n := 0) (by decide) rfl ?_)
  | ((with_reducible show Cb _ (rIsi _) [D.int _, D.ty _] _); first | refine isiI (r := true) (by decide +kernel) ?_ | refine isiI (r := false) (by decide +kernel) ?_)
  | ((with_reducible show Cb _ (rIsi _) [D.str _, D.ty _] _); first | refine isiS (r := true) (by decide +kernel) ?_ | refine isiS (r := false) (by decide +kernel) ?_)
  | ((with_reducible show Cb _ (rIsi _) [D.tup _, D.ty _] _); first | refine isiT (r := true) (by decide +kernel) ?_ | refine isiT (r := false) (by decide +kernel) ?_)
  | ((with_reducible show Wg _ _ (gTup _ _ _) _ _ _); refine wg_tup rfl rfl ?_)
  | ((with_reducible show Wgs _ _ gNil _ _ _); refine wgs_nil rfl ?_)
  | ((with_reducible show Wgs _ _ (gCons _ _) _ _ _); refine wgs_cons rfl ?_)
  | ((with_reducible show ∃ _, D.bl _ = D.bl _ ∧ _); refine ⟨_, rfl, ?_⟩)
  | ((with_reducible show ∃ _, D.int _ = D.int _ ∧ _); refine ⟨_, rfl, ?_⟩)
  | ((with_reducible show ∃ _, D.str _ = D.str _ ∧ _); refine ⟨_, rfl, ?_⟩)
  | ((with_reducible show ∃ _, D.tup _ = D.tup _ ∧ _); refine ⟨_, rfl, ?_⟩)
  | ((with_reducible show ∃ _, D.lst _ = D.lst _ ∧ _); refine ⟨_, rfl, ?_⟩)
  | with_reducible refine iteNT ?_
  | with_reducible refine iteNF ?_
  | ((with_reducible show if true = true then _ else _); rw [if_pos rfl])
  | ((with_reducible show if false = true then _ else _); rw [if_neg Bool.false_ne_true])
  | ((with_reducible show List.length _ ≤ 1000000 ∧ _); refine ⟨?_, ?_⟩; (focus (simp; done)))
  | fail "no step")
local macro_rules | `(tactic| walk_at "w") => `(tactic| repeat (walk_at "w1"))
local macro_rules | `(tactic| walk_at "ws") => `(tactic| repeat ((fail_if_success (with_reducible show We _ _ (tChain _ _ _ _ _) _ _ _)); (fail_if_success (with_reducible show Wt _ _ (tAnd _ _) _ _ _)); (fail_if_success (with_reducible show We _ _ (tOrT _ _ _) _ _ _)); walk_at "w1"))
local macro_rules | `(tactic| walk_at "wm") => `(tactic| repeat ((fail_if_success (with_reducible show Ws _ _ (tAsg (tLst _) _) _ _ _)); walk_at "w1"))

theorem lt1 (a b : Nat) : ([a] < [b]) ↔ a < b := by
  rw [List.cons_lt_cons_iff]; simp
theorem le_sg {z y : Str} {a b : Nat} {P : D → Prop} (hz : z = ⟨#[a]⟩) (hy : y = ⟨#[b]⟩) (h : P (.bl (decide (a ≤ b)))) : Op K (rLeP K) (.str z) (.str y) P := by
  subst hz hy
  refine leP (d := .str ⟨#[a]⟩) (e := .str ⟨#[b]⟩) rfl rfl rfl (by intro h; cases h) (Nat.zero_le 64) ?_
  rw [PySem.W.dataLt_str]
  rw [show (!decide ((⟨#[b]⟩ : Str).cps.toList < (⟨#[a]⟩ : Str).cps.toList)) = decide (a ≤ b) from by
    rw [show (decide ((⟨#[b]⟩ : Str).cps.toList < (⟨#[a]⟩ : Str).cps.toList)) = decide (b < a) from by rw [decide_eq_decide]; exact lt1 b a]
    by_cases q : a ≤ b
    · rw [decide_eq_true q, decide_eq_false (by omega)]; rfl
    · rw [decide_eq_false q, decide_eq_true (by omega)]; rfl]
  exact h
theorem ord_sg {c : Nat} {P : D → Prop} (h : P (.int (c : Nat))) : Cb K rOrd' [.str ⟨#[c]⟩] P := fun u vs Q ex rs k => by
  obtain ⟨v, rfl, r1⟩ := dens1 rs
  cases den_str r1
  exact ⟨_, rfl, rfl, k _ _ u (.refl ex) (.int _) h⟩
theorem rng_get2 {lo : Int} {n i : Nat} {x : D} (h : (rng lo n)[i]? = some x) : i < n ∧ x = .int (lo + (i : Nat)) := by
  unfold rng at h
  rw [List.getElem?_map] at h
  obtain ⟨j, hj, rfl⟩ := Option.map_eq_some_iff.mp h
  have hl := (List.getElem?_eq_some_iff.mp hj).1
  rw [List.length_range] at hl
  rw [List.getElem?_range hl] at hj
  cases hj
  exact ⟨hl, rfl⟩
theorem len__law_signs : ∀ ds n P X, R__law_signs A ds n P X → ds.length = 1 := by rintro ds n P X ⟨_, rfl, -⟩; rfl
theorem w__law_signs (T : TxtC K A) : ∀ Z ds n P, R__law_signs A ds n P Z.X → Ws K Z (t__law_signs K A) (startD 6 ds) n { nx := fun _ m => P .non m, rt := P } := by
  rintro Z ds n P ⟨a, rfl, hn, h⟩
  unfold t__law_signs
  walk_at "w"
  refine ⟨a, _, rfl, by omega, by omega, by omega, fun r r0 r1 => ?_⟩
  walk_at "w"
  refine iteD (fun z => ?_) (fun z => ?_)
  · walk_at "w"
    refine add_str (by decide +kernel) ?_
    exact h _ _ std_ok (by omega) (by omega)
  · walk_at "w"
    refine ⟨rfl, ?_⟩
    walk_at "w"
    refine ⟨a, _, rfl, by omega, by omega, by omega, fun f f0 f1 => ?_⟩
    walk_at "w"
    refine ⟨a, _, rfl, by omega, by omega, by omega, fun s s0 s1 => ?_⟩
    walk_at "w"
    obtain ⟨f, rfl⟩ := Int.eq_ofNat_of_zero_le f0
    obtain ⟨s, rfl⟩ := Int.eq_ofNat_of_zero_le s0
    refine we_lcmap (fun d => match d with | .int i => .str (mk [(tl fre).getD ((f + (1 + s) * i.toNat) % 89) 0]) | d => d) (wi_range1 ?_)
    walk_at "w"
    refine ⟨64, rfl, ⟨by decide, by decide⟩, by decide +kernel, fun x hx => ?_, ?_⟩
    · obtain ⟨i, hi, rfl⟩ := List.mem_map.mp (show x ∈ (List.range (64 : Int).toNat).map fun (i : Nat) => D.int (0 + (i : Int)) from hx)
      have hi2 := List.mem_range.mp hi
      have hi3 : i < 64 := hi2
      refine wgc_name (by simp) ?_
      walk_at "w"
      rw [Int.zero_add, show ((f : Nat) : Int) + (1 + ((s : Nat) : Int)) * ((i : Nat) : Int) = ((f + (1 + s) * i : Nat) : Int) by simp]
      refine ix_str (c := (tl fre).getD ((f + (1 + s) * i) % 89) 0) (by decide +kernel) (by omega) ?_ ⟨rfl, rfl⟩
      rw [show (((f + (1 + s) * i : Nat) : Int) % 89).toNat = (f + (1 + s) * i) % 89 by omega]
      have hl : (f + (1 + s) * i) % 89 < (tl fre).length := by rw [fre_ok.1]; exact Nat.mod_lt _ (by decide)
      rw [List.getD_eq_getElem?_getD, List.getElem?_eq_getElem hl]
      rfl
    · have e : (rng 0 (64 : Int).toNat).map (fun d => match d with | .int i => D.str (mk [(tl fre).getD ((f + (1 + s) * i.toNat) % 89) 0]) | d => d) = ((rowOf f (1 + s)).map fun c => mk [c]).map D.str := by
        unfold rng rowOf
        rw [List.map_map, List.map_map, List.map_map]
        refine List.map_congr_left fun i _ => ?_
        show D.str (mk [(tl fre).getD ((f + (1 + s) * (0 + (i : Int)).toNat) % 89) 0]) = _
        rw [Int.zero_add, Int.toNat_natCast]
        rfl
      rw [e]
      refine mt_joinD (by rw [sum1, em_is, List.length_map]; show _ + _ * 0 ≤ _; simp [rowOf]) ?_
      have e2 : Txt.join (Str.ofString "") ((rowOf f (1 + s)).map fun c => mk [c]) = mk (rowOf f (1 + s)) := by
        apply TL.ext_tl
        exact (tl_join0 _).trans (flat1 _)
      rw [e2]
      exact h _ _ (row_ok (by omega) (by omega)) (by omega) (by omega)
theorem len__is_row_of_signs : ∀ ds n P X, R__is_row_of_signs A ds n P X → ds.length = 1 := by rintro ds n P X ⟨_, rfl, -⟩; rfl
theorem w__is_row_of_signs (T : TxtC K A) : ∀ Z ds n P, R__is_row_of_signs A ds n P Z.X → Ws K Z (t__is_row_of_signs K A) (startD 2 ds) n { nx := fun _ m => P .non m, rt := P } := by
  rintro Z ds n P ⟨x, rfl, hx, h⟩
  have hl := len_tl x
  have h1 := hx.1
  unfold t__is_row_of_signs
  walk_at "w"
  rw [show decide (((x.length : Nat) : Int) = 64) = true from decide_eq_true (by omega)]
  walk_at "w"
  refine we_lenSet ?_
  walk_at "w"
  refine ⟨?_, by show x.length ≤ 4000; omega, ?_⟩
  · unfold SS2.signsOf
    rw [List.Nodup, List.pairwise_map]
    exact hx.2.1.imp fun hne e => hne (by injection e with e; injection e with e; injection e)
  walk_at "w"
  rw [show decide (((x.cps.size : Nat) : Int) = 64) = true from decide_eq_true (by show ((x.length : Nat) : Int) = 64; omega)]
  walk_at "w"
  refine we_lcmap (fun _ => .bl true) (wi_str ?_)
  walk_at "w"
  refine ⟨by rw [signs_len]; show x.length ≤ _; omega, fun y hy => ?_, ?_⟩
  · obtain ⟨c, hc, rfl⟩ := List.mem_map.mp hy
    obtain ⟨c1, c2, c3⟩ := hx.2.2 c hc
    have c4 : c ≠ 37 ∧ c ∉ (Str.ofString ",;>.'").cps.toList := by
      unfold noSign at c3
      simpa using c3
    refine wgc_name (by simp) ?_
    walk_at "w"
    refine le_sg (a := 32) (b := c) (by decide +kernel) rfl ?_
    rw [decide_eq_true c1]
    walk_at "w"
    refine le_sg (a := c) (b := 126) rfl (by decide +kernel) ?_
    rw [decide_eq_true c2]
    walk_at "w"
    refine ord_sg ?_
    walk_at "w"
    rw [show decide (((c : Nat) : Int) = 37) = false from decide_eq_false (by omega)]
    walk_at "w"
    obtain ⟨u, hu⟩ := T.cv_Alphabet_MARKS
    refine we_cval T.crd_Alphabet hu ?_
    walk_at "w"
    refine ⟨rfl, ?_⟩
    refine nin_sign ?_
    rw [decide_eq_false c4.2]
    exact ⟨rfl, rfl⟩
  · rw [show (signs x).map (fun _ => D.bl true) = ((signs x).map fun _ => true).map D.bl by rw [List.map_map]; rfl]
    walk_at "w"
    refine all_bls ?_
    rw [show ((signs x).map fun _ => true).all id = true by simp]
    exact h
theorem putKD_le (ys : List (Key × D)) (k : Key) (d : D) : (putKD ys k d).length ≤ ys.length + 1 := by
  unfold putKD
  split
  · rw [List.length_map]; omega
  · rw [List.length_append]; exact Nat.le_refl _
theorem valD_app (ys : List (Key × D)) (k k' : Key) (d : D) (h : ys.any (fun p => decide (p.1 = k)) = false) : valD (ys ++ [(k, d)]) k' = if k = k' then some d else valD ys k' := by
  induction ys with
  | nil => rfl
  | cons p r ih =>
    obtain ⟨f, x⟩ := p
    rw [List.any_cons, Bool.or_eq_false_iff] at h
    have q : ¬ f = k := of_decide_eq_false h.1
    show (if f = k' then some x else valD (r ++ [(k, d)]) k') = if k = k' then some d else (if f = k' then some x else valD r k')
    rw [ih h.2]
    by_cases z : f = k'
    · subst z; rw [if_pos rfl, if_neg (fun e => q e.symm), if_pos rfl]
    · rw [if_neg z, if_neg z]
theorem valD_map (ys : List (Key × D)) (k k' : Key) (d : D) (h : k ≠ k' ∨ ys.any (fun p => decide (p.1 = k)) = true) : valD (ys.map fun p => if p.1 = k then (k, d) else p) k' = if k = k' then some d else valD ys k' := by
  induction ys with
  | nil => rcases h with h | h; (rw [if_neg h]; rfl); cases h
  | cons p r ih =>
    obtain ⟨f, x⟩ := p
    rw [List.map_cons]
    show valD ((if f = k then (k, d) else (f, x)) :: r.map fun p => if p.1 = k then (k, d) else p) k' = if k = k' then some d else (if f = k' then some x else valD r k')
    by_cases q : f = k
    · subst q
      rw [if_pos rfl]
      show (if f = k' then some d else valD (r.map fun p => if p.1 = f then (f, d) else p) k') = _
      by_cases z : f = k'
      · rw [if_pos z, if_pos z]
      · rw [if_neg z, if_neg z, if_neg z, ih (.inl z), if_neg z]
    · rw [if_neg q]
      show (if f = k' then some x else valD (r.map fun p => if p.1 = k then (k, d) else p) k') = _
      rw [ih (h.imp id fun a => by rw [List.any_cons] at a; rcases Bool.or_eq_true_iff.mp a with a | a; exact absurd (of_decide_eq_true a) q; exact a)]
      by_cases z : f = k'
      · subst z; rw [if_pos rfl, if_neg (fun e => q e.symm), if_pos rfl]
      · rw [if_neg z, if_neg z]
theorem valD_put (ys : List (Key × D)) (k k' : Key) (d : D) : valD (putKD ys k d) k' = if k = k' then some d else valD ys k' := by
  unfold putKD
  split
  · rename_i h; exact valD_map ys k k' d (.inr h)
  · rename_i h; exact valD_app ys k k' d (Bool.eq_false_iff.mpr h)
theorem len_Alphabet_init : ∀ ds n P X, R_Alphabet_init A ds n P X → ds.length + 1 = 2 := by rintro ds n P X ⟨_, rfl, -⟩; rfl
theorem w_Alphabet_init (T : TxtC K A) : ∀ Z x dx ds n P, R_Alphabet_init A ds n P Z.X → Ws K Z (t_Alphabet_init K A) (some (.mob x dx A.c_Alphabet []) :: startD (4 - 1) ds) n { nx := fun ds' m => m = n ∧ ∃ gs, ds'[0]? = some (some (.mob x dx A.c_Alphabet gs)) ∧ P gs, rt := fun _ _ => False } := by
  rintro Z x dx ds n P ⟨y, rfl, hy, h⟩
  unfold t_Alphabet_init
  walk_at "w"
  refine ⟨_, rfl, hy, ?_⟩
  walk_at "w"
  refine ws_fld rfl T.cl_Alphabet T.na_Alphabet__signs (by decide) ?_
  walk_at "w"
  refine ws_fld rfl T.cl_Alphabet T.na_Alphabet__indexes (Nat.lt_of_le_of_lt (putD_len _ _ _) (by decide)) ?_
  walk_at "w"
  have hl := len_tl y
  have hl1 := hy.1
  refine we_frz (wx_dcP (wi_enumS ?_))
  walk_at "w"
  refine ⟨_, rfl, fun i ys k => k = n ∧ ys.length ≤ i ∧ ∀ j c, j < i → (tl y)[j]? = some c → valD ys (.inr ⟨#[c]⟩) = some (.int (j : Nat)), ⟨rfl, Nat.le_refl _, fun j c hj => absurd hj (Nat.not_lt_zero j)⟩, ?_, ?_⟩
  · rintro i x ys k hx ⟨rfl, hlen, hk⟩
    obtain ⟨d, hd, rfl⟩ := enumD_gett hx
    unfold signs at hd
    rw [List.getElem?_map] at hd
    obtain ⟨c, hc, rfl⟩ := Option.map_eq_some_iff.mp hd
    have hi := (List.getElem?_eq_some_iff.mp hc).1
    have hi2 : i < (tl y).length := hi
    refine wgc_tup rfl rfl (wgsc_cons rfl (wgc_name (by simp) (wgsc_cons rfl (wgc_name (by simp) (wgsc_nil rfl ?_)))))
    walk_at "w"
    refine ⟨by omega, .inr ⟨#[c]⟩, rfl, rfl, Nat.le_trans (putKD_le _ _ _) (by omega), fun j c2 hj h2 => ?_⟩
    rw [valD_put]
    by_cases e : c = c2
    · subst e
      have e4 : j = i := by
        obtain ⟨hj2, e5⟩ := List.getElem?_eq_some_iff.mp h2
        obtain ⟨_, e6⟩ := List.getElem?_eq_some_iff.mp hc
        exact (List.getElem_inj hy.2.1).mp (e5.trans e6.symm)
      subst e4
      rw [if_pos rfl]
    · rw [if_neg (fun z => e (by injection z with z; injection z with z; injection z with z; injection z))]
      refine hk j c2 ?_ h2
      by_cases z : j = i
      · subst z
        exact absurd (Option.some.inj ((show (tl y)[j]? = some c from hc).symm.trans h2)) e
      · omega
  · rintro ys k ⟨rfl, hl3, hk⟩
    refine ⟨ys, rfl, rfl, _, rfl, h ys fun i c hc => hk i c ?_ hc⟩
    have := (List.getElem?_eq_some_iff.mp hc).1
    show i < (enumD (signs y)).length
    rw [enumD_len]
    unfold signs
    rw [List.length_map]
    exact this
end
end Lw

namespace Lw
open PySem L2 StX DL
def nxt (e : Ev) : Nat := if e.2 < 32 then 0 else made e
def Ch (L : Nat) : Nat → List Ev → Prop
  | b, [] => b = 0
  | b, e :: r => e.1 = b ∧ okEv L e ∧ Ch L (nxt e) r
def outs (l : List Ev) : List Nat := l.filterMap fun e => if e.2 < 32 then some (made e) else none
def evss (ns : List Nat) : List Ev := (ns.map evs).flatten
theorem evU_eq (r : Nat) (acc : List Ev) : evU r acc = if r = 0 then acc else evU (r / 32) ((r / 32, 32 + r % 32) :: acc) := by
  rw [evU]
  by_cases h : r = 0
  · rw [dif_pos h, if_pos h]
  · rw [dif_neg h, if_neg h]
theorem evU_app (r : Nat) : ∀ acc rest, evU r (acc ++ rest) = evU r acc ++ rest := by
  induction r using Nat.strongRecOn with
  | _ r ih =>
    intro acc rest
    rw [evU_eq, evU_eq r acc]
    by_cases h : r = 0
    · rw [if_pos h, if_pos h]
    · rw [if_neg h, if_neg h, ← ih (r / 32) (Nat.div_lt_self (Nat.pos_of_ne_zero h) (by decide))]
      rfl
theorem evU_ch {L : Nat} (r : Nat) : ∀ acc, Ch L r acc → 32 * r ≤ L → Ch L 0 (evU r acc) := by
  induction r using Nat.strongRecOn with
  | _ r ih =>
    intro acc hc hl
    rw [evU_eq]
    by_cases h : r = 0
    · subst h; rw [if_pos rfl]; exact hc
    · rw [if_neg h]
      have hm : made (r / 32, 32 + r % 32) = r := by unfold made; dsimp only; omega
      have hn : nxt (r / 32, 32 + r % 32) = r := by unfold nxt; rw [if_neg (by dsimp only; omega)]; exact hm
      refine ih (r / 32) (Nat.div_lt_self (Nat.pos_of_ne_zero h) (by decide)) _ ⟨rfl, ⟨by dsimp only; omega, fun z => absurd z (by dsimp only; omega), fun _ => by rw [hm]; exact ⟨h, hl⟩⟩, by rw [hn]; exact hc⟩ (by omega)
theorem ch_evs {L n : Nat} (rest : List Ev) (h : n ≤ L) (hc : Ch L 0 rest) : Ch L 0 (evs n ++ rest) := by
  unfold evs
  rw [← evU_app]
  have hm : made (n / 32, n % 32) = n := by unfold made; dsimp only; omega
  have hn : nxt (n / 32, n % 32) = 0 := by unfold nxt; rw [if_pos (by dsimp only; omega)]
  refine evU_ch _ _ ⟨rfl, ⟨by dsimp only; omega, fun _ => by rw [hm]; exact h, fun z => absurd z (by dsimp only; omega)⟩, by rw [hn]; exact hc⟩ (by omega)
theorem ch_evss {L : Nat} : ∀ {ns : List Nat}, (∀ n ∈ ns, n ≤ L) → Ch L 0 (evss ns)
  | [], _ => rfl
  | n :: ns, h => ch_evs _ (h n (by simp)) (ch_evss fun m hm => h m (by simp [hm]))
theorem outs_app (a b : List Ev) : outs (a ++ b) = outs a ++ outs b := List.filterMap_append
theorem outs_U (r : Nat) : ∀ acc, outs (evU r acc) = outs acc := by
  induction r using Nat.strongRecOn with
  | _ r ih =>
    intro acc
    rw [evU_eq]
    by_cases h : r = 0
    · rw [if_pos h]
    · rw [if_neg h, ih (r / 32) (Nat.div_lt_self (Nat.pos_of_ne_zero h) (by decide))]
      unfold outs
      rw [List.filterMap_cons_none]
      rw [if_neg (by dsimp only; omega)]
theorem outs_evs (n : Nat) : outs (evs n) = [n] := by
  unfold evs
  rw [outs_U]
  unfold outs
  rw [List.filterMap_cons_some (b := n)]
  · rfl
  · rw [if_pos (by dsimp only; omega)]
    unfold made
    congr 1
    dsimp only; omega
theorem outs_evss : ∀ ns, outs (evss ns) = ns
  | [] => rfl
  | n :: ns => by
    show outs (evs n ++ evss ns) = _
    rw [outs_app, outs_evs, outs_evss ns]; rfl
theorem up_ev (s : List Nat) (r : Nat) : ∀ acc : List Ev, (evU r acc).map (fun e => s.getD e.2 0) = up s r (acc.map fun e => s.getD e.2 0) := by
  induction r using Nat.strongRecOn with
  | _ r ih =>
    intro acc
    rw [evU_eq, up]
    by_cases h : r = 0
    · rw [if_pos h, dif_pos h]
    · rw [if_neg h, dif_neg h, ih (r / 32) (Nat.div_lt_self (Nat.pos_of_ne_zero h) (by decide))]
      rfl
theorem tl_cd (x : Str) (n : Nat) : tl (cdO x n) = (evs n).map fun e => (tl x).getD e.2 0 := by
  show up (tl x) (n / 32) [(tl x).getD (n % 32) 0] = _
  unfold evs
  rw [up_ev]; rfl
theorem tl_tx (x : Str) (ns : List Nat) : tl (txO x ns) = (evss ns).map fun e => (tl x).getD e.2 0 := by
  show (ns.map fun n => tl (cdO x n)).flatten = _
  unfold evss
  rw [List.map_flatten, List.map_map]
  congr 1
  exact List.map_congr_left fun n _ => tl_cd x n
theorem evU_le : ∀ (d r : Nat) (acc : List Ev), r < 32 ^ d → (evU r acc).length ≤ acc.length + d
  | 0, r, acc, h => by
    have : r = 0 := by simpa using h
    rw [evU_eq, if_pos this]
    exact Nat.le_refl _
  | d + 1, r, acc, h => by
    rw [evU_eq]
    split
    · omega
    · have := evU_le d (r / 32) ((r / 32, 32 + r % 32) :: acc) (Nat.div_lt_of_lt_mul (by rw [Nat.pow_succ, Nat.mul_comm] at h; exact h))
      rw [List.length_cons] at this
      omega
theorem evs_le {n : Nat} (h : n ≤ 1000000000000) : (evs n).length ≤ 8 := evU_le 7 _ _ (by omega)
theorem evss_le : ∀ {ns : List Nat}, (∀ n ∈ ns, n ≤ 1000000000000) → (evss ns).length ≤ 8 * ns.length
  | [], _ => Nat.le_refl _
  | n :: ns, h => by
    show (evs n ++ evss ns).length ≤ _
    rw [List.length_append, List.length_cons]
    have := evs_le (h n (by simp))
    have := evss_le (ns := ns) fun m hm => h m (by simp [hm])
    omega
theorem outs_le (l : List Ev) : (outs l).length ≤ l.length := List.length_filterMap_le _ _
/-- where a code begins with another, they are one number's -/
theorem ch_det {L : Nat} {s : List Nat} (hs : s.Nodup) (hl : s.length = 64) : ∀ (b : Nat) (l1 l2 : List Ev), Ch L b l1 → Ch L b l2 → (l1.map fun e => s.getD e.2 0) = (l2.map fun e => s.getD e.2 0).take l1.length → l1 = l2.take l1.length
  | _, [], _, _, _, _ => by simp
  | _, _ :: _, [], _, _, h => by simp at h
  | b, e :: l1, f :: l2, ⟨a1, a2, a3⟩, ⟨b1, b2, b3⟩, h => by
    simp only [List.map_cons, List.length_cons, List.take_succ_cons, List.cons.injEq] at h
    have e2 : e.2 = f.2 := by
      have p := a2.1
      have q := b2.1
      have h1 := h.1
      rw [List.getD_eq_getElem?_getD, List.getD_eq_getElem?_getD, List.getElem?_eq_getElem (show e.2 < s.length by omega), List.getElem?_eq_getElem (show f.2 < s.length by omega)] at h1
      exact (List.getElem_inj hs).mp h1
    have ef : e = f := Prod.ext (a1.trans b1.symm) e2
    subst ef
    rw [List.length_cons, List.take_succ_cons, ← ch_det hs hl _ l1 l2 a3 b3 h.2]
/-- no number's code is the beginning of another's -/
theorem cd_pre {x : Str} (hx : (tl x).Nodup) (h64 : (tl x).length = 64) {m n : Nat} (h : tl (cdO x m) = (tl (cdO x n)).take (tl (cdO x m)).length) : m = n := by
  have cm := ch_evs (L := m + n) (n := m) [] (by omega) rfl
  have cn := ch_evs (L := m + n) (n := n) [] (by omega) rfl
  rw [List.append_nil] at cm cn
  rw [tl_cd, tl_cd, List.length_map] at h
  have e := ch_det hx h64 0 _ _ cm cn h
  have o := congrArg outs e
  have os : outs (evs n) = outs ((evs n).take (evs m).length) ++ outs ((evs n).drop (evs m).length) := by rw [← outs_app, List.take_append_drop]
  rw [← o, outs_evs, outs_evs] at os
  have := congrArg (fun l : List Nat => l.head?) os
  simpa using this.symm
end Lw

namespace Lw
open PySem L2 StX DL
section
variable {K : PySem.W.Frag} [Tb K] {Z : ZX} {A : Ad}
/-- one step -/
local macro_rules | `(tactic| walk_at "w1") => `(tactic| first
  | with_reducible refine ws_seq ?_
  | with_reducible refine ws_if ?_
  | with_reducible refine ws_ret ?_
  | ((fail_if_success (with_reducible show Ws _ _ (tDrop (tBM _ _ _ _ _)) _ _ _)); (with_reducible refine ws_drop ?_))
  | with_reducible refine ws_next ?_
  | with_reducible refine ws_par ?_
  | ((fail_if_success (with_reducible show Ws _ _ (tAsg _ (gSub _ _ _)) _ _ _)); (with_reducible refine ws_asg ?_))
  | with_reducible refine wg_name ?_
  | with_reducible refine we_int ?_
  | with_reducible refine we_bl ?_
  | with_reducible refine we_non ?_
  | with_reducible refine we_str ?_
  | with_reducible refine we_ty ?_
  | with_reducible refine we_cls ?_
  | with_reducible refine ws_par3 ?_
  | ((with_reducible show We _ _ (tVar _) _ _ _); refine we_var rfl rfl ?_)
  | ((with_reducible show We _ _ (tVar _) _ _ _); refine we_var rfl (mut_oP _) ?_)
  | with_reducible refine we_rep ?_
  | with_reducible refine we_op ?_
  | with_reducible refine we_un ?_
  | with_reducible refine we_cb ?_
  | with_reducible refine we_callX ?_
  | with_reducible refine we_call ?_
  | with_reducible refine we_callNX ?_
  | with_reducible refine we_callN ?_
  | with_reducible refine we_methN ?_
  | with_reducible refine we_callON ?_
  | with_reducible refine we_callOX ?_
  | with_reducible refine we_exf ?_
  | with_reducible refine we_dnew ?_
  | with_reducible refine ws_raise ?_
  | with_reducible refine we_tup ?_
  | with_reducible refine we_lst ?_
  | with_reducible refine we_sl ?_
  | with_reducible refine we_m1 ?_
  | with_reducible refine we_andV ?_
  | with_reducible refine we_orV ?_
  | with_reducible refine we_notV ?_
  | with_reducible refine we_if ?_
  | with_reducible refine we_chain ?_
  | with_reducible refine we_fld ?_
  | with_reducible refine we_methX ?_
  | with_reducible refine we_meth ?_
  | with_reducible refine we_prop ?_
  | with_reducible refine we_callO' ?_
  | with_reducible refine we_makeX ?_
  | with_reducible refine we_make ?_
  | with_reducible refine wt_test ?_
  | with_reducible refine wt_B ?_
  | with_reducible refine wt_yes ?_
  | with_reducible refine wt_and ?_
  | with_reducible refine wt_or ?_
  | with_reducible refine wt_not ?_
  | with_reducible refine wa_nil ?_
  | with_reducible refine wa_cons ?_
  | with_reducible refine wo_none ?_
  | with_reducible refine wo_some ?_
  | with_reducible refine add_int ?_
  | with_reducible refine sub_int ?_
  | with_reducible refine neg_int ?_
  | ((with_reducible refine mod_int ?_ ?_); (focus (first | assumption | omega)))
  | ((with_reducible refine mul_int ?_ ?_); (focus (first | exact Or.inl ⟨by omega, by omega⟩ | exact Or.inr ⟨by omega, by omega⟩)))
  | ((with_reducible refine fdiv_int ?_ ?_); (focus (exact ⟨by omega, by omega⟩)))
  | ((with_reducible refine pow_int ?_ ?_); (focus (exact ⟨by decide, by decide, by decide⟩)))
  | with_reducible refine is_non ?_
  | with_reducible refine not_non ?_
  | with_reducible refine eq_int ?_
  | with_reducible refine ne_int ?_
  | with_reducible refine eq_pos ?_
  | with_reducible refine ne_pos ?_
  | with_reducible refine ne_oPs ?_
  | with_reducible refine ne_nn ?_
  | with_reducible refine ne_np ?_
  | with_reducible refine ne_pn ?_
  | with_reducible refine eq_str ?_
  | with_reducible refine ne_str ?_
  | with_reducible refine eq_bl ?_
  | with_reducible refine ne_bl ?_
  | with_reducible refine lt_int ?_
  | with_reducible refine gt_int ?_
  | with_reducible refine le_int ?_
  | with_reducible refine ge_int ?_
  | with_reducible refine lt_pos ?_
  | with_reducible refine gt_pos ?_
  | with_reducible refine le_pos ?_
  | with_reducible refine ge_pos ?_
  | with_reducible refine int_int ?_
  | with_reducible refine min_int ?_
  | with_reducible refine max_int ?_
  | with_reducible refine len_lst ?_
  | with_reducible refine len_tup ?_
  | ((with_reducible refine len_take ?_ ?_ ?_); (focus (first | assumption | omega)); (focus (first | assumption | omega)))
  | ((with_reducible refine len_str ?_ ?_); (focus (first | assumption | omega)))
  | with_reducible refine tuple_lst ?_
  | with_reducible refine tuple_tup ?_
  | ((with_reducible refine sl_to ?_ ?_ ?_); (focus (first | assumption | omega)); (focus (first | assumption | omega)))
  | ((with_reducible refine sl_from ?_ ?_ ?_); (focus (first | assumption | omega)); (focus (first | assumption | omega)))
  | ((with_reducible refine sl_mid ?_ ?_ ?_ ?_); (focus (first | assumption | omega)); (focus (first | assumption | omega)); (focus (first | assumption | omega)))
  | with_reducible refine sl_lst ?_
  | with_reducible refine sl_tup ?_
  | ((with_reducible refine sl_str ?_ ?_); (focus (first | assumption | omega)))
  | with_reducible refine mt_nl ?_
  | with_reducible refine mt_countD ?_
  | with_reducible refine mt_rfindD ?_
  | ((with_reducible refine mt_splitnl ?_ ?_); (focus (first | assumption | omega)))
  | ((with_reducible refine mt_splitD ?_ ?_ ?_); (focus rfl); (focus (first | assumption | omega)))
  | ((with_reducible show Op _ (rIx _) (D.tup _) (D.int _) _); refine ix_tup (by decide) rfl ?_)
  | ((with_reducible show Op _ (rIx _) (D.lst _) (D.int _) _); refine ix_lst (n := 0) (by decide) rfl ?_)
  | ((with_reducible show Cb _ (rIsi _) [D.int _, D.ty _] _); first | refine isiI (r := true) (by decide +kernel) ?_ | refine isiI (r := false) (by decide +kernel) ?_)
  | ((with_reducible show Cb _ (rIsi _) [D.str _, D.ty _] _); first | refine isiS (r := true) (by decide +kernel) ?_ | refine isiS (r := false) (by decide +kernel) ?_)
  | ((with_reducible show Cb _ (rIsi _) [D.tup _, D.ty _] _); first | refine isiT (r := true) (by decide +kernel) ?_ | refine isiT (r := false) (by decide +kernel) ?_)
  | ((with_reducible show Wg _ _ (gTup _ _ _) _ _ _); refine wg_tup rfl rfl ?_)
  | ((with_reducible show Wgs _ _ gNil _ _ _); refine wgs_nil rfl ?_)
  | ((with_reducible show Wgs _ _ (gCons _ _) _ _ _); refine wgs_cons rfl ?_)
  | ((with_reducible show ∃ _, D.bl _ = D.bl _ ∧ _); refine ⟨_, rfl, ?_⟩)
  | ((with_reducible show ∃ _, D.int _ = D.int _ ∧ _); refine ⟨_, rfl, ?_⟩)
  | ((with_reducible show ∃ _, D.str _ = D.str _ ∧ _); refine ⟨_, rfl, ?_⟩)
  | ((with_reducible show ∃ _, D.tup _ = D.tup _ ∧ _); refine ⟨_, rfl, ?_⟩)
  | ((with_reducible show ∃ _, D.lst _ = D.lst _ ∧ _); refine ⟨_, rfl, ?_⟩)
  | with_reducible refine iteNT ?_
  | with_reducible refine iteNF ?_
  | ((with_reducible show if true = true then _ else _); rw [if_pos rfl])
  | ((with_reducible show if false = true then _ else _); rw [if_neg Bool.false_ne_true])
  | ((with_reducible show List.length _ ≤ 1000000 ∧ _); refine ⟨?_, ?_⟩; (focus (simp; done)))
  | fail "no step")
local macro_rules | `(tactic| walk_at "w") => `(tactic| repeat (walk_at "w1"))
local macro_rules | `(tactic| walk_at "ws") => `(tactic| repeat ((fail_if_success (with_reducible show We _ _ (tChain _ _ _ _ _) _ _ _)); (fail_if_success (with_reducible show Wt _ _ (tAnd _ _) _ _ _)); (fail_if_success (with_reducible show We _ _ (tOrT _ _ _) _ _ _)); walk_at "w1"))
local macro_rules | `(tactic| walk_at "wm") => `(tactic| repeat ((fail_if_success (with_reducible show Ws _ _ (tAsg (tLst _) _) _ _ _)); walk_at "w1"))

theorem len_check_text : ∀ ds n P X, R_check_text A ds n P X → ds.length = 1 := by rintro ds n P X ⟨_, rfl, -⟩; rfl
theorem w_check_text (T : TxtC K A) : ∀ Z ds n P, R_check_text A ds n P Z.X → Ws K Z (t_check_text K A) (startD 1 ds) n { nx := fun _ m => P .non m, rt := P } := by
  rintro Z ds n P ⟨x, rfl, h⟩
  unfold t_check_text
  walk_at "w"
  exact h
theorem len_digit_fits : ∀ ds n P X, R_digit_fits A ds n P X → ds.length = 4 := by rintro ds n P X ⟨_, _, _, rfl, -⟩; rfl
theorem w_digit_fits (T : TxtC K A) : ∀ Z ds n P, R_digit_fits A ds n P Z.X → Ws K Z (t_digit_fits K A) (startD 6 ds) n { nx := fun _ m => P .non m, rt := P } := by
  rintro Z ds n P ⟨b, i, L, rfl, ⟨h64, hlt, hge⟩, hL, h⟩
  simp only [made] at h64 hlt hge
  have hb : 32 * b + i % 32 ≤ 1000000000000 := by
    rcases Nat.lt_or_ge i 32 with z | z
    · have := hlt z; omega
    · have := (hge z).2; omega
  unfold t_digit_fits
  walk_at "w"
  refine and31 ?_
  walk_at "w"
  refine iteD (fun z => ?_) (fun z => ?_)
  · have hz : i < 32 := by omega
    have h1 := hlt hz
    walk_at "w"
    refine wt_tru ?_
    walk_at "w"
    refine and1 ?_
    refine ⟨_, rfl, ?_⟩
    split
    · walk_at "w"
      rw [decide_eq_true (by omega)]
      exact h
    · walk_at "w"
      rw [decide_eq_true (by omega)]
      exact h
  · have hz : 32 ≤ i := by omega
    obtain ⟨h1, h2⟩ := hge hz
    walk_at "w"
    refine iteD (fun y => absurd y (by omega)) (fun y => ?_)
    walk_at "w"
    rw [decide_eq_true (by omega)]
    exact h
theorem len_Alphabet_read : ∀ ds n P X, R_Alphabet_read A ds n P X → ds.length = 3 := by rintro ds n P X ⟨_, _, _, _, rfl, -⟩; rfl
theorem w_Alphabet_read (T : TxtC K A) : ∀ Z ds n P, R_Alphabet_read A ds n P Z.X → Ws K Z (t_Alphabet_read K A) (startD 9 ds) n { nx := fun _ m => P .non m, rt := P } := by
  rintro Z ds n P ⟨x, e, ns, L, rfl, hx, he, hns, hL, hle, h⟩
  have hEl : (evss ns).length ≤ 8 * ns.length := evss_le fun m hm => Nat.le_trans (hle m hm) hL
  have hch := ch_evss (L := L) hle
  have hxl := hx.1
  have htl : (tl (txO x ns)).length = (evss ns).length := by rw [tl_tx, List.length_map]
  have hlen := len_tl (txO x ns)
  unfold t_Alphabet_read
  walk_at "wm"
  refine ws_newlist ?_
  walk_at "w"
  refine ws_for (wi_enumS ?_)
  walk_at "w"
  refine ⟨_, rfl, fun i ds' k => k = n ∧ ∃ l1 l2 b p q r, evss ns = l1 ++ l2 ∧ l1.length = i ∧ Ch L b l2 ∧ ds' = [some (alD A x e), some (.str (txO x ns)), some (.int (L : Nat)), some (.mls ((outs l1).map fun (m : Nat) => D.int (m : Int))), some (.int (b : Nat)), some (.bl (decide (b ≠ 0))), p, q, r], ⟨rfl, [], evss ns, 0, none, none, none, rfl, rfl, hch, rfl⟩, ?_, ?_⟩
  · rintro i y ds' k hy ⟨rfl, l1, l2, b, p, q, r, hs, hi, hc, rfl⟩
    obtain ⟨d, hd, rfl⟩ := enumD_gett hy
    unfold signs at hd
    rw [List.getElem?_map] at hd
    obtain ⟨c, hc1, rfl⟩ := Option.map_eq_some_iff.mp hd
    rw [show (txO x ns).cps.toList = (evss ns).map (fun e => (tl x).getD e.2 0) from tl_tx x ns, List.getElem?_map] at hc1
    obtain ⟨ev, hev, rfl⟩ := Option.map_eq_some_iff.mp hc1
    rw [hs, List.getElem?_append_right (by omega), hi, Nat.sub_self] at hev
    cases l2 with
    | nil => cases hev
    | cons f l2 =>
    have hfe : f = ev := Option.some.inj hev
    subst hfe
    obtain ⟨rfl, ⟨h64, hlt, hge⟩, hc3⟩ := hc
    have hcc : (tl x)[f.2]? = some ((tl x).getD f.2 0) := by rw [List.getD_eq_getElem?_getD, List.getElem?_eq_getElem (show f.2 < (tl x).length by omega)]; rfl
    have hv := he f.2 _ hcc
    have ho : outs (l1 ++ [f]) = outs l1 ++ outs [f] := outs_app _ _
    have hol := outs_le l1
    have hl1 : l1.length + 1 ≤ 8 * ns.length := by have := congrArg List.length hs; rw [List.length_append, List.length_cons] at this; omega
    have hmade : made f = 32 * f.1 + f.2 % 32 := rfl
    have hb : made f ≤ 1000000000000 := by
      rcases Nat.lt_or_ge f.2 32 with z | z
      · have := hlt z; omega
      · have := (hge z).2; omega
    walk_at "w"
    refine we_dget1F ?_
    walk_at "w"
    refine ⟨_, _, _, rfl, T.cl_Alphabet, T.na_Alphabet__indexes, rfl, ?_⟩
    refine ⟨_, rfl, ?_⟩
    walk_at "w"
    refine ⟨_, rfl, ?_⟩
    rw [hv]
    rw [Option.getD_some]
    walk_at "w"
    rw [show isNonD (D.int (f.2 : Nat)) = false from rfl]
    walk_at "w"
    refine ⟨_, _, _, rfl, ⟨h64, hlt, hge⟩, hL, ?_⟩
    walk_at "w"
    refine and31 ?_
    walk_at "w"
    refine wt_tru ?_
    walk_at "w"
    rw [show (32 : Int) * (f.1 : Nat) + ((f.2 : Nat) : Int) % 32 = ((made f : Nat) : Int) by rw [hmade]; omega]
    refine ⟨_, rfl, ?_⟩
    by_cases z : f.2 < 32
    · rw [decide_eq_false (show ¬ (32 : Int) ≤ ((f.2 : Nat) : Int) by omega)]
      walk_at "w"
      refine ws_append rfl (by rw [List.length_map]; omega) ?_
      walk_at "w"
      have hn : nxt f = 0 := by unfold nxt; rw [if_pos z]
      rw [hn] at hc3
      refine ⟨rfl, l1 ++ [f], l2, 0, some (.int (i : Nat)), some (.str ⟨#[(tl x).getD f.2 0]⟩), some (.int (f.2 : Nat)), by rw [hs, List.append_assoc]; rfl, by rw [List.length_append, hi]; rfl, hc3, ?_⟩
      rw [ho, show outs [f] = [made f] by unfold outs; rw [List.filterMap_cons_some (b := made f) (by rw [if_pos z])]; rfl, List.map_append]
      rfl
    · rw [decide_eq_true (show (32 : Int) ≤ ((f.2 : Nat) : Int) by omega)]
      walk_at "w"
      have hn : nxt f = made f := by unfold nxt; rw [if_neg z]
      rw [hn] at hc3
      refine ⟨rfl, l1 ++ [f], l2, made f, some (.int (i : Nat)), some (.str ⟨#[(tl x).getD f.2 0]⟩), some (.int (f.2 : Nat)), by rw [hs, List.append_assoc]; rfl, by rw [List.length_append, hi]; rfl, hc3, ?_⟩
      rw [ho, show outs [f] = [] by unfold outs; rw [List.filterMap_cons_none (by rw [if_neg z])]; rfl, List.append_nil, decide_eq_true (hge (by omega)).1]
      rfl
  · rintro ds' k ⟨rfl, l1, l2, b, p, q, r, hs, hi, hc, rfl⟩
    have h2 : l2 = [] := by
      have hl := congrArg List.length hs
      rw [List.length_append] at hl
      have e1 : l1.length = (evss ns).length := by
        rw [hi, enumD_len]
        unfold signs
        rw [List.length_map]
        exact htl
      exact List.eq_nil_of_length_eq_zero (by omega)
    subst h2
    obtain rfl : b = 0 := hc
    rw [List.append_nil] at hs
    rw [← hs, outs_evss]
    refine ws_settle (i := 3) rfl ?_
    walk_at "w"
    refine wt_tru ?_
    walk_at "w"
    refine ⟨_, rfl, ?_⟩
    rw [show decide ((0 : Nat) ≠ 0) = false from rfl]
    walk_at "w"
    exact h
end
end Lw

namespace Lw
open PySem L2 StX DL
section
variable {K : PySem.W.Frag} [Tb K] {Z : ZX} {A : Ad}
/-- one step -/
local macro_rules | `(tactic| walk_at "w1") => `(tactic| first
  | with_reducible refine ws_seq ?_
  | with_reducible refine ws_if ?_
  | with_reducible refine ws_ret ?_
  | ((fail_if_success (with_reducible show Ws _ _ (tDrop (tBM _ _ _ _ _)) _ _ _)); (with_reducible refine ws_drop ?_))
  | with_reducible refine ws_next ?_
  | with_reducible refine ws_par ?_
  | ((fail_if_success (with_reducible show Ws _ _ (tAsg _ (gSub _ _ _)) _ _ _)); (with_reducible refine ws_asg ?_))
  | with_reducible refine wg_name ?_
  | with_reducible refine we_int ?_
  | with_reducible refine we_bl ?_
  | with_reducible refine we_non ?_
  | with_reducible refine we_str ?_
  | with_reducible refine we_ty ?_
  | with_reducible refine we_cls ?_
  | with_reducible refine ws_par3 ?_
  | ((with_reducible show We _ _ (tVar _) _ _ _); refine we_var rfl rfl ?_)
  | ((with_reducible show We _ _ (tVar _) _ _ _); refine we_var rfl (mut_oP _) ?_)
  | with_reducible refine we_rep ?_
  | with_reducible refine we_op ?_
  | with_reducible refine we_un ?_
  | with_reducible refine we_cb ?_
  | with_reducible refine we_callX ?_
  | with_reducible refine we_call ?_
  | with_reducible refine we_callNX ?_
  | with_reducible refine we_callN ?_
  | with_reducible refine we_methN ?_
  | with_reducible refine we_callON ?_
  | with_reducible refine we_callOX ?_
  | with_reducible refine we_exf ?_
  | with_reducible refine we_dnew ?_
  | with_reducible refine ws_raise ?_
  | with_reducible refine we_tup ?_
  | with_reducible refine we_lst ?_
  | with_reducible refine we_sl ?_
  | with_reducible refine we_m1 ?_
  | with_reducible refine we_andV ?_
  | with_reducible refine we_orV ?_
  | with_reducible refine we_notV ?_
  | with_reducible refine we_if ?_
  | with_reducible refine we_chain ?_
  | with_reducible refine we_fld ?_
  | with_reducible refine we_methX ?_
  | with_reducible refine we_meth ?_
  | with_reducible refine we_prop ?_
  | with_reducible refine we_callO' ?_
  | with_reducible refine we_makeX ?_
  | with_reducible refine we_make ?_
  | with_reducible refine wt_test ?_
  | with_reducible refine wt_B ?_
  | with_reducible refine wt_yes ?_
  | with_reducible refine wt_and ?_
  | with_reducible refine wt_or ?_
  | with_reducible refine wt_not ?_
  | with_reducible refine wa_nil ?_
  | with_reducible refine wa_cons ?_
  | with_reducible refine wo_none ?_
  | with_reducible refine wo_some ?_
  | with_reducible refine add_int ?_
  | with_reducible refine sub_int ?_
  | with_reducible refine neg_int ?_
  | ((with_reducible refine mod_int ?_ ?_); (focus (first | assumption | omega)))
  | ((with_reducible refine mul_int ?_ ?_); (focus (first | exact Or.inl ⟨by omega, by omega⟩ | exact Or.inr ⟨by omega, by omega⟩)))
  | ((with_reducible refine fdiv_int ?_ ?_); (focus (exact ⟨by omega, by omega⟩)))
  | ((with_reducible refine pow_int ?_ ?_); (focus (exact ⟨by decide, by decide, by decide⟩)))
  | with_reducible refine is_non ?_
  | with_reducible refine not_non ?_
  | with_reducible refine eq_int ?_
  | with_reducible refine ne_int ?_
  | with_reducible refine eq_pos ?_
  | with_reducible refine ne_pos ?_
  | with_reducible refine ne_oPs ?_
  | with_reducible refine ne_nn ?_
  | with_reducible refine ne_np ?_
  | with_reducible refine ne_pn ?_
  | with_reducible refine eq_str ?_
  | with_reducible refine ne_str ?_
  | with_reducible refine eq_bl ?_
  | with_reducible refine ne_bl ?_
  | with_reducible refine lt_int ?_
  | with_reducible refine gt_int ?_
  | with_reducible refine le_int ?_
  | with_reducible refine ge_int ?_
  | with_reducible refine lt_pos ?_
  | with_reducible refine gt_pos ?_
  | with_reducible refine le_pos ?_
  | with_reducible refine ge_pos ?_
  | with_reducible refine int_int ?_
  | with_reducible refine min_int ?_
  | with_reducible refine max_int ?_
  | with_reducible refine len_lst ?_
  | with_reducible refine len_tup ?_
  | ((with_reducible refine len_take ?_ ?_ ?_); (focus (first | assumption | omega)); (focus (first | assumption | omega)))
  | ((with_reducible refine len_str ?_ ?_); (focus (first | assumption | omega)))
  | with_reducible refine tuple_lst ?_
  | with_reducible refine tuple_tup ?_
  | ((with_reducible refine sl_to ?_ ?_ ?_); (focus (first | assumption | omega)); (focus (first | assumption | omega)))
  | ((with_reducible refine sl_from ?_ ?_ ?_); (focus (first | assumption | omega)); (focus (first | assumption | omega)))
  | ((with_reducible refine sl_mid ?_ ?_ ?_ ?_); (focus (first | assumption | omega)); (focus (first | assumption | omega)); (focus (first | assumption | omega)))
  | with_reducible refine sl_lst ?_
  | with_reducible refine sl_tup ?_
  | ((with_reducible refine sl_str ?_ ?_); (focus (first | assumption | omega)))
  | with_reducible refine mt_nl ?_
  | with_reducible refine mt_countD ?_
  | with_reducible refine mt_rfindD ?_
  | ((with_reducible refine mt_splitnl ?_ ?_); (focus (first | assumption | omega)))
  | ((with_reducible refine mt_splitD ?_ ?_ ?_); (focus rfl); (focus (first | assumption | omega)))
  | ((with_reducible show Op _ (rIx _) (D.tup _) (D.int _) _); refine ix_tup (by decide) rfl ?_)
  | ((with_reducible show Op _ (rIx _) (D.lst _) (D.int _) _); refine ix_lst (n := 0) (by decide) rfl ?_)
  | ((with_reducible show Cb _ (rIsi _) [D.int _, D.ty _] _); first | refine isiI (r := true) (by decide +kernel) ?_ | refine isiI (r := false) (by decide +kernel) ?_)
  | ((with_reducible show Cb _ (rIsi _) [D.str _, D.ty _] _); first | refine isiS (r := true) (by decide +kernel) ?_ | refine isiS (r := false) (by decide +kernel) ?_)
  | ((with_reducible show Cb _ (rIsi _) [D.tup _, D.ty _] _); first | refine isiT (r := true) (by decide +kernel) ?_ | refine isiT (r := false) (by decide +kernel) ?_)
  | ((with_reducible show Wg _ _ (gTup _ _ _) _ _ _); refine wg_tup rfl rfl ?_)
  | ((with_reducible show Wgs _ _ gNil _ _ _); refine wgs_nil rfl ?_)
  | ((with_reducible show Wgs _ _ (gCons _ _) _ _ _); refine wgs_cons rfl ?_)
  | ((with_reducible show ∃ _, D.bl _ = D.bl _ ∧ _); refine ⟨_, rfl, ?_⟩)
  | ((with_reducible show ∃ _, D.int _ = D.int _ ∧ _); refine ⟨_, rfl, ?_⟩)
  | ((with_reducible show ∃ _, D.str _ = D.str _ ∧ _); refine ⟨_, rfl, ?_⟩)
  | ((with_reducible show ∃ _, D.tup _ = D.tup _ ∧ _); refine ⟨_, rfl, ?_⟩)
  | ((with_reducible show ∃ _, D.lst _ = D.lst _ ∧ _); refine ⟨_, rfl, ?_⟩)
  | with_reducible refine iteNT ?_
  | with_reducible refine iteNF ?_
  | ((with_reducible show if true = true then _ else _); rw [if_pos rfl])
  | ((with_reducible show if false = true then _ else _); rw [if_neg Bool.false_ne_true])
  | ((with_reducible show List.length _ ≤ 1000000 ∧ _); refine ⟨?_, ?_⟩; (focus (simp; done)))
  | fail "no step")
local macro_rules | `(tactic| walk_at "w") => `(tactic| repeat (walk_at "w1"))
local macro_rules | `(tactic| walk_at "ws") => `(tactic| repeat ((fail_if_success (with_reducible show We _ _ (tChain _ _ _ _ _) _ _ _)); (fail_if_success (with_reducible show Wt _ _ (tAnd _ _) _ _ _)); (fail_if_success (with_reducible show We _ _ (tOrT _ _ _) _ _ _)); walk_at "w1"))
local macro_rules | `(tactic| walk_at "wm") => `(tactic| repeat ((fail_if_success (with_reducible show Ws _ _ (tAsg (tLst _) _) _ _ _)); walk_at "w1"))

theorem lk_read {x : Str} {e : List (Key × D)} : List.lookup (Str.ofString "_read") [(Str.ofString "_signs", D.str x), (Str.ofString "_indexes", D.fdc e)] = none := by
  simp only [List.lookup, show (Str.ofString "_read" == Str.ofString "_signs") = false from by decide +kernel, show (Str.ofString "_read" == Str.ofString "_indexes") = false from by decide +kernel]
theorem lk_codes {x : Str} {e : List (Key × D)} : List.lookup (Str.ofString "codes") [(Str.ofString "_signs", D.str x), (Str.ofString "_indexes", D.fdc e)] = none := by
  simp only [List.lookup, show (Str.ofString "codes" == Str.ofString "_signs") = false from by decide +kernel, show (Str.ofString "codes" == Str.ofString "_indexes") = false from by decide +kernel]
theorem lk_signed {x : Str} {e : List (Key × D)} : List.lookup (Str.ofString "signed") [(Str.ofString "_signs", D.str x), (Str.ofString "_indexes", D.fdc e)] = none := by
  simp only [List.lookup, show (Str.ofString "signed" == Str.ofString "_signs") = false from by decide +kernel, show (Str.ofString "signed" == Str.ofString "_indexes") = false from by decide +kernel]
theorem lk_numbers_in {x : Str} {e : List (Key × D)} : List.lookup (Str.ofString "numbers_in") [(Str.ofString "_signs", D.str x), (Str.ofString "_indexes", D.fdc e)] = none := by
  simp only [List.lookup, show (Str.ofString "numbers_in" == Str.ofString "_signs") = false from by decide +kernel, show (Str.ofString "numbers_in" == Str.ofString "_indexes") = false from by decide +kernel]
theorem lk_signed_in {x : Str} {e : List (Key × D)} : List.lookup (Str.ofString "signed_in") [(Str.ofString "_signs", D.str x), (Str.ofString "_indexes", D.fdc e)] = none := by
  simp only [List.lookup, show (Str.ofString "signed_in" == Str.ofString "_signs") = false from by decide +kernel, show (Str.ofString "signed_in" == Str.ofString "_indexes") = false from by decide +kernel]
theorem std64 : okS (Str.ofString "ABCDEFGHIJKLMNOPQRSTUVWXYZabcdefghijklmnopqrstuvwxyz0123456789+/") := by
  refine ⟨by decide +kernel, by decide +kernel, by decide +kernel⟩
theorem str_len (s : String) : (Str.ofString s).length = s.toList.length := by
  have h := TL.tl_ofString s
  rw [TL.len_tl, h, List.length_map]
theorem shown_int {i : Int} (h : i.natAbs < 2 ^ 100) : (PyData.int i).shown.length ≤ 1000 := by
  have e : (PyData.int i).shown = Str.ofString (toString i) := by simp only [PyData.shown]
  rw [e, str_len]
  cases i with
  | ofNat m =>
    have := nat_repr_length_le (n := m) (k := 100) (by decide) h
    have e2 : (toString (Int.ofNat m)).toList.length = (Nat.repr m).length := rfl
    omega
  | negSucc m =>
    have := nat_repr_length_le (n := m + 1) (k := 100) (by decide) h
    have e2 : (toString (Int.negSucc m)) = "-" ++ Nat.repr (m + 1) := rfl
    rw [e2]
    have e3 : ("-" ++ Nat.repr (m + 1)).toList.length = 1 + (Nat.repr (m + 1)).length := by
      show ("-" ++ Nat.repr (m + 1)).length = _
      rw [String.length_append]; rfl
    omega
theorem showI {i : Int} (h : i.natAbs < 2 ^ 100) : (PyData.int i).showable = true := by
  simp only [PyData.showable]
  apply decide_eq_true
  by_cases q : i.natAbs = 0
  · rw [q]; decide
  · have : i.natAbs.log2 < 100 := (Nat.log2_lt q).mpr h
    omega
theorem un_fo (i : Int) : un (fo i) = i := by
  unfold un fo
  split <;> split <;> omega
theorem eqv_ints : ∀ l : List Int, PyData.eqvAll (l.map .int) (l.map .int) = true
  | [] => rfl
  | a :: l => by rw [List.map_cons]; simp [PyData.eqvAll, PyData.eqv, eqv_ints l]
def fI (g : Int → D) : D → D
  | .int i => g i
  | d => d
theorem mapC {x : Str} {ns : List Nat} : (ns.map fun (n : Nat) => D.int (n : Int)).map (fI fun i => .str (cdO x i.toNat)) = ns.map fun n => .str (cdO x n) := by rw [List.map_map]; rfl
theorem mapI {is : List Int} {g : Int → D} : (is.map D.int).map (fI g) = is.map g := by rw [List.map_map]; rfl
theorem nI_is (ns : List Nat) : (ns.map fun (n : Nat) => D.int (n : Int)) = (ns.map fun (n : Nat) => (n : Int)).map D.int := by rw [List.map_map]; rfl
theorem sum_cd (x : Str) : ∀ ns : List Nat, ((ns.map fun n => cdO x n).map (·.length)).sum = (txO x ns).length := by
  intro ns
  show _ = (mk (ns.map fun n => tl (cdO x n)).flatten).length
  rw [mk_len, List.length_flatten, List.map_map, List.map_map]
  congr 1
theorem neq_ints {l : List Int} {P : D → Prop} (h : P (.bl false)) : Op K (rNeP K) (.lst (l.map .int)) (.lst (l.map .int)) P :=
  ne_same (e := .list (l.map PyData.int)) (by simp only [pd, pds_is]; rfl) (by simp only [PyData.plain, plain_is]) (by have := depth_is l; simp only [PyData.depth]; omega) (by simp only [PyData.eqv, eqv_ints]) h
theorem eqq_ints {l : List Int} {P : D → Prop} (h : P (.bl true)) : Op K (rEqP K) (.lst (l.map .int)) (.lst (l.map .int)) P :=
  eq_same (e := .list (l.map PyData.int)) (by simp only [pd, pds_is]; rfl) (by simp only [PyData.plain, plain_is]) (by have := depth_is l; simp only [PyData.depth]; omega) (by simp only [PyData.eqv, eqv_ints]) h
theorem ne_nI {ns : List Nat} {P : D → Prop} (h : P (.bl false)) : Op K (rNeP K) (nI ns) (nI ns) P := by rw [show nI ns = .lst ((ns.map fun (n : Nat) => (n : Int)).map D.int) by unfold nI; rw [nI_is]]; exact neq_ints h
theorem tx_len {x : Str} {ns : List Nat} (h : ∀ n ∈ ns, n ≤ 1000000000000) : (txO x ns).length ≤ 8 * ns.length := by
  rw [len_tl, tl_tx, List.length_map]; exact evss_le h
theorem cd_le {x : Str} {k : Nat} (hk : k ≤ 1000000000000) : (cdO x k).length ≤ 8 := by
  unfold cdO
  rw [mk_len]
  exact up_le _ 7 _ _ (by omega)
theorem cut_any (x : Str) (k : Nat) : cutS x none (some (k : Int)) = mk ((tl x).take k) := by
  apply TL.ext_tl
  show (((tl x).drop (HT.sIx x.length 0 none)).take (HT.sIx x.length x.length (some (k : Int)) - HT.sIx x.length 0 none)) = (tl x).take k
  rw [HT.sIx_nat, HT.sIx_none, List.drop_zero, Nat.sub_zero, len_tl]
  by_cases h : k ≤ (tl x).length
  · rw [Nat.min_eq_left h]
  · rw [Nat.min_eq_right (by omega), List.take_of_length_le (Nat.le_refl _), List.take_of_length_le (by omega)]
theorem join_cd {x : Str} {ns : List Nat} {P : D → Prop} (hl : ns.length ≤ 1100) (hb : ∀ n ∈ ns, n ≤ 1000000000000) (h : P (.str (txO x ns))) : Mt K (rJoin K) (Str.ofString "") (.lst (ns.map fun n => .str (cdO x n))) P := by
  have hs := tx_len (x := x) hb
  rw [show (ns.map fun n => D.str (cdO x n)) = (ns.map fun n => cdO x n).map D.str by rw [List.map_map]; rfl]
  refine mt_joinD (by rw [sum_cd, em_is, show (⟨#[]⟩ : Str).length = 0 from rfl]; omega) ?_
  have e2 : Txt.join (Str.ofString "") (ns.map fun n => cdO x n) = txO x ns := by
    apply TL.ext_tl
    refine (tl_join0 _).trans ?_
    rw [List.map_map]; rfl
  rw [e2]; exact h
theorem len_Alphabet_numbers_in : ∀ ds n P, R_Alphabet_numbers_in A ds n P → ds.length = 2 := by rintro ds n P ⟨_, _, _, rfl, -⟩; rfl
theorem w_Alphabet_numbers_in (T : TxtC K A) : ∀ Z ds n P, R_Alphabet_numbers_in A ds n P → Gw K Z (t_Alphabet_numbers_in K A) [] (startD 5 ds) n { nx := fun es _ m => P es m } := by
  rintro Z ds n P ⟨x, e, ns, rfl, hx, he, hl, hb, h⟩
  unfold t_Alphabet_numbers_in
  refine gw_then (gw_plain ?_)
  walk_at "w"
  refine ⟨_, rfl, ?_⟩
  refine gw_then (gw_plain ?_)
  walk_at "w"
  refine ⟨_, rfl, lk_read, ?_⟩
  walk_at "w"
  refine ⟨_, _, _, 1000000000000, rfl, hx, he, hl, Nat.le_refl _, hb, ?_⟩
  walk_at "w"
  refine gw_then (gw_for (wi_list ?_))
  walk_at "w"
  refine ⟨fun i es ds' k => k = n ∧ es = (ns.take i).map (fun (n : Nat) => D.int (n : Int)) ∧ ∃ p, ds' = [some (alD A x e), some (.str (txO x ns)), some (nI ns), some .non, p], ⟨rfl, rfl, _, rfl⟩, ?_, ?_⟩
  · rintro i y es ds' k hy ⟨rfl, rfl, p, rfl⟩
    rw [List.getElem?_map] at hy
    obtain ⟨m, hm, rfl⟩ := Option.map_eq_some_iff.mp hy
    have hi := (List.getElem?_eq_some_iff.mp hm).1
    walk_at "w"
    refine gw_then (gw_yield (by rw [List.length_map, List.length_take]; omega) ?_)
    walk_at "w"
    refine gw_nil ⟨rfl, ?_, _, rfl⟩
    rw [List.take_add_one, hm, List.map_append]
    rfl
  · rintro es ds' k ⟨rfl, rfl, p, rfl⟩
    show Gw K Z _ _ _ _ _
    refine gw_then (gw_plain ?_)
    walk_at "w"
    rw [show (!isNonD D.non) = false from rfl]
    walk_at "w"
    show Gw K Z _ _ _ _ _
    refine gw_nil ?_
    rw [List.length_map, List.take_length]
    exact h
theorem len_Alphabet_signed_in : ∀ ds n P, R_Alphabet_signed_in A ds n P → ds.length = 2 := by rintro ds n P ⟨_, _, _, rfl, -⟩; rfl
theorem w_Alphabet_signed_in (T : TxtC K A) : ∀ Z ds n P, R_Alphabet_signed_in A ds n P → Gw K Z (t_Alphabet_signed_in K A) [] (startD 5 ds) n { nx := fun es _ m => P es m } := by
  rintro Z ds n P ⟨x, e, ns, rfl, hx, he, hl, hb, h⟩
  unfold t_Alphabet_signed_in
  refine gw_then (gw_plain ?_)
  walk_at "w"
  refine ⟨_, rfl, ?_⟩
  refine gw_then (gw_plain ?_)
  walk_at "w"
  refine ⟨_, rfl, lk_read, ?_⟩
  walk_at "w"
  refine ⟨_, _, _, 2000000000, rfl, hx, he, hl, by decide, hb, ?_⟩
  walk_at "w"
  refine gw_then (gw_for (wi_list ?_))
  walk_at "w"
  refine ⟨fun i es ds' k => k = n ∧ es = (ns.take i).map (fun (n : Nat) => D.int (un n)) ∧ ∃ p, ds' = [some (alD A x e), some (.str (txO x ns)), some (nI ns), some .non, p], ⟨rfl, rfl, _, rfl⟩, ?_, ?_⟩
  · rintro i y es ds' k hy ⟨rfl, rfl, p, rfl⟩
    rw [List.getElem?_map] at hy
    obtain ⟨m, hm, rfl⟩ := Option.map_eq_some_iff.mp hy
    have hi := (List.getElem?_eq_some_iff.mp hm).1
    have hmb := hb m (List.mem_of_getElem? hm)
    walk_at "w"
    refine gw_then (gw_yield (by rw [List.length_map, List.length_take]; omega) ?_)
    walk_at "w"
    refine ⟨_, rfl, by omega, by omega, ?_⟩
    walk_at "w"
    refine gw_nil ⟨rfl, ?_, _, rfl⟩
    rw [List.take_add_one, hm, List.map_append]
    rfl
  · rintro es ds' k ⟨rfl, rfl, p, rfl⟩
    show Gw K Z _ _ _ _ _
    refine gw_then (gw_plain ?_)
    walk_at "w"
    rw [show (!isNonD D.non) = false from rfl]
    walk_at "w"
    show Gw K Z _ _ _ _ _
    refine gw_nil ?_
    rw [List.length_map, List.take_length]
    exact h
theorem len_Alphabet_standard : ∀ ds n P X, R_Alphabet_standard A ds n P X → ds.length = 1 := by rintro ds n P X ⟨rfl, -⟩; rfl
theorem w_Alphabet_standard (T : TxtC K A) : ∀ Z ds n P, R_Alphabet_standard A ds n P Z.X → Ws K Z (t_Alphabet_standard K A) (startD 1 ds) n { nx := fun _ m => P .non m, rt := P } := by
  rintro Z ds n P ⟨rfl, h⟩
  unfold t_Alphabet_standard
  walk_at "w"
  refine we_makeV ?_
  walk_at "w"
  refine ⟨rfl, ?_⟩
  walk_at "w"
  obtain ⟨u, cv⟩ := T.cv_Alphabet_STANDARD
  refine we_cval T.crd_Alphabet cv ?_
  walk_at "w"
  refine ⟨rfl, ?_⟩
  walk_at "w"
  exact ⟨_, rfl, std64, fun e _ => h e⟩
theorem len_Alphabet_codes : ∀ ds n P X, R_Alphabet_codes A ds n P X → ds.length = 2 := by rintro ds n P X ⟨_, _, _, rfl, -⟩; rfl
theorem w_Alphabet_codes (T : TxtC K A) : ∀ Z ds n P, R_Alphabet_codes A ds n P Z.X → Ws K Z (t_Alphabet_codes K A) (startD 3 ds) n { nx := fun _ m => P .non m, rt := P } := by
  rintro Z ds n P ⟨x, e, ns, rfl, hx, hl, hb, h⟩
  unfold t_Alphabet_codes
  walk_at "w"
  refine we_lcmap (fI fun i => .str (cdO x i.toNat)) (wi_tup ?_)
  walk_at "w"
  refine ⟨by rw [List.length_map]; omega, fun d hd => ?_, ?_⟩
  · obtain ⟨m, hm, rfl⟩ := List.mem_map.mp hd
    refine wgc_name (by simp) ?_
    walk_at "w"
    refine ⟨_, rfl, lk_none, ?_⟩
    walk_at "w"
    exact ⟨_, _, _, rfl, hx, hb m hm, rfl, rfl⟩
  · rw [mapC]
    exact join_cd hl hb h
end
end Lw

namespace Lw
open PySem L2 StX DL
section
variable {K : PySem.W.Frag} [Tb K] {Z : ZX} {A : Ad}
/-- one step -/
local macro_rules | `(tactic| walk_at "w1") => `(tactic| first
  | with_reducible refine ws_seq ?_
  | with_reducible refine ws_if ?_
  | with_reducible refine ws_ret ?_
  | ((fail_if_success (with_reducible show Ws _ _ (tDrop (tBM _ _ _ _ _)) _ _ _)); (with_reducible refine ws_drop ?_))
  | with_reducible refine ws_next ?_
  | with_reducible refine ws_par ?_
  | ((fail_if_success (with_reducible show Ws _ _ (tAsg _ (gSub _ _ _)) _ _ _)); (with_reducible refine ws_asg ?_))
  | with_reducible refine wg_name ?_
  | with_reducible refine we_int ?_
  | with_reducible refine we_bl ?_
  | with_reducible refine we_non ?_
  | with_reducible refine we_str ?_
  | with_reducible refine we_ty ?_
  | with_reducible refine we_cls ?_
  | with_reducible refine ws_par3 ?_
  | ((with_reducible show We _ _ (tVar _) _ _ _); refine we_var rfl rfl ?_)
  | ((with_reducible show We _ _ (tVar _) _ _ _); refine we_var rfl (mut_oP _) ?_)
  | with_reducible refine we_rep ?_
  | with_reducible refine we_op ?_
  | with_reducible refine we_un ?_
  | with_reducible refine we_cb ?_
  | with_reducible refine we_callX ?_
  | with_reducible refine we_call ?_
  | with_reducible refine we_callNX ?_
  | with_reducible refine we_callN ?_
  | with_reducible refine we_methN ?_
  | with_reducible refine we_callON ?_
  | with_reducible refine we_callOX ?_
  | with_reducible refine we_exf ?_
  | with_reducible refine we_dnew ?_
  | with_reducible refine ws_raise ?_
  | with_reducible refine we_tup ?_
  | with_reducible refine we_lst ?_
  | with_reducible refine we_sl ?_
  | with_reducible refine we_m1 ?_
  | with_reducible refine we_andV ?_
  | with_reducible refine we_orV ?_
  | with_reducible refine we_notV ?_
  | with_reducible refine we_if ?_
  | with_reducible refine we_chain ?_
  | with_reducible refine we_fld ?_
  | with_reducible refine we_methX ?_
  | with_reducible refine we_meth ?_
  | with_reducible refine we_prop ?_
  | with_reducible refine we_callO' ?_
  | with_reducible refine we_makeX ?_
  | with_reducible refine we_make ?_
  | with_reducible refine wt_test ?_
  | with_reducible refine wt_B ?_
  | with_reducible refine wt_yes ?_
  | with_reducible refine wt_and ?_
  | with_reducible refine wt_or ?_
  | with_reducible refine wt_not ?_
  | with_reducible refine wa_nil ?_
  | with_reducible refine wa_cons ?_
  | with_reducible refine wo_none ?_
  | with_reducible refine wo_some ?_
  | with_reducible refine add_int ?_
  | with_reducible refine sub_int ?_
  | with_reducible refine neg_int ?_
  | ((with_reducible refine mod_int ?_ ?_); (focus (first | assumption | omega)))
  | ((with_reducible refine mul_int ?_ ?_); (focus (first | exact Or.inl ⟨by omega, by omega⟩ | exact Or.inr ⟨by omega, by omega⟩)))
  | ((with_reducible refine fdiv_int ?_ ?_); (focus (exact ⟨by omega, by omega⟩)))
  | ((with_reducible refine pow_int ?_ ?_); (focus (exact ⟨by decide, by decide, by decide⟩)))
  | with_reducible refine is_non ?_
  | with_reducible refine not_non ?_
  | with_reducible refine eq_int ?_
  | with_reducible refine ne_int ?_
  | with_reducible refine eq_pos ?_
  | with_reducible refine ne_pos ?_
  | with_reducible refine ne_oPs ?_
  | with_reducible refine ne_nn ?_
  | with_reducible refine ne_np ?_
  | with_reducible refine ne_pn ?_
  | with_reducible refine eq_str ?_
  | with_reducible refine ne_str ?_
  | with_reducible refine eq_bl ?_
  | with_reducible refine ne_bl ?_
  | with_reducible refine lt_int ?_
  | with_reducible refine gt_int ?_
  | with_reducible refine le_int ?_
  | with_reducible refine ge_int ?_
  | with_reducible refine lt_pos ?_
  | with_reducible refine gt_pos ?_
  | with_reducible refine le_pos ?_
  | with_reducible refine ge_pos ?_
  | with_reducible refine int_int ?_
  | with_reducible refine min_int ?_
  | with_reducible refine max_int ?_
  | with_reducible refine len_lst ?_
  | with_reducible refine len_tup ?_
  | ((with_reducible refine len_take ?_ ?_ ?_); (focus (first | assumption | omega)); (focus (first | assumption | omega)))
  | ((with_reducible refine len_str ?_ ?_); (focus (first | assumption | omega)))
  | with_reducible refine tuple_lst ?_
  | with_reducible refine tuple_tup ?_
  | ((with_reducible refine sl_to ?_ ?_ ?_); (focus (first | assumption | omega)); (focus (first | assumption | omega)))
  | ((with_reducible refine sl_from ?_ ?_ ?_); (focus (first | assumption | omega)); (focus (first | assumption | omega)))
  | ((with_reducible refine sl_mid ?_ ?_ ?_ ?_); (focus (first | assumption | omega)); (focus (first | assumption | omega)); (focus (first | assumption | omega)))
  | with_reducible refine sl_lst ?_
  | with_reducible refine sl_tup ?_
  | ((with_reducible refine sl_str ?_ ?_); (focus (first | assumption | omega)))
  | with_reducible refine mt_nl ?_
  | with_reducible refine mt_countD ?_
  | with_reducible refine mt_rfindD ?_
  | ((with_reducible refine mt_splitnl ?_ ?_); (focus (first | assumption | omega)))
  | ((with_reducible refine mt_splitD ?_ ?_ ?_); (focus rfl); (focus (first | assumption | omega)))
  | ((with_reducible show Op _ (rIx _) (D.tup _) (D.int _) _); refine ix_tup (by decide) rfl ?_)
  | ((with_reducible show Op _ (rIx _) (D.lst _) (D.int _) _); refine ix_lst (n := 0) (by decide) rfl ?_)
  | ((with_reducible show Cb _ (rIsi _) [D.int _, D.ty _] _); first | refine isiI (r := true) (by decide +kernel) ?_ | refine isiI (r := false) (by decide +kernel) ?_)
  | ((with_reducible show Cb _ (rIsi _) [D.str _, D.ty _] _); first | refine isiS (r := true) (by decide +kernel) ?_ | refine isiS (r := false) (by decide +kernel) ?_)
  | ((with_reducible show Cb _ (rIsi _) [D.tup _, D.ty _] _); first | refine isiT (r := true) (by decide +kernel) ?_ | refine isiT (r := false) (by decide +kernel) ?_)
  | ((with_reducible show Wg _ _ (gTup _ _ _) _ _ _); refine wg_tup rfl rfl ?_)
  | ((with_reducible show Wgs _ _ gNil _ _ _); refine wgs_nil rfl ?_)
  | ((with_reducible show Wgs _ _ (gCons _ _) _ _ _); refine wgs_cons rfl ?_)
  | ((with_reducible show ∃ _, D.bl _ = D.bl _ ∧ _); refine ⟨_, rfl, ?_⟩)
  | ((with_reducible show ∃ _, D.int _ = D.int _ ∧ _); refine ⟨_, rfl, ?_⟩)
  | ((with_reducible show ∃ _, D.str _ = D.str _ ∧ _); refine ⟨_, rfl, ?_⟩)
  | ((with_reducible show ∃ _, D.tup _ = D.tup _ ∧ _); refine ⟨_, rfl, ?_⟩)
  | ((with_reducible show ∃ _, D.lst _ = D.lst _ ∧ _); refine ⟨_, rfl, ?_⟩)
  | with_reducible refine iteNT ?_
  | with_reducible refine iteNF ?_
  | ((with_reducible show if true = true then _ else _); rw [if_pos rfl])
  | ((with_reducible show if false = true then _ else _); rw [if_neg Bool.false_ne_true])
  | ((with_reducible show List.length _ ≤ 1000000 ∧ _); refine ⟨?_, ?_⟩; (focus (simp; done)))
  | fail "no step")
local macro_rules | `(tactic| walk_at "w") => `(tactic| repeat (walk_at "w1"))
local macro_rules | `(tactic| walk_at "ws") => `(tactic| repeat ((fail_if_success (with_reducible show We _ _ (tChain _ _ _ _ _) _ _ _)); (fail_if_success (with_reducible show Wt _ _ (tAnd _ _) _ _ _)); (fail_if_success (with_reducible show We _ _ (tOrT _ _ _) _ _ _)); walk_at "w1"))
local macro_rules | `(tactic| walk_at "wm") => `(tactic| repeat ((fail_if_success (with_reducible show Ws _ _ (tAsg (tLst _) _) _ _ _)); walk_at "w1"))

theorem len__law_codes_hold : ∀ ds n P X, R__law_codes_hold A ds n P X → ds.length = 3 := by rintro ds n P X ⟨_, _, _, rfl, -⟩; rfl
theorem w__law_codes_hold (T : TxtC K A) : ∀ Z ds n P, R__law_codes_hold A ds n P Z.X → Ws K Z (t__law_codes_hold K A) (startD 8 ds) n { nx := fun _ m => P .non m, rt := P } := by
  rintro Z ds n P ⟨x, e, ns, rfl, hx, he, hl3, hl, hb, h⟩
  obtain ⟨a, b, c, r, rfl⟩ : ∃ a b c r, ns = a :: b :: c :: r := by
    match ns, hl3 with | a :: b :: c :: r, _ => exact ⟨a, b, c, r, rfl⟩
  generalize hns : a :: b :: c :: r = ns at *
  have htx := tx_len (x := x) hb
  unfold t__law_codes_hold
  walk_at "w"
  refine we_lcmap (fI fun i => .str (cdO x i.toNat)) (wi_list ?_)
  walk_at "w"
  refine ⟨by rw [List.length_map]; omega, fun d hd => ?_, ?_⟩
  · obtain ⟨m, hm, rfl⟩ := List.mem_map.mp hd
    refine wgc_name (by simp) ?_
    walk_at "w"
    exact ⟨_, _, rfl, hx, hb m hm, rfl, rfl⟩
  rw [mapC]
  refine join_cd (by omega) hb ?_
  walk_at "w"
  refine we_methR ?_
  walk_at "w"
  refine ⟨_, rfl, lk_codes, ?_⟩
  walk_at "w"
  refine ⟨_, _, [], rfl, hx, by decide, by simp, ?_⟩
  rw [show txO x [] = Str.ofString "" from em_is.symm]
  walk_at "w"
  rw [decide_eq_true (rfl : Str.ofString "" = Str.ofString "")]
  walk_at "w"
  refine we_lcmap (fI fun i => .str (cdO x i.toNat)) (wi_list ?_)
  walk_at "w"
  refine ⟨by rw [List.length_map]; omega, fun d hd => ?_, ?_⟩
  · obtain ⟨m, hm, rfl⟩ := List.mem_map.mp hd
    refine wgc_name (by simp) ?_
    walk_at "w"
    refine ⟨_, rfl, ?_⟩
    walk_at "w"
    exact ⟨_, _, _, rfl, hx, hb m hm, rfl, rfl⟩
  rw [mapC]
  refine join_cd (by omega) hb ?_
  walk_at "w"
  rw [decide_eq_true (rfl : txO x ns = txO x ns)]
  walk_at "w"
  refine we_lcmap (fI fun i => .str (cdO x i.toNat)) (wi_list ?_)
  walk_at "w"
  rw [show (3 : Int) = ((3 : Nat) : Int) from rfl, cutD_to (by rw [List.length_map]; omega), ← List.map_take]
  have hb3 : ∀ m ∈ ns.take 3, m ≤ 1000000000000 := fun m hm => hb m (List.mem_of_mem_take hm)
  refine ⟨by rw [List.length_map, List.length_take]; omega, fun d hd => ?_, ?_⟩
  · obtain ⟨m, hm, rfl⟩ := List.mem_map.mp hd
    refine wgc_name (by simp) ?_
    walk_at "w"
    exact ⟨_, _, rfl, hx, hb3 m hm, rfl, rfl⟩
  rw [mapC]
  refine join_cd (by rw [List.length_take]; omega) hb3 ?_
  walk_at "w"
  refine we_methR ?_
  walk_at "w"
  refine ⟨_, rfl, lk_codes, ?_⟩
  walk_at "w"
  subst hns
  refine ix_lst (n := 0) (i := 0) (xs := .int (a : Nat) :: .int (b : Nat) :: .int (c : Nat) :: r.map fun (n : Nat) => .int (n : Int)) (by decide) rfl ?_
  walk_at "w"
  refine ⟨_, _, [a, b, c], rfl, hx, by simp, hb3, ?_⟩
  rw [show List.take 3 (a :: b :: c :: r) = [a, b, c] from rfl]
  walk_at "w"
  rw [decide_eq_true (rfl : txO x [a, b, c] = txO x [a, b, c])]
  generalize hns : a :: b :: c :: r = ns at *
  walk_at "w"
  refine we_listZ (wz_meth ?_)
  walk_at "w"
  refine ⟨_, rfl, lk_numbers_in, ?_⟩
  walk_at "w"
  refine ⟨_, _, _, rfl, hx, he, by omega, hb, ?_⟩
  walk_at "w"
  refine ne_nI ?_
  walk_at "w"
  refine ws_for (wi_list ?_)
  walk_at "w"
  refine ⟨fun i ds' k => k = n ∧ ∃ p q, ds' = [some (alD A x e), some (.str x), some (nI ns), some (.str (txO x ns)), some (.str (txO x [a, b, c])), p, q, none], ⟨rfl, none, none, rfl⟩, ?_, ?_⟩
  · rintro i y ds' k hy ⟨rfl, p, q, rfl⟩
    rw [List.getElem?_map] at hy
    obtain ⟨m1, hm1, rfl⟩ := Option.map_eq_some_iff.mp hy
    have hb1 := hb m1 (List.mem_of_getElem? hm1)
    walk_at "w"
    refine ws_for (wi_list ?_)
    walk_at "w"
    refine ⟨fun i ds' k' => k' = k ∧ ∃ q, ds' = [some (alD A x e), some (.str x), some (nI ns), some (.str (txO x ns)), some (.str (txO x [a, b, c])), some (.int (m1 : Nat)), q, none], ⟨rfl, _, rfl⟩, ?_, ?_⟩
    · rintro i2 y ds' k' hy ⟨rfl, q, rfl⟩
      rw [List.getElem?_map] at hy
      obtain ⟨m2, hm2, rfl⟩ := Option.map_eq_some_iff.mp hy
      have hb2 := hb m2 (List.mem_of_getElem? hm2)
      have hc1 := cd_le (x := x) hb1
      have hc2 := cd_le (x := x) hb2
      walk_at "w"
      refine iteND (fun z => ?_) (fun z => ?_)
      · walk_at "w"
        refine ⟨_, rfl, ?_⟩
        walk_at "w"
        refine ⟨rfl, _, _, _, rfl, hx, hb1, ?_⟩
        walk_at "w"
        refine ⟨_, rfl, ?_⟩
        walk_at "w"
        refine ⟨_, _, _, rfl, hx, hb2, ?_⟩
        walk_at "w"
        refine ⟨_, rfl, ?_⟩
        walk_at "w"
        refine ⟨_, _, _, rfl, hx, hb1, ?_⟩
        walk_at "w"
        rw [cut_any, decide_eq_false (show ¬ cdO x m1 = mk ((tl (cdO x m2)).take (cdO x m1).length) from fun y => z (congrArg (fun (n : Nat) => (n : Int)) (cd_pre hx.2.1 hx.1 (by rw [← len_tl]; exact congrArg tl y))))]
        walk_at "w"
        exact ⟨rfl, _, rfl⟩
      · walk_at "w"
        exact ⟨rfl, _, rfl⟩
    · rintro ds' k' ⟨rfl, q, rfl⟩
      exact ⟨rfl, _, _, rfl⟩
  · rintro ds' k ⟨rfl, p, q, rfl⟩
    walk_at "w"
    exact h
end
end Lw

namespace Lw
open PySem L2 StX DL
theorem showAllI : ∀ {is : List Int}, (∀ i ∈ is, i.natAbs < 2 ^ 100) → PyData.showableAll (is.map PyData.int) = true
  | [], _ => rfl
  | a :: l, h => by
    rw [List.map_cons, show PyData.showableAll (PyData.int a :: l.map PyData.int) = ((PyData.int a).showable && PyData.showableAll (l.map PyData.int)) by simp only [PyData.showableAll], showI (h a (by simp)), showAllI fun i hi => h i (by simp [hi])]; rfl
theorem hasI : ∀ is : List Int, PyData.hasDictAll (is.map PyData.int) = false
  | [] => rfl
  | a :: l => by rw [List.map_cons]; simp [PyData.hasDictAll, PyData.hasDict, hasI l]
theorem shownI : ∀ {is : List Int}, (∀ i ∈ is, i.natAbs < 2 ^ 100) → ((PyData.shownAll (is.map PyData.int)).map (·.length)).sum ≤ 1000 * is.length ∧ (PyData.shownAll (is.map PyData.int)).length = is.length
  | [], _ => ⟨by decide, rfl⟩
  | a :: l, h => by
    have ih := shownI (is := l) fun i hi => h i (by simp [hi])
    have h1 := shown_int (h a (by simp))
    simp only [List.map_cons, PyData.shownAll, List.sum_cons, List.length_cons]
    omega
section
variable {K : PySem.W.Frag} [Tb K] {Z : ZX} {A : Ad}
/-- one step -/
local macro_rules | `(tactic| walk_at "w1") => `(tactic| first
  | with_reducible refine ws_seq ?_
  | with_reducible refine ws_if ?_
  | with_reducible refine ws_ret ?_
  | ((fail_if_success (with_reducible show Ws _ _ (tDrop (tBM _ _ _ _ _)) _ _ _)); (with_reducible refine ws_drop ?_))
  | with_reducible refine ws_next ?_
  | with_reducible refine ws_par ?_
  | ((fail_if_success (with_reducible show Ws _ _ (tAsg _ (gSub _ _ _)) _ _ _)); (with_reducible refine ws_asg ?_))
  | with_reducible refine wg_name ?_
  | with_reducible refine we_int ?_
  | with_reducible refine we_bl ?_
  | with_reducible refine we_non ?_
  | with_reducible refine we_str ?_
  | with_reducible refine we_ty ?_
  | with_reducible refine we_cls ?_
  | with_reducible refine ws_par3 ?_
  | ((with_reducible show We _ _ (tVar _) _ _ _); refine we_var rfl rfl ?_)
  | ((with_reducible show We _ _ (tVar _) _ _ _); refine we_var rfl (mut_oP _) ?_)
  | with_reducible refine we_rep ?_
  | with_reducible refine we_op ?_
  | with_reducible refine we_un ?_
  | with_reducible refine we_cb ?_
  | with_reducible refine we_callX ?_
  | with_reducible refine we_call ?_
  | with_reducible refine we_callNX ?_
  | with_reducible refine we_callN ?_
  | with_reducible refine we_methN ?_
  | with_reducible refine we_callON ?_
  | with_reducible refine we_callOX ?_
  | with_reducible refine we_exf ?_
  | with_reducible refine we_dnew ?_
  | with_reducible refine ws_raise ?_
  | with_reducible refine we_tup ?_
  | with_reducible refine we_lst ?_
  | with_reducible refine we_sl ?_
  | with_reducible refine we_m1 ?_
  | with_reducible refine we_andV ?_
  | with_reducible refine we_orV ?_
  | with_reducible refine we_notV ?_
  | with_reducible refine we_if ?_
  | with_reducible refine we_chain ?_
  | with_reducible refine we_fld ?_
  | with_reducible refine we_methX ?_
  | with_reducible refine we_meth ?_
  | with_reducible refine we_prop ?_
  | with_reducible refine we_callO' ?_
  | with_reducible refine we_makeX ?_
  | with_reducible refine we_make ?_
  | with_reducible refine wt_test ?_
  | with_reducible refine wt_B ?_
  | with_reducible refine wt_yes ?_
  | with_reducible refine wt_and ?_
  | with_reducible refine wt_or ?_
  | with_reducible refine wt_not ?_
  | with_reducible refine wa_nil ?_
  | with_reducible refine wa_cons ?_
  | with_reducible refine wo_none ?_
  | with_reducible refine wo_some ?_
  | with_reducible refine add_int ?_
  | with_reducible refine sub_int ?_
  | with_reducible refine neg_int ?_
  | ((with_reducible refine mod_int ?_ ?_); (focus (first | assumption | omega)))
  | ((with_reducible refine mul_int ?_ ?_); (focus (first | exact Or.inl ⟨by omega, by omega⟩ | exact Or.inr ⟨by omega, by omega⟩)))
  | ((with_reducible refine fdiv_int ?_ ?_); (focus (exact ⟨by omega, by omega⟩)))
  | ((with_reducible refine pow_int ?_ ?_); (focus (exact ⟨by decide, by decide, by decide⟩)))
  | with_reducible refine is_non ?_
  | with_reducible refine not_non ?_
  | with_reducible refine eq_int ?_
  | with_reducible refine ne_int ?_
  | with_reducible refine eq_pos ?_
  | with_reducible refine ne_pos ?_
  | with_reducible refine ne_oPs ?_
  | with_reducible refine ne_nn ?_
  | with_reducible refine ne_np ?_
  | with_reducible refine ne_pn ?_
  | with_reducible refine eq_str ?_
  | with_reducible refine ne_str ?_
  | with_reducible refine eq_bl ?_
  | with_reducible refine ne_bl ?_
  | with_reducible refine lt_int ?_
  | with_reducible refine gt_int ?_
  | with_reducible refine le_int ?_
  | with_reducible refine ge_int ?_
  | with_reducible refine lt_pos ?_
  | with_reducible refine gt_pos ?_
  | with_reducible refine le_pos ?_
  | with_reducible refine ge_pos ?_
  | with_reducible refine int_int ?_
  | with_reducible refine min_int ?_
  | with_reducible refine max_int ?_
  | with_reducible refine len_lst ?_
  | with_reducible refine len_tup ?_
  | ((with_reducible refine len_take ?_ ?_ ?_); (focus (first | assumption | omega)); (focus (first | assumption | omega)))
  | ((with_reducible refine len_str ?_ ?_); (focus (first | assumption | omega)))
  | with_reducible refine tuple_lst ?_
  | with_reducible refine tuple_tup ?_
  | ((with_reducible refine sl_to ?_ ?_ ?_); (focus (first | assumption | omega)); (focus (first | assumption | omega)))
  | ((with_reducible refine sl_from ?_ ?_ ?_); (focus (first | assumption | omega)); (focus (first | assumption | omega)))
  | ((with_reducible refine sl_mid ?_ ?_ ?_ ?_); (focus (first | assumption | omega)); (focus (first | assumption | omega)); (focus (first | assumption | omega)))
  | with_reducible refine sl_lst ?_
  | with_reducible refine sl_tup ?_
  | ((with_reducible refine sl_str ?_ ?_); (focus (first | assumption | omega)))
  | with_reducible refine mt_nl ?_
  | with_reducible refine mt_countD ?_
  | with_reducible refine mt_rfindD ?_
  | ((with_reducible refine mt_splitnl ?_ ?_); (focus (first | assumption | omega)))
  | ((with_reducible refine mt_splitD ?_ ?_ ?_); (focus rfl); (focus (first | assumption | omega)))
  | ((with_reducible show Op _ (rIx _) (D.tup _) (D.int _) _); refine ix_tup (by decide) rfl ?_)
  | ((with_reducible show Op _ (rIx _) (D.lst _) (D.int _) _); refine ix_lst (n := 0) (by decide) rfl ?_)
  | ((with_reducible show Cb _ (rIsi _) [D.int _, D.ty _] _); first | refine isiI (r := true) (by decide +kernel) ?_ | refine isiI (r := false) (by decide +kernel) ?_)
  | ((with_reducible show Cb _ (rIsi _) [D.str _, D.ty _] _); first | refine isiS (r := true) (by decide +kernel) ?_ | refine isiS (r := false) (by decide +kernel) ?_)
  | ((with_reducible show Cb _ (rIsi _) [D.tup _, D.ty _] _); first | refine isiT (r := true) (by decide +kernel) ?_ | refine isiT (r := false) (by decide +kernel) ?_)
  | ((with_reducible show Wg _ _ (gTup _ _ _) _ _ _); refine wg_tup rfl rfl ?_)
  | ((with_reducible show Wgs _ _ gNil _ _ _); refine wgs_nil rfl ?_)
  | ((with_reducible show Wgs _ _ (gCons _ _) _ _ _); refine wgs_cons rfl ?_)
  | ((with_reducible show ∃ _, D.bl _ = D.bl _ ∧ _); refine ⟨_, rfl, ?_⟩)
  | ((with_reducible show ∃ _, D.int _ = D.int _ ∧ _); refine ⟨_, rfl, ?_⟩)
  | ((with_reducible show ∃ _, D.str _ = D.str _ ∧ _); refine ⟨_, rfl, ?_⟩)
  | ((with_reducible show ∃ _, D.tup _ = D.tup _ ∧ _); refine ⟨_, rfl, ?_⟩)
  | ((with_reducible show ∃ _, D.lst _ = D.lst _ ∧ _); refine ⟨_, rfl, ?_⟩)
  | with_reducible refine iteNT ?_
  | with_reducible refine iteNF ?_
  | ((with_reducible show if true = true then _ else _); rw [if_pos rfl])
  | ((with_reducible show if false = true then _ else _); rw [if_neg Bool.false_ne_true])
  | ((with_reducible show List.length _ ≤ 1000000 ∧ _); refine ⟨?_, ?_⟩; (focus (simp; done)))
  | fail "no step")
local macro_rules | `(tactic| walk_at "w") => `(tactic| repeat (walk_at "w1"))
local macro_rules | `(tactic| walk_at "ws") => `(tactic| repeat ((fail_if_success (with_reducible show We _ _ (tChain _ _ _ _ _) _ _ _)); (fail_if_success (with_reducible show Wt _ _ (tAnd _ _) _ _ _)); (fail_if_success (with_reducible show We _ _ (tOrT _ _ _) _ _ _)); walk_at "w1"))
local macro_rules | `(tactic| walk_at "wm") => `(tactic| repeat ((fail_if_success (with_reducible show Ws _ _ (tAsg (tLst _) _) _ _ _)); walk_at "w1"))

theorem reprI {is : List Int} (hl : is.length ≤ 20) (hb : ∀ i ∈ is, i.natAbs < 2 ^ 100) : ∃ s : Str, ∀ P : D → Prop, P (.str s) → Cb K (rReprV K) [.lst (is.map D.int)] P := by
  refine ⟨_, fun P hp => reprV_of (e := .list (is.map PyData.int)) ⟨_, .inl rfl⟩ (by simp only [pd, pds_is]; rfl) ?_ ?_ ?_ ?_ hp⟩
  · simp only [PyData.showable, showAllI hb]
  · simp only [PyData.hasDict, hasI]
  · have := depth_is is; simp only [PyData.depth]; omega
  · have h := listText_len_le (PyData.shownAll (is.map PyData.int))
    have h2 := shownI hb
    rw [show (PyData.list (is.map PyData.int)).shown = listText (PyData.shownAll (is.map PyData.int)) by simp only [PyData.shown], sizeLine_eq]
    omega
theorem len__law_signed_hold : ∀ ds n P X, R__law_signed_hold A ds n P X → ds.length = 3 := by rintro ds n P X ⟨_, _, _, rfl, -⟩; rfl
theorem w__law_signed_hold (T : TxtC K A) : ∀ Z ds n P, R__law_signed_hold A ds n P Z.X → Ws K Z (t__law_signed_hold K A) (startD 7 ds) n { nx := fun _ m => P .non m, rt := P } := by
  rintro Z ds n P ⟨x, e, is, rfl, hx, he, hl, hb, h⟩
  have hcd : (is.map fun i => D.str (cdO x (fo i).toNat)) = (is.map fun i => (fo i).toNat).map fun n => .str (cdO x n) := by rw [List.map_map]; rfl
  have hbn : ∀ n ∈ is.map (fun i => (fo i).toNat), n ≤ 2000000000 := fun n hn => by
    obtain ⟨i, hi, rfl⟩ := List.mem_map.mp hn
    exact (fo_nat (hb i hi).1 (hb i hi).2).2
  have hln : (is.map fun i => (fo i).toNat).length ≤ 1100 := by rw [List.length_map]; omega
  have hun : ((is.map fun i => (fo i).toNat).map fun (n : Nat) => D.int (un (n : Int))) = is.map D.int := by
    rw [List.map_map]
    refine List.map_congr_left fun i hi => ?_
    show D.int (un ((fo i).toNat : Int)) = D.int i
    rw [← (fo_nat (hb i hi).1 (hb i hi).2).1, un_fo]
  obtain ⟨sh, hsh⟩ := reprI (K := K) (is := is) hl fun i hi => by have := hb i hi; omega
  unfold t__law_signed_hold
  walk_at "w"
  refine we_lcmap (fI fun i => .str (cdO x (fo i).toNat)) (wi_list ?_)
  walk_at "w"
  refine ⟨by rw [List.length_map]; omega, fun d hd => ?_, ?_⟩
  · obtain ⟨i, hi, rfl⟩ := List.mem_map.mp hd
    obtain ⟨b1, b2⟩ := hb i hi
    obtain ⟨f1, f2⟩ := fo_nat b1 b2
    refine wgc_name (by simp) ?_
    walk_at "w"
    refine ⟨_, rfl, by omega, by omega, ?_⟩
    rw [f1]
    walk_at "w"
    exact ⟨_, _, rfl, hx, by omega, rfl, rfl⟩
  rw [mapI]
  rw [hcd]
  refine join_cd hln (fun n hn => Nat.le_trans (hbn n hn) (by decide)) ?_
  walk_at "w"
  refine we_lcmap (fI fun i => .str (cdO x (fo i).toNat)) (wi_list ?_)
  walk_at "w"
  refine ⟨by rw [List.length_map]; omega, fun d hd => ?_, ?_⟩
  · obtain ⟨i, hi, rfl⟩ := List.mem_map.mp hd
    obtain ⟨b1, b2⟩ := hb i hi
    obtain ⟨f1, f2⟩ := fo_nat b1 b2
    refine wgc_name (by simp) ?_
    walk_at "w"
    refine ⟨_, rfl, lk_signed, ?_⟩
    walk_at "w"
    exact ⟨_, _, _, rfl, hx, b1, b2, rfl, rfl⟩
  rw [mapI]
  rw [hcd]
  refine join_cd hln (fun n hn => Nat.le_trans (hbn n hn) (by decide)) ?_
  walk_at "w"
  generalize hns : (is.map fun i => (fo i).toNat) = ns at *
  rw [decide_eq_true (rfl : txO x ns = txO x ns)]
  walk_at "w"
  refine we_listZ (wz_methN ?_)
  walk_at "w"
  refine ⟨_, rfl, lk_signed_in, ?_⟩
  walk_at "w"
  refine ⟨rfl, _, _, _, rfl, hx, he, hln, hbn, ?_⟩
  rw [hun]
  walk_at "w"
  refine hsh _ ?_
  walk_at "w"
  refine hsh _ ?_
  walk_at "w"
  rw [decide_eq_true (rfl : sh = sh)]
  walk_at "w"
  refine we_lcmap (fI fun i => .int (fo i)) (wi_list ?_)
  walk_at "w"
  refine ⟨by rw [List.length_map]; omega, fun d hd => ?_, ?_⟩
  · obtain ⟨i, hi, rfl⟩ := List.mem_map.mp hd
    obtain ⟨b1, b2⟩ := hb i hi
    obtain ⟨f1, f2⟩ := fo_nat b1 b2
    refine wgc_name (by simp) ?_
    walk_at "w"
    exact ⟨_, rfl, by omega, by omega, rfl, rfl⟩
  rw [mapI]
  rw [show (is.map fun i => D.int (fo i)) = (is.map fo).map D.int by rw [List.map_map]; rfl]
  walk_at "w"
  refine we_lcmap (fI fun i => .int (fo i)) (wi_list ?_)
  walk_at "w"
  refine ⟨by rw [List.length_map]; omega, fun d hd => ?_, ?_⟩
  · obtain ⟨i, hi, rfl⟩ := List.mem_map.mp hd
    obtain ⟨b1, b2⟩ := hb i hi
    obtain ⟨f1, f2⟩ := fo_nat b1 b2
    refine wgc_name (by simp) ?_
    walk_at "w"
    exact ⟨_, rfl, by omega, by omega, rfl, rfl⟩
  rw [mapI]
  rw [show (is.map fun i => D.int (fo i)) = (is.map fo).map D.int by rw [List.map_map]; rfl]
  refine neq_ints ?_
  walk_at "w"
  refine we_lcmap (fI fun i => .int (un i)) (wi_list ?_)
  walk_at "w"
  refine ⟨by rw [List.length_map, List.length_map]; omega, fun d hd => ?_, ?_⟩
  · obtain ⟨j, hj, rfl⟩ := List.mem_map.mp hd
    obtain ⟨i, hi, rfl⟩ := List.mem_map.mp hj
    obtain ⟨b1, b2⟩ := hb i hi
    obtain ⟨f1, f2⟩ := fo_nat b1 b2
    refine wgc_name (by simp) ?_
    walk_at "w"
    exact ⟨_, rfl, by omega, by omega, rfl, rfl⟩
  rw [mapI, show ((is.map fo).map fun i => D.int (un i)) = is.map D.int by rw [List.map_map]; exact List.map_congr_left fun i _ => congrArg D.int (un_fo i)]
  walk_at "w"
  refine eqq_ints ?_
  exact h
end
end Lw

namespace Lw
open PySem L2 StX DL
section
variable {K : PySem.W.Frag} [Tb K] {Z : ZX} {A : Ad}
/-- one step -/
local macro_rules | `(tactic| walk_at "w1") => `(tactic| first
  | with_reducible refine ws_seq ?_
  | with_reducible refine ws_if ?_
  | with_reducible refine ws_ret ?_
  | ((fail_if_success (with_reducible show Ws _ _ (tDrop (tBM _ _ _ _ _)) _ _ _)); (with_reducible refine ws_drop ?_))
  | with_reducible refine ws_next ?_
  | with_reducible refine ws_par ?_
  | ((fail_if_success (with_reducible show Ws _ _ (tAsg _ (gSub _ _ _)) _ _ _)); (with_reducible refine ws_asg ?_))
  | with_reducible refine wg_name ?_
  | with_reducible refine we_int ?_
  | with_reducible refine we_bl ?_
  | with_reducible refine we_non ?_
  | with_reducible refine we_str ?_
  | with_reducible refine we_ty ?_
  | with_reducible refine we_cls ?_
  | with_reducible refine ws_par3 ?_
  | ((with_reducible show We _ _ (tVar _) _ _ _); refine we_var rfl rfl ?_)
  | ((with_reducible show We _ _ (tVar _) _ _ _); refine we_var rfl (mut_oP _) ?_)
  | with_reducible refine we_rep ?_
  | with_reducible refine we_op ?_
  | with_reducible refine we_un ?_
  | with_reducible refine we_cb ?_
  | with_reducible refine we_callX ?_
  | with_reducible refine we_call ?_
  | with_reducible refine we_callNX ?_
  | with_reducible refine we_callN ?_
  | with_reducible refine we_methN ?_
  | with_reducible refine we_callON ?_
  | with_reducible refine we_callOX ?_
  | with_reducible refine we_exf ?_
  | with_reducible refine we_dnew ?_
  | with_reducible refine ws_raise ?_
  | with_reducible refine we_tup ?_
  | with_reducible refine we_lst ?_
  | with_reducible refine we_sl ?_
  | with_reducible refine we_m1 ?_
  | with_reducible refine we_andV ?_
  | with_reducible refine we_orV ?_
  | with_reducible refine we_notV ?_
  | with_reducible refine we_if ?_
  | with_reducible refine we_chain ?_
  | with_reducible refine we_fld ?_
  | with_reducible refine we_methX ?_
  | with_reducible refine we_meth ?_
  | with_reducible refine we_prop ?_
  | with_reducible refine we_callO' ?_
  | with_reducible refine we_makeX ?_
  | with_reducible refine we_make ?_
  | with_reducible refine wt_test ?_
  | with_reducible refine wt_B ?_
  | with_reducible refine wt_yes ?_
  | with_reducible refine wt_and ?_
  | with_reducible refine wt_or ?_
  | with_reducible refine wt_not ?_
  | with_reducible refine wa_nil ?_
  | with_reducible refine wa_cons ?_
  | with_reducible refine wo_none ?_
  | with_reducible refine wo_some ?_
  | with_reducible refine add_int ?_
  | with_reducible refine sub_int ?_
  | with_reducible refine neg_int ?_
  | ((with_reducible refine mod_int ?_ ?_); (focus (first | assumption | omega)))
  | ((with_reducible refine mul_int ?_ ?_); (focus (first | exact Or.inl ⟨by omega, by omega⟩ | exact Or.inr ⟨by omega, by omega⟩)))
  | ((with_reducible refine fdiv_int ?_ ?_); (focus (exact ⟨by omega, by omega⟩)))
  | ((with_reducible refine pow_int ?_ ?_); (focus (exact ⟨by decide, by decide, by decide⟩)))
  | with_reducible refine is_non ?_
  | with_reducible refine not_non ?_
  | with_reducible refine eq_int ?_
  | with_reducible refine ne_int ?_
  | with_reducible refine eq_pos ?_
  | with_reducible refine ne_pos ?_
  | with_reducible refine ne_oPs ?_
  | with_reducible refine ne_nn ?_
  | with_reducible refine ne_np ?_
  | with_reducible refine ne_pn ?_
  | with_reducible refine eq_str ?_
  | with_reducible refine ne_str ?_
  | with_reducible refine eq_bl ?_
  | with_reducible refine ne_bl ?_
  | with_reducible refine lt_int ?_
  | with_reducible refine gt_int ?_
  | with_reducible refine le_int ?_
  | with_reducible refine ge_int ?_
  | with_reducible refine lt_pos ?_
  | with_reducible refine gt_pos ?_
  | with_reducible refine le_pos ?_
  | with_reducible refine ge_pos ?_
  | with_reducible refine int_int ?_
  | with_reducible refine min_int ?_
  | with_reducible refine max_int ?_
  | with_reducible refine len_lst ?_
  | with_reducible refine len_tup ?_
  | ((with_reducible refine len_take ?_ ?_ ?_); (focus (first | assumption | omega)); (focus (first | assumption | omega)))
  | ((with_reducible refine len_str ?_ ?_); (focus (first | assumption | omega)))
  | with_reducible refine tuple_lst ?_
  | with_reducible refine tuple_tup ?_
  | ((with_reducible refine sl_to ?_ ?_ ?_); (focus (first | assumption | omega)); (focus (first | assumption | omega)))
  | ((with_reducible refine sl_from ?_ ?_ ?_); (focus (first | assumption | omega)); (focus (first | assumption | omega)))
  | ((with_reducible refine sl_mid ?_ ?_ ?_ ?_); (focus (first | assumption | omega)); (focus (first | assumption | omega)); (focus (first | assumption | omega)))
  | with_reducible refine sl_lst ?_
  | with_reducible refine sl_tup ?_
  | ((with_reducible refine sl_str ?_ ?_); (focus (first | assumption | omega)))
  | with_reducible refine mt_nl ?_
  | with_reducible refine mt_countD ?_
  | with_reducible refine mt_rfindD ?_
  | ((with_reducible refine mt_splitnl ?_ ?_); (focus (first | assumption | omega)))
  | ((with_reducible refine mt_splitD ?_ ?_ ?_); (focus rfl); (focus (first | assumption | omega)))
  | ((with_reducible show Op _ (rIx _) (D.tup _) (D.int _) _); refine ix_tup (by decide) rfl ?_)
  | ((with_reducible show Op _ (rIx _) (D.lst _) (D.int _) _); refine ix_lst (n := 0) (by decide) rfl ?_)
  | ((with_reducible show Cb _ (rIsi _) [D.int _, D.ty _] _); first | refine isiI (r := true) (by decide +kernel) ?_ | refine isiI (r := false) (by decide +kernel) ?_)
  | ((with_reducible show Cb _ (rIsi _) [D.str _, D.ty _] _); first | refine isiS (r := true) (by decide +kernel) ?_ | refine isiS (r := false) (by decide +kernel) ?_)
  | ((with_reducible show Cb _ (rIsi _) [D.tup _, D.ty _] _); first | refine isiT (r := true) (by decide +kernel) ?_ | refine isiT (r := false) (by decide +kernel) ?_)
  | ((with_reducible show Wg _ _ (gTup _ _ _) _ _ _); refine wg_tup rfl rfl ?_)
  | ((with_reducible show Wgs _ _ gNil _ _ _); refine wgs_nil rfl ?_)
  | ((with_reducible show Wgs _ _ (gCons _ _) _ _ _); refine wgs_cons rfl ?_)
  | ((with_reducible show ∃ _, D.bl _ = D.bl _ ∧ _); refine ⟨_, rfl, ?_⟩)
  | ((with_reducible show ∃ _, D.int _ = D.int _ ∧ _); refine ⟨_, rfl, ?_⟩)
  | ((with_reducible show ∃ _, D.str _ = D.str _ ∧ _); refine ⟨_, rfl, ?_⟩)
  | ((with_reducible show ∃ _, D.tup _ = D.tup _ ∧ _); refine ⟨_, rfl, ?_⟩)
  | ((with_reducible show ∃ _, D.lst _ = D.lst _ ∧ _); refine ⟨_, rfl, ?_⟩)
  | with_reducible refine iteNT ?_
  | with_reducible refine iteNF ?_
  | ((with_reducible show if true = true then _ else _); rw [if_pos rfl])
  | ((with_reducible show if false = true then _ else _); rw [if_neg Bool.false_ne_true])
  | ((with_reducible show List.length _ ≤ 1000000 ∧ _); refine ⟨?_, ?_⟩; (focus (simp; done)))
  | fail "no step")
local macro_rules | `(tactic| walk_at "w") => `(tactic| repeat (walk_at "w1"))
local macro_rules | `(tactic| walk_at "ws") => `(tactic| repeat ((fail_if_success (with_reducible show We _ _ (tChain _ _ _ _ _) _ _ _)); (fail_if_success (with_reducible show Wt _ _ (tAnd _ _) _ _ _)); (fail_if_success (with_reducible show We _ _ (tOrT _ _ _) _ _ _)); walk_at "w1"))
local macro_rules | `(tactic| walk_at "wm") => `(tactic| repeat ((fail_if_success (with_reducible show Ws _ _ (tAsg (tLst _) _) _ _ _)); walk_at "w1"))

theorem len__law_sized : ∀ ds n P X, R__law_sized A ds n P X → ds.length = 2 := by rintro ds n P X ⟨_, _, rfl, -⟩; rfl
theorem w__law_sized (T : TxtC K A) : ∀ Z ds n P, R__law_sized A ds n P Z.X → Ws K Z (t__law_sized K A) (startD 6 ds) n { nx := fun _ m => P .non m, rt := P } := by
  rintro Z ds n P ⟨a, L, rfl, hL, hn, h⟩
  unfold t__law_sized
  walk_at "w"
  refine ⟨a, _, rfl, by omega, by omega, by omega, fun r r0 r1 => ?_⟩
  walk_at "w"
  refine ⟨_, _, rfl, ?_⟩
  walk_at "w"
  refine ws_for (wi_range1 ?_)
  walk_at "w"
  refine ⟨_, rfl, ⟨by omega, by omega⟩, fun i ds' k => k = n + 1 + i ∧ ∃ (f : Int) (b : Option D), 0 ≤ f ∧ f + 1 ≤ ((2 ^ (i + 1) : Nat) : Int) ∧ ds' = [some (.strm a .cells), some (.int L), some (.int (1 + r)), some (.int f), b, none], ⟨rfl, 1, _, by omega, by decide, rfl⟩, ?_, ?_⟩
  · rintro i x ds' k hx ⟨rfl, f, b, f0, f1, rfl⟩
    obtain ⟨hi, rfl⟩ := rng_get2 hx
    have hp : 2 ^ (i + 1) ≤ 2 ^ 41 := Nat.pow_le_pow_right (by decide) (by omega)
    have hq : 2 ^ (i + 1 + 1) = 2 * 2 ^ (i + 1) := by rw [Nat.pow_succ, Nat.mul_comm]
    walk_at "w"
    refine ⟨a, _, rfl, by omega, by omega, by omega, fun c c0 c1 => ?_⟩
    walk_at "w"
    refine ⟨by omega, _, _, ?_, ?_, rfl⟩
    · omega
    · rw [hq]; omega
  · rintro ds' k ⟨rfl, f, b, f0, f1, rfl⟩
    have hrl : (rng 0 (1 + r).toNat).length ≤ 40 := by rw [rng_len]; omega
    generalize (rng 0 (1 + r).toNat).length = w at *
    have hp : 2 ^ (w + 1) ≤ 2 ^ 41 := Nat.pow_le_pow_right (by decide) (by omega)
    have hf : f ≤ 2199023255552 := by omega
    walk_at "w"
    refine ws_for (wi_range1 ?_)
    walk_at "w"
    refine ⟨a, _, rfl, by omega, by omega, by omega, fun q q0 q1 => ?_⟩
    walk_at "w"
    refine ⟨_, rfl, ⟨by omega, by omega⟩, fun i ds' k => k = n + 1 + w + 1 ∧ ∃ (b : Option D), ds' = [some (.strm a .cells), some (.int L), some (.int (1 + r)), some (.int f), b, some (.int ((32 ^ i : Nat) : Int))], ⟨by omega, _, rfl⟩, ?_, ?_⟩
    · rintro i x ds' k hx ⟨rfl, b, rfl⟩
      obtain ⟨hi, rfl⟩ := rng_get2 hx
      have hp : 32 ^ i ≤ 32 ^ 9 := Nat.pow_le_pow_right (by decide) (by omega)
      generalize hg : 32 ^ i = g at *
      walk_at "w"
      refine ⟨by omega, some (.int (0 + (i : Nat))), ?_⟩
      rw [Nat.pow_succ, hg, Int.natCast_mul]
      rfl
    · rintro ds' k ⟨rfl, b, rfl⟩
      have hrl2 : (rng 0 q.toNat).length ≤ 9 := by rw [rng_len]; omega
      have hp : 32 ^ (rng 0 q.toNat).length ≤ 32 ^ 9 := Nat.pow_le_pow_right (by decide) hrl2
      have hp1 : 1 ≤ 32 ^ (rng 0 q.toNat).length := Nat.one_le_pow _ _ (by decide)
      generalize 32 ^ (rng 0 q.toNat).length = g at *
      have fin : ∀ v : Int, 0 ≤ v → P (.int (if v < (L : Int) then v else (L : Int))) (n + 1 + w + 1 + 1) := fun v hv => by
        obtain ⟨u, hu⟩ : ∃ u : Nat, (if v < (L : Int) then v else (L : Int)) = (u : Int) ∧ u ≤ L := by
          split
          · exact ⟨v.toNat, by omega, by omega⟩
          · exact ⟨L, rfl, Nat.le_refl _⟩
        rw [hu.1]
        exact h u _ hu.2 (by omega) (by omega)
      walk_at "w"
      refine ⟨a, _, rfl, by omega, by omega, by omega, fun c c0 c1 => ?_⟩
      rcases (show c = 0 ∨ c = 1 ∨ c = 2 ∨ c = 3 ∨ c = 4 by omega) with rfl | rfl | rfl | rfl | rfl
      all_goals
        walk_at "w"
        exact fin _ (by omega)
end
end Lw

namespace Lw
open PySem L2 StX DL
theorem cd0 (x : Str) : tl (cdO x 0) = [(tl x).getD 0 0] := by
  show up (tl x) (0 / 32) [(tl x).getD (0 % 32) 0] = _
  rw [up_eq]; rfl
theorem cd31 (x : Str) : tl (cdO x 31) = [(tl x).getD 31 0] := by
  show up (tl x) (31 / 32) [(tl x).getD (31 % 32) 0] = _
  rw [up_eq]; rfl
theorem cd32 (x : Str) : tl (cdO x 32) = [(tl x).getD 33 0, (tl x).getD 0 0] := by
  show up (tl x) (32 / 32) [(tl x).getD (32 % 32) 0] = _
  rw [up_eq, if_neg (by decide), up_eq, if_pos (by decide)]
theorem ends_ok : txO (Str.ofString "ABCDEFGHIJKLMNOPQRSTUVWXYZabcdefghijklmnopqrstuvwxyz0123456789+/") [0, 31, 32, 1000000000000] = Str.ofString "AfhA" ++ cdO (Str.ofString "ABCDEFGHIJKLMNOPQRSTUVWXYZabcdefghijklmnopqrstuvwxyz0123456789+/") 1000000000000 := by
  apply TL.ext_tl
  refine Eq.trans ?_ (TL.tl_append _ _).symm
  show (([0, 31, 32, 1000000000000].map fun n => tl (cdO _ n)).flatten : List Nat) = _
  simp only [List.map_cons, List.map_nil, List.flatten_cons, List.flatten_nil, List.append_nil, cd0, cd31, cd32]
  rw [← List.append_assoc, ← List.append_assoc]
  congr 1
section
variable {K : PySem.W.Frag} [Tb K] {Z : ZX} {A : Ad}
/-- one step -/
local macro_rules | `(tactic| walk_at "w1") => `(tactic| first
  | with_reducible refine ws_seq ?_
  | with_reducible refine ws_if ?_
  | with_reducible refine ws_ret ?_
  | ((fail_if_success (with_reducible show Ws _ _ (tDrop (tBM _ _ _ _ _)) _ _ _)); (with_reducible refine ws_drop ?_))
  | with_reducible refine ws_next ?_
  | with_reducible refine ws_par ?_
  | ((fail_if_success (with_reducible show Ws _ _ (tAsg _ (gSub _ _ _)) _ _ _)); (with_reducible refine ws_asg ?_))
  | with_reducible refine wg_name ?_
  | with_reducible refine we_int ?_
  | with_reducible refine we_bl ?_
  | with_reducible refine we_non ?_
  | with_reducible refine we_str ?_
  | with_reducible refine we_ty ?_
  | with_reducible refine we_cls ?_
  | with_reducible refine ws_par3 ?_
  | ((with_reducible show We _ _ (tVar _) _ _ _); refine we_var rfl rfl ?_)
  | ((with_reducible show We _ _ (tVar _) _ _ _); refine we_var rfl (mut_oP _) ?_)
  | with_reducible refine we_rep ?_
  | with_reducible refine we_op ?_
  | with_reducible refine we_un ?_
  | with_reducible refine we_cb ?_
  | with_reducible refine we_callX ?_
  | with_reducible refine we_call ?_
  | with_reducible refine we_callNX ?_
  | with_reducible refine we_callN ?_
  | with_reducible refine we_methN ?_
  | with_reducible refine we_callON ?_
  | with_reducible refine we_callOX ?_
  | with_reducible refine we_exf ?_
  | with_reducible refine we_dnew ?_
  | with_reducible refine ws_raise ?_
  | with_reducible refine we_tup ?_
  | with_reducible refine we_lst ?_
  | with_reducible refine we_sl ?_
  | with_reducible refine we_m1 ?_
  | with_reducible refine we_andV ?_
  | with_reducible refine we_orV ?_
  | with_reducible refine we_notV ?_
  | with_reducible refine we_if ?_
  | with_reducible refine we_chain ?_
  | with_reducible refine we_fld ?_
  | with_reducible refine we_methX ?_
  | with_reducible refine we_meth ?_
  | with_reducible refine we_prop ?_
  | with_reducible refine we_callO' ?_
  | with_reducible refine we_makeX ?_
  | with_reducible refine we_make ?_
  | with_reducible refine wt_test ?_
  | with_reducible refine wt_B ?_
  | with_reducible refine wt_yes ?_
  | with_reducible refine wt_and ?_
  | with_reducible refine wt_or ?_
  | with_reducible refine wt_not ?_
  | with_reducible refine wa_nil ?_
  | with_reducible refine wa_cons ?_
  | with_reducible refine wo_none ?_
  | with_reducible refine wo_some ?_
  | with_reducible refine add_int ?_
  | with_reducible refine sub_int ?_
  | with_reducible refine neg_int ?_
  | ((with_reducible refine mod_int ?_ ?_); (focus (first | assumption | omega)))
  | ((with_reducible refine mul_int ?_ ?_); (focus (first | exact Or.inl ⟨by omega, by omega⟩ | exact Or.inr ⟨by omega, by omega⟩)))
  | ((with_reducible refine fdiv_int ?_ ?_); (focus (exact ⟨by omega, by omega⟩)))
  | ((with_reducible refine pow_int ?_ ?_); (focus (exact ⟨by decide, by decide, by decide⟩)))
  | with_reducible refine is_non ?_
  | with_reducible refine not_non ?_
  | with_reducible refine eq_int ?_
  | with_reducible refine ne_int ?_
  | with_reducible refine eq_pos ?_
  | with_reducible refine ne_pos ?_
  | with_reducible refine ne_oPs ?_
  | with_reducible refine ne_nn ?_
  | with_reducible refine ne_np ?_
  | with_reducible refine ne_pn ?_
  | with_reducible refine eq_str ?_
  | with_reducible refine ne_str ?_
  | with_reducible refine eq_bl ?_
  | with_reducible refine ne_bl ?_
  | with_reducible refine lt_int ?_
  | with_reducible refine gt_int ?_
  | with_reducible refine le_int ?_
  | with_reducible refine ge_int ?_
  | with_reducible refine lt_pos ?_
  | with_reducible refine gt_pos ?_
  | with_reducible refine le_pos ?_
  | with_reducible refine ge_pos ?_
  | with_reducible refine int_int ?_
  | with_reducible refine min_int ?_
  | with_reducible refine max_int ?_
  | with_reducible refine len_lst ?_
  | with_reducible refine len_tup ?_
  | ((with_reducible refine len_take ?_ ?_ ?_); (focus (first | assumption | omega)); (focus (first | assumption | omega)))
  | ((with_reducible refine len_str ?_ ?_); (focus (first | assumption | omega)))
  | with_reducible refine tuple_lst ?_
  | with_reducible refine tuple_tup ?_
  | ((with_reducible refine sl_to ?_ ?_ ?_); (focus (first | assumption | omega)); (focus (first | assumption | omega)))
  | ((with_reducible refine sl_from ?_ ?_ ?_); (focus (first | assumption | omega)); (focus (first | assumption | omega)))
  | ((with_reducible refine sl_mid ?_ ?_ ?_ ?_); (focus (first | assumption | omega)); (focus (first | assumption | omega)); (focus (first | assumption | omega)))
  | with_reducible refine sl_lst ?_
  | with_reducible refine sl_tup ?_
  | ((with_reducible refine sl_str ?_ ?_); (focus (first | assumption | omega)))
  | with_reducible refine mt_nl ?_
  | with_reducible refine mt_countD ?_
  | with_reducible refine mt_rfindD ?_
  | ((with_reducible refine mt_splitnl ?_ ?_); (focus (first | assumption | omega)))
  | ((with_reducible refine mt_splitD ?_ ?_ ?_); (focus rfl); (focus (first | assumption | omega)))
  | ((with_reducible show Op _ (rIx _) (D.tup _) (D.int _) _); refine ix_tup (by decide) rfl ?_)
  | ((with_reducible show Op _ (rIx _) (D.lst _) (D.int _) _); refine ix_lst (n := 0) (by decide) rfl ?_)
  | ((with_reducible show Cb _ (rIsi _) [D.int _, D.ty _] _); first | refine isiI (r := true) (by decide +kernel) ?_ | refine isiI (r := false) (by decide +kernel) ?_)
  | ((with_reducible show Cb _ (rIsi _) [D.str _, D.ty _] _); first | refine isiS (r := true) (by decide +kernel) ?_ | refine isiS (r := false) (by decide +kernel) ?_)
  | ((with_reducible show Cb _ (rIsi _) [D.tup _, D.ty _] _); first | refine isiT (r := true) (by decide +kernel) ?_ | refine isiT (r := false) (by decide +kernel) ?_)
  | ((with_reducible show Wg _ _ (gTup _ _ _) _ _ _); refine wg_tup rfl rfl ?_)
  | ((with_reducible show Wgs _ _ gNil _ _ _); refine wgs_nil rfl ?_)
  | ((with_reducible show Wgs _ _ (gCons _ _) _ _ _); refine wgs_cons rfl ?_)
  | ((with_reducible show ∃ _, D.bl _ = D.bl _ ∧ _); refine ⟨_, rfl, ?_⟩)
  | ((with_reducible show ∃ _, D.int _ = D.int _ ∧ _); refine ⟨_, rfl, ?_⟩)
  | ((with_reducible show ∃ _, D.str _ = D.str _ ∧ _); refine ⟨_, rfl, ?_⟩)
  | ((with_reducible show ∃ _, D.tup _ = D.tup _ ∧ _); refine ⟨_, rfl, ?_⟩)
  | ((with_reducible show ∃ _, D.lst _ = D.lst _ ∧ _); refine ⟨_, rfl, ?_⟩)
  | with_reducible refine iteNT ?_
  | with_reducible refine iteNF ?_
  | ((with_reducible show if true = true then _ else _); rw [if_pos rfl])
  | ((with_reducible show if false = true then _ else _); rw [if_neg Bool.false_ne_true])
  | ((with_reducible show List.length _ ≤ 1000000 ∧ _); refine ⟨?_, ?_⟩; (focus (simp; done)))
  | fail "no step")
local macro_rules | `(tactic| walk_at "w") => `(tactic| repeat (walk_at "w1"))
local macro_rules | `(tactic| walk_at "ws") => `(tactic| repeat ((fail_if_success (with_reducible show We _ _ (tChain _ _ _ _ _) _ _ _)); (fail_if_success (with_reducible show Wt _ _ (tAnd _ _) _ _ _)); (fail_if_success (with_reducible show We _ _ (tOrT _ _ _) _ _ _)); walk_at "w1"))
local macro_rules | `(tactic| walk_at "wm") => `(tactic| repeat ((fail_if_success (with_reducible show Ws _ _ (tAsg (tLst _) _) _ _ _)); walk_at "w1"))

theorem len_law : ∀ ds n P X, R_law A ds n P X → ds.length = 1 := by rintro ds n P X ⟨_, rfl, -⟩; rfl
theorem w_law (T : TxtC K A) : ∀ Z ds n P, R_law A ds n P Z.X → Ws K Z (t_law K A) (startD 10 ds) n { nx := fun _ m => P .non m, rt := P } := by
  rintro Z ds n P ⟨ns, rfl, hn, rfl, h⟩
  have p9 : (10 : Int) ^ (9 : Int).toNat = 1000000000 := by decide
  have p12 : (10 : Int) ^ (12 : Int).toNat = 1000000000000 := by decide
  unfold t_law
  walk_at "w"
  refine ws_for (wi_list ?_)
  walk_at "w"
  refine ⟨ns, rfl, hn, by omega, fun ps => ?_⟩
  walk_at "w"
  refine ⟨fun i ds' k => i ≤ 3 ∧ k ≤ 600 + 3000 * i ∧ ∃ a b c d e f g h i : Option D, ds' = [some (.lst (ns.map .int)), a, b, c, d, e, f, g, h, i], ⟨by omega, by omega, _, _, _, _, _, _, _, _, _, rfl⟩, ?_, ?_⟩
  · rintro i y ds' k hy ⟨hi, hk, a1, a2, a3, a4, a5, a6, a7, a8, a9, rfl⟩
    obtain ⟨p, rfl⟩ : ∃ p, y = .strm p .cells := by
      have := List.mem_of_getElem? hy
      obtain ⟨p, -, e⟩ := List.mem_map.mp (List.mem_of_mem_drop (List.mem_of_mem_take this))
      exact ⟨p, e.symm⟩
    have hi3 : i < 3 := by
      have := (List.getElem?_eq_some_iff.mp hy).1
      unfold cutD at this
      rw [show (some 3 : Option Int) = some ((3 : Nat) : Int) from rfl, HT.sIx_nat, HT.sIx_none, List.length_take] at this
      omega
    walk_at "w"
    refine ⟨p, rfl, by omega, fun x k1 hx k2 k3 => ?_⟩
    walk_at "w"
    refine ⟨x, rfl, hx, fun e he => ?_⟩
    walk_at "w"
    refine we_lc (wi_range1 ?_)
    walk_at "w"
    refine ⟨p, _, rfl, by omega, by omega, by omega, fun r r0 r1 => ?_⟩
    walk_at "w"
    refine ⟨_, rfl, ⟨by omega, by omega⟩, fun i ys j => k1 + 1 ≤ j ∧ j ≤ k1 + 1 + 60 * i ∧ ∃ ms : List Nat, ys = ms.map (fun (n : Nat) => D.int (n : Int)) ∧ ms.length = i ∧ ∀ n ∈ ms, n ≤ 1000000000000, ⟨by omega, by omega, [], rfl, rfl, by simp⟩, ?_, ?_⟩
    · rintro i2 y2 ys j hy2 ⟨j1, j2, ms, rfl, hm, hmb⟩
      have hi2 := (rng_get2 hy2).1
      refine wgc_name (by simp) ?_
      walk_at "w"
      rw [p12]
      refine ⟨p, 1000000000000, rfl, by decide, by omega, fun v m v0 m0 m1 => ?_⟩
      refine ⟨by rw [List.length_map]; omega, by omega, by omega, ms ++ [v], by rw [List.map_append]; rfl, by rw [List.length_append, hm]; rfl, fun w hw => ?_⟩
      rcases List.mem_append.mp hw with z | z
      · exact hmb w z
      · rw [List.mem_singleton.mp z]; exact v0
    rintro ys k4 ⟨j1, j2, ms, rfl, hm, hmb⟩
    rw [rng_len] at hm j2
    walk_at "w"
    refine ⟨x, e, ms, rfl, hx, he, by omega, by omega, hmb, ?_⟩
    walk_at "w"
    refine we_lc (wi_range1 ?_)
    walk_at "w"
    refine ⟨p, _, rfl, by omega, by omega, by omega, fun r2 r20 r21 => ?_⟩
    walk_at "w"
    refine ⟨_, rfl, ⟨by omega, by omega⟩, fun i ys j => k4 + 1 ≤ j ∧ j ≤ k4 + 1 + 60 * i ∧ ∃ ms : List Nat, ys = ms.map (fun (n : Nat) => D.int (n : Int)) ∧ ms.length = i ∧ ∀ n ∈ ms, n ≤ 1000000000, ⟨by omega, by omega, [], rfl, rfl, by simp⟩, ?_, ?_⟩
    · rintro i2 y2 ys j hy2 ⟨j1, j2, ms, rfl, hm, hmb⟩
      have hi2 := (rng_get2 hy2).1
      refine wgc_name (by simp) ?_
      walk_at "w"
      rw [p9]
      refine ⟨p, 1000000000, rfl, by decide, by omega, fun v m v0 m0 m1 => ?_⟩
      refine ⟨by rw [List.length_map]; omega, by omega, by omega, ms ++ [v], by rw [List.map_append]; rfl, by rw [List.length_append, hm]; rfl, fun w hw => ?_⟩
      rcases List.mem_append.mp hw with z | z
      · exact hmb w z
      · rw [List.mem_singleton.mp z]; exact v0
    rintro ys k5 ⟨j3, j4, ms2, rfl, hm2, hmb2⟩
    rw [rng_len] at hm2 j4
    walk_at "w"
    refine we_lc (wi_list ?_)
    walk_at "w"
    refine ⟨fun i ys j => k5 ≤ j ∧ j ≤ k5 + i ∧ ∃ is : List Int, ys = is.map D.int ∧ is.length = i ∧ ∀ n ∈ is, -1000000000 ≤ n ∧ n ≤ 1000000000, ⟨by omega, by omega, [], rfl, rfl, by simp⟩, ?_, ?_⟩
    · rintro i2 y2 ys j hy2 ⟨j1, j2, is, rfl, hm, hmb⟩
      rw [List.getElem?_map] at hy2
      obtain ⟨v, hv, rfl⟩ := Option.map_eq_some_iff.mp hy2
      have hvb := hmb2 v (List.mem_of_getElem? hv)
      have hi2 := (List.getElem?_eq_some_iff.mp hv).1
      refine wgc_name (by simp) ?_
      walk_at "w"
      refine ⟨p, _, rfl, by omega, by omega, by omega, fun c c0 c1 => ?_⟩
      have step : ∀ w : Int, -1000000000 ≤ w → w ≤ 1000000000 → (is.map D.int).length < 1000000 ∧ k5 ≤ j + 1 ∧ j + 1 ≤ k5 + (i2 + 1) ∧ ∃ is' : List Int, is.map D.int ++ [D.int w] = is'.map D.int ∧ is'.length = i2 + 1 ∧ ∀ n ∈ is', -1000000000 ≤ n ∧ n ≤ 1000000000 := fun w w0 w1 => by
        refine ⟨by rw [List.length_map]; omega, by omega, by omega, is ++ [w], by rw [List.map_append]; rfl, by rw [List.length_append, hm]; rfl, fun n hn2 => ?_⟩
        rcases List.mem_append.mp hn2 with z | z
        · exact hmb n z
        · rw [List.mem_singleton.mp z]; exact ⟨w0, w1⟩
      rcases (show c = 0 ∨ c = 1 by omega) with rfl | rfl
      all_goals
        walk_at "w"
        exact step _ (by omega) (by omega)
    rintro ys k6 ⟨j5, j6, is, rfl, hm3, hmb3⟩
    rw [List.length_map] at hm3 j6
    walk_at "w"
    refine ⟨x, e, is, rfl, hx, he, by omega, hmb3, ?_⟩
    walk_at "w"
    refine we_lcmap id (wi_range1 ?_)
    walk_at "w"
    refine ⟨p, _, rfl, by omega, by omega, by omega, fun r3 r30 r31 => ?_⟩
    walk_at "w"
    refine ⟨_, rfl, ⟨by omega, by omega⟩, by rw [rng_len]; omega, fun y hy => ?_, ?_⟩
    · obtain ⟨j, hj, rfl⟩ := List.mem_map.mp (show y ∈ (List.range r3.toNat).map fun (i : Nat) => D.int (0 + (i : Int)) from hy)
      refine wgc_name (by simp) ?_
      walk_at "w"
      exact ⟨rfl, rfl⟩
    have hrg : ∀ j : Nat, rng 0 j = (List.range j).map fun (n : Nat) => D.int (n : Int) := fun j => by
      unfold rng
      refine List.map_congr_left fun i _ => ?_
      show D.int (0 + (i : Int)) = _
      rw [Int.zero_add]
    rw [List.map_id, hrg]
    have hsl : (List.range r3.toNat).length ≤ 1100 := by rw [List.length_range]; omega
    have hsb : ∀ n ∈ List.range r3.toNat, n ≤ 1000000000000 := fun n hn => by have := List.mem_range.mp hn; omega
    generalize List.range r3.toNat = sm at *
    walk_at "w"
    refine we_lcmap (fI fun i => .str (cdO x i.toNat)) (wi_list ?_)
    walk_at "w"
    refine ⟨by rw [List.length_map]; omega, fun d hd => ?_, ?_⟩
    · obtain ⟨m, hm, rfl⟩ := List.mem_map.mp hd
      refine wgc_name (by simp) ?_
      walk_at "w"
      refine ⟨_, rfl, ?_⟩
      walk_at "w"
      exact ⟨_, _, _, rfl, hx, hsb m hm, rfl, rfl⟩
    rw [mapC]
    refine join_cd hsl hsb ?_
    walk_at "w"
    refine we_listZ (wz_meth ?_)
    walk_at "w"
    refine ⟨_, rfl, lk_numbers_in, ?_⟩
    walk_at "w"
    refine ⟨_, _, _, rfl, hx, he, hsl, hsb, ?_⟩
    walk_at "w"
    refine ne_nI ?_
    walk_at "w"
    exact ⟨by omega, by omega, _, _, _, _, _, _, _, _, _, rfl⟩
  rintro ds' k ⟨hi, hk, a1, a2, a3, a4, a5, a6, a7, a8, a9, rfl⟩
  walk_at "w"
  obtain ⟨u, cv⟩ := T.cv_Alphabet_STANDARD
  refine we_cval T.crd_Alphabet cv ?_
  walk_at "w"
  refine ⟨rfl, ?_⟩
  walk_at "w"
  rw [p12]
  refine ⟨_, 1000000000000, rfl, std64, by decide, ?_⟩
  walk_at "w"
  refine we_methR (we_cmeth ?_)
  walk_at "w"
  refine ⟨rfl, ?_⟩
  walk_at "w"
  refine ⟨rfl, fun e => ?_⟩
  refine ⟨_, rfl, lk_codes, ?_⟩
  walk_at "w"
  rw [p12]
  refine ⟨_, _, [0, 31, 32, 1000000000000], rfl, std64, by decide, by decide, ?_⟩
  rw [ends_ok]
  walk_at "w"
  have hcl := cd_le (x := Str.ofString "ABCDEFGHIJKLMNOPQRSTUVWXYZabcdefghijklmnopqrstuvwxyz0123456789+/") (k := 1000000000000) (Nat.le_refl _)
  refine add_str (by rw [show (Str.ofString "AfhA").length = 4 by decide +kernel]; omega) ?_
  walk_at "w"
  rw [decide_eq_true rfl]
  exact h _
end
end Lw

namespace Lw
open PySem L2 StX DL
open PyProof.Rows (envOfC)
def top (i : Nat) : Stmt := PySem.Challenge.pw_mapstack_k25_whole_codes.main.body.getD i (.Pass ⟨0, 0, 0, 0⟩)
abbrev s_is_integer : Stmt := top 7
abbrev s_check_text : Stmt := top 11
abbrev s_digit_fits : Stmt := top 21
abbrev s__is_row_of_signs : Stmt := top 22
abbrev s__law_streams : Stmt := top 25
abbrev s__law_next : Stmt := top 26
abbrev s__law_free : Stmt := top 27
abbrev s__law_code : Stmt := top 29
abbrev s__law_folded : Stmt := top 30
abbrev s_is_count : Stmt := top 8
abbrev s_folded : Stmt := top 19
abbrev s_Alphabet_init : Stmt := inClass (top 23) 2
abbrev s_Alphabet_read : Stmt := inClass (top 23) 14
abbrev s__law_signs : Stmt := top 28
abbrev s__law_sized : Stmt := top 31
abbrev s_is_up_to : Stmt := top 9
abbrev s_Alphabet_numbers_in : Stmt := inClass (top 23) 15
abbrev s_check_up_to : Stmt := top 10
abbrev s_Alphabet_standard : Stmt := inClass (top 23) 3
abbrev s_unfolded : Stmt := top 20
abbrev s_Alphabet_code_of : Stmt := inClass (top 23) 4
abbrev s_Alphabet_call : Stmt := inClass (top 23) 5
abbrev s_Alphabet_signed : Stmt := inClass (top 23) 6
abbrev s_Alphabet_codes : Stmt := inClass (top 23) 7
abbrev s_Alphabet_signed_in : Stmt := inClass (top 23) 16
abbrev s__law_codes_hold : Stmt := top 32
abbrev s__law_signed_hold : Stmt := top 33
abbrev s_law : Stmt := top 34
structure Fd where
  d_is_integer : FuncData
  d_check_text : FuncData
  d_digit_fits : FuncData
  d__is_row_of_signs : FuncData
  d__law_streams : FuncData
  d__law_next : FuncData
  d__law_free : FuncData
  d__law_code : FuncData
  d__law_folded : FuncData
  d_is_count : FuncData
  d_folded : FuncData
  d_Alphabet_init : FuncData
  d_Alphabet_read : FuncData
  d__law_signs : FuncData
  d__law_sized : FuncData
  d_is_up_to : FuncData
  d_Alphabet_numbers_in : FuncData
  d_check_up_to : FuncData
  d_Alphabet_standard : FuncData
  d_unfolded : FuncData
  d_Alphabet_code_of : FuncData
  d_Alphabet_call : FuncData
  d_Alphabet_signed : FuncData
  d_Alphabet_codes : FuncData
  d_Alphabet_signed_in : FuncData
  d__law_codes_hold : FuncData
  d__law_signed_hold : FuncData
  d_law : FuncData
abbrev N_is_integer : List Str := ["value"]
theorem sc_is_integer : FnScope N_is_integer ["value"] (defScope s_is_integer) := ⟨rfl, rfl, rfl, by decide +kernel, rfl, by decide +kernel, by decide +kernel⟩
abbrev N_check_text : List Str := ["value"]
theorem sc_check_text : FnScope N_check_text ["value"] (defScope s_check_text) := ⟨rfl, rfl, rfl, by decide +kernel, rfl, by decide +kernel, by decide +kernel⟩
abbrev N_digit_fits : List Str := ["number", "index", "even_top", "odd_top", "digit", "made"]
theorem sc_digit_fits : FnScope N_digit_fits ["number", "index", "even_top", "odd_top"] (defScope s_digit_fits) := ⟨rfl, rfl, rfl, by decide +kernel, rfl, by decide +kernel, by decide +kernel⟩
abbrev N__is_row_of_signs : List Str := ["value", "sign"]
theorem sc__is_row_of_signs : FnScope N__is_row_of_signs ["value"] (defScope s__is_row_of_signs) := ⟨rfl, rfl, rfl, by decide +kernel, rfl, by decide +kernel, by decide +kernel⟩
abbrev N__law_streams : List Str := ["script", "cells", "found", "k", "cell"]
theorem sc__law_streams : FnScope N__law_streams ["script"] (defScope s__law_streams) := ⟨rfl, rfl, rfl, by decide +kernel, rfl, by decide +kernel, by decide +kernel⟩
abbrev N__law_next : List Str := ["stream", "count", "found", "at", "cells", "offset", "own_number"]
theorem sc__law_next : FnScope N__law_next ["stream", "count"] (defScope s__law_next) := ⟨rfl, rfl, rfl, by decide +kernel, rfl, by decide +kernel, by decide +kernel⟩
abbrev N__law_free : List Str := ["found"]
theorem sc__law_free : FnScope N__law_free [] (defScope s__law_free) := ⟨rfl, rfl, rfl, by decide +kernel, rfl, by decide +kernel, by decide +kernel⟩
abbrev N__law_code : List Str := ["signs", "own_number", "found", "rest"]
theorem sc__law_code : FnScope N__law_code ["signs", "own_number"] (defScope s__law_code) := ⟨rfl, rfl, rfl, by decide +kernel, rfl, by decide +kernel, by decide +kernel⟩
abbrev N__law_folded : List Str := ["own_number"]
theorem sc__law_folded : FnScope N__law_folded ["own_number"] (defScope s__law_folded) := ⟨rfl, rfl, rfl, by decide +kernel, rfl, by decide +kernel, by decide +kernel⟩
abbrev N_is_count : List Str := ["value"]
theorem sc_is_count : FnScope N_is_count ["value"] (defScope s_is_count) := ⟨rfl, rfl, rfl, by decide +kernel, rfl, by decide +kernel, by decide +kernel⟩
abbrev N_folded : List Str := ["number"]
theorem sc_folded : FnScope N_folded ["number"] (defScope s_folded) := ⟨rfl, rfl, rfl, by decide +kernel, rfl, by decide +kernel, by decide +kernel⟩
abbrev N_Alphabet_init : List Str := ["self", "signs", "index", "sign"]
theorem sc_Alphabet_init : FnScope N_Alphabet_init ["self", "signs"] (defScope s_Alphabet_init) := ⟨rfl, rfl, rfl, by decide +kernel, rfl, by decide +kernel, by decide +kernel⟩
abbrev N_Alphabet_read : List Str := ["self", "text", "limit", "numbers", "number", "begun", "place_index", "sign", "index"]
theorem sc_Alphabet_read : FnScope N_Alphabet_read ["self", "text", "limit"] (defScope s_Alphabet_read) := ⟨rfl, rfl, rfl, by decide +kernel, rfl, by decide +kernel, by decide +kernel⟩
abbrev N__law_signs : List Str := ["stream", "found", "free", "first", "step", "k"]
theorem sc__law_signs : FnScope N__law_signs ["stream"] (defScope s__law_signs) := ⟨rfl, rfl, rfl, by decide +kernel, rfl, by decide +kernel, by decide +kernel⟩
abbrev N__law_sized : List Str := ["stream", "most", "size", "found", "k", "power"]
theorem sc__law_sized : FnScope N__law_sized ["stream", "most"] (defScope s__law_sized) := ⟨rfl, rfl, rfl, by decide +kernel, rfl, by decide +kernel, by decide +kernel⟩
abbrev N_is_up_to : List Str := ["value", "limit"]
theorem sc_is_up_to : FnScope N_is_up_to ["value", "limit"] (defScope s_is_up_to) := ⟨rfl, rfl, rfl, by decide +kernel, rfl, by decide +kernel, by decide +kernel⟩
abbrev N_Alphabet_numbers_in : List Str := ["self", "text", "numbers", "wrong", "number"]
theorem sc_Alphabet_numbers_in : GScope N_Alphabet_numbers_in ["self", "text"] (defScope s_Alphabet_numbers_in) := ⟨rfl, rfl, rfl, by decide +kernel, rfl, by decide +kernel, by decide +kernel⟩
abbrev N_check_up_to : List Str := ["value", "limit"]
theorem sc_check_up_to : FnScope N_check_up_to ["value", "limit"] (defScope s_check_up_to) := ⟨rfl, rfl, rfl, by decide +kernel, rfl, by decide +kernel, by decide +kernel⟩
abbrev N_Alphabet_standard : List Str := ["cls"]
theorem sc_Alphabet_standard : FnScope N_Alphabet_standard ["cls"] (defScope s_Alphabet_standard) := ⟨rfl, rfl, rfl, by decide +kernel, rfl, by decide +kernel, by decide +kernel⟩
abbrev N_unfolded : List Str := ["number", "half"]
theorem sc_unfolded : FnScope N_unfolded ["number"] (defScope s_unfolded) := ⟨rfl, rfl, rfl, by decide +kernel, rfl, by decide +kernel, by decide +kernel⟩
abbrev N_Alphabet_code_of : List Str := ["self", "number", "code", "rest"]
theorem sc_Alphabet_code_of : FnScope N_Alphabet_code_of ["self", "number"] (defScope s_Alphabet_code_of) := ⟨rfl, rfl, rfl, by decide +kernel, rfl, by decide +kernel, by decide +kernel⟩
abbrev N_Alphabet_call : List Str := ["self", "number"]
theorem sc_Alphabet_call : FnScope N_Alphabet_call ["self", "number"] (defScope s_Alphabet_call) := ⟨rfl, rfl, rfl, by decide +kernel, rfl, by decide +kernel, by decide +kernel⟩
abbrev N_Alphabet_signed : List Str := ["self", "number"]
theorem sc_Alphabet_signed : FnScope N_Alphabet_signed ["self", "number"] (defScope s_Alphabet_signed) := ⟨rfl, rfl, rfl, by decide +kernel, rfl, by decide +kernel, by decide +kernel⟩
abbrev N_Alphabet_codes : List Str := ["self", "numbers", "number"]
theorem sc_Alphabet_codes : FnScope N_Alphabet_codes ["self", "numbers"] (defScope s_Alphabet_codes) := ⟨rfl, rfl, rfl, by decide +kernel, rfl, by decide +kernel, by decide +kernel⟩
abbrev N_Alphabet_signed_in : List Str := ["self", "text", "numbers", "wrong", "number"]
theorem sc_Alphabet_signed_in : GScope N_Alphabet_signed_in ["self", "text"] (defScope s_Alphabet_signed_in) := ⟨rfl, rfl, rfl, by decide +kernel, rfl, by decide +kernel, by decide +kernel⟩
abbrev N__law_codes_hold : List Str := ["alphabet", "signs", "numbers", "due", "first", "one", "other", "own_number"]
theorem sc__law_codes_hold : FnScope N__law_codes_hold ["alphabet", "signs", "numbers"] (defScope s__law_codes_hold) := ⟨rfl, rfl, rfl, by decide +kernel, rfl, by decide +kernel, by decide +kernel⟩
abbrev N__law_signed_hold : List Str := ["alphabet", "signs", "numbers", "due", "told", "own_number", "one"]
theorem sc__law_signed_hold : FnScope N__law_signed_hold ["alphabet", "signs", "numbers"] (defScope s__law_signed_hold) := ⟨rfl, rfl, rfl, by decide +kernel, rfl, by decide +kernel, by decide +kernel⟩
abbrev N_law : List Str := ["script", "stream", "signs", "alphabet", "numbers", "small", "row", "last", "k", "own_number"]
theorem sc_law : FnScope N_law ["script"] (defScope s_law) := ⟨rfl, rfl, rfl, by decide +kernel, rfl, by decide +kernel, by decide +kernel⟩
structure Txt (K : PySem.W.Frag) (mg : Str → Option Value) (A : Ad) (B : Fd) : Prop where
  f_is_integer : Fun K "is_integer" "is_integer" s_is_integer A.a_is_integer B.d_is_integer
  b_is_integer : L2.Binds K B.d_is_integer ["value"] []
  f_check_text : Fun K "check_text" "check_text" s_check_text A.a_check_text B.d_check_text
  b_check_text : L2.Binds K B.d_check_text ["value"] []
  f_digit_fits : Fun K "digit_fits" "digit_fits" s_digit_fits A.a_digit_fits B.d_digit_fits
  b_digit_fits : L2.Binds K B.d_digit_fits ["number", "index", "even_top", "odd_top"] []
  f__is_row_of_signs : Fun K "_is_row_of_signs" "_is_row_of_signs" s__is_row_of_signs A.a__is_row_of_signs B.d__is_row_of_signs
  b__is_row_of_signs : L2.Binds K B.d__is_row_of_signs ["value"] []
  f__law_streams : Fun K "_law_streams" "_law_streams" s__law_streams A.a__law_streams B.d__law_streams
  b__law_streams : L2.Binds K B.d__law_streams ["script"] []
  f__law_next : Fun K "_law_next" "_law_next" s__law_next A.a__law_next B.d__law_next
  b__law_next : L2.Binds K B.d__law_next ["stream", "count"] []
  f__law_free : Fun K "_law_free" "_law_free" s__law_free A.a__law_free B.d__law_free
  b__law_free : L2.Binds K B.d__law_free [] []
  f__law_code : Fun K "_law_code" "_law_code" s__law_code A.a__law_code B.d__law_code
  b__law_code : L2.Binds K B.d__law_code ["signs", "own_number"] []
  f__law_folded : Fun K "_law_folded" "_law_folded" s__law_folded A.a__law_folded B.d__law_folded
  b__law_folded : L2.Binds K B.d__law_folded ["own_number"] []
  f_is_count : Fun K "is_count" "is_count" s_is_count A.a_is_count B.d_is_count
  b_is_count : L2.Binds K B.d_is_count ["value"] []
  f_folded : Fun K "folded" "folded" s_folded A.a_folded B.d_folded
  b_folded : L2.Binds K B.d_folded ["number"] []
  f_Alphabet_init : Fun K "__init__" "Alphabet.__init__" s_Alphabet_init A.a_Alphabet_init B.d_Alphabet_init
  b_Alphabet_init : L2.Binds K B.d_Alphabet_init ["self", "signs"] []
  f_Alphabet_read : Fun K "_read" "Alphabet._read" s_Alphabet_read A.a_Alphabet_read B.d_Alphabet_read
  b_Alphabet_read : L2.Binds K B.d_Alphabet_read ["self", "text", "limit"] []
  f__law_signs : Fun K "_law_signs" "_law_signs" s__law_signs A.a__law_signs B.d__law_signs
  b__law_signs : L2.Binds K B.d__law_signs ["stream"] []
  f__law_sized : Fun K "_law_sized" "_law_sized" s__law_sized A.a__law_sized B.d__law_sized
  b__law_sized : L2.Binds K B.d__law_sized ["stream", "most"] []
  f_is_up_to : Fun K "is_up_to" "is_up_to" s_is_up_to A.a_is_up_to B.d_is_up_to
  b_is_up_to : L2.Binds K B.d_is_up_to ["value", "limit"] []
  f_Alphabet_numbers_in : Fun K "numbers_in" "Alphabet.numbers_in" s_Alphabet_numbers_in A.a_Alphabet_numbers_in B.d_Alphabet_numbers_in
  b_Alphabet_numbers_in : L2.Binds K B.d_Alphabet_numbers_in ["self", "text"] []
  f_check_up_to : Fun K "check_up_to" "check_up_to" s_check_up_to A.a_check_up_to B.d_check_up_to
  b_check_up_to : L2.Binds K B.d_check_up_to ["value", "limit"] []
  f_Alphabet_standard : Fun K "standard" "Alphabet.standard" s_Alphabet_standard A.a_Alphabet_standard B.d_Alphabet_standard
  b_Alphabet_standard : L2.Binds K B.d_Alphabet_standard ["cls"] []
  f_unfolded : Fun K "unfolded" "unfolded" s_unfolded A.a_unfolded B.d_unfolded
  b_unfolded : L2.Binds K B.d_unfolded ["number"] []
  f_Alphabet_code_of : Fun K "_code_of" "Alphabet._code_of" s_Alphabet_code_of A.a_Alphabet_code_of B.d_Alphabet_code_of
  b_Alphabet_code_of : L2.Binds K B.d_Alphabet_code_of ["self", "number"] []
  f_Alphabet_call : Fun K "__call__" "Alphabet.__call__" s_Alphabet_call A.a_Alphabet_call B.d_Alphabet_call
  b_Alphabet_call : L2.Binds K B.d_Alphabet_call ["self", "number"] []
  f_Alphabet_signed : Fun K "signed" "Alphabet.signed" s_Alphabet_signed A.a_Alphabet_signed B.d_Alphabet_signed
  b_Alphabet_signed : L2.Binds K B.d_Alphabet_signed ["self", "number"] []
  f_Alphabet_codes : Fun K "codes" "Alphabet.codes" s_Alphabet_codes A.a_Alphabet_codes B.d_Alphabet_codes
  b_Alphabet_codes : StarB B.d_Alphabet_codes ["self"] "numbers"
  f_Alphabet_signed_in : Fun K "signed_in" "Alphabet.signed_in" s_Alphabet_signed_in A.a_Alphabet_signed_in B.d_Alphabet_signed_in
  b_Alphabet_signed_in : L2.Binds K B.d_Alphabet_signed_in ["self", "text"] []
  f__law_codes_hold : Fun K "_law_codes_hold" "_law_codes_hold" s__law_codes_hold A.a__law_codes_hold B.d__law_codes_hold
  b__law_codes_hold : L2.Binds K B.d__law_codes_hold ["alphabet", "signs", "numbers"] []
  f__law_signed_hold : Fun K "_law_signed_hold" "_law_signed_hold" s__law_signed_hold A.a__law_signed_hold B.d__law_signed_hold
  b__law_signed_hold : L2.Binds K B.d__law_signed_hold ["alphabet", "signs", "numbers"] []
  f_law : Fun K "law" "law" s_law A.a_law B.d_law
  b_law : L2.Binds K B.d_law ["script"] []
  kb_Alphabet_call_1_number : KBn K B.d_Alphabet_call ["self", "number"] 1 ["number"] (perm [0, 1]) (perm [0, 1])
  kb_Alphabet_signed_in_1_text : KBn K B.d_Alphabet_signed_in ["self", "text"] 1 ["text"] (perm [0, 1]) (perm [0, 1])
  cm_Alphabet_standard : ClX.CMet K A.c_Alphabet (.type "type") "standard" A.p_Alphabet_standard A.a_Alphabet_standard
  co_Alphabet : CallO K A.c_Alphabet A.a_Alphabet_call
  g__is_row_of_signs : mg "_is_row_of_signs" = some (.ref A.a__is_row_of_signs)
  g__law_code : mg "_law_code" = some (.ref A.a__law_code)
  g__law_codes_hold : mg "_law_codes_hold" = some (.ref A.a__law_codes_hold)
  g__law_folded : mg "_law_folded" = some (.ref A.a__law_folded)
  g__law_free : mg "_law_free" = some (.ref A.a__law_free)
  g__law_next : mg "_law_next" = some (.ref A.a__law_next)
  g__law_signed_hold : mg "_law_signed_hold" = some (.ref A.a__law_signed_hold)
  g__law_signs : mg "_law_signs" = some (.ref A.a__law_signs)
  g__law_sized : mg "_law_sized" = some (.ref A.a__law_sized)
  g__law_streams : mg "_law_streams" = some (.ref A.a__law_streams)
  g_check_text : mg "check_text" = some (.ref A.a_check_text)
  g_check_up_to : mg "check_up_to" = some (.ref A.a_check_up_to)
  g_digit_fits : mg "digit_fits" = some (.ref A.a_digit_fits)
  g_folded : mg "folded" = some (.ref A.a_folded)
  g_is_count : mg "is_count" = some (.ref A.a_is_count)
  g_is_integer : mg "is_integer" = some (.ref A.a_is_integer)
  g_is_up_to : mg "is_up_to" = some (.ref A.a_is_up_to)
  g_unfolded : mg "unfolded" = some (.ref A.a_unfolded)
  gc_Alphabet : mg "Alphabet" = some (.ref A.c_Alphabet)
  k_CODE_LIMIT : mg "CODE_LIMIT" = some (.int 1000000000000 A.t_CODE_LIMIT)
  k_FOLDED_LIMIT : mg "FOLDED_LIMIT" = some (.int 2000000000 A.t_FOLDED_LIMIT)
  k_MANY_DIGITS : mg "MANY_DIGITS" = some (.int 32 A.t_MANY_DIGITS)
  k_MANY_SIGNS : mg "MANY_SIGNS" = some (.int 64 A.t_MANY_SIGNS)
  k_PERCENT_SIGN : mg "PERCENT_SIGN" = some (.int 37 A.t_PERCENT_SIGN)
  k_SIGNED_LIMIT : mg "SIGNED_LIMIT" = some (.int 1000000000 A.t_SIGNED_LIMIT)
  me_Alphabet_code_of : Meth K A.c_Alphabet "_code_of" A.a_Alphabet_code_of
  me_Alphabet_codes : Meth K A.c_Alphabet "codes" A.a_Alphabet_codes
  me_Alphabet_numbers_in : Meth K A.c_Alphabet "numbers_in" A.a_Alphabet_numbers_in
  me_Alphabet_read : Meth K A.c_Alphabet "_read" A.a_Alphabet_read
  me_Alphabet_signed : Meth K A.c_Alphabet "signed" A.a_Alphabet_signed
  me_Alphabet_signed_in : Meth K A.c_Alphabet "signed_in" A.a_Alphabet_signed_in
  mk_Alphabet : Mk K A.c_Alphabet A.a_Alphabet_init
  n_all : mg "all" = none
  n_bool : mg "bool" = none
  n_enumerate : mg "enumerate" = none
  n_int : mg "int" = none
  n_isinstance : mg "isinstance" = none
  n_len : mg "len" = none
  n_list : mg "list" = none
  n_min : mg "min" = none
  n_ord : mg "ord" = none
  n_range : mg "range" = none
  n_repr : mg "repr" = none
  n_set : mg "set" = none
  n_str : mg "str" = none
  cr_Alphabet : ClX.CRead K A.c_Alphabet (.type "type")
  tc : TxtC K A
section
variable {Pr : Program} {w : World} {K : PySem.W.Frag} [Tb K] {mg : Str → Option Value} {base : Heap} {A : Ad} {B : Fd}
theorem tm_is_integer (T : Txt K mg A B)  {f : Addr} {cdv : Value} {Ar : Around} {outer : List Env} {s : Shared} {H : Hp} {E : XK} (hr : Room 0 (Ar.deeper (envOfC "is_integer" (defScope s_is_integer) s.heap.objs.size f cdv))) :
    PSs (cxOf CX0 Pr w K mg base N_is_integer "is_integer" (defScope s_is_integer) f cdv Ar outer s H E).nox (defBody s_is_integer) (t_is_integer K A) :=
  (pss_one (ps_ret (pe_and (pe_callB call_isi (by rfl) T.n_isinstance (by decide +kernel) (pa_cons (pv 0) (pa_cons (pe_bltn (v := .ty "int") (by rfl) T.n_int (by decide +kernel) rfl) pa_nil))) (pe_one (pe_not (pe_callB call_isi (by rfl) T.n_isinstance (by decide +kernel) (pa_cons (pv 0) (pa_cons (pe_bltn (v := .ty "bool") (by rfl) T.n_bool (by decide +kernel) rfl) pa_nil))))))))
theorem tm_check_text (T : Txt K mg A B)  {f : Addr} {cdv : Value} {Ar : Around} {outer : List Env} {s : Shared} {H : Hp} {E : XK} (hr : Room 0 (Ar.deeper (envOfC "check_text" (defScope s_check_text) s.heap.objs.size f cdv))) :
    PSs (cxOf CX0 Pr w K mg base N_check_text "check_text" (defScope s_check_text) f cdv Ar outer s H E).nox (defBody s_check_text) (t_check_text K A) :=
  (pss_one (ps_if (pt_not (pt_val (pe_callB call_isi (by rfl) T.n_isinstance (by decide +kernel) (pa_cons (pv 0) (pa_cons (pe_bltn (v := .ty "str") (by rfl) T.n_str (by decide +kernel) rfl) pa_nil))))) pss_never pss_nil))
theorem tm_digit_fits (T : Txt K mg A B)  {f : Addr} {cdv : Value} {Ar : Around} {outer : List Env} {s : Shared} {H : Hp} {E : XK} (hr : Room 0 (Ar.deeper (envOfC "digit_fits" (defScope s_digit_fits) s.heap.objs.size f cdv))) :
    PSs (cxOf CX0 Pr w K mg base N_digit_fits "digit_fits" (defScope s_digit_fits) f cdv Ar outer s H E).nox (defBody s_digit_fits) (t_digit_fits K A) :=
  (pss_cons (ps_set (i := 4) sc_digit_fits.nd rfl (Or.inl rfl) (pe_op op_andM' (pv 1) pe_int))
      (pss_cons (ps_set (i := 5) sc_digit_fits.nd rfl (Or.inl rfl) (pe_op op_addU (pe_op op_mul (pe_glob rfl T.k_MANY_DIGITS ⟨_, rfl⟩) (pv 0)) (pv 4)))
      (pss_cons (ps_if (pt_cmpR (op_eqP hr.units) (pv 1) (pv 4) (nomark _)) (pss_one (ps_ret (pe_cmpR (op_leP hr.units) (pv 5) (pe_ifExp (pt_truth (pe_op op_andM' (pv 5) pe_int) (by intro _; rfl)) (pv 3) (pv 2)) (nomark _)))) pss_nil)
      (pss_cons (ps_if (pt_cmpR (op_eqP hr.units) (pv 5) pe_int (nomark _)) (pss_one (ps_ret pe_bl)) pss_nil)
      (pss_one (ps_ret (pe_or (pe_cmpR (op_leP hr.units) (pe_op op_mul (pe_glob rfl T.k_MANY_DIGITS ⟨_, rfl⟩) (pv 5)) (pv 2) (nomark _)) (pe_one (pe_cmpR (op_leP hr.units) (pe_op op_addU (pe_op op_mul (pe_glob rfl T.k_MANY_DIGITS ⟨_, rfl⟩) (pv 5)) pe_int) (pv 3) (nomark _))))))))))
theorem tm__is_row_of_signs (T : Txt K mg A B)  {f : Addr} {cdv : Value} {Ar : Around} {outer : List Env} {s : Shared} {H : Hp} {E : XK} (hr : Room 0 (Ar.deeper (envOfC "_is_row_of_signs" (defScope s__is_row_of_signs) s.heap.objs.size f cdv))) :
    PSs (cxOf CX0 Pr w K mg base N__is_row_of_signs "_is_row_of_signs" (defScope s__is_row_of_signs) f cdv Ar outer s H E).nox (defBody s__is_row_of_signs) (t__is_row_of_signs K A) :=
  (pss_cons (ps_if (PW.pt (pw_or (pt_not (pt_val (pe_callB call_isi (by rfl) T.n_isinstance (by decide +kernel) (pa_cons (pv 0) (pa_cons (pe_bltn (v := .ty "str") (by rfl) T.n_str (by decide +kernel) rfl) pa_nil))))) (pw_or (pt_cmpR (op_neP hr.units) (pe_callB call_len (by rfl) T.n_len (by decide +kernel) (pa_cons (pv 0) pa_nil)) (pe_glob rfl T.k_MANY_SIGNS ⟨_, rfl⟩) (nomark _)) (pw_or1 (pt_cmpR (op_neP hr.units) (pe_lenSetS rfl T.n_len rfl T.n_set (pv 0)) (pe_glob rfl T.k_MANY_SIGNS ⟨_, rfl⟩) (nomark _)))))) (pss_one (ps_ret pe_bl)) pss_nil)
      (pss_one (ps_ret (pe_callB (cr_all rfl) (by rfl) T.n_all (by decide +kernel) (pa_cons (pe_lc (own := [("sign", 1)]) rfl sc__is_row_of_signs.nd (pi_str (pv 0)) (blkOk_by (own := [("sign", 1)]) (N := N__is_row_of_signs) (sc := defScope s__is_row_of_signs) (by decide +kernel)) (fun _ _ _ _ _ => (pg_name (i := 1) sc__is_row_of_signs.nd rfl (Or.inl rfl))) (fun _ _ _ _ _ => pts_nil) (fun _ _ _ _ _ => (pe_and (pe_chain (op_leP hr.units) (op_leP hr.units) pe_str (pv 1) pe_str) (pe_and (pe_cmpR (op_neP hr.units) (pe_callB call_ord (by rfl) T.n_ord (by decide +kernel) (pa_cons (pv 1) pa_nil)) (pe_glob rfl T.k_PERCENT_SIGN ⟨_, rfl⟩) (nomark _)) (pe_one (pe_cmpR op_notInS (pv 1) (ClX.pe_cval (pe_glob (v := .ref A.c_Alphabet) (by rfl) T.gc_Alphabet (by rfl))) rfl)))))) pa_nil)))))
theorem tm__law_streams (T : Txt K mg A B)  {f : Addr} {cdv : Value} {Ar : Around} {outer : List Env} {s : Shared} {H : Hp} {E : XK} (hr : Room 0 (Ar.deeper (envOfC "_law_streams" (defScope s__law_streams) s.heap.objs.size f cdv))) :
    PSs (cxOf CX0 Pr w K mg base N__law_streams "_law_streams" (defScope s__law_streams) f cdv Ar outer s H E).nox (defBody s__law_streams) (t__law_streams K A) :=
  (pss_cons (ps_set (i := 1) sc__law_streams.nd rfl (Or.inl rfl) (pe_ifExp (pt_cmpR (op_neP hr.units) (pv 0) (pe_lst pa_nil) (nomark _)) (pe_callTy call_list_of (by rfl) T.n_list (by decide +kernel) (pa_cons (pv 0) pa_nil)) (pe_lst (pa_cons pe_int pa_nil))))
      (pss_cons (ps_set (i := 2) sc__law_streams.nd rfl (Or.inl rfl) (pe_lst pa_nil))
      (pss_cons (ps_for PassesOwn.never rfl (pi_enum (by rfl) T.n_enumerate (pa_cons (pe_slice sl_U (pv 1) po_none (po_some pe_int)) pa_nil)) (pg_tup rfl (pgs_cons (pg_name (i := 3) sc__law_streams.nd rfl (Or.inl rfl)) (pgs_cons (pg_name (i := 4) sc__law_streams.nd rfl (Or.inl rfl)) pgs_nil))) (pss_one (ps_expr (pe_bm PySem.F.plainAttrs_list PySem.F.slot_list_append PySem.F.type_list_append mt_append (pv 2) (pa_cons (pe_disp (pps_cons pe_str (pe_op op_addU (pe_slice sl_U (pv 1) (po_some (pv 3)) po_none) (pe_slice sl_U (pv 1) po_none (po_some (pv 3)))) (pps_cons pe_str (pe_op op_mul pe_int (pv 3)) (pps_cons pe_str (pe_ifExp (pt_cmpR (op_geP hr.units) (pv 4) (pe_op op_pow pe_int pe_int) (nomark _)) (pv 4) pe_int) pps_nil))) rfl rfl (fun z => by cases z) (by decide)) pa_nil)))))
      (pss_one (ps_ret (pv 2))))))
theorem tm__law_next (T : Txt K mg A B)  {f : Addr} {cdv : Value} {Ar : Around} {outer : List Env} {s : Shared} {H : Hp} {E : XK} (hr : Room 0 (Ar.deeper (envOfC "_law_next" (defScope s__law_next) s.heap.objs.size f cdv))) :
    PSs (cxOf CX0 Pr w K mg base N__law_next "_law_next" (defScope s__law_next) f cdv Ar outer s H E).nox (defBody s__law_next) (t__law_next K A) :=
  (pss_cons (ps_dput (Nat.lt_of_le_of_lt (Nat.add_le_add_left (by decide) _) hr.units) (pv 0) pe_str (pe_op op_addU (pe_dget (Nat.lt_of_le_of_lt (Nat.add_le_add_left (by decide) _) hr.units) (pv 0) pe_str (fun _ _ => rfl)) pe_int) rfl)
      (pss_cons (ps_if (pt_cmpR (op_gtP hr.units) (pe_dget (Nat.lt_of_le_of_lt (Nat.add_le_add_left (by decide) _) hr.units) (pv 0) pe_str (fun _ _ => rfl)) pe_int (nomark _)) (pss_cons (ps_set (i := 2) sc__law_next.nd rfl (Or.inl rfl) (pe_op op_mod (pe_callTy call_int1 (by rfl) T.n_int (by decide +kernel) (pa_cons (pe_dget (Nat.lt_of_le_of_lt (Nat.add_le_add_left (by decide) _) hr.units) (pv 0) pe_str (fun _ _ => rfl)) pa_nil)) (pv 1)))
      (pss_cons (ps_dput (Nat.lt_of_le_of_lt (Nat.add_le_add_left (by decide) _) hr.units) (pv 0) pe_str (pe_op op_fdiv (pe_dget (Nat.lt_of_le_of_lt (Nat.add_le_add_left (by decide) _) hr.units) (pv 0) pe_str (fun _ _ => rfl)) (pv 1)) rfl)
      (pss_one (ps_ret (pv 2))))) pss_nil)
      (pss_cons (ps_par (i := 3) (j := 4) (by rfl) sc__law_next.nd rfl rfl (by decide) rfl rfl (pa_cons (pe_dget (Nat.lt_of_le_of_lt (Nat.add_le_add_left (by decide) _) hr.units) (pv 0) pe_str (fun _ _ => rfl)) (pa_cons (pe_dget (Nat.lt_of_le_of_lt (Nat.add_le_add_left (by decide) _) hr.units) (pv 0) pe_str (fun _ _ => rfl)) pa_nil)) (by rfl))
      (pss_cons (ps_set (i := 5) sc__law_next.nd rfl (Or.inl rfl) (pe_op op_addU (pe_op op_addU (pe_op op_mul (pe_op op_mul pe_int (pv 3)) (pv 3)) (pe_op op_mul pe_int (pv 3))) pe_int))
      (pss_cons (ps_set (i := 6) sc__law_next.nd rfl (Or.inl rfl) (pe_op op_addU (pe_op op_mod (pe_callTy call_int1 (by rfl) T.n_int (by decide +kernel) (pa_cons (pe_ix ix_seq (pv 4) (pe_op op_mod (pe_callTy call_int1 (by rfl) T.n_int (by decide +kernel) (pa_cons (pv 3) pa_nil)) (pe_callB call_len (by rfl) T.n_len (by decide +kernel) (pa_cons (pv 4) pa_nil))) (fun _ _ => rfl)) pa_nil)) pe_int) (pv 5)))
      (pss_cons (ps_set (i := 6) sc__law_next.nd rfl (Or.inl rfl) (pe_op op_mod (pe_callTy call_int1 (by rfl) T.n_int (by decide +kernel) (pa_cons (pe_op op_pow (pv 6) pe_int) pa_nil)) pe_int))
      (pss_one (ps_ret (pe_op op_mod (pe_callTy call_int1 (by rfl) T.n_int (by decide +kernel) (pa_cons (pe_op op_fdiv (pe_op op_mod (pe_callTy call_int1 (by rfl) T.n_int (by decide +kernel) (pa_cons (pe_op op_mul (pv 6) pe_int) pa_nil)) pe_int) pe_int) pa_nil)) (pv 1))))))))))
theorem tm__law_free (T : Txt K mg A B)  {f : Addr} {cdv : Value} {Ar : Around} {outer : List Env} {s : Shared} {H : Hp} {E : XK} (hr : Room 0 (Ar.deeper (envOfC "_law_free" (defScope s__law_free) s.heap.objs.size f cdv))) :
    PSs (cxOf CX0 Pr w K mg base N__law_free "_law_free" (defScope s__law_free) f cdv Ar outer s H E).nox (defBody s__law_free) (t__law_free K A) :=
  (pss_cons (ps_set (i := 0) sc__law_free.nd rfl (Or.inl rfl) pe_str)
      (pss_one (ps_ret (pe_op op_addU (pv 0) pe_str))))
theorem tm__law_code (T : Txt K mg A B)  {f : Addr} {cdv : Value} {Ar : Around} {outer : List Env} {s : Shared} {H : Hp} {E : XK} (hr : Room 0 (Ar.deeper (envOfC "_law_code" (defScope s__law_code) s.heap.objs.size f cdv))) :
    PSs (cxOf CX0 Pr w K mg base N__law_code "_law_code" (defScope s__law_code) f cdv Ar outer s H E).nox (defBody s__law_code) (t__law_code K A) :=
  (pss_cons (ps_par (i := 2) (j := 3) (by rfl) sc__law_code.nd rfl rfl (by decide) rfl rfl (pa_cons (pe_ix ix_seq (pv 0) (pe_op op_mod (pe_callTy call_int1 (by rfl) T.n_int (by decide +kernel) (pa_cons (pv 1) pa_nil)) pe_int) (fun _ _ => rfl)) (pa_cons (pe_op op_fdiv (pv 1) pe_int) pa_nil)) (by rfl))
      (pss_cons (ps_while PassesOwn.never (pt_cmpR (op_gtP hr.units) (pv 3) pe_int (nomark _)) (pss_cons (ps_set (i := 2) sc__law_code.nd rfl (Or.inl rfl) (pe_op op_addU (pe_ix ix_seq (pv 0) (pe_op op_addU pe_int (pe_op op_mod (pe_callTy call_int1 (by rfl) T.n_int (by decide +kernel) (pa_cons (pv 3) pa_nil)) pe_int)) (fun _ _ => rfl)) (pv 2)))
      (pss_one (ps_set (i := 3) sc__law_code.nd rfl (Or.inl rfl) (pe_op op_fdiv (pv 3) pe_int)))))
      (pss_one (ps_ret (pv 2)))))
theorem tm__law_folded (T : Txt K mg A B)  {f : Addr} {cdv : Value} {Ar : Around} {outer : List Env} {s : Shared} {H : Hp} {E : XK} (hr : Room 0 (Ar.deeper (envOfC "_law_folded" (defScope s__law_folded) s.heap.objs.size f cdv))) :
    PSs (cxOf CX0 Pr w K mg base N__law_folded "_law_folded" (defScope s__law_folded) f cdv Ar outer s H E).nox (defBody s__law_folded) (t__law_folded K A) :=
  (pss_one (ps_ret (pe_ifExp (pt_cmpR (op_geP hr.units) (pv 0) pe_int (nomark _)) (pe_op op_mul pe_int (pv 0)) (pe_op op_sub (pe_op op_mul (pe_un un_neg pe_int) (pv 0)) pe_int))))
theorem tm_is_count (T : Txt K mg A B) (G_is_integer : FnOk Pr w K mg base CX0 1 A.a_is_integer B.d_is_integer ["value"] (spD K (R_is_integer A))) {f : Addr} {cdv : Value} {Ar : Around} {outer : List Env} {s : Shared} {H : Hp} {E : XK} (hr : Room 1 (Ar.deeper (envOfC "is_count" (defScope s_is_count) s.heap.objs.size f cdv))) :
    PSs (cxOf CX0 Pr w K mg base N_is_count "is_count" (defScope s_is_count) f cdv Ar outer s H E).nox (defBody s_is_count) (t_is_count K A) :=
  (pss_one (ps_ret (pe_and (pe_call G_is_integer (hr.mono (by decide)) (by rfl) T.g_is_integer T.f_is_integer.kp T.b_is_integer .nil pass0 (pa_cons (pv 0) pa_nil)) (pe_one (pe_cmpR (op_geP hr.units) (pv 0) pe_int (nomark _))))))
theorem tm_folded (T : Txt K mg A B) (G_is_integer : FnOk Pr w K mg base CX0 1 A.a_is_integer B.d_is_integer ["value"] (spD K (R_is_integer A))) {f : Addr} {cdv : Value} {Ar : Around} {outer : List Env} {s : Shared} {H : Hp} {E : XK} (hr : Room 1 (Ar.deeper (envOfC "folded" (defScope s_folded) s.heap.objs.size f cdv))) :
    PSs (cxOf CX0 Pr w K mg base N_folded "folded" (defScope s_folded) f cdv Ar outer s H E).nox (defBody s_folded) (t_folded K A) :=
  (pss_cons (ps_if (PW.pt (pw_or (pt_not (pt_val (pe_call G_is_integer (hr.mono (by decide)) (by rfl) T.g_is_integer T.f_is_integer.kp T.b_is_integer .nil pass0 (pa_cons (pv 0) pa_nil)))) (pw_or1 (pt_not (pt_chain (op_leP hr.units) (op_leP hr.units) (pe_un un_neg (pe_glob rfl T.k_SIGNED_LIMIT ⟨_, rfl⟩)) (pv 0) (pe_glob rfl T.k_SIGNED_LIMIT ⟨_, rfl⟩)))))) pss_never pss_nil)
      (pss_one (ps_ret (pe_ifExp (pt_cmpR (op_geP hr.units) (pv 0) pe_int (nomark _)) (pe_op op_mul pe_int (pv 0)) (pe_op op_sub (pe_op op_mul (pe_un un_neg pe_int) (pv 0)) pe_int)))))
theorem tm_Alphabet_init (T : Txt K mg A B) (G__is_row_of_signs : FnOk Pr w K mg base CX0 1 A.a__is_row_of_signs B.d__is_row_of_signs ["value"] (spD K (R__is_row_of_signs A))) {f : Addr} {cdv : Value} {Ar : Around} {outer : List Env} {s : Shared} {H : Hp} {E : XK} (hr : Room 1 (Ar.deeper (envOfC "Alphabet.__init__" (defScope s_Alphabet_init) s.heap.objs.size f cdv))) :
    PSs (cxOf CX0 Pr w K mg base N_Alphabet_init "Alphabet.__init__" (defScope s_Alphabet_init) f cdv Ar outer s H E).nox (defBody s_Alphabet_init) (t_Alphabet_init K A) :=
  (pss_cons (ps_if (pt_not (pt_val (pe_call G__is_row_of_signs (hr.mono (by decide)) (by rfl) T.g__is_row_of_signs T.f__is_row_of_signs.kp T.b__is_row_of_signs .nil pass0 (pa_cons (pv 1) pa_nil)))) pss_never pss_nil)
      (pss_cons (ps_fld (pv 0) (pv 1) rfl)
      (pss_one (ps_fld (pv 0) (pe_frz (pe_dc (own := [("index", 2), ("sign", 3)]) rfl sc_Alphabet_init.nd (pi_enumS (by rfl) T.n_enumerate (pa_cons (pv 1) pa_nil)) (blkOk_by (own := [("index", 2), ("sign", 3)]) (N := N_Alphabet_init) (sc := defScope s_Alphabet_init) (by decide +kernel)) (fun _ _ _ _ _ => (pg_tup rfl (pgs_cons (pg_name (i := 2) sc_Alphabet_init.nd rfl (Or.inl rfl)) (pgs_cons (pg_name (i := 3) sc_Alphabet_init.nd rfl (Or.inl rfl)) pgs_nil)))) (fun _ _ _ _ _ => pts_nil) (fun _ _ _ _ _ => (pv 3)) (fun _ _ _ _ _ => (pv 2)))) rfl))))
theorem tm_Alphabet_read (T : Txt K mg A B) (G_digit_fits : FnOk Pr w K mg base CX0 1 A.a_digit_fits B.d_digit_fits ["number", "index", "even_top", "odd_top"] (spD K (R_digit_fits A))) {f : Addr} {cdv : Value} {Ar : Around} {outer : List Env} {s : Shared} {H : Hp} {E : XK} (hr : Room 1 (Ar.deeper (envOfC "Alphabet._read" (defScope s_Alphabet_read) s.heap.objs.size f cdv))) :
    PSs (cxOf CX0 Pr w K mg base N_Alphabet_read "Alphabet._read" (defScope s_Alphabet_read) f cdv Ar outer s H E).nox (defBody s_Alphabet_read) (t_Alphabet_read K A) :=
  (pss_cons (ps_set (i := 3) sc_Alphabet_read.nd rfl (Or.inl rfl) (pe_lst pa_nil))
      (pss_cons (ps_asg (pe_tup (pa_cons pe_int (pa_cons pe_bl pa_nil))) (pg_tup rfl (pgs_cons (pg_name (i := 4) sc_Alphabet_read.nd rfl (Or.inl rfl)) (pgs_cons (pg_name (i := 5) sc_Alphabet_read.nd rfl (Or.inl rfl)) pgs_nil))))
      (pss_cons (ps_for PassesOwn.never rfl (pi_enumS (by rfl) T.n_enumerate (pa_cons (pv 1) pa_nil)) (pg_tup rfl (pgs_cons (pg_name (i := 6) sc_Alphabet_read.nd rfl (Or.inl rfl)) (pgs_cons (pg_name (i := 7) sc_Alphabet_read.nd rfl (Or.inl rfl)) pgs_nil))) (pss_cons (ps_set (i := 8) sc_Alphabet_read.nd rfl (Or.inl rfl) (pe_dget1 (Nat.lt_of_le_of_lt (Nat.add_le_add_left (by decide) _) hr.units) (pe_fld (pv 0) rfl) (pv 7) ⟨rfl, rfl, rfl, rfl⟩))
      (pss_cons (ps_if (PW.pt (pw_or (pt_cmpR op_isN (pv 8) pe_non (nomark _)) (pw_or1 (pt_not (pt_val (pe_call G_digit_fits (hr.mono (by decide)) (by rfl) T.g_digit_fits T.f_digit_fits.kp T.b_digit_fits .nil pass0 (pa_cons (pv 4) (pa_cons (pv 8) (pa_cons (pv 2) (pa_cons (pv 2) pa_nil)))))))))) (pss_one (ps_ret (pe_tup (pa_cons (pv 3) (pa_cons (pv 6) pa_nil))))) pss_nil)
      (pss_cons (ps_set (i := 4) sc_Alphabet_read.nd rfl (Or.inl rfl) (pe_op op_addU (pe_op op_mul (pe_glob rfl T.k_MANY_DIGITS ⟨_, rfl⟩) (pv 4)) (pe_op op_andM' (pv 8) pe_int)))
      (pss_cons (ps_set (i := 5) sc_Alphabet_read.nd rfl (Or.inl rfl) (pe_cmpR (op_geP hr.units) (pv 8) (pe_glob rfl T.k_MANY_DIGITS ⟨_, rfl⟩) (nomark _)))
      (pss_one (ps_if (pt_not (pt_truth (pv 5) (by intro _; rfl))) (pss_cons (ps_expr (pe_bm PySem.F.plainAttrs_list PySem.F.slot_list_append PySem.F.type_list_append mt_append (pv 3) (pa_cons (pv 4) pa_nil)))
      (pss_one (ps_set (i := 4) sc_Alphabet_read.nd rfl (Or.inl rfl) pe_int))) pss_nil)))))))
      (pss_one (ps_ret (pe_tup (pa_cons (pv 3) (pa_cons (pe_ifExp (pt_truth (pv 5) (by intro _; rfl)) (pe_callB call_len (by rfl) T.n_len (by decide +kernel) (pa_cons (pv 1) pa_nil)) pe_non) pa_nil))))))))
theorem tm__law_signs (T : Txt K mg A B) (G__law_free : FnOk Pr w K mg base CX0 1 A.a__law_free B.d__law_free [] (spD K (R__law_free A))) (G__law_next : FnOk Pr w K mg base CX0 1 A.a__law_next B.d__law_next ["stream", "count"] (spD K (R__law_next A))) {f : Addr} {cdv : Value} {Ar : Around} {outer : List Env} {s : Shared} {H : Hp} {E : XK} (hr : Room 1 (Ar.deeper (envOfC "_law_signs" (defScope s__law_signs) s.heap.objs.size f cdv))) :
    PSs (cxOf CX0 Pr w K mg base N__law_signs "_law_signs" (defScope s__law_signs) f cdv Ar outer s H E).nox (defBody s__law_signs) (t__law_signs K A) :=
  (pss_cons (ps_if (pt_cmpR (op_gtP hr.units) (pe_call G__law_next (hr.mono (by decide)) (by rfl) T.g__law_next T.f__law_next.kp T.b__law_next .nil pass0 (pa_cons (pv 0) (pa_cons pe_int pa_nil))) pe_int (nomark _)) (pss_cons (ps_set (i := 1) sc__law_signs.nd rfl (Or.inl rfl) pe_str)
      (pss_one (ps_ret (pe_op op_addU (pv 1) pe_str)))) pss_nil)
      (pss_cons (ps_asg (pe_tup (pa_cons (pe_call0 G__law_free (hr.mono (by decide)) rfl T.g__law_free T.f__law_free.kp T.b__law_free .nil pass0) (pa_cons (pe_call G__law_next (hr.mono (by decide)) (by rfl) T.g__law_next T.f__law_next.kp T.b__law_next .nil pass0 (pa_cons (pv 0) (pa_cons pe_int pa_nil))) (pa_cons (pe_op op_addU pe_int (pe_call G__law_next (hr.mono (by decide)) (by rfl) T.g__law_next T.f__law_next.kp T.b__law_next .nil pass0 (pa_cons (pv 0) (pa_cons pe_int pa_nil)))) pa_nil)))) (pg_tup rfl (pgs_cons (pg_name (i := 2) sc__law_signs.nd rfl (Or.inr rfl)) (pgs_cons (pg_name (i := 3) sc__law_signs.nd rfl (Or.inr rfl)) (pgs_cons (pg_name (i := 4) sc__law_signs.nd rfl (Or.inr rfl)) pgs_nil)))))
      (pss_one (ps_ret (pe_m1 PySem.F.slot_str_join PySem.F.type_str_join mt_join pe_str (pe_lc (own := [("k", 5)]) rfl sc__law_signs.nd (pi_range1 rfl T.n_range (pa_cons pe_int pa_nil)) (blkOk_by (own := [("k", 5)]) (N := N__law_signs) (sc := defScope s__law_signs) (by decide +kernel)) (fun _ _ _ _ _ => (pg_name (i := 5) sc__law_signs.nd rfl (Or.inl rfl))) (fun _ _ _ _ _ => pts_nil) (fun _ _ _ _ _ => (pe_ix ix_seq (pv 2) (pe_op op_mod (pe_callTy call_int1 (by rfl) T.n_int (by decide +kernel) (pa_cons (pe_op op_addU (pv 3) (pe_op op_mul (pv 4) (pv 5))) pa_nil)) pe_int) (fun _ _ => rfl)))))))))
theorem tm__law_sized (T : Txt K mg A B) (G__law_next : FnOk Pr w K mg base CX0 1 A.a__law_next B.d__law_next ["stream", "count"] (spD K (R__law_next A))) {f : Addr} {cdv : Value} {Ar : Around} {outer : List Env} {s : Shared} {H : Hp} {E : XK} (hr : Room 1 (Ar.deeper (envOfC "_law_sized" (defScope s__law_sized) s.heap.objs.size f cdv))) :
    PSs (cxOf CX0 Pr w K mg base N__law_sized "_law_sized" (defScope s__law_sized) f cdv Ar outer s H E).nox (defBody s__law_sized) (t__law_sized K A) :=
  (pss_cons (ps_par (i := 2) (j := 3) (by rfl) sc__law_sized.nd rfl rfl (by decide) rfl rfl (pa_cons (pe_op op_addU pe_int (pe_call G__law_next (hr.mono (by decide)) (by rfl) T.g__law_next T.f__law_next.kp T.b__law_next .nil pass0 (pa_cons (pv 0) (pa_cons pe_int pa_nil)))) (pa_cons pe_int pa_nil)) (by rfl))
      (pss_cons (ps_for PassesOwn.never rfl (pi_range1 rfl T.n_range (pa_cons (pv 2) pa_nil)) (pg_name (i := 4) sc__law_sized.nd rfl (Or.inl rfl)) (pss_one (ps_set (i := 3) sc__law_sized.nd rfl (Or.inl rfl) (pe_op op_addU (pe_op op_mul pe_int (pv 3)) (pe_call G__law_next (hr.mono (by decide)) (by rfl) T.g__law_next T.f__law_next.kp T.b__law_next .nil pass0 (pa_cons (pv 0) (pa_cons pe_int pa_nil)))))))
      (pss_cons (ps_set (i := 5) sc__law_sized.nd rfl (Or.inl rfl) pe_int)
      (pss_cons (ps_for PassesOwn.never rfl (pi_range1 rfl T.n_range (pa_cons (pe_call G__law_next (hr.mono (by decide)) (by rfl) T.g__law_next T.f__law_next.kp T.b__law_next .nil pass0 (pa_cons (pv 0) (pa_cons pe_int pa_nil))) pa_nil)) (pg_name (i := 4) sc__law_sized.nd rfl (Or.inl rfl)) (pss_one (ps_set (i := 5) sc__law_sized.nd rfl (Or.inl rfl) (pe_op op_mul (pv 5) pe_int))))
      (pss_one (ps_ret (pe_callB (call_min2 rfl) (by rfl) T.n_min (by decide +kernel) (pa_cons (pv 1) (pa_cons (pe_ix ix_seq (pe_lst (pa_cons (pv 3) (pa_cons (pv 3) (pa_cons (pe_op op_sub (pv 5) pe_int) (pa_cons (pv 5) (pa_cons (pe_op op_addU (pv 5) pe_int) pa_nil)))))) (pe_call G__law_next (hr.mono (by decide)) (by rfl) T.g__law_next T.f__law_next.kp T.b__law_next .nil pass0 (pa_cons (pv 0) (pa_cons pe_int pa_nil))) (fun _ _ => rfl)) pa_nil)))))))))
theorem tm_is_up_to (T : Txt K mg A B) (G_is_count : FnOk Pr w K mg base CX0 2 A.a_is_count B.d_is_count ["value"] (spD K (R_is_count A))) {f : Addr} {cdv : Value} {Ar : Around} {outer : List Env} {s : Shared} {H : Hp} {E : XK} (hr : Room 2 (Ar.deeper (envOfC "is_up_to" (defScope s_is_up_to) s.heap.objs.size f cdv))) :
    PSs (cxOf CX0 Pr w K mg base N_is_up_to "is_up_to" (defScope s_is_up_to) f cdv Ar outer s H E).nox (defBody s_is_up_to) (t_is_up_to K A) :=
  (pss_one (ps_ret (pe_and (pe_call G_is_count (hr.mono (by decide)) (by rfl) T.g_is_count T.f_is_count.kp T.b_is_count .nil pass0 (pa_cons (pv 0) pa_nil)) (pe_one (pe_or (pe_cmpR op_isN (pv 1) pe_non (nomark _)) (pe_one (pe_cmpR (op_leP hr.units) (pv 0) (pv 1) (nomark _))))))))
theorem tm_Alphabet_numbers_in (T : Txt K mg A B) (G_Alphabet_read : FnOk Pr w K mg base CX0 2 A.a_Alphabet_read B.d_Alphabet_read ["self", "text", "limit"] (spD K (R_Alphabet_read A))) (G_check_text : FnOk Pr w K mg base CX0 1 A.a_check_text B.d_check_text ["value"] (spD K (R_check_text A))) {f : Addr} {cdv : Value} {Ar : Around} {outer : List Env} {s : Shared} {H : Hp} {E : XK} {pn : List (Addr × Obj)} (hr : Room 2 (Ar.deeper (envOfC "Alphabet.numbers_in" (defScope s_Alphabet_numbers_in) s.heap.objs.size f cdv))) :
    ZG.GSs (gcxOf Pr w K mg base N_Alphabet_numbers_in "Alphabet.numbers_in" (defScope s_Alphabet_numbers_in) f cdv Ar outer s H E pn).nox (defBody s_Alphabet_numbers_in) (t_Alphabet_numbers_in K A) :=
  (ZG.gss_cons (ZG.gs_ps (ps_expr (pe_call G_check_text (hr.mono (by decide)) (by rfl) T.g_check_text T.f_check_text.kp T.b_check_text .nil pass0 (pa_cons (pv 1) pa_nil))))
    (ZG.gss_cons (ZG.gs_ps (ps_asg (pe_meth (pv 0) T.tc.cl_Alphabet T.me_Alphabet_read G_Alphabet_read (hr.mono (by decide)) T.b_Alphabet_read .nil pass0 (pa_cons (pv 1) (pa_cons (pe_glob rfl T.k_CODE_LIMIT ⟨_, rfl⟩) pa_nil))) (pg_tup rfl (pgs_cons (pg_name (i := 2) sc_Alphabet_numbers_in.nd rfl (Or.inl rfl)) (pgs_cons (pg_name (i := 3) sc_Alphabet_numbers_in.nd rfl (Or.inl rfl)) pgs_nil)))))
    (ZG.gss_cons (ZG.gs_for PassesOwn.never rfl (pi_list (pv 2)) (pg_name (i := 4) sc_Alphabet_numbers_in.nd rfl (Or.inl rfl)) (ZG.gss_cons (ZG.gs_yield (pv 4))
    ZG.gss_nil))
    (ZG.gss_cons (ZG.gs_ps (ps_if (pt_cmpR op_notN (pv 3) pe_non (nomark _)) pss_never pss_nil))
    ZG.gss_nil))))
theorem tm_check_up_to (T : Txt K mg A B) (G_is_up_to : FnOk Pr w K mg base CX0 3 A.a_is_up_to B.d_is_up_to ["value", "limit"] (spD K (R_is_up_to A))) {f : Addr} {cdv : Value} {Ar : Around} {outer : List Env} {s : Shared} {H : Hp} {E : XK} (hr : Room 3 (Ar.deeper (envOfC "check_up_to" (defScope s_check_up_to) s.heap.objs.size f cdv))) :
    PSs (cxOf CX0 Pr w K mg base N_check_up_to "check_up_to" (defScope s_check_up_to) f cdv Ar outer s H E).nox (defBody s_check_up_to) (t_check_up_to K A) :=
  (pss_one (ps_if (pt_not (pt_val (pe_call G_is_up_to (hr.mono (by decide)) (by rfl) T.g_is_up_to T.f_is_up_to.kp T.b_is_up_to .nil pass0 (pa_cons (pv 0) (pa_cons (pv 1) pa_nil))))) pss_never pss_nil))
theorem tm_Alphabet_standard (T : Txt K mg A B) (G_Alphabet_init : FnOk Pr w K mg base CX0 2 A.a_Alphabet_init B.d_Alphabet_init ["self", "signs"] (spI K A.c_Alphabet (R_Alphabet_init A))) {f : Addr} {cdv : Value} {Ar : Around} {outer : List Env} {s : Shared} {H : Hp} {E : XK} (hr : Room 3 (Ar.deeper (envOfC "Alphabet.standard" (defScope s_Alphabet_standard) s.heap.objs.size f cdv))) :
    PSs (cxOf CX0 Pr w K mg base N_Alphabet_standard "Alphabet.standard" (defScope s_Alphabet_standard) f cdv Ar outer s H E).nox (defBody s_Alphabet_standard) (t_Alphabet_standard K A) :=
  (pss_one (ps_ret (pe_makeV (pv 0) T.mk_Alphabet G_Alphabet_init (hr.mono (by decide)) T.b_Alphabet_init .nil pass0 (pa_cons (ClX.pe_cval (pv 0)) pa_nil))))
theorem tm_unfolded (T : Txt K mg A B) (G_check_up_to : FnOk Pr w K mg base CX0 4 A.a_check_up_to B.d_check_up_to ["value", "limit"] (spD K (R_check_up_to A))) {f : Addr} {cdv : Value} {Ar : Around} {outer : List Env} {s : Shared} {H : Hp} {E : XK} (hr : Room 4 (Ar.deeper (envOfC "unfolded" (defScope s_unfolded) s.heap.objs.size f cdv))) :
    PSs (cxOf CX0 Pr w K mg base N_unfolded "unfolded" (defScope s_unfolded) f cdv Ar outer s H E).nox (defBody s_unfolded) (t_unfolded K A) :=
  (pss_cons (ps_expr (pe_call G_check_up_to (hr.mono (by decide)) (by rfl) T.g_check_up_to T.f_check_up_to.kp T.b_check_up_to .nil pass0 (pa_cons (pv 0) (pa_cons (pe_glob rfl T.k_FOLDED_LIMIT ⟨_, rfl⟩) pa_nil))))
      (pss_cons (ps_set (i := 1) sc_unfolded.nd rfl (Or.inl rfl) (pe_op op_fdiv (pv 0) pe_int))
      (pss_one (ps_ret (pe_ifExp (pt_cmpR (op_eqP hr.units) (pv 0) (pe_op op_mul pe_int (pv 1)) (nomark _)) (pv 1) (pe_op op_sub (pe_un un_neg (pv 1)) pe_int))))))
theorem tm_Alphabet_code_of (T : Txt K mg A B) (G_check_up_to : FnOk Pr w K mg base CX0 4 A.a_check_up_to B.d_check_up_to ["value", "limit"] (spD K (R_check_up_to A))) {f : Addr} {cdv : Value} {Ar : Around} {outer : List Env} {s : Shared} {H : Hp} {E : XK} (hr : Room 4 (Ar.deeper (envOfC "Alphabet._code_of" (defScope s_Alphabet_code_of) s.heap.objs.size f cdv))) :
    PSs (cxOf CX0 Pr w K mg base N_Alphabet_code_of "Alphabet._code_of" (defScope s_Alphabet_code_of) f cdv Ar outer s H E).nox (defBody s_Alphabet_code_of) (t_Alphabet_code_of K A) :=
  (pss_cons (ps_expr (pe_call G_check_up_to (hr.mono (by decide)) (by rfl) T.g_check_up_to T.f_check_up_to.kp T.b_check_up_to .nil pass0 (pa_cons (pv 1) (pa_cons (pe_glob rfl T.k_CODE_LIMIT ⟨_, rfl⟩) pa_nil))))
      (pss_cons (ps_set (i := 2) sc_Alphabet_code_of.nd rfl (Or.inl rfl) (pe_ix ix_seq (pe_fld (pv 0) rfl) (pe_op op_andM' (pv 1) pe_int) (fun _ _ => rfl)))
      (pss_cons (ps_set (i := 3) sc_Alphabet_code_of.nd rfl (Or.inl rfl) (pe_op op_fdiv (pv 1) (pe_glob rfl T.k_MANY_DIGITS ⟨_, rfl⟩)))
      (pss_cons (ps_while PassesOwn.never (pt_cmpR (op_gtP hr.units) (pv 3) pe_int (nomark _)) (pss_cons (ps_set (i := 2) sc_Alphabet_code_of.nd rfl (Or.inl rfl) (pe_op op_addU (pe_ix ix_seq (pe_fld (pv 0) rfl) (pe_op op_addU (pe_glob rfl T.k_MANY_DIGITS ⟨_, rfl⟩) (pe_op op_andM' (pv 3) pe_int)) (fun _ _ => rfl)) (pv 2)))
      (pss_one (ps_set (i := 3) sc_Alphabet_code_of.nd rfl (Or.inl rfl) (pe_op op_fdiv (pv 3) (pe_glob rfl T.k_MANY_DIGITS ⟨_, rfl⟩))))))
      (pss_one (ps_ret (pv 2)))))))
theorem tm_Alphabet_call (T : Txt K mg A B) (G_Alphabet_code_of : FnOk Pr w K mg base CX0 5 A.a_Alphabet_code_of B.d_Alphabet_code_of ["self", "number"] (spD K (R_Alphabet_code_of A))) {f : Addr} {cdv : Value} {Ar : Around} {outer : List Env} {s : Shared} {H : Hp} {E : XK} (hr : Room 5 (Ar.deeper (envOfC "Alphabet.__call__" (defScope s_Alphabet_call) s.heap.objs.size f cdv))) :
    PSs (cxOf CX0 Pr w K mg base N_Alphabet_call "Alphabet.__call__" (defScope s_Alphabet_call) f cdv Ar outer s H E).nox (defBody s_Alphabet_call) (t_Alphabet_call K A) :=
  (pss_one (ps_ret (pe_meth (pv 0) T.tc.cl_Alphabet T.me_Alphabet_code_of G_Alphabet_code_of (hr.mono (by decide)) T.b_Alphabet_code_of .nil pass0 (pa_cons (pv 1) pa_nil))))
theorem tm_Alphabet_signed (T : Txt K mg A B) (G_Alphabet_code_of : FnOk Pr w K mg base CX0 5 A.a_Alphabet_code_of B.d_Alphabet_code_of ["self", "number"] (spD K (R_Alphabet_code_of A))) (G_folded : FnOk Pr w K mg base CX0 2 A.a_folded B.d_folded ["number"] (spD K (R_folded A))) {f : Addr} {cdv : Value} {Ar : Around} {outer : List Env} {s : Shared} {H : Hp} {E : XK} (hr : Room 5 (Ar.deeper (envOfC "Alphabet.signed" (defScope s_Alphabet_signed) s.heap.objs.size f cdv))) :
    PSs (cxOf CX0 Pr w K mg base N_Alphabet_signed "Alphabet.signed" (defScope s_Alphabet_signed) f cdv Ar outer s H E).nox (defBody s_Alphabet_signed) (t_Alphabet_signed K A) :=
  (pss_one (ps_ret (pe_meth (pv 0) T.tc.cl_Alphabet T.me_Alphabet_code_of G_Alphabet_code_of (hr.mono (by decide)) T.b_Alphabet_code_of .nil pass0 (pa_cons (pe_call G_folded (hr.mono (by decide)) (by rfl) T.g_folded T.f_folded.kp T.b_folded .nil pass0 (pa_cons (pv 1) pa_nil)) pa_nil))))
theorem tm_Alphabet_codes (T : Txt K mg A B) (G_Alphabet_code_of : FnOk Pr w K mg base CX0 5 A.a_Alphabet_code_of B.d_Alphabet_code_of ["self", "number"] (spD K (R_Alphabet_code_of A))) {f : Addr} {cdv : Value} {Ar : Around} {outer : List Env} {s : Shared} {H : Hp} {E : XK} (hr : Room 5 (Ar.deeper (envOfC "Alphabet.codes" (defScope s_Alphabet_codes) s.heap.objs.size f cdv))) :
    PSs (cxOf CX0 Pr w K mg base N_Alphabet_codes "Alphabet.codes" (defScope s_Alphabet_codes) f cdv Ar outer s H E).nox (defBody s_Alphabet_codes) (t_Alphabet_codes K A) :=
  (pss_one (ps_ret (pe_m1 PySem.F.slot_str_join PySem.F.type_str_join mt_join pe_str (pe_lc (own := [("number", 2)]) rfl sc_Alphabet_codes.nd (pi_tup (pv 1)) (blkOk_by (own := [("number", 2)]) (N := N_Alphabet_codes) (sc := defScope s_Alphabet_codes) (by decide +kernel)) (fun _ _ _ _ _ => (pg_name (i := 2) sc_Alphabet_codes.nd rfl (Or.inl rfl))) (fun _ _ _ _ _ => pts_nil) (fun _ _ _ _ _ => (pe_meth (pv 0) T.tc.cl_Alphabet T.me_Alphabet_code_of G_Alphabet_code_of (hr.mono (by decide)) T.b_Alphabet_code_of .nil pass0 (pa_cons (pv 2) pa_nil)))))))
theorem tm_Alphabet_signed_in (T : Txt K mg A B) (G_Alphabet_read : FnOk Pr w K mg base CX0 2 A.a_Alphabet_read B.d_Alphabet_read ["self", "text", "limit"] (spD K (R_Alphabet_read A))) (G_check_text : FnOk Pr w K mg base CX0 1 A.a_check_text B.d_check_text ["value"] (spD K (R_check_text A))) (G_unfolded : FnOk Pr w K mg base CX0 5 A.a_unfolded B.d_unfolded ["number"] (spD K (R_unfolded A))) {f : Addr} {cdv : Value} {Ar : Around} {outer : List Env} {s : Shared} {H : Hp} {E : XK} {pn : List (Addr × Obj)} (hr : Room 5 (Ar.deeper (envOfC "Alphabet.signed_in" (defScope s_Alphabet_signed_in) s.heap.objs.size f cdv))) :
    ZG.GSs (gcxOf Pr w K mg base N_Alphabet_signed_in "Alphabet.signed_in" (defScope s_Alphabet_signed_in) f cdv Ar outer s H E pn).nox (defBody s_Alphabet_signed_in) (t_Alphabet_signed_in K A) :=
  (ZG.gss_cons (ZG.gs_ps (ps_expr (pe_call G_check_text (hr.mono (by decide)) (by rfl) T.g_check_text T.f_check_text.kp T.b_check_text .nil pass0 (pa_cons (pv 1) pa_nil))))
    (ZG.gss_cons (ZG.gs_ps (ps_asg (pe_meth (pv 0) T.tc.cl_Alphabet T.me_Alphabet_read G_Alphabet_read (hr.mono (by decide)) T.b_Alphabet_read .nil pass0 (pa_cons (pv 1) (pa_cons (pe_glob rfl T.k_FOLDED_LIMIT ⟨_, rfl⟩) pa_nil))) (pg_tup rfl (pgs_cons (pg_name (i := 2) sc_Alphabet_signed_in.nd rfl (Or.inl rfl)) (pgs_cons (pg_name (i := 3) sc_Alphabet_signed_in.nd rfl (Or.inl rfl)) pgs_nil)))))
    (ZG.gss_cons (ZG.gs_for PassesOwn.never rfl (pi_list (pv 2)) (pg_name (i := 4) sc_Alphabet_signed_in.nd rfl (Or.inl rfl)) (ZG.gss_cons (ZG.gs_yield (pe_call G_unfolded (hr.mono (by decide)) (by rfl) T.g_unfolded T.f_unfolded.kp T.b_unfolded .nil pass0 (pa_cons (pv 4) pa_nil)))
    ZG.gss_nil))
    (ZG.gss_cons (ZG.gs_ps (ps_if (pt_cmpR op_notN (pv 3) pe_non (nomark _)) pss_never pss_nil))
    ZG.gss_nil))))
theorem tm__law_codes_hold (T : Txt K mg A B) (G_Alphabet_call : FnOk Pr w K mg base CX0 6 A.a_Alphabet_call B.d_Alphabet_call ["self", "number"] (spD K (R_Alphabet_call A))) (G_Alphabet_codes : FnR Pr w K mg base CX0 6 A.a_Alphabet_codes (starS 1 (spD K (R_Alphabet_codes A)))) (G_Alphabet_numbers_in : ZG.GFn Pr w K mg base 3 A.a_Alphabet_numbers_in B.d_Alphabet_numbers_in ["self", "text"] (spGD K (R_Alphabet_numbers_in A))) (G__law_code : FnOk Pr w K mg base CX0 1 A.a__law_code B.d__law_code ["signs", "own_number"] (spD K (R__law_code A))) {f : Addr} {cdv : Value} {Ar : Around} {outer : List Env} {s : Shared} {H : Hp} {E : XK} (hr : Room 6 (Ar.deeper (envOfC "_law_codes_hold" (defScope s__law_codes_hold) s.heap.objs.size f cdv))) :
    PSs (cxOf CX0 Pr w K mg base N__law_codes_hold "_law_codes_hold" (defScope s__law_codes_hold) f cdv Ar outer s H E).nox (defBody s__law_codes_hold) (t__law_codes_hold K A) :=
  (pss_cons (ps_set (i := 3) sc__law_codes_hold.nd rfl (Or.inl rfl) (pe_m1 PySem.F.slot_str_join PySem.F.type_str_join mt_join pe_str (pe_lc (own := [("own_number", 7)]) rfl sc__law_codes_hold.nd (pi_list (pv 2)) (blkOk_by (own := [("own_number", 7)]) (N := N__law_codes_hold) (sc := defScope s__law_codes_hold) (by decide +kernel)) (fun _ _ _ _ _ => (pg_name (i := 7) sc__law_codes_hold.nd rfl (Or.inl rfl))) (fun _ _ _ _ _ => pts_nil) (fun _ _ _ _ _ => (pe_call G__law_code (hr.mono (by decide)) (by rfl) T.g__law_code T.f__law_code.kp T.b__law_code .nil pass0 (pa_cons (pv 1) (pa_cons (pv 7) pa_nil)))))))
      (pss_cons (ps_if (PW.pt (pw_or (pt_cmpR (op_neP hr.units) (pe_methVs0 (pv 0) T.tc.cl_Alphabet T.me_Alphabet_codes G_Alphabet_codes (hr.mono (by decide)) pass0) pe_str (nomark _)) (pw_or1 (pt_cmpR (op_neP hr.units) (pe_m1 PySem.F.slot_str_join PySem.F.type_str_join mt_join pe_str (pe_lc (own := [("own_number", 7)]) rfl sc__law_codes_hold.nd (pi_list (pv 2)) (blkOk_by (own := [("own_number", 7)]) (N := N__law_codes_hold) (sc := defScope s__law_codes_hold) (by decide +kernel)) (fun _ _ _ _ _ => (pg_name (i := 7) sc__law_codes_hold.nd rfl (Or.inl rfl))) (fun _ _ _ _ _ => pts_nil) (fun _ _ _ _ _ => (pe_callO' (pv 0) T.co_Alphabet (FnOk.raw0 G_Alphabet_call T.b_Alphabet_call) (hr.mono (by decide)) pass0 (pa_cons (pv 7) pa_nil))))) (pv 3) (nomark _))))) (pss_one (ps_ret pe_bl)) pss_nil)
      (pss_cons (ps_set (i := 4) sc__law_codes_hold.nd rfl (Or.inl rfl) (pe_m1 PySem.F.slot_str_join PySem.F.type_str_join mt_join pe_str (pe_lc (own := [("one", 5)]) rfl sc__law_codes_hold.nd (pi_list (pe_slice sl_U (pv 2) po_none (po_some pe_int))) (blkOk_by (own := [("one", 5)]) (N := N__law_codes_hold) (sc := defScope s__law_codes_hold) (by decide +kernel)) (fun _ _ _ _ _ => (pg_name (i := 5) sc__law_codes_hold.nd rfl (Or.inl rfl))) (fun _ _ _ _ _ => pts_nil) (fun _ _ _ _ _ => (pe_call G__law_code (hr.mono (by decide)) (by rfl) T.g__law_code T.f__law_code.kp T.b__law_code .nil pass0 (pa_cons (pv 1) (pa_cons (pv 5) pa_nil)))))))
      (pss_cons (ps_if (pt_cmpR (op_neP hr.units) (pe_methVs (pv 0) T.tc.cl_Alphabet T.me_Alphabet_codes G_Alphabet_codes (hr.mono (by decide)) pass0 (pa_cons (pe_ix ix_seq (pv 2) pe_int (fun _ _ => rfl)) (pa_cons (pe_ix ix_seq (pv 2) pe_int (fun _ _ => rfl)) (pa_cons (pe_ix ix_seq (pv 2) pe_int (fun _ _ => rfl)) pa_nil)))) (pv 4) (nomark _)) (pss_one (ps_ret pe_bl)) pss_nil)
      (pss_cons (ps_if (pt_cmpR (op_neP hr.units) (ZG.pe_lcZ (own := [("own_number", 7)]) (hr.mono (by decide)) sc__law_codes_hold.nd (ZG.pgen_meth (pv 0) T.tc.cl_Alphabet T.me_Alphabet_numbers_in G_Alphabet_numbers_in (hr.mono (by decide)) T.b_Alphabet_numbers_in .nil (pa_cons (pv 3) pa_nil)) (blkOk_by (own := [("own_number", 7)]) (N := N__law_codes_hold) (sc := defScope s__law_codes_hold) (by decide +kernel)) (by rfl) (by rfl)) (pv 2) (nomark _)) (pss_one (ps_ret pe_bl)) pss_nil)
      (pss_cons (ps_for PassesOwn.never rfl (pi_list (pv 2)) (pg_name (i := 5) sc__law_codes_hold.nd rfl (Or.inl rfl)) (pss_one (ps_for PassesOwn.never rfl (pi_list (pv 2)) (pg_name (i := 6) sc__law_codes_hold.nd rfl (Or.inl rfl)) (pss_one (ps_if (PW.pt (pw_and (pt_cmpR (op_neP hr.units) (pv 5) (pv 6) (nomark _)) (pw_and1 (pt_cmpR (op_eqP hr.units) (pe_callON (pv 0) T.co_Alphabet G_Alphabet_call (hr.mono (by decide)) T.kb_Alphabet_call_1_number pass0 (pk_cons (pv 5) pk_nil)) (pe_slice sl_U (pe_callO' (pv 0) T.co_Alphabet (FnOk.raw0 G_Alphabet_call T.b_Alphabet_call) (hr.mono (by decide)) pass0 (pa_cons (pv 6) pa_nil)) po_none (po_some (pe_callB call_len (by rfl) T.n_len (by decide +kernel) (pa_cons (pe_callO' (pv 0) T.co_Alphabet (FnOk.raw0 G_Alphabet_call T.b_Alphabet_call) (hr.mono (by decide)) pass0 (pa_cons (pv 5) pa_nil)) pa_nil)))) (nomark _))))) (pss_one (ps_ret pe_bl)) pss_nil)))))
      (pss_one (ps_ret pe_bl))))))))
theorem tm__law_signed_hold (T : Txt K mg A B) (G_Alphabet_signed : FnOk Pr w K mg base CX0 6 A.a_Alphabet_signed B.d_Alphabet_signed ["self", "number"] (spD K (R_Alphabet_signed A))) (G_Alphabet_signed_in : ZG.GFn Pr w K mg base 6 A.a_Alphabet_signed_in B.d_Alphabet_signed_in ["self", "text"] (spGD K (R_Alphabet_signed_in A))) (G__law_code : FnOk Pr w K mg base CX0 1 A.a__law_code B.d__law_code ["signs", "own_number"] (spD K (R__law_code A))) (G__law_folded : FnOk Pr w K mg base CX0 1 A.a__law_folded B.d__law_folded ["own_number"] (spD K (R__law_folded A))) (G_folded : FnOk Pr w K mg base CX0 2 A.a_folded B.d_folded ["number"] (spD K (R_folded A))) (G_unfolded : FnOk Pr w K mg base CX0 5 A.a_unfolded B.d_unfolded ["number"] (spD K (R_unfolded A))) {f : Addr} {cdv : Value} {Ar : Around} {outer : List Env} {s : Shared} {H : Hp} {E : XK} (hgu : (Ar.deeper (envOfC "_law_signed_hold" (defScope s__law_signed_hold) s.heap.objs.size f cdv)).guards = some []) (hr : Room 7 (Ar.deeper (envOfC "_law_signed_hold" (defScope s__law_signed_hold) s.heap.objs.size f cdv))) :
    PSs (cxOf CX0 Pr w K mg base N__law_signed_hold "_law_signed_hold" (defScope s__law_signed_hold) f cdv Ar outer s H E).nox (defBody s__law_signed_hold) (t__law_signed_hold K A) :=
  (pss_cons (ps_set (i := 3) sc__law_signed_hold.nd rfl (Or.inl rfl) (pe_m1 PySem.F.slot_str_join PySem.F.type_str_join mt_join pe_str (pe_lc (own := [("own_number", 5)]) rfl sc__law_signed_hold.nd (pi_list (pv 2)) (blkOk_by (own := [("own_number", 5)]) (N := N__law_signed_hold) (sc := defScope s__law_signed_hold) (by decide +kernel)) (fun _ _ _ _ _ => (pg_name (i := 5) sc__law_signed_hold.nd rfl (Or.inl rfl))) (fun _ _ _ _ _ => pts_nil) (fun _ _ _ _ _ => (pe_call G__law_code (hr.mono (by decide)) (by rfl) T.g__law_code T.f__law_code.kp T.b__law_code .nil pass0 (pa_cons (pv 1) (pa_cons (pe_call G__law_folded (hr.mono (by decide)) (by rfl) T.g__law_folded T.f__law_folded.kp T.b__law_folded .nil pass0 (pa_cons (pv 5) pa_nil)) pa_nil)))))))
      (pss_cons (ps_if (pt_cmpR (op_neP hr.units) (pe_m1 PySem.F.slot_str_join PySem.F.type_str_join mt_join pe_str (pe_lc (own := [("own_number", 5)]) rfl sc__law_signed_hold.nd (pi_list (pv 2)) (blkOk_by (own := [("own_number", 5)]) (N := N__law_signed_hold) (sc := defScope s__law_signed_hold) (by decide +kernel)) (fun _ _ _ _ _ => (pg_name (i := 5) sc__law_signed_hold.nd rfl (Or.inl rfl))) (fun _ _ _ _ _ => pts_nil) (fun _ _ _ _ _ => (pe_meth (pv 0) T.tc.cl_Alphabet T.me_Alphabet_signed G_Alphabet_signed (hr.mono (by decide)) T.b_Alphabet_signed .nil pass0 (pa_cons (pv 5) pa_nil))))) (pv 3) (nomark _)) (pss_one (ps_ret pe_bl)) pss_nil)
      (pss_cons (ps_if (pt_cmpR (op_neP hr.units) (pe_callB (call_reprV hgu hr.units) (by rfl) T.n_repr (by decide +kernel) (pa_cons (ZG.pe_lcZ (own := [("own_number", 5)]) (hr.mono (by decide)) sc__law_signed_hold.nd (ZG.pgen_methN (pv 0) T.tc.cl_Alphabet T.me_Alphabet_signed_in G_Alphabet_signed_in (hr.mono (by decide)) T.kb_Alphabet_signed_in_1_text (pk_cons (pv 3) pk_nil)) (blkOk_by (own := [("own_number", 5)]) (N := N__law_signed_hold) (sc := defScope s__law_signed_hold) (by decide +kernel)) (by rfl) (by rfl)) pa_nil)) (pe_callB (call_reprV hgu hr.units) (by rfl) T.n_repr (by decide +kernel) (pa_cons (pv 2) pa_nil)) (nomark _)) (pss_one (ps_ret pe_bl)) pss_nil)
      (pss_cons (ps_setLc (i := 4) (own := [("own_number", 5)]) rfl sc__law_signed_hold.nd rfl rfl (sw_true rfl rfl rfl (by decide +kernel)) (pi_list (pv 2)) (blkOk_by (own := [("own_number", 5)]) (N := N__law_signed_hold) (sc := defScope s__law_signed_hold) (by decide +kernel)) (fun _ _ _ _ _ => (pg_name (i := 5) sc__law_signed_hold.nd rfl (Or.inl rfl))) (fun _ _ _ _ _ => pts_nil) (fun _ _ _ _ _ => (pe_call G_folded (hr.mono (by decide)) (by rfl) T.g_folded T.f_folded.kp T.b_folded .nil pass0 (pa_cons (pv 5) pa_nil))))
      (pss_cons (ps_if (pt_cmpR (op_neP hr.units) (pv 4) (pe_lc (own := [("own_number", 5)]) rfl sc__law_signed_hold.nd (pi_list (pv 2)) (blkOk_by (own := [("own_number", 5)]) (N := N__law_signed_hold) (sc := defScope s__law_signed_hold) (by decide +kernel)) (fun _ _ _ _ _ => (pg_name (i := 5) sc__law_signed_hold.nd rfl (Or.inl rfl))) (fun _ _ _ _ _ => pts_nil) (fun _ _ _ _ _ => (pe_call G__law_folded (hr.mono (by decide)) (by rfl) T.g__law_folded T.f__law_folded.kp T.b__law_folded .nil pass0 (pa_cons (pv 5) pa_nil)))) (nomark _)) (pss_one (ps_ret pe_bl)) pss_nil)
      (pss_one (ps_ret (pe_cmpR (op_eqP hr.units) (pe_lc (own := [("one", 6)]) rfl sc__law_signed_hold.nd (pi_list (pv 4)) (blkOk_by (own := [("one", 6)]) (N := N__law_signed_hold) (sc := defScope s__law_signed_hold) (by decide +kernel)) (fun _ _ _ _ _ => (pg_name (i := 6) sc__law_signed_hold.nd rfl (Or.inl rfl))) (fun _ _ _ _ _ => pts_nil) (fun _ _ _ _ _ => (pe_call G_unfolded (hr.mono (by decide)) (by rfl) T.g_unfolded T.f_unfolded.kp T.b_unfolded .nil pass0 (pa_cons (pv 6) pa_nil)))) (pv 2) (nomark _)))))))))
theorem tm_law (T : Txt K mg A B) (G_Alphabet_call : FnOk Pr w K mg base CX0 6 A.a_Alphabet_call B.d_Alphabet_call ["self", "number"] (spD K (R_Alphabet_call A))) (G_Alphabet_codes : FnR Pr w K mg base CX0 6 A.a_Alphabet_codes (starS 1 (spD K (R_Alphabet_codes A)))) (G_Alphabet_init : FnOk Pr w K mg base CX0 2 A.a_Alphabet_init B.d_Alphabet_init ["self", "signs"] (spI K A.c_Alphabet (R_Alphabet_init A))) (G_Alphabet_numbers_in : ZG.GFn Pr w K mg base 3 A.a_Alphabet_numbers_in B.d_Alphabet_numbers_in ["self", "text"] (spGD K (R_Alphabet_numbers_in A))) (G_Alphabet_standard : FnOk Pr w K mg base CX0 4 A.a_Alphabet_standard B.d_Alphabet_standard ["cls"] (spD K (R_Alphabet_standard A))) (G__law_code : FnOk Pr w K mg base CX0 1 A.a__law_code B.d__law_code ["signs", "own_number"] (spD K (R__law_code A))) (G__law_codes_hold : FnOk Pr w K mg base CX0 7 A.a__law_codes_hold B.d__law_codes_hold ["alphabet", "signs", "numbers"] (spD K (R__law_codes_hold A))) (G__law_next : FnOk Pr w K mg base CX0 1 A.a__law_next B.d__law_next ["stream", "count"] (spD K (R__law_next A))) (G__law_signed_hold : FnG Pr w K mg base CX0 8 A.a__law_signed_hold B.d__law_signed_hold ["alphabet", "signs", "numbers"] (spD K (R__law_signed_hold A))) (G__law_signs : FnOk Pr w K mg base CX0 2 A.a__law_signs B.d__law_signs ["stream"] (spD K (R__law_signs A))) (G__law_sized : FnOk Pr w K mg base CX0 2 A.a__law_sized B.d__law_sized ["stream", "most"] (spD K (R__law_sized A))) (G__law_streams : FnOk Pr w K mg base CX0 1 A.a__law_streams B.d__law_streams ["script"] (spD K (R__law_streams A))) {f : Addr} {cdv : Value} {Ar : Around} {outer : List Env} {s : Shared} {H : Hp} {E : XK} (hgu : (Ar.deeper (envOfC "law" (defScope s_law) s.heap.objs.size f cdv)).guards = some []) (hr : Room 8 (Ar.deeper (envOfC "law" (defScope s_law) s.heap.objs.size f cdv))) :
    PSs (cxOf CX0 Pr w K mg base N_law "law" (defScope s_law) f cdv Ar outer s H E).nox (defBody s_law) (t_law K A) :=
  (pss_cons (ps_for PassesOwn.never rfl (pi_list (pe_slice sl_U (pe_call G__law_streams (hr.mono (by decide)) (by rfl) T.g__law_streams T.f__law_streams.kp T.b__law_streams .nil pass0 (pa_cons (pv 0) pa_nil)) po_none (po_some pe_int))) (pg_name (i := 1) sc_law.nd rfl (Or.inr rfl)) (pss_cons (ps_set (i := 2) sc_law.nd rfl (Or.inl rfl) (pe_call G__law_signs (hr.mono (by decide)) (by rfl) T.g__law_signs T.f__law_signs.kp T.b__law_signs .nil pass0 (pa_cons (pv 1) pa_nil)))
      (pss_cons (ps_set (i := 3) sc_law.nd rfl (Or.inr rfl) (pe_make T.mk_Alphabet G_Alphabet_init (hr.mono (by decide)) rfl T.gc_Alphabet T.b_Alphabet_init .nil pass0 (pa_cons (pv 2) pa_nil)))
      (pss_cons (ps_setLc (i := 4) (own := [("k", 8)]) rfl sc_law.nd rfl rfl (sw_true rfl rfl rfl (by decide +kernel)) (pi_range1 rfl T.n_range (pa_cons (pe_op op_addU pe_int (pe_call G__law_next (hr.mono (by decide)) (by rfl) T.g__law_next T.f__law_next.kp T.b__law_next .nil pass0 (pa_cons (pv 1) (pa_cons pe_int pa_nil)))) pa_nil)) (blkOk_by (own := [("k", 8)]) (N := N_law) (sc := defScope s_law) (by decide +kernel)) (fun _ _ _ _ _ => (pg_name (i := 8) sc_law.nd rfl (Or.inl rfl))) (fun _ _ _ _ _ => pts_nil) (fun _ _ _ _ _ => (pe_call G__law_sized (hr.mono (by decide)) (by rfl) T.g__law_sized T.f__law_sized.kp T.b__law_sized .nil pass0 (pa_cons (pv 1) (pa_cons (pe_op op_pow pe_int pe_int) pa_nil)))))
      (pss_cons (ps_if (pt_not (pt_val (pe_call G__law_codes_hold (hr.mono (by decide)) (by rfl) T.g__law_codes_hold T.f__law_codes_hold.kp T.b__law_codes_hold .nil pass0 (pa_cons (pv 3) (pa_cons (pv 2) (pa_cons (pv 4) pa_nil)))))) (pss_one (ps_ret pe_bl)) pss_nil)
      (pss_cons (ps_setLc (i := 4) (own := [("k", 8)]) rfl sc_law.nd rfl rfl (sw_true rfl rfl rfl (by decide +kernel)) (pi_range1 rfl T.n_range (pa_cons (pe_op op_addU pe_int (pe_call G__law_next (hr.mono (by decide)) (by rfl) T.g__law_next T.f__law_next.kp T.b__law_next .nil pass0 (pa_cons (pv 1) (pa_cons pe_int pa_nil)))) pa_nil)) (blkOk_by (own := [("k", 8)]) (N := N_law) (sc := defScope s_law) (by decide +kernel)) (fun _ _ _ _ _ => (pg_name (i := 8) sc_law.nd rfl (Or.inl rfl))) (fun _ _ _ _ _ => pts_nil) (fun _ _ _ _ _ => (pe_call G__law_sized (hr.mono (by decide)) (by rfl) T.g__law_sized T.f__law_sized.kp T.b__law_sized .nil pass0 (pa_cons (pv 1) (pa_cons (pe_op op_pow pe_int pe_int) pa_nil)))))
      (pss_cons (ps_setLc (i := 4) (own := [("own_number", 9)]) rfl sc_law.nd rfl rfl (sw_true rfl rfl rfl (by decide +kernel)) (pi_list (pv 4)) (blkOk_by (own := [("own_number", 9)]) (N := N_law) (sc := defScope s_law) (by decide +kernel)) (fun _ _ _ _ _ => (pg_name (i := 9) sc_law.nd rfl (Or.inl rfl))) (fun _ _ _ _ _ => pts_nil) (fun _ _ _ _ _ => (pe_ix ix_seq (pe_lst (pa_cons (pv 9) (pa_cons (pe_un un_neg (pv 9)) pa_nil))) (pe_call G__law_next (hr.mono (by decide)) (by rfl) T.g__law_next T.f__law_next.kp T.b__law_next .nil pass0 (pa_cons (pv 1) (pa_cons pe_int pa_nil))) (fun _ _ => rfl))))
      (pss_cons (ps_if (pt_not (pt_val (pe_callG hgu G__law_signed_hold (hr.mono (by decide)) rfl T.g__law_signed_hold T.f__law_signed_hold.kp T.b__law_signed_hold pass0 (pa_cons (pv 3) (pa_cons (pv 2) (pa_cons (pv 4) pa_nil)))))) (pss_one (ps_ret pe_bl)) pss_nil)
      (pss_cons (ps_setLc (i := 5) (own := [("k", 8)]) rfl sc_law.nd rfl rfl (sw_true rfl rfl rfl (by decide +kernel)) (pi_range1 rfl T.n_range (pa_cons (pe_call G__law_next (hr.mono (by decide)) (by rfl) T.g__law_next T.f__law_next.kp T.b__law_next .nil pass0 (pa_cons (pv 1) (pa_cons pe_int pa_nil))) pa_nil)) (blkOk_by (own := [("k", 8)]) (N := N_law) (sc := defScope s_law) (by decide +kernel)) (fun _ _ _ _ _ => (pg_name (i := 8) sc_law.nd rfl (Or.inl rfl))) (fun _ _ _ _ _ => pts_nil) (fun _ _ _ _ _ => (pv 8)))
      (pss_cons (ps_set (i := 6) sc_law.nd rfl (Or.inl rfl) (pe_m1 PySem.F.slot_str_join PySem.F.type_str_join mt_join pe_str (pe_lc (own := [("k", 8)]) rfl sc_law.nd (pi_list (pv 5)) (blkOk_by (own := [("k", 8)]) (N := N_law) (sc := defScope s_law) (by decide +kernel)) (fun _ _ _ _ _ => (pg_name (i := 8) sc_law.nd rfl (Or.inl rfl))) (fun _ _ _ _ _ => pts_nil) (fun _ _ _ _ _ => (pe_callO' (pv 3) T.co_Alphabet (FnOk.raw0 G_Alphabet_call T.b_Alphabet_call) (hr.mono (by decide)) pass0 (pa_cons (pv 8) pa_nil))))))
      (pss_one (ps_if (pt_cmpR (op_neP hr.units) (ZG.pe_lcZ (own := [("own_number", 9)]) (hr.mono (by decide)) sc_law.nd (ZG.pgen_meth (pv 3) T.tc.cl_Alphabet T.me_Alphabet_numbers_in G_Alphabet_numbers_in (hr.mono (by decide)) T.b_Alphabet_numbers_in .nil (pa_cons (pv 6) pa_nil)) (blkOk_by (own := [("own_number", 9)]) (N := N_law) (sc := defScope s_law) (by decide +kernel)) (by rfl) (by rfl)) (pv 5) (nomark _)) (pss_one (ps_ret pe_bl)) pss_nil))))))))))))
      (pss_cons (ps_set (i := 7) sc_law.nd rfl (Or.inl rfl) (pe_call G__law_code (hr.mono (by decide)) (by rfl) T.g__law_code T.f__law_code.kp T.b__law_code .nil pass0 (pa_cons (ClX.pe_cval (pe_glob (v := .ref A.c_Alphabet) (by rfl) T.gc_Alphabet (by rfl))) (pa_cons (pe_op op_pow pe_int pe_int) pa_nil))))
      (pss_one (ps_ret (pe_cmpR (op_eqP hr.units) (pe_methVs (ClX.pe_cmeth0 (pe_glob (v := .ref A.c_Alphabet) (by rfl) T.gc_Alphabet (by rfl)) T.cr_Alphabet T.cm_Alphabet_standard (FnOk.raw0 G_Alphabet_standard T.b_Alphabet_standard) (hr.mono (by decide)) pass0) T.tc.cl_Alphabet T.me_Alphabet_codes G_Alphabet_codes (hr.mono (by decide)) pass0 (pa_cons pe_int (pa_cons pe_int (pa_cons pe_int (pa_cons (pe_op op_pow pe_int pe_int) pa_nil))))) (pe_op op_addU pe_str (pv 7)) (nomark _))))))
end
section
variable {Pr : Program} {w : World} {K : PySem.W.Frag} [Tb K] {mg : Str → Option Value} {base : Heap} {A : Ad} {B : Fd}
theorem ok_is_integer (T : Txt K mg A B)  : FnOk Pr w K mg base CX0 1 A.a_is_integer B.d_is_integer ["value"] (spD K (R_is_integer A)) :=
  dok T.f_is_integer sc_is_integer len_is_integer (by decide) fun cdv Ar outer s H E hr => ⟨t_is_integer K A, tm_is_integer T  hr, w_is_integer T.tc⟩
theorem ok_check_text (T : Txt K mg A B)  : FnOk Pr w K mg base CX0 1 A.a_check_text B.d_check_text ["value"] (spD K (R_check_text A)) :=
  dok T.f_check_text sc_check_text len_check_text (by decide) fun cdv Ar outer s H E hr => ⟨t_check_text K A, tm_check_text T  hr, w_check_text T.tc⟩
theorem ok_digit_fits (T : Txt K mg A B)  : FnOk Pr w K mg base CX0 1 A.a_digit_fits B.d_digit_fits ["number", "index", "even_top", "odd_top"] (spD K (R_digit_fits A)) :=
  dok T.f_digit_fits sc_digit_fits len_digit_fits (by decide) fun cdv Ar outer s H E hr => ⟨t_digit_fits K A, tm_digit_fits T  hr, w_digit_fits T.tc⟩
theorem ok__is_row_of_signs (T : Txt K mg A B)  : FnOk Pr w K mg base CX0 1 A.a__is_row_of_signs B.d__is_row_of_signs ["value"] (spD K (R__is_row_of_signs A)) :=
  dok T.f__is_row_of_signs sc__is_row_of_signs len__is_row_of_signs (by decide) fun cdv Ar outer s H E hr => ⟨t__is_row_of_signs K A, tm__is_row_of_signs T  hr, w__is_row_of_signs T.tc⟩
theorem ok__law_streams (T : Txt K mg A B)  : FnOk Pr w K mg base CX0 1 A.a__law_streams B.d__law_streams ["script"] (spD K (R__law_streams A)) :=
  dok T.f__law_streams sc__law_streams len__law_streams (by decide) fun cdv Ar outer s H E hr => ⟨t__law_streams K A, tm__law_streams T  hr, w__law_streams T.tc⟩
theorem ok__law_next (T : Txt K mg A B)  : FnOk Pr w K mg base CX0 1 A.a__law_next B.d__law_next ["stream", "count"] (spD K (R__law_next A)) :=
  dok T.f__law_next sc__law_next len__law_next (by decide) fun cdv Ar outer s H E hr => ⟨t__law_next K A, tm__law_next T  hr, w__law_next T.tc⟩
theorem ok__law_free (T : Txt K mg A B)  : FnOk Pr w K mg base CX0 1 A.a__law_free B.d__law_free [] (spD K (R__law_free A)) :=
  dok T.f__law_free sc__law_free len__law_free (by decide) fun cdv Ar outer s H E hr => ⟨t__law_free K A, tm__law_free T  hr, w__law_free T.tc⟩
theorem ok__law_code (T : Txt K mg A B)  : FnOk Pr w K mg base CX0 1 A.a__law_code B.d__law_code ["signs", "own_number"] (spD K (R__law_code A)) :=
  dok T.f__law_code sc__law_code len__law_code (by decide) fun cdv Ar outer s H E hr => ⟨t__law_code K A, tm__law_code T  hr, w__law_code T.tc⟩
theorem ok__law_folded (T : Txt K mg A B)  : FnOk Pr w K mg base CX0 1 A.a__law_folded B.d__law_folded ["own_number"] (spD K (R__law_folded A)) :=
  dok T.f__law_folded sc__law_folded len__law_folded (by decide) fun cdv Ar outer s H E hr => ⟨t__law_folded K A, tm__law_folded T  hr, w__law_folded T.tc⟩
theorem ok_is_count (T : Txt K mg A B) (G_is_integer : FnOk Pr w K mg base CX0 1 A.a_is_integer B.d_is_integer ["value"] (spD K (R_is_integer A))) : FnOk Pr w K mg base CX0 2 A.a_is_count B.d_is_count ["value"] (spD K (R_is_count A)) :=
  dok T.f_is_count sc_is_count len_is_count (by decide) fun cdv Ar outer s H E hr => ⟨t_is_count K A, tm_is_count T G_is_integer hr, w_is_count T.tc⟩
theorem ok_folded (T : Txt K mg A B) (G_is_integer : FnOk Pr w K mg base CX0 1 A.a_is_integer B.d_is_integer ["value"] (spD K (R_is_integer A))) : FnOk Pr w K mg base CX0 2 A.a_folded B.d_folded ["number"] (spD K (R_folded A)) :=
  dok T.f_folded sc_folded len_folded (by decide) fun cdv Ar outer s H E hr => ⟨t_folded K A, tm_folded T G_is_integer hr, w_folded T.tc⟩
theorem ok_Alphabet_init (T : Txt K mg A B) (G__is_row_of_signs : FnOk Pr w K mg base CX0 1 A.a__is_row_of_signs B.d__is_row_of_signs ["value"] (spD K (R__is_row_of_signs A))) : FnOk Pr w K mg base CX0 2 A.a_Alphabet_init B.d_Alphabet_init ["self", "signs"] (spI K A.c_Alphabet (R_Alphabet_init A)) :=
  dokI T.f_Alphabet_init sc_Alphabet_init len_Alphabet_init (by decide) fun cdv Ar outer s H E hr => ⟨t_Alphabet_init K A, tm_Alphabet_init T G__is_row_of_signs hr, w_Alphabet_init T.tc⟩
theorem ok_Alphabet_read (T : Txt K mg A B) (G_digit_fits : FnOk Pr w K mg base CX0 1 A.a_digit_fits B.d_digit_fits ["number", "index", "even_top", "odd_top"] (spD K (R_digit_fits A))) : FnOk Pr w K mg base CX0 2 A.a_Alphabet_read B.d_Alphabet_read ["self", "text", "limit"] (spD K (R_Alphabet_read A)) :=
  dok T.f_Alphabet_read sc_Alphabet_read len_Alphabet_read (by decide) fun cdv Ar outer s H E hr => ⟨t_Alphabet_read K A, tm_Alphabet_read T G_digit_fits hr, w_Alphabet_read T.tc⟩
theorem ok__law_signs (T : Txt K mg A B) (G__law_free : FnOk Pr w K mg base CX0 1 A.a__law_free B.d__law_free [] (spD K (R__law_free A))) (G__law_next : FnOk Pr w K mg base CX0 1 A.a__law_next B.d__law_next ["stream", "count"] (spD K (R__law_next A))) : FnOk Pr w K mg base CX0 2 A.a__law_signs B.d__law_signs ["stream"] (spD K (R__law_signs A)) :=
  dok T.f__law_signs sc__law_signs len__law_signs (by decide) fun cdv Ar outer s H E hr => ⟨t__law_signs K A, tm__law_signs T G__law_free G__law_next hr, w__law_signs T.tc⟩
theorem ok__law_sized (T : Txt K mg A B) (G__law_next : FnOk Pr w K mg base CX0 1 A.a__law_next B.d__law_next ["stream", "count"] (spD K (R__law_next A))) : FnOk Pr w K mg base CX0 2 A.a__law_sized B.d__law_sized ["stream", "most"] (spD K (R__law_sized A)) :=
  dok T.f__law_sized sc__law_sized len__law_sized (by decide) fun cdv Ar outer s H E hr => ⟨t__law_sized K A, tm__law_sized T G__law_next hr, w__law_sized T.tc⟩
theorem ok_is_up_to (T : Txt K mg A B) (G_is_count : FnOk Pr w K mg base CX0 2 A.a_is_count B.d_is_count ["value"] (spD K (R_is_count A))) : FnOk Pr w K mg base CX0 3 A.a_is_up_to B.d_is_up_to ["value", "limit"] (spD K (R_is_up_to A)) :=
  dok T.f_is_up_to sc_is_up_to len_is_up_to (by decide) fun cdv Ar outer s H E hr => ⟨t_is_up_to K A, tm_is_up_to T G_is_count hr, w_is_up_to T.tc⟩
theorem ok_Alphabet_numbers_in (T : Txt K mg A B) (G_Alphabet_read : FnOk Pr w K mg base CX0 2 A.a_Alphabet_read B.d_Alphabet_read ["self", "text", "limit"] (spD K (R_Alphabet_read A))) (G_check_text : FnOk Pr w K mg base CX0 1 A.a_check_text B.d_check_text ["value"] (spD K (R_check_text A))) : ZG.GFn Pr w K mg base 3 A.a_Alphabet_numbers_in B.d_Alphabet_numbers_in ["self", "text"] (spGD K (R_Alphabet_numbers_in A)) :=
  dokZ T.f_Alphabet_numbers_in sc_Alphabet_numbers_in len_Alphabet_numbers_in (by decide) fun cdv Ar outer s H E pn hr => ⟨t_Alphabet_numbers_in K A, tm_Alphabet_numbers_in T G_Alphabet_read G_check_text hr, w_Alphabet_numbers_in T.tc⟩
theorem ok_check_up_to (T : Txt K mg A B) (G_is_up_to : FnOk Pr w K mg base CX0 3 A.a_is_up_to B.d_is_up_to ["value", "limit"] (spD K (R_is_up_to A))) : FnOk Pr w K mg base CX0 4 A.a_check_up_to B.d_check_up_to ["value", "limit"] (spD K (R_check_up_to A)) :=
  dok T.f_check_up_to sc_check_up_to len_check_up_to (by decide) fun cdv Ar outer s H E hr => ⟨t_check_up_to K A, tm_check_up_to T G_is_up_to hr, w_check_up_to T.tc⟩
theorem ok_Alphabet_standard (T : Txt K mg A B) (G_Alphabet_init : FnOk Pr w K mg base CX0 2 A.a_Alphabet_init B.d_Alphabet_init ["self", "signs"] (spI K A.c_Alphabet (R_Alphabet_init A))) : FnOk Pr w K mg base CX0 4 A.a_Alphabet_standard B.d_Alphabet_standard ["cls"] (spD K (R_Alphabet_standard A)) :=
  dok T.f_Alphabet_standard sc_Alphabet_standard len_Alphabet_standard (by decide) fun cdv Ar outer s H E hr => ⟨t_Alphabet_standard K A, tm_Alphabet_standard T G_Alphabet_init hr, w_Alphabet_standard T.tc⟩
theorem ok_unfolded (T : Txt K mg A B) (G_check_up_to : FnOk Pr w K mg base CX0 4 A.a_check_up_to B.d_check_up_to ["value", "limit"] (spD K (R_check_up_to A))) : FnOk Pr w K mg base CX0 5 A.a_unfolded B.d_unfolded ["number"] (spD K (R_unfolded A)) :=
  dok T.f_unfolded sc_unfolded len_unfolded (by decide) fun cdv Ar outer s H E hr => ⟨t_unfolded K A, tm_unfolded T G_check_up_to hr, w_unfolded T.tc⟩
theorem ok_Alphabet_code_of (T : Txt K mg A B) (G_check_up_to : FnOk Pr w K mg base CX0 4 A.a_check_up_to B.d_check_up_to ["value", "limit"] (spD K (R_check_up_to A))) : FnOk Pr w K mg base CX0 5 A.a_Alphabet_code_of B.d_Alphabet_code_of ["self", "number"] (spD K (R_Alphabet_code_of A)) :=
  dok T.f_Alphabet_code_of sc_Alphabet_code_of len_Alphabet_code_of (by decide) fun cdv Ar outer s H E hr => ⟨t_Alphabet_code_of K A, tm_Alphabet_code_of T G_check_up_to hr, w_Alphabet_code_of T.tc⟩
theorem ok_Alphabet_call (T : Txt K mg A B) (G_Alphabet_code_of : FnOk Pr w K mg base CX0 5 A.a_Alphabet_code_of B.d_Alphabet_code_of ["self", "number"] (spD K (R_Alphabet_code_of A))) : FnOk Pr w K mg base CX0 6 A.a_Alphabet_call B.d_Alphabet_call ["self", "number"] (spD K (R_Alphabet_call A)) :=
  dok T.f_Alphabet_call sc_Alphabet_call len_Alphabet_call (by decide) fun cdv Ar outer s H E hr => ⟨t_Alphabet_call K A, tm_Alphabet_call T G_Alphabet_code_of hr, w_Alphabet_call T.tc⟩
theorem ok_Alphabet_signed (T : Txt K mg A B) (G_Alphabet_code_of : FnOk Pr w K mg base CX0 5 A.a_Alphabet_code_of B.d_Alphabet_code_of ["self", "number"] (spD K (R_Alphabet_code_of A))) (G_folded : FnOk Pr w K mg base CX0 2 A.a_folded B.d_folded ["number"] (spD K (R_folded A))) : FnOk Pr w K mg base CX0 6 A.a_Alphabet_signed B.d_Alphabet_signed ["self", "number"] (spD K (R_Alphabet_signed A)) :=
  dok T.f_Alphabet_signed sc_Alphabet_signed len_Alphabet_signed (by decide) fun cdv Ar outer s H E hr => ⟨t_Alphabet_signed K A, tm_Alphabet_signed T G_Alphabet_code_of G_folded hr, w_Alphabet_signed T.tc⟩
theorem ok_Alphabet_codes (T : Txt K mg A B) (G_Alphabet_code_of : FnOk Pr w K mg base CX0 5 A.a_Alphabet_code_of B.d_Alphabet_code_of ["self", "number"] (spD K (R_Alphabet_code_of A))) : FnR Pr w K mg base CX0 6 A.a_Alphabet_codes (starS 1 (spD K (R_Alphabet_codes A))) :=
  dokS T.f_Alphabet_codes sc_Alphabet_codes T.b_Alphabet_codes len_Alphabet_codes (by decide) fun cdv Ar outer s H E hr => ⟨t_Alphabet_codes K A, tm_Alphabet_codes T G_Alphabet_code_of hr, w_Alphabet_codes T.tc⟩
theorem ok_Alphabet_signed_in (T : Txt K mg A B) (G_Alphabet_read : FnOk Pr w K mg base CX0 2 A.a_Alphabet_read B.d_Alphabet_read ["self", "text", "limit"] (spD K (R_Alphabet_read A))) (G_check_text : FnOk Pr w K mg base CX0 1 A.a_check_text B.d_check_text ["value"] (spD K (R_check_text A))) (G_unfolded : FnOk Pr w K mg base CX0 5 A.a_unfolded B.d_unfolded ["number"] (spD K (R_unfolded A))) : ZG.GFn Pr w K mg base 6 A.a_Alphabet_signed_in B.d_Alphabet_signed_in ["self", "text"] (spGD K (R_Alphabet_signed_in A)) :=
  dokZ T.f_Alphabet_signed_in sc_Alphabet_signed_in len_Alphabet_signed_in (by decide) fun cdv Ar outer s H E pn hr => ⟨t_Alphabet_signed_in K A, tm_Alphabet_signed_in T G_Alphabet_read G_check_text G_unfolded hr, w_Alphabet_signed_in T.tc⟩
theorem ok__law_codes_hold (T : Txt K mg A B) (G_Alphabet_call : FnOk Pr w K mg base CX0 6 A.a_Alphabet_call B.d_Alphabet_call ["self", "number"] (spD K (R_Alphabet_call A))) (G_Alphabet_codes : FnR Pr w K mg base CX0 6 A.a_Alphabet_codes (starS 1 (spD K (R_Alphabet_codes A)))) (G_Alphabet_numbers_in : ZG.GFn Pr w K mg base 3 A.a_Alphabet_numbers_in B.d_Alphabet_numbers_in ["self", "text"] (spGD K (R_Alphabet_numbers_in A))) (G__law_code : FnOk Pr w K mg base CX0 1 A.a__law_code B.d__law_code ["signs", "own_number"] (spD K (R__law_code A))) : FnOk Pr w K mg base CX0 7 A.a__law_codes_hold B.d__law_codes_hold ["alphabet", "signs", "numbers"] (spD K (R__law_codes_hold A)) :=
  dok T.f__law_codes_hold sc__law_codes_hold len__law_codes_hold (by decide) fun cdv Ar outer s H E hr => ⟨t__law_codes_hold K A, tm__law_codes_hold T G_Alphabet_call G_Alphabet_codes G_Alphabet_numbers_in G__law_code hr, w__law_codes_hold T.tc⟩
theorem ok__law_signed_hold (T : Txt K mg A B) (G_Alphabet_signed : FnOk Pr w K mg base CX0 6 A.a_Alphabet_signed B.d_Alphabet_signed ["self", "number"] (spD K (R_Alphabet_signed A))) (G_Alphabet_signed_in : ZG.GFn Pr w K mg base 6 A.a_Alphabet_signed_in B.d_Alphabet_signed_in ["self", "text"] (spGD K (R_Alphabet_signed_in A))) (G__law_code : FnOk Pr w K mg base CX0 1 A.a__law_code B.d__law_code ["signs", "own_number"] (spD K (R__law_code A))) (G__law_folded : FnOk Pr w K mg base CX0 1 A.a__law_folded B.d__law_folded ["own_number"] (spD K (R__law_folded A))) (G_folded : FnOk Pr w K mg base CX0 2 A.a_folded B.d_folded ["number"] (spD K (R_folded A))) (G_unfolded : FnOk Pr w K mg base CX0 5 A.a_unfolded B.d_unfolded ["number"] (spD K (R_unfolded A))) : FnG Pr w K mg base CX0 8 A.a__law_signed_hold B.d__law_signed_hold ["alphabet", "signs", "numbers"] (spD K (R__law_signed_hold A)) :=
  dokG T.f__law_signed_hold sc__law_signed_hold len__law_signed_hold (by decide) fun cdv Ar outer s H E hcd hgu hr => ⟨t__law_signed_hold K A, tm__law_signed_hold T G_Alphabet_signed G_Alphabet_signed_in G__law_code G__law_folded G_folded G_unfolded hgu hr, w__law_signed_hold T.tc⟩
theorem ok_law (T : Txt K mg A B) (G_Alphabet_call : FnOk Pr w K mg base CX0 6 A.a_Alphabet_call B.d_Alphabet_call ["self", "number"] (spD K (R_Alphabet_call A))) (G_Alphabet_codes : FnR Pr w K mg base CX0 6 A.a_Alphabet_codes (starS 1 (spD K (R_Alphabet_codes A)))) (G_Alphabet_init : FnOk Pr w K mg base CX0 2 A.a_Alphabet_init B.d_Alphabet_init ["self", "signs"] (spI K A.c_Alphabet (R_Alphabet_init A))) (G_Alphabet_numbers_in : ZG.GFn Pr w K mg base 3 A.a_Alphabet_numbers_in B.d_Alphabet_numbers_in ["self", "text"] (spGD K (R_Alphabet_numbers_in A))) (G_Alphabet_standard : FnOk Pr w K mg base CX0 4 A.a_Alphabet_standard B.d_Alphabet_standard ["cls"] (spD K (R_Alphabet_standard A))) (G__law_code : FnOk Pr w K mg base CX0 1 A.a__law_code B.d__law_code ["signs", "own_number"] (spD K (R__law_code A))) (G__law_codes_hold : FnOk Pr w K mg base CX0 7 A.a__law_codes_hold B.d__law_codes_hold ["alphabet", "signs", "numbers"] (spD K (R__law_codes_hold A))) (G__law_next : FnOk Pr w K mg base CX0 1 A.a__law_next B.d__law_next ["stream", "count"] (spD K (R__law_next A))) (G__law_signed_hold : FnG Pr w K mg base CX0 8 A.a__law_signed_hold B.d__law_signed_hold ["alphabet", "signs", "numbers"] (spD K (R__law_signed_hold A))) (G__law_signs : FnOk Pr w K mg base CX0 2 A.a__law_signs B.d__law_signs ["stream"] (spD K (R__law_signs A))) (G__law_sized : FnOk Pr w K mg base CX0 2 A.a__law_sized B.d__law_sized ["stream", "most"] (spD K (R__law_sized A))) (G__law_streams : FnOk Pr w K mg base CX0 1 A.a__law_streams B.d__law_streams ["script"] (spD K (R__law_streams A))) : FnG Pr w K mg base CX0 9 A.a_law B.d_law ["script"] (spD K (R_law A)) :=
  dokG T.f_law sc_law len_law (by decide) fun cdv Ar outer s H E hcd hgu hr => ⟨t_law K A, tm_law T G_Alphabet_call G_Alphabet_codes G_Alphabet_init G_Alphabet_numbers_in G_Alphabet_standard G__law_code G__law_codes_hold G__law_next G__law_signed_hold G__law_signs G__law_sized G__law_streams hgu hr, w_law T.tc⟩
theorem ok_all (T : Txt K mg A B)  : FnG Pr w K mg base CX0 9 A.a_law B.d_law ["script"] (spD K (R_law A)) := by
  have h_is_integer := ok_is_integer (Pr := Pr) (w := w) (base := base) T 
  have h_check_text := ok_check_text (Pr := Pr) (w := w) (base := base) T 
  have h_digit_fits := ok_digit_fits (Pr := Pr) (w := w) (base := base) T 
  have h__is_row_of_signs := ok__is_row_of_signs (Pr := Pr) (w := w) (base := base) T 
  have h__law_streams := ok__law_streams (Pr := Pr) (w := w) (base := base) T 
  have h__law_next := ok__law_next (Pr := Pr) (w := w) (base := base) T 
  have h__law_free := ok__law_free (Pr := Pr) (w := w) (base := base) T 
  have h__law_code := ok__law_code (Pr := Pr) (w := w) (base := base) T 
  have h__law_folded := ok__law_folded (Pr := Pr) (w := w) (base := base) T 
  have h_is_count := ok_is_count (Pr := Pr) (w := w) (base := base) T h_is_integer
  have h_folded := ok_folded (Pr := Pr) (w := w) (base := base) T h_is_integer
  have h_Alphabet_init := ok_Alphabet_init (Pr := Pr) (w := w) (base := base) T h__is_row_of_signs
  have h_Alphabet_read := ok_Alphabet_read (Pr := Pr) (w := w) (base := base) T h_digit_fits
  have h__law_signs := ok__law_signs (Pr := Pr) (w := w) (base := base) T h__law_free h__law_next
  have h__law_sized := ok__law_sized (Pr := Pr) (w := w) (base := base) T h__law_next
  have h_is_up_to := ok_is_up_to (Pr := Pr) (w := w) (base := base) T h_is_count
  have h_Alphabet_numbers_in := ok_Alphabet_numbers_in (Pr := Pr) (w := w) (base := base) T h_Alphabet_read h_check_text
  have h_check_up_to := ok_check_up_to (Pr := Pr) (w := w) (base := base) T h_is_up_to
  have h_Alphabet_standard := ok_Alphabet_standard (Pr := Pr) (w := w) (base := base) T h_Alphabet_init
  have h_unfolded := ok_unfolded (Pr := Pr) (w := w) (base := base) T h_check_up_to
  have h_Alphabet_code_of := ok_Alphabet_code_of (Pr := Pr) (w := w) (base := base) T h_check_up_to
  have h_Alphabet_call := ok_Alphabet_call (Pr := Pr) (w := w) (base := base) T h_Alphabet_code_of
  have h_Alphabet_signed := ok_Alphabet_signed (Pr := Pr) (w := w) (base := base) T h_Alphabet_code_of h_folded
  have h_Alphabet_codes := ok_Alphabet_codes (Pr := Pr) (w := w) (base := base) T h_Alphabet_code_of
  have h_Alphabet_signed_in := ok_Alphabet_signed_in (Pr := Pr) (w := w) (base := base) T h_Alphabet_read h_check_text h_unfolded
  have h__law_codes_hold := ok__law_codes_hold (Pr := Pr) (w := w) (base := base) T h_Alphabet_call h_Alphabet_codes h_Alphabet_numbers_in h__law_code
  have h__law_signed_hold := ok__law_signed_hold (Pr := Pr) (w := w) (base := base) T h_Alphabet_signed h_Alphabet_signed_in h__law_code h__law_folded h_folded h_unfolded
  have h_law := ok_law (Pr := Pr) (w := w) (base := base) T h_Alphabet_call h_Alphabet_codes h_Alphabet_init h_Alphabet_numbers_in h_Alphabet_standard h__law_code h__law_codes_hold h__law_next h__law_signed_hold h__law_signs h__law_sized h__law_streams
  exact h_law
end
theorem all_mk {l : PySem.W.OpenLaw} {w : World} {K : PySem.W.Frag} {h : Heap} {mg : Str → Option Value} {fa : Addr} (X : K.In h) (G : h.Ns mainGlobals mg) (hfa : mg "law" = some (.ref fa))
    {c_Alphabet a_is_integer a_check_text a_digit_fits a__is_row_of_signs a__law_streams a__law_next a__law_free a__law_code a__law_folded a_is_count a_folded a_Alphabet_init a_Alphabet_read a__law_signs a__law_sized a_is_up_to a_Alphabet_numbers_in a_check_up_to a_Alphabet_standard a_unfolded a_Alphabet_code_of a_Alphabet_call a_Alphabet_signed a_Alphabet_codes a_Alphabet_signed_in a__law_codes_hold a__law_signed_hold a_law p_Alphabet_standard : Addr}
    {od0 an0 : Option Addr} {sl0 : Array (Option Value)} {oc0 kV0 dc0 pm0 cd0 ct0 : Value}
    {od1 an1 : Option Addr} {sl1 : Array (Option Value)} {oc1 kV1 dc1 pm1 cd1 ct1 : Value}
    {od2 an2 : Option Addr} {sl2 : Array (Option Value)} {oc2 kV2 dc2 pm2 cd2 ct2 : Value}
    {od3 an3 : Option Addr} {sl3 : Array (Option Value)} {oc3 kV3 dc3 pm3 cd3 ct3 : Value}
    {od4 an4 : Option Addr} {sl4 : Array (Option Value)} {oc4 kV4 dc4 pm4 cd4 ct4 : Value}
    {od5 an5 : Option Addr} {sl5 : Array (Option Value)} {oc5 kV5 dc5 pm5 cd5 ct5 : Value}
    {od6 an6 : Option Addr} {sl6 : Array (Option Value)} {oc6 kV6 dc6 pm6 cd6 ct6 : Value}
    {od7 an7 : Option Addr} {sl7 : Array (Option Value)} {oc7 kV7 dc7 pm7 cd7 ct7 : Value}
    {od8 an8 : Option Addr} {sl8 : Array (Option Value)} {oc8 kV8 dc8 pm8 cd8 ct8 : Value}
    {od9 an9 : Option Addr} {sl9 : Array (Option Value)} {oc9 kV9 dc9 pm9 cd9 ct9 : Value}
    {od10 an10 : Option Addr} {sl10 : Array (Option Value)} {oc10 kV10 dc10 pm10 cd10 ct10 : Value}
    {od11 an11 : Option Addr} {sl11 : Array (Option Value)} {oc11 kV11 dc11 pm11 cd11 ct11 : Value}
    {od12 an12 : Option Addr} {sl12 : Array (Option Value)} {oc12 kV12 dc12 pm12 cd12 ct12 : Value}
    {od13 an13 : Option Addr} {sl13 : Array (Option Value)} {oc13 kV13 dc13 pm13 cd13 ct13 : Value}
    {od14 an14 : Option Addr} {sl14 : Array (Option Value)} {oc14 kV14 dc14 pm14 cd14 ct14 : Value}
    {od15 an15 : Option Addr} {sl15 : Array (Option Value)} {oc15 kV15 dc15 pm15 cd15 ct15 : Value}
    {od16 an16 : Option Addr} {sl16 : Array (Option Value)} {oc16 kV16 dc16 pm16 cd16 ct16 : Value}
    {od17 an17 : Option Addr} {sl17 : Array (Option Value)} {oc17 kV17 dc17 pm17 cd17 ct17 : Value}
    {od18 an18 : Option Addr} {sl18 : Array (Option Value)} {oc18 kV18 dc18 pm18 cd18 ct18 : Value}
    {od19 an19 : Option Addr} {sl19 : Array (Option Value)} {oc19 kV19 dc19 pm19 cd19 ct19 : Value}
    {od20 an20 : Option Addr} {sl20 : Array (Option Value)} {oc20 kV20 dc20 pm20 cd20 ct20 : Value}
    {od21 an21 : Option Addr} {sl21 : Array (Option Value)} {oc21 kV21 dc21 pm21 cd21 ct21 : Value}
    {od22 an22 : Option Addr} {sl22 : Array (Option Value)} {oc22 kV22 dc22 pm22 cd22 ct22 : Value}
    {od23 an23 : Option Addr} {sl23 : Array (Option Value)} {oc23 kV23 dc23 pm23 cd23 ct23 : Value}
    {od24 an24 : Option Addr} {sl24 : Array (Option Value)} {oc24 kV24 dc24 pm24 cd24 ct24 : Value}
    {od25 an25 : Option Addr} {sl25 : Array (Option Value)} {oc25 kV25 dc25 pm25 cd25 ct25 : Value}
    {od26 an26 : Option Addr} {sl26 : Array (Option Value)} {oc26 kV26 dc26 pm26 cd26 ct26 : Value}
    {od27 an27 : Option Addr} {sl27 : Array (Option Value)} {oc27 kV27 dc27 pm27 cd27 ct27 : Value}
    {t_CODE_LIMIT t_FOLDED_LIMIT t_MANY_DIGITS t_MANY_SIGNS t_PERCENT_SIGN t_SIGNED_LIMIT : Tok}
    {rs_Alphabet_standard : List Value}
    {tkcv_Alphabet_MARKS : Tok}
    {tkcv_Alphabet_STANDARD : Tok}
    (zma_Alphabet_standard : PySem.W.findCls K (.ref c_Alphabet) (.type "type") "standard" = some (.get (.builtin "classmethod.__get__") (.ref p_Alphabet_standard) .none (.ref c_Alphabet)))
    (zmr_Alphabet_standard : PySem.W.recIn K p_Alphabet_standard "classmethod" = some (.ref a_Alphabet_standard :: rs_Alphabet_standard))
    (zmi_Alphabet_standard : PySem.W.fnIn K a_Alphabet_standard = true)
    (zoa_Alphabet : PySem.W.findIn K (.ref c_Alphabet) "__call__" = some (some (.ref a_Alphabet_call)))
    (zof_Alphabet : PySem.W.isFn K (.ref a_Alphabet_call) = true)
    (zoi_Alphabet : PySem.W.fnIn K a_Alphabet_call = true)
    (zg__is_row_of_signs : PySem.W.nsIn K mainGlobals "_is_row_of_signs" = some (some (.ref a__is_row_of_signs)))
    (zg__law_code : PySem.W.nsIn K mainGlobals "_law_code" = some (some (.ref a__law_code)))
    (zg__law_codes_hold : PySem.W.nsIn K mainGlobals "_law_codes_hold" = some (some (.ref a__law_codes_hold)))
    (zg__law_folded : PySem.W.nsIn K mainGlobals "_law_folded" = some (some (.ref a__law_folded)))
    (zg__law_free : PySem.W.nsIn K mainGlobals "_law_free" = some (some (.ref a__law_free)))
    (zg__law_next : PySem.W.nsIn K mainGlobals "_law_next" = some (some (.ref a__law_next)))
    (zg__law_signed_hold : PySem.W.nsIn K mainGlobals "_law_signed_hold" = some (some (.ref a__law_signed_hold)))
    (zg__law_signs : PySem.W.nsIn K mainGlobals "_law_signs" = some (some (.ref a__law_signs)))
    (zg__law_sized : PySem.W.nsIn K mainGlobals "_law_sized" = some (some (.ref a__law_sized)))
    (zg__law_streams : PySem.W.nsIn K mainGlobals "_law_streams" = some (some (.ref a__law_streams)))
    (zg_check_text : PySem.W.nsIn K mainGlobals "check_text" = some (some (.ref a_check_text)))
    (zg_check_up_to : PySem.W.nsIn K mainGlobals "check_up_to" = some (some (.ref a_check_up_to)))
    (zg_digit_fits : PySem.W.nsIn K mainGlobals "digit_fits" = some (some (.ref a_digit_fits)))
    (zg_folded : PySem.W.nsIn K mainGlobals "folded" = some (some (.ref a_folded)))
    (zg_is_count : PySem.W.nsIn K mainGlobals "is_count" = some (some (.ref a_is_count)))
    (zg_is_integer : PySem.W.nsIn K mainGlobals "is_integer" = some (some (.ref a_is_integer)))
    (zg_is_up_to : PySem.W.nsIn K mainGlobals "is_up_to" = some (some (.ref a_is_up_to)))
    (zg_unfolded : PySem.W.nsIn K mainGlobals "unfolded" = some (some (.ref a_unfolded)))
    (zc_Alphabet : PySem.W.nsIn K mainGlobals "Alphabet" = some (some (.ref c_Alphabet)))
    (zk_CODE_LIMIT : PySem.W.nsIn K mainGlobals "CODE_LIMIT" = some (some (.int 1000000000000 t_CODE_LIMIT)))
    (zk_FOLDED_LIMIT : PySem.W.nsIn K mainGlobals "FOLDED_LIMIT" = some (some (.int 2000000000 t_FOLDED_LIMIT)))
    (zk_MANY_DIGITS : PySem.W.nsIn K mainGlobals "MANY_DIGITS" = some (some (.int 32 t_MANY_DIGITS)))
    (zk_MANY_SIGNS : PySem.W.nsIn K mainGlobals "MANY_SIGNS" = some (some (.int 64 t_MANY_SIGNS)))
    (zk_PERCENT_SIGN : PySem.W.nsIn K mainGlobals "PERCENT_SIGN" = some (some (.int 37 t_PERCENT_SIGN)))
    (zk_SIGNED_LIMIT : PySem.W.nsIn K mainGlobals "SIGNED_LIMIT" = some (some (.int 1000000000 t_SIGNED_LIMIT)))
    (zme_Alphabet_code_of : PySem.W.findIn K (.ref c_Alphabet) "_code_of" = some (some (.ref a_Alphabet_code_of)))
    (zmf_Alphabet_code_of : PySem.W.isFn K (.ref a_Alphabet_code_of) = true)
    (zme_Alphabet_codes : PySem.W.findIn K (.ref c_Alphabet) "codes" = some (some (.ref a_Alphabet_codes)))
    (zmf_Alphabet_codes : PySem.W.isFn K (.ref a_Alphabet_codes) = true)
    (zme_Alphabet_numbers_in : PySem.W.findIn K (.ref c_Alphabet) "numbers_in" = some (some (.ref a_Alphabet_numbers_in)))
    (zmf_Alphabet_numbers_in : PySem.W.isFn K (.ref a_Alphabet_numbers_in) = true)
    (zme_Alphabet_read : PySem.W.findIn K (.ref c_Alphabet) "_read" = some (some (.ref a_Alphabet_read)))
    (zmf_Alphabet_read : PySem.W.isFn K (.ref a_Alphabet_read) = true)
    (zme_Alphabet_signed : PySem.W.findIn K (.ref c_Alphabet) "signed" = some (some (.ref a_Alphabet_signed)))
    (zmf_Alphabet_signed : PySem.W.isFn K (.ref a_Alphabet_signed) = true)
    (zme_Alphabet_signed_in : PySem.W.findIn K (.ref c_Alphabet) "signed_in" = some (some (.ref a_Alphabet_signed_in)))
    (zmf_Alphabet_signed_in : PySem.W.isFn K (.ref a_Alphabet_signed_in) = true)
    (zki_Alphabet : PySem.W.findIn K (.ref c_Alphabet) "__init__" = some (some (.ref a_Alphabet_init)))
    (zkf_Alphabet : PySem.W.isFn K (.ref a_Alphabet_init) = true)
    (zkm_Alphabet : PySem.W.makesIn K c_Alphabet = true)
    (zkk_Alphabet : PySem.W.keepIn K (.ref c_Alphabet) = true)
    (zn_all : PySem.W.nsIn K mainGlobals "all" = some none)
    (zn_bool : PySem.W.nsIn K mainGlobals "bool" = some none)
    (zn_enumerate : PySem.W.nsIn K mainGlobals "enumerate" = some none)
    (zn_int : PySem.W.nsIn K mainGlobals "int" = some none)
    (zn_isinstance : PySem.W.nsIn K mainGlobals "isinstance" = some none)
    (zn_len : PySem.W.nsIn K mainGlobals "len" = some none)
    (zn_list : PySem.W.nsIn K mainGlobals "list" = some none)
    (zn_min : PySem.W.nsIn K mainGlobals "min" = some none)
    (zn_ord : PySem.W.nsIn K mainGlobals "ord" = some none)
    (zn_range : PySem.W.nsIn K mainGlobals "range" = some none)
    (zn_repr : PySem.W.nsIn K mainGlobals "repr" = some none)
    (zn_set : PySem.W.nsIn K mainGlobals "set" = some none)
    (zn_str : PySem.W.nsIn K mainGlobals "str" = some none)
    (zrd_Alphabet : PySem.W.readsIn K c_Alphabet (.type "type") = true)
    (zrg_Alphabet : PySem.W.specialIn K (.ref c_Alphabet) "__getattribute__" = some (some (.builtin "type.__getattribute__")))
    (zg_law : PySem.W.nsIn K mainGlobals "law" = some (some (.ref a_law)))
    (zcg_Alphabet : PySem.W.plainGet K c_Alphabet Str.empty = true)
    (zch_Alphabet : PySem.W.hasDictIn K c_Alphabet = true)
    (zcp_Alphabet : PySem.W.plainOver K c_Alphabet = true)
    (zcs_Alphabet : PySem.W.findIn K (.ref c_Alphabet) "__setattr__" = some (some (.builtin "object.__setattr__")))
    (zna_Alphabet__signs : PySem.W.findIn K (.ref c_Alphabet) "_signs" = some none)
    (zna_Alphabet__indexes : PySem.W.findIn K (.ref c_Alphabet) "_indexes" = some none)
    (zcrd_Alphabet : PySem.W.readsIn K c_Alphabet (.type "type") = true)
    (zcrg_Alphabet : PySem.W.specialIn K (.ref c_Alphabet) "__getattribute__" = some (some (.builtin "type.__getattribute__")))
    (zcv_Alphabet_MARKS : PySem.W.findCls K (.ref c_Alphabet) (.type "type") "MARKS" = some (.val (.str (PySem.Str.ofString ",;>.'") tkcv_Alphabet_MARKS)))
    (zcv_Alphabet_STANDARD : PySem.W.findCls K (.ref c_Alphabet) (.type "type") "STANDARD" = some (.val (.str (PySem.Str.ofString "ABCDEFGHIJKLMNOPQRSTUVWXYZabcdefghijklmnopqrstuvwxyz0123456789+/") tkcv_Alphabet_STANDARD)))
    (zl_is_integer : K.lookup a_is_integer = some ⟨oc0, od0, .func (PySem.W.fnOf "is_integer" "is_integer" (defArgs s_is_integer) (defBody s_is_integer) (defScope s_is_integer) .none kV0 dc0 pm0 an0 cd0 ct0), sl0⟩)
    (zd_is_integer : PySem.W.codeIn K cd0 "is_integer" = true)
    (ze_is_integer : PySem.W.keepIn K (.ref a_is_integer) = true)
    (zl_check_text : K.lookup a_check_text = some ⟨oc1, od1, .func (PySem.W.fnOf "check_text" "check_text" (defArgs s_check_text) (defBody s_check_text) (defScope s_check_text) .none kV1 dc1 pm1 an1 cd1 ct1), sl1⟩)
    (zd_check_text : PySem.W.codeIn K cd1 "check_text" = true)
    (ze_check_text : PySem.W.keepIn K (.ref a_check_text) = true)
    (zl_digit_fits : K.lookup a_digit_fits = some ⟨oc2, od2, .func (PySem.W.fnOf "digit_fits" "digit_fits" (defArgs s_digit_fits) (defBody s_digit_fits) (defScope s_digit_fits) .none kV2 dc2 pm2 an2 cd2 ct2), sl2⟩)
    (zd_digit_fits : PySem.W.codeIn K cd2 "digit_fits" = true)
    (ze_digit_fits : PySem.W.keepIn K (.ref a_digit_fits) = true)
    (zl__is_row_of_signs : K.lookup a__is_row_of_signs = some ⟨oc3, od3, .func (PySem.W.fnOf "_is_row_of_signs" "_is_row_of_signs" (defArgs s__is_row_of_signs) (defBody s__is_row_of_signs) (defScope s__is_row_of_signs) .none kV3 dc3 pm3 an3 cd3 ct3), sl3⟩)
    (zd__is_row_of_signs : PySem.W.codeIn K cd3 "_is_row_of_signs" = true)
    (ze__is_row_of_signs : PySem.W.keepIn K (.ref a__is_row_of_signs) = true)
    (zl__law_streams : K.lookup a__law_streams = some ⟨oc4, od4, .func (PySem.W.fnOf "_law_streams" "_law_streams" (defArgs s__law_streams) (defBody s__law_streams) (defScope s__law_streams) .none kV4 dc4 pm4 an4 cd4 ct4), sl4⟩)
    (zd__law_streams : PySem.W.codeIn K cd4 "_law_streams" = true)
    (ze__law_streams : PySem.W.keepIn K (.ref a__law_streams) = true)
    (zl__law_next : K.lookup a__law_next = some ⟨oc5, od5, .func (PySem.W.fnOf "_law_next" "_law_next" (defArgs s__law_next) (defBody s__law_next) (defScope s__law_next) .none kV5 dc5 pm5 an5 cd5 ct5), sl5⟩)
    (zd__law_next : PySem.W.codeIn K cd5 "_law_next" = true)
    (ze__law_next : PySem.W.keepIn K (.ref a__law_next) = true)
    (zl__law_free : K.lookup a__law_free = some ⟨oc6, od6, .func (PySem.W.fnOf "_law_free" "_law_free" (defArgs s__law_free) (defBody s__law_free) (defScope s__law_free) .none kV6 dc6 pm6 an6 cd6 ct6), sl6⟩)
    (zd__law_free : PySem.W.codeIn K cd6 "_law_free" = true)
    (ze__law_free : PySem.W.keepIn K (.ref a__law_free) = true)
    (zl__law_code : K.lookup a__law_code = some ⟨oc7, od7, .func (PySem.W.fnOf "_law_code" "_law_code" (defArgs s__law_code) (defBody s__law_code) (defScope s__law_code) .none kV7 dc7 pm7 an7 cd7 ct7), sl7⟩)
    (zd__law_code : PySem.W.codeIn K cd7 "_law_code" = true)
    (ze__law_code : PySem.W.keepIn K (.ref a__law_code) = true)
    (zl__law_folded : K.lookup a__law_folded = some ⟨oc8, od8, .func (PySem.W.fnOf "_law_folded" "_law_folded" (defArgs s__law_folded) (defBody s__law_folded) (defScope s__law_folded) .none kV8 dc8 pm8 an8 cd8 ct8), sl8⟩)
    (zd__law_folded : PySem.W.codeIn K cd8 "_law_folded" = true)
    (ze__law_folded : PySem.W.keepIn K (.ref a__law_folded) = true)
    (zl_is_count : K.lookup a_is_count = some ⟨oc9, od9, .func (PySem.W.fnOf "is_count" "is_count" (defArgs s_is_count) (defBody s_is_count) (defScope s_is_count) .none kV9 dc9 pm9 an9 cd9 ct9), sl9⟩)
    (zd_is_count : PySem.W.codeIn K cd9 "is_count" = true)
    (ze_is_count : PySem.W.keepIn K (.ref a_is_count) = true)
    (zl_folded : K.lookup a_folded = some ⟨oc10, od10, .func (PySem.W.fnOf "folded" "folded" (defArgs s_folded) (defBody s_folded) (defScope s_folded) .none kV10 dc10 pm10 an10 cd10 ct10), sl10⟩)
    (zd_folded : PySem.W.codeIn K cd10 "folded" = true)
    (ze_folded : PySem.W.keepIn K (.ref a_folded) = true)
    (zl_Alphabet_init : K.lookup a_Alphabet_init = some ⟨oc11, od11, .func (PySem.W.fnOf "__init__" "Alphabet.__init__" (defArgs s_Alphabet_init) (defBody s_Alphabet_init) (defScope s_Alphabet_init) .none kV11 dc11 pm11 an11 cd11 ct11), sl11⟩)
    (zd_Alphabet_init : PySem.W.codeIn K cd11 "Alphabet.__init__" = true)
    (ze_Alphabet_init : PySem.W.keepIn K (.ref a_Alphabet_init) = true)
    (zl_Alphabet_read : K.lookup a_Alphabet_read = some ⟨oc12, od12, .func (PySem.W.fnOf "_read" "Alphabet._read" (defArgs s_Alphabet_read) (defBody s_Alphabet_read) (defScope s_Alphabet_read) .none kV12 dc12 pm12 an12 cd12 ct12), sl12⟩)
    (zd_Alphabet_read : PySem.W.codeIn K cd12 "Alphabet._read" = true)
    (ze_Alphabet_read : PySem.W.keepIn K (.ref a_Alphabet_read) = true)
    (zl__law_signs : K.lookup a__law_signs = some ⟨oc13, od13, .func (PySem.W.fnOf "_law_signs" "_law_signs" (defArgs s__law_signs) (defBody s__law_signs) (defScope s__law_signs) .none kV13 dc13 pm13 an13 cd13 ct13), sl13⟩)
    (zd__law_signs : PySem.W.codeIn K cd13 "_law_signs" = true)
    (ze__law_signs : PySem.W.keepIn K (.ref a__law_signs) = true)
    (zl__law_sized : K.lookup a__law_sized = some ⟨oc14, od14, .func (PySem.W.fnOf "_law_sized" "_law_sized" (defArgs s__law_sized) (defBody s__law_sized) (defScope s__law_sized) .none kV14 dc14 pm14 an14 cd14 ct14), sl14⟩)
    (zd__law_sized : PySem.W.codeIn K cd14 "_law_sized" = true)
    (ze__law_sized : PySem.W.keepIn K (.ref a__law_sized) = true)
    (zl_is_up_to : K.lookup a_is_up_to = some ⟨oc15, od15, .func (PySem.W.fnOf "is_up_to" "is_up_to" (defArgs s_is_up_to) (defBody s_is_up_to) (defScope s_is_up_to) .none kV15 dc15 pm15 an15 cd15 ct15), sl15⟩)
    (zd_is_up_to : PySem.W.codeIn K cd15 "is_up_to" = true)
    (ze_is_up_to : PySem.W.keepIn K (.ref a_is_up_to) = true)
    (zl_Alphabet_numbers_in : K.lookup a_Alphabet_numbers_in = some ⟨oc16, od16, .func (PySem.W.fnOf "numbers_in" "Alphabet.numbers_in" (defArgs s_Alphabet_numbers_in) (defBody s_Alphabet_numbers_in) (defScope s_Alphabet_numbers_in) .none kV16 dc16 pm16 an16 cd16 ct16), sl16⟩)
    (zd_Alphabet_numbers_in : PySem.W.codeIn K cd16 "Alphabet.numbers_in" = true)
    (ze_Alphabet_numbers_in : PySem.W.keepIn K (.ref a_Alphabet_numbers_in) = true)
    (zl_check_up_to : K.lookup a_check_up_to = some ⟨oc17, od17, .func (PySem.W.fnOf "check_up_to" "check_up_to" (defArgs s_check_up_to) (defBody s_check_up_to) (defScope s_check_up_to) .none kV17 dc17 pm17 an17 cd17 ct17), sl17⟩)
    (zd_check_up_to : PySem.W.codeIn K cd17 "check_up_to" = true)
    (ze_check_up_to : PySem.W.keepIn K (.ref a_check_up_to) = true)
    (zl_Alphabet_standard : K.lookup a_Alphabet_standard = some ⟨oc18, od18, .func (PySem.W.fnOf "standard" "Alphabet.standard" (defArgs s_Alphabet_standard) (defBody s_Alphabet_standard) (defScope s_Alphabet_standard) .none kV18 dc18 pm18 an18 cd18 ct18), sl18⟩)
    (zd_Alphabet_standard : PySem.W.codeIn K cd18 "Alphabet.standard" = true)
    (ze_Alphabet_standard : PySem.W.keepIn K (.ref a_Alphabet_standard) = true)
    (zl_unfolded : K.lookup a_unfolded = some ⟨oc19, od19, .func (PySem.W.fnOf "unfolded" "unfolded" (defArgs s_unfolded) (defBody s_unfolded) (defScope s_unfolded) .none kV19 dc19 pm19 an19 cd19 ct19), sl19⟩)
    (zd_unfolded : PySem.W.codeIn K cd19 "unfolded" = true)
    (ze_unfolded : PySem.W.keepIn K (.ref a_unfolded) = true)
    (zl_Alphabet_code_of : K.lookup a_Alphabet_code_of = some ⟨oc20, od20, .func (PySem.W.fnOf "_code_of" "Alphabet._code_of" (defArgs s_Alphabet_code_of) (defBody s_Alphabet_code_of) (defScope s_Alphabet_code_of) .none kV20 dc20 pm20 an20 cd20 ct20), sl20⟩)
    (zd_Alphabet_code_of : PySem.W.codeIn K cd20 "Alphabet._code_of" = true)
    (ze_Alphabet_code_of : PySem.W.keepIn K (.ref a_Alphabet_code_of) = true)
    (zl_Alphabet_call : K.lookup a_Alphabet_call = some ⟨oc21, od21, .func (PySem.W.fnOf "__call__" "Alphabet.__call__" (defArgs s_Alphabet_call) (defBody s_Alphabet_call) (defScope s_Alphabet_call) .none kV21 dc21 pm21 an21 cd21 ct21), sl21⟩)
    (zd_Alphabet_call : PySem.W.codeIn K cd21 "Alphabet.__call__" = true)
    (ze_Alphabet_call : PySem.W.keepIn K (.ref a_Alphabet_call) = true)
    (zl_Alphabet_signed : K.lookup a_Alphabet_signed = some ⟨oc22, od22, .func (PySem.W.fnOf "signed" "Alphabet.signed" (defArgs s_Alphabet_signed) (defBody s_Alphabet_signed) (defScope s_Alphabet_signed) .none kV22 dc22 pm22 an22 cd22 ct22), sl22⟩)
    (zd_Alphabet_signed : PySem.W.codeIn K cd22 "Alphabet.signed" = true)
    (ze_Alphabet_signed : PySem.W.keepIn K (.ref a_Alphabet_signed) = true)
    (zl_Alphabet_codes : K.lookup a_Alphabet_codes = some ⟨oc23, od23, .func (PySem.W.fnOf "codes" "Alphabet.codes" (defArgs s_Alphabet_codes) (defBody s_Alphabet_codes) (defScope s_Alphabet_codes) .none kV23 dc23 pm23 an23 cd23 ct23), sl23⟩)
    (zd_Alphabet_codes : PySem.W.codeIn K cd23 "Alphabet.codes" = true)
    (ze_Alphabet_codes : PySem.W.keepIn K (.ref a_Alphabet_codes) = true)
    (zl_Alphabet_signed_in : K.lookup a_Alphabet_signed_in = some ⟨oc24, od24, .func (PySem.W.fnOf "signed_in" "Alphabet.signed_in" (defArgs s_Alphabet_signed_in) (defBody s_Alphabet_signed_in) (defScope s_Alphabet_signed_in) .none kV24 dc24 pm24 an24 cd24 ct24), sl24⟩)
    (zd_Alphabet_signed_in : PySem.W.codeIn K cd24 "Alphabet.signed_in" = true)
    (ze_Alphabet_signed_in : PySem.W.keepIn K (.ref a_Alphabet_signed_in) = true)
    (zl__law_codes_hold : K.lookup a__law_codes_hold = some ⟨oc25, od25, .func (PySem.W.fnOf "_law_codes_hold" "_law_codes_hold" (defArgs s__law_codes_hold) (defBody s__law_codes_hold) (defScope s__law_codes_hold) .none kV25 dc25 pm25 an25 cd25 ct25), sl25⟩)
    (zd__law_codes_hold : PySem.W.codeIn K cd25 "_law_codes_hold" = true)
    (ze__law_codes_hold : PySem.W.keepIn K (.ref a__law_codes_hold) = true)
    (zl__law_signed_hold : K.lookup a__law_signed_hold = some ⟨oc26, od26, .func (PySem.W.fnOf "_law_signed_hold" "_law_signed_hold" (defArgs s__law_signed_hold) (defBody s__law_signed_hold) (defScope s__law_signed_hold) .none kV26 dc26 pm26 an26 cd26 ct26), sl26⟩)
    (zd__law_signed_hold : PySem.W.codeIn K cd26 "_law_signed_hold" = true)
    (ze__law_signed_hold : PySem.W.keepIn K (.ref a__law_signed_hold) = true)
    (zl_law : K.lookup a_law = some ⟨oc27, od27, .func (PySem.W.fnOf "law" "law" (defArgs s_law) (defBody s_law) (defScope s_law) .none kV27 dc27 pm27 an27 cd27 ct27), sl27⟩)
    (zd_law : PySem.W.codeIn K cd27 "law" = true)
    (ze_law : PySem.W.keepIn K (.ref a_law) = true) :
    LamX.LawAtG l w K CX0 9 63 "script" mg fa h := by
  have e := hfa.symm.trans (PySem.W.mg_of X G zg_law)
  cases e
  have F_is_integer := fun_mk (st := s_is_integer) zl_is_integer zd_is_integer ze_is_integer
  have B_is_integer := F_is_integer.binds (ps := ["value"]) fun _ _ _ _ _ _ us hl => match us, hl with | [_], _ => rfl
  have F_check_text := fun_mk (st := s_check_text) zl_check_text zd_check_text ze_check_text
  have B_check_text := F_check_text.binds (ps := ["value"]) fun _ _ _ _ _ _ us hl => match us, hl with | [_], _ => rfl
  have F_digit_fits := fun_mk (st := s_digit_fits) zl_digit_fits zd_digit_fits ze_digit_fits
  have B_digit_fits := F_digit_fits.binds (ps := ["number", "index", "even_top", "odd_top"]) fun _ _ _ _ _ _ us hl => match us, hl with | [_, _, _, _], _ => rfl
  have F__is_row_of_signs := fun_mk (st := s__is_row_of_signs) zl__is_row_of_signs zd__is_row_of_signs ze__is_row_of_signs
  have B__is_row_of_signs := F__is_row_of_signs.binds (ps := ["value"]) fun _ _ _ _ _ _ us hl => match us, hl with | [_], _ => rfl
  have F__law_streams := fun_mk (st := s__law_streams) zl__law_streams zd__law_streams ze__law_streams
  have B__law_streams := F__law_streams.binds (ps := ["script"]) fun _ _ _ _ _ _ us hl => match us, hl with | [_], _ => rfl
  have F__law_next := fun_mk (st := s__law_next) zl__law_next zd__law_next ze__law_next
  have B__law_next := F__law_next.binds (ps := ["stream", "count"]) fun _ _ _ _ _ _ us hl => match us, hl with | [_, _], _ => rfl
  have F__law_free := fun_mk (st := s__law_free) zl__law_free zd__law_free ze__law_free
  have B__law_free := F__law_free.binds (ps := []) fun _ _ _ _ _ _ us hl => match us, hl with | [], _ => rfl
  have F__law_code := fun_mk (st := s__law_code) zl__law_code zd__law_code ze__law_code
  have B__law_code := F__law_code.binds (ps := ["signs", "own_number"]) fun _ _ _ _ _ _ us hl => match us, hl with | [_, _], _ => rfl
  have F__law_folded := fun_mk (st := s__law_folded) zl__law_folded zd__law_folded ze__law_folded
  have B__law_folded := F__law_folded.binds (ps := ["own_number"]) fun _ _ _ _ _ _ us hl => match us, hl with | [_], _ => rfl
  have F_is_count := fun_mk (st := s_is_count) zl_is_count zd_is_count ze_is_count
  have B_is_count := F_is_count.binds (ps := ["value"]) fun _ _ _ _ _ _ us hl => match us, hl with | [_], _ => rfl
  have F_folded := fun_mk (st := s_folded) zl_folded zd_folded ze_folded
  have B_folded := F_folded.binds (ps := ["number"]) fun _ _ _ _ _ _ us hl => match us, hl with | [_], _ => rfl
  have F_Alphabet_init := fun_mk (st := s_Alphabet_init) zl_Alphabet_init zd_Alphabet_init ze_Alphabet_init
  have B_Alphabet_init := F_Alphabet_init.binds (ps := ["self", "signs"]) fun _ _ _ _ _ _ us hl => match us, hl with | [_, _], _ => rfl
  have F_Alphabet_read := fun_mk (st := s_Alphabet_read) zl_Alphabet_read zd_Alphabet_read ze_Alphabet_read
  have B_Alphabet_read := F_Alphabet_read.binds (ps := ["self", "text", "limit"]) fun _ _ _ _ _ _ us hl => match us, hl with | [_, _, _], _ => rfl
  have F__law_signs := fun_mk (st := s__law_signs) zl__law_signs zd__law_signs ze__law_signs
  have B__law_signs := F__law_signs.binds (ps := ["stream"]) fun _ _ _ _ _ _ us hl => match us, hl with | [_], _ => rfl
  have F__law_sized := fun_mk (st := s__law_sized) zl__law_sized zd__law_sized ze__law_sized
  have B__law_sized := F__law_sized.binds (ps := ["stream", "most"]) fun _ _ _ _ _ _ us hl => match us, hl with | [_, _], _ => rfl
  have F_is_up_to := fun_mk (st := s_is_up_to) zl_is_up_to zd_is_up_to ze_is_up_to
  have B_is_up_to := F_is_up_to.binds (ps := ["value", "limit"]) fun _ _ _ _ _ _ us hl => match us, hl with | [_, _], _ => rfl
  have F_Alphabet_numbers_in := fun_mk (st := s_Alphabet_numbers_in) zl_Alphabet_numbers_in zd_Alphabet_numbers_in ze_Alphabet_numbers_in
  have B_Alphabet_numbers_in := F_Alphabet_numbers_in.binds (ps := ["self", "text"]) fun _ _ _ _ _ _ us hl => match us, hl with | [_, _], _ => rfl
  have F_check_up_to := fun_mk (st := s_check_up_to) zl_check_up_to zd_check_up_to ze_check_up_to
  have B_check_up_to := F_check_up_to.binds (ps := ["value", "limit"]) fun _ _ _ _ _ _ us hl => match us, hl with | [_, _], _ => rfl
  have F_Alphabet_standard := fun_mk (st := s_Alphabet_standard) zl_Alphabet_standard zd_Alphabet_standard ze_Alphabet_standard
  have B_Alphabet_standard := F_Alphabet_standard.binds (ps := ["cls"]) fun _ _ _ _ _ _ us hl => match us, hl with | [_], _ => rfl
  have F_unfolded := fun_mk (st := s_unfolded) zl_unfolded zd_unfolded ze_unfolded
  have B_unfolded := F_unfolded.binds (ps := ["number"]) fun _ _ _ _ _ _ us hl => match us, hl with | [_], _ => rfl
  have F_Alphabet_code_of := fun_mk (st := s_Alphabet_code_of) zl_Alphabet_code_of zd_Alphabet_code_of ze_Alphabet_code_of
  have B_Alphabet_code_of := F_Alphabet_code_of.binds (ps := ["self", "number"]) fun _ _ _ _ _ _ us hl => match us, hl with | [_, _], _ => rfl
  have F_Alphabet_call := fun_mk (st := s_Alphabet_call) zl_Alphabet_call zd_Alphabet_call ze_Alphabet_call
  have B_Alphabet_call := F_Alphabet_call.binds (ps := ["self", "number"]) fun _ _ _ _ _ _ us hl => match us, hl with | [_, _], _ => rfl
  have F_Alphabet_signed := fun_mk (st := s_Alphabet_signed) zl_Alphabet_signed zd_Alphabet_signed ze_Alphabet_signed
  have B_Alphabet_signed := F_Alphabet_signed.binds (ps := ["self", "number"]) fun _ _ _ _ _ _ us hl => match us, hl with | [_, _], _ => rfl
  have F_Alphabet_codes := fun_mk (st := s_Alphabet_codes) zl_Alphabet_codes zd_Alphabet_codes ze_Alphabet_codes
  have B_Alphabet_codes := F_Alphabet_codes.starB (ps := ["self"]) (pv := "numbers") fun _ _ _ _ _ _ => bind_star1 (B := fun l => bindArgs _ ⟨l, []⟩) (fun _ => rfl) fun _ _ _ => rfl
  have F_Alphabet_signed_in := fun_mk (st := s_Alphabet_signed_in) zl_Alphabet_signed_in zd_Alphabet_signed_in ze_Alphabet_signed_in
  have B_Alphabet_signed_in := F_Alphabet_signed_in.binds (ps := ["self", "text"]) fun _ _ _ _ _ _ us hl => match us, hl with | [_, _], _ => rfl
  have F__law_codes_hold := fun_mk (st := s__law_codes_hold) zl__law_codes_hold zd__law_codes_hold ze__law_codes_hold
  have B__law_codes_hold := F__law_codes_hold.binds (ps := ["alphabet", "signs", "numbers"]) fun _ _ _ _ _ _ us hl => match us, hl with | [_, _, _], _ => rfl
  have F__law_signed_hold := fun_mk (st := s__law_signed_hold) zl__law_signed_hold zd__law_signed_hold ze__law_signed_hold
  have B__law_signed_hold := F__law_signed_hold.binds (ps := ["alphabet", "signs", "numbers"]) fun _ _ _ _ _ _ us hl => match us, hl with | [_, _, _], _ => rfl
  have F_law := fun_mk (st := s_law) zl_law zd_law ze_law
  have B_law := F_law.binds (ps := ["script"]) fun _ _ _ _ _ _ us hl => match us, hl with | [_], _ => rfl
  have KB_Alphabet_call_1_number := F_Alphabet_call.kbn (ps := ["self", "number"]) (ks := ["number"]) (n := 1) [0, 1] fun _ _ _ _ _ _ us ws h1 h2 => match us, ws, h1, h2 with | [_], [_], _, _ => rfl
  have KB_Alphabet_signed_in_1_text := F_Alphabet_signed_in.kbn (ps := ["self", "text"]) (ks := ["text"]) (n := 1) [0, 1] fun _ _ _ _ _ _ us ws h1 h2 => match us, ws, h1, h2 with | [_], [_], _, _ => rfl
  letI : Tb K := ⟨[]⟩
  have T : Txt K mg ⟨c_Alphabet, a_is_integer, a_check_text, a_digit_fits, a__is_row_of_signs, a__law_streams, a__law_next, a__law_free, a__law_code, a__law_folded, a_is_count, a_folded, a_Alphabet_init, a_Alphabet_read, a__law_signs, a__law_sized, a_is_up_to, a_Alphabet_numbers_in, a_check_up_to, a_Alphabet_standard, a_unfolded, a_Alphabet_code_of, a_Alphabet_call, a_Alphabet_signed, a_Alphabet_codes, a_Alphabet_signed_in, a__law_codes_hold, a__law_signed_hold, fa, p_Alphabet_standard, t_CODE_LIMIT, t_FOLDED_LIMIT, t_MANY_DIGITS, t_MANY_SIGNS, t_PERCENT_SIGN, t_SIGNED_LIMIT⟩ ⟨_, _, _, _, _, _, _, _, _, _, _, _, _, _, _, _, _, _, _, _, _, _, _, _, _, _, _, _⟩ := {
    f_is_integer := F_is_integer,
    b_is_integer := B_is_integer,
    f_check_text := F_check_text,
    b_check_text := B_check_text,
    f_digit_fits := F_digit_fits,
    b_digit_fits := B_digit_fits,
    f__is_row_of_signs := F__is_row_of_signs,
    b__is_row_of_signs := B__is_row_of_signs,
    f__law_streams := F__law_streams,
    b__law_streams := B__law_streams,
    f__law_next := F__law_next,
    b__law_next := B__law_next,
    f__law_free := F__law_free,
    b__law_free := B__law_free,
    f__law_code := F__law_code,
    b__law_code := B__law_code,
    f__law_folded := F__law_folded,
    b__law_folded := B__law_folded,
    f_is_count := F_is_count,
    b_is_count := B_is_count,
    f_folded := F_folded,
    b_folded := B_folded,
    f_Alphabet_init := F_Alphabet_init,
    b_Alphabet_init := B_Alphabet_init,
    f_Alphabet_read := F_Alphabet_read,
    b_Alphabet_read := B_Alphabet_read,
    f__law_signs := F__law_signs,
    b__law_signs := B__law_signs,
    f__law_sized := F__law_sized,
    b__law_sized := B__law_sized,
    f_is_up_to := F_is_up_to,
    b_is_up_to := B_is_up_to,
    f_Alphabet_numbers_in := F_Alphabet_numbers_in,
    b_Alphabet_numbers_in := B_Alphabet_numbers_in,
    f_check_up_to := F_check_up_to,
    b_check_up_to := B_check_up_to,
    f_Alphabet_standard := F_Alphabet_standard,
    b_Alphabet_standard := B_Alphabet_standard,
    f_unfolded := F_unfolded,
    b_unfolded := B_unfolded,
    f_Alphabet_code_of := F_Alphabet_code_of,
    b_Alphabet_code_of := B_Alphabet_code_of,
    f_Alphabet_call := F_Alphabet_call,
    b_Alphabet_call := B_Alphabet_call,
    f_Alphabet_signed := F_Alphabet_signed,
    b_Alphabet_signed := B_Alphabet_signed,
    f_Alphabet_codes := F_Alphabet_codes,
    b_Alphabet_codes := B_Alphabet_codes,
    f_Alphabet_signed_in := F_Alphabet_signed_in,
    b_Alphabet_signed_in := B_Alphabet_signed_in,
    f__law_codes_hold := F__law_codes_hold,
    b__law_codes_hold := B__law_codes_hold,
    f__law_signed_hold := F__law_signed_hold,
    b__law_signed_hold := B__law_signed_hold,
    f_law := F_law,
    b_law := B_law,
    kb_Alphabet_call_1_number := KB_Alphabet_call_1_number,
    kb_Alphabet_signed_in_1_text := KB_Alphabet_signed_in_1_text,
    cm_Alphabet_standard := ⟨zma_Alphabet_standard, ⟨_, zmr_Alphabet_standard⟩, zmi_Alphabet_standard⟩,
    co_Alphabet := ⟨zoa_Alphabet, zof_Alphabet, zoi_Alphabet⟩,
    g__is_row_of_signs := PySem.W.mg_of X G zg__is_row_of_signs,
    g__law_code := PySem.W.mg_of X G zg__law_code,
    g__law_codes_hold := PySem.W.mg_of X G zg__law_codes_hold,
    g__law_folded := PySem.W.mg_of X G zg__law_folded,
    g__law_free := PySem.W.mg_of X G zg__law_free,
    g__law_next := PySem.W.mg_of X G zg__law_next,
    g__law_signed_hold := PySem.W.mg_of X G zg__law_signed_hold,
    g__law_signs := PySem.W.mg_of X G zg__law_signs,
    g__law_sized := PySem.W.mg_of X G zg__law_sized,
    g__law_streams := PySem.W.mg_of X G zg__law_streams,
    g_check_text := PySem.W.mg_of X G zg_check_text,
    g_check_up_to := PySem.W.mg_of X G zg_check_up_to,
    g_digit_fits := PySem.W.mg_of X G zg_digit_fits,
    g_folded := PySem.W.mg_of X G zg_folded,
    g_is_count := PySem.W.mg_of X G zg_is_count,
    g_is_integer := PySem.W.mg_of X G zg_is_integer,
    g_is_up_to := PySem.W.mg_of X G zg_is_up_to,
    g_unfolded := PySem.W.mg_of X G zg_unfolded,
    gc_Alphabet := PySem.W.mg_of X G zc_Alphabet,
    k_CODE_LIMIT := PySem.W.mg_of X G zk_CODE_LIMIT,
    k_FOLDED_LIMIT := PySem.W.mg_of X G zk_FOLDED_LIMIT,
    k_MANY_DIGITS := PySem.W.mg_of X G zk_MANY_DIGITS,
    k_MANY_SIGNS := PySem.W.mg_of X G zk_MANY_SIGNS,
    k_PERCENT_SIGN := PySem.W.mg_of X G zk_PERCENT_SIGN,
    k_SIGNED_LIMIT := PySem.W.mg_of X G zk_SIGNED_LIMIT,
    me_Alphabet_code_of := ⟨zme_Alphabet_code_of, zmf_Alphabet_code_of, ze_Alphabet_code_of⟩,
    me_Alphabet_codes := ⟨zme_Alphabet_codes, zmf_Alphabet_codes, ze_Alphabet_codes⟩,
    me_Alphabet_numbers_in := ⟨zme_Alphabet_numbers_in, zmf_Alphabet_numbers_in, ze_Alphabet_numbers_in⟩,
    me_Alphabet_read := ⟨zme_Alphabet_read, zmf_Alphabet_read, ze_Alphabet_read⟩,
    me_Alphabet_signed := ⟨zme_Alphabet_signed, zmf_Alphabet_signed, ze_Alphabet_signed⟩,
    me_Alphabet_signed_in := ⟨zme_Alphabet_signed_in, zmf_Alphabet_signed_in, ze_Alphabet_signed_in⟩,
    mk_Alphabet := ⟨zkm_Alphabet, zki_Alphabet, zkf_Alphabet, zkk_Alphabet⟩,
    n_all := PySem.W.mg_none_of X G zn_all,
    n_bool := PySem.W.mg_none_of X G zn_bool,
    n_enumerate := PySem.W.mg_none_of X G zn_enumerate,
    n_int := PySem.W.mg_none_of X G zn_int,
    n_isinstance := PySem.W.mg_none_of X G zn_isinstance,
    n_len := PySem.W.mg_none_of X G zn_len,
    n_list := PySem.W.mg_none_of X G zn_list,
    n_min := PySem.W.mg_none_of X G zn_min,
    n_ord := PySem.W.mg_none_of X G zn_ord,
    n_range := PySem.W.mg_none_of X G zn_range,
    n_repr := PySem.W.mg_none_of X G zn_repr,
    n_set := PySem.W.mg_none_of X G zn_set,
    n_str := PySem.W.mg_none_of X G zn_str,
    cr_Alphabet := ⟨zrd_Alphabet, zrg_Alphabet⟩,
    tc := { cl_Alphabet := ⟨zcg_Alphabet, zch_Alphabet, zcp_Alphabet, zcs_Alphabet⟩, na_Alphabet__signs := zna_Alphabet__signs, na_Alphabet__indexes := zna_Alphabet__indexes, crd_Alphabet := ⟨zcrd_Alphabet, zcrg_Alphabet⟩, cv_Alphabet_MARKS := ⟨_, zcv_Alphabet_MARKS, ⟨_, rfl⟩⟩, cv_Alphabet_STANDARD := ⟨_, zcv_Alphabet_STANDARD, ⟨_, rfl⟩⟩ } }
  exact ⟨_, [], spL K, fun p hp => absurd hp (by simp), fun s v => .of_eq rfl, fun H a ns hl hT hS => law_start hl hS (tb := []) rfl .nil (fun p hp => absurd hp (by simp)), fun base _ _ hTB => ok_all T⟩
end Lw
open PySem PySem.W PyProof.Rows in
set_option maxRecDepth 100000 in
set_option maxHeartbeats 0 in
theorem PySem.Challenge.cw_mapstack_k25_whole_codes_holds : PySem.Challenge.rw_mapstack_k25_whole_codes.Holds := by
  refine Lw.hd ?_
  k_fill
  refine LamX.walkG (l := PySem.Challenge.rw_mapstack_k25_whole_codes) (n := 63) (k := 9) (x := "script") (CX := fun _ => L2.CX0) rfl (by decide) rfl ⟨rfl, by decide, by decide⟩ (fun w h Y => PySem.W.kIn_of Y) ?F fun _ _ _ _ _ z => z
  case F =>
    intro w mg fa h Y KX G hmg
    refine' Lw.all_mk KX G hmg ?zma_Alphabet_standard ?zmr_Alphabet_standard ?zmi_Alphabet_standard ?zoa_Alphabet ?zof_Alphabet ?zoi_Alphabet ?zg__is_row_of_signs ?zg__law_code ?zg__law_codes_hold ?zg__law_folded ?zg__law_free ?zg__law_next ?zg__law_signed_hold ?zg__law_signs ?zg__law_sized ?zg__law_streams ?zg_check_text ?zg_check_up_to ?zg_digit_fits ?zg_folded ?zg_is_count ?zg_is_integer ?zg_is_up_to ?zg_unfolded ?zc_Alphabet ?zk_CODE_LIMIT ?zk_FOLDED_LIMIT ?zk_MANY_DIGITS ?zk_MANY_SIGNS ?zk_PERCENT_SIGN ?zk_SIGNED_LIMIT ?zme_Alphabet_code_of ?zmf_Alphabet_code_of ?zme_Alphabet_codes ?zmf_Alphabet_codes ?zme_Alphabet_numbers_in ?zmf_Alphabet_numbers_in ?zme_Alphabet_read ?zmf_Alphabet_read ?zme_Alphabet_signed ?zmf_Alphabet_signed ?zme_Alphabet_signed_in ?zmf_Alphabet_signed_in ?zki_Alphabet ?zkf_Alphabet ?zkm_Alphabet ?zkk_Alphabet ?zn_all ?zn_bool ?zn_enumerate ?zn_int ?zn_isinstance ?zn_len ?zn_list ?zn_min ?zn_ord ?zn_range ?zn_repr ?zn_set ?zn_str ?zrd_Alphabet ?zrg_Alphabet ?zg_law ?zcg_Alphabet ?zch_Alphabet ?zcp_Alphabet ?zcs_Alphabet ?zna_Alphabet__signs ?zna_Alphabet__indexes ?zcrd_Alphabet ?zcrg_Alphabet ?zcv_Alphabet_MARKS ?zcv_Alphabet_STANDARD ?zl_is_integer ?zd_is_integer ?ze_is_integer ?zl_check_text ?zd_check_text ?ze_check_text ?zl_digit_fits ?zd_digit_fits ?ze_digit_fits ?zl__is_row_of_signs ?zd__is_row_of_signs ?ze__is_row_of_signs ?zl__law_streams ?zd__law_streams ?ze__law_streams ?zl__law_next ?zd__law_next ?ze__law_next ?zl__law_free ?zd__law_free ?ze__law_free ?zl__law_code ?zd__law_code ?ze__law_code ?zl__law_folded ?zd__law_folded ?ze__law_folded ?zl_is_count ?zd_is_count ?ze_is_count ?zl_folded ?zd_folded ?ze_folded ?zl_Alphabet_init ?zd_Alphabet_init ?ze_Alphabet_init ?zl_Alphabet_read ?zd_Alphabet_read ?ze_Alphabet_read ?zl__law_signs ?zd__law_signs ?ze__law_signs ?zl__law_sized ?zd__law_sized ?ze__law_sized ?zl_is_up_to ?zd_is_up_to ?ze_is_up_to ?zl_Alphabet_numbers_in ?zd_Alphabet_numbers_in ?ze_Alphabet_numbers_in ?zl_check_up_to ?zd_check_up_to ?ze_check_up_to ?zl_Alphabet_standard ?zd_Alphabet_standard ?ze_Alphabet_standard ?zl_unfolded ?zd_unfolded ?ze_unfolded ?zl_Alphabet_code_of ?zd_Alphabet_code_of ?ze_Alphabet_code_of ?zl_Alphabet_call ?zd_Alphabet_call ?ze_Alphabet_call ?zl_Alphabet_signed ?zd_Alphabet_signed ?ze_Alphabet_signed ?zl_Alphabet_codes ?zd_Alphabet_codes ?ze_Alphabet_codes ?zl_Alphabet_signed_in ?zd_Alphabet_signed_in ?ze_Alphabet_signed_in ?zl__law_codes_hold ?zd__law_codes_hold ?ze__law_codes_hold ?zl__law_signed_hold ?zd__law_signed_hold ?ze__law_signed_hold ?zl_law ?zd_law ?ze_law 
    (case zg__is_row_of_signs => k_is)
    (case zg__law_code => k_is)
    (case zg__law_codes_hold => k_is)
    (case zg__law_folded => k_is)
    (case zg__law_free => k_is)
    (case zg__law_next => k_is)
    (case zg__law_signed_hold => k_is)
    (case zg__law_signs => k_is)
    (case zg__law_sized => k_is)
    (case zg__law_streams => k_is)
    (case zg_check_text => k_is)
    (case zg_check_up_to => k_is)
    (case zg_digit_fits => k_is)
    (case zg_folded => k_is)
    (case zg_is_count => k_is)
    (case zg_is_integer => k_is)
    (case zg_is_up_to => k_is)
    (case zg_unfolded => k_is)
    (case zc_Alphabet => k_is)
    (case zk_CODE_LIMIT => k_is)
    (case zk_FOLDED_LIMIT => k_is)
    (case zk_MANY_DIGITS => k_is)
    (case zk_MANY_SIGNS => k_is)
    (case zk_PERCENT_SIGN => k_is)
    (case zk_SIGNED_LIMIT => k_is)
    (case zn_all => k_is)
    (case zn_bool => k_is)
    (case zn_enumerate => k_is)
    (case zn_int => k_is)
    (case zn_isinstance => k_is)
    (case zn_len => k_is)
    (case zn_list => k_is)
    (case zn_min => k_is)
    (case zn_ord => k_is)
    (case zn_range => k_is)
    (case zn_repr => k_is)
    (case zn_set => k_is)
    (case zn_str => k_is)
    (case zg_law => k_is)
    (case zma_Alphabet_standard => k_is)
    (case zoa_Alphabet => k_is)
    (case zme_Alphabet_code_of => k_is)
    (case zme_Alphabet_codes => k_is)
    (case zme_Alphabet_numbers_in => k_is)
    (case zme_Alphabet_read => k_is)
    (case zme_Alphabet_signed => k_is)
    (case zme_Alphabet_signed_in => k_is)
    (case zki_Alphabet => k_is)
    (case zmr_Alphabet_standard => k_is)
    (case zl_is_integer => k_is)
    (case zl_check_text => k_is)
    (case zl_digit_fits => k_is)
    (case zl__is_row_of_signs => k_is)
    (case zl__law_streams => k_is)
    (case zl__law_next => k_is)
    (case zl__law_free => k_is)
    (case zl__law_code => k_is)
    (case zl__law_folded => k_is)
    (case zl_is_count => k_is)
    (case zl_folded => k_is)
    (case zl_Alphabet_init => k_is)
    (case zl_Alphabet_read => k_is)
    (case zl__law_signs => k_is)
    (case zl__law_sized => k_is)
    (case zl_is_up_to => k_is)
    (case zl_Alphabet_numbers_in => k_is)
    (case zl_check_up_to => k_is)
    (case zl_Alphabet_standard => k_is)
    (case zl_unfolded => k_is)
    (case zl_Alphabet_code_of => k_is)
    (case zl_Alphabet_call => k_is)
    (case zl_Alphabet_signed => k_is)
    (case zl_Alphabet_codes => k_is)
    (case zl_Alphabet_signed_in => k_is)
    (case zl__law_codes_hold => k_is)
    (case zl__law_signed_hold => k_is)
    (case zl_law => k_is)
    (case zmi_Alphabet_standard => k_is)
    (case zof_Alphabet => k_is)
    (case zoi_Alphabet => k_is)
    (case zmf_Alphabet_code_of => k_is)
    (case zmf_Alphabet_codes => k_is)
    (case zmf_Alphabet_numbers_in => k_is)
    (case zmf_Alphabet_read => k_is)
    (case zmf_Alphabet_signed => k_is)
    (case zmf_Alphabet_signed_in => k_is)
    (case zkf_Alphabet => k_is)
    (case zkm_Alphabet => k_is)
    (case zkk_Alphabet => k_is)
    (case zrd_Alphabet => k_is)
    (case zrg_Alphabet => k_is)
    (case zcg_Alphabet => k_is)
    (case zch_Alphabet => k_is)
    (case zcp_Alphabet => k_is)
    (case zcs_Alphabet => k_is)
    (case zna_Alphabet__signs => k_is)
    (case zna_Alphabet__indexes => k_is)
    (case zcrd_Alphabet => k_is)
    (case zcrg_Alphabet => k_is)
    (case zcv_Alphabet_MARKS => k_is)
    (case zcv_Alphabet_STANDARD => k_is)
    (case zd_is_integer => k_is)
    (case ze_is_integer => k_is)
    (case zd_check_text => k_is)
    (case ze_check_text => k_is)
    (case zd_digit_fits => k_is)
    (case ze_digit_fits => k_is)
    (case zd__is_row_of_signs => k_is)
    (case ze__is_row_of_signs => k_is)
    (case zd__law_streams => k_is)
    (case ze__law_streams => k_is)
    (case zd__law_next => k_is)
    (case ze__law_next => k_is)
    (case zd__law_free => k_is)
    (case ze__law_free => k_is)
    (case zd__law_code => k_is)
    (case ze__law_code => k_is)
    (case zd__law_folded => k_is)
    (case ze__law_folded => k_is)
    (case zd_is_count => k_is)
    (case ze_is_count => k_is)
    (case zd_folded => k_is)
    (case ze_folded => k_is)
    (case zd_Alphabet_init => k_is)
    (case ze_Alphabet_init => k_is)
    (case zd_Alphabet_read => k_is)
    (case ze_Alphabet_read => k_is)
    (case zd__law_signs => k_is)
    (case ze__law_signs => k_is)
    (case zd__law_sized => k_is)
    (case ze__law_sized => k_is)
    (case zd_is_up_to => k_is)
    (case ze_is_up_to => k_is)
    (case zd_Alphabet_numbers_in => k_is)
    (case ze_Alphabet_numbers_in => k_is)
    (case zd_check_up_to => k_is)
    (case ze_check_up_to => k_is)
    (case zd_Alphabet_standard => k_is)
    (case ze_Alphabet_standard => k_is)
    (case zd_unfolded => k_is)
    (case ze_unfolded => k_is)
    (case zd_Alphabet_code_of => k_is)
    (case ze_Alphabet_code_of => k_is)
    (case zd_Alphabet_call => k_is)
    (case ze_Alphabet_call => k_is)
    (case zd_Alphabet_signed => k_is)
    (case ze_Alphabet_signed => k_is)
    (case zd_Alphabet_codes => k_is)
    (case ze_Alphabet_codes => k_is)
    (case zd_Alphabet_signed_in => k_is)
    (case ze_Alphabet_signed_in => k_is)
    (case zd__law_codes_hold => k_is)
    (case ze__law_codes_hold => k_is)
    (case zd__law_signed_hold => k_is)
    (case ze__law_signed_hold => k_is)
    (case zd_law => k_is)
    (case ze_law => k_is)
