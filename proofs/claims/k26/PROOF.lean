import PyProof.Rows.All
import Wide.All
import OpenK.AllK
import Wide.FinOn
import HandS.ForMost
import HandS.Evl
import HandS.Walk
import HandS.IsInst
import HandS.Flow
import HandS.TupLe
import HandS.TupAny
import HandS.Property
import HandS.StrMore
import HandS.Conv
import HandS.Star
import HandS.Style
import HandS.Steps
import HandS.WordsExc
import HandS.ExcInit
import PyProof.Rows.SeqMore
import KE.DataEq
import KE.DataCmp
import KE.DatumOrd
import KE.DataMinMax
import HandS.ExcIs
import HandS.ExcField
import HandS.Lambda
import HandS.ExcValue
import HandS.EndTab
import HandS.Defaults
import HandS.MakeKw
import KE.KExcIs
import KE.KTryMore
import KE.KDflt
import KE.KNestM
import HandS.OwnEq
import PyProof.InstNe
import HandS.TupMul
import HandS.ClsMeth
import PyProof.Rows.StrRev
import HandS.MakeKwOnly
import PyProof.ExcBaseAll.RuntimeError
import HandS.Strs
import HandS.DictComp
import HandS.WideBits
import HandS.SortInts
import KE.GoesMore
import PySem.Challenge.RW_mapstack_k26_whole_folded_numbers
set_option Elab.async false
set_option linter.all false
set_option maxRecDepth 100000
set_option maxHeartbeats 2000000

/-! Exceptions that were caught and are kept: tracked as things of their own. -/
namespace L2
open PySem PySem.Spec PyProof.Rows
/-- at a: an exception object of the class C with the dict d, caught or not -/
def xo (a : Addr) (C : Value) (d : Option Addr) : HO := .ext fun h => ∃ (oe : Obj) (vs : Array Value), h.get? a = some oe ∧ oe.cls = C ∧ oe.dict = d ∧ oe.data = .fields vs
theorem xo_ok {P : Program} {w : World} {H : Hp} {h : Heap} {a : Addr} {C : Value} {d : Option Addr} {oe : Obj} {vs : Array Value} (e : h.get? a = some oe) (z : Zc C d oe) (q : oe.data = .fields vs) : ObjOk P w H h a (xo a C d) :=
  ⟨⟨oe, vs, e, z.1, z.2, q⟩, ⟨oe, e⟩, fun _ _ ⟨o, v, y, r⟩ k => ⟨o, v, k o y, r⟩⟩
theorem xo_at {P : Program} {w : World} {H : Hp} {h : Heap} {a : Addr} {C : Value} {d : Option Addr} (hok : HOk P w H h) (e : H a = some (xo a C d)) : ∃ (oe : Obj) (vs : Array Value), h.get? a = some oe ∧ oe.cls = C ∧ oe.dict = d ∧ oe.data = .fields vs := by
  have x : ObjOk P w H h a (.ext fun h => ∃ (oe : Obj) (vs : Array Value), h.get? a = some oe ∧ oe.cls = C ∧ oe.dict = d ∧ oe.data = .fields vs) := hok a _ e
  exact x.1
section
variable {X : Cx} {pins : List (Addr × Obj)} {σ : St} {H : Hp} {s sI s' : Shared} {B : Heap}
/-- as Inv.landed, the exception tracked from now on -/
theorem Inv.landedT {a : Addr} {C : Value} {d : Option Addr} {oe : Obj} {vs : Array Value} (I : Inv X pins σ H sI) (nb : ∀ b o, sI.heap.get? b = some o → b ∉ frs X.stack → B.get? b = some o) (st : B.StaysIn s'.heap) (up : sI.heap.UpToSlots s'.heap) (os : s'.os = sI.os) (ag : AllBare s'.gens)
    (na : H a = none) (nI : sI.heap.get? a = none) (he : s'.heap.get? a = some oe) (hz : Zc C d oe) (hd : oe.data = .fields vs) : Inv X pins σ (upd H a (xo a C d)) s' := by
  have ne : ∀ {b : Addr} {o : Obj}, sI.heap.get? b = some o → b ≠ a := fun {b o} q z => by rw [z, nI] at q; cases q
  have fr : ∀ b ∈ frs X.stack, ∀ o, sI.heap.get? b = some o → ∃ sl, s'.heap.get? b = some { o with slots := sl } := fun b hb o e => by
    obtain ⟨_, o', e', q⟩ := I.stack.mem hb
    rw [e] at e'
    cases e'
    exact up b o e q
  have hG := (I.inGround nb).kept (h' := s'.heap) st
  have hok : HOk X.prog X.w (upd H a (xo a C d)) s'.heap := fun b o q => by
    by_cases hb : b = a
    · rw [hb, upd_same] at q
      rw [hb]
      cases q
      exact xo_ok he hz hd
    · rw [upd_ne hb] at q
      exact (hG b o q).stay (fun _ _ _ z => z) (fun c z => by rw [upd_ne (ne_of_none z na)]; exact z) fun c xs z => by rw [upd_ne (ne_of_none z na)]; exact z
  have U : Un (frs X.stack) [] H (upd H a (xo a C d)) sI.heap s'.heap := {
    keep := fun b o e _ hb _ => st b o (nb b o e hb)
    slot := fun b o e _ hb _ => fr b hb o e
    free := fun b o e n _ => by rw [upd_ne (ne e)]; exact n
    there := fun b o e _ => by
      by_cases hb : b ∈ frs X.stack
      · obtain ⟨sl, q⟩ := fr b hb o e
        exact ⟨_, q⟩
      · exact ⟨o, st b o (nb b o e hb)⟩
    tups := fun b xs e => by rw [upd_ne (ne_of_none e na)]; exact e
    frzs := fun b o u e => by rw [upd_ne (ne_of_none e na)]; exact e
    tbls := fun b ps e => ⟨#[], by rw [upd_ne (ne_of_none e na), e]; simp⟩ }
  exact I.call' (ch := []) os U hok ag fun _ z => nomatch z
/-- into an except suite, nothing pinned -/
theorem Inv.suiteT (I : Inv X pins σ H s) (a : Addr) : Inv (X.suite a (X.pn ++ pins)) [] σ H s :=
  ⟨I.ok.suite _ _, I.os, I.bare, I.base, I.loc, I.cell, I.free, I.freeC, fun p hp => I.pin p (by rw [List.append_nil] at hp; exact hp), I.hok, I.len⟩
theorem Inv.unsuiteT {a : Addr} {pn' : List (Addr × Obj)} (I : Inv (X.suite a (X.pn ++ pins)) pn' σ H s) (ok : X.Ok) : Inv X pins σ H s :=
  ⟨ok, I.os, I.bare, I.base, I.loc, I.cell, I.free, I.freeC, fun p hp => I.pin p (List.mem_append_left _ hp), I.hok, I.len⟩
end
theorem flyingZ_keeps {B h h' : Heap} {l : List Env} {e : Addr} {Z : Obj → Prop} (x : HandSPX.FlyingZ B l e Z h) (k : ∀ b o, h.get? b = some o → h'.get? b = some o) : HandSPX.FlyingZ B l e Z h' := by
  obtain ⟨f1, f2, f3, oe, vs, T, oT, ts, he, hz, hd, h1, hn, hne, hT, hdT, h3⟩ := x
  exact ⟨fun b o q => k b o (f1 b o q), f2, f3.of_keeps fun b o q _ => ⟨o, k b o q, rfl⟩, oe, vs, T, oT, ts, k _ _ he, hz, hd, h1, hn, hne, k _ _ hT, hdT, h3⟩
/-- an except clause's test: it names the classes cs -/
def Clause (X : Cx) (t : Expr) (cs : List Value) : Prop :=
  ∀ (a : Addr) (pn : List (Addr × Obj)) (σ : St) (H : Hp) (s : Shared) (cls : Value) (b : Bool) (Q : Bool → Shared → Prop) (E : Value → Shared → Prop), Inv (X.suite a pn) [] σ H s → PySem.W.Looks (model X.prog X.w) s.heap (typeOf (.ref a)) cls →
    PySem.W.exmAny X.K cls cs = some b → (∀ h', (∀ q o, s.heap.get? q = some o → h'.get? q = some o) → Q b { s with heap := h' }) →
    wpAny (model X.prog X.w) (X.A.mark (some (.ref a))) (eval t X.env) (fun c s1 => wpAny (model X.prog X.w) (X.A.mark (some (.ref a))) (excMatches (.ref a) c) Q E s1) E s
section
variable {X : Cx} {a : Addr} {pn : List (Addr × Obj)} {σ : St} {H : Hp} {s : Shared} {x x1 x2 x3 x4 : Str} {c c1 c2 c3 c4 : Value} {p p1 p2 p3 p4 : Pos} {k : Nat}
theorem names_at (I : Inv (X.suite a pn) [] σ H s) (n : Names X x c) {Q : Value → Shared → Prop} {E : Value → Shared → Prop} (q : Q c s) : wpAny (model X.prog X.w) (X.A.mark (some (.ref a))) (eval (.Name x p) X.env) Q E s := by
  obtain ⟨hg, hd, hm | ⟨hm, hv, hn⟩⟩ := n
  · exact ld_glob (X := X.suite a pn) I hg hm q hd
  · exact ld_blt (X := X.suite a pn) I hg hm hv q hn hd
theorem clause1 (n : Names X x c) : Clause X (.Name x p) [c] := fun a pn σ H s cls b Q E I LT e q => by
  obtain ⟨b1, d1, e1, e2, eb⟩ := PySem.W.exmAny_cons e
  have : b1 = b := by cases e2; rw [eb, Bool.or_false]
  subst this
  exact names_at I n ((PySem.W.exm_one (M := model X.prog X.w) I.kIn LT e1).here (q s.heap fun _ _ z => z))
theorem clause4 (n1 : Names X x1 c1) (n2 : Names X x2 c2) (n3 : Names X x3 c3) (n4 : Names X x4 c4) : Clause X (.Tuple [.Name x1 p1, .Name x2 p2, .Name x3 p3, .Name x4 p4] k p) [c1, c2, c3, c4] := fun a pn σ H s cls b Q E I LT e q => by
  refine wpAny_Tuple (wpAny_items_cons (names_at I n1 (wpAny_items_cons (names_at I n2 (wpAny_items_cons (names_at I n3 (wpAny_items_cons (names_at I n4 (wpAny_items_nil ⟨by size_fits, ?_⟩)))))))))
  have kp : ∀ q o, s.heap.get? q = some o → (s.heap.push { cls := .type "tuple", data := .seq [c1, c2, c3, c4].toArray }).get? q = some o := fun _ _ z => Heap.get?_push_of_some _ z
  exact (PySem.W.exm_tup4 (I.kIn.keeps kp) (LT.keeps kp) (Heap.get?_push_size s.heap rfl) e).here (q _ kp)
end
/-- the wish of a clause that keeps what it catches: it catches all, slot i is the name's -/
def wKeep (K : PySem.W.Frag) (cs : List Value) (i : Nat) (ts : TS) (D : Ends) : WX := fun cls d σ H =>
  PySem.W.exmAny K cls cs = some true ∧ ∀ a, H a = none → ts { nx := fun σ' H' => D.nx (σ'.set i none) H', rt := D.rt, bk := fun σ' H' => D.bk (σ'.set i none) H', ct := fun σ' H' => D.ct (σ'.set i none) H' } (σ.set i (some (.ref a))) (upd H a (xo a cls d))
def tTryK (K : PySem.W.Frag) (cs : List Value) (i : Nat) (ts : TS) (tb : WX → TS) : TS := fun D σ H => tb (wKeep K cs i ts D) D σ H
section
variable {X : Cx} {t : Expr} {n : Str} {cs : List Value} {i : Nat} {body suite : List Stmt} {b₀ : Stmt} {pos pos' : Pos} {tb : WX → TS} {ts : TS}
theorem ps_try_keep (hs : X.stack = X.env :: X.outer) (hf : X.env.frame = some X.env.locals) (hx : X.ex = []) (hN : X.N.Nodup) (hi : X.N[i]? = some n) (hln : X.env.kindOf n = some .local) (hc : Clause X t cs)
    (hb : ∀ (W : WX) (pn : List (Addr × Obj)) (xe : Value → Shared → Prop), Takes (X.tr pn xe) W → PassesOwn (model X.prog X.w) X.A X.env xe → PSs (X.tr pn xe) body (tb W)) (hsu : ∀ (a : Addr) (pn : List (Addr × Obj)), PSs (X.suite a pn) (b₀ :: suite) ts) :
    PS X (.Try body [.ExceptHandler (some t) (some n) (b₀ :: suite) pos'] [] [] pos) (tTryK X.K cs i ts tb) := by
  refine ⟨fun pins s σ H D I h => ?_⟩
  have ok := I.ok
  have hfr : X.A.frames = some (X.env :: X.outer) := by rw [ok.frames, hs]
  refine wpAny_Try_except (wpAny_mono ((hb (wKeep X.K cs i ts D) (X.pn ++ pins) (fun e s₁ => wpAny (model X.prog X.w) X.A (noteFrame e X.env) (fun _ s₂ => wpAny (model X.prog X.w) X.A (setFlight e none) (fun _ s₃ =>
    wpAny (model X.prog X.w) X.A (handleBy e X.env [.ExceptHandler (some t) (some n) (b₀ :: suite) pos']) (SP X pins D) X.xe s₃) X.xe s₂) X.xe s₁) (fun u s' xx => ?_) PassesOwn.looking).run [] s σ H D (I.toTry _) h) (fun f s1 hsp => ?_) (fun e s1 he => he))
  · obtain ⟨a, B, sI, pins', σ', H', cls, d, rfl, J', nb, up, sky, na, os, ag, hm, hyes⟩ := xx
    have J : Inv X pins σ' H' sI := J'.ofTry ok
    have sky' : Sky B (X.env :: X.outer) a (Zc cls d) X.env.locals s'.heap := by rw [← hs]; exact sky
    show wpAny (model X.prog X.w) X.A (noteFrame (.ref a) X.env) _ _ _
    refine Sky.land Zc.steady hfr hf sky' fun h3 fl3 up3 => ?_
    have J3 : Inv X pins σ' H' { s' with heap := h3 } := J.landed nb fl3.1 (up.trans up3) os ag
    obtain ⟨oe3, vs3, he3, hz3, hd3⟩ := fl3.there
    have nfr : a ∉ frs X.stack := fun hm => by
      rw [hs] at hm
      obtain ⟨_, o', e', q⟩ := fl3.2.2.1.mem hm
      rw [he3] at e'
      cases e'
      exact q _ hd3
    have nI : sI.heap.get? a = none := by
      cases q : sI.heap.get? a with
      | none => rfl
      | some o =>
        have z := nb a o q nfr
        rw [fl3.2.1] at z
        cases z
    have S3 := J3.suiteT a
    refine wpAny_handleBy_cons (codeAny_handlers_test (hc a _ σ' H' _ cls true _ _ S3 (fun A Q E s k q => wpAny_typeOf_ref (k _ _ he3) (by rw [hz3.1]; exact q)) hm fun h4 k4 => ?_)) (by intro q; cases q)
    have fl4 := flyingZ_keeps fl3 k4
    refine codeAny_handlers_suite_as (HandSPX.lands_againZ fl4 fun h5 fl5 up5 => ?_)
    obtain ⟨oe5, vs5, he5, hz5, hd5⟩ := fl5.there
    have J5 : Inv X pins σ' (upd H' a (xo a cls d)) { s' with heap := h5 } := J.landedT nb fl5.1 (((up.trans up3).trans (Heap.UpToSlots.of_keeps k4)).trans up5) os ag na nI he5 hz5 hd5
    refine store_ok (X := X.suite a (X.pn ++ pins)) (v := .ref a) (J5.suiteT a) hN hi (.inl hln) rfl (fun s6 S6 => ?_) (.inr hln)
    refine wpAny_mono ((hsu a (X.pn ++ pins)).run [] s6 _ _ _ S6 (hyes a na)) (fun f s7 hsp => ?_) (fun _ _ z => False.elim z)
    have fin : ∀ {σ7 : St} {H7 : Hp} {Q : Shared → Prop}, Inv (X.suite a (X.pn ++ pins)) [] σ7 H7 s7 → (∀ s8, Inv X pins (σ7.set i none) H7 s8 → Q s8) → wpAny (model X.prog X.w) X.A (do bindName X.env n .none; unbindBehindTheSuite X.env n pos') (fun _ s8 => Q s8) X.xe s7 :=
      fun {σ7 H7 Q} S7 hq => gone_ok (S7.unsuiteT ok) hN hi hln hq
    cases f with
    | next => obtain ⟨σ7, H7, S7, q7⟩ := hsp; exact fin S7 fun s8 J8 => ⟨_, _, J8, q7⟩
    | brk => obtain ⟨σ7, H7, S7, q7⟩ := hsp; exact fin S7 fun s8 J8 => ⟨_, _, J8, q7⟩
    | cont => obtain ⟨σ7, H7, S7, q7⟩ := hsp; exact fin S7 fun s8 J8 => ⟨_, _, J8, q7⟩
    | ret u => obtain ⟨v7, σ7, H7, S7, r7, q7⟩ := hsp; exact fin S7 fun s8 J8 => ⟨_, _, _, J8, r7, q7⟩
  · cases f with
    | next => obtain ⟨σ', H', J', q⟩ := hsp; exact wpAny_execs_nil ⟨σ', H', J'.ofTry ok, q⟩
    | brk => obtain ⟨σ', H', J', q⟩ := hsp; exact ⟨σ', H', J'.ofTry ok, q⟩
    | cont => obtain ⟨σ', H', J', q⟩ := hsp; exact ⟨σ', H', J'.ofTry ok, q⟩
    | ret u => obtain ⟨v, σ', H', J', r, q⟩ := hsp; exact ⟨v, σ', H', J'.ofTry ok, r, q⟩
end
end L2

set_option maxHeartbeats 4000000
/-! Own exceptions of any base: made (raised, or as values), their one field, asked by isinstance. -/
namespace PySem
namespace XG
open PySem.W PySem.Calls PyProof.Rows PySem.HandSPX Builtin Builtin.ObjectAttr
/-- classes of the program, then the row tl -/
def ownThen (tl : List Value) : List Value → Bool
  | .ref _ :: r => ownThen tl r
  | l => l == tl
theorem ownThen_cases (tl : List Value) : ∀ l, ownThen tl l = true → (∃ c r, l = .ref c :: r ∧ ownThen tl r = true) ∨ l = tl := fun l e => by
  cases l with
  | nil => exact .inr (beq_iff_eq.mp e)
  | cons a r =>
    cases a with
    | ref c => exact .inl ⟨c, r, rfl, e⟩
    | _ => exact .inr (beq_iff_eq.mp e)
/-- what is asked of a base: its row tl -/
structure BaseX (tl : List Value) (B newId initId : String) : Prop where
  F : ExcBaseFacts B newId initId tl
  pass : ∀ self : Value, refuseLoop self "__setattr__" tl = pure ()
  ob : tl.contains (.type "object") = true
  ne : tl.isEmpty = false
theorem bx_VE : BaseX [.type "ValueError", .type "Exception", .type "BaseException", .type "object"] "ValueError" "ValueError.__new__" "ValueError.__init__" := ⟨F.excBase_ValueError, fun s => F.store_ValueError.passes s, by decide +kernel, rfl⟩
theorem bx_RE : BaseX [.type "RuntimeError", .type "Exception", .type "BaseException", .type "object"] "RuntimeError" "RuntimeError.__new__" "RuntimeError.__init__" := ⟨F.excBase_RuntimeError, fun s => F.store_RuntimeError.passes s, by decide +kernel, rfl⟩
theorem bx_LE : BaseX [.type "LookupError", .type "Exception", .type "BaseException", .type "object"] "LookupError" "LookupError.__new__" "LookupError.__init__" := ⟨F.excBase_LookupError, fun s => F.store_LookupError.passes s, by decide +kernel, rfl⟩
theorem bx_OE : BaseX [.type "OverflowError", .type "ArithmeticError", .type "Exception", .type "BaseException", .type "object"] "OverflowError" "OverflowError.__new__" "OverflowError.__init__" := ⟨F.excBase_OverflowError, fun s => F.store_OverflowError.passes s, by decide +kernel, rfl⟩
section
variable {tl : List Value} {B newId initId : String} {l : List Value}
theorem pass_of (b : BaseX tl B newId initId) (self : Value) (e : ownThen tl l = true) : refuseLoop self "__setattr__" l = pure () := by
  induction l with
  | nil => rcases ownThen_cases tl _ e with ⟨_, _, q, _⟩ | q
           · cases q
           · rw [q]; exact b.pass self
  | cons a r ih => rcases ownThen_cases tl _ e with ⟨c, r', q, h⟩ | q
                   · obtain ⟨rfl, rfl⟩ := List.cons.inj q
                     exact (refuseLoop_ref self _ c r).trans (ih h)
                   · rw [q]; exact b.pass self
theorem has_of (e : ownThen tl l = true) (Y : String) : l.contains (.type Y) = tl.contains (.type Y) := by
  induction l with
  | nil => rcases ownThen_cases tl _ e with ⟨_, _, q, _⟩ | q
           · cases q
           · rw [q]
  | cons a r ih => rcases ownThen_cases tl _ e with ⟨c, r', q, h⟩ | q
                   · obtain ⟨rfl, rfl⟩ := List.cons.inj q
                     rw [List.contains_cons, ih h]; rfl
                   · rw [q]
theorem ne_of (b : BaseX tl B newId initId) (e : ownThen tl l = true) : l.isEmpty = false := by
  cases l with
  | nil => rcases ownThen_cases tl _ e with ⟨_, _, q, _⟩ | q
           · cases q
           · rw [q]; exact b.ne
  | cons _ _ => rfl
end
section
variable {prog : Program} {w : World} {A : Around} {R : Result → Shared → Prop} {hp : Heap} {g : Array GenState} {d : Drawn} {t : Nat} {os : OsState} {tl : List Value} {B newId initId : String}
/-- self.name = v on a new exception -/
theorem osa_any {K : W.Frag} {name : Str} {tk : Tok} {v : Value} {x C : Addr} {fv : Array Value} {cd : ClassData} (b : BaseX tl B newId initId)
    (Xk : K.In hp) (hx : hp.get? x = some { cls := .ref C, data := .fields fv }) (hcd : W.clsIn K C = some cd) (hm : ownThen tl cd.mro = true) (hh : cd.hasDict = true) (ha : W.findIn K (.ref C) name = some none)
    (hq : ∀ h' tk' dx, (∀ y o, y ≠ x → hp.get? y = some o → h'.get? y = some o) → hp.objs.size ≤ dx → dx ≠ x → h'.get? x = some { cls := .ref C, dict := some dx, data := .fields fv } → h'.Ns1 dx (fun y => if y = name then some v else none) → R (.ok (.ret .none)) ⟨h', g, d, tk', os⟩) :
    codeAny (model prog w) A (.call (.builtin "object.__setattr__") ⟨[.ref x, .str name tk, v], []⟩) R ⟨hp, g, d, t, os⟩ := by
  have I0 : W.InstAt hp x { cls := .ref C, data := .fields fv } C none := ⟨hx, rfl, rfl, trivial⟩
  have hob : cd.mro.contains (.type "object") = true := (has_of hm "object").trans b.ob
  have hns : x ≠ hp.objs.size := Nat.ne_of_lt (Heap.lt_size hx)
  have sub : W.Looks (model prog w) hp (isInstance (.ref x) (.type "object")) true := I0.type.andThen (W.looks_mroIn Xk (by unfold W.mroIn; rw [hcd, Option.bind_some, if_neg (by rw [ne_of b hm]; decide), hob]))
  refine codeAny_call_builtin F.store_object.slot.plain F.store_object.entry (@W.check_slot (model prog w) _ _ ⟨hp, g, d, t, os⟩ "object.__setattr__" "object" "__setattr__" (.ref x) [.str name tk, v] [] _ F.store_object.kind F.store_object.split sub (F.store_object.args (.ref x) (.str name tk) v) ?_)
  have L1 : W.Looks (model prog w) hp (mroOf (.ref C)) cd.mro := (W.looks_clsIn Xk hcd).andThen .now
  have L2 : W.Looks (model prog w) hp (storeTaker? none) none := .now
  have L3 : W.Looks (model prog w) hp (classData C) cd := W.looks_clsIn Xk hcd
  rw [W.osa_eq, refuse_eq]
  refine wpAny_bind (wpAny_bind (I0.type.at (wpAny_bind (L1.at ?_))))
  rw [pass_of b _ hm]
  refine wpAny_pure (wpAny_bind (I0.type.at (wpAny_bind ((W.looks_findIn Xk ha).at (wpAny_bind (L2.at ?_))))))
  show wpAny _ _ (storeInOwnDict (.ref x) (.ref C) (.str name tk) name v false) _ _ _
  obtain ⟨c1, c2, c3, c4, c5, c6, c7, c8, c9, c10, c11⟩ := cd
  dsimp only at hh
  subst hh
  unfold storeInOwnDict ownDictForStores
  repeat (first | with_reducible refine store_in_new ?_ ?_ | with_reducible refine wpAny_loadPart_at hx ?_ | with_reducible refine L3.at ?_ | wp_step)
  · exact ⟨_, #[], _, (Heap.get?_update_ne _ _ _ _ hns.symm).trans (Heap.get?_push_at rfl rfl), rfl, fun e he => absurd he (by simp), fun _ => rfl⟩
  · intro h' tk' hn' hs
    have hx1 : (hp.push { cls := .type "dict", data := .dict #[] }).get? x = some { cls := .ref C, data := .fields fv } := Heap.get?_push_of_some _ hx
    refine hq h' tk' hp.objs.size (fun y o hy ho => ?_) (Nat.le_refl _) hns.symm ((hs.2 x hns).trans (Heap.get?_update_self _ hx1 rfl)) hn'
    exact (hs.2 y (Nat.ne_of_lt (Heap.lt_size ho))).trans ((Heap.get?_update_ne _ _ _ _ hy).trans (Heap.get?_push_of_some _ ho))
end
end XG
end PySem
namespace L2
open PySem PySem.Spec PyProof.Rows PySem.XG
/-- what the written part says of an own exception class whose row ends in tl -/
structure OexG (K : PySem.W.Frag) (C : Addr) (tl : List Value) (newId : String) : Prop where
  cls : ∃ nm q N bs bm sn sub ab col dd k0 k1 k2 k3 k5, K.lookup C = some (excClassObj nm q C N bs bm true sn sub ab col dd k0 k1 k2 k3 k5 newId) ∧ ownThen tl bm = true
  sa : PySem.W.findIn K (.ref C) "__setattr__" = some (some (.builtin "object.__setattr__"))
  ty : PySem.W.typeIn K (.ref C) = some (.type "type")
  kp : PySem.W.keepIn K (.ref C) = true
  ga : PySem.W.findIn K (.ref C) "__getattribute__" = some (some (.builtin "BaseException.__getattribute__"))
  gg : PySem.W.findIn K (.ref C) "__getattr__" = some none
  ex : PySem.W.subIn K (.ref C) (.type "BaseException") = some true
  hd : PySem.W.hasDictIn K C = true
  ha : PySem.W.findIn K (.ref C) "__class__" = some (some (.builtin "object.__class__"))
  hn : PySem.W.specialIn K (.builtin "object.__class__") "__get__" = some (some (.builtin "getset_descriptor.__get__"))
  ht : PySem.W.takesIn K (.builtin "object.__class__") = some true
  hm : PySem.W.mroIn K C (.type "object") = some true
/-- the class's own part, by a look at what is written -/
def oexB (K : PySem.W.Frag) (C : Addr) (tl : List Value) (newId : String) : Bool :=
  match K.lookup C with
  | some ⟨.type "type", _, .cls cd, sl⟩ =>
    match cd.mro, sl.toList with
    | .ref C' :: bm, [_, _, _, _, some (.builtin n), _] => C' == C && n == newId && !cd.hasDel && cd.hasDict && ownThen tl bm
    | _, _ => false
  | _ => false
theorem oexB_ok {K : PySem.W.Frag} {C : Addr} {tl : List Value} {newId : String} (h : oexB K C tl newId = true) :
    ∃ nm q N bs bm sn sub ab col dd k0 k1 k2 k3 k5, K.lookup C = some (excClassObj nm q C N bs bm true sn sub ab col dd k0 k1 k2 k3 k5 newId) ∧ ownThen tl bm = true := by
  unfold oexB at h
  split at h
  · rename_i dd cd sl ho
    split at h
    · rename_i C' bm k0 k1 k2 k3 n k5 hm hs
      simp only [Bool.and_eq_true, beq_iff_eq, Bool.not_eq_true'] at h
      obtain ⟨⟨⟨⟨rfl, rfl⟩, hdel⟩, hdict⟩, hown⟩ := h
      obtain ⟨c1, c2, c3, c4, c5, c6, c7, c8, c9, c10, c11⟩ := cd
      dsimp only at hm hdel hdict
      subst hm hdel hdict
      have e : sl = #[k0, k1, k2, k3, some (.builtin n), k5] := by
        obtain ⟨l⟩ := sl
        simp only at hs
        rw [hs]
      subst e
      exact ⟨_, _, _, _, bm, _, _, _, _, _, _, _, _, _, _, ho, hown⟩
    · cases h
  · cases h
section
variable {X : Cx} {pins : List (Addr × Obj)} {σ : St} {H : Hp} {s : Shared} {a C dx : Addr} {f : Str} {y : V} {u : Value} {A : Around} {tl : List Value} {B newId initId : String}
/-- self.f = y on a new exception -/
theorem ost_any (b : BaseX tl B newId initId) (T : OexG X.K C tl newId) (I : Inv X pins σ H s) (e : H a = some (exo a C none)) (hno : PySem.W.findIn X.K (.ref C) f = some none) (ry : RelV y u) {Q : Unit → Shared → Prop} {E : Value → Shared → Prop}
    (h : ∀ dx s', H dx = none → dx ≠ a → Inv X pins σ (upd (upd H dx (exd dx [(f, y)])) a (exo a C (some dx))) s' → Q () s') : wpAny (model X.prog X.w) A (setAttr (.ref a) f u) Q E s := by
  obtain ⟨nm, q, N, bs, bm, sn, sub, ab, col, dd, k0, k1, k2, k3, k5, hC, hbm⟩ := T.cls
  have hcl : PySem.W.clsIn X.K C = some { name := nm, bases := bs, mro := .ref C :: bm, ns := N, qualname := q, hasDict := true, slotNames := sn, subclasses := sub, abstract := ab, collection := col, hasDel := false } := by unfold PySem.W.clsIn; rw [hC]
  obtain ⟨t1, ho⟩ := exo_at I.hok e
  obtain ⟨hp, g, d, t, os⟩ := s
  refine PySem.W.set_plain I.kIn (ox := { cls := .ref C, dict := none, data := .fields #[.ref t1, .none, .none, .none, .bool false, .none] }) (od := none) ⟨ho, rfl, rfl, trivial⟩ T.sa (osa_any b I.kIn ho hcl (show ownThen tl (.ref C :: bm) = true from hbm) rfl hno fun h' tk' dx k dn dne hx hn => ?_)
  have hnd : H dx = none := I.hok.fresh dn
  have nd : ∀ {z : Addr} {o : Obj}, hp.get? z = some o → z ≠ dx := fun {z o} q => Nat.ne_of_lt (Nat.lt_of_lt_of_le (Heap.lt_size q) dn)
  have na : ∀ {z : Addr}, H z = none → z ≠ a := fun {z} n q => by rw [q, e] at n; cases n
  have U : Un X.fs [] H (upd (upd H dx (exd dx [(f, y)])) a (exo a C (some dx))) hp h' := {
    keep := fun z o q n _ _ => k z o (na n) q
    slot := fun z o q n _ _ => ⟨o.slots, k z o (na n) q⟩
    free := fun z o q n _ => by rw [upd_ne (na n), upd_ne (nd q), n]
    there := fun z o q _ => by
      by_cases hz : z = a
      · exact ⟨_, by rw [hz]; exact hx⟩
      · exact ⟨o, k z o hz q⟩
    tups := fun z xs q => by rw [upd_ne (at_ne e q exo_tup), upd_ne (ne_of_none q hnd), q]
    frzs := fun z o v q => by rw [upd_ne (at_ne e q exo_frz), upd_ne (ne_of_none q hnd), q]
    tbls := fun z ps q => ⟨#[], by rw [upd_ne (at_ne e q exo_tbl), upd_ne (ne_of_none q hnd), q]; simp⟩ }
  refine h dx _ hnd dne (I.un (t' := tk') U fun z o q => ?_)
  by_cases hz : z = a
  · subst hz
    rw [upd_same] at q
    cases q
    exact exo_ok hx
  · rw [upd_ne hz] at q
    by_cases hd : z = dx
    · subst hd
      rw [upd_same] at q
      cases q
      exact exd_ok hn (relO_put (fs := []) ry fun g => True.intro)
    · rw [upd_ne hd] at q
      refine (I.hok z o q).stay (fun c v hc y => k c v ?_ y) (fun c hc => ?_) fun c xs hc => ?_
      · rcases hc with hc | hc
        · rw [hc]; exact hz
        · exact at_ne e hc exo_own
      · rw [upd_ne (at_ne e hc exo_own), upd_ne (ne_of_none hc hnd), hc]
      · rw [upd_ne (at_ne e hc exo_tup), upd_ne (ne_of_none hc hnd), hc]
end
/-- self.f = e, of a new exception -/
def tOsx (K : PySem.W.Frag) (C : Addr) (f : Str) (to te : TE) : TS := fun D σ H => te σ H fun y H1 => to σ H1 fun x H2 => ∃ a : Addr, x = .ref a ∧ H2 a = some (exo a C none) ∧ ∀ dx, H2 dx = none → dx ≠ a → D.nx σ (upd (upd H2 dx (exd dx [(f, y)])) a (exo a C (some dx)))
section
variable {X : Cx} {o e : Expr} {es : List Expr} {to te : TE} {ta : TA} {f : Str} {p p' pos : Pos} {C : Addr} {tl : List Value} {B newId initId : String}
theorem ps_osx (b : BaseX tl B newId initId) (T : OexG X.K C tl newId) (hno : PySem.W.findIn X.K (.ref C) f = some none) (ho : PE X o to) (he : PE X e te) (hs : swapsWith e (some (.Attribute o f p')) pos.line X.env = pure false := by rfl) : PS X (.Assign [.Attribute o f p'] e pos) (tOsx X.K C f to te) := by
  refine ⟨fun pins s σ H D I h => plainObj_wpAny_Assign_Attribute (thn (he.run pins s σ H _ I h) fun v s1 ⟨y, H1, I1, r1, q1⟩ => thn (ho.run pins s1 σ H1 _ I1 q1) fun u s2 ⟨x, H2, I2, r2, a, ex, ea, q⟩ => ?_) hs⟩
  subst ex
  obtain rfl : u = Value.ref a := r2
  exact ost_any b T I2 ea hno r1 fun dx s' n ne J => ⟨σ, _, J, q dx n ne⟩
/-- what a call of the class leaves, whatever is made of it -/
theorem run_oex {Q : Value → Shared → Prop} {CX : CXT} {fI : Addr} {k : Nat} {fd : FuncData} {ps : List Str} {sp : Sp} {pins : List (Addr × Obj)} {σ : St} {H1 : Hp} {us : List Value} {vs : List V} {s1 : Shared} (b : BaseX tl B newId initId) (T : OexG X.K C tl newId)
    (iC : PySem.W.findIn X.K (.ref C) "__init__" = some (some (.ref fI))) (tI : PySem.W.typeIn X.K (.ref fI) = some (.type "function")) (F1 : FnOk X.prog X.w X.K X.mg X.base CX k fI fd ps sp) (hr : Room (k + 1) X.A) (hb : Binds X.K fd ps []) (hx : Passes CX X (fun _ _ _ => False)) (I1 : Inv X pins σ H1 s1) (r1 : Vals vs us) (hz : vs.length ≤ 1000)
    (q1 : ∀ a, H1 a = none → ∃ Qd : Addr → Hp → Prop, sp (.ref a :: vs) (upd H1 a (exo a C none)) (fun v H2 => v = .non ∧ ∃ (d : Addr) (fs : List (Str × V)), H2 a = some (exo a C (some d)) ∧ H2 d = some (exd d fs) ∧ H1 d = none ∧ Qd d (upd (del H2 a) d (.xd fs))) (fun _ _ _ => False) ∧
      ∀ (d : Addr) (H3 : Hp) (t0 : Addr) (G : Heap) (s' : Shared), Qd d H3 → Inv X pins σ H3 { s' with heap := G } → (∀ z o, G.get? z = some o → s'.heap.get? z = some o) → G.get? a = none → s'.heap.get? a = some ({ cls := .ref C, dict := some d, data := .fields #[.ref t0, .none, .none, .none, .bool false, .none] } : Obj) → H3 a = none → Q (.ref a) s') :
    wpAny (model X.prog X.w) X.A (call (.ref C) us) Q X.xe s1 := by
  obtain ⟨nm, q, N, bs, bm, sn, sub, ab, col, dd, k0, k1, k2, k3, k5, hC, hbm⟩ := T.cls
  obtain ⟨hp, g, dr, tk, os⟩ := s1
  have hsz : hp.objs.size ≤ hp.objs.size + 1 := Nat.le_succ _
  have hn : H1 (hp.objs.size + 1) = none := I1.hok.fresh hsz
  obtain ⟨Qd, hq, hQ⟩ := q1 (hp.objs.size + 1) hn
  have kk : ∀ z o, hp.get? z = some o → ((hp.push (PySem.W.kdv_tup us)).push (PySem.HandSPX.excO C hp.objs.size)).get? z = some o := fun z o e => Heap.get?_push_of_some _ (Heap.get?_push_of_some _ e)
  have hget : ((hp.push (PySem.W.kdv_tup us)).push (PySem.HandSPX.excO C hp.objs.size)).get? (hp.objs.size + 1) = some (PySem.HandSPX.excO C hp.objs.size) := by heap_get
  have J : Inv X pins σ (upd H1 (hp.objs.size + 1) (exo (hp.objs.size + 1) C none)) ⟨(hp.push (PySem.W.kdv_tup us)).push (PySem.HandSPX.excO C hp.objs.size), g, dr, tk, os⟩ := I1.laid (t' := tk) kk hsz (exo_ok hget)
  have r2 : Vals (V.ref (hp.objs.size + 1) :: vs) (Value.ref (hp.objs.size + 1) :: us) := .cons rfl r1
  have hl : (Value.ref (hp.objs.size + 1) :: us).length = ps.length := by
    have e := r2.length
    rw [F1.len _ _ _ _ hq] at e
    exact e.symm
  have hus : us.length ≤ sizeLine := by
    rw [← Paired.length r1, sizeLine_eq]
    omega
  have hb' := hb _ (Value.ref (hp.objs.size + 1) :: us) J.kIn (by rw [← hl]; simp)
  rw [List.append_nil] at hb'
  refine wpAny_call (PySem.HandSPX.call_own b.F (fun Y => has_of hbm Y) (I1.kIn _ _ hC) (PySem.W.looks_findIn I1.kIn iC) (fun self => PySem.W.bind_fn I1.kIn self tI) hus (codeAny_mono (F1.run _ X.stack _ _ ⟨Value.ref (hp.objs.size + 1) :: us, []⟩ _ _ _ (fun _ _ _ => False) (hr.make C us []) (J.env0.make C us []) hb' r2 hq) fun r s' hq' => ?_))
  cases r with
  | error er => exact hx pins σ _ _ er s' J hq'
  | ok fl =>
    cases fl with
    | ret u =>
      obtain ⟨v, H2, os2, bare2, un2, hok2, rv, ev, d, fs, ea, ed, hd1, q2⟩ := hq'
      subst ev
      obtain ⟨h2, g2, d2, t2, os'⟩ := s'
      obtain ⟨t0, G, J2, kG, ge, hoe, na⟩ := mk_end0 (d2 := d2) (t2 := t2) I1 hsz kk un2 hok2 os2 bare2 ea ed hd1
      exact ⟨rv, hQ d _ t0 G ⟨h2, g2, d2, t2, os'⟩ q2 J2 kG ge hoe na⟩
    | next => exact False.elim hq'
    | brk => exact False.elim hq'
    | cont => exact False.elim hq'
/-- C(e), raised -/
theorem pmk_any {CX : CXT} {x : Str} {fI : Addr} {k : Nat} {fd : FuncData} {ps : List Str} {sp : Sp} (b : BaseX tl B newId initId) (T : OexG X.K C tl newId) (iC : PySem.W.findIn X.K (.ref C) "__init__" = some (some (.ref fI))) (tI : PySem.W.typeIn X.K (.ref fI) = some (.type "function"))
    (F1 : FnOk X.prog X.w X.K X.mg X.base CX k fI fd ps sp) (hr : Room (k + 1) X.A) (hb : Binds X.K fd ps []) (hx : Passes CX X (fun _ _ _ => False)) (hg : Gl X x) (hm : X.mg x = some (.ref C)) (ha : PA X (e :: es) ta)
    (hdb : (x == ("__debug__" : Str)) = false := by decide) (he : starEach (e :: es) X.env = (false, eval e X.env) :: starEach es X.env := by rfl) (hpl : (backTo pos (starEach es X.env)).any (·.1) = false := by rfl) : PMk X (.Call (.Name x p) (e :: es) [] pos) (tMkO C sp [] ta) := by
  intro pins s σ H Q I h
  refine wpAny_Call_Name_kw (ld_glob I hg hm (PySem.W.callWith_K (h₀ := X.base) I.ok.mod.kin T.kp (thn (ha.run pos pins s σ H _ I h) fun us s1 ⟨vs, H1, I1, r1, hz, q1⟩ => ⟨I1.kIn, ?_⟩) he hpl) hdb)
  refine run_oex (b := b) (T := T) iC tI F1 hr hb hx I1 r1 hz fun a ha => ⟨fun d H3 => Q (.ref C) (some d) H3, ?_, fun d H3 t0 G s' q2 J2 kG ge hoe na => ?_⟩
  · have := q1 a ha
    rw [List.append_nil] at this
    exact this
  · exact ⟨a, _, _, { s' with heap := G }, H3, .ref C, some d, rfl, J2, kG, ge, hoe, ⟨rfl, rfl⟩, rfl, rfl, na, rfl, J2.bare, raises_own T.ex T.ty, q2⟩
/-- C(e), as a value -/
def tMkX (C : Addr) (sp : Sp) (ta : TA) : TE := fun σ H Q => ta σ H fun vs H1 => vs.length ≤ 1000 ∧ ∀ a, H1 a = none → sp (.ref a :: vs) (upd H1 a (exo a C none))
  (fun v H2 => v = .non ∧ ∃ (d : Addr) (fs : List (Str × V)), H2 a = some (exo a C (some d)) ∧ H2 d = some (exd d fs) ∧ H1 d = none ∧ Q (.ref a) (upd (upd (del H2 a) d (.xd fs)) a (xo a (.ref C) (some d)))) (fun _ _ _ => False)
theorem pe_any {CX : CXT} {x : Str} {fI : Addr} {k : Nat} {fd : FuncData} {ps : List Str} {sp : Sp} (b : BaseX tl B newId initId) (T : OexG X.K C tl newId) (iC : PySem.W.findIn X.K (.ref C) "__init__" = some (some (.ref fI))) (tI : PySem.W.typeIn X.K (.ref fI) = some (.type "function"))
    (F1 : FnOk X.prog X.w X.K X.mg X.base CX k fI fd ps sp) (hr : Room (k + 1) X.A) (hb : Binds X.K fd ps []) (hx : Passes CX X (fun _ _ _ => False)) (hg : Gl X x) (hm : X.mg x = some (.ref C)) (ha : PA X (e :: es) ta)
    (hdb : (x == ("__debug__" : Str)) = false := by decide) (he : starEach (e :: es) X.env = (false, eval e X.env) :: starEach es X.env := by rfl) (hpl : (backTo pos (starEach es X.env)).any (·.1) = false := by rfl) : PE X (.Call (.Name x p) (e :: es) [] pos) (tMkX C sp ta) := by
  refine ⟨fun pins s σ H Q I h => wpAny_Call_Name_kw (ld_glob I hg hm (PySem.W.callWith_K (h₀ := X.base) I.ok.mod.kin T.kp (thn (ha.run pos pins s σ H _ I h) fun us s1 ⟨vs, H1, I1, r1, hz, q1⟩ => ⟨I1.kIn, ?_⟩) he hpl) hdb)⟩
  refine run_oex (b := b) (T := T) iC tI F1 hr hb hx I1 r1 hz fun a ha => ⟨fun d H3 => Q (.ref a) (upd H3 a (xo a (.ref C) (some d))), q1 a ha, fun d H3 t0 G s' q2 J2 kG ge hoe na => ?_⟩
  exact ⟨.ref a, _, J2.laidN (h' := s'.heap) (t' := s'.toks) kG ge na (xo_ok hoe ⟨rfl, rfl⟩ rfl), rfl, q2⟩
end
/-! ### a tracked exception asked -/
/-- error.f -/
def tExf (K : PySem.W.Frag) (f : Str) (te : TE) : TE := fun σ H Q => te σ H fun x H1 => ∃ (a C dx : Addr) (fs : List (Str × V)) (v : V), x = .ref a ∧ H1 a = some (xo a (.ref C) (some dx)) ∧ H1 dx = some (.xd fs) ∧ XfC K C ∧ PySem.W.findIn K (.ref C) f = some none ∧ fs.lookup f = some v ∧ Q v H1
section
variable {X : Cx}
theorem inst_xo {pins : List (Addr × Obj)} {σ : St} {H : Hp} {s : Shared} {a C : Addr} {d : Option Addr} (I : Inv X pins σ H s) (e : H a = some (xo a (.ref C) d)) (hd : d = none ∨ ∃ dx fs, d = some dx ∧ H dx = some (.xd fs)) : ∃ oe od, PySem.W.InstAt s.heap a oe C od := by
  obtain ⟨oe, vs, e1, e2, e3, e4⟩ := xo_at I.hok e
  obtain ⟨oc, odd, oda, osl⟩ := oe
  dsimp only at e2 e3 e4
  subst e2 e3 e4
  rcases hd with rfl | ⟨dx, fs, rfl, hx⟩
  · exact ⟨_, none, e1, rfl, rfl, trivial⟩
  · obtain ⟨mA, hns, _⟩ := (show ObjOk X.prog X.w H s.heap dx (.xd fs) from I.hok dx _ hx)
    obtain ⟨od, ho, _⟩ := lookIn_ns hns
    exact ⟨_, some od, e1, rfl, rfl, ho⟩
theorem pe_exf {e : Expr} {te : TE} {pos : Pos} {n : Str} (he : PE X e te) (hb : attributeBase e n X.env (eval e X.env) = eval e X.env := by rfl) : PE X (.Attribute e n pos) (tExf X.K n te) := by
  refine ⟨fun pins s σ H Q I h => attr_of hb (thn (he.run pins s σ H _ I h) fun u s1 ⟨x, H1, I1, rx, a, C, dx, fs, v, ex, ea, ed, T, hno, l, q⟩ => ?_)⟩
  subst ex
  obtain rfl : u = Value.ref a := rx
  obtain ⟨oe, vs, e1, e2, e3, e4⟩ := xo_at I1.hok ea
  obtain ⟨mA, hns, hr⟩ := (show ObjOk X.prog X.w H1 s1.heap dx (.xd fs) from I1.hok dx _ ed)
  obtain ⟨od, ho, hl⟩ := lookIn_ns hns
  obtain ⟨u, hu, ru⟩ := RelO.some_of (v := v) (o := mA n) (by rw [← l]; exact hr n)
  have J : PySem.W.InstAt s1.heap a oe C (some od) := ⟨e1, e2, by unfold PySem.W.notCls; rw [e4] <;> rfl, by rw [e3]; exact ho⟩
  exact HandSPX.exc_get I1.kIn J T.ga T.gg T.exC (PySem.W.findObj_own T.hdC hno rfl (by rw [hl, hu])) (handed_of ru) ⟨v, H1, I1.tok _, ru, q⟩
/-- isinstance(e, c) of a tracked exception -/
def rIsX (K : PySem.W.Frag) : List V → Hp → VK → Prop := fun xs H Q => ∃ (a C : Addr) (d : Option Addr) (c : V) (cv : Value) (b : Bool), xs = [.ref a, c] ∧ H a = some (xo a (.ref C) d) ∧ (d = none ∨ ∃ dx fs, d = some dx ∧ H dx = some (.xd fs)) ∧ ExcC K C ∧ (∀ u, RelV c u → u = cv) ∧ PySem.W.kitOne K (.ref C) cv = some b ∧ Q (.bl b) H
theorem call_isX : CallR X (.builtin "isinstance") (rIsX X.K) := by
  intro pins s σ H xs us Q I r h
  obtain ⟨a, C, d, c, cv, b, rfl, ea, hd, T, hcv, e, q⟩ := h
  cases r with
  | cons rx rr =>
    cases rr with
    | cons rt rr =>
      cases rr
      cases rx
      have ec := hcv _ rt
      subst ec
      obtain ⟨oe, od, J⟩ := inst_xo I ea hd
      have hcl : (PySem.W.clsIn X.K C).isSome = true := by
        obtain ⟨cd, hc, _⟩ := PySem.W.any_some T.hd
        rw [hc]; rfl
      exact PySem.W.kia_one (PySem.W.kitx_exc hcl T.hg T.hk T.hs T.ha T.hn T.ht T.hm) I.kIn J e (fun z => nomatch z) fun tk => ⟨.bl b, H, I.kept (t' := tk) fun _ _ z => z, rfl, q⟩
end
end L2

set_option maxHeartbeats 4000000
/-! A lambda without parameters, or with one that has the default 0, handed to a def that calls it. -/
namespace L2
open PySem PySem.Spec PyProof.Rows LamX
/-- the function object of a lambda -/
abbrev lfn (q : Str) (params : Arguments) (body : Expr) (scope : Scope) (cl : List (Str × Addr)) (dV doc pm : Value) (c' : Addr) (ct : Value) : FuncData := PySem.W.kdv_fn "<lambda>" q params (.expr body) scope cl dV doc pm (.ref c') ct
/-- how its defaults stand: none, or a tuple of 0 -/
def DefAt (H : Hp) (fr : List Addr) (h : Heap) (params : Arguments) (bs : List (Str × Value)) (dV : Value) : Prop :=
  (params.defaults = [] ∧ bs = [] ∧ dV = .none) ∨ ∃ (T : Addr) (tk : Tok) (x : Str), dV = .ref T ∧ bs = [(x, .int 0 tk)] ∧ h.get? T = some (PySem.W.kdv_tup [.int 0 tk]) ∧ H T = none ∧ T ∉ fr
/-- how a call without arguments binds -/
structure LamB (params : Arguments) (one : Option Str) : Prop where
  kd : params.kw_defaults = []
  no : one = none → params.defaults = [] ∧ ∀ (q : Str) (body : FuncBody) (scope : Scope) (cl : List (Str × Addr)) (doc pm cv ct : Value), bindArgs (PySem.W.kdv_fn "<lambda>" q params body scope cl .none doc pm cv ct) ⟨[], []⟩ = pure []
  yes : ∀ x, one = some x → (∃ j p, params.defaults = [.Constant (.int 0) j p]) ∧ ∀ (q : Str) (body : FuncBody) (scope : Scope) (cl : List (Str × Addr)) (T : Addr) (tk : Tok) (doc pm cv ct : Value), ∃ k : Option (Array Value) → Sem (List (Str × Value)), bindArgs (PySem.W.kdv_fn "<lambda>" q params body scope cl (.ref T) doc pm cv ct) ⟨[], []⟩ = seqItems? (.ref T) >>= k ∧ k (some #[.int 0 tk]) = pure [(x, .int 0 tk)]
/-- its names: captured ones and globals; the one parameter isn't among the maker's -/
structure LamN (N : List Str) (sc scope : Scope) (one : Option Str) : Prop where
  kind : scope.kind = .function
  co : scope.isCoroutine = false
  gen : scope.isGenerator = false
  cell : ∀ y ∈ scope.names, y.2 ≠ .cell
  own : ∀ y ∈ scope.names, y.2 = .local → y.1 ∉ N
  par : ∀ x, one = some x → scope.names.lookup x = some .local
  free : ∀ y ∈ scope.names, y.2 = .free → sc.names.lookup y.1 = some .cell ∨ sc.names.lookup y.1 = some .free
def lamNB (N : List Str) (sc scope : Scope) (one : Option Str) : Bool :=
  decide (scope.kind = .function) && !scope.isCoroutine && !scope.isGenerator && (scope.names.all fun y => !decide (y.2 = .cell) && (!decide (y.2 = .local) || !decide (y.1 ∈ N)) && (!decide (y.2 = .free) || decide (sc.names.lookup y.1 = some .cell) || decide (sc.names.lookup y.1 = some .free))) &&
    (match one with | none => true | some x => decide (scope.names.lookup x = some .local))
theorem lamN_by {N : List Str} {sc scope : Scope} {one : Option Str} (h : lamNB N sc scope one = true) : LamN N sc scope one := by
  unfold lamNB at h
  simp only [Bool.and_eq_true, Bool.or_eq_true, Bool.not_eq_true', decide_eq_true_eq, decide_eq_false_iff_not, List.all_eq_true] at h
  obtain ⟨⟨⟨⟨h1, h2⟩, h3⟩, h4⟩, h5⟩ := h
  refine ⟨h1, h2, h3, fun y hy => (h4 y hy).1.1, fun y hy e hn => ?_, fun x e => ?_, fun y hy e => ?_⟩
  · rcases (h4 y hy).1.2 with z | z
    · exact z e
    · exact z hn
  · subst e; simpa using h5
  · rcases (h4 y hy).2 with (z | z) | z
    · exact absurd e z
    · exact .inl z
    · exact .inr z
theorem LamN.has {X : Cx} {scope : Scope} {one : Option Str} (L : LamN X.N X.env.scope scope one) (ok : X.Ok) : ∀ y ∈ scope.names, y.2 = .free → ∃ c, X.env.cells.lookup y.1 = some c := fun y hy e => (L.free y hy e).elim (fun k => ok.has _ (.inl k)) fun k => ok.has _ (.inr k)
/-- the table at P tells code objects of the name q -/
def TabO (H : Hp) (ps : Array Value) (q : Str) : Prop := TriplesOk ps.toList ∧ ∀ (pos : Pos) (cv : Value), codeAmong pos ps.toList = some cv → ∃ c, cv = .ref c ∧ H c = some (CodeO c q)
theorem codeAmong_snoc {pos p' : Pos} {c cv : Value} (l : List Value) (h : TriplesOk l) (hc : codeAmong p' (l ++ [rawInt pos.line, rawInt pos.col, c]) = some cv) : codeAmong p' l = some cv ∨ cv = c := among_app l h hc
/-- what the making of a lambda does to what is tracked: its code object c' is found in the table ps, or new -/
def LamStep (H : Hp) (P : Addr) (ps : Array Value) (q : Str) (c' : Addr) (H1 : Hp) : Prop :=
  (H1 = H ∧ ∃ p, codeAmong p ps.toList = some (.ref c')) ∨ ∃ ps', H c' = none ∧ c' ≠ P ∧ H1 = upd (upd H P (.tbl ps')) c' (CodeO c' q) ∧ TriplesOk ps'.toList ∧ ∀ p cv, codeAmong p ps'.toList = some cv → cv = .ref c' ∨ codeAmong p ps.toList = some cv
section
variable {X : Cx} {pins : List (Addr × Obj)} {σ : St} {H : Hp} {s : Shared} {P c : Addr} {params : Arguments} {body : Expr} {scope : Scope} {pos : Pos} {ps : Array Value} {E : Value → Shared → Prop}
/-- behind the defaults: the code object is new, or found -/
theorem lam_tail {dV : Value} {q : Str} {n : Nat} {Q : Value → Shared → Prop} (I : Inv X pins σ H s) (TB : TabB X.base X.mg c P) (hcode : X.env.code = .ref c) (hP : H P = some (.tbl ps)) (hT : TabO H ps q) (hfree : ∀ y ∈ scope.names, y.2 = .free → ∃ c, X.env.cells.lookup y.1 = some c)
    (h : ∀ (f c' : Addr) (doc pm ctv : Value) (H1 : Hp) (s' : Shared), Inv X pins σ H1 s' → LamStep H P ps q c' H1 → (∀ b o, H b = none → s.heap.get? b = some o → s'.heap.get? b = some o ∧ H1 b = none) →
      s'.heap.get? f = some ({ cls := .type "function", data := .func (lfn q params body scope (cloFrom X.env.cells scope.names []) dV doc pm c' ctv) } : Obj) → H1 f = none → f ∉ frs X.stack → H1 c' = some (CodeO c' q) → Q (.ref f) s') :
    wpAny (model X.prog X.w) X.A (makeTail "<lambda>" q params (.expr body) scope X.env dV .none none pos n) Q E s := by
  obtain ⟨ht, ha⟩ := hT
  have hP' : s.heap.get? P = some { cls := .none, data := .fields ps } := I.hok P _ hP
  have notFr : ∀ f, s.heap.objs.size ≤ f → f ∉ frs X.stack := fun f hf z => by
    rcases List.mem_cons.mp (I.stkSub _ z) with e | e
    · have h1 := I.lt
      rw [← e] at h1
      exact absurd (Nat.lt_of_lt_of_le h1 hf) (Nat.lt_irrefl _)
    · exact I.nofs hf e
  have neP : ∀ b, H b = none → b ≠ P := fun b e z => by rw [z, hP] at e; cases e
  cases hc : codeAmong pos ps.toList with
  | none =>
    refine PySem.W.kdv_makeTail (mg := X.mg) (c := c) (P := P) (ps := ps) (closure_ok hfree) I.ok.glob (I.mod.glob.keeps I.bk) hcode (TB.code.keeps I.bk) hP' ht hc TB.gP (TB.bm.keeps I.bk) fun c' ctv doc h' tk hx hge hlt hrec htb => ?_
    obtain ⟨c2, oc, vs, t, e2, hoc, hd, hv⟩ := hrec
    cases e2
    have hsz : s.heap.objs.size ≤ h'.objs.size := Nat.le_trans hge (Nat.le_of_lt hlt)
    have nC : H c' = none := I.hok.fresh hge
    have kp : ∀ b o, b ≠ P → s.heap.get? b = some o → (h'.push ({ cls := .type "function", data := .func (lfn q params body scope (cloFrom X.env.cells scope.names []) dV doc ((X.mg "__name__").getD .none) c' ctv) } : Obj)).get? b = some o := fun b o hb e => Heap.get?_push_of_some _ (hx b o hb e)
    have J := inv_table (q := q) (t' := tk) (more := #[rawInt pos.line, rawInt pos.col, .ref c']) (h' := h'.push ({ cls := .type "function", data := .func (lfn q params body scope (cloFrom X.env.cells scope.names []) dV doc ((X.mg "__name__").getD .none) c' ctv) } : Obj)) I hP kp (Heap.get?_push_of_some _ htb) hge ⟨oc, vs, t, Heap.get?_push_of_some _ hoc, hd, hv⟩
    have nf : H h'.objs.size = none := I.hok.fresh hsz
    have n1 : h'.objs.size ≠ c' := Nat.ne_of_gt hlt
    refine h h'.objs.size c' doc _ ctv _ _ J (.inr ⟨_, nC, neP _ nC, rfl, ?_, fun p' cv hcv => ?_⟩) (fun b o n e => ⟨kp b o (neP b n) e, ?_⟩) (Heap.get?_push_size _ rfl) ?_ (notFr _ hsz) upd_same
    · have eL : (ps ++ #[rawInt pos.line, rawInt pos.col, .ref c']).toList = ps.toList ++ [rawInt pos.line, rawInt pos.col, .ref c'] := by simp
      rw [eL]
      exact PySem.TriplesOk_snoc _ _ _ _ ht
    · have eL : (ps ++ #[rawInt pos.line, rawInt pos.col, .ref c']).toList = ps.toList ++ [rawInt pos.line, rawInt pos.col, .ref c'] := by simp
      rw [eL] at hcv
      exact (codeAmong_snoc _ ht hcv).symm
    · have : b ≠ c' := fun z => by
        rw [z] at e
        exact absurd (Nat.lt_of_lt_of_le (Heap.lt_size e) hge) (Nat.lt_irrefl _)
      rw [upd_ne this, upd_ne (neP b n), n]
    · rw [upd_ne n1, upd_ne (neP _ nf), nf]
  | some cv =>
    obtain ⟨c', e, hco⟩ := ha pos cv hc
    subst e
    refine PySem.W.kdv_makeTailHit (mg := X.mg) (c := c) (P := P) (ps := ps) (closure_ok hfree) I.ok.glob (I.mod.glob.keeps I.bk) hcode (TB.code.keeps I.bk) hP' ht hc (TB.bm.keeps I.bk) fun ctv doc h' tk hx hsz => ?_
    have J : Inv X pins σ H { s with heap := h'.push ({ cls := .type "function", data := .func (lfn q params body scope (cloFrom X.env.cells scope.names []) dV doc ((X.mg "__name__").getD .none) c' ctv) } : Obj), toks := tk } := I.kept fun b o e => Heap.get?_push_of_some _ (hx b o e)
    exact h h'.objs.size c' doc _ ctv H _ J (.inl ⟨rfl, pos, hc⟩) (fun b o n e => ⟨Heap.get?_push_of_some _ (hx b o e), n⟩) (Heap.get?_push_size _ rfl) (I.hok.fresh hsz) (notFr _ hsz) hco
/-- the lambda is made -/
theorem lam_make {one : Option Str} {Q : Value → Shared → Prop} (I : Inv X pins σ H s) (TB : TabB X.base X.mg c P) (hcode : X.env.code = .ref c) (hP : H P = some (.tbl ps)) (hT : TabO H ps (X.env.qual ++ "<lambda>")) (hfree : ∀ y ∈ scope.names, y.2 = .free → ∃ c, X.env.cells.lookup y.1 = some c) (B : LamB params one)
    (h : ∀ (f c' : Addr) (bs : List (Str × Value)) (dV doc pm ctv : Value) (H1 : Hp) (s' : Shared), Inv X pins σ H1 s' → LamStep H P ps (X.env.qual ++ "<lambda>") c' H1 →
      DefAt H1 (frs X.stack) s'.heap params bs dV → (∀ y ∈ bs, one = some y.1) → (one = none → bs = []) → (∀ x, one = some x → ∃ tk, bs = [(x, .int 0 tk)]) → s'.heap.get? f = some ({ cls := .type "function", data := .func (lfn (X.env.qual ++ "<lambda>") params body scope (cloFrom X.env.cells scope.names []) dV doc pm c' ctv) } : Obj) → H1 f = none → f ∉ frs X.stack → H1 c' = some (CodeO c' (X.env.qual ++ "<lambda>")) → Q (.ref f) s') :
    wpAny (model X.prog X.w) X.A (eval (.Lambda params body scope pos) X.env) Q X.xe s := by
  cases one with
  | none =>
    obtain ⟨d0, _⟩ := B.no rfl
    have hdef : defaultsOf params X.env = ([], []) := by rw [defaultsOf_eq, d0, B.kd]; rfl
    refine PySem.W.kla_eval hdef ?_
    rw [makeFunction_eq]
    simp only [List.zip_nil_right, List.filterMap_nil, List.isEmpty_nil, if_true, pure_bind]
    exact lam_tail I TB hcode hP hT hfree fun f c' doc pm ctv H1 s' J e kp hf hn hfr hco => h f c' [] .none doc pm ctv H1 s' J e (.inl ⟨d0, rfl, rfl⟩) (fun y hy => absurd hy (by simp)) (fun _ => rfl) (fun x e => by cases e) hf hn hfr hco
  | some x =>
    obtain ⟨⟨j, p, d1⟩, _⟩ := B.yes x rfl
    refine PySem.W.kdv_lam (by rw [d1]; rfl) B.kd ?_
    rw [d1]
    refine PySem.W.kdv_all1 (wpAny_mono ((pe_int (X := X) (i := 0) (j := j) (pos := p)).run pins s σ H (fun v H1 => v = .int 0 ∧ H1 = H) I ⟨rfl, rfl⟩) (fun u s1 hu => ?_) fun _ _ _ => ?_)
    · obtain ⟨v, H1, I1, r1, ev, eH⟩ := hu
      subst ev eH
      obtain ⟨tk, rfl⟩ : ∃ tk, u = .int 0 tk := r1
      refine PySem.W.kdv_all0 ?_
      rw [makeFunction_eq]
      simp only [List.zip_nil_right, List.filterMap_nil, List.isEmpty_nil, List.isEmpty_cons, if_true, pure_bind, Bool.false_eq_true, if_false]
      refine wpAny_bind (wpAny_newTextTuple ?_)
      have kT : ∀ b o, s1.heap.get? b = some o → (s1.heap.push (PySem.W.kdv_tup [.int 0 tk])).get? b = some o := fun b o e => Heap.get?_push_of_some _ e
      have J1 : Inv X pins σ H1 { s1 with heap := s1.heap.push (PySem.W.kdv_tup [.int 0 tk]), toks := s1.toks } := I1.kept kT
      have nT : H1 s1.heap.objs.size = none := I1.hok.fresh (Nat.le_refl _)
      have fT : s1.heap.objs.size ∉ frs X.stack := fun z => by
        rcases List.mem_cons.mp (I1.stkSub _ z) with e | e
        · have h1 := I1.lt
          rw [← e] at h1
          exact absurd h1 (Nat.lt_irrefl _)
        · exact I1.nofs (Nat.le_refl _) e
      exact lam_tail J1 TB hcode hP hT hfree fun f c' doc pm ctv H2 s' J e kp hf hn hfr hco => h f c' [(x, .int 0 tk)] (.ref s1.heap.objs.size) doc pm ctv H2 s' J e (.inr ⟨_, tk, x, rfl, rfl, (kp _ _ nT (Heap.get?_push_size _ rfl)).1, (kp _ _ nT (Heap.get?_push_size _ rfl)).2, fT⟩) (fun y hy => by simp at hy; rw [hy]) (fun z => by cases z) (fun y e => by cases e; exact ⟨tk, rfl⟩) hf hn hfr hco
    · rename_i z; exact z
end

section
variable {X : Cx} {pins : List (Addr × Obj)} {σ : L2.St} {H HZ : Hp} {s s1 : Shared}
theorem lam_enter {A : Around} {outer : List Env} {E : XK} {scope : Scope} {one : Option Str} {f c' : Addr} {h₁ : Heap} {tk : Nat} {mB : Str → Option Value} (I : Inv X pins σ H s) (L : LamN X.N X.env.scope scope one) (e0 : Env0 X.prog X.w X.K X.mg X.base A outer s1 HZ) (hd : A.handled = none)
    (un : Un (frs X.stack) [] H HZ s.heap s1.heap) (hns : h₁.Ns s1.heap.objs.size mB) (kp : ∀ b o, s1.heap.get? b = some o → h₁.get? b = some o) : Inv (lamCx X A outer s1 HZ E scope f c') [] σ HZ { s1 with heap := h₁, toks := tk } := by
  have hfree := L.has I.ok
  have back : ∀ {y c}, (cloFrom X.env.cells scope.names []).lookup y = some c → X.env.cells.lookup y = some c := fun {y c} e => by
    rcases cloFrom_mem (PySem.mem_of_lookup e) with hm | ⟨h1, h2⟩
    · cases hm
    · obtain ⟨c1, hc⟩ := hfree _ h1 rfl
      have hc : X.env.cells.lookup y = some c1 := hc
      rw [show c = c1 by rw [h2, hc] <;> rfl]
      exact hc
  have there : ∀ {y}, scope.names.lookup y = some .free → ∃ c, (cloFrom X.env.cells scope.names []).lookup y = some c := fun {y} hl => mem_lookup (cloFrom_has (cells := X.env.cells) (acc := []) (show (y, NameKind.free) ∈ scope.names from PySem.mem_of_lookup hl))
  have cellK : ∀ {c : Addr} {v : Option Value}, H c = none → s.heap.IsCell c v → h₁.IsCell c v := fun {c v} n ⟨o, ho, hd⟩ => by
    obtain ⟨sl, q⟩ := un.any ho n (by simp)
    exact ⟨_, kp _ _ q, hd⟩
  have noA : ∀ b : Addr, b ∉ (lamCx X A outer s1 HZ E scope f c').ex := fun b z => absurd (show b ∈ ([] : List Addr) from z) (by simp)
  have ok : (lamCx X A outer s1 HZ E scope f c').Ok := {
    mod := e0.mod
    kind := L.kind
    glob := rfl
    blt := rfl
    above := Nat.le_refl _
    inj := fun y z c e1 e2 => I.ok.inj y z c (back e1) (back e2)
    has := fun y hy => by
      have hy : scope.names.lookup y = some .cell ∨ scope.names.lookup y = some .free := hy
      exact hy.elim (fun z => absurd rfl (L.cell _ (PySem.mem_of_lookup z))) there
    cab := fun y c z _ => by
      have z : false = true := z
      cases z
    hd := fun _ => hd
    frames := Around.frames_deeper e0.frames
    stk := .inr ⟨rfl, rfl⟩
    exf := fun b z => absurd z (noA b)
    bs := e0.bs
    bsz := e0.bsz
    noex := fun b _ _ => noA b
    exfs := fun b z => absurd z (noA b)
    funs := e0.funs
    frf := e0.frf }
  refine ⟨ok, rfl, e0.bare, Un.kept kp, ⟨_, hns, fun i y v e1 e2 e3 => ?_⟩, fun y c e => ?_, e0.hok.fresh (Nat.le_refl _), fun y c e => ?_, fun q hq => absurd (show q ∈ ([] : List (Addr × Obj)) ++ [] from hq) (by simp), e0.hok.kept kp, I.len⟩
  · rcases (show Vis scope y from e3) with k | k | k
    · exact absurd (List.mem_of_getElem? (show X.N[i]? = some y from e1)) (L.own _ (PySem.mem_of_lookup k) rfl)
    · exact absurd rfl (L.cell _ (PySem.mem_of_lookup k))
    · obtain ⟨m, hn, hl⟩ := I.loc
      obtain ⟨w', r, q⟩ := hl i y v e1 e2 ((L.free _ (PySem.mem_of_lookup k) rfl).elim (fun k => .inr (.inl k)) (fun k => .inr (.inr k)))
      obtain ⟨c2, h2⟩ := there k
      refine ⟨w', r, .inr ⟨.inr k, c2, h2, ?_⟩⟩
      have c1 := back h2
      rcases q with ⟨k', _⟩ | ⟨_, c3, e', z⟩
      · have k' : X.env.scope.names.lookup y = some .local := k'
        rcases L.free _ (PySem.mem_of_lookup k) rfl with k2 | k2 <;> rw [show X.env.scope.names.lookup y = _ from k2] at k' <;> cases k'
      · rw [c1] at e'
        cases e'
        exact cellK (I.freeC y _ c1) z
  · obtain ⟨w', z⟩ := I.cell y c (back e)
    exact ⟨w', cellK (I.freeC y c (back e)) z⟩
  · obtain ⟨v, o, ho, hd⟩ := I.cell y c (back e)
    exact un.free c o ho (I.freeC y c (back e)) (by simp)
/-- what a lambda's call reads: f in the slot, its code object, its own reading -/
def tAct (j : Nat) (f c' : Addr) (q : Str) (tl : Hp → VK → Prop) : TE := fun σZ HZ Q => σZ[j]? = some (some (.ref f)) ∧ HZ c' = some (CodeO c' q) ∧ tl HZ Q
/-- a(), in the def that got the lambda: Z is that def's context, entered at s -/
theorem pe_actG {CXg : CXT} {Eg : XK} {Ng : List Str} {qg : Str} {sg : Scope} {g f c' : Addr} {cdg dV doc pm ctv : Value} {params : Arguments} {body : Expr} {scope : Scope} {one : Option Str} {bs : List (Str × Value)} {k i : Nat} {a : Str} {pn : List (Addr × Obj)} {xe : Value → Shared → Prop} {W : WX} {E : XK} {tb : TE} {p1 p2 : Pos}
    (I : Inv X pins σ H s) (L : LamN X.N X.env.scope scope one) (B : LamB params one) (hD : DefAt H (frs X.stack) s.heap params bs dV) (h1 : one = none → bs = []) (h2 : ∀ x, one = some x → ∃ tk, bs = [(x, .int 0 tk)])
    (hf : s.heap.get? f = some ({ cls := .type "function", data := .func (lfn (X.env.qual ++ "<lambda>") params body scope (cloFrom X.env.cells scope.names []) dV doc pm c' ctv) } : Obj)) (hfn : H f = none) (hfr : f ∉ frs X.stack)
    (tk : Takes ((cxOf CXg X.prog X.w X.K X.mg X.base Ng qg sg g cdg X.A X.stack s H Eg).tr pn xe) W) (hW : ∀ cls d σ' H', E cls d H' → σ'.length = Ng.length → W cls d σ' H') (hr : Room (k + 1) (X.A.deeper (envOfC qg sg s.heap.objs.size g cdg)))
    (hbody : ∀ (A : Around) (outer : List Env) (s : Shared) (H : Hp), Room k (A.deeper (lamEnv X scope s.heap.objs.size f c')) → PE (lamCx X A outer s H E scope f c') body tb)
    (hN : Ng[i]? = some a) (hv : Vis sg a) (hd : (a == ("__debug__" : Str)) = false) (hcd : (a == ("__classdict__" : Str)) = false) :
    PE ((cxOf CXg X.prog X.w X.K X.mg X.base Ng qg sg g cdg X.A X.stack s H Eg).tr pn xe) (.Call (.Name a p1) [] [] p2) (tAct i f c' (X.env.qual ++ "<lambda>") (tb σ)) := by
  refine ⟨fun pinsZ sZ σZ HZ Q IZ h => ?_⟩
  obtain ⟨hs, hc, ht⟩ := h
  refine wpAny_Call_Name_kw (thn ((pe_var (pos := p1) (i := i) hN hv hd hcd).run pinsZ sZ σZ HZ (fun v H1 => v = .ref f ∧ H1 = HZ) IZ ⟨.ref f, hs, rfl, rfl⟩) fun u s1 ⟨v, H1, I1, r1, ev, eH⟩ => ?_)
  subst ev
  rw [eH] at I1
  obtain rfl : u = Value.ref f := r1
  have un : Un (frs X.stack) [] H HZ s.heap s1.heap := I1.base
  have of1 := un.keep f _ hf hfn hfr (by simp)
  obtain ⟨⟨oc, vs, t, hoc, hdc, hvc⟩, _, _⟩ := I1.hok c' _ hc
  have hbind : BindsTo s1 (lfn (X.env.qual ++ "<lambda>") params body scope (cloFrom X.env.cells scope.names []) dV doc pm c' ctv) ⟨[], []⟩ bs := by
    cases one with
    | none =>
      have e := h1 rfl
      rcases hD with ⟨_, _, rfl⟩ | ⟨T, tk, x, _, z, _⟩
      · subst e
        exact BindsTo.of_eq ((B.no rfl).2 _ _ _ _ _ _ _ _)
      · rw [e] at z; cases z
    | some x =>
      obtain ⟨tk, e⟩ := h2 x rfl
      rcases hD with ⟨_, z, _⟩ | ⟨T, tk', x', rfl, z, hT, nT, fT⟩
      · rw [e] at z; cases z
      · have zz : tk = tk' ∧ x = x' := by
          rw [e] at z
          have := List.cons.inj z
          have h3 := Prod.mk.inj this.1
          exact ⟨(Value.int.inj h3.2).2, h3.1⟩
        obtain ⟨rfl, rfl⟩ := zz
        obtain ⟨k, k1, k2⟩ := (B.yes x rfl).2 (X.env.qual ++ "<lambda>") (.expr body) scope (cloFrom X.env.cells scope.names []) T tk doc pm (.ref c') ctv
        rw [e]
        exact BindsTo.of_defaults rfl (un.keep T _ hT nT fT (by simp)) rfl k1 k2
  have hloc : ∀ y ∈ bs, scope.names.lookup y.1 = some .local := fun y hy => by
    cases one with
    | none => rw [h1 rfl] at hy; cases hy
    | some x =>
      obtain ⟨tk, e⟩ := h2 x rfl
      rw [e] at hy
      simp at hy
      rw [hy]
      exact L.par x rfl
  refine PySem.W.callWith_F0 ⟨_, _, _, _, of1⟩ ?_
  have rc : codeAny (model X.prog X.w) (X.A.deeper (envOfC qg sg s.heap.objs.size g cdg)) (.call (.ref f) ⟨[], []⟩) (CR (L2.CX X.prog X.w) (envOfC qg sg s.heap.objs.size g cdg :: X.stack) X.prog X.w HZ s1 Q E) s1 := by
    refine PySem.W.kla_callFunE hr.depth of1 rfl L.co L.gen rfl ⟨c', oc, vs, t, rfl, hoc, hdc, hvc⟩ (hbind _ _ _ _ ?_)
    refine wpAny_newFunctionEnv (fun y hy => L.cell y hy) hloc (fun h₁ hns hsb => ⟨I1.nolimit.fresh _ hsb, ?_⟩) L.kind
    show codeAny _ _ (.expr body (lamEnv X scope s1.heap.objs.size f c')) _ _
    have kp : ∀ b o, s1.heap.get? b = some o → h₁.get? b = some o := fun b o e => hsb.extBut b o (Nat.ne_of_lt (Heap.lt_size e)) (Heap.get?_push_of_some _ e)
    have J := lam_enter (E := E) (f := f) (c' := c') (tk := s1.toks + bs.length) I L I1.env0 hr.hd un hns kp
    refine PySem.W.kla_codeExpr (wpAny_mono ((hbody _ _ s1 HZ (hr.deeper _)).run [] _ _ HZ Q J ht) (fun v s' hq => ?_) fun e s' hq => hq)
    obtain ⟨w', H', J', rv, q⟩ := hq
    exact ⟨w', H', J'.os, J'.bare, J'.base, J'.hok, rv, q⟩
  have hx : Passes (L2.CX X.prog X.w) ((cxOf CXg X.prog X.w X.K X.mg X.base Ng qg sg g cdg X.A X.stack s H Eg).tr pn xe) E := fun pinsZ σZ HZ s1 e s' I1 c => tk e s' (XE.of_call I1 (fun cls d H' h => hW cls d σZ H' h I1.len) c)
  refine wpAny_call (codeAny_mono rc fun r s' hq => ?_)
  cases r with
  | error e => exact hx pinsZ σZ HZ s1 e s' I1 hq
  | ok fl =>
    cases fl with
    | ret u => exact I1.after hq
    | next => exact False.elim hq
    | brk => exact False.elim hq
    | cont => exact False.elim hq
end
/-- the def that calls what it got: TT is what it makes of the lambda's reading -/
def GivesG (X : Cx) (Ng : List Str) (x : Str) (sg : Scope) (g : Addr) (cdg : Value) (bg : List Stmt) (a : Str) (q : Str) (TT : (XK → Hp → VK → Prop) → Addr → Addr → Hp → VK → Prop) : Prop :=
  ∀ (f c' : Addr) (s : Shared) (H : Hp) (Q : VK) (tl : XK → Hp → VK → Prop),
    (∀ (W : WX) (pn : List (Addr × Obj)) (xe : Value → Shared → Prop) (E : XK) (p1 p2 : Pos), Takes ((cxOf C8.CX0 X.prog X.w X.K X.mg X.base Ng x sg g cdg X.A X.stack s H C8.E0).tr pn xe) W → (∀ cls d σ' H', E cls d H' → σ'.length = Ng.length → W cls d σ' H') →
      PE ((cxOf C8.CX0 X.prog X.w X.K X.mg X.base Ng x sg g cdg X.A X.stack s H C8.E0).tr pn xe) (.Call (.Name a p1) [] [] p2) (tAct 0 f c' q (tl E))) → H c' = some (CodeO c' q) → TT tl f c' H Q →
    ∃ t, PSs (cxOf C8.CX0 X.prog X.w X.K X.mg X.base Ng x sg g cdg X.A X.stack s H C8.E0).nox bg t ∧ t { nx := fun _ H' => Q .non H', rt := Q } (L2.start Ng [.ref f]) H
/-- g(lambda: ..): its table at P -/
def tLamG (P : Addr) (q : Str) (TT : (XK → Hp → VK → Prop) → Addr → Addr → Hp → VK → Prop) (t : XK → TE) : TE := fun σ H Q => ∃ ps, H P = some (.tbl ps) ∧ TabO H ps q ∧
  ∀ (f c' : Addr) (H1 : Hp), LamStep H P ps q c' H1 → H1 c' = some (CodeO c' q) → TT (fun E H' Q' => t E σ H' Q') f c' H1 Q
section
variable {X : Cx}
theorem pe_lamG {one : Option Str} {TT : (XK → Hp → VK → Prop) → Addr → Addr → Hp → VK → Prop} {x a : Str} {g c P : Addr} {k : Nat} {pg : Arguments} {bg : List Stmt} {sg : Scope} {dV kV doc pm cdv ct oc : Value} {an od : Option Addr} {osl : Array (Option Value)} {Ng : List Str}
    {params : Arguments} {body : Expr} {scope : Scope} {t : XK → TE} {p lpos pos : Pos} (hg : Gl X x) (hm : X.mg x = some (.ref g)) (hk : PySem.W.keepIn X.K (.ref g) = true)
    (lk : X.K.lookup g = some ⟨oc, od, .func (PySem.W.fnOf x x pg bg sg dV kV doc pm an cdv ct), osl⟩) (hcg : PySem.W.codeIn X.K cdv x = true) (hb : L2.Binds X.K (PySem.W.fnOf x x pg bg sg dV kV doc pm an cdv ct) [a] []) (Sg : FnScope Ng [a] sg) (hNg : Ng[0]? = some a) (hva : Vis sg a)
    (hG : GivesG X Ng x sg g cdv bg a (X.env.qual ++ "<lambda>") TT) (TB : TabB X.base X.mg c P) (hcode : X.env.code = .ref c) (hr : Room (k + 2) X.A) (L : LamN X.N X.env.scope scope one) (B : LamB params one)
    (hbody : ∀ (A : Around) (outer : List Env) (s : Shared) (H : Hp) (E : XK) (f c' : Addr), Room k (A.deeper (lamEnv X scope s.heap.objs.size f c')) → PE (lamCx X A outer s H E scope f c') body (t E))
    (hdb : (x == ("__debug__" : Str)) = false := by decide) (hd : (a == ("__debug__" : Str)) = false := by decide) (hcd : (a == ("__classdict__" : Str)) = false := by decide) :
    PE X (.Call (.Name x p) [.Lambda params body scope lpos] [] pos) (tLamG P (X.env.qual ++ "<lambda>") TT t) := by
  refine ⟨fun pins s σ H Q I h => ?_⟩
  obtain ⟨ps, hP, hT, h⟩ := h
  refine wpAny_Call_Name_kw (ld_glob I hg hm (PySem.W.callWith_K (h₀ := X.base) I.ok.mod.kin hk ?_ (by rfl) (by rfl)) hdb)
  show wpAny _ _ (spliced ((false, eval (.Lambda params body scope lpos) X.env) :: backTo pos (starEach [] X.env))) _ _ s
  refine Calls.spliced_cons (lam_make I TB hcode hP hT (L.has I.ok) B fun f c' bs dV' doc' pm' ctv H1 s' I1 eN hD _ hb0 hb1 hf hfn hfr hco => Calls.spliced_nil ⟨I1.kIn, ?_⟩)
  have rc : codeAny (model X.prog X.w) X.A (.call (.ref g) ⟨[.ref f], []⟩) (CR C8.CX0 X.stack X.prog X.w H1 s' Q C8.E0) s' := by
    refine run_ofS (N := Ng) (ps := [a]) (us := [.ref f]) (vs := [.ref f]) lk hcg Sg hr I1.env0 (hb s' [.ref f] I1.kIn rfl) (.cons rfl .nil) rfl fun hr' => ?_
    obtain ⟨t', ht', hq'⟩ := hG f c' s' H1 Q (fun E H' Q' => t E σ H' Q') (fun W pn xe E p1 p2 tk hW => pe_actG (i := 0) I1 L B hD hb0 hb1 hf hfn hfr tk hW hr' (fun A outer s H hr2 => hbody A outer s H E f c' hr2) hNg hva hd hcd) hco (h f c' H1 eN hco)
    exact ⟨t', ht'.nox, hq'⟩
  refine wpAny_call (codeAny_mono rc fun r s2 hq => ?_)
  cases r with
  | error e => exact (show False from hq).elim
  | ok fl =>
    cases fl with
    | ret u => exact I1.after hq
    | next => exact False.elim hq
    | brk => exact False.elim hq
    | cont => exact False.elim hq
end
end L2

set_option maxHeartbeats 4000000
/-! Calls by keywords; defs with a known code object; a try's body for whatever slots. -/
namespace L2
open PySem PySem.Spec PyProof.Rows LamX
/-- the values us, then ws, in another order -/
def perm {α : Type} (ix : List Nat) (us ws : List α) : List α := ix.filterMap fun i => (us ++ ws)[i]?
theorem vals_at : ∀ {vs : List V} {us : List Value}, Vals vs us → ∀ i : Nat, (vs[i]? = none ∧ us[i]? = none) ∨ ∃ v u, vs[i]? = some v ∧ us[i]? = some u ∧ RelV v u
  | _, _, .nil, i => .inl ⟨by simp, by simp⟩
  | _, _, .cons r _, 0 => .inr ⟨_, _, rfl, rfl, r⟩
  | _, _, .cons _ rs, i + 1 => by
    rcases vals_at rs i with ⟨a, b⟩ | ⟨v, u, a, b, r⟩
    · exact .inl ⟨by simpa using a, by simpa using b⟩
    · exact .inr ⟨v, u, by simpa using a, by simpa using b, r⟩
theorem vals_perm (ix : List Nat) {vs zs : List V} {us ws : List Value} (r : Vals vs us) (rz : Vals zs ws) : Vals (perm ix vs zs) (perm ix us ws) := by
  have h := vals_at (r.append rz)
  induction ix with
  | nil => exact .nil
  | cons i ix ih =>
    unfold perm at ih ⊢
    rcases h i with ⟨a, b⟩ | ⟨v, u, a, b, q⟩
    · rw [List.filterMap_cons, List.filterMap_cons, a, b]; exact ih
    · rw [List.filterMap_cons, List.filterMap_cons, a, b]; exact .cons q ih
section
variable {K : PySem.W.Frag}
theorem Fun.kbn {x qual : Str} {st : Stmt} {f : Addr} {fd : FuncData} {ps ks : List Str} {n : Nat} (ix : List Nat) (F : Fun K x qual st f fd)
    (h : ∀ (kV doc pm : Value) (an : Option Addr) (cdv ct : Value) (us ws : List Value), us.length = n → ws.length = ks.length → bindArgs (PySem.W.fnOf x qual (defArgs st) (defBody st) (defScope st) .none kV doc pm an cdv ct) ⟨us, ks.zip ws⟩ = pure (ps.zip (perm ix us ws))) : KBn K fd ps n ks (perm ix) (perm ix) := by
  obtain ⟨oc, od, kV, doc, pm, an, cdv, ct, osl, rfl, lk, hcd⟩ := F.ex
  exact ⟨fun s us ws _ h1 h2 => .of_eq (h kV doc pm an cdv ct us ws h1 h2), fun r rz => vals_perm ix r rz⟩
end
section
variable {X : Cx} {CX : CXT} {k : Nat} {f : Addr} {fd : FuncData} {ps ks : List Str} {sp : Sp} {E : XK} {x : Str} {p pos : Pos} {kws : List Keyword} {tk : TA} {g : List Value → List Value → List Value} {gV : List V → List V → List V} {nk : Nat}
/-- f(k = v, ..), nothing by position -/
theorem pe_callN0 (F : FnOk X.prog X.w X.K X.mg X.base CX k f fd ps sp) (hr : Room k X.A) (hg : Gl X x) (hm : X.mg x = some (.ref f)) (hk : PySem.W.keepIn X.K (.ref f) = true) (hb : KBn X.K fd ps 0 ks g gV) (hx : Passes CX X E)
    (hkw : PK X kws tk) (hall : (backToKw pos (keywordEach kws X.env)).all (·.1.isSome) = true := by rfl) (hks : (backToKw pos (keywordEach kws X.env)).filterMap (·.1) = ks := by rfl) (hdb : (x == ("__debug__" : Str)) = false := by decide)
    (hpl : ((backTo pos (starEach [] X.env)).any (·.1) || (backToKw pos (keywordEach kws X.env)).any (·.1.isNone)) = false := by rfl) (hnk : ks.length = nk := by rfl) : PE X (.Call (.Name x p) [] kws pos) (tCallN 0 nk sp gV E tNil tk) := by
  subst hnk
  refine ⟨fun pins s σ H Q I h => wpAny_Call_Name_kw (ld_glob I hg hm (PySem.W.callWith_KW0 (h₀ := X.base) I.ok.mod.kin hk hall (thn (hkw.run pos pins s σ H _ I h) fun ws s2 ⟨zs, H2, I2, rz, l1, l2, q2⟩ => ⟨I2.kIn, ?_⟩) hpl) hdb)⟩
  rw [hks]
  exact run_fnN F hr hb hx I2 .nil rz l1 l2 q2
theorem pe_callNk {n : Nat} {e : Expr} {es : List Expr} {t : TA} (F : FnOk X.prog X.w X.K X.mg X.base CX k f fd ps sp) (hr : Room k X.A) (hg : Gl X x) (hm : X.mg x = some (.ref f)) (hk : PySem.W.keepIn X.K (.ref f) = true) (hb : KBn X.K fd ps n ks g gV) (hx : Passes CX X E)
    (ha : PA X (e :: es) t) (hkw : PK X kws tk) (hall : (backToKw pos (keywordEach kws X.env)).all (·.1.isSome) = true := by rfl) (hks : (backToKw pos (keywordEach kws X.env)).filterMap (·.1) = ks := by rfl) (hdb : (x == ("__debug__" : Str)) = false := by decide) (he : starEach (e :: es) X.env = (false, eval e X.env) :: starEach es X.env := by rfl)
    (hpl : ((backTo pos (starEach (e :: es) X.env)).any (·.1) || (backToKw pos (keywordEach kws X.env)).any (·.1.isNone)) = false := by rfl) (hnk : ks.length = nk := by rfl) : PE X (.Call (.Name x p) (e :: es) kws pos) (tCallN n nk sp gV E t tk) := by
  subst hnk
  exact pe_callN F hr hg hm hk hb hx ha hkw hall hks hdb he hpl
theorem passN : Passes (L2.CX X.prog X.w) X E0 := fun pins σ H s e s' I c => by
  obtain ⟨_, _, _, _, _, _, _, _, _, _, _, _, z⟩ := c
  exact z.elim
theorem passLen {W : WX} {pn : List (Addr × Obj)} {xe : Value → Shared → Prop} {len : Nat} (tk : Takes (X.tr pn xe) W) (hl : X.N.length = len) (hW : ∀ cls d σ' H', E cls d H' → σ'.length = len → W cls d σ' H') : Passes (L2.CX X.prog X.w) (X.tr pn xe) E :=
  fun pins σ H s e s' I c => tk e s' (XE.of_call I (fun cls d H' h => hW cls d σ H' h (I.len.trans hl)) c)
/-- try: the reading t E of the body, E what is wished of exceptions, whatever the slots hold -/
def tTryB (len : Nat) (t : XK → TS) : WX → TS := fun W D σ H => ∃ E : XK, (∀ cls d σ' H', E cls d H' → σ'.length = len → W cls d σ' H') ∧ t E D σ H
theorem ps_tryB {body : List Stmt} {W : WX} {len : Nat} {t : XK → TS} (h : ∀ E : XK, (∀ cls d σ' H', E cls d H' → σ'.length = len → W cls d σ' H') → PSs X body (t E)) : PSs X body (tTryB len t W) := ⟨fun pins s σ H D I ⟨E, hE, q⟩ => (h E hE).run pins s σ H D I q⟩
end
section
variable {X : Cx} {one : Option Str} {TT : (XK → Hp → VK → Prop) → Addr → Addr → Hp → VK → Prop} {x a : Str} {g c P : Addr} {k : Nat} {stg : Stmt} {fdg : FuncData} {Ng : List Str} {params : Arguments} {body : Expr} {scope : Scope} {t : XK → TE} {p lpos pos : Pos}
/-- g(lambda: ..), g told by what is written of it -/
theorem pe_lamF (F : Fun X.K x x stg g fdg) (hb : L2.Binds X.K fdg [a] []) (Sg : FnScope Ng [a] (defScope stg)) (hNg : Ng[0]? = some a) (hva : Vis (defScope stg) a) (hG : ∀ cdv, GivesG X Ng x (defScope stg) g cdv (defBody stg) a (X.env.qual ++ "<lambda>") TT)
    (TB : TabB X.base X.mg c P) (hcode : X.env.code = .ref c) (hr : Room (k + 2) X.A) (L : LamN X.N X.env.scope scope one) (B : LamB params one) (hg : Gl X x) (hm : X.mg x = some (.ref g))
    (hbody : ∀ (A : Around) (outer : List Env) (s : Shared) (H : Hp) (E : XK) (f c' : Addr), Room k (A.deeper (lamEnv X scope s.heap.objs.size f c')) → PE (lamCx X A outer s H E scope f c') body (t E))
    (hdb : (x == ("__debug__" : Str)) = false := by decide) (hd : (a == ("__debug__" : Str)) = false := by decide) (hcd : (a == ("__classdict__" : Str)) = false := by decide) :
    PE X (.Call (.Name x p) [.Lambda params body scope lpos] [] pos) (tLamG P (X.env.qual ++ "<lambda>") TT t) := by
  obtain ⟨oc, od, kV, doc, pm, an, cdv, ct, osl, rfl, lk, hcg⟩ := F.ex
  exact pe_lamG hg hm F.kp lk hcg hb Sg hNg hva (hG cdv) TB hcode hr L B hbody hdb hd hcd
end
section
variable {P : Program} {w : World} {K : PySem.W.Frag} {mg : Str → Option Value} {base : Heap}
/-- a def whose code object is told -/
theorem Fun.okC {x qual : Str} {st : Stmt} {f c : Addr} {fd : FuncData} {N ps : List Str} {k : Nat} {sp : Sp} (F : Fun K x qual st f fd) (hc : fd.code = .ref c) (S : FnScope N ps (defScope st)) (len : ∀ vs H Q E, sp vs H Q E → vs.length = ps.length)
    (hbody : ∀ (A : Around) (outer : List Env) (s : Shared) (H : Hp) (vs : List V) (Q : VK) (E : XK), Room k (A.deeper (envOfC qual (defScope st) s.heap.objs.size f (.ref c))) → sp vs H Q E →
      ∃ t, PSs (cxOf L2.CX0 P w K mg base N qual (defScope st) f (.ref c) A outer s H E).nox (defBody st) t ∧ t { nx := fun _ H' => Q .non H', rt := Q } (start N vs) H) : FnOk P w K mg base L2.CX0 (k + 1) f fd ps sp := by
  obtain ⟨oc, od, kV, doc, pm, an, cdv, ct, osl, rfl, lk, hcd⟩ := F.ex
  obtain rfl : cdv = .ref c := hc
  exact fn_of lk hcd S len fun A outer s H vs Q E hr hsp => let ⟨t, h, q⟩ := hbody A outer s H vs Q E hr hsp; ⟨t, h.nox, q⟩
end
end L2

set_option maxHeartbeats 4000000
/-! == and != by an own __eq__; methods and instances called by keywords. -/
namespace L2
open PySem PySem.Spec PyProof.Rows LamX
/-- x == y, x an instance of C, whose __eq__ keeps sp -/
def rEqO (K : PySem.W.Frag) (C : Addr) (sp : Sp) : R2 := fun x y H Q => ∃ (a dx : Addr) (fs : List (Str × V)) (t : Value), x = .ref a ∧ H a = some (.ins C dx fs) ∧ TyX K H y t ∧ PySem.W.notFirst K C t = true ∧ sp [x, y] H (fun z H' => ∃ b, z = .bl b ∧ Q (.bl b) H') E0
/-- x != y, both instances of C -/
def rNeO (C : Addr) (sp : Sp) : R2 := fun x y H Q => ∃ (a dx : Addr) (fs : List (Str × V)) (a' dx' : Addr) (fs' : List (Str × V)), x = .ref a ∧ H a = some (.ins C dx fs) ∧ y = .ref a' ∧ H a' = some (.ins C dx' fs') ∧ sp [x, y] H (fun z H' => ∃ b, z = .bl b ∧ Q (.bl (!b)) H') E0
/-- C has an own __eq__, f, and no __ne__ -/
def neB (K : PySem.W.Frag) (C f : Addr) : Bool := match K.lookup C with
  | some ⟨.type "type", _, .cls cd, sl⟩ => (match cd.mro, sl.toList with
    | [.ref C', .type "object"], [_, _, _, _, some (.builtin _), _] => C' == C && !cd.hasDel && PySem.W.nsOkIn K cd.ns && PySem.W.nsIn K cd.ns "__eq__" == some (some (.ref f)) && PySem.W.nsIn K cd.ns "__ne__" == some none
    | _, _ => false)
  | _ => false
theorem ns_has {K : PySem.W.Frag} {h : Heap} {N : Addr} {m : Str → Option Value} {x : Str} {v : Value} (X : K.In h) (G : h.Ns N m) (q : PySem.W.nsIn K N x = some (some v)) : m x = some v := by
  obtain ⟨o, es, ep, ho, hd, _, hf⟩ := G
  unfold PySem.W.nsIn at q
  split at q
  · rename_i hl
    have z := X _ _ hl
    rw [ho] at z
    cases z
    cases hd
    split at q
    · rename_i en he
      cases q
      rw [← hf]; unfold nsFind findBy; rw [← Array.find?_toList, he]; rfl
    · split at q <;> cases q
  · cases q
theorem neB_own {K : PySem.W.Frag} {h : Heap} {C f a : Addr} {o : Obj} (X : K.In h) (e : neB K C f = true) (hf : PySem.W.isFn K (.ref f) = true) (ha : h.get? a = some o) (hc : o.cls = .ref C) : h.OwnEqNoNe a C f "object" [.type "object"] := by
  unfold neB at e
  split at e
  · rename_i dd cd sl ho
    split at e
    · rename_i C' k0 k1 k2 k3 n k5 hm hs
      simp only [Bool.and_eq_true, beq_iff_eq, Bool.not_eq_true'] at e
      obtain ⟨⟨⟨⟨rfl, hdel⟩, hok⟩, heq⟩, hne⟩ := e
      obtain ⟨c1, c2, c3, c4, c5, c6, c7, c8, c9, c10, c11⟩ := cd
      dsimp only at hm hdel hok heq hne
      subst hm hdel
      have es : sl = #[k0, k1, k2, k3, some (.builtin n), k5] := by
        obtain ⟨l⟩ := sl
        simp only at hs
        rw [hs]
      subst es
      have hN : h.Ns c4 (h.nsMap c4) := .of_isNs (PySem.W.isNs_of_in X hok)
      obtain ⟨of, hof, hofc⟩ : ∃ of, h.get? f = some of ∧ of.cls = .type "function" := by
        have hf' : (K.lookup f).map (·.cls) = some (.type "function") := beq_iff_eq.mp hf
        cases hl : K.lookup f with
        | none => rw [hl] at hf'; cases hf'
        | some of =>
          rw [hl] at hf'
          exact ⟨of, X _ _ hl, Option.some.inj hf'⟩
      exact ⟨o, of, _, _, c4, _, _, _, _, _, _, _, k0, k1, k2, k3, k5, n, h.nsMap c4, some (.builtin "object.__eq__"), ha, hc, X _ _ ho, hN, ns_has X hN heq, hof, hofc, F.cmp_object.mro, by first | rfl | kernel_rfl | (rw [typeLookup_type, builtinLookup_eq_fast]; kernel_rfl), PySem.W.nsMap_none_of_in X hok hne⟩
    · cases e
  · cases e
section
variable {X : Cx} {CX : CXT} {k : Nat} {C f : Addr} {fd : FuncData} {ps : List Str} {sp : Sp} {R : Value → Shared → Prop}
/-- the own __eq__ runs, at A below X -/
theorem run_eq {A : Around} {pins : List (Addr × Obj)} {σ : St} {H : Hp} {s : Shared} {x y : V} {v u : Value} {Q : VK} (F : FnOk X.prog X.w X.K X.mg X.base CX k f fd ps sp) (hb : Binds X.K fd ps []) (hx : Passes CX X E0) (hr : Room k A) (hfr : A.frames = X.A.frames) (I : Inv X pins σ H s) (rx : RelV x v) (ry : RelV y u) (h : sp [x, y] H Q E0) :
    wpAny (model X.prog X.w) A (call (.ref f) [v, u]) (EP X pins σ Q) X.xe s := by
  have e := I.env0
  have e0 : Env0 X.prog X.w X.K X.mg X.base A X.stack s H := ⟨by rw [hfr]; exact e.frames, e.mod, e.bs, e.bsz, e.funs, e.frf, e.hok, e.bare⟩
  have hl := F.len _ _ _ _ h
  have r2 : Vals [x, y] [v, u] := .cons rx (.cons ry .nil)
  refine wpAny_call (codeAny_mono (F.run A X.stack s H ⟨[v, u], []⟩ [v, u] [x, y] _ E0 hr e0 (by
    have := hb s [v, u] I.kIn (by simpa using hl)
    simpa using this) r2 h) fun r s' hq => ?_)
  cases r with
  | error e => exact hx pins σ H s e s' I hq
  | ok fl =>
    cases fl with
    | ret w => exact I.after hq
    | next => exact False.elim hq
    | brk => exact False.elim hq
    | cont => exact False.elim hq
theorem op_eqO (F : FnOk X.prog X.w X.K X.mg X.base CX k f fd ps sp) (hs : PySem.W.findIn X.K (.ref C) "__eq__" = some (some (.ref f))) (hf : PySem.W.isFn X.K (.ref f) = true) (hb : Binds X.K fd ps []) (hx : Passes CX X E0) (hr : Room k X.A) : OpR X (compareOp .Eq) (rEqO X.K C sp) := by
  intro pins s σ H x y v u Q I rx ry ⟨a, dx, fs, t, hxa, ha, ty, nf, h⟩
  subst hxa
  obtain rfl : v = Value.ref a := rx
  obtain ⟨mA, J, _⟩ := ins_get I.hok ha
  obtain ⟨od, J, _⟩ := J.look
  obtain ⟨Pk, kx, hp, _⟩ := kit_of I ry ty
  obtain ⟨m, hF⟩ := I.fr
  unfold compareOp
  refine PySem.W.cmp_K (op := .Eq) (tb := t) hr.units0 hF I.ok.mod.kin J (kx.ty _ _ I.kIn hp) nf hs hf (wpAny_mono (run_eq (x := .ref a) F hb hx hr rfl I rfl ry h) (fun w s' hq => ?_) fun _ _ z => z)
  obtain ⟨z, H', I', rz, b, rfl, q⟩ := hq
  cases rz
  exact ⟨.bl b, H', I', rfl, q⟩
theorem op_neO (F : FnOk X.prog X.w X.K X.mg X.base CX k f fd ps sp) (hn : neB X.K C f = true) (hf : PySem.W.isFn X.K (.ref f) = true) (hb : Binds X.K fd ps []) (hx : Passes CX X E0) (hr : Room (k + 1) X.A) : OpR X (compareOp .NotEq) (rNeO C sp) := by
  intro pins s σ H x y v u Q I rx ry ⟨a, dx, fs, a', dx', fs', hxa, ha, hya, ha', h⟩
  subst hxa hya
  obtain rfl : v = Value.ref a := rx
  obtain rfl : u = Value.ref a' := ry
  obtain ⟨_, _, _, e1, _⟩ := (show ObjOk X.prog X.w H s.heap a (.ins C dx fs) from I.hok a _ ha)
  obtain ⟨_, _, _, e2, _⟩ := (show ObjOk X.prog X.w H s.heap a' (.ins C dx' fs') from I.hok a' _ ha')
  have hu : X.A.units + 1 < cLine := by have := hr.un; omega
  obtain ⟨hp, g, d, t, os⟩ := s
  refine compareOp_ne_ownEq PySem.F.cmp_object (neB_own I.kIn hn hf e1 rfl) e2 rfl hu (wpAny_mono (run_eq (A := X.A.in1) (x := .ref a) (y := .ref a') F hb hx hr.in1 rfl I rfl rfl h) (fun w s' hq => ?_) fun _ _ z => z)
  obtain ⟨z, H', I', rz, b, rfl, q⟩ := hq
  cases rz
  exact ⟨b, rfl, .bl (!b), H', I', rfl, q⟩
end
section
variable {X : Cx} {CX : CXT} {k : Nat} {C f g : Addr} {fd : FuncData} {ps ks : List Str} {sp : Sp} {E : XK} {x m : Str} {p pos apos : Pos} {o fe : Expr} {kws : List Keyword} {ta tf : TE} {t tk : TA} {gL : List Value → List Value → List Value} {gV : List V → List V → List V}
/-- o.m(k = v, ..) -/
def tMethN (C : Addr) (m : Str) (nk : Nat) (sp : Sp) (gV : List V → List V → List V) (E : XK) (ta : TE) (tk : TA) : TE := fun σ H Q => ta σ H fun y H1 => ∃ (a dx : Addr) (fs : List (Str × V)), y = .ref a ∧ H1 a = some (.ins C dx fs) ∧ fs.lookup m = none ∧ tk σ H1 fun zs H2 => zs.length = nk ∧ sp (gV [.ref a] zs) H2 Q E
theorem pe_methN {pl : Sem Bool} (he : PE X o ta) (c : Cls X.K C) (hm : Meth X.K C m f) (F : FnOk X.prog X.w X.K X.mg X.base CX k f fd ps sp) (hr : Room k X.A) (hb : KBn X.K fd ps 1 ks gL gV) (hx : Passes CX X E) (hkw : PK X kws tk)
    (hall : (backToKw pos (keywordEach kws X.env)).all (·.1.isSome) = true := by rfl) (hks : (backToKw pos (keywordEach kws X.env)).filterMap (·.1) = ks := by rfl) (hpl : ((backTo pos (starEach [] X.env)).any (·.1) || (backToKw pos (keywordEach kws X.env)).any (·.1.isNone)) = false := by rfl)
    (ht : eval (.Call (.Attribute o m apos) [] kws pos) X.env = (do
      let ov ← eval o X.env; standAt apos.atName
      let (f, first) ← holding [ov] (getMethod ov m pl); callWith pos f first (backTo pos (starEach [] X.env)) (backToKw pos (keywordEach kws X.env))) := by rfl) {nk : Nat} (hnk : ks.length = nk := by rfl) : PE X (.Call (.Attribute o m apos) [] kws pos) (tMethN C m nk sp gV E ta tk) := by
  subst hnk
  refine ⟨fun pins s σ H Q I h => PySem.W.methodCall_KW (pl := pl) (thn (he.run pins s σ H _ I h) fun u s1 ⟨y, H1, I1, rx, a, dx, fs, ex, ea, l, q⟩ => ?_) ht⟩
  subst ex
  obtain rfl : u = Value.ref a := rx
  refine getmeth_ok I1 ea c hm l (PySem.W.callWith_KW0 (first := [.ref a]) (h₀ := X.base) I.ok.mod.kin hm.kp hall (thn (hkw.run pos pins s1 σ H1 _ I1 q) fun ws s2 ⟨zs, H2, I2, rz, l2, q2⟩ => ⟨I2.kIn, ?_⟩) hpl)
  rw [hks]
  exact run_fnN (us := [.ref a]) (vs := [.ref a]) F hr hb hx I2 (.cons rfl .nil) rz rfl l2 q2
end
section
variable {X : Cx} {CX : CXT} {k : Nat} {C g : Addr} {fd : FuncData} {ps ks : List Str} {sp : Sp} {E : XK} {pos : Pos} {fe : Expr} {kws : List Keyword} {tf : TE} {tk : TA} {gL : List Value → List Value → List Value} {gV : List V → List V → List V}
/-- o(k = v, ..), o an instance -/
def tCallON (C : Addr) (nk : Nat) (sp : Sp) (gV : List V → List V → List V) (E : XK) (tf : TE) (tk : TA) : TE := fun σ H Q => tf σ H fun y H1 => ∃ a, y = V.ref a ∧ tk σ H1 fun zs H2 => (∃ dx fs, H2 a = some (.ins C dx fs)) ∧ zs.length = nk ∧ sp (gV [.ref a] zs) H2 Q E
theorem pe_callON (hf : PE X fe tf) (c : StX.CallO X.K C g) (F : FnOk X.prog X.w X.K X.mg X.base CX k g fd ps sp) (hr : Room k X.A) (hb : KBn X.K fd ps 1 ks gL gV) (hx : Passes CX X E) (hkw : PK X kws tk)
    (ht : eval (.Call fe [] kws pos) X.env = (do callWith pos (← eval fe X.env) [] (backTo pos (starEach [] X.env)) (backToKw pos (keywordEach kws X.env))) := by rfl)
    (hall : (backToKw pos (keywordEach kws X.env)).all (·.1.isSome) = true := by rfl) (hks : (backToKw pos (keywordEach kws X.env)).filterMap (·.1) = ks := by rfl) (hpl : ((backTo pos (starEach [] X.env)).any (·.1) || (backToKw pos (keywordEach kws X.env)).any (·.1.isNone)) = false := by rfl) {nk : Nat} (hnk : ks.length = nk := by rfl) :
    PE X (.Call fe [] kws pos) (tCallON C nk sp gV E tf tk) := by
  subst hnk
  refine ⟨fun pins s σ H Q I h => ?_⟩
  rw [ht]
  refine wpAny_bind (thn (hf.run pins s σ H _ I h) fun u s1 ⟨y, H1, I1, ry, a, ey, q⟩ => ?_)
  subst ey
  obtain rfl : u = Value.ref a := ry
  unfold callWith
  refine wpAny_bind (wpAny_holding (PyProof.Rows.evalArgs_kw2_nil hall (thn (hkw.run pos pins s1 σ H1 _ I1 q) fun ws s2 ⟨zs, H2, I2, rz, hi, l2, q2⟩ => wpAny_bind (wpAny_standAt ?_))))
  obtain ⟨dx, fs, hi⟩ := hi
  obtain ⟨ox, od, J, hd⟩ := StX.insC_at I2 (.inr ⟨dx, fs, hi⟩)
  simp only [hpl]
  refine wpAny_bind ((PySem.W.kco_keeper J hd).here (wpAny_bind ?_))
  have run : wpAny (model X.prog X.w) X.A (call (.ref a) [] (ks.zip ws)) (EP X pins σ Q) X.xe s2 := by
    have r2 := hb.rel (vs := [.ref a]) (us := [.ref a]) (.cons rfl .nil) rz
    refine wpAny_call (PySem.W.kco_code I2.kIn J hd c.at_ c.fn c.fi (codeAny_mono (F.run X.A X.stack s2 H2 ⟨[.ref a], ks.zip ws⟩ _ _ Q E hr I2.env0 (hb.to s2 [.ref a] ws I2.kIn rfl (rz.length.symm.trans l2)) r2 q2) fun r s' hq => ?_))
    cases r with
    | error e => exact hx pins σ H2 s2 e s' I2 hq
    | ok fl =>
      cases fl with
      | ret w => exact I2.after hq
      | next => exact False.elim hq
      | brk => exact False.elim hq
      | cont => exact False.elim hq
  rw [hks]
  exact wpAny_mono (wpAny_operateT run) (fun r s3 hr => wpAny_bind (wpAny_holding (wpAny_point (wpAny_pure hr)))) fun _ _ z => z
end
end L2

/-! Classmethods called by keywords, cls(..), texts backwards. -/
namespace L2
open PySem PySem.Spec PyProof.Rows ClX
section
variable {X : Cx} {CX : CXT} {k : Nat} {C p f g : Addr} {mc : Value} {fd : FuncData} {ps ks : List Str} {ds : List Value} {dvs : List V} {sp : Sp} {E : XK} {o e : Expr} {es : List Expr} {kws : List Keyword} {m x : Str} {np pos apos : Pos} {te ta : TE} {t tk : TA} {gL : List Value → List Value → List Value} {gV : List V → List V → List V}
/-- C.m(k = v, ..), m a classmethod -/
def tCMethN (C : Addr) (nk : Nat) (sp : Sp) (gV : List V → List V → List V) (E : XK) (ta : TE) (tk : TA) : TE := fun σ H Q => ta σ H fun y H1 => y = .ref C ∧ tk σ H1 fun zs H2 => zs.length = nk ∧ sp (gV [.ref C] zs) H2 Q E
theorem run_cmN {pins : List (Addr × Obj)} {σ : St} {H : Hp} {s : Shared} {Q : VK} {q : Addr} {ws : List Value} {zs : List V} (F : FnOk X.prog X.w X.K X.mg X.base CX k g fd ps sp) (hr : Room k X.A) (hb : KBn X.K fd ps 1 ks gL gV) (hx : Passes CX X E)
    (I : Inv X ((q, PySem.W.methodObj (.ref g) (.ref C)) :: pins) σ H s) (rz : Vals zs ws) (l2 : zs.length = ks.length) (h : sp (gV [.ref C] zs) H Q E) : wpAny (model X.prog X.w) X.A (call (.ref q) [] (ks.zip ws)) (EP X pins σ Q) X.xe s := by
  have z : wpAny (model X.prog X.w) X.A (call (.ref q) [] (ks.zip ws)) (EP X ((q, PySem.W.methodObj (.ref g) (.ref C)) :: pins) σ Q) X.xe s := by
    refine wpAny_call (PySem.W.method_call (pin_at I) (codeAny_mono (F.run X.A X.stack s H ⟨[.ref C], ks.zip ws⟩ (gL [.ref C] ws) (gV [.ref C] zs) Q E hr I.env0 (hb.to s [.ref C] ws I.kIn rfl (rz.length.symm.trans l2)) (hb.rel (.cons rfl .nil) rz) h) fun r s' hq => ?_))
    cases r with
    | error e => exact hx _ σ H s e s' I hq
    | ok fl =>
      cases fl with
      | ret u => exact I.after hq
      | next => exact False.elim hq
      | brk => exact False.elim hq
      | cont => exact False.elim hq
  exact thn z fun _ _ y => unpinE y
theorem pe_cmethN {pl : Sem Bool} (he : PE X o ta) (r : CRead X.K C mc) (c : CMet X.K C mc m p g) (F : FnOk X.prog X.w X.K X.mg X.base CX k g fd ps sp) (hr : Room k X.A) (hb : KBn X.K fd ps 1 ks gL gV) (hx : Passes CX X E) (hkw : PK X kws tk)
    (hall : (backToKw pos (keywordEach kws X.env)).all (·.1.isSome) = true := by rfl) (hks : (backToKw pos (keywordEach kws X.env)).filterMap (·.1) = ks := by rfl) (hpl : ((backTo pos (starEach [] X.env)).any (·.1) || (backToKw pos (keywordEach kws X.env)).any (·.1.isNone)) = false := by rfl)
    (ht : eval (.Call (.Attribute o m apos) [] kws pos) X.env = (do
      let ov ← eval o X.env; standAt apos.atName
      let (f, first) ← holding [ov] (getMethod ov m pl); callWith pos f first (backTo pos (starEach [] X.env)) (backToKw pos (keywordEach kws X.env))) := by rfl) {nk : Nat} (hnk : ks.length = nk := by rfl) : PE X (.Call (.Attribute o m apos) [] kws pos) (tCMethN C nk sp gV E ta tk) := by
  subst hnk
  refine ⟨fun pins s σ H Q I h => PySem.W.methodCall_KW (pl := pl) (thn (he.run pins s σ H _ I h) fun u s1 ⟨y, H1, I1, rx, ex, q⟩ => ?_) ht⟩
  subst ex
  obtain rfl : u = Value.ref C := rx
  refine getmethcm_ok I1 r c fun s2 I2 => ?_
  have hq := pin_at I2
  refine PySem.W.callWith_of (P := PySem.W.MethP X.K s1.heap.objs.size g (.ref C)) hpl (PySem.W.keeps_M c.fi) (evalArgs_kw2_nil hall (thn (hkw.run pos _ s2 σ H1 _ I2 q) fun ws s3 ⟨zs, H2, I3, rz, l2, q2⟩ => ⟨⟨pin_at I3, I3.kIn⟩, ?_⟩))
  rw [hks]
  exact run_cmN F hr hb hx I3 rz l2 q2
/-- cls(..), the class a variable -/
def tMakeV (C : Addr) (sp : Sp) (dvs : List V) (E : XK) (te : TE) (t : TA) : TE := fun σ H Q => te σ H fun y H1 => y = .ref C ∧ tMake C sp dvs E t σ H1 Q
theorem pe_makeV (hv : PE X o te) (M : Mk X.K C f) (F : FnOk X.prog X.w X.K X.mg X.base CX k f fd ps sp) (hr : Room (k + 1) X.A) (hb : Binds X.K fd ps ds) (hd : Vals dvs ds) (hx : Passes CX X E) (ha : PA X (e :: es) t)
    (ht : eval (.Call o (e :: es) [] pos) X.env = (do callWith pos (← eval o X.env) [] (backTo pos (starEach (e :: es) X.env)) (backToKw pos (keywordEach [] X.env))) := by rfl)
    (he : starEach (e :: es) X.env = (false, eval e X.env) :: starEach es X.env := by rfl) (hpl : (backTo pos (starEach es X.env)).any (·.1) = false := by rfl) :
    PE X (.Call o (e :: es) [] pos) (tMakeV C sp dvs E te t) := by
  refine ⟨fun pins s σ H Q I h => ?_⟩
  rw [ht]
  refine wpAny_bind (thn (hv.run pins s σ H _ I h) fun u s1 ⟨y, H1, I1, ry, ey, q⟩ => ?_)
  subst ey
  obtain rfl : u = Value.ref C := ry
  exact PySem.W.callWith_K (h₀ := X.base) I1.ok.mod.kin M.kp (thn (ha.run pos pins s1 σ H1 _ I1 q) fun us s2 ⟨vs, H2, I2, r, q2⟩ => ⟨I2.kIn, run_make M F hr hb hd hx I2 r q2⟩) he hpl
/-- a text backwards -/
def revS (z : Str) : Str := ⟨z.cps.toList.reverse.toArray⟩
def tRevS (te : TE) : TE := fun σ H Q => te σ H fun x H1 => ∃ z, x = .str z ∧ z.length ≤ sizeLine ∧ Q (.str (revS z)) H1
theorem rev_is (z : Str) : (⟨((Builtin.Str.strSliceIndices none none (-1) z.length).filterMap (z.cps[·]?)).toArray⟩ : Str) = revS z := by
  unfold revS
  congr 1
  apply Array.ext'
  rw [picked_rev]
  obtain ⟨⟨l⟩⟩ := z
  show List.filterMap _ (List.map _ (List.range l.length)) = l.reverse
  rw [filterMap_get _ _ (fun i hi => by
    obtain ⟨k, hk, rfl⟩ := List.mem_map.mp hi
    have := List.mem_range.mp hk
    show l.length - 1 - k < l.length
    omega), List.map_map]
  apply List.ext_getElem (by simp)
  intro i h1 h2
  simp at h1 h2
  have h3 : l.length - 1 - i < l.length := by omega
  rw [List.getElem_reverse]
  have e : (⟨⟨l⟩⟩ : Str).length = l.length := rfl
  simp only [List.getElem_map, List.getElem_range, Function.comp, Array.getD, e]
  rw [dif_pos (show l.length - 1 - i < (⟨l⟩ : Array Nat).size from h3)]
  rfl
theorem pe_revS {k0 : Nat} {p1 p2 p3 pos : Pos} (he : PE X e te) : PE X (.Subscript e (.Slice none none (some (.UnaryOp .USub (.Constant (.int 1) k0 p1) p2)) p3) pos) (tRevS te) := by
  refine ⟨fun pins s σ H Q I h => Subscript_ (thn (he.run pins s σ H _ I h) fun v s1 ⟨x, H1, I1, r1, z, ex, hz, q⟩ => ?_)⟩
  subst ex
  obtain ⟨tz, rfl⟩ := r1
  refine wpAny_Slice (thn (po_none.run pins s1 σ H1 (fun o H2 => o = none ∧ H2 = H1) I1 ⟨rfl, rfl⟩) fun vl s2 ⟨l, H2, I2, pl, el, e2⟩ => ?_)
  subst el e2
  refine thn (po_none.run pins s2 σ H2 (fun o H3 => o = none ∧ H3 = H2) I2 ⟨rfl, rfl⟩) fun vu s3 ⟨u, H3, I3, pu, eu, e3⟩ => ?_
  subst eu e3
  refine thn ((po_some (pe_un un_neg pe_int)).run pins s3 σ H3 (fun o H4 => o = some (-1) ∧ H4 = H3) I3 ⟨1, rfl, -1, rfl, rfl, rfl⟩) fun vs s4 ⟨o, H4, I4, ps, eo, e4⟩ => ?_
  subst eo e4
  cases pl
  cases pu
  cases ps with
  | int _ tk =>
  have I5 : Inv X pins σ H4 { s4 with heap := s4.heap.push { cls := .type "slice", data := .fields #[.none, .none, .int (-1) tk] } } := I4.kept (t' := s4.toks) fun b ob q => Heap.get?_push_of_some _ q
  refine tail_any (T := "str") (ops := [.str z tz, .ref s4.heap.objs.size]) (typeIs_str _ _ _) F.slot_str_getitem.lookup ?_ (by with_unfolding_all rfl)
  have hs := Heap.IsSliceOf.new s4.heap .none .none (.int (-1) tk)
  obtain ⟨os, hos, hcs, hds⟩ := hs
  refine wpAny_getItem_str_slice (l := none) (u := none) (st := some (-1, tk)) ⟨os, hos, hcs, hds⟩ rfl ?_
  show Made.post (Made.str ⟨((Builtin.Str.strSliceIndices none none (-1) z.length).filterMap (z.cps[·]?)).toArray⟩) (EP X pins σ Q) _
  rw [rev_is]
  exact ⟨by show (revS z).cps.size ≤ _; unfold revS; simpa [Str.length] using hz, .str _, H4, I5.tok _, ⟨_, rfl⟩, q⟩
end
end L2

/-! A calculus over data: what a reading gives, told by plain data; the heap stays out of sight.
    Streams: objects of the law's own that draws change; all that is told of them is SO. -/
namespace DL
open PySem L2
abbrev Ex := Evl.Ex
/-- kinds of streams: the list of three; the dict with cells; the dict with a list of what is left, and that list -/
inductive SK where
  | l3 | cells | mp (len : Nat) | nats (len : Nat) | tbl (q : Str)
/-- the tables of code objects that defs with lambdas have -/
class Tb (K : PySem.W.Frag) where
  tb : List (Addr × Str)
/-- what is known: the streams and a bound of their counters; what is settled, all that is tracked -/
structure Wd where
  S : Addr → Prop
  T : Addr → SK
  n : Nat
  H0 : Hp
  H1 : Hp
/-- data: what a value stands for; the last three are things that a def is still making (they stand in a slot alone) -/
inductive D where
  | non | bl (b : Bool) | int (i : Int) | str (x : Str)
  | lst (xs : List D) | tup (xs : List D)
  | obj (C : Addr) (fs : List (Str × D))
  | dct (kvs : List (Key × D))
  | ty (n : String) | cls (a : Addr)
  | strm (a : Addr) (k : SK)
  | exc (C : Addr) (fs : List (Str × D)) | lam (f c' : Addr) (q : Str) (u0 : Wd)
  | mls (xs : List D) | mob (a dx C : Addr) (fs : List (Str × D)) | mdk (kvs : List (Key × D))
/-- nothing that is known is lost -/
structure Le (u v : Wd) : Prop where
  s : ∀ a, u.S a → v.S a
  t : ∀ a, u.S a → v.T a = u.T a
  h : Ex u.H0 v.H0
theorem Le.refl {u : Wd} : Le u u := ⟨fun _ h => h, fun _ _ => rfl, .refl _⟩
theorem Le.trans {u u' u'' : Wd} (a : Le u u') (b : Le u' u'') : Le u u'' := ⟨fun x h => b.s x (a.s x h), fun x h => (b.t x (a.s x h)).trans (a.t x h), a.h.trans b.h⟩
mutual
inductive Den (K : PySem.W.Frag) (u : Wd) : V → D → Prop
  | non : Den K u .non .non
  | bl (b : Bool) : Den K u (.bl b) (.bl b)
  | int (i : Int) : Den K u (.int i) (.int i)
  | str (x : Str) : Den K u (.str x) (.str x)
  | ty (n : String) : Den K u (.ty n) (.ty n)
  | cls (a : Addr) : Den K u (.ref a) (.cls a)
  | strm {a : Addr} {k : SK} : u.S a → u.T a = k → Den K u (.ref a) (.strm a k)
  | lst {a : Addr} {xs : List V} {ds : List D} : SqL K u.H0 a xs → Dens K u xs ds → Den K u (.ref a) (.lst ds)
  | tup {a : Addr} {xs : List V} {ds : List D} : SqT K u.H0 a xs → Dens K u xs ds → Den K u (.ref a) (.tup ds)
  | obj {a C dx : Addr} {fs : List (Str × V)} {gs : List (Str × D)} : u.H0 a = some (.ins C dx fs) → DenF K u fs gs → Den K u (.ref a) (.obj C gs)
  | dct {a : Addr} {kvs : List (Key × V)} {gs : List (Key × D)} : Rd u.H0 a (.dK kvs) → DenK K u kvs gs → Den K u (.ref a) (.dct gs)
  | exc {a C dx : Addr} {fs : List (Str × V)} {gs : List (Str × D)} : u.H0 a = some (xo a (.ref C) (some dx)) → u.H0 dx = some (.xd fs) → DenF K u fs gs → Den K u (.ref a) (.exc C gs)
  | exc0 {a C : Addr} : u.H0 a = some (xo a (.ref C) none) → Den K u (.ref a) (.exc C [])
  | lam {f c' : Addr} {q : Str} {u0 : Wd} : Le u0 u → u.H0 c' = some (LamX.CodeO c' q) → Den K u (.ref f) (.lam f c' q u0)
inductive Dens (K : PySem.W.Frag) (u : Wd) : List V → List D → Prop
  | nil : Dens K u [] []
  | cons {v : V} {d : D} {vs : List V} {ds : List D} : Den K u v d → Dens K u vs ds → Dens K u (v :: vs) (d :: ds)
inductive DenF (K : PySem.W.Frag) (u : Wd) : List (Str × V) → List (Str × D) → Prop
  | nil : DenF K u [] []
  | cons {f : Str} {v : V} {d : D} {vs : List (Str × V)} {ds : List (Str × D)} : Den K u v d → DenF K u vs ds → DenF K u ((f, v) :: vs) ((f, d) :: ds)
inductive DenK (K : PySem.W.Frag) (u : Wd) : List (Key × V) → List (Key × D) → Prop
  | nil : DenK K u [] []
  | cons {f : Key} {v : V} {d : D} {vs : List (Key × V)} {ds : List (Key × D)} : Den K u v d → DenK K u vs ds → DenK K u ((f, v) :: vs) ((f, d) :: ds)
end
section
variable {K : PySem.W.Frag} [Tb K] {H H' : Hp} {u u' u'' v' : Wd}
theorem ex_new {p : Addr} {o : HO} (h : H p = none) : Ex H (upd H p o) := Evl.Ex.new h
mutual
theorem Den.mono (e : Le u u') : ∀ {v : V} {d : D}, Den K u v d → Den K u' v d
  | _, _, .non => .non
  | _, _, .bl b => .bl b
  | _, _, .int i => .int i
  | _, _, .str x => .str x
  | _, _, .ty x => .ty x
  | _, _, .cls x => .cls x
  | _, _, .strm h q => .strm (e.s _ h) ((e.t _ h).trans q)
  | _, _, .lst h r => .lst (Evl.ex_l e.h h) (Dens.mono e r)
  | _, _, .tup h r => .tup (Evl.ex_t e.h h) (Dens.mono e r)
  | _, _, .obj h r => .obj (e.h _ _ h) (DenF.mono e r)
  | _, _, .dct h r => .dct (Evl.ex_rd e.h h) (DenK.mono e r)
  | _, _, .exc h1 h2 r => .exc (e.h _ _ h1) (e.h _ _ h2) (DenF.mono e r)
  | _, _, .exc0 h => .exc0 (e.h _ _ h)
  | _, _, .lam l h => .lam (l.trans e) (e.h _ _ h)
theorem Dens.mono (e : Le u u') : ∀ {v : List V} {d : List D}, Dens K u v d → Dens K u' v d
  | _, _, .nil => .nil
  | _, _, .cons h r => .cons (Den.mono e h) (Dens.mono e r)
theorem DenF.mono (e : Le u u') : ∀ {v : List (Str × V)} {d : List (Str × D)}, DenF K u v d → DenF K u' v d
  | _, _, .nil => .nil
  | _, _, .cons h r => .cons (Den.mono e h) (DenF.mono e r)
theorem DenK.mono (e : Le u u') : ∀ {v : List (Key × V)} {d : List (Key × D)}, DenK K u v d → DenK K u' v d
  | _, _, .nil => .nil
  | _, _, .cons h r => .cons (Den.mono e h) (DenK.mono e r)
end
theorem Dens.len : ∀ {v : List V} {d : List D}, Dens K u v d → v.length = d.length
  | _, _, .nil => rfl
  | _, _, .cons _ r => by simp [Dens.len r]
theorem Dens.get : ∀ {v : List V} {d : List D} {i : Nat} {x : V}, Dens K u v d → v[i]? = some x → ∃ y, d[i]? = some y ∧ Den K u x y
  | _, _, _, _, .nil, e => by simp at e
  | _, _, 0, _, .cons r _, e => by simp at e; subst e; exact ⟨_, rfl, r⟩
  | _, _, i + 1, x, .cons _ t, e => by
    obtain ⟨u, h1, h2⟩ := Dens.get (i := i) (x := x) t (by simpa using e)
    exact ⟨u, by simpa using h1, h2⟩
theorem Dens.getD : ∀ {v : List V} {d : List D} {i : Nat} {y : D}, Dens K u v d → d[i]? = some y → ∃ x, v[i]? = some x ∧ Den K u x y
  | _, _, _, _, .nil, e => by simp at e
  | _, _, 0, _, .cons r _, e => by simp at e; subst e; exact ⟨_, rfl, r⟩
  | _, _, i + 1, x, .cons _ t, e => by
    obtain ⟨u, h1, h2⟩ := Dens.getD (i := i) (y := x) t (by simpa using e)
    exact ⟨u, by simpa using h1, h2⟩
theorem Dens.app : ∀ {v v' : List V} {d d' : List D}, Dens K u v d → Dens K u v' d' → Dens K u (v ++ v') (d ++ d')
  | _, _, _, _, .nil, s => s
  | _, _, _, _, .cons r t, s => .cons r (Dens.app t s)
theorem Dens.take : ∀ {v : List V} {d : List D} (n : Nat), Dens K u v d → Dens K u (v.take n) (d.take n)
  | _, _, 0, _ => .nil
  | _, _, _ + 1, .nil => .nil
  | _, _, n + 1, .cons r t => .cons r (Dens.take n t)
theorem Dens.drop : ∀ {v : List V} {d : List D} (n : Nat), Dens K u v d → Dens K u (v.drop n) (d.drop n)
  | _, _, 0, r => r
  | _, _, _ + 1, .nil => .nil
  | _, _, n + 1, .cons _ t => Dens.drop n t
theorem DenF.keys : ∀ {v : List (Str × V)} {d : List (Str × D)}, DenF K u v d → v.map (·.1) = d.map (·.1)
  | _, _, .nil => rfl
  | _, _, .cons _ r => by simp [DenF.keys r]
theorem DenF.len {v : List (Str × V)} {d : List (Str × D)} (h : DenF K u v d) : v.length = d.length := by
  have := congrArg List.length h.keys
  simpa using this
theorem DenF.look : ∀ {v : List (Str × V)} {d : List (Str × D)} {f : Str} {y : D}, DenF K u v d → d.lookup f = some y → ∃ x, v.lookup f = some x ∧ Den K u x y
  | _, _, _, _, .nil, e => by simp at e
  | _, _, f, y, .cons (f := g) (v := v) (d := d) r t, e => by
    rw [List.lookup_cons] at e ⊢
    cases hq : f == g with
    | true => rw [hq] at e; cases e; exact ⟨v, rfl, r⟩
    | false => rw [hq] at e; exact DenF.look t e
theorem DenF.miss : ∀ {v : List (Str × V)} {d : List (Str × D)} {f : Str}, DenF K u v d → d.lookup f = none → v.lookup f = none
  | _, _, _, .nil, _ => rfl
  | _, _, f, .cons (f := g) r t, e => by
    rw [List.lookup_cons] at e ⊢
    cases hq : f == g with
    | true => rw [hq] at e; cases e
    | false => rw [hq] at e; exact DenF.miss t e
theorem den_int {v : V} {i : Int} (h : Den K u v (.int i)) : v = .int i := by cases h; rfl
theorem den_bl {v : V} {i : Bool} (h : Den K u v (.bl i)) : v = .bl i := by cases h; rfl
theorem den_str {v : V} {i : Str} (h : Den K u v (.str i)) : v = .str i := by cases h; rfl
theorem den_non {v : V} (h : Den K u v .non) : v = .non := by cases h; rfl
theorem den_strm {v : V} {a : Addr} {k : SK} (h : Den K u v (.strm a k)) : v = .ref a ∧ u.S a ∧ u.T a = k := by cases h with | strm h q => exact ⟨rfl, h, q⟩
theorem den_lst {v : V} {xs : List D} (h : Den K u v (.lst xs)) : ∃ a vs, v = .ref a ∧ SqL K u.H0 a vs ∧ Dens K u vs xs := by cases h with | lst q r => exact ⟨_, _, rfl, q, r⟩
theorem den_tup {v : V} {xs : List D} (h : Den K u v (.tup xs)) : ∃ a vs, v = .ref a ∧ SqT K u.H0 a vs ∧ Dens K u vs xs := by cases h with | tup q r => exact ⟨_, _, rfl, q, r⟩
theorem den_obj {v : V} {C : Addr} {gs : List (Str × D)} (h : Den K u v (.obj C gs)) : ∃ a dx fs, v = .ref a ∧ u.H0 a = some (.ins C dx fs) ∧ DenF K u fs gs := by cases h with | obj q r => exact ⟨_, _, _, rfl, q, r⟩
theorem den_dct {v : V} {gs : List (Key × D)} (h : Den K u v (.dct gs)) : ∃ a kvs, v = .ref a ∧ Rd u.H0 a (.dK kvs) ∧ DenK K u kvs gs := by cases h with | dct q r => exact ⟨_, _, rfl, q, r⟩
theorem dens0 {vs : List V} (h : Dens K u vs []) : vs = [] := by cases h; rfl
theorem dens1 {vs : List V} {x : D} (h : Dens K u vs [x]) : ∃ v, vs = [v] ∧ Den K u v x := by cases h with | cons a r => cases r; exact ⟨_, rfl, a⟩
theorem dens2 {vs : List V} {x y : D} (h : Dens K u vs [x, y]) : ∃ v w, vs = [v, w] ∧ Den K u v x ∧ Den K u w y := by cases h with | cons a r => obtain ⟨w, rfl, b⟩ := dens1 r; exact ⟨_, _, rfl, a, b⟩
theorem dens3 {vs : List V} {x y z : D} (h : Dens K u vs [x, y, z]) : ∃ v w t, vs = [v, w, t] ∧ Den K u v x ∧ Den K u w y ∧ Den K u t z := by cases h with | cons a r => obtain ⟨w, t, rfl, b, c⟩ := dens2 r; exact ⟨_, _, _, rfl, a, b, c⟩
/-- a field stored -/
def putD (f : Str) (d : D) : List (Str × D) → List (Str × D)
  | [] => [(f, d)]
  | (g, e) :: r => if g = f then (f, d) :: r else (g, e) :: putD f d r
theorem DenF.put {f : Str} {v : V} {d : D} (r : Den K u v d) : ∀ {fs : List (Str × V)} {gs : List (Str × D)}, DenF K u fs gs → DenF K u (putF f v fs) (putD f d gs)
  | _, _, .nil => .cons r .nil
  | _, _, .cons (f := f') (v := v') (d := d') (vs := vs') (ds := ds') h1 h2 => by
    show DenF K u (if f' = f then (f', v) :: vs' else (f', v') :: putF f v vs') (if f' = f then (f, d) :: ds' else (f', d') :: putD f d ds')
    by_cases e : f' = f
    · rw [if_pos e, if_pos e, e]; exact .cons r h2
    · rw [if_neg e, if_neg e]; exact .cons h1 (DenF.put r h2)
theorem ex_none (e : Ex H H') {x : Addr} (h : H' x = none) : H x = none := Evl.fresh_back e h
abbrev ky (x : String) : Key := .inr (Str.ofString x)
/-- what is told of a stream of the law -/
def SO (K : PySem.W.Frag) [Tb K] (u : Wd) : SK → HO → Prop
  | .l3, o => ∃ x c m : Int, o = .lst [.int x, .int c, .int m] ∧ 0 ≤ x ∧ 0 ≤ c ∧ c ≤ u.n ∧ 0 ≤ m ∧ m < 2147483648
  | .cells, o => ∃ (l : Addr) (cs : List Int) (c x : Int), o = .dK [(ky "cells", .ref l), (ky "at", .int c), (ky "left", .int x)] ∧ SqL K u.H0 l (cs.map V.int) ∧ cs ≠ [] ∧ cs.length ≤ 1000 ∧ 0 ≤ c ∧ c ≤ u.n ∧ 0 ≤ x
  | .mp len, o => ∃ (l l2 : Addr) (cs : List Int) (c : Int), o = .dK [(ky "script", .ref l), (ky "at", .int c), (ky "left", .ref l2)] ∧ SqL K u.H0 l (cs.map V.int) ∧ cs.length = len ∧ 0 ≤ c ∧ c ≤ u.n ∧ u.S l2 ∧ u.T l2 = .nats len
  | .tbl q, o => ∃ ps, o = .tbl ps ∧ TabO u.H0 ps q
  | .nats len, o => ∃ xs : List Int, o = .lst (xs.map V.int) ∧ xs.length = len ∧ ∀ x ∈ xs, 0 ≤ x
theorem SO.mono {u v : Wd} {k : SK} {o : HO} (h : SO K u k o) (l : Le u v) (hn : u.n ≤ v.n) : SO K v k o := by
  cases k with
  | l3 =>
    obtain ⟨x, c, m, e, h1, h2, h3, h4⟩ := h
    exact ⟨x, c, m, e, h1, h2, by omega, h4⟩
  | cells =>
    obtain ⟨a, cs, c, x, e, q, h1, h2, h3, h4, h5⟩ := h
    exact ⟨a, cs, c, x, e, Evl.ex_l l.h q, h1, h2, h3, by omega, h5⟩
  | mp len =>
    obtain ⟨a, a2, cs, c, e, q, h1, h2, h3, h4, h5⟩ := h
    exact ⟨a, a2, cs, c, e, Evl.ex_l l.h q, h1, h2, by omega, l.s _ h4, (l.t _ h4).trans h5⟩
  | nats len => exact h
  | tbl q =>
    obtain ⟨ps, e, ht, ha⟩ := h
    exact ⟨ps, e, ht, fun p cv hc => let ⟨c, e1, e2⟩ := ha p cv hc; ⟨c, e1, l.h _ _ e2⟩⟩
/-- one step on: all that is tracked stands, but streams may change; what is settled now was settled or is new -/
structure Gs (u v : Wd) : Prop where
  a : Ex u.H0 v.H0
  b : ∀ x o, ¬ u.S x → u.H1 x = some o → v.H1 x = some o
  b' : ∀ x, u.H1 x ≠ none → v.H1 x ≠ none
  c : Ex v.H0 v.H1
  n : ∀ x, u.H0 x = none → v.H0 x ≠ none → u.H1 x = none
  sub : ∀ x, u.S x → v.S x
  kd : ∀ x, u.S x → v.T x = u.T x
  new : ∀ x, v.S x → u.S x ∨ u.H1 x = none
  le : u.n ≤ v.n
theorem Gs.ls (g : Gs u v') : Le u v' := ⟨g.sub, g.kd, g.a⟩
theorem Gs.refl (e : Ex u.H0 u.H1) : Gs u u := ⟨.refl _, fun _ _ _ h => h, fun _ h => h, e, fun _ h h' => absurd h h', fun _ h => h, fun _ _ => rfl, fun _ h => .inl h, Nat.le_refl _⟩
theorem Gs.trans (g : Gs u u') (k : Gs u' u'') : Gs u u'' :=
  ⟨g.a.trans k.a, fun x o s h => k.b x o (fun s' => (g.new x s').elim s (fun z => by rw [z] at h; cases h)) (g.b x o s h), fun x h => k.b' x (g.b' x h), k.c, fun x h h' => by
    cases e : u'.H0 x with
    | none =>
      have z := k.n x e h'
      cases q : u.H1 x with
      | none => rfl
      | some o => exact absurd z (g.b' x (by rw [q]; simp))
    | some o => exact g.n x h (by rw [e]; simp), fun x h => k.sub x (g.sub x h), fun x h => (k.kd x (g.sub x h)).trans (g.kd x h), fun x h => by
    rcases k.new x h with h | h
    · exact g.new x h
    · refine .inr ?_
      cases q : u.H1 x with
      | none => rfl
      | some o => exact absurd h (g.b' x (by rw [q]; simp)), Nat.le_trans g.le k.le⟩
/-- the same world with a new object p, settled -/
abbrev Wd.put (u : Wd) (p : Addr) (o : HO) : Wd := ⟨u.S, u.T, u.n, upd u.H0 p o, upd u.H1 p o⟩
/-- streams stand as told -/
structure StOk (K : PySem.W.Frag) [Tb K] (u : Wd) : Prop where
  at_ : ∀ a, u.S a → u.H0 a = none ∧ ∃ o, u.H1 a = some o ∧ SO K u (u.T a) o
  tb : ∀ p ∈ Tb.tb K, u.S p.1 ∧ u.T p.1 = .tbl p.2
  on : ∀ a q, u.S a → u.T a = .tbl q → (a, q) ∈ Tb.tb K
instance : CoeFun (StOk K u) (fun _ => ∀ a, u.S a → u.H0 a = none ∧ ∃ o, u.H1 a = some o ∧ SO K u (u.T a) o) := ⟨StOk.at_⟩
theorem Gs.put (e : Ex u.H0 u.H1) {p : Addr} {o : HO} (h : u.H1 p = none) : Gs u (u.put p o) :=
  ⟨ex_new (ex_none e h), fun x w _ hx => (ex_new h) x w hx, fun x hx => by
      show upd u.H1 p o x ≠ none
      by_cases q : x = p
      · subst q; rw [upd_same]; simp
      · rw [upd_ne q]; exact hx, fun x w (hx : upd u.H0 p o x = some w) => by
      show upd u.H1 p o x = some w
      by_cases q : x = p
      · subst q; rw [upd_same] at hx ⊢; exact hx
      · rw [upd_ne q] at hx ⊢; exact e x w hx, fun x h0 (h1 : upd u.H0 p o x ≠ none) => by
      by_cases q : x = p
      · subst q; exact h
      · rw [upd_ne q] at h1; exact absurd h0 h1, fun _ h => h, fun _ _ => rfl, fun _ h => .inl h, Nat.le_refl _⟩
theorem StOk.put (e : Ex u.H0 u.H1) (s : StOk K u) {p : Addr} {o : HO} (h : u.H1 p = none) : StOk K (u.put p o) := by
  refine ⟨fun a ha => ?_, s.tb, s.on⟩
  obtain ⟨h0, w, h1, hs⟩ := s a ha
  have q : a ≠ p := fun q => by rw [q, h] at h1; cases h1
  exact ⟨(upd_ne q).trans h0, w, (upd_ne q).trans h1, hs.mono ⟨fun _ h => h, fun _ _ => rfl, (Gs.put e h).a⟩ (Nat.le_refl _)⟩
/-- more settled: an object that was not, and is no stream -/
theorem Gs.settle {b : Wd} (g : Gs b u) {p : Addr} {o : HO} (hb : b.H1 p = none) (h0 : u.H0 p = none) (h1 : u.H1 p = some o) : Gs b ⟨u.S, u.T, u.n, upd u.H0 p o, u.H1⟩ :=
  ⟨g.a.trans (ex_new h0), g.b, g.b', fun x w (hx : upd u.H0 p o x = some w) => by
      show u.H1 x = some w
      by_cases q : x = p
      · subst q; rw [upd_same] at hx; rw [h1]; exact hx
      · rw [upd_ne q] at hx; exact g.c x w hx, fun x h (h' : upd u.H0 p o x ≠ none) => by
      by_cases q : x = p
      · subst q; exact hb
      · rw [upd_ne q] at h'; exact g.n x h h', g.sub, g.kd, g.new, g.le⟩
theorem StOk.settle (s : StOk K u) {p : Addr} {o : HO} (h0' : u.H0 p = none) (n : ¬ u.S p) : StOk K ⟨u.S, u.T, u.n, upd u.H0 p o, u.H1⟩ := by
  refine ⟨fun a ha => ?_, s.tb, s.on⟩
  obtain ⟨h0, w, h1, hs⟩ := s a ha
  have q : a ≠ p := fun q => n (q ▸ ha)
  exact ⟨(upd_ne q).trans h0, w, h1, hs.mono ⟨fun _ h => h, fun _ _ => rfl, ex_new h0'⟩ (Nat.le_refl _)⟩
/-- an object that is not settled changes -/
theorem Gs.write {b : Wd} (g : Gs b u) {p : Addr} {o : HO} (hb : b.H1 p = none) (h0 : u.H0 p = none) : Gs b ⟨u.S, u.T, u.n, u.H0, upd u.H1 p o⟩ :=
  ⟨g.a, fun x w s hx => by
      show upd u.H1 p o x = some w
      have q : x ≠ p := fun q => by rw [q, hb] at hx; cases hx
      rw [upd_ne q]; exact g.b x w s hx, fun x hx => by
      show upd u.H1 p o x ≠ none
      by_cases q : x = p
      · subst q; rw [upd_same]; simp
      · rw [upd_ne q]; exact g.b' x hx, fun x w hx => by
      show upd u.H1 p o x = some w
      have q : x ≠ p := fun q => by rw [q, h0] at hx; cases hx
      rw [upd_ne q]; exact g.c x w hx, g.n, g.sub, g.kd, g.new, g.le⟩
theorem StOk.write (s : StOk K u) {p : Addr} {o : HO} (n : ¬ u.S p) : StOk K ⟨u.S, u.T, u.n, u.H0, upd u.H1 p o⟩ := by
  refine ⟨fun a ha => ?_, s.tb, s.on⟩
  obtain ⟨h0, w, h1, hs⟩ := s a ha
  have q : a ≠ p := fun q => n (q ▸ ha)
  exact ⟨h0, w, (upd_ne q).trans h1, hs.mono ⟨fun _ h => h, fun _ _ => rfl, .refl _⟩ (Nat.le_refl _)⟩
end
end DL

namespace DL
open PySem L2
section
variable {K : PySem.W.Frag} [Tb K] {Z : ZX} {b u u' u'' : Wd}
/-- whether a thing stands in a slot alone, still being made -/
def isMut : D → Bool
  | .mls _ | .mob _ _ _ _ | .mdk _ => true
  | _ => false
/-- what a slot holds -/
inductive DenS (K : PySem.W.Frag) (b u : Wd) : V → D → Prop
  | den {v : V} {d : D} : Den K u v d → DenS K b u v d
  | mls {a : Addr} {xs : List V} {ds : List D} : b.H1 a = none → u.H0 a = none → ¬ u.S a → u.H1 a = some (.lst xs) → Dens K u xs ds → DenS K b u (.ref a) (.mls ds)
  | mob {a C dx : Addr} {fs : List (Str × V)} {gs : List (Str × D)} : b.H1 a = none → u.H0 a = none → ¬ u.S a → u.H1 a = some (.ins C dx fs) → u.H1 dx = some (.own a) → ¬ u.S dx → DenF K u fs gs → DenS K b u (.ref a) (.mob a dx C gs)
  | mdk {a : Addr} {kvs : List (Key × V)} {gs : List (Key × D)} : b.H1 a = none → u.H0 a = none → ¬ u.S a → u.H1 a = some (.dK kvs) → DenK K u kvs gs → DenS K b u (.ref a) (.mdk gs)
theorem Den.notMut {v : V} {d : D} (h : Den K u v d) : isMut d = false := by
  cases h <;> rfl
theorem DenS.imm {v : V} {d : D} (h : DenS K b u v d) (i : isMut d = false) : Den K u v d := by
  cases h with
  | den h => exact h
  | mls => cases i
  | mob => cases i
  | mdk => cases i
theorem Gs.nn (g : Gs u u') {a : Addr} {o : HO} (e0 : u.H0 a = none) (e1 : u.H1 a = some o) : u'.H0 a = none := by
  cases q : u'.H0 a with
  | none => rfl
  | some w =>
    have z := g.n a e0 (by rw [q]; simp)
    rw [z] at e1; cases e1
theorem Gs.ns (g : Gs u u') {a : Addr} {o : HO} (e0 : ¬ u.S a) (e1 : u.H1 a = some o) : ¬ u'.S a := fun h => by
  rcases g.new a h with h | h
  · exact e0 h
  · rw [h] at e1; cases e1
theorem DenS.mono {v : V} {d : D} (g : Gs u u') (h : DenS K b u v d) : DenS K b u' v d := by
  cases h with
  | den h => exact .den (h.mono g.ls)
  | mls hb h0 hs h1 r => exact .mls hb (g.nn h0 h1) (g.ns hs h1) (g.b _ _ hs h1) (r.mono g.ls)
  | mob hb h0 hs h1 h2 hx r => exact .mob hb (g.nn h0 h1) (g.ns hs h1) (g.b _ _ hs h1) (g.b _ _ hx h2) (g.ns hx h2) (r.mono g.ls)
  | mdk hb h0 hs h1 r => exact .mdk hb (g.nn h0 h1) (g.ns hs h1) (g.b _ _ hs h1) (r.mono g.ls)
/-- where exceptions go, and what is told of them: class, fields, the bound of the streams -/
structure ZX where
  E : XK
  X : Addr → List (Str × D) → Nat → Prop
/-- an exception that flies: of the class C, with these fields -/
def DenE (K : PySem.W.Frag) [Tb K] (u : Wd) (cls : Value) (d : Option Addr) (C : Addr) (fs : List (Str × D)) : Prop :=
  cls = .ref C ∧ ((d = none ∧ fs = []) ∨ ∃ dx vs, d = some dx ∧ u.H0 dx = some (.xd vs) ∧ DenF K u vs fs)
def XOk (K : PySem.W.Frag) [Tb K] (Z : ZX) (b : Wd) : Prop := ∀ cls d C fs u', Gs b u' → StOk K u' → DenE K u' cls d C fs → Z.X C fs u'.n → Z.E cls d u'.H1
abbrev DS := List (Option D)
/-- the slots, told by data; b: the world that the def was handed -/
structure Sd (K : PySem.W.Frag) [Tb K] (Z : ZX) (b u : Wd) (σ : St) (ds : DS) : Prop where
  gr : Gs b u
  xk : XOk K Z b
  st : StOk K u
  len : σ.length = ds.length
  sl : ∀ (i : Nat) (d : D), ds[i]? = some (some d) → ∃ v, σ[i]? = some (some v) ∧ DenS K b u v d
  ap : ∀ (i j : Nat) (d e : D) (a c : Addr), ds[i]? = some (some d) → ds[j]? = some (some e) → isMut d = true → isMut e = true → i ≠ j → σ[i]? = some (some (.ref a)) → σ[j]? = some (some (.ref c)) → a ≠ c
variable {σ : St} {ds : DS}
theorem Sd.ex (S : Sd K Z b u σ ds) : Ex u.H0 u.H1 := S.gr.c
theorem Sd.go (S : Sd K Z b u σ ds) (g : Gs u u') (s : StOk K u') : Sd K Z b u' σ ds :=
  ⟨S.gr.trans g, S.xk, s, S.len, fun i d e => let ⟨v, h1, h2⟩ := S.sl i d e; ⟨v, h1, h2.mono g⟩, S.ap⟩
theorem get_set {α : Type} (l : List α) (i j : Nat) (x : α) : (l.set i x)[j]? = if i = j then (if i < l.length then some x else none) else l[j]? := by
  rw [List.getElem?_set]
/-- a value stored -/
theorem Sd.set {i : Nat} {v : V} {d : D} (S : Sd K Z b u σ ds) (h : Den K u v d) : Sd K Z b u (σ.set i (some v)) (ds.set i (some d)) := by
  refine ⟨S.gr, S.xk, S.st, by simp [S.len], fun j e q => ?_, fun j k e f a b h1 h2 m1 m2 ne q1 q2 => ?_⟩
  · by_cases q' : i = j
    · subst q'
      rw [get_set] at q
      by_cases hl : i < ds.length
      · simp [hl] at q
        subst q
        exact ⟨v, by simp [get_set, S.len, hl], .den h⟩
      · simp [hl] at q
    · rw [get_set, if_neg q'] at q
      obtain ⟨w, h1, h2⟩ := S.sl j e q
      exact ⟨w, by rw [get_set, if_neg q']; exact h1, h2⟩
  · have nd := h.notMut
    have k1 : i ≠ j := fun z => by
      subst z
      rw [get_set] at h1
      by_cases hl : i < ds.length
      · simp [hl] at h1; subst h1; rw [nd] at m1; cases m1
      · simp [hl] at h1
    have k2 : i ≠ k := fun z => by
      subst z
      rw [get_set] at h2
      by_cases hl : i < ds.length
      · simp [hl] at h2; subst h2; rw [nd] at m2; cases m2
      · simp [hl] at h2
    rw [get_set, if_neg k1] at h1 q1
    rw [get_set, if_neg k2] at h2 q2
    exact S.ap j k e f a b h1 h2 m1 m2 ne q1 q2

/-! ### judgements: P of what comes out, and of the bound of the streams behind -/
def We (K : PySem.W.Frag) [Tb K] (Z : ZX) (te : TE) (ds : DS) (n : Nat) (P : D → Nat → Prop) : Prop :=
  ∀ (b u : Wd) (σ : St) (Q : VK), u.n = n → Sd K Z b u σ ds → (∀ v d u', Gs u u' → StOk K u' → Den K u' v d → P d u'.n → Q v u'.H1) → te σ u.H1 Q
def Wt (K : PySem.W.Frag) [Tb K] (Z : ZX) (tt : TT) (ds : DS) (n : Nat) (P : Bool → Nat → Prop) : Prop :=
  ∀ (b u : Wd) (σ : St) (Q : Bool → Hp → Prop), u.n = n → Sd K Z b u σ ds → (∀ c u', Gs u u' → StOk K u' → P c u'.n → Q c u'.H1) → tt σ u.H1 Q
def Wa (K : PySem.W.Frag) [Tb K] (Z : ZX) (ta : TA) (ds : DS) (n : Nat) (P : List D → Nat → Prop) : Prop :=
  ∀ (b u : Wd) (σ : St) (Q : List V → Hp → Prop), u.n = n → Sd K Z b u σ ds → (∀ vs xs u', Gs u u' → StOk K u' → Dens K u' vs xs → P xs u'.n → Q vs u'.H1) → ta σ u.H1 Q
def Wo (K : PySem.W.Frag) [Tb K] (Z : ZX) (to : TO) (ds : DS) (n : Nat) (P : Option Int → Nat → Prop) : Prop :=
  ∀ (b u : Wd) (σ : St) (Q : Option Int → Hp → Prop), u.n = n → Sd K Z b u σ ds → (∀ c u', Gs u u' → StOk K u' → P c u'.n → Q c u'.H1) → to σ u.H1 Q
structure Nd where
  nx : DS → Nat → Prop
  rt : D → Nat → Prop
  bk : DS → Nat → Prop := fun _ _ => False
  ct : DS → Nat → Prop := fun _ _ => False
/-- the ends of a statement at the heaps, where the ends at the data are N; s: where it began -/
structure EndsOk (K : PySem.W.Frag) [Tb K] (Z : ZX) (b s : Wd) (De : Ends) (N : Nd) : Prop where
  nx : ∀ ds u σ, Le s u → Sd K Z b u σ ds → N.nx ds u.n → De.nx σ u.H1
  rt : ∀ d v u, Gs b u → StOk K u → Den K u v d → N.rt d u.n → De.rt v u.H1
  bk : ∀ ds u σ, Le s u → Sd K Z b u σ ds → N.bk ds u.n → De.bk σ u.H1
  ct : ∀ ds u σ, Le s u → Sd K Z b u σ ds → N.ct ds u.n → De.ct σ u.H1
theorem EndsOk.mono {s s' : Wd} {De : Ends} {N : Nd} (O : EndsOk K Z b s De N) (e : Le s s') : EndsOk K Z b s' De N :=
  ⟨fun ds u σ x => O.nx ds u σ (e.trans x), O.rt, fun ds u σ x => O.bk ds u σ (e.trans x), fun ds u σ x => O.ct ds u σ (e.trans x)⟩
def Ws (K : PySem.W.Frag) [Tb K] (Z : ZX) (ts : TS) (ds : DS) (n : Nat) (N : Nd) : Prop :=
  ∀ (b u : Wd) (σ : St) (De : Ends), u.n = n → Sd K Z b u σ ds → EndsOk K Z b u De N → ts De σ u.H1
/-- a target: x is stored -/
def Wg (K : PySem.W.Frag) [Tb K] (Z : ZX) (g : TG) (x : D) (ds : DS) (P : DS → Prop) : Prop :=
  ∀ (b u : Wd) (σ : St) (v : V) (Q : St → Hp → Prop), Sd K Z b u σ ds → Den K u v x → (∀ ds' σ', Sd K Z b u σ' ds' → P ds' → Q σ' u.H1) → g v σ u.H1 Q
def Wgs (K : PySem.W.Frag) [Tb K] (Z : ZX) (g : TGs) (xs : List D) (ds : DS) (P : DS → Prop) : Prop :=
  ∀ (b u : Wd) (σ : St) (vs : List V) (Q : St → Hp → Prop), Sd K Z b u σ ds → Dens K u vs xs → (∀ ds' σ', Sd K Z b u σ' ds' → P ds' → Q σ' u.H1) → g vs σ u.H1 Q

/-! ### expressions -/
variable {n : Nat} {P : D → Nat → Prop} {te ta tb tc : TE} {N : Nd}
theorem We.imp {P' : D → Nat → Prop} (h : We K Z te ds n P) (i : ∀ d m, P d m → P' d m) : We K Z te ds n P' := fun b u σ Q e S k => h b u σ Q e S fun v d u' g s r p => k v d u' g s r (i d _ p)
theorem we_here {v : V} {d : D} (hd : ∀ u, Den K u v d) (p : P d n) : We K Z (tC v) ds n P := fun b u σ Q e S k => k _ d u (.refl S.ex) S.st (hd u) (e ▸ p)
theorem we_var {i : Nat} {d : D} (h : ds[i]? = some (some d)) (m : isMut d = false) (p : P d n) : We K Z (tVar i) ds n P := fun b u σ Q e S k => by
  obtain ⟨v, h1, h2⟩ := S.sl i d h
  exact ⟨v, h1, k v d u (.refl S.ex) S.st (h2.imm m) (e ▸ p)⟩
theorem we_int {i : Int} (p : P (.int i) n) : We K Z (tC (.int i)) ds n P := we_here (fun _ => .int i) p
theorem we_bl {i : Bool} (p : P (.bl i) n) : We K Z (tC (.bl i)) ds n P := we_here (fun _ => .bl i) p
theorem we_non (p : P .non n) : We K Z (tC .non) ds n P := we_here (fun _ => .non) p
theorem we_str {x : Str} (p : P (.str x) n) : We K Z (tC (.str x)) ds n P := we_here (fun _ => .str x) p
theorem we_ty {x : String} (p : P (.ty x) n) : We K Z (tC (.ty x)) ds n P := we_here (fun _ => .ty x) p
theorem we_cls {x : Addr} (p : P (.cls x) n) : We K Z (tC (.ref x)) ds n P := we_here (fun _ => .cls x) p
/-- pure growth -/
structure Gp (K : PySem.W.Frag) [Tb K] (u v : Wd) : Prop where
  g : Gs u v
  st : StOk K u → StOk K v
  n : v.n = u.n
theorem Gp.refl (e : Ex u.H0 u.H1) : Gp K u u := ⟨.refl e, fun h => h, rfl⟩
theorem Gp.put (e : Ex u.H0 u.H1) {p : Addr} {o : HO} (h : u.H1 p = none) : Gp K u (u.put p o) := ⟨.put e h, fun s => s.put e h, rfl⟩
theorem Gp.trans (g : Gp K u u') (k : Gp K u' u'') : Gp K u u'' := ⟨g.g.trans k.g, fun s => k.st (g.st s), k.n.trans g.n⟩
/-- an operator on data -/
def Op (K : PySem.W.Frag) [Tb K] (r : R2) (x y : D) (P : D → Prop) : Prop :=
  ∀ (u : Wd) (v w : V) (Q : VK), Ex u.H0 u.H1 → StOk K u → Den K u v x → Den K u w y → (∀ z d u', Gp K u u' → Den K u' z d → P d → Q z u'.H1) → r v w u.H1 Q
theorem we_op {r : R2} (h : We K Z ta ds n fun x m => We K Z tb ds m fun y k => Op K r x y fun z => P z k) : We K Z (tOp r ta tb) ds n P := fun b u σ Q e S k =>
  h b u σ _ e S fun v x u1 g1 s1 d1 h2 => h2 b u1 σ _ rfl (S.go g1 s1) fun w y u2 g2 s2 d2 h3 => h3 u2 v w Q g2.c s2 (d1.mono g2.ls) d2 fun z d u3 g3 d3 p => k z d u3 ((g1.trans g2).trans g3.g) (g3.st s2) d3 (g3.n ▸ p)
def Un (K : PySem.W.Frag) [Tb K] (r : V → Hp → VK → Prop) (x : D) (P : D → Prop) : Prop :=
  ∀ (u : Wd) (v : V) (Q : VK), Ex u.H0 u.H1 → Den K u v x → (∀ z d u', Gp K u u' → Den K u' z d → P d → Q z u'.H1) → r v u.H1 Q
theorem we_un {r : V → Hp → VK → Prop} (h : We K Z ta ds n fun x m => Un K r x fun z => P z m) : We K Z (tUn r ta) ds n P := fun b u σ Q e S k =>
  h b u σ _ e S fun v x u1 g1 s1 d1 h2 => h2 u1 v Q g1.c d1 fun z d u3 g3 d3 p => k z d u3 (g1.trans g3.g) (g3.st s1) d3 (g3.n ▸ p)
theorem wa_nil {P : List D → Nat → Prop} (p : P [] n) : Wa K Z tNil ds n P := fun b u σ Q e S k => k _ [] u (.refl S.ex) S.st .nil (e ▸ p)
theorem wa_cons {P : List D → Nat → Prop} {tr : TA} (h : We K Z ta ds n fun x m => Wa K Z tr ds m fun xs k => P (x :: xs) k) : Wa K Z (tCons ta tr) ds n P := fun b u σ Q e S k =>
  h b u σ _ e S fun v x u1 g1 s1 d1 h2 => h2 b u1 σ _ rfl (S.go g1 s1) fun vs xs u2 g2 s2 d2 p => k (v :: vs) (x :: xs) u2 (g1.trans g2) s2 (.cons (d1.mono g2.ls) d2) p
/-- what a call of a built-in gives -/
def Cb (K : PySem.W.Frag) [Tb K] (r : List V → Hp → VK → Prop) (xs : List D) (P : D → Prop) : Prop :=
  ∀ (u : Wd) (vs : List V) (Q : VK), Ex u.H0 u.H1 → Dens K u vs xs → (∀ z d u', Gp K u u' → Den K u' z d → P d → Q z u'.H1) → r vs u.H1 Q
theorem we_cb {r : List V → Hp → VK → Prop} {t : TA} (h : Wa K Z t ds n fun xs m => Cb K r xs fun z => P z m) : We K Z (tCB r t) ds n P := fun b u σ Q e S k =>
  h b u σ _ e S fun vs xs u1 g1 s1 d1 h2 => h2 u1 vs Q g1.c d1 fun z d u3 g3 d3 p => k z d u3 (g1.trans g3.g) (g3.st s1) d3 (g3.n ▸ p)
theorem sz100 {n : Nat} (h : n ≤ 1000000) : n ≤ sizeLine := Nat.le_trans h (by decide)
theorem we_tup {t : TA} (h : Wa K Z t ds n fun xs m => xs.length ≤ 1000000 ∧ P (.tup xs) m) : We K Z (tTup t) ds n P := fun b u σ Q e S k =>
  h b u σ _ e S fun vs xs u1 g1 s1 d1 h2 => ⟨by rw [d1.len]; exact sz100 h2.1, fun p hp => k _ _ (u1.put p _) (g1.trans (.put g1.c hp)) (s1.put g1.c hp) (.tup (SqT.of upd_same) (d1.mono (Gs.put g1.c hp).ls)) h2.2⟩
theorem we_lst {t : TA} (h : Wa K Z t ds n fun xs m => xs.length ≤ 1000000 ∧ P (.lst xs) m) : We K Z (tLst t) ds n P := fun b u σ Q e S k =>
  h b u σ _ e S fun vs xs u1 g1 s1 d1 h2 => ⟨by rw [d1.len]; exact sz100 h2.1, fun p hp => k _ _ (u1.put p _) (g1.trans (.put g1.c hp)) (s1.put g1.c hp) (.lst (SqL.of upd_same) (d1.mono (Gs.put g1.c hp).ls)) h2.2⟩
/-! ### tests -/
theorem wt_test {P : Bool → Nat → Prop} (h : We K Z te ds n fun d m => ∃ c, d = .bl c ∧ P c m) : Wt K Z (tTest te) ds n P := fun b u σ Q e S k =>
  h b u σ _ e S fun v d u1 g1 s1 d1 ⟨c, q, p⟩ => by
    subst q
    cases den_bl d1
    exact ⟨c, rfl, k c u1 g1 s1 p⟩
theorem wt_B {P : Bool → Nat → Prop} (h : We K Z te ds n fun d m => ∃ c, d = .bl c ∧ P c m) : Wt K Z (tB te) ds n P := fun b u σ Q e S k =>
  h b u σ _ e S fun v d u1 g1 s1 d1 ⟨c, q, p⟩ => by
    subst q
    cases den_bl d1
    exact ⟨c, rfl, k c u1 g1 s1 p⟩
theorem wt_yes {P : Bool → Nat → Prop} (p : P true n) : Wt K Z tYes ds n P := fun b u σ Q e S k => k true u (.refl S.ex) S.st (e ▸ p)
variable {tt tu : TT}
theorem wt_and {P : Bool → Nat → Prop} (h : Wt K Z tt ds n fun c m => if c = true then Wt K Z tu ds m P else P false m) : Wt K Z (tAnd tt tu) ds n P := fun b u σ Q e S k =>
  h b u σ _ e S fun c u1 g1 s1 q => by
    cases c with
    | true => exact q b u1 σ Q rfl (S.go g1 s1) fun c u2 g2 s2 p => k c u2 (g1.trans g2) s2 p
    | false => exact k false u1 g1 s1 q
theorem wt_or {P : Bool → Nat → Prop} (h : Wt K Z tt ds n fun c m => if c = true then P true m else Wt K Z tu ds m P) : Wt K Z (tOr tt tu) ds n P := fun b u σ Q e S k =>
  h b u σ _ e S fun c u1 g1 s1 q => by
    cases c with
    | true => exact k true u1 g1 s1 q
    | false => exact q b u1 σ Q rfl (S.go g1 s1) fun c u2 g2 s2 p => k c u2 (g1.trans g2) s2 p
theorem wt_not {P : Bool → Nat → Prop} (h : Wt K Z tt ds n fun c m => P (!c) m) : Wt K Z (tNot tt) ds n P := fun b u σ Q e S k =>
  h b u σ _ e S fun c u1 g1 s1 q => k (!c) u1 g1 s1 q
theorem we_andV (h : We K Z ta ds n fun d m => ∃ c, d = .bl c ∧ if c = true then We K Z tb ds m P else P (.bl false) m) : We K Z (tAndV ta tb) ds n P := fun b u σ Q e S k =>
  h b u σ _ e S fun v d u1 g1 s1 d1 ⟨c, z, q⟩ => by
    subst z
    cases den_bl d1
    refine ⟨c, rfl, ?_⟩
    cases c with
    | true => exact q b u1 σ Q rfl (S.go g1 s1) fun v d u2 g2 s2 r p => k v d u2 (g1.trans g2) s2 r p
    | false => exact k _ _ u1 g1 s1 (.bl false) q
theorem we_orV (h : We K Z ta ds n fun d m => ∃ c, d = .bl c ∧ if c = true then P (.bl true) m else We K Z tb ds m P) : We K Z (tOrV ta tb) ds n P := fun b u σ Q e S k =>
  h b u σ _ e S fun v d u1 g1 s1 d1 ⟨c, z, q⟩ => by
    subst z
    cases den_bl d1
    refine ⟨c, rfl, ?_⟩
    cases c with
    | true => exact k _ _ u1 g1 s1 (.bl true) q
    | false => exact q b u1 σ Q rfl (S.go g1 s1) fun v d u2 g2 s2 r p => k v d u2 (g1.trans g2) s2 r p
theorem we_notV (h : We K Z ta ds n fun d m => ∃ c, d = .bl c ∧ P (.bl (!c)) m) : We K Z (tNotV ta) ds n P := fun b u σ Q e S k =>
  h b u σ _ e S fun v d u1 g1 s1 d1 ⟨c, z, q⟩ => by
    subst z
    cases den_bl d1
    exact ⟨c, rfl, k _ _ u1 g1 s1 (.bl (!c)) q⟩
theorem we_if (h : Wt K Z tt ds n fun c m => if c = true then We K Z ta ds m P else We K Z tb ds m P) : We K Z (tIf tt ta tb) ds n P := fun b u σ Q e S k =>
  h b u σ _ e S fun c u1 g1 s1 q => by
    cases c with
    | true => exact q b u1 σ Q rfl (S.go g1 s1) fun v d u2 g2 s2 r p => k v d u2 (g1.trans g2) s2 r p
    | false => exact q b u1 σ Q rfl (S.go g1 s1) fun v d u2 g2 s2 r p => k v d u2 (g1.trans g2) s2 r p
theorem wo_none {P : Option Int → Nat → Prop} (p : P none n) : Wo K Z tNoPart ds n P := fun b u σ Q e S k => k _ u (.refl S.ex) S.st (e ▸ p)
theorem wo_some {P : Option Int → Nat → Prop} (h : We K Z te ds n fun d m => ∃ i, d = .int i ∧ P (some i) m) : Wo K Z (tPart te) ds n P := fun b u σ Q e S k =>
  h b u σ _ e S fun v d u1 g1 s1 d1 ⟨i, z, q⟩ => by
    subst z
    cases den_int d1
    exact ⟨i, rfl, k _ u1 g1 s1 q⟩
def Sl (K : PySem.W.Frag) [Tb K] (r : V → Option Int → Option Int → Hp → VK → Prop) (x : D) (lo hi : Option Int) (P : D → Prop) : Prop :=
  ∀ (u : Wd) (v : V) (Q : VK), Ex u.H0 u.H1 → Den K u v x → (∀ z d u', Gp K u u' → Den K u' z d → P d → Q z u'.H1) → r v lo hi u.H1 Q
theorem we_sl {r : V → Option Int → Option Int → Hp → VK → Prop} {tl th : TO} (h : We K Z te ds n fun x m => Wo K Z tl ds m fun lo k => Wo K Z th ds k fun hi j => Sl K r x lo hi fun z => P z j) : We K Z (tSl r te tl th) ds n P := fun b u σ Q e S k =>
  h b u σ _ e S fun v x u1 g1 s1 d1 h1 => h1 b u1 σ _ rfl (S.go g1 s1) fun lo u2 g2 s2 h2 => h2 b u2 σ _ rfl ((S.go g1 s1).go g2 s2) fun hi u3 g3 s3 h3 =>
    h3 u3 v Q g3.c (d1.mono (g2.ls.trans g3.ls)) fun z d u4 g4 r p => k z d u4 (((g1.trans g2).trans g3).trans g4.g) (g4.st s3) r (g4.n ▸ p)
theorem we_fld {f : Str} (h : We K Z te ds n fun x m => ∃ C fs d, x = .obj C fs ∧ Cls K C ∧ NoAttr K C f ∧ fs.lookup f = some d ∧ P d m) : We K Z (tFld K te f) ds n P := fun b u σ Q e S k =>
  h b u σ _ e S fun v x u1 g1 s1 d1 ⟨C, fs, d, z, hc, hn, hl, p⟩ => by
    subst z
    obtain ⟨a, dx, fv, rfl, ha, hf⟩ := den_obj d1
    obtain ⟨w, h1, h2⟩ := hf.look hl
    exact ⟨_, _, _, _, w, rfl, g1.c _ _ ha, hc, hn, h1, k w d u1 g1 s1 h2 p⟩
theorem we_chain {r r' : R2} (h : We K Z ta ds n fun x m => We K Z tb ds m fun y k => Op K r x y fun z => ∃ c, z = .bl c ∧ if c = true then We K Z tc ds k fun w j => Op K r' y w fun z => P z j else P (.bl false) k) : We K Z (tChain r r' ta tb tc) ds n P := fun b u σ Q e S k =>
  h b u σ _ e S fun v x u1 g1 s1 d1 h1 => h1 b u1 σ _ rfl (S.go g1 s1) fun w y u2 g2 s2 d2 h2 => h2 u2 v w _ g2.c s2 (d1.mono g2.ls) d2 fun t z u3 g3 d3 ⟨c, q, p⟩ => by
    subst q
    cases den_bl d3
    refine ⟨c, rfl, ?_⟩
    cases c with
    | false => exact k _ _ u3 ((g1.trans g2).trans g3.g) (g3.st s2) (.bl false) (g3.n ▸ p)
    | true => exact p b u3 σ _ g3.n (((S.go g1 s1).go g2 s2).go g3.g (g3.st s2)) fun w' y' u4 g4 s4 d4 h4 => h4 u4 w w' Q g4.c s4 ((d2.mono g3.g.ls).mono g4.ls) d4 fun t d u5 g5 d5 p => k t d u5 ((((g1.trans g2).trans g3.g).trans g4).trans g5.g) (g5.st s4) d5 (g5.n ▸ p)
/-! ### statements -/
variable {ts t1 t2 : TS} {g : TG} {De : Ends}
theorem ws_next (p : N.nx ds n) : Ws K Z tNext ds n N := fun b u σ De e S O => O.nx _ u σ .refl S (e ▸ p)
theorem ws_seq (h : Ws K Z t1 ds n { N with nx := fun ds' m => Ws K Z t2 ds' m N }) : Ws K Z (tSeq t1 t2) ds n N := fun b u σ De e S O =>
  h b u σ _ e S ⟨fun ds' u' σ' x S' q => q b u' σ' De rfl S' (O.mono x), O.rt, O.bk, O.ct⟩
theorem ws_break (p : N.bk ds n) : Ws K Z tBreak ds n N := fun b u σ De e S O => O.bk _ u σ .refl S (e ▸ p)
theorem ws_cont (p : N.ct ds n) : Ws K Z tCont ds n N := fun b u σ De e S O => O.ct _ u σ .refl S (e ▸ p)
theorem ws_drop (h : We K Z te ds n fun _ m => N.nx ds m) : Ws K Z (tDrop te) ds n N := fun b u σ De e S O =>
  h b u σ _ e S fun v d u1 g1 s1 r p => O.nx _ u1 _ g1.ls (S.go g1 s1) p
theorem ws_ret (h : We K Z te ds n N.rt) : Ws K Z (tRet te) ds n N := fun b u σ De e S O =>
  h b u σ _ e S fun v d u1 g1 s1 r p => O.rt d v u1 (S.gr.trans g1) s1 r p
theorem ws_retN (h : N.rt .non n) : Ws K Z tRetN ds n N := fun b u σ De e S O => O.rt .non .non u S.gr S.st .non (e ▸ h)
theorem ws_if (h : Wt K Z tt ds n fun c m => if c = true then Ws K Z t1 ds m N else Ws K Z t2 ds m N) : Ws K Z (tIfS tt t1 t2) ds n N := fun b u σ De e S O =>
  h b u σ _ e S fun c u1 g1 s1 q => by
    cases c with
    | true => exact q b u1 σ De rfl (S.go g1 s1) (O.mono g1.ls)
    | false => exact q b u1 σ De rfl (S.go g1 s1) (O.mono g1.ls)
theorem ws_asg (h : We K Z te ds n fun d m => Wg K Z g d ds fun ds' => N.nx ds' m) : Ws K Z (tAsg te g) ds n N := fun b u σ De e S O =>
  h b u σ _ e S fun v d u1 g1 s1 r p => p b u1 σ v _ (S.go g1 s1) r fun ds' σ' S' q => O.nx _ u1 _ g1.ls S' q
theorem wg_name {i : Nat} {x : D} {P : DS → Prop} (p : P (ds.set i (some x))) : Wg K Z (gName i) x ds P := fun b u σ v Q S r k => k _ _ (S.set r) p
theorem wgs_nil {P : DS → Prop} {xs : List D} (e : xs = []) (p : P ds) : Wgs K Z gNil xs ds P := fun b u σ v Q S r k => by
  subst e
  cases r
  exact ⟨rfl, k _ _ S p⟩
theorem wgs_cons {P : DS → Prop} {x : D} {xs ys : List D} {gs : TGs} (e : ys = x :: xs) (h : Wg K Z g x ds fun ds' => Wgs K Z gs xs ds' P) : Wgs K Z (gCons g gs) ys ds P := fun b u σ v Q S r k => by
  subst e
  cases r with
  | cons r1 r2 =>
    rename_i v vs
    exact ⟨v, vs, rfl, h b u σ v _ S r1 fun ds' σ' S' q => q b u σ' vs _ S' r2 k⟩
theorem wg_tup {P : DS → Prop} {j : Nat} {x : D} {xs : List D} {gs : TGs} (e : x = .tup xs) (hn : xs.length = j) (h : Wgs K Z gs xs ds P) : Wg K Z (gTup K j gs) x ds P := fun b u σ v Q S r k => by
  subst e
  obtain ⟨a, vs, rfl, q, r2⟩ := den_tup r
  exact ⟨_, _, rfl, Evl.ex_t S.ex q, r2.len.trans hn, h b u σ _ Q S r2 k⟩
theorem ws_par {i j : Nat} {t : TA} (h : Wa K Z t ds n fun xs m => ∃ a c, xs = [a, c] ∧ N.nx ((ds.set i (some a)).set j (some c)) m) : Ws K Z (tPar i j t) ds n N := fun b u σ De e S O =>
  h b u σ _ e S fun vs xs u1 g1 s1 r ⟨a, c, z, p⟩ => by
    subst z
    obtain ⟨v, w, rfl, r1, r2⟩ := dens2 r
    exact ⟨v, w, rfl, O.nx _ u1 _ g1.ls (((S.go g1 s1).set r1).set r2) p⟩
theorem ws_par3 {i j l : Nat} {t : TA} (h : Wa K Z t ds n fun xs m => ∃ a c d, xs = [a, c, d] ∧ N.nx (((ds.set i (some a)).set j (some c)).set l (some d)) m) : Ws K Z (tPar3 i j l t) ds n N := fun b u σ De e S O =>
  h b u σ _ e S fun vs xs u1 g1 s1 r ⟨a, c, d, z, p⟩ => by
    subst z
    obtain ⟨v, w, y, rfl, r1, r2, r3⟩ := dens3 r
    exact ⟨v, w, y, rfl, O.nx _ u1 _ g1.ls ((((S.go g1 s1).set r1).set r2).set r3) p⟩
/-- a slot forgotten -/
theorem Sd.drop {i : Nat} {y : Option V} (S : Sd K Z b u σ ds) : Sd K Z b u (σ.set i y) (ds.set i none) := by
  refine ⟨S.gr, S.xk, S.st, by simp [S.len], fun j e q => ?_, fun j k e f a b h1 h2 m1 m2 ne q1 q2 => ?_⟩
  · by_cases q' : i = j
    · subst q'
      rw [get_set] at q
      by_cases hl : i < ds.length <;> simp [hl] at q
    · rw [get_set, if_neg q'] at q
      obtain ⟨w, h1, h2⟩ := S.sl j e q
      exact ⟨w, by rw [get_set, if_neg q']; exact h1, h2⟩
  · have k1 : i ≠ j := fun z => by
      subst z
      rw [get_set] at h1
      by_cases hl : i < ds.length <;> simp [hl] at h1
    have k2 : i ≠ k := fun z => by
      subst z
      rw [get_set] at h2
      by_cases hl : i < ds.length <;> simp [hl] at h2
    rw [get_set, if_neg k1] at h1 q1
    rw [get_set, if_neg k2] at h2 q2
    exact S.ap j k e f a b h1 h2 m1 m2 ne q1 q2
/-- a new list that the def goes on with -/
theorem Sd.setMls {i p : Nat} {vs : List V} {xs : List D} (S : Sd K Z b u σ ds) (hp : u.H1 p = none) (h : Dens K u vs xs) : Sd K Z b ⟨u.S, u.T, u.n, u.H0, upd u.H1 p (.lst vs)⟩ (σ.set i (some (.ref p))) (ds.set i (some (.mls xs))) := by
  have n0 : u.H0 p = none := ex_none S.ex hp
  have nb : b.H1 p = none := by
    cases q : b.H1 p with
    | none => rfl
    | some o => exact absurd hp (S.gr.b' p (by rw [q]; simp))
  have nS : ¬ u.S p := fun h => by
    obtain ⟨_, o, h1, _⟩ := S.st p h
    rw [hp] at h1; cases h1
  have l1 : Le u ⟨u.S, u.T, u.n, u.H0, upd u.H1 p (.lst vs)⟩ := ⟨fun _ h => h, fun _ _ => rfl, .refl _⟩
  have G1 : Gs u ⟨u.S, u.T, u.n, u.H0, upd u.H1 p (.lst vs)⟩ := ⟨.refl _, fun x w _ hx => ex_new hp x w hx, fun x hx => by
      show upd u.H1 p _ x ≠ none
      by_cases q : x = p
      · subst q; rw [upd_same]; simp
      · rw [upd_ne q]; exact hx, S.ex.trans (ex_new hp), fun _ a b => absurd a b, fun _ h => h, fun _ _ => rfl, fun _ h => .inl h, Nat.le_refl _⟩
  have T := S.go G1 (S.st.write nS)
  refine ⟨T.gr, T.xk, T.st, by simp [S.len], fun j e q => ?_, fun j k e f a b h1 h2 m1 m2 ne q1 q2 => ?_⟩
  · by_cases q' : i = j
    · subst q'
      rw [get_set] at q
      by_cases hl : i < ds.length
      · simp [hl] at q
        subst q
        exact ⟨.ref p, by simp [get_set, S.len, hl], .mls nb n0 nS upd_same (h.mono l1)⟩
      · simp [hl] at q
    · rw [get_set, if_neg q'] at q
      obtain ⟨w, h1, h2⟩ := T.sl j e q
      exact ⟨w, by rw [get_set, if_neg q']; exact h1, h2⟩
  · -- a place that was told before is not the new one
    have old : ∀ (j : Nat) (e : D) (a : Addr), ds[j]? = some (some e) → isMut e = true → σ[j]? = some (some (.ref a)) → a ≠ p := fun j e a h m q z => by
      subst z
      obtain ⟨w, h1, h2⟩ := S.sl j e h
      rw [q] at h1
      cases h1
      cases h2 with
      | den hh => rw [hh.notMut] at m; cases m
      | mls _ _ _ hh _ => rw [hp] at hh; cases hh
      | mob _ _ _ hh _ _ _ => rw [hp] at hh; cases hh
      | mdk _ _ _ hh _ => rw [hp] at hh; cases hh
    by_cases k1 : i = j
    · subst k1
      rw [get_set] at q1
      by_cases hl : i < σ.length
      · simp [hl] at q1
        subst q1
        rw [get_set, if_neg ne] at h2 q2
        exact fun z => old k f b h2 m2 q2 z.symm
      · simp [hl] at q1
    · rw [get_set, if_neg k1] at h1 q1
      by_cases k2 : i = k
      · subst k2
        rw [get_set] at q2
        by_cases hl : i < σ.length
        · simp [hl] at q2
          subst q2
          exact old j e a h1 m1 q1
        · simp [hl] at q2
      · rw [get_set, if_neg k2] at h2 q2
        exact S.ap j k e f a b h1 h2 m1 m2 ne q1 q2
theorem ws_newlist {i : Nat} {t : TA} (h : Wa K Z t ds n fun xs m => xs.length ≤ 1000000 ∧ N.nx (ds.set i (some (.mls xs))) m) : Ws K Z (tAsg (tLst t) (gName i)) ds n N := fun b u σ De e S O =>
  h b u σ _ e S fun vs xs u1 g1 s1 r h2 => ⟨by rw [r.len]; exact sz100 h2.1, fun p hp => O.nx _ ⟨u1.S, u1.T, u1.n, u1.H0, _⟩ _ ⟨g1.sub, g1.kd, g1.a⟩ ((S.go g1 s1).setMls hp r) h2.2⟩
/-- what a slot is making changes -/
theorem Sd.change {i : Nat} {a : Addr} {o : HO} {d d' : D} (S : Sd K Z b u σ ds) (hd : ds[i]? = some (some d)) (m : isMut d = true) (hs : σ[i]? = some (some (.ref a))) (m' : isMut d' = true) (hb : b.H1 a = none) (h0 : u.H0 a = none) (hS : ¬ u.S a)
    (hx' : ∀ x, u.H1 a ≠ some (.own x)) (new : DenS K b ⟨u.S, u.T, u.n, u.H0, upd u.H1 a o⟩ (.ref a) d') : Sd K Z b ⟨u.S, u.T, u.n, u.H0, upd u.H1 a o⟩ σ (ds.set i (some d')) := by
  have l1 : Le u ⟨u.S, u.T, u.n, u.H0, upd u.H1 a o⟩ := ⟨fun _ h => h, fun _ _ => rfl, .refl _⟩
  refine ⟨S.gr.write hb h0, S.xk, S.st.write hS, by simp [S.len], fun j e q => ?_, fun j k e f b c h1 h2 m1 m2 ne q1 q2 => ?_⟩
  · by_cases q' : i = j
    · subst q'
      have hl : i < ds.length := (List.getElem?_eq_some_iff.mp hd).1
      rw [get_set] at q
      simp [hl] at q
      subst q
      exact ⟨.ref a, hs, new⟩
    · rw [get_set, if_neg q'] at q
      obtain ⟨w, h1, h2⟩ := S.sl j e q
      refine ⟨w, h1, ?_⟩
      cases h2 with
      | den h => exact .den (h.mono l1)
      | mls b0 b1 b5 b2 b3 =>
        have z := S.ap i j _ _ _ _ hd q m rfl q' hs h1
        exact .mls b0 b1 b5 ((upd_ne z.symm).trans b2) (b3.mono l1)
      | mob b0 b1 b5 b2 b4 b6 b3 =>
        have z := S.ap i j _ _ _ _ hd q m rfl q' hs h1
        exact .mob b0 b1 b5 ((upd_ne z.symm).trans b2) ((upd_ne (fun z : _ = a => by rw [z] at b4; exact hx' _ b4)).trans b4) b6 (b3.mono l1)
      | mdk b0 b1 b5 b2 b3 =>
        have z := S.ap i j _ _ _ _ hd q m rfl q' hs h1
        exact .mdk b0 b1 b5 ((upd_ne z.symm).trans b2) (b3.mono l1)
  · have hl : i < ds.length := (List.getElem?_eq_some_iff.mp hd).1
    have at_ : ∀ (j : Nat) (e : D), (ds.set i (some d'))[j]? = some (some e) → isMut e = true → ∃ e', ds[j]? = some (some e') ∧ isMut e' = true := fun j e h m1 => by
      by_cases q : i = j
      · subst q; exact ⟨d, hd, m⟩
      · rw [get_set, if_neg q] at h; exact ⟨e, h, m1⟩
    obtain ⟨e', h1', m1'⟩ := at_ j e h1 m1
    obtain ⟨f', h2', m2'⟩ := at_ k f h2 m2
    exact S.ap j k e' f' b c h1' h2' m1' m2' ne q1 q2
/-- xs.append(e) -/
theorem ws_append {i : Nat} {xs : List D} (hd : ds[i]? = some (some (.mls xs))) (hz : xs.length < 1000000) (h : We K Z te ds n fun d m => N.nx (ds.set i (some (.mls (xs ++ [d])))) m) : Ws K Z (tDrop (tBM K "list" rAppend (tVar i) (tCons te tNil))) ds n N := fun b u σ De e S O => by
  obtain ⟨v, hv, hS⟩ := S.sl i _ hd
  cases hS with
  | den h => cases h
  | mls b0 b1 b5 b2 b3 =>
    rename_i a vs
    refine ⟨.ref a, hv, ⟨Or.inl ⟨rfl, vs, SqL.of b2⟩, h b u σ _ e S fun w d u1 g1 s1 r p => ?_⟩⟩
    have S' := S.go g1 s1
    obtain ⟨v', hv', hS'⟩ := S'.sl i _ hd
    rw [hv] at hv'
    cases hv'
    cases hS' with
    | den h => cases h
    | mls c0 c1 c5 c2 c3 =>
      have z : vs = _ := HO.lst.inj (Option.some.inj ((g1.b _ _ b5 b2).symm.trans c2))
      subst z
      have l1 : Le u1 ⟨u1.S, u1.T, u1.n, u1.H0, upd u1.H1 a (.lst (vs ++ [w]))⟩ := ⟨fun _ h => h, fun _ _ => rfl, .refl _⟩
      exact ⟨a, vs, w, rfl, rfl, c2, by rw [c3.len]; exact Nat.lt_of_lt_of_le hz (by decide), O.nx _ ⟨u1.S, u1.T, u1.n, u1.H0, _⟩ _ ⟨g1.sub, g1.kd, g1.a⟩ (S'.change hd rfl hv rfl c0 c1 c5 (fun _ z => by rw [c2] at z; cases z) (.mls c0 c1 c5 upd_same ((c3.app (.cons r .nil)).mono l1))) p⟩
/-- what a slot is making is done -/
theorem Sd.settle {i : Nat} {xs : List D} (S : Sd K Z b u σ ds) (hd : ds[i]? = some (some (.mls xs))) : ∃ u', Le u u' ∧ u'.n = u.n ∧ u'.H1 = u.H1 ∧ Sd K Z b u' σ (ds.set i (some (.lst xs))) := by
  obtain ⟨v, hv, hS⟩ := S.sl i _ hd
  cases hS with
  | den h => cases h
  | mls b0 b1 b5 b2 b3 =>
    rename_i a vs
    have l1 : Le u ⟨u.S, u.T, u.n, upd u.H0 a (.lst vs), u.H1⟩ := ⟨fun _ h => h, fun _ _ => rfl, ex_new b1⟩
    refine ⟨⟨u.S, u.T, u.n, upd u.H0 a (.lst vs), u.H1⟩, l1, rfl, rfl, S.gr.settle b0 b1 b2, S.xk, S.st.settle b1 b5, by simp [S.len], fun j e q => ?_, fun j k e f b c h1 h2 m1 m2 ne q1 q2 => ?_⟩
    · by_cases q' : i = j
      · subst q'
        have hl : i < ds.length := (List.getElem?_eq_some_iff.mp hd).1
        rw [get_set] at q
        simp [hl] at q
        subst q
        exact ⟨.ref a, hv, .den (.lst (SqL.of upd_same) (b3.mono l1))⟩
      · rw [get_set, if_neg q'] at q
        obtain ⟨w, h1, h2⟩ := S.sl j e q
        refine ⟨w, h1, ?_⟩
        cases h2 with
        | den h => exact .den (h.mono l1)
        | mls c0 c1 c5 c2 c3 => exact .mls c0 ((upd_ne (S.ap i j _ _ _ _ hd q rfl rfl q' hv h1).symm).trans c1) c5 c2 (c3.mono l1)
        | mob c0 c1 c5 c2 c4 c6 c3 => exact .mob c0 ((upd_ne (S.ap i j _ _ _ _ hd q rfl rfl q' hv h1).symm).trans c1) c5 c2 c4 c6 (c3.mono l1)
        | mdk c0 c1 c5 c2 c3 => exact .mdk c0 ((upd_ne (S.ap i j _ _ _ _ hd q rfl rfl q' hv h1).symm).trans c1) c5 c2 (c3.mono l1)
    · have hl : i < ds.length := (List.getElem?_eq_some_iff.mp hd).1
      have ni : ∀ (j : Nat) (e : D), (ds.set i (some (D.lst xs)))[j]? = some (some e) → isMut e = true → ds[j]? = some (some e) := fun j e h m => by
        by_cases q : i = j
        · subst q
          rw [get_set] at h
          simp [hl] at h
          subst h
          cases m
        · rw [get_set, if_neg q] at h; exact h
      exact S.ap j k e f b c (ni _ _ h1 m1) (ni _ _ h2 m2) m1 m2 ne q1 q2
theorem ws_settle {i : Nat} {xs : List D} (hd : ds[i]? = some (some (.mls xs))) (h : Ws K Z ts (ds.set i (some (.lst xs))) n N) : Ws K Z ts ds n N := fun b u σ De e S O => by
  obtain ⟨u', x, en, eh, S'⟩ := S.settle hd
  have := h b u' σ De (en.trans e) S' (O.mono x)
  rw [eh] at this
  exact this
theorem Ws.imp {N' : Nd} (h : Ws K Z ts ds n N) (h1 : ∀ d m, N.nx d m → N'.nx d m) (h2 : ∀ d m, N.rt d m → N'.rt d m) (h3 : ∀ d m, N.bk d m → N'.bk d m) (h4 : ∀ d m, N.ct d m → N'.ct d m) : Ws K Z ts ds n N' := fun b u σ De e S O =>
  h b u σ De e S ⟨fun ds u σ x S p => O.nx ds u σ x S (h1 _ _ p), fun d v u g s r p => O.rt d v u g s r (h2 _ _ p), fun ds u σ x S p => O.bk ds u σ x S (h3 _ _ p), fun ds u σ x S p => O.ct ds u σ x S (h4 _ _ p)⟩
end
end DL

namespace DL
open PySem L2 StX
open PyProof.Rows (envOfC)
section
variable {K : PySem.W.Frag} [Tb K] {Z : ZX} {b u u' u'' : Wd} {σ : L2.St} {ds : DS} {n : Nat} {P : D → Nat → Prop} {te ta tb tc : TE} {tt tu : TT} {N : Nd} {ts t1 t2 : TS} {g : TG} {De : Ends} {Pl : List D → Nat → Prop}
theorem ws_while (Iv : Nat → DS → Nat → Prop) (h0 : ∃ m, Iv m ds n) (hs : ∀ m ds' n', Iv m ds' n' → Wt K Z tt ds' n' fun c k => if c = true then Ws K Z ts ds' k { nx := fun d j => ∃ m', m' < m ∧ Iv m' d j, rt := N.rt, bk := N.nx, ct := fun d j => ∃ m', m' < m ∧ Iv m' d j } else N.nx ds' k) :
    Ws K Z (tWhile tt ts) ds n N := fun b u σ De e S O => by
  obtain ⟨m0, h0⟩ := h0
  refine ⟨fun m σ' H' => ∃ w ds', w.H1 = H' ∧ Le u w ∧ Sd K Z b w σ' ds' ∧ Iv m ds' w.n, ⟨m0, u, ds, rfl, .refl, S, e ▸ h0⟩, ?_⟩
  rintro m σ' H' ⟨w, ds', rfl, l, S', iv⟩
  refine hs m ds' w.n iv b w σ' _ rfl S' fun c u1 g1 s1 q => ?_
  cases c with
  | false => exact O.nx _ u1 _ (l.trans g1.ls) (S'.go g1 s1) q
  | true =>
    refine ⟨fun σ2 H2 => ∃ m', m' < m ∧ ∃ w ds', w.H1 = H2 ∧ Le u w ∧ Sd K Z b w σ2 ds' ∧ Iv m' ds' w.n, fun σ2 H2 q => q, ?_⟩
    refine q b u1 σ' _ rfl (S'.go g1 s1) ⟨?_, O.rt, ?_, ?_⟩
    · rintro ds3 u3 σ3 x S3 ⟨m', hm, q3⟩
      exact ⟨m', hm, u3, ds3, rfl, (l.trans g1.ls).trans x, S3, q3⟩
    · exact fun ds3 u3 σ3 x S3 q3 => O.nx _ u3 _ ((l.trans g1.ls).trans x) S3 q3
    · rintro ds3 u3 σ3 x S3 ⟨m', hm, q3⟩
      exact ⟨m', hm, u3, ds3, rfl, (l.trans g1.ls).trans x, S3, q3⟩
/-! ### what is walked gives the data xs -/
def Wi (K : PySem.W.Frag) [Tb K] (Z : ZX) (wi : TI) (ds : DS) (n : Nat) (P : List D → Nat → Prop) : Prop :=
  ∀ (b u : Wd) (σ : St) (R : It → Hp → Prop), u.n = n → Sd K Z b u σ ds → (∀ J xs u' G Y, Gs u u' → StOk K u' → P xs u'.n → Walk J xs.length G Y → (∀ w, Le u' w → Ex w.H0 w.H1 → G w.H1) →
    (∀ w i v A, Le u' w → Ex w.H0 w.H1 → StOk K w → i < xs.length → Y i w.H1 v A → ∃ x w', w'.H1 = A ∧ xs[i]? = some x ∧ Gp K w w' ∧ Den K w' v x) → R J u'.H1) → wi σ u.H1 R
theorem ws_for {wi : TI} {g : TG} {tb : TS} (h : Wi K Z wi ds n fun xs m => ∃ Iv : Nat → DS → Nat → Prop, Iv 0 ds m ∧
    (∀ i x ds' k, xs[i]? = some x → Iv i ds' k → Wg K Z g x ds' fun ds2 => Ws K Z tb ds2 k { nx := Iv (i + 1), rt := N.rt, bk := N.nx, ct := Iv (i + 1) }) ∧ (∀ ds' k, Iv xs.length ds' k → N.nx ds' k)) : Ws K Z (tFor wi g tb) ds n N := fun b u σ De e S O =>
  h b u σ _ e S fun J xs u1 G Y g1 s1 ⟨Iv, i0, is, idn⟩ w hG hY => by
    refine for_it w (fun i σ' H' => ∃ w ds', w.H1 = H' ∧ Le u1 w ∧ Sd K Z b w σ' ds' ∧ Iv i ds' w.n) ⟨u1, ds, rfl, .refl, S.go g1 s1, i0⟩ (fun i σ' H' _ ⟨w, ds', eh, l, S', _⟩ => eh ▸ hG w l S'.ex) ?_ ?_
    · rintro i v σ' H' H'' hi ⟨w, ds', rfl, l, S', iv⟩ y
      obtain ⟨x, w', rfl, hx, g2, r⟩ := hY w i v H'' l S'.ex S'.st hi y
      have q := is i x ds' w.n hx iv
      rw [← g2.n] at q
      refine q b w' σ' v _ (S'.go g2.g (g2.st S'.st)) r fun ds2 σ2 S2 q => q b w' σ2 _ rfl S2 ⟨fun ds3 u3 σ3 x S3 q3 => ⟨u3, ds3, rfl, (l.trans g2.g.ls).trans x, S3, q3⟩, O.rt, fun ds3 u3 σ3 x S3 q3 => O.nx _ u3 _ (g1.ls.trans ((l.trans g2.g.ls).trans x)) S3 q3, fun ds3 u3 σ3 x S3 q3 => ⟨u3, ds3, rfl, (l.trans g2.g.ls).trans x, S3, q3⟩⟩
    · rintro σ' H' ⟨w, ds', rfl, l, S', iv⟩
      exact O.nx _ w _ (g1.ls.trans l) S' (idn ds' _ iv)
theorem wi_list (h : We K Z te ds n fun d m => ∃ xs, d = .lst xs ∧ Pl xs m) : Wi K Z (iList K te) ds n Pl := fun b u σ R e S k =>
  h b u σ _ e S fun v d u1 g1 s1 r ⟨xs, z, p⟩ => by
    subst z
    obtain ⟨a, vs, rfl, q, r⟩ := den_lst r
    refine ⟨a, rfl, ⟨vs, Evl.ex_l g1.c q⟩, k _ xs u1 _ _ g1 s1 p (r.len ▸ walk_list (K := K) (a := a) (xs := vs)) (fun w l e => Evl.ex_l e (Evl.ex_l l.h q)) fun w i v A l e1 _ hi y => ?_⟩
    obtain ⟨rfl, y⟩ := y
    obtain ⟨z, hz, hd⟩ := r.get y
    exact ⟨z, w, rfl, hz, .refl e1, hd.mono l⟩
theorem wi_tup (h : We K Z te ds n fun d m => ∃ xs, d = .tup xs ∧ Pl xs m) : Wi K Z (iTup K te) ds n Pl := fun b u σ R e S k =>
  h b u σ _ e S fun v d u1 g1 s1 r ⟨xs, z, p⟩ => by
    subst z
    obtain ⟨a, vs, rfl, q, r⟩ := den_tup r
    refine ⟨a, rfl, ⟨vs, Evl.ex_t g1.c q⟩, k _ xs u1 _ _ g1 s1 p (r.len ▸ walk_tup (K := K) (a := a) (xs := vs)) (fun w l e => Evl.ex_t e (Evl.ex_t l.h q)) fun w i v A l e1 _ hi y => ?_⟩
    obtain ⟨rfl, y⟩ := y
    obtain ⟨z, hz, hd⟩ := r.get y
    exact ⟨z, w, rfl, hz, .refl e1, hd.mono l⟩
def rng (lo : Int) (n : Nat) : List D := (List.range n).map fun (i : Nat) => D.int (lo + (i : Int))
theorem rng_len (lo : Int) (n : Nat) : (rng lo n).length = n := by simp [rng]
theorem rng_get {lo : Int} {n i : Nat} (h : i < n) : (rng lo n)[i]? = some (.int (lo + i)) := by simp [rng, h]
theorem rng_get' {lo : Int} {n i : Nat} {x : D} (h : (rng lo n)[i]? = some x) : i < n ∧ x = .int (lo + i) := by
  have hl : i < n := by
    have := (List.getElem?_eq_some_iff.mp h).1
    simpa [rng_len] using this
  rw [rng_get hl] at h
  exact ⟨hl, (Option.some.inj h).symm⟩
theorem wi_rng {lo : Int} {n : Nat} {R : It → Hp → Prop} (g : Gs u u') (s : StOk K u') (p : Pl (rng lo n) u'.n) (k : ∀ J xs u' G Y, Gs u u' → StOk K u' → Pl xs u'.n → Walk J xs.length G Y → (∀ w, Le u' w → Ex w.H0 w.H1 → G w.H1) →
    (∀ w i v A, Le u' w → Ex w.H0 w.H1 → StOk K w → i < xs.length → Y i w.H1 v A → ∃ x w', w'.H1 = A ∧ xs[i]? = some x ∧ Gp K w w' ∧ Den K w' v x) → R J u'.H1) : R (Itr lo n) u'.H1 := by
  refine k _ (rng lo n) u' _ _ g s p (by rw [rng_len]; exact walk_range (lo := lo) (n := n)) (fun _ _ _ => trivial) fun w i v A l e1 _ hi y => ?_
  obtain ⟨rfl, rfl⟩ := y
  exact ⟨.int (lo + i), w, rfl, rng_get (by simpa [rng_len] using hi), .refl e1, .int _⟩
theorem wi_range1 {t : TA} (h : Wa K Z t ds n fun xs m => ∃ j : Int, xs = [.int j] ∧ (-(2 ^ 62) ≤ j ∧ j < 2 ^ 62) ∧ Pl (rng 0 j.toNat) m) : Wi K Z (iRng1 t) ds n Pl := fun b u σ R e S k =>
  h b u σ _ e S fun vs d u1 g1 s1 r ⟨j, z, ⟨b1, b2⟩, p⟩ => by
    subst z
    obtain ⟨v, rfl, r1⟩ := dens1 r
    cases den_int r1
    exact ⟨j, rfl, b1, b2, wi_rng g1 s1 p k⟩
theorem wi_range2 {t : TA} (h : Wa K Z t ds n fun xs m => ∃ i j : Int, xs = [.int i, .int j] ∧ (-(2 ^ 62) ≤ i ∧ i < 2 ^ 62 ∧ -(2 ^ 62) ≤ j ∧ j < 2 ^ 62) ∧ Pl (rng i (j - i).toNat) m) : Wi K Z (iRng2 t) ds n Pl := fun b u σ R e S k =>
  h b u σ _ e S fun vs d u1 g1 s1 r ⟨i, j, z, hb, p⟩ => by
    subst z
    obtain ⟨v, w, rfl, r1, r2⟩ := dens2 r
    cases den_int r1
    cases den_int r2
    exact ⟨i, j, rfl, hb, wi_rng g1 s1 p k⟩
def signs (z : Str) : List D := z.cps.toList.map fun c => D.str ⟨#[c]⟩
theorem signs_len (z : Str) : (signs z).length = z.cps.size := by simp [signs]
theorem wi_str (h : We K Z te ds n fun d m => ∃ z, d = .str z ∧ Pl (signs z) m) : Wi K Z (iStr te) ds n Pl := fun b u σ R e S k =>
  h b u σ _ e S fun v d u1 g1 s1 r ⟨z, hz, p⟩ => by
    subst hz
    cases den_str r
    refine ⟨z, rfl, k _ (signs z) u1 _ _ g1 s1 p ((signs_len z).symm ▸ walk_str (z := z)) (fun _ _ _ => trivial) fun w i v A l e1 _ hi y => ?_⟩
    obtain ⟨rfl, c, hc, rfl⟩ := y
    exact ⟨.str ⟨#[c]⟩, w, rfl, by simp [signs, hc], .refl e1, .str _⟩
def enumD (xs : List D) : List D := (List.range xs.length).zipWith (fun (i : Nat) x => D.tup [.int (i : Int), x]) xs
theorem enumD_len (xs : List D) : (enumD xs).length = xs.length := by simp [enumD]
theorem enumD_get {xs : List D} {i : Nat} {x : D} (h : xs[i]? = some x) : (enumD xs)[i]? = some (.tup [.int (i : Nat), x]) := by
  have hl := (List.getElem?_eq_some_iff.mp h).1
  simp only [enumD, List.getElem?_zipWith, h, List.getElem?_range hl]
/-- a new pair -/
theorem gp_pair {w : Wd} {T : Addr} {x y : V} {d e : D} (e1 : Ex w.H0 w.H1) (hT : w.H1 T = none) (hx : Den K w x d) (hy : Den K w y e) : Gp K w (w.put T (.tup [x, y])) ∧ Den K (w.put T (.tup [x, y])) (.ref T) (.tup [d, e]) :=
  ⟨.put e1 hT, .tup (SqT.of upd_same) (.cons (hx.mono (Gs.put e1 hT).ls) (.cons (hy.mono (Gs.put e1 hT).ls) .nil))⟩
theorem wi_enum {t : TA} (h : Wa K Z t ds n fun ys m => ∃ xs, ys = [.lst xs] ∧ Pl (enumD xs) m) : Wi K Z (iEnum K t) ds n Pl := fun b u σ R e S k =>
  h b u σ _ e S fun vs d u1 g1 s1 r ⟨xs, z, p⟩ => by
    subst z
    obtain ⟨v, rfl, r1⟩ := dens1 r
    clear r
    obtain ⟨a, ws, rfl, q, r⟩ := den_lst r1
    refine ⟨a, ws, rfl, Evl.ex_l g1.c q, k _ (enumD xs) u1 _ _ g1 s1 p (by rw [enumD_len, ← r.len]; exact walk_enum (K := K) (a := a) (xs := ws)) (fun w l e => Evl.ex_l e (Evl.ex_l l.h q)) fun w i v A l e1 _ hi y => ?_⟩
    obtain ⟨T, x, y, rfl, hT, rfl, hx, hy⟩ := y
    cases hx
    obtain ⟨z, hz, hd⟩ := r.get hy
    obtain ⟨g2, d2⟩ := gp_pair e1 hT (.int (i : Nat)) (hd.mono l)
    exact ⟨_, _, rfl, enumD_get hz, g2, d2⟩
def zipD (xs ys : List D) : List D := xs.zipWith (fun x y => D.tup [x, y]) ys
theorem wi_zip {t : TA} (h : Wa K Z t ds n fun zs m => ∃ xs ys, zs = [.lst xs, .lst ys] ∧ Pl (zipD xs ys) m) : Wi K Z (iZip K t) ds n Pl := fun b u σ R e S k =>
  h b u σ _ e S fun vs d u1 g1 s1 r ⟨xs, ys, z, p⟩ => by
    subst z
    obtain ⟨v, w, rfl, r1, r2⟩ := dens2 r
    clear r
    obtain ⟨a, ws, rfl, q, r⟩ := den_lst r1
    obtain ⟨a', ws', rfl, q', r'⟩ := den_lst r2
    refine ⟨a, a', ws, ws', rfl, Evl.ex_l g1.c q, Evl.ex_l g1.c q', k _ (zipD xs ys) u1 _ _ g1 s1 p (walk_zip (K := K) (a := a) (b := a') (xs := ws) (ys := ws') (by simp [zipD, r.len, r'.len])) (fun w l e => ⟨Evl.ex_l e (Evl.ex_l l.h q), Evl.ex_l e (Evl.ex_l l.h q')⟩) fun w i v A l e1 _ hi y => ?_⟩
    obtain ⟨T, x, y, rfl, hT, rfl, hx, hy⟩ := y
    obtain ⟨z, hz, hd⟩ := r.get hx
    obtain ⟨z', hz', hd'⟩ := r'.get hy
    obtain ⟨g2, d2⟩ := gp_pair e1 hT (hd.mono l) (hd'.mono l)
    exact ⟨_, _, rfl, by simp [zipD, List.getElem?_zipWith, hz, hz'], g2, d2⟩
/-! ### comprehensions -/
def wipeD (ds : DS) : List Nat → DS
  | [] => ds
  | v :: vs => (wipeD ds vs).set v none
theorem Sd.wipe (S : Sd K Z b u σ ds) : ∀ vs : List Nat, Sd K Z b u (L2.wipe σ vs) (wipeD ds vs)
  | [] => S
  | v :: vs => (Sd.wipe S vs).drop
theorem wipe_get (σ : St) (i : Nat) : ∀ vs : List Nat, (L2.wipe σ vs)[i]? = if i ∈ vs then (if i < σ.length then some none else none) else σ[i]?
  | [] => by simp [L2.wipe]
  | v :: vs => by
    show ((L2.wipe σ vs).set v none)[i]? = _
    rw [get_set, wipe_length, wipe_get σ i vs]
    by_cases h : v = i
    · subst h; simp
    · have h' : i ≠ v := fun z => h z.symm
      simp [h, h']
theorem wipe_of {σ σ' : St} {vs : List Nat} (hl : σ'.length = σ.length) (h : ∀ j, j ∉ vs → σ'[j]? = (L2.wipe σ vs)[j]?) : L2.wipe σ' vs = L2.wipe σ vs := by
  apply List.ext_getElem?
  intro i
  rw [wipe_get]
  by_cases q : i ∈ vs
  · rw [if_pos q, wipe_get, if_pos q, hl]
  · rw [if_neg q, h i q]
def Wgc (K : PySem.W.Frag) [Tb K] (Z : ZX) (g : TG) (js : List Nat) (x : D) (ds : DS) (P : DS → Prop) : Prop :=
  ∀ (b u : Wd) (σ : St) (v : V) (Q : St → Hp → Prop), Sd K Z b u σ ds → Den K u v x → (∀ ds' σ', Sd K Z b u σ' ds' → σ'.length = σ.length → (∀ j, j ∉ js → σ'[j]? = σ[j]?) → P ds' → Q σ' u.H1) → g v σ u.H1 Q
def Wgsc (K : PySem.W.Frag) [Tb K] (Z : ZX) (g : TGs) (js : List Nat) (xs : List D) (ds : DS) (P : DS → Prop) : Prop :=
  ∀ (b u : Wd) (σ : St) (vs : List V) (Q : St → Hp → Prop), Sd K Z b u σ ds → Dens K u vs xs → (∀ ds' σ', Sd K Z b u σ' ds' → σ'.length = σ.length → (∀ j, j ∉ js → σ'[j]? = σ[j]?) → P ds' → Q σ' u.H1) → g vs σ u.H1 Q
theorem wgc_name {i : Nat} {js : List Nat} {x : D} {P : DS → Prop} (hi : i ∈ js) (p : P (ds.set i (some x))) : Wgc K Z (gName i) js x ds P := fun b u σ v Q S r k =>
  k _ _ (S.set r) (by simp) (fun j hj => by rw [get_set, if_neg (fun z : i = j => hj (by rw [← z]; exact hi))]) p
theorem wgsc_nil {P : DS → Prop} {js : List Nat} {xs : List D} (e : xs = []) (p : P ds) : Wgsc K Z gNil js xs ds P := fun b u σ v Q S r k => by
  subst e
  cases r
  exact ⟨rfl, k _ _ S rfl (fun _ _ => rfl) p⟩
theorem wgsc_cons {P : DS → Prop} {js : List Nat} {x : D} {xs ys : List D} {gs : TGs} (e : ys = x :: xs) (h : Wgc K Z g js x ds fun ds' => Wgsc K Z gs js xs ds' P) : Wgsc K Z (gCons g gs) js ys ds P := fun b u σ v Q S r k => by
  subst e
  cases r with
  | cons r1 r2 =>
    rename_i v vs
    exact ⟨v, vs, rfl, h b u σ v _ S r1 fun ds' σ' S' l1 f1 q => q b u σ' vs _ S' r2 fun ds2 σ2 S2 l2 f2 p => k ds2 σ2 S2 (l2.trans l1) (fun j hj => (f2 j hj).trans (f1 j hj)) p⟩
theorem wgc_tup {P : DS → Prop} {js : List Nat} {j : Nat} {x : D} {xs : List D} {gs : TGs} (e : x = .tup xs) (hn : xs.length = j) (h : Wgsc K Z gs js xs ds P) : Wgc K Z (gTup K j gs) js x ds P := fun b u σ v Q S r k => by
  subst e
  obtain ⟨a, vs, rfl, q, r2⟩ := den_tup r
  exact ⟨_, _, rfl, Evl.ex_t S.ex q, r2.len.trans hn, h b u σ _ Q S r2 k⟩
theorem we_lc {wi : TI} {vs : List Nat} (h : Wi K Z wi ds n fun xs m => ∃ Iv : Nat → List D → Nat → Prop, Iv 0 [] m ∧
    (∀ i x ys k, xs[i]? = some x → Iv i ys k → Wgc K Z g vs x (wipeD ds vs) fun ds2 => Wt K Z tt ds2 k fun c j => if c = true then We K Z te ds2 j (fun y l => ys.length < 1000000 ∧ Iv (i + 1) (ys ++ [y]) l) else Iv (i + 1) ys j) ∧
    (∀ ys k, Iv xs.length ys k → P (.lst ys) k)) : We K Z (tLc wi g tt te vs) ds n P := fun b u σ Q e S k =>
  h b u σ _ e S fun J xs u1 G Y g1 s1 ⟨Iv, i0, is, idn⟩ w hG hY => fun Dl hD => by
    have n0 : u1.H0 Dl = none := ex_none g1.c hD
    have nS : ¬ u1.S Dl := fun h => by
      obtain ⟨_, o, h1, _⟩ := s1 Dl h
      rw [hD] at h1; cases h1
    refine lc_it w (fun i H' => ∃ w ys acc, w.H1 = H' ∧ Gs u1 w ∧ StOk K w ∧ w.H0 Dl = none ∧ ¬ w.S Dl ∧ H' Dl = some (.lst acc) ∧ Dens K w acc ys ∧ Iv i ys w.n)
      ⟨⟨u1.S, u1.T, u1.n, u1.H0, upd u1.H1 Dl (.lst [])⟩, [], [], rfl, (Gs.refl g1.c).write hD n0, s1.write nS, n0, nS, upd_same, .nil, i0⟩ (fun i H' _ ⟨w, ys, acc, eh, g', _⟩ => eh ▸ hG w g'.ls g'.c) ?_ ?_
    · rintro i v H' H'' hi ⟨w, ys, acc, rfl, g', sw, c0, cS, hc, hr, iv⟩ y
      obtain ⟨x, w', rfl, hx, g2, r⟩ := hY w i v H'' g'.ls g'.c sw hi y
      have c1 := g2.g.nn c0 hc
      have cS1 := g2.g.ns cS hc
      have hc1 := g2.g.b _ _ cS hc
      have S1 := ((S.go g1 s1).go (g'.trans g2.g) (g2.st sw)).wipe vs
      have q := is i x ys w.n hx iv
      rw [← g2.n] at q
      refine q b w' (L2.wipe σ vs) v _ S1 r fun ds2 σ2 S2 l2 f2 q => ⟨wipe_of (l2.trans (wipe_length _ _)) f2, q b w' σ2 _ rfl S2 fun c u3 g3 s3 q3 => ?_⟩
      have c2 := g3.nn c1 hc1
      have cS2 := g3.ns cS1 hc1
      have hc2 := g3.b _ _ cS1 hc1
      cases c with
      | false => exact ⟨u3, ys, acc, rfl, (g'.trans g2.g).trans g3, s3, c2, cS2, hc2, hr.mono (g2.g.ls.trans g3.ls), q3⟩
      | true =>
        refine q3 b u3 σ2 _ rfl (S2.go g3 s3) fun y d u4 g4 s4 r4 ⟨hl, p4⟩ => ?_
        have c3 := g4.nn c2 hc2
        have cS3 := g4.ns cS2 hc2
        have hc3 := g4.b _ _ cS2 hc2
        have l4 : Le u4 ⟨u4.S, u4.T, u4.n, u4.H0, upd u4.H1 Dl (.lst (acc ++ [y]))⟩ := ⟨fun _ h => h, fun _ _ => rfl, .refl _⟩
        exact ⟨acc, hc3, by rw [hr.len]; exact Nat.lt_of_lt_of_le hl (by decide), ⟨u4.S, u4.T, u4.n, u4.H0, upd u4.H1 Dl (.lst (acc ++ [y]))⟩, ys ++ [d], acc ++ [y], rfl, (((g'.trans g2.g).trans g3).trans g4).write hD c3, s4.write cS3, c3, cS3, upd_same, ((hr.mono ((g2.g.ls.trans g3.ls).trans g4.ls)).app (.cons r4 .nil)).mono l4, p4⟩
    · rintro H' ⟨w, ys, acc, rfl, g', sw, c0, cS, hc, hr, iv⟩
      have l1 : Le w ⟨w.S, w.T, w.n, upd w.H0 Dl (.lst acc), w.H1⟩ := ⟨fun _ h => h, fun _ _ => rfl, ex_new c0⟩
      exact k _ _ ⟨w.S, w.T, w.n, upd w.H0 Dl (.lst acc), w.H1⟩ (g1.trans (g'.settle hD c0 hc)) (sw.settle c0 cS) (.lst (SqL.of upd_same) (hr.mono l1)) (idn ys _ iv)
end
/-! ### defs -/
abbrev Xp := Addr → List (Str × D) → Nat → Prop
abbrev Rl := List D → Nat → (D → Nat → Prop) → Xp → Prop
/-- a def that draws nothing and raises nothing -/
abbrev pr (R : List D → (D → Prop) → Prop) : Rl := fun ds n P _ => R ds fun d => P d n
/-- a def that draws nothing -/
abbrev px (R : List D → (D → Prop) → (Addr → List (Str × D) → Prop) → Prop) : Rl := fun ds n P X => R ds (fun d => P d n) fun C fs => X C fs n
def spD (K : PySem.W.Frag) [Tb K] (R : Rl) : Sp := fun vs H Q E => ∃ (u : Wd) (ds : List D) (P : D → Nat → Prop) (X : Xp), u.H1 = H ∧ Ex u.H0 u.H1 ∧ StOk K u ∧ Dens K u vs ds ∧ R ds u.n P X ∧ (∀ v d u', Gs u u' → StOk K u' → Den K u' v d → P d u'.n → Q v u'.H1) ∧ XOk K ⟨E, X⟩ u
abbrev noX : Xp := fun _ _ _ => False
theorem xok_no {K : PySem.W.Frag} [Tb K] {E : XK} {u : Wd} : XOk K ⟨E, noX⟩ u := fun _ _ _ _ _ _ _ _ z => z.elim
theorem XOk.at {K : PySem.W.Frag} [Tb K] {Z : ZX} {b u : Wd} (x : XOk K Z b) (g : Gs b u) : XOk K Z u := fun cls d C fs u' g' s e z => x cls d C fs u' (g.trans g') s e z
/-- of an __init__: the fields that the new object has -/
abbrev Ri := List D → Nat → (List (Str × D) → Prop) → Xp → Prop
def spI (K : PySem.W.Frag) [Tb K] (C : Addr) (R : Ri) : Sp := fun vs H Q E => ∃ (x dx : Addr) (ws : List V) (u : Wd) (ds : List D) (P : List (Str × D) → Prop) (X : Xp), vs = .ref x :: ws ∧ u.H1 x = none ∧ u.H1 dx = none ∧ dx ≠ x ∧ H = upd (upd u.H1 dx (.own x)) x (.ins C dx []) ∧ Ex u.H0 u.H1 ∧ StOk K u ∧ Dens K u ws ds ∧ R ds u.n P X ∧
  (∀ fs gs u', Gs u u' → StOk K u' → u'.n = u.n → u'.H0 x = none → ¬ u'.S x → u'.H1 x = some (.ins C dx fs) → u'.H1 dx = some (.own x) → DenF K u' fs gs → P gs → Q .non u'.H1) ∧ XOk K ⟨E, X⟩ u
section
variable {K : PySem.W.Frag} [Tb K] {Z : ZX} {b u u' u'' : Wd} {σ : L2.St} {ds : DS} {n : Nat} {P : D → Nat → Prop} {te ta tb tc : TE} {tt tu : TT} {N : Nd} {ts t1 t2 : TS} {g : TG} {De : Ends} {E : XK} {C : Addr} {R : Rl}
theorem we_call {t : TA} (h : Wa K Z t ds n fun xs m => R xs m P noX) : We K Z (tCall (spD K R) [] E t) ds n P := fun b u σ Q e S k =>
  h b u σ _ e S fun vs xs u1 g1 s1 r p => ⟨u1, xs, P, noX, rfl, g1.c, s1, by rw [List.append_nil]; exact r, p, fun v d u2 g2 s2 r' p' => k v d u2 (g1.trans g2) s2 r' p', xok_no⟩
theorem we_callX {t : TA} (h : Wa K Z t ds n fun xs m => R xs m P Z.X) : We K Z (tCall (spD K R) [] Z.E t) ds n P := fun b u σ Q e S k =>
  h b u σ _ e S fun vs xs u1 g1 s1 r p => ⟨u1, xs, P, Z.X, rfl, g1.c, s1, by rw [List.append_nil]; exact r, p, fun v d u2 g2 s2 r' p' => k v d u2 (g1.trans g2) s2 r' p', S.xk.at (S.gr.trans g1)⟩
theorem we_call0 (h : R [] n P noX) : We K Z (tCall (spD K R) [] E tNil) ds n P := we_call (wa_nil h)
theorem we_meth {m : Str} {t : TA} (h : We K Z ta ds n fun o j => ∃ fs, o = .obj C fs ∧ fs.lookup m = none ∧ Wa K Z t ds j fun xs k => R (o :: xs) k P noX) : We K Z (tMeth C m (spD K R) [] E ta t) ds n P := fun b u σ Q e S k =>
  h b u σ _ e S fun v o u1 g1 s1 r ⟨fs, z, hl, q⟩ => by
    subst z
    obtain ⟨a, dx, fv, rfl, ha, hf⟩ := den_obj r
    refine ⟨a, dx, fv, rfl, g1.c _ _ ha, hf.miss hl, q b u1 σ _ rfl (S.go g1 s1) fun vs xs u2 g2 s2 r2 p2 => ?_⟩
    exact ⟨u2, _ :: xs, P, noX, rfl, g2.c, s2, by rw [List.append_nil]; exact .cons (r.mono g2.ls) r2, p2, fun v d u3 g3 s3 r' p' => k v d u3 ((g1.trans g2).trans g3) s3 r' p', xok_no⟩
theorem we_methX {m : Str} {t : TA} (h : We K Z ta ds n fun o j => ∃ fs, o = .obj C fs ∧ fs.lookup m = none ∧ Wa K Z t ds j fun xs k => R (o :: xs) k P Z.X) : We K Z (tMeth C m (spD K R) [] Z.E ta t) ds n P := fun b u σ Q e S k =>
  h b u σ _ e S fun v o u1 g1 s1 r ⟨fs, z, hl, q⟩ => by
    subst z
    obtain ⟨a, dx, fv, rfl, ha, hf⟩ := den_obj r
    refine ⟨a, dx, fv, rfl, g1.c _ _ ha, hf.miss hl, q b u1 σ _ rfl (S.go g1 s1) fun vs xs u2 g2 s2 r2 p2 => ?_⟩
    exact ⟨u2, _ :: xs, P, Z.X, rfl, g2.c, s2, by rw [List.append_nil]; exact .cons (r.mono g2.ls) r2, p2, fun v d u3 g3 s3 r' p' => k v d u3 ((g1.trans g2).trans g3) s3 r' p', S.xk.at ((S.gr.trans g1).trans g2)⟩
theorem we_prop (h : We K Z ta ds n fun o j => ∃ fs, o = .obj C fs ∧ R [o] j P noX) : We K Z (tProp C (spD K R) [] E ta) ds n P := fun b u σ Q e S k =>
  h b u σ _ e S fun v o u1 g1 s1 r ⟨fs, z, p⟩ => by
    subst z
    obtain ⟨a, dx, fv, rfl, ha, hf⟩ := den_obj r
    exact ⟨a, dx, fv, rfl, g1.c _ _ ha, u1, _, P, noX, rfl, g1.c, s1, .cons r .nil, p, fun v d u3 g3 s3 r' p' => k v d u3 (g1.trans g3) s3 r' p', xok_no⟩
theorem we_make {t : TA} {R : Ri} (h : Wa K Z t ds n fun xs m => R xs m (fun gs => P (.obj C gs) m) noX) : We K Z (tMake C (spI K C R) [] E t) ds n P := fun b u σ Q e S k =>
  h b u σ _ e S fun vs xs u1 g1 s1 r p => fun x dx hx hdx ne => ⟨x, dx, vs, u1, xs, _, _, by rw [List.append_nil], hx, hdx, ne, rfl, g1.c, s1, r, p, fun fs gs u2 g2 s2 en n0 nS h1 h2 hf pg => ⟨rfl, by
    have l1 : Le u2 ⟨u2.S, u2.T, u2.n, upd u2.H0 x (.ins C dx fs), u2.H1⟩ := ⟨fun _ h => h, fun _ _ => rfl, ex_new n0⟩
    exact k _ _ ⟨u2.S, u2.T, u2.n, upd u2.H0 x (.ins C dx fs), u2.H1⟩ (g1.trans (g2.settle hx n0 h1)) (s2.settle n0 nS) (.obj upd_same (hf.mono l1)) (en ▸ pg)⟩, xok_no⟩
theorem we_makeX {t : TA} {R : Ri} (h : Wa K Z t ds n fun xs m => R xs m (fun gs => P (.obj C gs) m) Z.X) : We K Z (tMake C (spI K C R) [] Z.E t) ds n P := fun b u σ Q e S k =>
  h b u σ _ e S fun vs xs u1 g1 s1 r p => fun x dx hx hdx ne => ⟨x, dx, vs, u1, xs, _, _, by rw [List.append_nil], hx, hdx, ne, rfl, g1.c, s1, r, p, fun fs gs u2 g2 s2 en n0 nS h1 h2 hf pg => ⟨rfl, by
    have l1 : Le u2 ⟨u2.S, u2.T, u2.n, upd u2.H0 x (.ins C dx fs), u2.H1⟩ := ⟨fun _ h => h, fun _ _ => rfl, ex_new n0⟩
    exact k _ _ ⟨u2.S, u2.T, u2.n, upd u2.H0 x (.ins C dx fs), u2.H1⟩ (g1.trans (g2.settle hx n0 h1)) (s2.settle n0 nS) (.obj upd_same (hf.mono l1)) (en ▸ pg)⟩, S.xk.at (S.gr.trans g1)⟩
/-- self.f = e, in an __init__ -/
theorem ws_fld {i : Nat} {f : Str} {a dx : Addr} {fs : List (Str × D)} (hd : ds[i]? = some (some (.mob a dx C fs))) (hc : Cls K C) (hn : NoAttr K C f) (hz : fs.length < 1000) (h : We K Z te ds n fun d m => N.nx (ds.set i (some (.mob a dx C (putD f d fs)))) m) : Ws K Z (sFld K (tVar i) te f) ds n N := fun b u σ De e S O =>
  h b u σ _ e S fun w d u1 g1 s1 r p => by
    have S' := S.go g1 s1
    obtain ⟨v, hv, hS⟩ := S'.sl i _ hd
    cases hS with
    | den h => cases h
    | mob c0 c1 c5 c2 c4 c6 c3 =>
      rename_i fv
      have na : dx ≠ a := fun z => by rw [z, c2] at c4; cases c4
      have l1 : Le u1 ⟨u1.S, u1.T, u1.n, u1.H0, upd u1.H1 a (.ins C dx (putF f w fv))⟩ := ⟨fun _ h => h, fun _ _ => rfl, .refl _⟩
      exact ⟨.ref a, hv, a, C, dx, fv, rfl, c2, hc, hn, by rw [c3.len]; exact hz, O.nx _ ⟨u1.S, u1.T, u1.n, u1.H0, _⟩ _ ⟨g1.sub, g1.kd, g1.a⟩ (S'.change hd rfl hv rfl c0 c1 c5 (fun _ z => by rw [c2] at z; cases z) (.mob c0 c1 c5 upd_same ((upd_ne na).trans c4) c6 ((DenF.put r c3).mono l1))) p⟩
variable {Pr : Program} {w : World} {mg : Str → Option Value} {base : Heap}
theorem start_get {N : List Str} {vs : List V} (h : vs.length ≤ N.length) : (L2.start N vs).length = N.length := by simp [L2.start]; omega
def startD (n : Nat) (ds : List D) : DS := ds.map some ++ List.replicate (n - ds.length) none
theorem sd_start {N : List Str} {vs : List V} {xs : List D} (e : Ex u.H0 u.H1) (xk : XOk K Z u) (st : StOk K u) (r : Dens K u vs xs) (hl : vs.length ≤ N.length) : Sd K Z u u (L2.start N vs) (startD N.length xs) := by
  have get : ∀ (i : Nat) (d : D), (startD N.length xs)[i]? = some (some d) → xs[i]? = some d := fun i d h => by
    unfold startD at h
    rw [List.getElem?_append] at h
    by_cases q : i < (xs.map some).length
    · rw [if_pos q] at h
      simpa using h
    · rw [if_neg q, List.getElem?_replicate] at h
      split at h <;> cases h
  refine ⟨.refl e, xk, st, by rw [start_get hl]; simp [startD, r.len.symm]; omega, fun i d h => ?_, fun i j d e a b h1 h2 m1 m2 => ?_⟩
  · obtain ⟨v, hv, hd⟩ := r.getD (get i d h)
    refine ⟨v, ?_, .den hd⟩
    unfold L2.start
    rw [List.getElem?_append_left (by simpa using (List.getElem?_eq_some_iff.mp hv).1)]
    simp [hv]
  · obtain ⟨v, hv, hd⟩ := r.getD (get i d h1)
    rw [hd.notMut] at m1
    cases m1
/-- a def keeps its promise: its body, told by data -/
theorem dok {x qual : Str} {st : Stmt} {f : Addr} {fd : FuncData} {N ps : List Str} {k : Nat} (F : Fun K x qual st f fd) (S : FnScope N ps (defScope st)) (len : ∀ ds n P X, R ds n P X → ds.length = ps.length) (hNp : ps.length ≤ N.length)
    (hbody : ∀ (cdv : Value) (A : Around) (outer : List Env) (s : Shared) (H : Hp) (E : XK), Room k (A.deeper (envOfC qual (defScope st) s.heap.objs.size f cdv)) →
      ∃ t, PSs (cxOf CX0 Pr w K mg base N qual (defScope st) f cdv A outer s H E).nox (defBody st) t ∧ ∀ Z ds n P, R ds n P Z.X → Ws K Z t (startD N.length ds) n { nx := fun _ m => P .non m, rt := P }) : FnOk Pr w K mg base CX0 (k + 1) f fd ps (spD K R) := by
  refine F.ok S (fun vs H Q E ⟨u, ds, P, X, _, e, _, r, h, _⟩ => by rw [r.len]; exact len ds _ P X h) (fun cdv A outer s H vs Q E hr ⟨u, ds, P, X, eh, e, st, r, h, q, xk⟩ => ?_)
  obtain ⟨t, ht, hW⟩ := hbody cdv A outer s H E hr
  subst eh
  refine ⟨t, ht, hW ⟨E, X⟩ ds u.n P h u u _ _ rfl (sd_start e xk st r (by rw [r.len, len ds _ P X h]; exact hNp)) ⟨fun ds' v σ' _ S' p => q _ _ _ S'.gr S'.st .non p, fun d v v' g s r p => q v d v' g s r p, fun _ _ _ _ _ z => z.elim, fun _ _ _ _ _ z => z.elim⟩⟩
/-- the same of a def that lets exceptions out -/
theorem dokX {x qual : Str} {st : Stmt} {f : Addr} {fd : FuncData} {N ps : List Str} {k : Nat} (F : Fun K x qual st f fd) (S : FnScope N ps (defScope st)) (len : ∀ ds n P X, R ds n P X → ds.length = ps.length) (hNp : ps.length ≤ N.length)
    (hbody : ∀ (cdv : Value) (A : Around) (outer : List Env) (s : Shared) (H : Hp) (E : XK), Room k (A.deeper (envOfC qual (defScope st) s.heap.objs.size f cdv)) →
      ∃ t, PSs (cxOf (L2.CX Pr w) Pr w K mg base N qual (defScope st) f cdv A outer s H E) (defBody st) t ∧ ∀ X ds n P, R ds n P X → Ws K ⟨E, X⟩ t (startD N.length ds) n { nx := fun _ m => P .non m, rt := P }) : FnOk Pr w K mg base (L2.CX Pr w) (k + 1) f fd ps (spD K R) := by
  refine F.okX S (fun vs H Q E ⟨u, ds, P, X, _, e, _, r, h, _⟩ => by rw [r.len]; exact len ds _ P X h) (fun cdv A outer s H vs Q E hr ⟨u, ds, P, X, eh, e, st, r, h, q, xk⟩ => ?_)
  obtain ⟨t, ht, hW⟩ := hbody cdv A outer s H E hr
  subst eh
  refine ⟨t, ht, hW X ds u.n P h u u _ _ rfl (sd_start e xk st r (by rw [r.len, len ds _ P X h]; exact hNp)) ⟨fun ds' v σ' _ S' p => q _ _ _ S'.gr S'.st .non p, fun d v v' g s r p => q v d v' g s r p, fun _ _ _ _ _ z => z.elim, fun _ _ _ _ _ z => z.elim⟩⟩
theorem dokI {x qual : Str} {st : Stmt} {f : Addr} {fd : FuncData} {N ps : List Str} {k : Nat} {R : Ri} (F : Fun K x qual st f fd) (S : FnScope N ps (defScope st)) (len : ∀ ds n P X, R ds n P X → ds.length + 1 = ps.length) (hNp : ps.length ≤ N.length)
    (hbody : ∀ (cdv : Value) (A : Around) (outer : List Env) (s : Shared) (H : Hp) (E : XK), Room k (A.deeper (envOfC qual (defScope st) s.heap.objs.size f cdv)) →
      ∃ t, PSs (cxOf CX0 Pr w K mg base N qual (defScope st) f cdv A outer s H E).nox (defBody st) t ∧ ∀ Z x dx ds n P, R ds n P Z.X → Ws K Z t (some (.mob x dx C []) :: startD (N.length - 1) ds) n { nx := fun ds' m => m = n ∧ ∃ gs, ds'[0]? = some (some (.mob x dx C gs)) ∧ P gs, rt := fun _ _ => False }) : FnOk Pr w K mg base CX0 (k + 1) f fd ps (spI K C R) := by
  refine F.ok S (fun vs H Q E ⟨x, dx, ws, u, ds, P, X, e, _, _, _, _, _, _, r, h, _⟩ => by subst e; rw [List.length_cons, r.len]; exact len ds _ P X h) (fun cdv A outer s H vs Q E hr ⟨x, dx, ws, u, ds, P, X, e, hx, hdx, ne, eH, ex, st, r, h, q, xk⟩ => ?_)
  obtain ⟨t, ht, hW⟩ := hbody cdv A outer s H E hr
  subst e
  subst eH
  have hl := len ds _ P X h
  obtain ⟨j, hn⟩ : ∃ j, N.length = j + 1 := ⟨N.length - 1, by omega⟩
  have x0 : u.H0 x = none := ex_none ex hx
  have dx0 : u.H0 dx = none := ex_none ex hdx
  have xS : ¬ u.S x := fun h => by
    obtain ⟨_, o, h1, _⟩ := st x h
    rw [hx] at h1; cases h1
  have dxS : ¬ u.S dx := fun h => by
    obtain ⟨_, o, h1, _⟩ := st dx h
    rw [hdx] at h1; cases h1
  have g : Gs u ⟨u.S, u.T, u.n, u.H0, upd (upd u.H1 dx (.own x)) x (.ins C dx [])⟩ := ((Gs.refl ex).write (o := .own x) hdx dx0).write (o := .ins C dx []) hx x0
  have s2 : StOk K ⟨u.S, u.T, u.n, u.H0, upd (upd u.H1 dx (.own x)) x (.ins C dx [])⟩ := (st.write (o := .own x) dxS).write (o := .ins C dx []) xS
  have S0 : Sd K ⟨E, X⟩ u ⟨u.S, u.T, u.n, u.H0, upd (upd u.H1 dx (.own x)) x (.ins C dx [])⟩ (L2.start N (.ref x :: ws)) (some (.mob x dx C []) :: startD (N.length - 1) ds) := by
    cases hN : N with
    | nil => rw [hN] at hn; cases hn
    | cons y N' =>
      have T := (sd_start (Z := ⟨E, X⟩) (N := N') (vs := ws) ex xk st r (by rw [hN] at hNp; simp at hNp; rw [r.len]; omega)).go g s2
      have es : L2.start (y :: N') (V.ref x :: ws) = some (V.ref x) :: L2.start N' ws := by simp [L2.start]
      rw [es]
      have nm : ∀ (i : Nat) (d : D), (some (D.mob x dx C []) :: startD ((y :: N').length - 1) ds)[i]? = some (some d) → isMut d = true → i = 0 := fun i d h m => by
        cases i with
        | zero => rfl
        | succ i =>
          have h' : (startD N'.length ds)[i]? = some (some d) := by simpa using h
          unfold startD at h'
          rw [List.getElem?_append] at h'
          by_cases q : i < (ds.map some).length
          · rw [if_pos q] at h'
            have h3 : ds[i]? = some d := by simpa using h'
            obtain ⟨v, _, hd⟩ := r.getD h3
            rw [hd.notMut] at m
            cases m
          · rw [if_neg q, List.getElem?_replicate] at h'
            split at h' <;> cases h'
      refine ⟨g, xk, s2, by simpa using T.len, fun i d hi => ?_, fun i j d e a b h1 h2 m1 m2 nij => absurd ((nm i d h1 m1).trans (nm j e h2 m2).symm) nij⟩
      cases i with
      | zero =>
        simp at hi
        subst hi
        exact ⟨.ref x, by simp, .mob hx x0 xS upd_same ((upd_ne ne).trans upd_same) dxS .nil⟩
      | succ i =>
        obtain ⟨v, hv, hd⟩ := T.sl i d (by simpa using hi)
        exact ⟨v, by simpa using hv, hd⟩
  refine ⟨t, ht, hW ⟨E, X⟩ x dx ds u.n P h u ⟨u.S, u.T, u.n, u.H0, _⟩ _ _ rfl S0 ⟨fun ds' u2 σ' _ S' ⟨en, gs, hg, p⟩ => ?_, fun d v _ _ _ _ p => p.elim, fun _ _ _ _ _ z => z.elim, fun _ _ _ _ _ z => z.elim⟩⟩
  obtain ⟨v, _, hS⟩ := S'.sl 0 _ hg
  cases hS with
  | den z => cases z
  | mob c0 c1 c5 c2 c4 c6 c3 => exact q _ gs u2 S'.gr S'.st en c1 c5 c2 c4 c3 p
end
end DL

namespace L2
open PySem PySem.Spec PyProof.Rows
section
variable {X : Cx}
/-- list + list, whatever the lists are -/
def rCatL (K : PySem.W.Frag) : R2 := fun x y H Q => ∃ l b xs zs, x = .ref l ∧ y = .ref b ∧ SqL K H l xs ∧ SqL K H b zs ∧ xs.length + zs.length ≤ sizeLine ∧ ∀ p, H p = none → Q (.ref p) (upd H p (.lst (xs ++ zs)))
theorem op_catL : OpR X (binaryOp .Add) (rCatL X.K) := by
  intro pins s σ H x y v u Q I rx ry h
  obtain ⟨l, b, xs, zs, rfl, rfl, hH, hB, hz, q⟩ := h
  cases rx
  cases ry
  obtain ⟨its, r, pl, hl⟩ := I.list hH
  obtain ⟨its2, r2, pl2, hl2⟩ := I.list hB
  obtain ⟨⟨cls, dd, data, sl⟩, ho, hc, n, hd⟩ := pl.isList
  obtain ⟨⟨cls2, dd2, data2, sl2⟩, ho2, hc2, n2, hd2⟩ := pl2.isList
  simp only at hc hd hc2 hd2
  subst hc hd hc2 hd2
  have ea : its.toArray ++ its2.toArray = (its ++ its2).toArray := by simp
  have l1 := r.length
  have l2 := r2.length
  refine concat_meets ⟨_, ho, rfl⟩ ⟨_, ho2, rfl⟩ noFill_list_add seq_list_add PySem.F.slot_list_add PySem.F.entry_list_add (PySem.F.args_list_add_2 _ _) (list_addW l b its.toArray its2.toArray n n2 dd dd2 sl sl2 (by simp; omega)) ⟨ho, ho2, ?_⟩
  rw [ea]
  exact ⟨.ref _, _, I.lnew (t' := s.toks) (r.append r2) (by rw [List.length_append]; omega), rfl, q _ I.fresh⟩
/-- a + b: ints, texts, lists, tuples -/
def rAddI : R2 := rI0 fun i j => .int (i + j)
def rAddT : R2 := fun x y H Q => ∃ i j, x = .str i ∧ y = .str j ∧ i.length + j.length ≤ sizeLine ∧ Q (.str (i ++ j)) H
def rAddU (K : PySem.W.Frag) : R2 := fun x y H Q => rAddI x y H Q ∨ rAddT x y H Q ∨ rCatL K x y H Q ∨ rCatA K x y H Q
theorem op_addU : OpR X (binaryOp .Add) (rAddU X.K) := (show OpR X (binaryOp .Add) rAddI from op_add).or ((show OpR X (binaryOp .Add) rAddT from op_add_str).or (op_catL.or op_catA))
end
end L2
namespace DL
open PySem L2 StX
section
variable {K : PySem.W.Frag} [Tb K] {Z : ZX} {u u' : Wd} {σ : L2.St} {ds : DS} {P : D → Prop} {te ta tb tc : TE} {tt tu : TT} {i j : Int} {x y : Str} {xs ys : List D} {C : Addr} {a b : D} {p q : Bool}
theorem Op.or {r r' : R2} (h : Op K r a b P) : Op K (fun x y H Q => r x y H Q ∨ r' x y H Q) a b P := fun u v w Q e s d1 d2 k => .inl (h u v w Q e s d1 d2 k)
theorem Op.or' {r r' : R2} (h : Op K r' a b P) : Op K (fun x y H Q => r x y H Q ∨ r' x y H Q) a b P := fun u v w Q e s d1 d2 k => .inr (h u v w Q e s d1 d2 k)
theorem op_I0 {g : Int → Int → V} {d : D} (hd : ∀ u, Den K u (g i j) d) (h : P d) : Op K (rI0 g) (.int i) (.int j) P := fun u v w Q e _ d1 d2 k => by
  cases den_int d1
  cases den_int d2
  exact ⟨i, j, rfl, rfl, k _ _ u (.refl e) (hd _) h⟩
theorem op_I {c : Int → Int → Prop} {g : Int → Int → V} {d : D} (hd : ∀ u, Den K u (g i j) d) (hc : c i j) (h : P d) : Op K (rI c g) (.int i) (.int j) P := fun u v w Q e _ d1 d2 k => by
  cases den_int d1
  cases den_int d2
  exact ⟨i, j, rfl, rfl, hc, k _ _ u (.refl e) (hd _) h⟩
/-! ### + -/
theorem add_int (h : P (.int (i + j))) : Op K (rAddU K) (.int i) (.int j) P := Op.or (op_I0 (fun _ => .int _) h)
theorem add_str (hz : x.length + y.length ≤ 1000000) (h : P (.str (x ++ y))) : Op K (rAddU K) (.str x) (.str y) P := fun u v w Q e _ d1 d2 k => by
  cases den_str d1
  cases den_str d2
  exact .inr (.inl ⟨x, y, rfl, rfl, sz100 hz, k _ _ u (.refl e) (.str _) h⟩)
theorem add_lst (hz : xs.length + ys.length ≤ 1000000) (h : P (.lst (xs ++ ys))) : Op K (rAddU K) (.lst xs) (.lst ys) P := fun u v w Q e _ d1 d2 k => by
  obtain ⟨a, vs, rfl, q, r⟩ := den_lst d1
  obtain ⟨a', vs', rfl, q', r'⟩ := den_lst d2
  refine .inr (.inr (.inl ⟨a, a', vs, vs', rfl, rfl, Evl.ex_l e q, Evl.ex_l e q', by rw [r.len, r'.len]; exact sz100 hz, fun p hp => k _ _ (u.put p _) (.put e hp) (.lst (SqL.of upd_same) ((r.app r').mono (Gs.put e hp).ls)) h⟩))
theorem add_tup (hz : xs.length + ys.length ≤ 1000000) (h : P (.tup (xs ++ ys))) : Op K (rAddU K) (.tup xs) (.tup ys) P := fun u v w Q e _ d1 d2 k => by
  obtain ⟨a, vs, rfl, q, r⟩ := den_tup d1
  obtain ⟨a', vs', rfl, q', r'⟩ := den_tup d2
  refine .inr (.inr (.inr ⟨a, a', vs, vs', rfl, rfl, Evl.ex_t e q, Evl.ex_t e q', by rw [r.len, r'.len]; exact sz100 hz, fun e0 => ?_, fun _ e0 => ?_, fun _ _ p hp => k _ _ (u.put p _) (.put e hp) (.tup (SqT.of upd_same) ((r.app r').mono (Gs.put e hp).ls)) h⟩))
  · subst e0
    cases r
    exact k _ _ u (.refl e) (.tup q' r') h
  · subst e0
    cases r'
    rw [List.append_nil] at h
    exact k _ _ u (.refl e) (.tup q r) h
/-! ### other operators on ints -/
theorem sub_int (h : P (.int (i - j))) : Op K (rI0 fun i j => .int (i - j)) (.int i) (.int j) P := op_I0 (fun _ => .int _) h
theorem mul_int (hc : CMul i j) (h : P (.int (i * j))) : Op K (rI CMul fun i j => .int (i * j)) (.int i) (.int j) P := op_I (fun _ => .int _) hc h
theorem fdiv_int (hc : 0 < j ∧ j < 1073741824) (h : P (.int (i / j))) : Op K (rI CDiv fun i j => .int (i / j)) (.int i) (.int j) P := op_I (fun _ => .int _) hc h
theorem mod_int (hc : 0 < j) (h : P (.int (i % j))) : Op K (rI (fun _ j => 0 < j) fun i j => .int (i % j)) (.int i) (.int j) P := op_I (fun _ => .int _) hc h
theorem pow_int (hc : CPow i j) (h : P (.int (i ^ j.toNat))) : Op K (rI CPow fun i j => .int (i ^ j.toNat)) (.int i) (.int j) P := op_I (fun _ => .int _) hc h
theorem neg_int (h : P (.int (-i))) : Un K (rU fun i => .int (-i)) (.int i) P := fun u v Q e d1 k => by
  cases den_int d1
  exact ⟨i, rfl, k _ _ u (.refl e) (.int _) h⟩
/-! ### is None -/
abbrev rIsN' : R2 := fun x y H Q => y = .non ∧ Q (.bl (decide (x = .non))) H
abbrev rNotN' : R2 := fun x y H Q => y = .non ∧ Q (.bl (!decide (x = .non))) H
def isNonD : D → Bool
  | .non => true
  | _ => false
theorem den_isNon {v : V} {d : D} (h : Den K u v d) : decide (v = .non) = isNonD d := by cases h <;> rfl
theorem is_non (h : P (.bl (isNonD a))) : Op K rIsN' a .non P := fun u v w Q e _ d1 d2 k => by
  cases den_non d2
  exact ⟨rfl, by rw [den_isNon d1]; exact k _ _ u (.refl e) (.bl _) h⟩
theorem not_non (h : P (.bl (!isNonD a))) : Op K rNotN' a .non P := fun u v w Q e _ d1 d2 k => by
  cases den_non d2
  exact ⟨rfl, by rw [den_isNon d1]; exact k _ _ u (.refl e) (.bl _) h⟩
end
/-! ### plain data: ==, !=, <, <=, >, >=, in -/
mutual
def pd : D → Option PyData
  | .non => some .none
  | .bl b => some (.bool b)
  | .int i => some (.int i)
  | .str x => some (.str x)
  | .lst xs => (pds xs).map .list
  | .tup xs => (pds xs).map .tuple
  | _ => none
def pds : List D → Option (List PyData)
  | [] => some []
  | x :: xs => (pd x).bind fun y => (pds xs).map fun ys => y :: ys
end
section
variable {K : PySem.W.Frag} [Tb K] {Z : ZX} {H : Hp} {u : Wd}
mutual
theorem den_dp (x : Ex u.H0 H) : ∀ {v : V} {d : D} {e : PyData}, Den K u v d → pd d = some e → Dp K H v e
  | _, _, e, .non, h => by simp only [pd] at h; cases h; exact .non
  | _, _, e, .bl b, h => by simp only [pd] at h; cases h; exact .bl b
  | _, _, e, .int i, h => by simp only [pd] at h; cases h; exact .int i
  | _, _, e, .str y, h => by simp only [pd] at h; cases h; exact .str y
  | _, _, e, .lst (ds := ds) q r, h => by
    simp only [pd] at h
    cases hp : pds ds with
    | none => rw [hp] at h; cases h
    | some es => rw [hp] at h; cases h; exact .lst (Evl.ex_l x q) (dens_dp x r hp)
  | _, _, e, .tup (ds := ds) q r, h => by
    simp only [pd] at h
    cases hp : pds ds with
    | none => rw [hp] at h; cases h
    | some es => rw [hp] at h; cases h; exact .tup (Evl.ex_t x q) (dens_dp x r hp)
  | _, _, e, .ty _, h => by simp only [pd] at h; cases h
  | _, _, e, .cls _, h => by simp only [pd] at h; cases h
  | _, _, e, .strm _ _, h => by simp only [pd] at h; cases h
  | _, _, e, .obj _ _, h => by simp only [pd] at h; cases h
  | _, _, e, .dct _ _, h => by simp only [pd] at h; cases h
theorem dens_dp (x : Ex u.H0 H) : ∀ {v : List V} {d : List D} {e : List PyData}, Dens K u v d → pds d = some e → DpAll K H v e
  | _, _, e, .nil, h => by simp only [pds] at h; cases h; exact .nil
  | _, _, e, .cons (d := d) (ds := ds) r rs, h => by
    simp only [pds] at h
    cases hp : pd d with
    | none => rw [hp] at h; cases h
    | some y =>
      rw [hp] at h
      cases hq : pds ds with
      | none => rw [hq] at h; cases h
      | some ys => rw [hq] at h; cases h; exact .cons (den_dp x r hp) (dens_dp x rs hq)
end
end
end DL
namespace L2
open PySem PySem.Spec PyProof.Rows
section
variable {X : Cx}
def rEqP (K : PySem.W.Frag) : R2 := fun x y H Q => ∃ d e, Dp K H x d ∧ Dp K H y e ∧ d.plain = true ∧ e.plain = true ∧ d.depth ≤ 64 ∧ Q (.bl (PyData.eqv d e)) H
def rNeP (K : PySem.W.Frag) : R2 := fun x y H Q => ∃ d e, Dp K H x d ∧ Dp K H y e ∧ d.plain = true ∧ e.plain = true ∧ d.depth ≤ 64 ∧ Q (.bl (!PyData.eqv d e)) H
def rLtP (K : PySem.W.Frag) : R2 := fun x y H Q => ∃ d e, Dp K H x d ∧ Dp K H y e ∧ PySem.W.alike d e = true ∧ d ≠ .none ∧ d.depth ≤ 64 ∧ Q (.bl (PySem.W.dataLt d e)) H
def rGtP (K : PySem.W.Frag) : R2 := fun x y H Q => ∃ d e, Dp K H x d ∧ Dp K H y e ∧ PySem.W.alike d e = true ∧ d ≠ .none ∧ d.depth ≤ 64 ∧ Q (.bl (PySem.W.dataLt e d)) H
def rLeP (K : PySem.W.Frag) : R2 := fun x y H Q => ∃ d e, Dp K H x d ∧ Dp K H y e ∧ PySem.W.alike d e = true ∧ d ≠ .none ∧ d.depth ≤ 64 ∧ Q (.bl (!PySem.W.dataLt e d)) H
def rGeP (K : PySem.W.Frag) : R2 := fun x y H Q => ∃ d e, Dp K H x d ∧ Dp K H y e ∧ PySem.W.alike d e = true ∧ d ≠ .none ∧ d.depth ≤ 64 ∧ Q (.bl (!PySem.W.dataLt d e)) H
theorem room_min {u a b : Nat} (hu : u + 64 < cLine) (h : a ≤ 64) : u + min a b < cLine := by have := Nat.min_le_left a b; omega
theorem op_eqP (hu : X.A.units + 64 < cLine) : OpR X (compareOp .Eq) (rEqP X.K) := by
  intro pins s σ H x y v u Q I rx ry ⟨d, e, hd, he, pd, pe, dd, q⟩
  obtain ⟨as, r1⟩ := Dp.reads I d x v hd rx
  obtain ⟨bs, r2⟩ := Dp.reads I e y u he ry
  exact PySem.SeqAt.eq_plain r1 r2 pd pe (room_min hu dd) ⟨.bl _, H, I, rfl, q⟩
theorem op_neP (hu : X.A.units + 64 < cLine) : OpR X (compareOp .NotEq) (rNeP X.K) := by
  intro pins s σ H x y v u Q I rx ry ⟨d, e, hd, he, pd, pe, dd, q⟩
  obtain ⟨as, r1⟩ := Dp.reads I d x v hd rx
  obtain ⟨bs, r2⟩ := Dp.reads I e y u he ry
  exact PySem.SeqAt.ne_plain r1 r2 pd pe (room_min hu dd) ⟨.bl _, H, I, rfl, q⟩
theorem op_ltP (hu : X.A.units + 64 < cLine) : OpR X (compareOp .Lt) (rLtP X.K) := by
  intro pins s σ H x y v u Q I rx ry ⟨d, e, hd, he, al, nn, dd, q⟩
  obtain ⟨as, r1⟩ := Dp.reads I d x v hd rx
  obtain ⟨bs, r2⟩ := Dp.reads I e y u he ry
  exact PySem.W.lt_data r1 r2 al nn (room_min hu dd) ⟨.bl _, H, I, rfl, q⟩
theorem op_gtP (hu : X.A.units + 64 < cLine) : OpR X (compareOp .Gt) (rGtP X.K) := by
  intro pins s σ H x y v u Q I rx ry ⟨d, e, hd, he, al, nn, dd, q⟩
  obtain ⟨as, r1⟩ := Dp.reads I d x v hd rx
  obtain ⟨bs, r2⟩ := Dp.reads I e y u he ry
  exact PySem.W.gt_data r1 r2 al nn (room_min hu dd) ⟨.bl _, H, I, rfl, q⟩
theorem op_leP (hu : X.A.units + 64 < cLine) : OpR X (compareOp .LtE) (rLeP X.K) := by
  intro pins s σ H x y v u Q I rx ry ⟨d, e, hd, he, al, nn, dd, q⟩
  obtain ⟨as, r1⟩ := Dp.reads I d x v hd rx
  obtain ⟨bs, r2⟩ := Dp.reads I e y u he ry
  exact PySem.W.le_data r1 r2 al nn (room_min hu dd) ⟨.bl _, H, I, rfl, q⟩
theorem op_geP (hu : X.A.units + 64 < cLine) : OpR X (compareOp .GtE) (rGeP X.K) := by
  intro pins s σ H x y v u Q I rx ry ⟨d, e, hd, he, al, nn, dd, q⟩
  obtain ⟨as, r1⟩ := Dp.reads I d x v hd rx
  obtain ⟨bs, r2⟩ := Dp.reads I e y u he ry
  exact PySem.W.ge_data r1 r2 al nn (room_min hu dd) ⟨.bl _, H, I, rfl, q⟩
/-- x in a list or a tuple of data; c in a text -/
def rInP (K : PySem.W.Frag) : R2 := fun x y H Q => ∃ d xs, Dp K H x d ∧ (Dp K H y (.list xs) ∨ Dp K H y (.tuple xs)) ∧ d.plain = true ∧ PyData.plainAll xs = true ∧ d.depth ≤ 60 ∧ Q (.bl (xs.any fun z => PyData.eqv z d)) H
def rNiP (K : PySem.W.Frag) : R2 := fun x y H Q => ∃ d xs, Dp K H x d ∧ (Dp K H y (.list xs) ∨ Dp K H y (.tuple xs)) ∧ d.plain = true ∧ PyData.plainAll xs = true ∧ d.depth ≤ 60 ∧ Q (.bl (!xs.any fun z => PyData.eqv z d)) H
theorem room_in {u a b : Nat} (hu : u + 64 < cLine) (h : b ≤ 60) : u + 1 + min a b < cLine := by have := Nat.min_le_right a b; omega
theorem op_inP (hu : X.A.units + 64 < cLine) : OpR X (compareOp .In) (rInP X.K) := by
  intro pins s σ H x y v u Q I rx ry ⟨d, xs, hd, he, pd, pe, dd, q⟩
  obtain ⟨as, r1⟩ := Dp.reads I d x v hd rx
  rcases he with he | he
  · obtain ⟨bs, r2⟩ := Dp.reads I _ y u he ry
    exact PySem.SeqAt.in_list_data r2 r1 pe pd (room_in hu dd) ⟨.bl _, H, I, rfl, q⟩
  · obtain ⟨bs, r2⟩ := Dp.reads I _ y u he ry
    exact PySem.SeqAt.in_tuple_data r2 r1 pe pd (room_in hu dd) ⟨.bl _, H, I, rfl, q⟩
theorem op_niP (hu : X.A.units + 64 < cLine) : OpR X (compareOp .NotIn) (rNiP X.K) := by
  intro pins s σ H x y v u Q I rx ry ⟨d, xs, hd, he, pd, pe, dd, q⟩
  obtain ⟨as, r1⟩ := Dp.reads I d x v hd rx
  rcases he with he | he
  · obtain ⟨bs, r2⟩ := Dp.reads I _ y u he ry
    exact PySem.SeqAt.notIn_list_data r2 r1 pe pd (room_in hu dd) ⟨.bl _, H, I, rfl, q⟩
  · obtain ⟨bs, r2⟩ := Dp.reads I _ y u he ry
    exact PySem.SeqAt.notIn_tuple_data r2 r1 pe pd (room_in hu dd) ⟨.bl _, H, I, rfl, q⟩
end
end L2
namespace DL
open PySem L2 StX
section
variable {K : PySem.W.Frag} [Tb K] {Z : ZX} {u u' : Wd} {P : D → Prop} {a b : D} {d e : PyData} {xs : List PyData} {ys : List D}
theorem eqP (h1 : pd a = some d) (h2 : pd b = some e) (p1 : d.plain = true) (p2 : e.plain = true) (hd : d.depth ≤ 64) (h : P (.bl (PyData.eqv d e))) : Op K (rEqP K) a b P := fun u v w Q ex _ d1 d2 k =>
  ⟨d, e, den_dp ex d1 h1, den_dp ex d2 h2, p1, p2, hd, k _ _ u (.refl ex) (.bl _) h⟩
theorem neP (h1 : pd a = some d) (h2 : pd b = some e) (p1 : d.plain = true) (p2 : e.plain = true) (hd : d.depth ≤ 64) (h : P (.bl (!PyData.eqv d e))) : Op K (rNeP K) a b P := fun u v w Q ex _ d1 d2 k =>
  ⟨d, e, den_dp ex d1 h1, den_dp ex d2 h2, p1, p2, hd, k _ _ u (.refl ex) (.bl _) h⟩
theorem ltP (h1 : pd a = some d) (h2 : pd b = some e) (p1 : PySem.W.alike d e = true) (p2 : d ≠ .none) (hd : d.depth ≤ 64) (h : P (.bl (PySem.W.dataLt d e))) : Op K (rLtP K) a b P := fun u v w Q ex _ d1 d2 k =>
  ⟨d, e, den_dp ex d1 h1, den_dp ex d2 h2, p1, p2, hd, k _ _ u (.refl ex) (.bl _) h⟩
theorem gtP (h1 : pd a = some d) (h2 : pd b = some e) (p1 : PySem.W.alike d e = true) (p2 : d ≠ .none) (hd : d.depth ≤ 64) (h : P (.bl (PySem.W.dataLt e d))) : Op K (rGtP K) a b P := fun u v w Q ex _ d1 d2 k =>
  ⟨d, e, den_dp ex d1 h1, den_dp ex d2 h2, p1, p2, hd, k _ _ u (.refl ex) (.bl _) h⟩
theorem leP (h1 : pd a = some d) (h2 : pd b = some e) (p1 : PySem.W.alike d e = true) (p2 : d ≠ .none) (hd : d.depth ≤ 64) (h : P (.bl (!PySem.W.dataLt e d))) : Op K (rLeP K) a b P := fun u v w Q ex _ d1 d2 k =>
  ⟨d, e, den_dp ex d1 h1, den_dp ex d2 h2, p1, p2, hd, k _ _ u (.refl ex) (.bl _) h⟩
theorem geP (h1 : pd a = some d) (h2 : pd b = some e) (p1 : PySem.W.alike d e = true) (p2 : d ≠ .none) (hd : d.depth ≤ 64) (h : P (.bl (!PySem.W.dataLt d e))) : Op K (rGeP K) a b P := fun u v w Q ex _ d1 d2 k =>
  ⟨d, e, den_dp ex d1 h1, den_dp ex d2 h2, p1, p2, hd, k _ _ u (.refl ex) (.bl _) h⟩
theorem inPl (h1 : pd a = some d) (h2 : pds ys = some xs) (p1 : d.plain = true) (p2 : PyData.plainAll xs = true) (hd : d.depth ≤ 60) (h : P (.bl (xs.any fun z => PyData.eqv z d))) : Op K (rInP K) a (.lst ys) P := fun u v w Q ex _ d1 d2 k =>
  ⟨d, xs, den_dp ex d1 h1, .inl (den_dp ex d2 (by simp only [pd, h2]; rfl)), p1, p2, hd, k _ _ u (.refl ex) (.bl _) h⟩
theorem niPl (h1 : pd a = some d) (h2 : pds ys = some xs) (p1 : d.plain = true) (p2 : PyData.plainAll xs = true) (hd : d.depth ≤ 60) (h : P (.bl (!xs.any fun z => PyData.eqv z d))) : Op K (rNiP K) a (.lst ys) P := fun u v w Q ex _ d1 d2 k =>
  ⟨d, xs, den_dp ex d1 h1, .inl (den_dp ex d2 (by simp only [pd, h2]; rfl)), p1, p2, hd, k _ _ u (.refl ex) (.bl _) h⟩
theorem inPt (h1 : pd a = some d) (h2 : pds ys = some xs) (p1 : d.plain = true) (p2 : PyData.plainAll xs = true) (hd : d.depth ≤ 60) (h : P (.bl (xs.any fun z => PyData.eqv z d))) : Op K (rInP K) a (.tup ys) P := fun u v w Q ex _ d1 d2 k =>
  ⟨d, xs, den_dp ex d1 h1, .inr (den_dp ex d2 (by simp only [pd, h2]; rfl)), p1, p2, hd, k _ _ u (.refl ex) (.bl _) h⟩
theorem niPt (h1 : pd a = some d) (h2 : pds ys = some xs) (p1 : d.plain = true) (p2 : PyData.plainAll xs = true) (hd : d.depth ≤ 60) (h : P (.bl (!xs.any fun z => PyData.eqv z d))) : Op K (rNiP K) a (.tup ys) P := fun u v w Q ex _ d1 d2 k =>
  ⟨d, xs, den_dp ex d1 h1, .inr (den_dp ex d2 (by simp only [pd, h2]; rfl)), p1, p2, hd, k _ _ u (.refl ex) (.bl _) h⟩
end
end DL
namespace L2
open PySem PySem.Spec PyProof.Rows
section
variable {X : Cx}
def rSlU (K : PySem.W.Frag) : V → Option Int → Option Int → Hp → VK → Prop := fun x lo hi H Q => rSlS x lo hi H Q ∨ (rSlL K x lo hi H Q ∨ rSlA K x lo hi H Q)
theorem sl_U : SlR X (rSlU X.K) := sl_str.or (sl_list.or sl_tupA)
/-- min, max of a list of data -/
def rMinP (K : PySem.W.Frag) : List V → Hp → VK → Prop := fun xs H Q => ∃ p vs d ds, xs = [.ref p] ∧ SqL K H p vs ∧ DpAll K H vs (d :: ds) ∧ PySem.W.AlikeAll (d :: ds) ∧ PyData.depthAll (d :: ds) ≤ 60 ∧ ∀ (i : Nat) v, vs[i]? = some v → Dp K H v (PySem.W.minD d ds) → Q v H
def rMaxP (K : PySem.W.Frag) : List V → Hp → VK → Prop := fun xs H Q => ∃ p vs d ds, xs = [.ref p] ∧ SqL K H p vs ∧ DpAll K H vs (d :: ds) ∧ PySem.W.AlikeAll (d :: ds) ∧ PyData.depthAll (d :: ds) ≤ 60 ∧ ∀ (i : Nat) v, vs[i]? = some v → Dp K H v (PySem.W.maxD d ds) → Q v H
end
end L2
namespace DL
open PySem L2 StX
section
variable {K : PySem.W.Frag} [Tb K] {Z : ZX} {u u' : Wd} {σ : L2.St} {ds : DS} {P : D → Prop} {te ta tb tc : TE} {tt tu : TT} {i j : Int} {x y : Str} {xs ys : List D} {C : Addr} {a b : D} {p q : Bool}
/-! ### subscripts -/
theorem atI_of {α : Type} {xs : List α} {i : Int} {n : Nat} (h : (0 ≤ i ∧ i.toNat = n ∨ i < 0 ∧ (i + xs.length).toNat = n ∧ -(xs.length : Int) ≤ i)) (hn : n < xs.length) : atI xs i = xs[n]? := by
  unfold atI ixN
  rcases h with ⟨h1, h2⟩ | ⟨h1, h2, h3⟩
  · rw [if_pos h1, if_pos (by omega)]; simp [h2]
  · rw [if_neg (by omega), if_pos h3]; simp [h2]
theorem ix_lst {n : Nat} {d : D} (h0 : 0 ≤ i) (hn : xs[i.toNat]? = some d) (h : P d) : Op K (rIx K) (.lst xs) (.int i) P := fun u v w Q e _ d1 d2 k => by
  obtain ⟨a, vs, rfl, q, r⟩ := den_lst d1
  cases den_int d2
  obtain ⟨z, hz, hd⟩ := r.getD hn
  refine .inl ⟨a, vs, i, z, rfl, rfl, Evl.ex_l e q, ?_, k _ _ u (.refl e) hd h⟩
  rw [atI_of (.inl ⟨h0, rfl⟩) (List.getElem?_eq_some_iff.mp hz).1, hz]
theorem ix_tup {d : D} (h0 : 0 ≤ i) (hn : xs[i.toNat]? = some d) (h : P d) : Op K (rIx K) (.tup xs) (.int i) P := fun u v w Q e _ d1 d2 k => by
  obtain ⟨a, vs, rfl, q, r⟩ := den_tup d1
  cases den_int d2
  obtain ⟨z, hz, hd⟩ := r.getD hn
  refine .inr (.inl ⟨a, vs, i, z, rfl, rfl, Evl.ex_t e q, ?_, k _ _ u (.refl e) hd h⟩)
  rw [atI_of (.inl ⟨h0, rfl⟩) (List.getElem?_eq_some_iff.mp hz).1, hz]
theorem ix_str {c : Nat} (hz : x.length ≤ 1000000) (h0 : 0 ≤ i) (hn : x.cps.toList[i.toNat]? = some c) (h : P (.str ⟨#[c]⟩)) : Op K (rIx K) (.str x) (.int i) P := fun u v w Q e _ d1 d2 k => by
  cases den_str d1
  cases den_int d2
  refine .inr (.inr ⟨x, i, c, rfl, rfl, sz100 hz, ?_, k _ _ u (.refl e) (.str _) h⟩)
  rw [atI_of (.inl ⟨h0, rfl⟩) (List.getElem?_eq_some_iff.mp hn).1, hn]
/-- from behind -/
theorem ix_lstN {d : D} {n : Nat} (h0 : i < 0) (h1 : (i + xs.length).toNat = n) (h2 : -(xs.length : Int) ≤ i) (hn : xs[n]? = some d) (h : P d) : Op K (rIx K) (.lst xs) (.int i) P := fun u v w Q e _ d1 d2 k => by
  obtain ⟨a, vs, rfl, q, r⟩ := den_lst d1
  cases den_int d2
  obtain ⟨z, hz, hd⟩ := r.getD hn
  refine .inl ⟨a, vs, i, z, rfl, rfl, Evl.ex_l e q, ?_, k _ _ u (.refl e) hd h⟩
  rw [atI_of (.inr ⟨h0, by rw [r.len]; exact h1, by rw [r.len]; exact h2⟩) (List.getElem?_eq_some_iff.mp hz).1, hz]
/-! ### slices -/
def cutD (xs : List D) (lo hi : Option Int) : List D := (xs.drop (HT.sIx xs.length 0 lo)).take (HT.sIx xs.length xs.length hi - HT.sIx xs.length 0 lo)
theorem Dens.cut {vs : List V} (r : Dens K u vs xs) (lo hi : Option Int) : Dens K u (cutV vs lo hi) (cutD xs lo hi) := by
  unfold cutV cutD
  rw [r.len]
  exact (r.drop _).take _
theorem sl_lst {lo hi : Option Int} (h : P (.lst (cutD xs lo hi))) : Sl K (rSlU K) (.lst xs) lo hi P := fun u v Q e d1 k => by
  obtain ⟨a, vs, rfl, q, r⟩ := den_lst d1
  exact .inr (.inl ⟨a, vs, rfl, Evl.ex_l e q, fun p hp => k _ _ (u.put p _) (.put e hp) (.lst (SqL.of upd_same) ((r.cut lo hi).mono (Gs.put e hp).ls)) h⟩)
theorem sl_tup {lo hi : Option Int} (h : P (.tup (cutD xs lo hi))) : Sl K (rSlU K) (.tup xs) lo hi P := fun u v Q e d1 k => by
  obtain ⟨a, vs, rfl, q, r⟩ := den_tup d1
  refine .inr (.inr ⟨a, vs, rfl, Evl.ex_t e q, fun ⟨h1, h2⟩ => ?_, fun _ p hp => k _ _ (u.put p _) (.put e hp) (.tup (SqT.of upd_same) ((r.cut lo hi).mono (Gs.put e hp).ls)) h⟩)
  have z : cutD xs lo hi = xs := by
    unfold cutD
    rw [r.len] at h1 h2
    rw [h1, h2]
    simp
  rw [z] at h
  exact k _ _ u (.refl e) (.tup q r) h
theorem sl_str {lo hi : Option Int} (hz : x.length ≤ 1000000) (h : P (.str (cutS x lo hi))) : Sl K (rSlU K) (.str x) lo hi P := fun u v Q e d1 k => by
  cases den_str d1
  exact .inl ⟨x, rfl, sz100 hz, k _ _ u (.refl e) (.str _) h⟩
/-! ### built-ins -/
abbrev rLen' (K : PySem.W.Frag) [Tb K] : List V → Hp → VK → Prop := fun xs H Q => ∃ x n, xs = [x] ∧ LenV K x H n ∧ Q (.int n) H
theorem len_lst (h : P (.int xs.length)) : Cb K (rLen' K) [.lst xs] P := fun u vs Q e r k => by
  obtain ⟨v, rfl, r1⟩ := dens1 r
  obtain ⟨a, ws, rfl, q, r2⟩ := den_lst r1
  exact ⟨_, ws.length, rfl, .inl ⟨ws, Evl.ex_l e q, rfl⟩, by rw [r2.len]; exact k _ _ u (.refl e) (.int _) h⟩
theorem len_tup (h : P (.int xs.length)) : Cb K (rLen' K) [.tup xs] P := fun u vs Q e r k => by
  obtain ⟨v, rfl, r1⟩ := dens1 r
  obtain ⟨a, ws, rfl, q, r2⟩ := den_tup r1
  exact ⟨_, ws.length, rfl, .inr ⟨ws, Evl.ex_t e q, rfl⟩, by rw [r2.len]; exact k _ _ u (.refl e) (.int _) h⟩
theorem len_str (hz : x.length ≤ 1000000) (h : P (.int x.length)) : Cb K (rLen' K) [.str x] P := fun u vs Q e r k => by
  obtain ⟨v, rfl, r1⟩ := dens1 r
  cases den_str r1
  exact ⟨_, x.length, rfl, ⟨sz100 hz, rfl⟩, k _ _ u (.refl e) (.int _) h⟩
abbrev rInt1 : List V → Hp → VK → Prop := fun xs H Q => (∃ i, xs = [.int i] ∧ Q (.int i) H) ∨ ∃ k, xs = [.bl k] ∧ Q (.int (if k then 1 else 0)) H
theorem int_int (h : P (.int i)) : Cb K rInt1 [.int i] P := fun u vs Q e r k => by
  obtain ⟨v, rfl, r1⟩ := dens1 r
  cases den_int r1
  exact .inl ⟨i, rfl, k _ _ u (.refl e) (.int _) h⟩
abbrev rMin2 : List V → Hp → VK → Prop := fun xs H Q => ∃ i j, xs = [.int i, .int j] ∧ Q (.int (if j < i then j else i)) H
abbrev rMax2 : List V → Hp → VK → Prop := fun xs H Q => ∃ i j, xs = [.int i, .int j] ∧ Q (.int (if j > i then j else i)) H
theorem min_int (h : P (.int (if j < i then j else i))) : Cb K rMin2 [.int i, .int j] P := fun u vs Q e r k => by
  obtain ⟨v, w, rfl, r1, r2⟩ := dens2 r
  cases den_int r1
  cases den_int r2
  exact ⟨i, j, rfl, k _ _ u (.refl e) (.int _) h⟩
theorem max_int (h : P (.int (if j > i then j else i))) : Cb K rMax2 [.int i, .int j] P := fun u vs Q e r k => by
  obtain ⟨v, w, rfl, r1, r2⟩ := dens2 r
  cases den_int r1
  cases den_int r2
  exact ⟨i, j, rfl, k _ _ u (.refl e) (.int _) h⟩
theorem dens_ints {vs : List V} {ns : List Int} (r : Dens K u vs (ns.map D.int)) : vs = ns.map V.int := by
  induction ns generalizing vs with
  | nil => exact dens0 r
  | cons n ns ih =>
    cases r with
    | cons a b => rw [den_int a, ih b]; rfl
theorem dens_strs {vs : List V} {ns : List Str} (r : Dens K u vs (ns.map D.str)) : vs = ns.map V.str := by
  induction ns generalizing vs with
  | nil => exact dens0 r
  | cons n ns ih =>
    cases r with
    | cons a b => rw [den_str a, ih b]; rfl
theorem ints_dens (ns : List Int) : Dens K u (ns.map V.int) (ns.map D.int) := by
  induction ns with
  | nil => exact .nil
  | cons n ns ih => exact .cons (.int n) ih
theorem strs_dens (ns : List Str) : Dens K u (ns.map V.str) (ns.map D.str) := by
  induction ns with
  | nil => exact .nil
  | cons n ns ih => exact .cons (.str n) ih
theorem sum_ints {ns : List Int} (h : P (.int ns.sum)) : Cb K (rSum K) [.lst (ns.map D.int)] P := fun u vs Q e r k => by
  obtain ⟨v, rfl, r1⟩ := dens1 r
  obtain ⟨a, ws, rfl, q, r2⟩ := den_lst r1
  have ew := dens_ints r2
  subst ew
  exact ⟨a, ns, rfl, Evl.ex_l e q, k _ _ u (.refl e) (.int _) h⟩
abbrev rTupOf (K : PySem.W.Frag) [Tb K] : List V → Hp → VK → Prop := fun xs H Q => ∃ p ys, xs = [.ref p] ∧ ((SqL K H p ys ∧ ∀ l, H l = none → Q (.ref l) (upd H l (.tup ys))) ∨ (SqT K H p ys ∧ Q (.ref p) H))
theorem tuple_lst (h : P (.tup xs)) : Cb K (rTupOf K) [.lst xs] P := fun u vs Q e r k => by
  obtain ⟨v, rfl, r1⟩ := dens1 r
  obtain ⟨a, ws, rfl, q, r2⟩ := den_lst r1
  exact ⟨a, ws, rfl, .inl ⟨Evl.ex_l e q, fun p hp => k _ _ (u.put p _) (.put e hp) (.tup (SqT.of upd_same) (r2.mono (Gs.put e hp).ls)) h⟩⟩
theorem tuple_tup (h : P (.tup xs)) : Cb K (rTupOf K) [.tup xs] P := fun u vs Q e r k => by
  obtain ⟨v, rfl, r1⟩ := dens1 r
  obtain ⟨a, ws, rfl, q, r2⟩ := den_tup r1
  exact ⟨a, ws, rfl, .inr ⟨Evl.ex_t e q, k _ _ u (.refl e) r1 h⟩⟩
abbrev rLstOf (K : PySem.W.Frag) [Tb K] : List V → Hp → VK → Prop := fun xs H Q => ∃ p ys, xs = [.ref p] ∧ (SqL K H p ys ∨ SqT K H p ys) ∧ ∀ l, H l = none → Q (.ref l) (upd H l (.lst ys))
theorem list_lst (h : P (.lst xs)) : Cb K (rLstOf K) [.lst xs] P := fun u vs Q e r k => by
  obtain ⟨v, rfl, r1⟩ := dens1 r
  obtain ⟨a, ws, rfl, q, r2⟩ := den_lst r1
  exact ⟨a, ws, rfl, .inl (Evl.ex_l e q), fun p hp => k _ _ (u.put p _) (.put e hp) (.lst (SqL.of upd_same) (r2.mono (Gs.put e hp).ls)) h⟩
theorem list_tup (h : P (.lst xs)) : Cb K (rLstOf K) [.tup xs] P := fun u vs Q e r k => by
  obtain ⟨v, rfl, r1⟩ := dens1 r
  obtain ⟨a, ws, rfl, q, r2⟩ := den_tup r1
  exact ⟨a, ws, rfl, .inr (Evl.ex_t e q), fun p hp => k _ _ (u.put p _) (.put e hp) (.lst (SqL.of upd_same) (r2.mono (Gs.put e hp).ls)) h⟩
theorem rgV_den (i j : Int) : Dens K u (rgV i j) (rng i (j - i).toNat) := by
  unfold rgV rng
  induction List.range (j - i).toNat with
  | nil => exact .nil
  | cons n ns ih => exact .cons (.int _) ih
theorem we_listRg1 {ds : DS} {n : Nat} {P : D → Nat → Prop} (h : We K Z ta ds n fun d m => ∃ j : Int, d = .int j ∧ 0 ≤ j ∧ j ≤ 1000000 ∧ P (.lst (rng 0 j.toNat)) m) : We K Z (tLstRg (tRg1 ta)) ds n P := fun b u σ Q e S k =>
  h b u σ _ e S fun v d u1 g1 s1 r ⟨j, z, h0, h1, p⟩ => by
    subst z
    cases den_int r
    refine ⟨j, rfl, .of_le (by omega) (by omega) (by omega) h0, fun l hl => ?_⟩
    have z := rgV_den (K := K) (u := u1) 0 j
    rw [Int.sub_zero] at z
    exact k _ _ (u1.put l _) (g1.trans (.put g1.c hl)) (s1.put g1.c hl) (.lst (SqL.of upd_same) (z.mono (Gs.put g1.c hl).ls)) p
theorem we_listRg2 {ds : DS} {n : Nat} {P : D → Nat → Prop} (h : We K Z ta ds n fun d m => We K Z tb ds m fun e k => ∃ i j : Int, d = .int i ∧ e = .int j ∧ (-1000000 ≤ i ∧ i ≤ 1000000 ∧ -1000000 ≤ j ∧ j ≤ 1000000) ∧ P (.lst (rng i (j - i).toNat)) k) : We K Z (tLstRg (tRg2 ta tb)) ds n P := fun b u σ Q e S k =>
  h b u σ _ e S fun v d u1 g1 s1 r q => q b u1 σ _ rfl (S.go g1 s1) fun v2 d2 u2 g2 s2 r2 ⟨i, j, e1, e2, hb, p⟩ => by
    subst e1 e2
    cases den_int r
    cases den_int r2
    refine ⟨i, j, rfl, rfl, ⟨by omega, by omega, by omega, by omega, by omega⟩, fun l hl => ?_⟩
    exact k _ _ (u2.put l _) ((g1.trans g2).trans (.put g2.c hl)) (s2.put g2.c hl) (.lst (SqL.of upd_same) ((rgV_den i j).mono (Gs.put g2.c hl).ls)) p
/-! ### isinstance -/
def tyD : D → Option String
  | .non => some "NoneType"
  | .bl _ => some "bool"
  | .int _ => some "int"
  | .str _ => some "str"
  | .lst _ => some "list"
  | .tup _ => some "tuple"
  | .dct _ => some "dict"
  | _ => none
theorem den_ty {v : V} {d : D} {T : String} (h : Den K u v d) (ht : tyD d = some T) : TyX K u.H0 v (.type T) := by
  cases h with
  | non => cases ht; exact .base .non
  | bl => cases ht; exact .base (.bl _)
  | int => cases ht; exact .base (.int _)
  | str => cases ht; exact .base (.str _)
  | lst q r =>
    cases ht
    rcases q with (q | ⟨o, q⟩) | ⟨o, its, n, hk, hc, _⟩
    · exact .base (.lst q)
    · exact .base (.frz q)
    · exact .kList hk hc
  | tup q r =>
    cases ht
    rcases q with (q | ⟨o, q⟩) | ⟨o, its, n, hk, hc, _⟩
    · exact .base (.tup q)
    · exact .fTuple q
    · exact .kTuple hk hc
  | dct q r =>
    cases ht
    rcases q with q | ⟨o, q⟩
    · exact .base (.dK q)
    · exact .fDict q
  | _ => cases ht
theorem isi_ty {T T' : String} {r : Bool} (ht : tyD a = some T) (hk : kitB T T' = some r) (h : P (.bl r)) : Cb K (rIsi K) [a, .ty T'] P := fun u vs Q e rs k => by
  obtain ⟨v, w, rfl, r1, r2⟩ := dens2 rs
  cases r2
  exact ⟨v, .ty T', .type T, .type T', r, rfl, .ty _, den_ty (u := ⟨u.S, u.T, u.n, u.H1, u.H1⟩) (Den.mono (show Le u ⟨u.S, u.T, u.n, u.H1, u.H1⟩ from ⟨fun _ h => h, fun _ _ => rfl, e⟩) r1) ht, kit_ty hk, k _ _ u (.refl e) (.bl _) h⟩
/-! ### truth -/
def truD : D → Option Bool
  | .non => some false
  | .bl b => some b
  | .int i => some (i != 0)
  | .lst xs => some (!xs.isEmpty)
  | .tup xs => some (!xs.isEmpty)
  | _ => none
theorem isEmpty_den {vs : List V} (r : Dens K u vs xs) : vs.isEmpty = xs.isEmpty := by cases r <;> rfl
theorem den_tru {v : V} {d : D} {b : Bool} (h : Den K u v d) (ht : truD d = some b) : TruV K v u.H0 b := by
  cases h with
  | non => cases ht; rfl
  | bl => cases ht; rfl
  | int => cases ht; rfl
  | lst q r => cases ht; exact .inl ⟨_, q, by rw [isEmpty_den r]⟩
  | tup q r => cases ht; exact .inr (.inl ⟨_, q, by rw [isEmpty_den r]⟩)
  | _ => cases ht
theorem den_truE {H : Hp} {v : V} {d : D} {b : Bool} (x : Ex u.H0 H) (h : Den K u v d) (ht : truD d = some b) : TruV K v H b := den_tru (u := ⟨u.S, u.T, u.n, H, H⟩) (Den.mono (show Le u ⟨u.S, u.T, u.n, H, H⟩ from ⟨fun _ h => h, fun _ _ => rfl, x⟩) h) ht
theorem we_orT {ds : DS} {n : Nat} {P : D → Nat → Prop} (h : We K Z ta ds n fun d m => ∃ k, truD d = some k ∧ if k = true then P d m else We K Z tb ds m P) : We K Z (tOrT K ta tb) ds n P := fun b u σ Q e S k =>
  h b u σ _ e S fun v d u1 g1 s1 r ⟨c, ht, q⟩ => by
    refine ⟨c, den_truE g1.c r ht, ?_⟩
    cases c with
    | true => exact k _ _ u1 g1 s1 r q
    | false => exact q b u1 σ Q rfl (S.go g1 s1) fun v d u2 g2 s2 r p => k v d u2 (g1.trans g2) s2 r p
theorem wt_tru {ds : DS} {n : Nat} {P : Bool → Nat → Prop} (h : We K Z ta ds n fun d m => ∃ k, truD d = some k ∧ P k m) : Wt K Z (L2.tTru K ta) ds n P := fun b u σ Q e S k =>
  h b u σ _ e S fun v d u1 g1 s1 r ⟨c, ht, q⟩ => ⟨c, den_truE g1.c r ht, k _ u1 g1 s1 q⟩
/-! ### methods of texts -/
/-- s.m(e), s a text -/
def Mt (K : PySem.W.Frag) [Tb K] (r : V → List V → Hp → VK → Prop) (a : Str) (y : D) (P : D → Prop) : Prop :=
  ∀ (u : Wd) (w : V) (Q : VK), Ex u.H0 u.H1 → Den K u w y → (∀ z d u', Gp K u u' → Den K u' z d → P d → Q z u'.H1) → r (.str a) [w] u.H1 Q
theorem we_m1 {ds : DS} {n : Nat} {P : D → Nat → Prop} {r : V → List V → Hp → VK → Prop} (h : We K Z ta ds n fun d m => ∃ a, d = .str a ∧ We K Z tb ds m fun y k => Mt K r a y fun z => P z k) : We K Z (tM1 r ta tb) ds n P := fun b u σ Q e S k =>
  h b u σ _ e S fun v d u1 g1 s1 rr ⟨a, z, q⟩ => by
    subst z
    cases den_str rr
    exact ⟨⟨a, rfl⟩, q b u1 σ _ rfl (S.go g1 s1) fun w y u2 g2 s2 r2 hm => hm u2 w Q g2.c r2 fun t d u3 g3 r p => k t d u3 ((g1.trans g2).trans g3.g) (g3.st s2) r (g3.n ▸ p)⟩
theorem mt_countD (h : P (.int (Txt.count x y))) : Mt K (fun x xs H Q => ∃ a b, x = .str a ∧ xs = [.str b] ∧ Q (.int (Txt.count a b)) H) x (.str y) P := fun u w Q e d1 k => by
  cases den_str d1
  exact ⟨x, y, rfl, rfl, k _ _ u (.refl e) (.int _) h⟩
theorem mt_rfindD (h : P (.int (Txt.rfind x y))) : Mt K (fun x xs H Q => ∃ a b, x = .str a ∧ xs = [.str b] ∧ Q (.int (Txt.rfind a b)) H) x (.str y) P := fun u w Q e d1 k => by
  cases den_str d1
  exact ⟨x, y, rfl, rfl, k _ _ u (.refl e) (.int _) h⟩
theorem mt_splitD (h1 : (y.length == 0) = false) (h2 : x.length ≤ 1000000) (h : P (.lst ((Txt.split x y).map D.str))) : Mt K (fun x xs H Q => ∃ a b, x = .str a ∧ xs = [.str b] ∧ (b.length == 0) = false ∧ a.length + 2 ≤ sizeLine ∧ rNewStrs (Txt.split a b) H Q) x (.str y) P := fun u w Q e d1 k => by
  cases den_str d1
  exact ⟨x, y, rfl, rfl, h1, Nat.le_trans (Nat.add_le_add_right h2 2) (by decide), fun p hp => k _ _ (u.put p _) (.put e hp) (.lst (SqL.of upd_same) (strs_dens _)) h⟩
theorem mt_joinD {zs : List Str} (h1 : (zs.map (·.length)).sum + zs.length * x.length ≤ 1000000) (h : P (.str (Txt.join x zs))) :
    Mt K (fun x xs H Q => ∃ a p, ∃ ys : List Str, x = .str a ∧ xs = [.ref p] ∧ (SqL K H p (ys.map V.str) ∨ SqT K H p (ys.map V.str)) ∧ (ys.map (·.length)).sum + ys.length * a.length ≤ 16777216 ∧ Q (.str (Txt.join a ys)) H) x (.lst (zs.map D.str)) P := fun u w Q e d1 k => by
  obtain ⟨a, ws, rfl, q, r2⟩ := den_lst d1
  have ew := dens_strs r2
  subst ew
  exact ⟨x, a, zs, rfl, rfl, .inl (Evl.ex_l e q), Nat.le_trans h1 (by decide), k _ _ u (.refl e) (.str _) h⟩
end
end DL
namespace L2
open PySem PySem.Spec PyProof.Rows StX
section
variable {X : Cx}
theorem min_at {σ : L2.St} {pins : List (Addr × Obj)} {H : Hp} {s : Shared} {vs : List V} {its : List Value} {ds : List PyData} {h' : Heap} {m : PyData} {i : Nat} {v : Value} {bs : List Addr} (I : Inv X pins σ H s) (r : Vals vs its) (hd : DpAll X.K H vs ds) (hp : PyData.plainAll ds = true)
    (k : ∀ b o, s.heap.get? b = some o → h'.get? b = some o) (hv : its.toArray[i]? = some v) (hr : Reads h' v m bs) : ∃ w, vs[i]? = some w ∧ RelV w v ∧ ds[i]? = some m := by
  have hv' : its[i]? = some v := by simpa using hv
  obtain ⟨w, hw, rw_, d, hdi, hdd⟩ : ∃ w, vs[i]? = some w ∧ RelV w v ∧ ∃ d, ds[i]? = some d ∧ Dp X.K H w d := by
    clear hv hr hp
    induction ds generalizing vs its i with
    | nil => cases hd; cases r; simp at hv'
    | cons d0 ds ih =>
      cases hd with
      | cons h1 h2 =>
        cases r with
        | cons r1 r2 =>
          cases i with
          | zero => simp at hv'; subst hv'; exact ⟨_, rfl, r1, _, rfl, h1⟩
          | succ i =>
            obtain ⟨w, a, b, d, c, e⟩ := ih r2 h2 (by simpa using hv')
            exact ⟨w, by simpa using a, b, d, by simpa using c, e⟩
  obtain ⟨as, q⟩ := Dp.reads I d w v hdd rw_
  have pl : d.plain = true := by
    clear hdd q hd r hv' hv rw_ hw hr
    induction ds generalizing i with
    | nil => simp at hdi
    | cons x xs ih =>
      rw [PyData.plainAll, Bool.and_eq_true] at hp
      cases i with
      | zero => simp at hdi; subst hdi; exact hp.1
      | succ i => exact ih hp.2 (by simpa using hdi)
  have e : d = m := PySem.SeqAt.plain_unique d m v _ _ pl (Reads.keeps k q) hr
  subst e
  exact ⟨w, hw, rw_, hdi⟩
def rMinQ (K : PySem.W.Frag) : List V → Hp → VK → Prop := fun xs H Q => ∃ p vs d ds, xs = [.ref p] ∧ SqL K H p vs ∧ DpAll K H vs (d :: ds) ∧ PySem.W.AlikeAll (d :: ds) ∧ PyData.plainAll (d :: ds) = true ∧ PyData.depthAll (d :: ds) ≤ 60 ∧ ∀ (i : Nat) v, vs[i]? = some v → (d :: ds)[i]? = some (PySem.W.minD d ds) → Q v H
def rMaxQ (K : PySem.W.Frag) : List V → Hp → VK → Prop := fun xs H Q => ∃ p vs d ds, xs = [.ref p] ∧ SqL K H p vs ∧ DpAll K H vs (d :: ds) ∧ PySem.W.AlikeAll (d :: ds) ∧ PyData.plainAll (d :: ds) = true ∧ PyData.depthAll (d :: ds) ≤ 60 ∧ ∀ (i : Nat) v, vs[i]? = some v → (d :: ds)[i]? = some (PySem.W.maxD d ds) → Q v H
theorem call_minP (hc : X.calm = true) (hu : X.A.units + 64 < cLine) : CallR X (.builtin "min") (rMinQ X.K) := by
  intro pins s σ H xs us Q I r ⟨p, vs, d, ds, e, hq, hd, ha, hp, hz, q⟩
  subst e
  obtain ⟨u1, rfl, r1⟩ := vals1 r
  cases r1
  obtain ⟨its, rv, pl, _⟩ := I.list hq
  obtain ⟨as, hr⟩ := Dp.readsAll I (d :: ds) vs its hd rv
  refine PySem.W.min_list_data (I.ok.hd hc) pl.isList (by simpa using hr) ha (by have := hz; omega) fun i v h' tk bs hv hr' hk => ?_
  obtain ⟨w, hw, rw_, hdw⟩ := min_at I rv hd hp hk hv hr'
  exact ⟨w, H, I.kept hk, rw_, q i w hw hdw⟩
theorem call_maxP (hc : X.calm = true) (hu : X.A.units + 64 < cLine) : CallR X (.builtin "max") (rMaxQ X.K) := by
  intro pins s σ H xs us Q I r ⟨p, vs, d, ds, e, hq, hd, ha, hp, hz, q⟩
  subst e
  obtain ⟨u1, rfl, r1⟩ := vals1 r
  cases r1
  obtain ⟨its, rv, pl, _⟩ := I.list hq
  obtain ⟨as, hr⟩ := Dp.readsAll I (d :: ds) vs its hd rv
  refine PySem.W.max_list_data (I.ok.hd hc) pl.isList (by simpa using hr) ha (by have := hz; omega) fun i v h' tk bs hv hr' hk => ?_
  obtain ⟨w, hw, rw_, hdw⟩ := min_at I rv hd hp hk hv hr'
  exact ⟨w, H, I.kept hk, rw_, q i w hw hdw⟩
/-- x(e, ..), x an instance -/
def tCallO' (C : Addr) (sp : Sp) (E : XK) (tf : TE) (t : TA) : TE := fun σ H Q => tf σ H fun y H1 => ∃ a, y = V.ref a ∧ t σ H1 fun vs H2 => (∃ dx fs, H2 a = some (.ins C dx fs)) ∧ sp (V.ref a :: vs) H2 Q E
variable {CX : CXT} {k : Nat} {C : Addr} {sp : Sp} {E : XK} {e fe : Expr} {es : List Expr} {tf : TE} {t : TA} {pos : Pos} {g : Addr}
theorem pe_callO' (hf : PE X fe tf) (c : CallO X.K C g) (F : FnR X.prog X.w X.K X.mg X.base CX k g sp) (hr : Room k X.A) (hx : Passes CX X E) (ha : PA X (e :: es) t)
    (ht : eval (.Call fe (e :: es) [] pos) X.env = (do callWith pos (← eval fe X.env) [] (backTo pos (starEach (e :: es) X.env)) (backToKw pos (keywordEach [] X.env))) := by rfl)
    (he : starEach (e :: es) X.env = (false, eval e X.env) :: starEach es X.env := by rfl) (hpl : (backTo pos (starEach es X.env)).any (·.1) = false := by rfl) : PE X (.Call fe (e :: es) [] pos) (tCallO' C sp E tf t) := by
  refine ⟨fun pins s σ H Q I h => ?_⟩
  refine Call_ (thn (hf.run pins s σ H _ I h) fun u s1 ⟨y, H1, I1, ry, a, ey, q⟩ => ?_) ht
  subst ey
  obtain rfl : u = Value.ref a := ry
  refine callO_with (thn (ha.run pos pins s1 σ H1 _ I1 q) fun us s2 ⟨vs, H2, I2, r, hi, q2⟩ => ?_) he hpl
  obtain ⟨ox, od, J, hd⟩ := insC_at I2 (.inr hi)
  exact ⟨⟨C, ox, od, J, hd⟩, run_callO c F hr hx I2 (.inr hi) r q2⟩
theorem FnOk.raw0 {P : Program} {w : World} {K : PySem.W.Frag} {mg : Str → Option Value} {base : Heap} {f : Addr} {fd : FuncData} {ps : List Str} (F : FnOk P w K mg base CX k f fd ps sp) (hb : Binds K fd ps []) : FnR P w K mg base CX k f sp :=
  (F.raw hb .nil).imp fun vs H Q E h => by rw [List.append_nil]; exact h
end
abbrev rCount : V → List V → Hp → VK → Prop := fun x xs H Q => ∃ a b, x = .str a ∧ xs = [.str b] ∧ Q (.int (Txt.count a b)) H
abbrev rRfind : V → List V → Hp → VK → Prop := fun x xs H Q => ∃ a b, x = .str a ∧ xs = [.str b] ∧ Q (.int (Txt.rfind a b)) H
abbrev rSplit : V → List V → Hp → VK → Prop := fun x xs H Q => ∃ a b, x = .str a ∧ xs = [.str b] ∧ (b.length == 0) = false ∧ a.length + 2 ≤ sizeLine ∧ rNewStrs (Txt.split a b) H Q
abbrev rJoin (K : PySem.W.Frag) : V → List V → Hp → VK → Prop := fun x xs H Q => ∃ a p, ∃ ys : List Str, x = .str a ∧ xs = [.ref p] ∧ (SqL K H p (ys.map V.str) ∨ SqT K H p (ys.map V.str)) ∧ (ys.map (·.length)).sum + ys.length * a.length ≤ 16777216 ∧ Q (.str (Txt.join a ys)) H
abbrev rOrd' : List V → Hp → VK → Prop := fun xs H Q => ∃ x, xs = [.str x] ∧ x.length = 1 ∧ Q (.int (x.cps.getD 0 0 : Nat)) H
end L2
namespace DL
open PySem L2 StX
section
variable {K : PySem.W.Frag} [Tb K] {Z : ZX} {u u' : Wd} {σ : L2.St} {ds : DS} {P : D → Prop} {te ta tb tc : TE} {tt tu : TT} {C : Addr} {E : XK} {R : Rl} {N : Nd}
theorem pds_get : ∀ {xs : List D} {es : List PyData} {i : Nat} {x : D} {e : PyData}, pds xs = some es → xs[i]? = some x → es[i]? = some e → pd x = some e
  | [], _, _, _, _, _, h, _ => by simp at h
  | y :: ys, es, i, x, e, h, hx, he => by
    simp only [pds] at h
    cases hp : pd y with
    | none => rw [hp] at h; cases h
    | some d =>
      rw [hp] at h
      cases hq : pds ys with
      | none => rw [hq] at h; cases h
      | some ds =>
        rw [hq] at h
        cases h
        cases i with
        | zero => simp at hx he; subst hx he; exact hp
        | succ i => exact pds_get hq (by simpa using hx) (by simpa using he)
/-- min(l), max(l): one of the items, that holds the data -/
theorem min_lst {xs : List D} {d : PyData} {es : List PyData} (h1 : pds xs = some (d :: es)) (ha : PySem.W.AlikeAll (d :: es)) (hp : PyData.plainAll (d :: es) = true) (hz : PyData.depthAll (d :: es) ≤ 60) (h : ∀ x, x ∈ xs → pd x = some (PySem.W.minD d es) → P x) : Cb K (rMinQ K) [.lst xs] P := fun u vs Q e r k => by
  obtain ⟨v, rfl, r1⟩ := dens1 r
  obtain ⟨a, ws, rfl, q, r2⟩ := den_lst r1
  refine ⟨a, ws, d, es, rfl, Evl.ex_l e q, dens_dp e r2 h1, ha, hp, hz, fun i v hv hd => ?_⟩
  obtain ⟨x, hx, hdx⟩ := r2.get hv
  exact k v x u (.refl e) hdx (h x (List.mem_of_getElem? hx) (pds_get h1 hx hd))
theorem max_lst {xs : List D} {d : PyData} {es : List PyData} (h1 : pds xs = some (d :: es)) (ha : PySem.W.AlikeAll (d :: es)) (hp : PyData.plainAll (d :: es) = true) (hz : PyData.depthAll (d :: es) ≤ 60) (h : ∀ x, x ∈ xs → pd x = some (PySem.W.maxD d es) → P x) : Cb K (rMaxQ K) [.lst xs] P := fun u vs Q e r k => by
  obtain ⟨v, rfl, r1⟩ := dens1 r
  obtain ⟨a, ws, rfl, q, r2⟩ := den_lst r1
  refine ⟨a, ws, d, es, rfl, Evl.ex_l e q, dens_dp e r2 h1, ha, hp, hz, fun i v hv hd => ?_⟩
  obtain ⟨x, hx, hdx⟩ := r2.get hv
  exact k v x u (.refl e) hdx (h x (List.mem_of_getElem? hx) (pds_get h1 hx hd))
/-- x(..) of an instance -/
theorem we_callO' {ds : DS} {n : Nat} {P : D → Nat → Prop} {t : TA} (h : We K Z ta ds n fun o m => ∃ fs, o = .obj C fs ∧ Wa K Z t ds m fun xs k => R (o :: xs) k P noX) : We K Z (tCallO' C (spD K R) E ta t) ds n P := fun b u σ Q e S k =>
  h b u σ _ e S fun v o u1 g1 s1 r ⟨fs, z, q⟩ => by
    subst z
    obtain ⟨a, dx, fv, rfl, ha, hf⟩ := den_obj r
    refine ⟨a, rfl, q b u1 σ _ rfl (S.go g1 s1) fun vs xs u2 g2 s2 r2 p2 => ⟨⟨dx, fv, g2.c _ _ (g2.a _ _ ha)⟩, ?_⟩⟩
    exact ⟨u2, _ :: xs, P, noX, rfl, g2.c, s2, .cons (r.mono g2.ls) r2, p2, fun v d u3 g3 s3 r' p' => k v d u3 ((g1.trans g2).trans g3) s3 r' p', xok_no⟩
end
end DL

namespace DL
open PySem L2 StX
section
variable {K : PySem.W.Frag} [Tb K] {Z : ZX} {b u u' u'' : Wd} {σ : L2.St} {ds : DS} {n : Nat} {P : D → Nat → Prop} {te ta tb tc : TE} {tt tu : TT} {N : Nd} {ts t1 t2 : TS} {g : TG} {De : Ends}
/-! ### streams -/
theorem ixN0 : ixN 3 0 = some 0 := by decide
theorem ixN1 : ixN 3 1 = some 1 := by decide
theorem strm_at {i : Nat} {a : Addr} {k : SK} (S : Sd K Z b u σ ds) (hd : ds[i]? = some (some (.strm a k))) : σ[i]? = some (some (.ref a)) ∧ u.S a ∧ u.T a = k ∧ u.H0 a = none ∧ ∃ o, u.H1 a = some o ∧ SO K u k o := by
  obtain ⟨v, hv, hS⟩ := S.sl i _ hd
  obtain ⟨rfl, hs, ht⟩ := den_strm (hS.imm rfl)
  obtain ⟨h0, o, h1, q⟩ := S.st a hs
  rw [ht] at q
  exact ⟨hv, hs, ht, h0, o, h1, q⟩
theorem we_strm {i : Nat} {a : Addr} (hd : ds[i]? = some (some (.strm a .l3))) (j : Int) (k : Nat) (hj : j = k) (h : ∀ x c m : Int, 0 ≤ x → 0 ≤ c → c ≤ n → 0 ≤ m → m < 2147483648 → ∃ z, [x, c, m][k]? = some z ∧ P (.int z) n) : We K Z (tOp (rIx K) (tVar i) (tC (.int j))) ds n P := fun b u σ Q e S kk => by
  subst e hj
  obtain ⟨hv, hs, ht, h0, o, h1, x, c, m, rfl, x0, c0, cn, m0, mb⟩ := strm_at S hd
  obtain ⟨z, hz, p⟩ := h x c m x0 c0 cn m0 mb
  refine ⟨.ref a, hv, .inl ⟨a, _, (k : Int), .int z, rfl, rfl, SqL.of h1, ?_, kk _ _ u (.refl S.ex) S.st (.int z) p⟩⟩
  have hk : k < 3 := by
    have := (List.getElem?_eq_some_iff.mp hz).1
    simpa using this
  have hz' : [V.int x, V.int c, V.int m][k]? = some (V.int z) := by
    match k, hk with
    | 0, _ => simp at hz ⊢; exact hz
    | 1, _ => simp at hz ⊢; exact hz
    | 2, _ => simp at hz ⊢; exact hz
  exact (atI_of (xs := [V.int x, V.int c, V.int m]) (n := k) (.inl ⟨by omega, by omega⟩) hk).trans hz'
theorem gs_strm {a : Addr} {o : HO} {k : Nat} (e : Ex u.H0 u.H1) (s : StOk K u) (hs : u.S a) (hk : u.n ≤ k) (ho : SO K ⟨u.S, u.T, k, u.H0, upd u.H1 a o⟩ (u.T a) o) : Gs u ⟨u.S, u.T, k, u.H0, upd u.H1 a o⟩ ∧ StOk K ⟨u.S, u.T, k, u.H0, upd u.H1 a o⟩ := by
  obtain ⟨a0, o1, a1, _⟩ := s a hs
  refine ⟨⟨.refl _, fun x w ns hx => ?_, fun x hx => ?_, fun x w hx => ?_, fun x h h' => absurd h h', fun _ h => h, fun _ _ => rfl, fun _ h => .inl h, hk⟩, ⟨fun x hx => ?_, s.tb, s.on⟩⟩
  · exact (upd_ne (fun q : x = a => ns (by rw [q]; exact hs))).trans hx
  · show upd u.H1 a o x ≠ none
    by_cases q : x = a
    · rw [q, upd_same]; simp
    · rw [upd_ne q]; exact hx
  · exact (upd_ne (fun q => by rw [q, a0] at hx; cases hx)).trans (e x w hx)
  · obtain ⟨x0, w, x1, xs⟩ := s x hx
    by_cases q : x = a
    · subst q
      exact ⟨x0, o, upd_same, ho⟩
    · exact ⟨x0, w, (upd_ne q).trans x1, xs.mono ⟨fun _ h => h, fun _ _ => rfl, .refl _⟩ hk⟩
theorem ws_setS1 {i : Nat} {a : Addr} (hd : ds[i]? = some (some (.strm a .l3))) (h : We K Z te ds n fun d m => ∃ x : Int, d = .int x ∧ 0 ≤ x ∧ x ≤ m + 1 ∧ N.nx ds (m + 1)) : Ws K Z (tAsg te (gSub (tVar i) (tC (.int 1)) rSetL)) ds n N := fun b u σ De e S O =>
  h b u σ _ e S fun v d u1 g1 s1 r ⟨x, z, x0, xn, p⟩ => by
    subst z
    cases den_int r
    have S1 := S.go g1 s1
    obtain ⟨hv, hs, ht, h0, o, h1, x', c, m, rfl, x0', c0, cn, m0, mb⟩ := strm_at S1 hd
    obtain ⟨gg, ss⟩ := gs_strm (o := .lst [.int x', .int x, .int m]) (k := u1.n + 1) g1.c s1 hs (by omega) (by rw [ht]; exact ⟨x', x, m, rfl, x0', x0, by show x ≤ ((u1.n + 1 : Nat) : Int); omega, m0, mb⟩)
    exact ⟨.ref a, hv, a, _, 1, 1, rfl, rfl, h1, ixN1, O.nx _ ⟨u1.S, u1.T, u1.n + 1, u1.H0, upd u1.H1 a (.lst [.int x', .int x, .int m])⟩ _ (g1.trans gg).ls (S1.go gg ss) p⟩
theorem ws_setS0 {i : Nat} {a : Addr} (hd : ds[i]? = some (some (.strm a .l3))) (h : We K Z te ds n fun d m => ∃ x : Int, d = .int x ∧ 0 ≤ x ∧ N.nx ds m) : Ws K Z (tAsg te (gSub (tVar i) (tC (.int 0)) rSetL)) ds n N := fun b u σ De e S O =>
  h b u σ _ e S fun v d u1 g1 s1 r ⟨x, z, x0, p⟩ => by
    subst z
    cases den_int r
    have S1 := S.go g1 s1
    obtain ⟨hv, hs, ht, h0, o, h1, x', c, m, rfl, x0', c0, cn, m0, mb⟩ := strm_at S1 hd
    obtain ⟨gg, ss⟩ := gs_strm (o := .lst [.int x, .int c, .int m]) (k := u1.n) g1.c s1 hs (Nat.le_refl _) (by rw [ht]; exact ⟨x, c, m, rfl, x0, c0, cn, m0, mb⟩)
    exact ⟨.ref a, hv, a, _, 0, 0, rfl, rfl, h1, ixN0, O.nx _ ⟨u1.S, u1.T, u1.n, u1.H0, upd u1.H1 a (.lst [.int x, .int c, .int m])⟩ _ (g1.trans gg).ls (S1.go gg ss) p⟩
/-- a new stream -/
theorem new_strm {k : SK} {o : HO} {q : Addr} (e : Ex u.H0 u.H1) (s : StOk K u) (hq : u.H1 q = none) (ho : SO K u k o) (hkt : ∀ z, k ≠ .tbl z := by intro _ z; cases z) : Gs u ⟨fun a => u.S a ∨ a = q, fun a => if a = q then k else u.T a, u.n, u.H0, upd u.H1 q o⟩ ∧ StOk K ⟨fun a => u.S a ∨ a = q, fun a => if a = q then k else u.T a, u.n, u.H0, upd u.H1 q o⟩ := by
  have q0 : u.H0 q = none := ex_none e hq
  have nq : ∀ a, u.S a → a ≠ q := fun a ha z => by
    obtain ⟨_, w, a1, _⟩ := s a ha
    rw [z, hq] at a1; cases a1
  have l : Le u ⟨fun a => u.S a ∨ a = q, fun a => if a = q then k else u.T a, u.n, u.H0, upd u.H1 q o⟩ := ⟨fun _ h => .inl h, fun a ha => if_neg (nq a ha), .refl _⟩
  refine ⟨⟨.refl _, fun x w _ hx => ex_new hq x w hx, fun x hx => ?_, fun x w hx => ex_new hq x w (e x w hx), fun x h h' => absurd h h', fun _ h => .inl h, fun a ha => if_neg (nq a ha), fun x h => h.elim .inl fun z => .inr (by rw [z]; exact hq), Nat.le_refl _⟩, ⟨?_, fun p hp => ⟨.inl (s.tb p hp).1, (if_neg (nq p.1 (s.tb p hp).1)).trans (s.tb p hp).2⟩, fun a z ha hz => ?_⟩⟩
  · show upd u.H1 q _ x ≠ none
    by_cases z : x = q
    · rw [z, upd_same]; simp
    · rw [upd_ne z]; exact hx
  · rintro a (ha | rfl)
    · obtain ⟨a0, w, a1, as⟩ := s a ha
      refine ⟨a0, w, (upd_ne (nq a ha)).trans a1, ?_⟩
      show SO K _ (if a = q then k else u.T a) w
      rw [if_neg (nq a ha)]
      exact as.mono l (Nat.le_refl _)
    · refine ⟨q0, _, upd_same, ?_⟩
      show SO K _ (if a = a then k else u.T a) o
      rw [if_pos rfl]
      exact ho.mono l (Nat.le_refl _)
  · have hz' : (if a = q then k else u.T a) = .tbl z := hz
    by_cases h : a = q
    · rw [if_pos h] at hz'; exact absurd hz' (hkt z)
    · rw [if_neg h] at hz'; exact s.on a z (ha.resolve_right h) hz'
theorem ws_retS {t : TA} (h : Wa K Z t ds n fun xs m => ∃ x c y : Int, xs = [.int x, .int c, .int y] ∧ 0 ≤ x ∧ 0 ≤ c ∧ c ≤ m ∧ 0 ≤ y ∧ y < 2147483648 ∧ ∀ p, N.rt (.strm p .l3) m) : Ws K Z (tRet (tLst t)) ds n N := fun b u σ De e S O =>
  h b u σ _ e S fun vs xs u1 g1 s1 r ⟨x, c, y, z, x0, c0, cm, y0, yb, p⟩ => by
    subst z
    obtain ⟨v1, v2, v3, rfl, r1, r2, r3⟩ := dens3 r
    cases den_int r1
    cases den_int r2
    cases den_int r3
    refine ⟨by show 3 ≤ sizeLine; decide, fun q hq => ?_⟩
    obtain ⟨gg, ss⟩ := new_strm (k := .l3) (o := .lst [.int x, .int c, .int y]) g1.c s1 hq ⟨x, c, y, rfl, x0, c0, cm, y0, yb⟩
    exact O.rt (.strm q .l3) _ _ ((S.gr.trans g1).trans gg) ss (.strm (.inr rfl) (if_pos rfl)) (p q)
end
/-! ### comparisons of known forms -/
section
variable {K : PySem.W.Frag} [Tb K] {Z : ZX} {P : D → Prop} {i j k l : Int} {p q : Bool} {x y : Str}
theorem b_eq {α : Type} [DecidableEq α] (a b : α) : (a == b) = decide (a = b) := by
  by_cases h : a = b
  · subst h; simp
  · simp [h]
theorem eq_int (h : P (.bl (decide (i = j)))) : Op K (rEqP K) (.int i) (.int j) P := eqP (d := .int i) (e := .int j) rfl rfl rfl rfl (by simp [PyData.depth, PyData.depthAll]) (by simpa [PyData.eqv, b_eq] using h)
theorem ne_int (h : P (.bl (!decide (i = j)))) : Op K (rNeP K) (.int i) (.int j) P := neP (d := .int i) (e := .int j) rfl rfl rfl rfl (by simp [PyData.depth, PyData.depthAll]) (by simpa [PyData.eqv, b_eq] using h)
theorem eq_bl (h : P (.bl (decide (p = q)))) : Op K (rEqP K) (.bl p) (.bl q) P := eqP (d := .bool p) (e := .bool q) rfl rfl rfl rfl (by simp [PyData.depth, PyData.depthAll]) (by simpa [PyData.eqv, b_eq] using h)
theorem ne_bl (h : P (.bl (!decide (p = q)))) : Op K (rNeP K) (.bl p) (.bl q) P := neP (d := .bool p) (e := .bool q) rfl rfl rfl rfl (by simp [PyData.depth, PyData.depthAll]) (by simpa [PyData.eqv, b_eq] using h)
theorem eq_str (h : P (.bl (decide (x = y)))) : Op K (rEqP K) (.str x) (.str y) P := eqP (d := .str x) (e := .str y) rfl rfl rfl rfl (by simp [PyData.depth, PyData.depthAll]) (by simpa [PyData.eqv, b_eq] using h)
theorem ne_str (h : P (.bl (!decide (x = y)))) : Op K (rNeP K) (.str x) (.str y) P := neP (d := .str x) (e := .str y) rfl rfl rfl rfl (by simp [PyData.depth, PyData.depthAll]) (by simpa [PyData.eqv, b_eq] using h)
abbrev pos (a b : Int) : D := .tup [.int a, .int b]
abbrev ppos (a b : Int) : PyData := .tuple [.int a, .int b]
theorem pd_pos (a b : Int) : pd (pos a b) = some (ppos a b) := rfl
theorem eqv_pos : PyData.eqv (ppos i j) (ppos k l) = decide (i = k ∧ j = l) := by
  simp [PyData.eqv, PyData.eqvAll, b_eq]
theorem eq_pos (h : P (.bl (decide (i = k ∧ j = l)))) : Op K (rEqP K) (pos i j) (pos k l) P := eqP (pd_pos i j) (pd_pos k l) rfl rfl (by simp [PyData.depth, PyData.depthAll]) (by rw [eqv_pos]; exact h)
theorem ne_pos (h : P (.bl (!decide (i = k ∧ j = l)))) : Op K (rNeP K) (pos i j) (pos k l) P := neP (pd_pos i j) (pd_pos k l) rfl rfl (by simp [PyData.depth, PyData.depthAll]) (by rw [eqv_pos]; exact h)
theorem ne_nn (h : P (.bl false)) : Op K (rNeP K) .non .non P := neP (d := .none) (e := .none) rfl rfl rfl rfl (by simp [PyData.depth, PyData.depthAll]) (by simpa [PyData.eqv] using h)
theorem ne_np (h : P (.bl true)) : Op K (rNeP K) .non (pos k l) P := neP (d := .none) rfl (pd_pos k l) rfl rfl (by simp [PyData.depth, PyData.depthAll]) (by simpa [PyData.eqv] using h)
theorem ne_pn (h : P (.bl true)) : Op K (rNeP K) (pos i j) .non P := neP (pd_pos i j) (e := .none) rfl rfl rfl (by simp [PyData.depth, PyData.depthAll]) (by simpa [PyData.eqv] using h)
theorem lt_int (h : P (.bl (decide (i < j)))) : Op K (rLtP K) (.int i) (.int j) P := ltP (d := .int i) (e := .int j) rfl rfl rfl (fun z => by cases z) (by simp [PyData.depth, PyData.depthAll]) (by rw [PySem.W.dataLt_int]; exact h)
theorem gt_int (h : P (.bl (decide (j < i)))) : Op K (rGtP K) (.int i) (.int j) P := gtP (d := .int i) (e := .int j) rfl rfl rfl (fun z => by cases z) (by simp [PyData.depth, PyData.depthAll]) (by rw [PySem.W.dataLt_int]; exact h)
theorem le_int (h : P (.bl (decide (i ≤ j)))) : Op K (rLeP K) (.int i) (.int j) P := leP (d := .int i) (e := .int j) rfl rfl rfl (fun z => by cases z) (by simp [PyData.depth, PyData.depthAll]) (by
  rw [PySem.W.dataLt_int]
  have e : (!decide (j < i)) = decide (i ≤ j) := by by_cases q : i ≤ j <;> simp [q] <;> omega
  rw [e]; exact h)
theorem ge_int (h : P (.bl (decide (j ≤ i)))) : Op K (rGeP K) (.int i) (.int j) P := geP (d := .int i) (e := .int j) rfl rfl rfl (fun z => by cases z) (by simp [PyData.depth, PyData.depthAll]) (by
  rw [PySem.W.dataLt_int]
  have e : (!decide (i < j)) = decide (j ≤ i) := by by_cases q : j ≤ i <;> simp [q] <;> omega
  rw [e]; exact h)
/-- positions in order -/
abbrev plt (i j k l : Int) : Prop := i < k ∨ i = k ∧ j < l
theorem lt_posv : PySem.W.dataLt (ppos i j) (ppos k l) = decide (plt i j k l) := by
  have h := PySem.W.DatumOrd.lt_eq ((i, j) : Int × Int) ((k, l) : Int × Int)
  refine (show PySem.W.dataLt (ppos i j) (ppos k l) = _ from h).trans ?_
  show (if i = k then decide (j < l) else decide (i < k)) = _
  by_cases q : i = k
  · subst q; simp [plt]
  · simp [plt, q]
theorem lt_pos (h : P (.bl (decide (plt i j k l)))) : Op K (rLtP K) (pos i j) (pos k l) P := ltP (pd_pos i j) (pd_pos k l) rfl (fun z => by cases z) (by simp [PyData.depth, PyData.depthAll]) (by rw [lt_posv]; exact h)
theorem gt_pos (h : P (.bl (decide (plt k l i j)))) : Op K (rGtP K) (pos i j) (pos k l) P := gtP (pd_pos i j) (pd_pos k l) rfl (fun z => by cases z) (by simp [PyData.depth, PyData.depthAll]) (by rw [lt_posv]; exact h)
theorem le_pos (h : P (.bl (!decide (plt k l i j)))) : Op K (rLeP K) (pos i j) (pos k l) P := leP (pd_pos i j) (pd_pos k l) rfl (fun z => by cases z) (by simp [PyData.depth, PyData.depthAll]) (by rw [lt_posv]; exact h)
theorem ge_pos (h : P (.bl (!decide (plt i j k l)))) : Op K (rGeP K) (pos i j) (pos k l) P := geP (pd_pos i j) (pd_pos k l) rfl (fun z => by cases z) (by simp [PyData.depth, PyData.depthAll]) (by rw [lt_posv]; exact h)
theorem isiI {T' : String} {r : Bool} (hk : kitB "int" T' = some r) (h : P (.bl r)) : Cb K (rIsi K) [.int i, .ty T'] P := isi_ty (a := .int i) rfl hk h
theorem isiS {T' : String} {r : Bool} (hk : kitB "str" T' = some r) (h : P (.bl r)) : Cb K (rIsi K) [.str x, .ty T'] P := isi_ty (a := .str x) rfl hk h
theorem isiT {xs : List D} {T' : String} {r : Bool} (hk : kitB "tuple" T' = some r) (h : P (.bl r)) : Cb K (rIsi K) [.tup xs, .ty T'] P := isi_ty (a := .tup xs) rfl hk h
theorem iteD {c A B : Prop} [Decidable c] (h1 : c → A) (h2 : ¬ c → B) : if decide c = true then A else B := by
  by_cases h : c
  · rw [if_pos (decide_eq_true h)]; exact h1 h
  · rw [if_neg (by simp [h])]; exact h2 h
theorem iteND {c A B : Prop} [Decidable c] (h1 : ¬ c → A) (h2 : c → B) : if (!decide c) = true then A else B := by
  by_cases h : c
  · rw [if_neg (by simp [h])]; exact h2 h
  · rw [if_pos (by simp [h])]; exact h1 h
theorem iteNT {A B : Prop} (h : B) : if (!true) = true then A else B := by simpa using h
theorem iteNF {A B : Prop} (h : A) : if (!false) = true then A else B := by simpa using h
end
end DL

namespace DL
open PySem L2 StX
section
variable {K : PySem.W.Frag} [Tb K] {Z : ZX} {b u u' u'' : Wd} {σ : L2.St} {ds : DS} {n : Nat} {P : D → Nat → Prop} {te ta tb tc : TE} {tt tu : TT} {N : Nd} {ts t1 t2 : TS} {g : TG} {De : Ends}
/-- an object that nothing tells of -/
theorem Gs.junk (e : Ex u.H0 u.H1) {p : Addr} {o : HO} (hp : u.H1 p = none) : Gs u ⟨u.S, u.T, u.n, u.H0, upd u.H1 p o⟩ :=
  ⟨.refl _, fun x w _ hx => ex_new hp x w hx, fun x hx => by
      show upd u.H1 p o x ≠ none
      by_cases q : x = p
      · subst q; rw [upd_same]; simp
      · rw [upd_ne q]; exact hx, e.trans (ex_new hp), fun _ a b => absurd a b, fun _ h => h, fun _ _ => rfl, fun _ h => .inl h, Nat.le_refl _⟩
theorem StOk.not (s : StOk K u) {p : Addr} (hp : u.H1 p = none) : ¬ u.S p := fun h => by
  obtain ⟨_, o, h1, _⟩ := s p h
  rw [hp] at h1; cases h1
/-- a, b = e, [] where b is gone on with -/
theorem ws_tupnew {i j : Nat} (h : We K Z te ds n fun d m => N.nx ((ds.set i (some d)).set j (some (.mls []))) m) : Ws K Z (tAsg (tTup (tCons te (tCons (tLst tNil) tNil))) (gTup K 2 (gCons (gName i) (gCons (gName j) gNil)))) ds n N := fun b u σ De e S O =>
  h b u σ _ e S fun v d u1 g1 s1 r hN => ⟨(by show 0 ≤ sizeLine; decide), fun p hp => ⟨(by show 2 ≤ sizeLine; decide), fun q hq => by
    have S2 := ((S.go g1 s1).set (i := i) r).setMls (i := j) (vs := []) hp .nil
    have S3 := S2.go (Gs.junk S2.ex (o := .tup [v, .ref p]) hq) (S2.st.write (S2.st.not hq))
    exact ⟨q, [v, .ref p], rfl, SqT.of upd_same, rfl, v, _, rfl, _, _, rfl, rfl, O.nx _ ⟨u1.S, u1.T, u1.n, u1.H0, _⟩ _ ⟨g1.sub, g1.kd, g1.a⟩ S3 hN⟩⟩⟩
end
end DL

namespace DL
open PySem L2 StX
section
variable {K : PySem.W.Frag} [Tb K] {Z : ZX} {b u u' u'' : Wd} {σ : L2.St} {ds : DS} {n : Nat} {P : D → Nat → Prop} {te ta tb tc tv : TE} {N : Nd} {De : Ends}
/-! ### three keys -/
theorem get1 {k1 k2 k3 : Key} {x y z : V} : valV [(k1, x), (k2, y), (k3, z)] k1 = some x := valV_pos rfl
theorem get2 {k1 k2 k3 : Key} {x y z : V} (h : ¬ k1 = k2) : valV [(k1, x), (k2, y), (k3, z)] k2 = some y := (valV_neg h).trans (valV_pos rfl)
theorem get3 {k1 k2 k3 : Key} {x y z : V} (h : ¬ k1 = k3) (h' : ¬ k2 = k3) : valV [(k1, x), (k2, y), (k3, z)] k3 = some z := (valV_neg h).trans ((valV_neg h').trans (valV_pos rfl))
theorem put2 {k1 k2 k3 : Key} {x y z v : V} (h : ¬ k1 = k2) (h' : ¬ k3 = k2) : putK [(k1, x), (k2, y), (k3, z)] k2 v = [(k1, x), (k2, v), (k3, z)] := by
  simp [putK, h, h']
theorem put3 {k1 k2 k3 : Key} {x y z v : V} (h : ¬ k1 = k3) (h' : ¬ k2 = k3) : putK [(k1, x), (k2, y), (k3, z)] k3 v = [(k1, x), (k2, y), (k3, v)] := by
  simp [putK, h, h']
theorem merge3 {k1 k2 k3 : Key} {x y z : V} (h1 : ¬ k1 = k2) (h2 : ¬ k1 = k3) (h3 : ¬ k2 = k3) : mergeK [] [(k1, x), (k2, y), (k3, z)] = [(k1, x), (k2, y), (k3, z)] := by
  show putK (putK (putK [] k1 x) k2 y) k3 z = _
  rw [putK_new x valV_nil, putK_new (kvs := [] ++ [(k1, x)]) y ((valV_neg h1).trans valV_nil), putK_new (kvs := [] ++ [(k1, x)] ++ [(k2, y)]) z ((valV_neg h2).trans ((valV_neg h3).trans valV_nil))]
  rfl
theorem kca : ¬ ky "cells" = ky "at" := by decide +kernel
theorem kcl : ¬ ky "cells" = ky "left" := by decide +kernel
theorem kal : ¬ ky "at" = ky "left" := by decide +kernel
theorem kla : ¬ ky "left" = ky "at" := by decide +kernel
theorem ksa : ¬ ky "script" = ky "at" := by decide +kernel
theorem ksl : ¬ ky "script" = ky "left" := by decide +kernel
/-! ### the dict with cells -/
theorem we_cAt {i : Nat} {a : Addr} (hd : ds[i]? = some (some (.strm a .cells))) (h : ∀ c : Int, 0 ≤ c → c ≤ n → P (.int c) n) : We K Z (tDGet (tVar i) (tC (.str (Str.ofString "at")))) ds n P := fun b u σ Q e S k => by
  subst e
  obtain ⟨hv, hs, ht, h0, o, h1, l, cs, c, x, rfl, q, z1, z2, z3, z4, z5⟩ := strm_at S hd
  have g := DGet.k (k := ky "at") h1
  rw [get2 kca] at g
  exact ⟨.ref a, hv, a, .int c, rfl, g, k _ _ u (.refl S.ex) S.st (.int c) (h c z3 z4)⟩
theorem we_cLeft {i : Nat} {a : Addr} (hd : ds[i]? = some (some (.strm a .cells))) (h : ∀ x : Int, 0 ≤ x → P (.int x) n) : We K Z (tDGet (tVar i) (tC (.str (Str.ofString "left")))) ds n P := fun b u σ Q e S k => by
  subst e
  obtain ⟨hv, hs, ht, h0, o, h1, l, cs, c, x, rfl, q, z1, z2, z3, z4, z5⟩ := strm_at S hd
  have g := DGet.k (k := ky "left") h1
  rw [get3 kcl kal] at g
  exact ⟨.ref a, hv, a, .int x, rfl, g, k _ _ u (.refl S.ex) S.st (.int x) (h x z5)⟩
theorem we_cCells {i : Nat} {a : Addr} (hd : ds[i]? = some (some (.strm a .cells))) (h : ∀ cs : List Int, cs ≠ [] → cs.length ≤ 1000 → P (.lst (cs.map .int)) n) : We K Z (tDGet (tVar i) (tC (.str (Str.ofString "cells")))) ds n P := fun b u σ Q e S k => by
  subst e
  obtain ⟨hv, hs, ht, h0, o, h1, l, cs, c, x, rfl, q, z1, z2, z3, z4, z5⟩ := strm_at S hd
  have g := DGet.k (k := ky "cells") h1
  rw [get1] at g
  exact ⟨.ref a, hv, a, .ref l, rfl, g, k _ _ u (.refl S.ex) S.st (.lst q (ints_dens cs)) (h cs z1 z2)⟩
theorem ws_cAt {i : Nat} {a : Addr} (hd : ds[i]? = some (some (.strm a .cells))) (h : We K Z tv ds n fun d m => ∃ x : Int, d = .int x ∧ 0 ≤ x ∧ x ≤ m + 1 ∧ N.nx ds (m + 1)) : Ws K Z (sDPut (tVar i) (tC (.str (Str.ofString "at"))) tv) ds n N := fun b u σ De e S O =>
  h b u σ _ e S fun v d u1 g1 s1 r ⟨x, z, x0, xn, p⟩ => by
    subst z
    cases den_int r
    have S1 := S.go g1 s1
    obtain ⟨hv, hs, ht, h0, o, h1, l, cs, c, y, rfl, q, z1, z2, z3, z4, z5⟩ := strm_at S1 hd
    obtain ⟨gg, ss⟩ := gs_strm (o := .dK [(ky "cells", .ref l), (ky "at", .int x), (ky "left", .int y)]) (k := u1.n + 1) g1.c s1 hs (by omega) (by rw [ht]; exact ⟨l, cs, x, y, rfl, q, z1, z2, x0, by show x ≤ ((u1.n + 1 : Nat) : Int); omega, z5⟩)
    have w := DPut.k (k := ky "at") (v := .int x) h1 (by show 3 < sizeLine; decide)
    rw [put2 kca kla] at w
    exact ⟨.ref a, hv, a, _, rfl, w, O.nx _ ⟨u1.S, u1.T, u1.n + 1, u1.H0, _⟩ _ (g1.trans gg).ls (S1.go gg ss) p⟩
theorem ws_cLeft {i : Nat} {a : Addr} (hd : ds[i]? = some (some (.strm a .cells))) (h : We K Z tv ds n fun d m => ∃ x : Int, d = .int x ∧ 0 ≤ x ∧ N.nx ds m) : Ws K Z (sDPut (tVar i) (tC (.str (Str.ofString "left"))) tv) ds n N := fun b u σ De e S O =>
  h b u σ _ e S fun v d u1 g1 s1 r ⟨x, z, x0, p⟩ => by
    subst z
    cases den_int r
    have S1 := S.go g1 s1
    obtain ⟨hv, hs, ht, h0, o, h1, l, cs, c, y, rfl, q, z1, z2, z3, z4, z5⟩ := strm_at S1 hd
    obtain ⟨gg, ss⟩ := gs_strm (o := .dK [(ky "cells", .ref l), (ky "at", .int c), (ky "left", .int x)]) (k := u1.n) g1.c s1 hs (Nat.le_refl _) (by rw [ht]; exact ⟨l, cs, c, x, rfl, q, z1, z2, z3, z4, x0⟩)
    have w := DPut.k (k := ky "left") (v := .int x) h1 (by show 3 < sizeLine; decide)
    rw [put3 kcl kal] at w
    exact ⟨.ref a, hv, a, _, rfl, w, O.nx _ ⟨u1.S, u1.T, u1.n, u1.H0, _⟩ _ (g1.trans gg).ls (S1.go gg ss) p⟩
/-- what was made apart becomes a stream -/
theorem Gs.toStrm {k : SK} {o : HO} {p : Addr} (g : Gs b u) (s : StOk K u) (hb : b.H1 p = none) (h0 : u.H0 p = none) (hS : ¬ u.S p) (ho : SO K u k o) (hkt : ∀ z, k ≠ .tbl z := by intro _ z; cases z) :
    Gs b ⟨fun a => u.S a ∨ a = p, fun a => if a = p then k else u.T a, u.n, u.H0, upd u.H1 p o⟩ ∧ StOk K ⟨fun a => u.S a ∨ a = p, fun a => if a = p then k else u.T a, u.n, u.H0, upd u.H1 p o⟩ := by
  have nq : ∀ a, u.S a → a ≠ p := fun a ha z => hS (z ▸ ha)
  have l : Le u ⟨fun a => u.S a ∨ a = p, fun a => if a = p then k else u.T a, u.n, u.H0, upd u.H1 p o⟩ := ⟨fun _ h => .inl h, fun a ha => if_neg (nq a ha), .refl _⟩
  have w := Gs.write (o := o) g hb h0
  refine ⟨⟨w.a, w.b, w.b', w.c, w.n, fun x h => .inl (g.sub x h), fun x h => (if_neg (nq x (g.sub x h))).trans (g.kd x h), fun x h => h.elim (g.new x) fun z => .inr (by rw [z]; exact hb), g.le⟩, ⟨?_, fun p hp => ⟨.inl (s.tb p hp).1, (if_neg (nq p.1 (s.tb p hp).1)).trans (s.tb p hp).2⟩, fun a z ha hz => ?_⟩⟩
  rotate_left
  · have hz' : (if a = p then k else u.T a) = .tbl z := hz
    by_cases h : a = p
    · rw [if_pos h] at hz'; exact absurd hz' (hkt z)
    · rw [if_neg h] at hz'; exact s.on a z (ha.resolve_right h) hz'
  rintro a (ha | rfl)
  · obtain ⟨a0, w, a1, as⟩ := s a ha
    refine ⟨a0, w, (upd_ne (nq a ha)).trans a1, ?_⟩
    show SO K _ (if a = p then k else u.T a) w
    rw [if_neg (nq a ha)]
    exact as.mono l (Nat.le_refl _)
  · refine ⟨h0, _, upd_same, ?_⟩
    show SO K _ (if a = a then k else u.T a) o
    rw [if_pos rfl]
    exact ho.mono l (Nat.le_refl _)
/-- {"cells": .., "at": .., "left": ..} -/
theorem we_cNew (h : We K Z ta ds n fun d1 m1 => We K Z tb ds m1 fun d2 m2 => We K Z tc ds m2 fun d3 m3 => ∃ (cs : List Int) (c x : Int), d1 = .lst (cs.map .int) ∧ d2 = .int c ∧ d3 = .int x ∧ cs ≠ [] ∧ cs.length ≤ 1000 ∧ 0 ≤ c ∧ c ≤ m3 ∧ 0 ≤ x ∧ ∀ p, P (.strm p .cells) m3) :
    We K Z (tDisp [(tC (.str (Str.ofString "cells")), ta), (tC (.str (Str.ofString "at")), tb), (tC (.str (Str.ofString "left")), tc)]) ds n P := fun b u σ Q e S k => fun p hp => by
  have n0 : u.H0 p = none := ex_none S.ex hp
  have G0 : Gs u _ := Gs.junk S.ex (o := .dK []) hp
  have S0 := S.go G0 (S.st.write (S.st.not hp))
  have nS : ¬ u.S p := S.st.not hp
  refine h b ⟨u.S, u.T, u.n, u.H0, upd u.H1 p (.dK [])⟩ σ _ e S0 fun v1 d1 u1 g1 s1 r1 h2 => h2 b u1 σ _ rfl (S0.go g1 s1) fun v2 d2 u2 g2 s2 r2 h3 => h3 b u2 σ _ rfl ((S0.go g1 s1).go g2 s2) fun v3 d3 u3 g3 s3 r3 ⟨cs, c, x, e1, e2, e3, z1, z2, z3, z4, z5, hP⟩ => ?_
  subst e1 e2 e3
  have gg := (g1.trans g2).trans g3
  have hp3 : u3.H1 p = some (.dK []) := gg.b p _ nS upd_same
  have h03 : u3.H0 p = none := gg.nn n0 upd_same
  have hS3 : ¬ u3.S p := gg.ns nS upd_same
  obtain ⟨l, vs, rfl, q, rr⟩ := den_lst (r1.mono (g2.trans g3).ls)
  have ev := dens_ints rr
  subst ev
  have ec := den_int r2
  subst ec
  have ex := den_int r3
  subst ex
  obtain ⟨g4, s4⟩ := Gs.toStrm (k := .cells) (o := .dK [(ky "cells", .ref l), (ky "at", .int c), (ky "left", .int x)]) (G0.trans gg) s3 hp h03 hS3 ⟨l, cs, c, x, rfl, q, z1, z2, z3, z4, z5⟩
  refine ⟨hp3, [(ky "cells", .ref l), (ky "at", .int c), (ky "left", .int x)], rfl, (by show 3 ≤ 15; decide), ?_⟩
  rw [merge3 kca kcl kal]
  exact k _ _ _ g4 s4 (.strm (.inr rfl) (if_pos rfl)) (hP p)
end
end DL

namespace DL
open PySem L2 StX
/-- an own exception's __init__ that stores its one argument in the field f -/
def spX1 (C : Addr) (f : Str) : Sp := fun vs H Q _ => ∃ a y, vs = [.ref a, y] ∧ H a = some (exo a C none) ∧ ∀ dx, H dx = none → dx ≠ a → Q .non (upd (upd H dx (exd dx [(f, y)])) a (exo a C (some dx)))
/-- raise C(..) -/
def tRaise (E : XK) (C : Addr) (sp : Sp) (ta : TA) : TS := fun _ σ H => tMkO C sp [] ta σ H E
section
variable {K : PySem.W.Frag} [Tb K] {Z : ZX} {b u u' u'' : Wd} {σ : L2.St} {ds : DS} {n : Nat} {P : D → Nat → Prop} {te ta tb tc tv : TE} {N : Nd} {De : Ends} {C : Addr} {f : Str}
theorem ws_raise {t : TA} (h : Wa K Z t ds n fun xs m => ∃ y, xs = [y] ∧ Z.X C [(f, y)] m) : Ws K Z (tRaise Z.E C (spX1 C f) t) ds n N := fun b u σ De e S O =>
  h b u σ _ e S fun vs xs u1 g1 s1 r ⟨y, hx, p⟩ => by
    subst hx
    obtain ⟨v, rfl, r1⟩ := dens1 r
    refine ⟨by show 1 ≤ 1000; decide, fun a ha => ⟨a, v, rfl, upd_same, fun dx hdx ne => ⟨rfl, dx, [(f, v)], upd_same, (upd_ne ne).trans upd_same, ?_, ?_⟩⟩⟩
    · exact (upd_ne ne).symm.trans hdx
    · have hd : u1.H1 dx = none := (upd_ne ne).symm.trans hdx
      have eq : upd (L2.del (upd (upd (upd u1.H1 a (exo a C none)) dx (exd dx [(f, v)])) a (exo a C (some dx))) a) dx (.xd [(f, v)]) = upd u1.H1 dx (.xd [(f, v)]) := by
        funext x
        by_cases q : x = dx
        · rw [q, upd_same, upd_same]
        · rw [upd_ne q, upd_ne q]
          by_cases q2 : x = a
          · rw [q2, L2.del_same, ha]
          · rw [L2.del_ne q2, upd_ne q2, upd_ne q, upd_ne q2]
      rw [eq]
      exact S.xk (.ref C) (some dx) C [(f, y)] (u1.put dx (.xd [(f, v)])) ((S.gr.trans g1).trans (.put g1.c hd)) (s1.put g1.c hd) ⟨rfl, .inr ⟨dx, _, rfl, upd_same, .cons (r1.mono (Gs.put g1.c hd).ls) .nil⟩⟩ p
end
section
variable {Pr : Program} {w : World} {K : PySem.W.Frag} [Tb K] {mg : Str → Option Value} {base : Heap} {C fI : Addr} {f : Str}
theorem ps_raiseD {X : Cx} {E : XK} {CX : CXT} {x : Str} {k : Nat} {fd : FuncData} {ps : List Str} {sp : Sp} {ta : TA} {e : Expr} {es : List Expr} {p pos pos' : Pos} (hc : X.calm = true) (tk : Takes X fun cls d _ H => E cls d H) (T : OexC X.K C) (iC : PySem.W.findIn X.K (.ref C) "__init__" = some (some (.ref fI))) (tI : PySem.W.typeIn X.K (.ref fI) = some (.type "function"))
    (F1 : FnOk X.prog X.w X.K X.mg X.base CX k fI fd ps sp) (hr : Room (k + 1) X.A) (hb : Binds X.K fd ps []) (hx : Passes CX X (fun _ _ _ => False)) (hg : Gl X x) (hm : X.mg x = some (.ref C)) (ha : PA X (e :: es) ta)
    (hdb : (x == ("__debug__" : Str)) = false := by decide) (he : starEach (e :: es) X.env = (false, eval e X.env) :: starEach es X.env := by rfl) (hpl : (backTo pos' (starEach es X.env)).any (·.1) = false := by rfl) :
    PS X (.Raise (some (.Call (.Name x p) (e :: es) [] pos')) none pos) (tRaise E C sp ta) :=
  ps_raise (W := fun cls d _ H => E cls d H) hc tk (pmk_oex T iC tI F1 hr hb .nil hx hg hm ha hdb he hpl)
/-- the __init__ of such a class -/
theorem ok_exc1 {qual : Str} {st : Stmt} {fd : FuncData} {N : List Str} {k : Nat} {a1 a2 : Str} (F : Fun K "__init__" qual st fI fd) (S : FnScope N [a1, a2] (defScope st)) (hN : N = [a1, a2]) (T : OexC K C) (hf : PySem.W.findIn K (.ref C) f = some none)
    (hbody : ∀ (cdv : Value) (A : Around) (outer : List Env) (s : Shared) (H : Hp) (E : XK), PSs (cxOf CX0 Pr w K mg base N qual (defScope st) fI cdv A outer s H E).nox (defBody st) (tOst K f (tVar 0) (tVar 1))) : FnOk Pr w K mg base CX0 (k + 1) fI fd [a1, a2] (spX1 C f) := by
  refine F.ok S (fun vs H Q E ⟨a, y, e, _⟩ => by rw [e]; rfl) (fun cdv A outer s H vs Q E hr ⟨a, y, e, ha, q⟩ => ⟨_, hbody cdv A outer s H E, ?_⟩)
  subst e hN
  exact ⟨y, rfl, .ref a, rfl, a, C, rfl, T, hf, .inl ⟨ha, fun dx h1 h2 => q dx h1 h2⟩⟩
end
end DL

namespace DL
open PySem L2 StX
section
variable {K : PySem.W.Frag} [Tb K] {Z : ZX} {b u u' u'' : Wd} {σ : L2.St} {ds : DS} {n : Nat} {P : D → Nat → Prop} {te ta tb tc tv : TE} {N : Nd} {De : Ends} {tt : TT} {g : TG} {len : Nat}
/-! ### the dict with a list of what is left -/
theorem we_mScript {i : Nat} {a : Addr} (hd : ds[i]? = some (some (.strm a (.mp len)))) (h : ∀ cs : List Int, cs.length = len → P (.lst (cs.map .int)) n) : We K Z (tDGet (tVar i) (tC (.str (Str.ofString "script")))) ds n P := fun b u σ Q e S k => by
  subst e
  obtain ⟨hv, hs, ht, h0, o, h1, l, l2, cs, c, rfl, q, z1, z2, z3, z4, z5⟩ := strm_at S hd
  have w := DGet.k (k := ky "script") h1
  rw [get1] at w
  exact ⟨.ref a, hv, a, .ref l, rfl, w, k _ _ u (.refl S.ex) S.st (.lst q (ints_dens cs)) (h cs z1)⟩
theorem we_mAt {i : Nat} {a : Addr} (hd : ds[i]? = some (some (.strm a (.mp len)))) (h : ∀ c : Int, 0 ≤ c → c ≤ n → P (.int c) n) : We K Z (tDGet (tVar i) (tC (.str (Str.ofString "at")))) ds n P := fun b u σ Q e S k => by
  subst e
  obtain ⟨hv, hs, ht, h0, o, h1, l, l2, cs, c, rfl, q, z1, z2, z3, z4, z5⟩ := strm_at S hd
  have w := DGet.k (k := ky "at") h1
  rw [get2 ksa] at w
  exact ⟨.ref a, hv, a, .int c, rfl, w, k _ _ u (.refl S.ex) S.st (.int c) (h c z2 z3)⟩
theorem we_mLeft {i : Nat} {a : Addr} (hd : ds[i]? = some (some (.strm a (.mp len)))) (h : ∀ l2, P (.strm l2 (.nats len)) n) : We K Z (tDGet (tVar i) (tC (.str (Str.ofString "left")))) ds n P := fun b u σ Q e S k => by
  subst e
  obtain ⟨hv, hs, ht, h0, o, h1, l, l2, cs, c, rfl, q, z1, z2, z3, z4, z5⟩ := strm_at S hd
  have w := DGet.k (k := ky "left") h1
  rw [get3 ksl kal] at w
  exact ⟨.ref a, hv, a, .ref l2, rfl, w, k _ _ u (.refl S.ex) S.st (.strm z4 z5) (h l2)⟩
theorem ws_mAt {i : Nat} {a : Addr} (hd : ds[i]? = some (some (.strm a (.mp len)))) (h : We K Z tv ds n fun d m => ∃ x : Int, d = .int x ∧ 0 ≤ x ∧ x ≤ m + 1 ∧ N.nx ds (m + 1)) : Ws K Z (sDPut (tVar i) (tC (.str (Str.ofString "at"))) tv) ds n N := fun b u σ De e S O =>
  h b u σ _ e S fun v d u1 g1 s1 r ⟨x, z, x0, xn, p⟩ => by
    subst z
    cases den_int r
    have S1 := S.go g1 s1
    obtain ⟨hv, hs, ht, h0, o, h1, l, l2, cs, c, rfl, q, z1, z2, z3, z4, z5⟩ := strm_at S1 hd
    obtain ⟨gg, ss⟩ := gs_strm (o := .dK [(ky "script", .ref l), (ky "at", .int x), (ky "left", .ref l2)]) (k := u1.n + 1) g1.c s1 hs (by omega) (by rw [ht]; exact ⟨l, l2, cs, x, rfl, q, z1, x0, by show x ≤ ((u1.n + 1 : Nat) : Int); omega, z4, z5⟩)
    have w := DPut.k (k := ky "at") (v := .int x) h1 (by show 3 < sizeLine; decide)
    rw [put2 ksa kla] at w
    exact ⟨.ref a, hv, a, _, rfl, w, O.nx _ ⟨u1.S, u1.T, u1.n + 1, u1.H0, _⟩ _ (g1.trans gg).ls (S1.go gg ss) p⟩
theorem nats_at {v : V} {a : Addr} (s : StOk K u) (d : Den K u v (.strm a (.nats len))) : v = .ref a ∧ u.S a ∧ u.T a = .nats len ∧ u.H0 a = none ∧ ∃ xs : List Int, u.H1 a = some (.lst (xs.map V.int)) ∧ xs.length = len ∧ ∀ x ∈ xs, 0 ≤ x := by
  obtain ⟨rfl, hs, ht⟩ := den_strm d
  obtain ⟨h0, o, h1, q⟩ := s a hs
  rw [ht] at q
  obtain ⟨xs, rfl, q1, q2⟩ := q
  exact ⟨rfl, hs, ht, h0, xs, h1, q1, q2⟩
theorem ix_nats {a : Addr} {i : Int} {P : D → Prop} (h0 : 0 ≤ i) (h1 : i < len) (h : ∀ x : Int, 0 ≤ x → P (.int x)) : Op K (rIx K) (.strm a (.nats len)) (.int i) P := fun u v w Q e s d1 d2 k => by
  obtain ⟨rfl, _, _, _, xs, hx, hl, hp⟩ := nats_at s d1
  cases den_int d2
  have hi : i.toNat < xs.length := by omega
  refine .inl ⟨a, _, i, .int xs[i.toNat], rfl, rfl, SqL.of hx, ?_, k _ _ u (.refl e) (.int _) (h _ (hp _ (List.getElem_mem hi)))⟩
  rw [atI_of (n := i.toNat) (.inl ⟨h0, rfl⟩) (by rw [List.length_map]; exact hi), List.getElem?_map, List.getElem?_eq_getElem hi]
  rfl
theorem dp_ints {H : Hp} : ∀ xs : List Int, DpAll K H (xs.map V.int) (xs.map PyData.int)
  | [] => .nil
  | x :: xs => .cons (.int x) (dp_ints xs)
theorem plain_is : ∀ xs : List Int, PyData.plainAll (xs.map PyData.int) = true
  | [] => rfl
  | x :: xs => by simp only [List.map_cons, PyData.plainAll, plain_is xs]; rfl
theorem depth_is : ∀ xs : List Int, PyData.depthAll (xs.map PyData.int) ≤ 1
  | [] => by simp [PyData.depthAll]
  | x :: xs => by
    have := depth_is xs
    simp only [List.map_cons, PyData.depthAll, PyData.depth]
    omega
theorem ne_nats {a : Addr} {P : D → Prop} (h : P (.bl (decide (len ≠ 0)))) : Op K (rNeP K) (.strm a (.nats len)) (.lst []) P := fun u v w Q e s d1 d2 k => by
  obtain ⟨rfl, _, _, _, xs, hx, hl, hp⟩ := nats_at s d1
  refine ⟨.list (xs.map .int), .list [], .lst (SqL.of hx) (dp_ints xs), den_dp e d2 rfl, ?_, rfl, ?_, ?_⟩
  · simp only [PyData.plain, plain_is xs]
  · have := depth_is xs
    simp only [PyData.depth]
    omega
  · have ev : (!PyData.eqv (.list (xs.map PyData.int)) (.list [])) = decide (len ≠ 0) := by
      subst hl
      cases xs <;> simp [PyData.eqv, PyData.eqvAll]
    rw [ev]
    exact k _ _ u (.refl e) (.bl _) h
/-- m["left"][j] = e -/
theorem ws_mSet {i j : Nat} {a : Addr} {x : Int} (hd : ds[i]? = some (some (.strm a (.mp len)))) (hj : ds[j]? = some (some (.int x))) (x0 : 0 ≤ x) (x1 : x < len) (h : We K Z te ds n fun d m => ∃ y : Int, d = .int y ∧ 0 ≤ y ∧ N.nx ds m) :
    Ws K Z (tAsg te (gSub (tDGet (tVar i) (tC (.str (Str.ofString "left")))) (tVar j) rSetL)) ds n N := fun b u σ De e S O =>
  h b u σ _ e S fun v d u1 g1 s1 r ⟨y, z, y0, p⟩ => by
    subst z
    cases den_int r
    have S1 := S.go g1 s1
    obtain ⟨hv, hs, ht, h0, o, h1, l, l2, cs, c, rfl, q, z1, z2, z3, z4, z5⟩ := strm_at S1 hd
    obtain ⟨vj, hvj, hSj⟩ := S1.sl j _ hj
    cases den_int (hSj.imm rfl)
    obtain ⟨_, _, _, m0, xs, hx, hl, hp⟩ := nats_at (len := len) s1 (.strm z4 z5)
    have w := DGet.k (k := ky "left") h1
    rw [get3 ksl kal] at w
    obtain ⟨gg, ss⟩ := gs_strm (o := .lst ((xs.set x.toNat y).map V.int)) (k := u1.n) g1.c s1 z4 (Nat.le_refl _) (by
      rw [z5]
      refine ⟨xs.set x.toNat y, rfl, by rw [List.length_set]; exact hl, fun t ht => ?_⟩
      rcases List.mem_or_eq_of_mem_set ht with q | q
      · exact hp t q
      · rw [q]; exact y0)
    refine ⟨.ref a, hv, a, .ref l2, rfl, w, .int x, hvj, l2, _, x, x.toNat, rfl, rfl, hx, ?_, ?_⟩
    · unfold ixN
      rw [if_pos x0, if_pos (by rw [List.length_map]; omega)]
    · rw [show (xs.map V.int).set x.toNat (V.int y) = (xs.set x.toNat y).map V.int from (List.map_set).symm]
      exact O.nx _ ⟨u1.S, u1.T, u1.n, u1.H0, _⟩ _ (g1.trans gg).ls (S1.go gg ss) p
/-- a comprehension whose list stays apart -/
theorem lc_raw {wi : TI} {vs : List Nat} {Pn : List D → Nat → Prop} {Q : VK} (e : u.n = n) (S : Sd K Z b u σ ds) (h : Wi K Z wi ds n fun xs m => ∃ Iv : Nat → List D → Nat → Prop, Iv 0 [] m ∧
    (∀ i x ys k, xs[i]? = some x → Iv i ys k → Wgc K Z g vs x (wipeD ds vs) fun ds2 => Wt K Z tt ds2 k fun c j => if c = true then We K Z te ds2 j (fun y l => ys.length < 1000000 ∧ Iv (i + 1) (ys ++ [y]) l) else Iv (i + 1) ys j) ∧
    (∀ ys k, Iv xs.length ys k → Pn ys k))
    (kQ : ∀ Dl u1 w acc ys, Gs u u1 → u1.H1 Dl = none → Gs u1 w → StOk K w → w.H0 Dl = none → ¬ w.S Dl → w.H1 Dl = some (.lst acc) → Dens K w acc ys → Pn ys w.n → Q (.ref Dl) w.H1) : tLc wi g tt te vs σ u.H1 Q :=
  h b u σ _ e S fun J xs u1 G Y g1 s1 ⟨Iv, i0, is, idn⟩ w hG hY => fun Dl hD => by
    have n0 : u1.H0 Dl = none := ex_none g1.c hD
    have nS : ¬ u1.S Dl := s1.not hD
    refine lc_it w (fun i H' => ∃ w ys acc, w.H1 = H' ∧ Gs u1 w ∧ StOk K w ∧ w.H0 Dl = none ∧ ¬ w.S Dl ∧ H' Dl = some (.lst acc) ∧ Dens K w acc ys ∧ Iv i ys w.n)
      ⟨⟨u1.S, u1.T, u1.n, u1.H0, upd u1.H1 Dl (.lst [])⟩, [], [], rfl, (Gs.refl g1.c).write hD n0, s1.write nS, n0, nS, upd_same, .nil, i0⟩ (fun i H' _ ⟨w, ys, acc, eh, g', _⟩ => eh ▸ hG w g'.ls g'.c) ?_ ?_
    · rintro i v H' H'' hi ⟨w, ys, acc, rfl, g', sw, c0, cS, hc, hr, iv⟩ y
      obtain ⟨x, w', rfl, hx, g2, r⟩ := hY w i v H'' g'.ls g'.c sw hi y
      have c1 := g2.g.nn c0 hc
      have cS1 := g2.g.ns cS hc
      have hc1 := g2.g.b _ _ cS hc
      have S1 := ((S.go g1 s1).go (g'.trans g2.g) (g2.st sw)).wipe vs
      have q := is i x ys w.n hx iv
      rw [← g2.n] at q
      refine q b w' (L2.wipe σ vs) v _ S1 r fun ds2 σ2 S2 l2 f2 q => ⟨wipe_of (l2.trans (wipe_length _ _)) f2, q b w' σ2 _ rfl S2 fun c u3 g3 s3 q3 => ?_⟩
      have c2 := g3.nn c1 hc1
      have cS2 := g3.ns cS1 hc1
      have hc2 := g3.b _ _ cS1 hc1
      cases c with
      | false => exact ⟨u3, ys, acc, rfl, (g'.trans g2.g).trans g3, s3, c2, cS2, hc2, hr.mono (g2.g.ls.trans g3.ls), q3⟩
      | true =>
        refine q3 b u3 σ2 _ rfl (S2.go g3 s3) fun y d u4 g4 s4 r4 ⟨hl, p4⟩ => ?_
        have c3 := g4.nn c2 hc2
        have cS3 := g4.ns cS2 hc2
        have hc3 := g4.b _ _ cS2 hc2
        have l4 : Le u4 ⟨u4.S, u4.T, u4.n, u4.H0, upd u4.H1 Dl (.lst (acc ++ [y]))⟩ := ⟨fun _ h => h, fun _ _ => rfl, .refl _⟩
        exact ⟨acc, hc3, by rw [hr.len]; exact Nat.lt_of_lt_of_le hl (by decide), ⟨u4.S, u4.T, u4.n, u4.H0, upd u4.H1 Dl (.lst (acc ++ [y]))⟩, ys ++ [d], acc ++ [y], rfl, (((g'.trans g2.g).trans g3).trans g4).write hD c3, s4.write cS3, c3, cS3, upd_same, ((hr.mono ((g2.g.ls.trans g3.ls).trans g4.ls)).app (.cons r4 .nil)).mono l4, p4⟩
    · rintro H' ⟨w, ys, acc, rfl, g', sw, c0, cS, hc, hr, iv⟩
      exact kQ Dl u1 w acc ys g1 hD g' sw c0 cS hc hr (idn ys _ iv)
theorem tP3 {a c d e : V} {ta tb : TE} {H : Hp} {Q : List (V × V) → Hp → Prop} (h : ta σ H fun y1 H1 => tb σ H1 fun y3 H3 => Q [(a, y1), (c, d), (e, y3)] H3) : tPairs [(tC a, ta), (tC c, tC d), (tC e, tb)] σ H Q := h
theorem upd_id {H : Hp} {a : Addr} {o : HO} (h : H a = some o) : upd H a o = H := by
  funext x
  by_cases q : x = a
  · rw [q, upd_same, h]
  · rw [upd_ne q]
/-- return {"script": script, "at": 0, "left": [..]} -/
theorem ws_mNew {wi : TI} {vs : List Nat} {cs : List Int} (hd : ds[0]? = some (some (.lst (cs.map .int)))) (h : Wi K Z wi ds n fun xs m => ∃ Iv : Nat → List D → Nat → Prop, Iv 0 [] m ∧
    (∀ i x ys k, xs[i]? = some x → Iv i ys k → Wgc K Z g vs x (wipeD ds vs) fun ds2 => Wt K Z tt ds2 k fun c j => if c = true then We K Z te ds2 j (fun y l => ys.length < 1000000 ∧ Iv (i + 1) (ys ++ [y]) l) else Iv (i + 1) ys j) ∧
    (∀ ys k, Iv xs.length ys k → ∃ zs : List Int, ys = zs.map D.int ∧ zs.length = cs.length ∧ (∀ z ∈ zs, 0 ≤ z) ∧ ∀ p, N.rt (.strm p (.mp cs.length)) k)) :
    Ws K Z (tRet (tDisp [(tC (.str (Str.ofString "script")), tVar 0), (tC (.str (Str.ofString "at")), tC (.int 0)), (tC (.str (Str.ofString "left")), tLc wi g tt te vs)])) ds n N := fun b u σ De e S O => fun p hp => by
  have G0 : Gs u ⟨u.S, u.T, u.n, u.H0, upd u.H1 p (.dK [])⟩ := Gs.junk S.ex (o := .dK []) hp
  have nS : ¬ u.S p := S.st.not hp
  have n0 : u.H0 p = none := ex_none S.ex hp
  have S0 := S.go G0 (S.st.write nS)
  obtain ⟨v, hv, hS⟩ := S0.sl 0 _ hd
  obtain ⟨l, vl, rfl, q, rr⟩ := den_lst (hS.imm rfl)
  have ev := dens_ints rr
  subst ev
  refine tP3 ⟨.ref l, hv, ?_⟩
  refine lc_raw (b := b) (u := ⟨u.S, u.T, u.n, u.H0, upd u.H1 p (.dK [])⟩) e S0 h fun Dl u1 w acc ys g1 hD g2 sw c0 cS hc hr ⟨zs, e1, e2, e3, hP⟩ => ?_
  subst e1
  have ea := dens_ints hr
  subst ea
  have gg := g1.trans g2
  have hp3 : w.H1 p = some (.dK []) := gg.b p _ nS upd_same
  have h03 : w.H0 p = none := gg.nn n0 upd_same
  have hS3 : ¬ w.S p := gg.ns nS upd_same
  have hDu : u.H1 Dl = none := by
    cases q : u.H1 Dl with
    | none => rfl
    | some o => exact absurd hD (g1.b' Dl (G0.b' Dl (by rw [q]; simp)))
  have pD : p ≠ Dl := fun z => by rw [z, hc] at hp3; cases hp3
  obtain ⟨g3, s3⟩ := Gs.toStrm (k := .nats cs.length) (o := .lst (zs.map V.int)) (G0.trans gg) sw hDu c0 cS ⟨zs, rfl, e2, e3⟩
  have hq3 := gg.a.trans (.refl _)
  obtain ⟨g4, s4⟩ := Gs.toStrm (k := .mp cs.length) (p := p) (o := .dK [(ky "script", .ref l), (ky "at", .int 0), (ky "left", .ref Dl)]) g3 s3 hp h03 (fun z => z.elim hS3 pD) ⟨l, Dl, cs, 0, rfl, Evl.ex_l gg.a q, rfl, Int.le_refl _, Int.natCast_nonneg _, .inr rfl, if_pos rfl⟩
  refine ⟨hp3, [(ky "script", .ref l), (ky "at", .int 0), (ky "left", .ref Dl)], rfl, (by show 3 ≤ 15; decide), ?_⟩
  rw [merge3 ksa ksl kal]
  have key := O.rt (.strm p (.mp cs.length)) (.ref p) _ (S.gr.trans g4) s4 (.strm (.inr rfl) (if_pos rfl)) (hP p)
  simp only [upd_id hc] at key
  exact key
end
end DL

namespace L2
open PySem
theorem OexG.xf {K : PySem.W.Frag} {C : Addr} {tl : List Value} {n : String} (T : OexG K C tl n) : XfC K C := ⟨T.ga, T.gg, T.ex, T.hd⟩
theorem OexG.xc {K : PySem.W.Frag} {C : Addr} {tl : List Value} {n : String} (T : OexG K C tl n) : ExcC K C := ⟨T.ga, T.gg, T.ex, T.hd, T.ha, T.hn, T.ht, T.hm⟩
end L2
namespace DL
open PySem L2 StX
section
variable {K : PySem.W.Frag} [Tb K] {Z Z' : ZX} {b u u' u'' : Wd} {σ : L2.St} {ds : DS} {n : Nat} {P : D → Nat → Prop} {te : TE} {N : Nd} {De : Ends}
/-- slots that hold no thing that is being made -/
def immO : Option D → Option D
  | some d => if isMut d then none else some d
  | none => none
def immDS (ds : DS) : DS := ds.map immO
theorem imm_get {i : Nat} {d : D} (h : (immDS ds)[i]? = some (some d)) : ds[i]? = some (some d) ∧ isMut d = false := by
  unfold immDS at h
  rw [List.getElem?_map] at h
  cases q : ds[i]? with
  | none => rw [q] at h; cases h
  | some o =>
    rw [q] at h
    cases o with
    | none => cases h
    | some e =>
      simp only [Option.map_some, immO] at h
      by_cases m : isMut e = true
      · rw [if_pos m] at h; cases h
      · rw [if_neg m] at h
        cases h
        exact ⟨rfl, by simpa using m⟩
/-- the same slots from here on -/
theorem Sd.imm (S : Sd K Z b u σ ds) {w : Wd} (l : Le u w) (e : Ex w.H0 w.H1) (st : StOk K w) (xk : XOk K Z' w) : Sd K Z' w w σ (immDS ds) := by
  refine ⟨.refl e, xk, st, by simp [S.len, immDS], fun i d h => ?_, fun i j d e a c h1 h2 m1 m2 => ?_⟩
  · obtain ⟨q, m⟩ := imm_get h
    obtain ⟨v, h1, h2⟩ := S.sl i d q
    exact ⟨v, h1, .den ((h2.imm m).mono l)⟩
  · rw [(imm_get h1).2] at m1; cases m1
theorem DenS.rebase {v : V} {d : D} (g : Gs b u) (h : DenS K u u' v d) : DenS K b u' v d := by
  have nb : ∀ {a}, u.H1 a = none → b.H1 a = none := fun {a} h => by
    cases q : b.H1 a with
    | none => rfl
    | some o => exact absurd h (g.b' a (by rw [q]; simp))
  cases h with
  | den h => exact .den h
  | mls a1 a2 a3 a4 a5 => exact .mls (nb a1) a2 a3 a4 a5
  | mob a1 a2 a3 a4 a5 a6 a7 => exact .mob (nb a1) a2 a3 a4 a5 a6 a7
  | mdk a1 a2 a3 a4 a5 => exact .mdk (nb a1) a2 a3 a4 a5
theorem Sd.rebase (S : Sd K Z' u u' σ ds) (g : Gs b u) (xk : XOk K Z b) : Sd K Z b u' σ ds :=
  ⟨g.trans S.gr, xk, S.st, S.len, fun i d h => let ⟨v, h1, h2⟩ := S.sl i d h; ⟨v, h1, h2.rebase g⟩, S.ap⟩
theorem Sd.blank (S : Sd K Z b u σ ds) {σ' : L2.St} {len : Nat} (h : σ'.length = len) : Sd K Z b u σ' (List.replicate len none) := by
  refine ⟨S.gr, S.xk, S.st, by simp [h], fun i d q => ?_, fun i j d e a c q => ?_⟩ <;> (rw [List.getElem?_replicate] at q; split at q <;> cases q)
theorem den_exc {a C : Addr} {d : Option Addr} {fs : List (Str × D)} {w : Wd} (e : DenE K w (.ref C) d C fs) (ha : w.H0 a = some (xo a (.ref C) d)) : Den K w (.ref a) (.exc C fs) := by
  rcases e.2 with ⟨rfl, rfl⟩ | ⟨dx, vs, rfl, h1, h2⟩
  · exact .exc0 ha
  · exact .exc ha h1 h2
theorem DenE.mono {C : Addr} {cls : Value} {d : Option Addr} {fs : List (Str × D)} (l : Le u u') (e : DenE K u cls d C fs) : DenE K u' cls d C fs := ⟨e.1, e.2.imp id fun ⟨dx, vs, h1, h2, h3⟩ => ⟨dx, vs, h1, l.h _ _ h2, h3.mono l⟩⟩
/-- try: .. except cs as e: .. -/
theorem ws_try {cs : List Value} {i len : Nat} {ts : TS} {t : XK → TS} (hl : ds.length = len) (X1 : Xp) (hb : ∀ E, Ws K ⟨E, X1⟩ (t E) (immDS ds) n N)
    (hc : ∀ C fs m, X1 C fs m → PySem.W.exmAny K (.ref C) cs = some true ∧ Ws K Z ts ((List.replicate len none).set i (some (.exc C fs))) m { nx := fun ds' k => N.nx (ds'.set i none) k, rt := N.rt, bk := fun ds' k => N.bk (ds'.set i none) k, ct := fun ds' k => N.ct (ds'.set i none) k }) :
    Ws K Z (tTryK K cs i ts (tTryB len t)) ds n N := fun b u σ De e S O => by
  refine ⟨fun cls d H' => ∀ σ', σ'.length = len → wKeep K cs i ts De cls d σ' H', fun cls d σ' H' h l => h σ' l, ?_⟩
  refine hb _ u u σ De e (S.imm .refl S.ex S.st ?_) ⟨fun ds' w σ' x S' q => O.nx ds' w σ' x (S'.rebase S.gr S.xk) q, fun d v w g st r q => O.rt d v w (S.gr.trans g) st r q, fun ds' w σ' x S' q => O.bk ds' w σ' x (S'.rebase S.gr S.xk) q, fun ds' w σ' x S' q => O.ct ds' w σ' x (S'.rebase S.gr S.xk) q⟩
  intro cls d C fs w g st hd hx σ' hl'
  obtain rfl := hd.1
  obtain ⟨hm, hs⟩ := hc C fs w.n hx
  refine ⟨hm, fun a ha => ?_⟩
  have G1 : Gs u (w.put a (xo a (.ref C) d)) := g.trans (.put g.c ha)
  have S1 : Sd K Z b (w.put a (xo a (.ref C) d)) (σ'.set i (some (.ref a))) ((List.replicate len none).set i (some (.exc C fs))) :=
    ((S.go G1 (st.put g.c ha)).blank hl').set (den_exc (hd.mono (Gs.put g.c ha).ls) upd_same)
  exact hs b (w.put a (xo a (.ref C) d)) _ _ rfl S1 ⟨fun ds' w' σ'' x S' q => O.nx _ w' _ (G1.ls.trans x) S'.drop q, O.rt, fun ds' w' σ'' x S' q => O.bk _ w' _ (G1.ls.trans x) S'.drop q, fun ds' w' σ'' x S' q => O.ct _ w' _ (G1.ls.trans x) S'.drop q⟩
/-- error.f -/
theorem we_exf {f : Str} (h : We K Z te ds n fun x m => ∃ C fs d, x = .exc C fs ∧ XfC K C ∧ PySem.W.findIn K (.ref C) f = some none ∧ fs.lookup f = some d ∧ P d m) : We K Z (tExf K f te) ds n P := fun b u σ Q e S k =>
  h b u σ _ e S fun v x u1 g1 s1 d1 ⟨C, fs, d, z, T, hn, hl, p⟩ => by
    subst z
    cases d1 with
    | exc h1 h2 h3 =>
      obtain ⟨w, q1, q2⟩ := h3.look hl
      exact ⟨_, C, _, _, w, rfl, g1.c _ _ h1, g1.c _ _ h2, T, hn, q1, k w d u1 g1 s1 q2 p⟩
    | exc0 h1 => simp at hl
/-- isinstance(error, C) -/
theorem isX {P : D → Prop} {C c : Addr} {fs : List (Str × D)} {r : Bool} (T : ExcC K C) (e : PySem.W.kitOne K (.ref C) (.ref c) = some r) (h : P (.bl r)) : Cb K (rIsX K) [.exc C fs, .cls c] P := fun u vs Q ex rr k => by
  obtain ⟨v, w, rfl, r1, r2⟩ := dens2 rr
  cases r2
  cases r1 with
  | exc h1 h2 h3 => exact ⟨_, C, _, .ref c, .ref c, r, rfl, ex _ _ h1, .inr ⟨_, _, rfl, ex _ _ h2⟩, T, fun u h => h, e, k _ _ u (.refl ex) (.bl _) h⟩
  | exc0 h1 => exact ⟨_, C, _, .ref c, .ref c, r, rfl, ex _ _ h1, .inl rfl, T, fun u h => h, e, k _ _ u (.refl ex) (.bl _) h⟩
theorem isXt {P : D → Prop} {C : Addr} {c : String} {fs : List (Str × D)} {r : Bool} (T : ExcC K C) (e : PySem.W.kitOne K (.ref C) (.type c) = some r) (h : P (.bl r)) : Cb K (rIsX K) [.exc C fs, .ty c] P := fun u vs Q ex rr k => by
  obtain ⟨v, w, rfl, r1, r2⟩ := dens2 rr
  cases r2
  cases r1 with
  | exc h1 h2 h3 => exact ⟨_, C, _, .ty c, .type c, r, rfl, ex _ _ h1, .inr ⟨_, _, rfl, ex _ _ h2⟩, T, fun u h => h, e, k _ _ u (.refl ex) (.bl _) h⟩
  | exc0 h1 => exact ⟨_, C, _, .ty c, .type c, r, rfl, ex _ _ h1, .inl rfl, T, fun u h => h, e, k _ _ u (.refl ex) (.bl _) h⟩
/-! ### lambdas -/
/-- what is told of a lambda's reading, from the world u0 on -/
def TlOk (K : PySem.W.Frag) [Tb K] (tl : XK → Hp → VK → Prop) (u0 : Wd) (n0 : Nat) (P : D → Nat → Prop) (X0 : Xp) : Prop :=
  ∀ (E : XK) (w : Wd) (Q : VK), Le u0 w → w.n = n0 → Ex w.H0 w.H1 → StOk K w → (∀ v d w', Gs w w' → StOk K w' → Den K w' v d → P d w'.n → Q v w'.H1) → XOk K ⟨E, X0⟩ w → tl E w.H1 Q
theorem we_act {E : XK} {X0 : Xp} {j : Nat} {f c' : Addr} {q : Str} {tl : XK → Hp → VK → Prop} {u0 : Wd} (hd : ds[j]? = some (some (.lam f c' q u0))) (T : TlOk K tl u0 n P X0) : We K ⟨E, X0⟩ (tAct j f c' q (tl E)) ds n P := fun b u σ Q e S k => by
  obtain ⟨v, h1, h2⟩ := S.sl j _ hd
  cases h2 with
  | den h =>
    cases h with
    | lam l hc => exact ⟨h1, S.ex _ _ hc, T E u Q l e S.ex S.st k (S.xk.at S.gr)⟩
abbrev Rg := (D → Nat → Prop) → Xp → Nat → (D → Nat → Prop) → Prop
def TTd (K : PySem.W.Frag) [Tb K] (q : Str) (RG : Rg) : (XK → Hp → VK → Prop) → Addr → Addr → Hp → VK → Prop := fun tl f c' H Q => ∃ (u : Wd) (P0 : D → Nat → Prop) (X0 : Xp) (P : D → Nat → Prop), u.H1 = H ∧ Ex u.H0 u.H1 ∧ StOk K u ∧ u.H0 c' = some (LamX.CodeO c' q) ∧
  TlOk K tl u u.n P0 X0 ∧ RG P0 X0 u.n P ∧ ∀ v d u', Gs u u' → StOk K u' → Den K u' v d → P d u'.n → Q v u'.H1
/-- g(lambda: ..) -/
theorem we_lam {Pt : Addr} {q : Str} {RG : Rg} {t : XK → TE} (ht : (Pt, q) ∈ Tb.tb K) (h : ∃ P0 X0, (∀ E, We K ⟨E, X0⟩ (t E) (immDS ds) n P0) ∧ RG P0 X0 n P) : We K Z (tLamG Pt q (TTd K q RG) t) ds n P := fun b u σ Q e S k => by
  obtain ⟨P0, X0, hb, hR⟩ := h
  obtain ⟨tS, tT⟩ := S.st.tb _ ht
  obtain ⟨p0, o, p1, po⟩ := S.st Pt tS
  have tT' : u.T Pt = .tbl q := tT
  rw [tT'] at po
  obtain ⟨ps, rfl, hT, hTa⟩ := po
  have ups : ∀ cv, (∃ c, cv = Value.ref c ∧ u.H0 c = some (LamX.CodeO c q)) → ∃ c, cv = Value.ref c ∧ u.H1 c = some (LamX.CodeO c q) := fun cv ⟨c, h1, h2⟩ => ⟨c, h1, S.ex _ _ h2⟩
  refine ⟨ps, p1, ⟨hT, fun p cv hc => ups cv (hTa p cv hc)⟩, fun f c' H1 hH hc => ?_⟩
  have fin : ∀ w : Wd, w.H1 = H1 → Le u w → Gs u w → StOk K w → w.H0 c' = some (LamX.CodeO c' q) → w.n = u.n → TTd K q RG (fun E H' Q' => t E σ H' Q') f c' H1 Q := fun w hw l g st hc0 hn => by
    refine ⟨w, P0, X0, P, hw, g.c, st, hc0, fun E v Q' l2 hn2 ex2 st2 k2 xk2 => ?_, by rw [hn, e]; exact hR, fun z d v' g2 st2 r p => k z d v' (g.trans g2) st2 r p⟩
    exact hb E v v σ Q' ((hn2.trans hn).trans e) (S.imm (l.trans l2) ex2 st2 xk2) k2
  rcases hH with ⟨rfl, p, hp⟩ | ⟨ps', nc, ncP, rfl, hT1, hTa1⟩
  · obtain ⟨c2, e1, e2⟩ := hTa p _ hp
    cases e1
    exact fin u rfl .refl (.refl S.ex) S.st e2 rfl
  · have hne : ∀ x, u.S x → x ≠ c' := fun x hx z => by
      obtain ⟨_, w, h1, _⟩ := S.st x hx
      rw [z, nc] at h1; cases h1
    have c0 : u.H0 c' = none := ex_none S.ex nc
    have G : Gs u ⟨u.S, u.T, u.n, upd u.H0 c' (LamX.CodeO c' q), upd (upd u.H1 Pt (.tbl ps')) c' (LamX.CodeO c' q)⟩ := {
      a := ex_new c0
      b := fun x o ns hx => (ex_new (by rw [upd_ne ncP]; exact nc)) x o ((upd_ne (fun z : x = Pt => ns (by rw [z]; exact tS))).trans hx)
      b' := fun x hx => by
        show upd (upd u.H1 Pt (.tbl ps')) c' _ x ≠ none
        by_cases z : x = c'
        · rw [z, upd_same]; simp
        · rw [upd_ne z]
          by_cases z2 : x = Pt
          · rw [z2, upd_same]; simp
          · rw [upd_ne z2]; exact hx
      c := fun x o (hx : upd u.H0 c' _ x = some o) => by
        show upd (upd u.H1 Pt (.tbl ps')) c' _ x = some o
        by_cases z : x = c'
        · rw [z] at hx ⊢
          rw [upd_same] at hx ⊢
          exact hx
        · rw [upd_ne z] at hx
          rw [upd_ne z, upd_ne (fun z2 => by rw [z2, p0] at hx; cases hx)]
          exact S.ex _ _ hx
      n := fun x h h' => by
        by_cases z : x = c'
        · rw [z]; exact nc
        · exact absurd ((show upd u.H0 c' _ x = u.H0 x from upd_ne z).trans h) h'
      sub := fun _ h => h
      kd := fun _ _ => rfl
      new := fun _ h => .inl h
      le := Nat.le_refl _ }
    refine fin _ rfl G.ls G ⟨fun x hx => ?_, S.st.tb, S.st.on⟩ upd_same rfl
    obtain ⟨x0, o, x1, xs⟩ := S.st x hx
    refine ⟨(upd_ne (hne x hx)).trans x0, ?_⟩
    by_cases z : x = Pt
    · subst z
      refine ⟨.tbl ps', (upd_ne (hne x hx)).trans upd_same, ?_⟩
      show SO K _ (u.T x) _
      rw [tT']
      refine ⟨ps', rfl, hT1, fun p cv hcv => ?_⟩
      rcases hTa1 p cv hcv with rfl | hcv
      · exact ⟨c', rfl, upd_same⟩
      · obtain ⟨c2, e1, e2⟩ := hTa p cv hcv
        exact ⟨c2, e1, G.a _ _ e2⟩
    · exact ⟨o, (upd_ne (hne x hx)).trans ((upd_ne z).trans x1), xs.mono G.ls (Nat.le_refl _)⟩
end
end DL

namespace DL
open PySem L2 StX
open PyProof.Rows (envOfC)
section
variable {K : PySem.W.Frag} [Tb K] {Z : ZX} {b u u' : Wd} {σ : L2.St} {ds : DS} {n : Nat} {P : D → Nat → Prop} {te ta tb : TE} {t tk : TA} {N : Nd} {C : Addr} {E : XK} {R : Rl}
theorem dens_at : ∀ {vs : List V} {ds : List D}, Dens K u vs ds → ∀ i : Nat, (vs[i]? = none ∧ ds[i]? = none) ∨ ∃ v d, vs[i]? = some v ∧ ds[i]? = some d ∧ Den K u v d
  | _, _, .nil, i => .inl ⟨by simp, by simp⟩
  | _, _, .cons r _, 0 => .inr ⟨_, _, rfl, rfl, r⟩
  | _, _, .cons _ rs, i + 1 => by
    rcases dens_at rs i with ⟨a, b⟩ | ⟨v, u, a, b, r⟩
    · exact .inl ⟨by simpa using a, by simpa using b⟩
    · exact .inr ⟨v, u, by simpa using a, by simpa using b, r⟩
theorem dens_perm (ix : List Nat) {vs zs : List V} {xs ys : List D} (r : Dens K u vs xs) (rz : Dens K u zs ys) : Dens K u (perm ix vs zs) (perm ix xs ys) := by
  have h := dens_at (r.app rz)
  induction ix with
  | nil => exact .nil
  | cons i ix ih =>
    unfold perm at ih ⊢
    rcases h i with ⟨a, b⟩ | ⟨v, u, a, b, q⟩
    · rw [List.filterMap_cons, List.filterMap_cons, a, b]; exact ih
    · rw [List.filterMap_cons, List.filterMap_cons, a, b]; exact .cons q ih
/-- f(e, .., k = v, ..) -/
theorem we_callN {a m : Nat} {ix : List Nat} (h : Wa K Z t ds n fun xs j => Wa K Z tk ds j fun ys k => xs.length = a ∧ ys.length = m ∧ R (perm ix xs ys) k P noX) : We K Z (tCallN a m (spD K R) (perm ix) E t tk) ds n P := fun b u σ Q e S k =>
  h b u σ _ e S fun vs xs u1 g1 s1 r q => q b u1 σ _ rfl (S.go g1 s1) fun zs ys u2 g2 s2 r2 ⟨h1, h2, p⟩ =>
    ⟨r.len.trans h1, r2.len.trans h2, u2, perm ix xs ys, P, noX, rfl, g2.c, s2, dens_perm ix (r.mono g2.ls) r2, p, fun v d u3 g3 s3 r' p' => k v d u3 ((g1.trans g2).trans g3) s3 r' p', xok_no⟩
theorem we_callNX {a m : Nat} {ix : List Nat} (h : Wa K Z t ds n fun xs j => Wa K Z tk ds j fun ys k => xs.length = a ∧ ys.length = m ∧ R (perm ix xs ys) k P Z.X) : We K Z (tCallN a m (spD K R) (perm ix) Z.E t tk) ds n P := fun b u σ Q e S k =>
  h b u σ _ e S fun vs xs u1 g1 s1 r q => q b u1 σ _ rfl (S.go g1 s1) fun zs ys u2 g2 s2 r2 ⟨h1, h2, p⟩ =>
    ⟨r.len.trans h1, r2.len.trans h2, u2, perm ix xs ys, P, Z.X, rfl, g2.c, s2, dens_perm ix (r.mono g2.ls) r2, p, fun v d u3 g3 s3 r' p' => k v d u3 ((g1.trans g2).trans g3) s3 r' p', S.xk.at ((S.gr.trans g1).trans g2)⟩
/-- o.m(k = v, ..) -/
theorem we_methN {m : Str} {nk : Nat} {ix : List Nat} (h : We K Z ta ds n fun o j => ∃ fs, o = .obj C fs ∧ fs.lookup m = none ∧ Wa K Z tk ds j fun ys k => ys.length = nk ∧ R (perm ix [o] ys) k P noX) : We K Z (tMethN C m nk (spD K R) (perm ix) E ta tk) ds n P := fun b u σ Q e S k =>
  h b u σ _ e S fun v o u1 g1 s1 r ⟨fs, z, hl, q⟩ => by
    subst z
    obtain ⟨a, dx, fv, rfl, ha, hf⟩ := den_obj r
    refine ⟨a, dx, fv, rfl, g1.c _ _ ha, hf.miss hl, q b u1 σ _ rfl (S.go g1 s1) fun zs ys u2 g2 s2 r2 ⟨h2, p⟩ => ?_⟩
    exact ⟨r2.len.trans h2, u2, perm ix [_] ys, P, noX, rfl, g2.c, s2, dens_perm ix (.cons (r.mono g2.ls) .nil) r2, p, fun v d u3 g3 s3 r' p' => k v d u3 ((g1.trans g2).trans g3) s3 r' p', xok_no⟩
/-- o(k = v, ..) -/
theorem we_callON {nk : Nat} {ix : List Nat} (h : We K Z ta ds n fun o j => ∃ fs, o = .obj C fs ∧ Wa K Z tk ds j fun ys k => ys.length = nk ∧ R (perm ix [o] ys) k P noX) : We K Z (tCallON C nk (spD K R) (perm ix) E ta tk) ds n P := fun b u σ Q e S k =>
  h b u σ _ e S fun v o u1 g1 s1 r ⟨fs, z, q⟩ => by
    subst z
    obtain ⟨a, dx, fv, rfl, ha, hf⟩ := den_obj r
    refine ⟨a, rfl, q b u1 σ _ rfl (S.go g1 s1) fun zs ys u2 g2 s2 r2 ⟨h2, p⟩ => ?_⟩
    exact ⟨⟨dx, fv, g2.c _ _ (g2.a _ _ ha)⟩, r2.len.trans h2, u2, perm ix [_] ys, P, noX, rfl, g2.c, s2, dens_perm ix (.cons (r.mono g2.ls) .nil) r2, p, fun v d u3 g3 s3 r' p' => k v d u3 ((g1.trans g2).trans g3) s3 r' p', xok_no⟩
/-- x(..) of an instance, letting exceptions out -/
theorem we_callOX {t : TA} (h : We K Z ta ds n fun o m => ∃ fs, o = .obj C fs ∧ Wa K Z t ds m fun xs k => R (o :: xs) k P Z.X) : We K Z (tCallO' C (spD K R) Z.E ta t) ds n P := fun b u σ Q e S k =>
  h b u σ _ e S fun v o u1 g1 s1 r ⟨fs, z, q⟩ => by
    subst z
    obtain ⟨a, dx, fv, rfl, ha, hf⟩ := den_obj r
    refine ⟨a, rfl, q b u1 σ _ rfl (S.go g1 s1) fun vs xs u2 g2 s2 r2 p2 => ⟨⟨dx, fv, g2.c _ _ (g2.a _ _ ha)⟩, ?_⟩⟩
    exact ⟨u2, _ :: xs, P, Z.X, rfl, g2.c, s2, .cons (r.mono g2.ls) r2, p2, fun v d u3 g3 s3 r' p' => k v d u3 ((g1.trans g2).trans g3) s3 r' p', S.xk.at ((S.gr.trans g1).trans g2)⟩
/-! ### own == -/
/-- what a class must say so that its instances' type is told -/
structure TyC (K : PySem.W.Frag) (C : Addr) : Prop where
  c : Cls K C
  a : PySem.W.findIn K (.ref C) "__class__" = some (some (.builtin "object.__class__"))
  g : PySem.W.specialIn K (.builtin "object.__class__") "__get__" = some (some (.builtin "getset_descriptor.__get__"))
  t : PySem.W.takesIn K (.builtin "object.__class__") = some true
  m : PySem.W.mroIn K C (.type "object") = some true
/-- the type of a thing -/
def TyD (K : PySem.W.Frag) (d : D) (w : Value) : Prop := (∃ T, tyD d = some T ∧ w = .type T) ∨ ∃ C fs, d = .obj C fs ∧ w = .ref C ∧ TyC K C
theorem den_tyX {v : V} {d : D} {w : Value} (ex : Ex u.H0 u.H1) (h : Den K u v d) (ht : TyD K d w) : TyX K u.H1 v w := by
  have h' := Den.mono (show Le u ⟨u.S, u.T, u.n, u.H1, u.H1⟩ from ⟨fun _ h => h, fun _ _ => rfl, ex⟩) h
  rcases ht with ⟨T, h1, rfl⟩ | ⟨C, fs, rfl, rfl, tc⟩
  · exact den_ty h' h1
  · obtain ⟨a, dx, fv, rfl, ha, _⟩ := den_obj h'
    exact .base (.ins ha tc.c tc.a tc.g tc.t tc.m)
theorem eqO {P : D → Prop} {x y : D} {fs : List (Str × D)} {w : Value} (hx : x = .obj C fs) (ht : TyD K y w) (nf : PySem.W.notFirst K C w = true) (h : ∀ n, R [x, y] n (fun d m => m = n ∧ ∃ b, d = .bl b ∧ P (.bl b)) noX) : Op K (rEqO K C (spD K R)) x y P := fun u v z Q ex st r1 r2 k => by
  subst hx
  obtain ⟨a, dx, fv, rfl, ha, hf⟩ := den_obj r1
  refine ⟨a, dx, fv, w, rfl, ex _ _ ha, den_tyX ex r2 ht, nf, u, _, _, noX, rfl, ex, st, .cons r1 (.cons r2 .nil), h u.n, ?_, xok_no⟩
  rintro v' d u1 g1 s1 r' ⟨hm, c, rfl, p⟩
  cases den_bl r'
  exact ⟨c, rfl, k _ _ u1 ⟨g1, fun _ => s1, hm⟩ (.bl c) p⟩
theorem neO {P : D → Prop} {x y : D} {fs gs : List (Str × D)} (hx : x = .obj C fs) (hy : y = .obj C gs) (h : ∀ n, R [x, y] n (fun d m => m = n ∧ ∃ b, d = .bl b ∧ P (.bl (!b))) noX) : Op K (rNeO C (spD K R)) x y P := fun u v z Q ex st r1 r2 k => by
  subst hx hy
  have r1' := r1
  have r2' := r2
  obtain ⟨a, dx, fv, rfl, ha, hf⟩ := den_obj r1
  obtain ⟨a2, dx2, fv2, rfl, ha2, hf2⟩ := den_obj r2
  refine ⟨a, dx, fv, a2, dx2, fv2, rfl, ex _ _ ha, rfl, ex _ _ ha2, u, _, _, noX, rfl, ex, st, .cons r1' (.cons r2' .nil), h u.n, ?_, xok_no⟩
  rintro v' d u1 g1 s1 r' ⟨hm, c, rfl, p⟩
  cases den_bl r'
  exact ⟨c, rfl, k _ _ u1 ⟨g1, fun _ => s1, hm⟩ (.bl (!c)) p⟩
/-- isinstance(x, C), C a class of the program -/
theorem isiC {P : D → Prop} {d : D} {w : Value} {c : Addr} {r : Bool} (ht : TyD K d w) (hk : PySem.W.kitOne K w (.ref c) = some r) (h : P (.bl r)) : Cb K (rIsi K) [d, .cls c] P := fun u vs Q e rs k => by
  obtain ⟨v, z, rfl, r1, r2⟩ := dens2 rs
  cases r2
  exact ⟨v, .ref c, w, .ref c, r, rfl, .own c, den_tyX e r1 ht, hk, k _ _ u (.refl e) (.bl _) h⟩
theorem dens_rep {vs : List V} {xs : List D} (r : Dens K u vs xs) : ∀ k : Nat, Dens K u (List.replicate k vs).flatten (List.replicate k xs).flatten
  | 0 => .nil
  | k + 1 => by
    rw [List.replicate_succ, List.replicate_succ, List.flatten_cons, List.flatten_cons]
    exact r.app (dens_rep r k)
/-- [..] * k -/
theorem we_rep (h : Wa K Z t ds n fun xs m => xs.length ≤ 1000 ∧ We K Z tb (ds) m fun y j => ∃ i : Int, y = .int i ∧ 0 ≤ i ∧ i ≤ 1000 ∧ P (.lst (List.replicate i.toNat xs).flatten) j) : We K Z (tOp rRep (tLst t) tb) ds n P := fun b u σ Q e S k =>
  h b u σ _ e S fun vs xs u1 g1 s1 r ⟨hz, h2⟩ => by
    refine ⟨by rw [r.len]; exact sz100 (Nat.le_trans hz (by decide)), fun p hp => ?_⟩
    have g0 := g1.trans (Gs.put g1.c hp (o := .lst vs))
    refine h2 b (u1.put p (.lst vs)) σ _ rfl (S.go g0 (s1.put g1.c hp)) fun w y u2 g2 s2 r2 ⟨i, hy, i0, i1, pp⟩ => ?_
    subst hy
    cases den_int r2
    refine ⟨p, i, vs, rfl, rfl, g2.c _ _ (g2.a _ _ upd_same), by omega, by omega, ?_, fun q hq => ?_⟩
    · rw [r.len]
      exact sz100 (Nat.le_trans (Nat.mul_le_mul hz (show i.toNat ≤ 1000 by omega)) (by decide))
    · have l2 := (Gs.put g1.c hp (o := .lst vs)).ls.trans g2.ls
      exact k _ _ (u2.put q _) ((g0.trans g2).trans (.put g2.c hq)) (s2.put g2.c hq) (.lst (SqL.of upd_same) ((dens_rep (r.mono l2) i.toNat).mono (Gs.put g2.c hq).ls)) pp
end
/-! ### defs -/
section
variable {Pr : Program} {w : World} {K : PySem.W.Frag} [Tb K] {mg : Str → Option Value} {base : Heap} {R : Rl}
/-- a def with lambdas -/
theorem dokC {x qual : Str} {st : Stmt} {f c : Addr} {fd : FuncData} {N ps : List Str} {k : Nat} (F : Fun K x qual st f fd) (hc : fd.code = .ref c) (S : FnScope N ps (defScope st)) (len : ∀ ds n P X, R ds n P X → ds.length = ps.length) (hNp : ps.length ≤ N.length)
    (hbody : ∀ (A : Around) (outer : List Env) (s : Shared) (H : Hp) (E : XK), Room k (A.deeper (envOfC qual (defScope st) s.heap.objs.size f (.ref c))) →
      ∃ t, PSs (cxOf CX0 Pr w K mg base N qual (defScope st) f (.ref c) A outer s H E).nox (defBody st) t ∧ ∀ Z ds n P, R ds n P Z.X → Ws K Z t (startD N.length ds) n { nx := fun _ m => P .non m, rt := P }) : FnOk Pr w K mg base CX0 (k + 1) f fd ps (spD K R) := by
  refine F.okC hc S (fun vs H Q E ⟨u, ds, P, X, _, e, _, r, h, _⟩ => by rw [r.len]; exact len ds _ P X h) (fun A outer s H vs Q E hr ⟨u, ds, P, X, eh, e, st, r, h, q, xk⟩ => ?_)
  obtain ⟨t, ht, hW⟩ := hbody A outer s H E hr
  subst eh
  exact ⟨t, ht, hW ⟨E, X⟩ ds u.n P h u u _ _ rfl (sd_start e xk st r (by rw [r.len, len ds _ P X h]; exact hNp)) ⟨fun ds' v σ' _ S' p => q _ _ _ S'.gr S'.st .non p, fun d v v' g s r p => q v d v' g s r p, fun _ _ _ _ _ z => z.elim, fun _ _ _ _ _ z => z.elim⟩⟩
/-- the def that calls the lambda that it got -/
theorem gives_of {X : Cx} [Tb X.K] {Ng : List Str} {x a q : Str} {sg : Scope} {g : Addr} {cdg : Value} {bg : List Stmt} {RG : Rg} {tt : Addr → Addr → (XK → Hp → VK → Prop) → TS} (hN : 1 ≤ Ng.length)
    (hb : ∀ (f c' : Addr) (s : Shared) (H : Hp) (tl : XK → Hp → VK → Prop), (∀ (W : WX) (pn : List (Addr × Obj)) (xe : Value → Shared → Prop) (E : XK) (p1 p2 : Pos), Takes ((cxOf C8.CX0 X.prog X.w X.K X.mg X.base Ng x sg g cdg X.A X.stack s H C8.E0).tr pn xe) W → (∀ cls d σ' H', E cls d H' → σ'.length = Ng.length → W cls d σ' H') →
      PE ((cxOf C8.CX0 X.prog X.w X.K X.mg X.base Ng x sg g cdg X.A X.stack s H C8.E0).tr pn xe) (.Call (.Name a p1) [] [] p2) (tAct 0 f c' q (tl E))) → PSs (cxOf C8.CX0 X.prog X.w X.K X.mg X.base Ng x sg g cdg X.A X.stack s H C8.E0).nox bg (tt f c' tl))
    (hW : ∀ (Z : ZX) (f c' : Addr) (tl : XK → Hp → VK → Prop) (u0 : Wd) (n : Nat) (P0 : D → Nat → Prop) (X0 : Xp) (P : D → Nat → Prop), TlOk X.K tl u0 n P0 X0 → RG P0 X0 n P → Ws X.K Z (tt f c' tl) (startD Ng.length [.lam f c' q u0]) n { nx := fun _ m => P .non m, rt := P }) :
    GivesG X Ng x sg g cdg bg a q (TTd X.K q RG) := by
  intro f c' s H Q tl act hc ⟨u, P0, X0, P, eh, ex, st, hc0, hT, hR, k⟩
  subst eh
  refine ⟨tt f c' tl, hb f c' s u.H1 tl act, ?_⟩
  refine hW ⟨C8.E0, noX⟩ f c' tl u u.n P0 X0 P hT hR u u _ _ rfl (sd_start (vs := [.ref f]) ex xok_no st (.cons (.lam .refl hc0) .nil) (by simpa using hN)) ⟨fun ds' v σ' _ S' p => k _ _ _ S'.gr S'.st .non p, fun d v v' g s r p => k v d v' g s r p, fun _ _ _ _ _ z => z.elim, fun _ _ _ _ _ z => z.elim⟩
end
section
variable {Pr : Program} {w : World} {K : PySem.W.Frag} {mg : Str → Option Value} {base : Heap} {C fI : Addr} {f : Str} {tl : List Value} {B newId initId : String}
/-- the __init__ of an own exception, one field stored -/
theorem ok_excG {qual : Str} {st : Stmt} {fd : FuncData} {N : List Str} {k : Nat} {a1 a2 : Str} (F : Fun K "__init__" qual st fI fd) (S : FnScope N [a1, a2] (defScope st)) (hN : N = [a1, a2])
    (hbody : ∀ (cdv : Value) (A : Around) (outer : List Env) (s : Shared) (H : Hp) (E : XK), PSs (cxOf CX0 Pr w K mg base N qual (defScope st) fI cdv A outer s H E).nox (defBody st) (tOsx K C f (tVar 0) (tVar 1))) : FnOk Pr w K mg base CX0 (k + 1) fI fd [a1, a2] (spX1 C f) := by
  refine F.ok S (fun vs H Q E ⟨a, y, e, _⟩ => by rw [e]; rfl) (fun cdv A outer s H vs Q E hr ⟨a, y, e, ha, q⟩ => ⟨_, hbody cdv A outer s H E, ?_⟩)
  subst e hN
  exact ⟨y, rfl, .ref a, rfl, a, rfl, ha, fun dx h1 h2 => q dx h1 h2⟩
theorem ps_raiseG {X : Cx} {E : XK} {CX : CXT} {x : Str} {k : Nat} {fd : FuncData} {ps : List Str} {sp : Sp} {ta : TA} {e : Expr} {es : List Expr} {p pos pos' : Pos} (hc : X.calm = true) (tk : Takes X fun cls d _ H => E cls d H) (b : PySem.XG.BaseX tl B newId initId) (T : OexG X.K C tl newId) (iC : PySem.W.findIn X.K (.ref C) "__init__" = some (some (.ref fI))) (tI : PySem.W.typeIn X.K (.ref fI) = some (.type "function"))
    (F1 : FnOk X.prog X.w X.K X.mg X.base CX k fI fd ps sp) (hr : Room (k + 1) X.A) (hb : Binds X.K fd ps []) (hx : Passes CX X (fun _ _ _ => False)) (hg : Gl X x) (hm : X.mg x = some (.ref C)) (ha : PA X (e :: es) ta)
    (hdb : (x == ("__debug__" : Str)) = false := by decide) (he : starEach (e :: es) X.env = (false, eval e X.env) :: starEach es X.env := by rfl) (hpl : (backTo pos' (starEach es X.env)).any (·.1) = false := by rfl) :
    PS X (.Raise (some (.Call (.Name x p) (e :: es) [] pos')) none pos) (tRaise E C sp ta) := ps_raise (W := fun cls d _ H => E cls d H) hc tk (pmk_any b T iC tI F1 hr hb hx hg hm ha hdb he hpl)
end
theorem lookup_nodup {tb : List (Addr × Str)} (hn : (tb.map (·.1)).Nodup) : ∀ p ∈ tb, tb.lookup p.1 = some p.2 := by
  induction tb with
  | nil => intro p hp; cases hp
  | cons q tb ih =>
    intro p hp
    obtain ⟨a, n⟩ := q
    rw [List.map_cons, List.nodup_cons] at hn
    rw [List.lookup_cons]
    rcases List.mem_cons.mp hp with rfl | hp
    · simp
    · have : p.1 ≠ a := fun z => hn.1 (by rw [← z]; exact List.mem_map.mpr ⟨p, hp, rfl⟩)
      have e : (p.1 == a) = false := by simpa using this
      rw [e]
      exact ih hn.2 p hp
theorem lookup_mem {tb : List (Addr × Str)} {a : Addr} {n : Str} (h : tb.lookup a = some n) : (a, n) ∈ tb := by
  induction tb with
  | nil => cases h
  | cons q tb ih =>
    obtain ⟨b, m⟩ := q
    rw [List.lookup_cons] at h
    cases e : a == b with
    | true =>
      rw [e] at h
      cases h
      rw [beq_iff_eq.mp e]
      exact List.mem_cons_self ..
    | false =>
      rw [e] at h
      exact List.mem_cons_of_mem _ (ih h)
/-- where a law begins: its script is told, the tables are empty -/
theorem law_begin {K : PySem.W.Frag} {tb : List (Addr × Str)} [i : Tb K] {R : Rl} {H : Hp} {a : Addr} {ns : List Int} (n0 : Nat) (hS : SqL K H a (ns.map V.int)) (hi : Tb.tb K = tb) (hn : (tb.map (·.1)).Nodup) (hT : ∀ p ∈ tb, H p.1 = some (.tbl #[])) (hR : R [.lst (ns.map .int)] n0 (fun d _ => d = .bl true) noX) :
    spD K R [.ref a] H (fun v _ => v = .bl true) fun _ _ _ => False := by
  have mem : ∀ x, x ∈ tb.map (·.1) → H x = some (.tbl #[]) := fun x hx => by
    obtain ⟨p, hp, e⟩ := List.mem_map.mp hx
    rw [← e]; exact hT p hp
  have hH0 : ∀ x o, H x = some o → (∀ ps, o ≠ .tbl ps) → (if x ∈ tb.map (·.1) then none else H x) = some o := fun x o h n => by
    rw [if_neg (fun z => by rw [mem x z] at h; cases h; exact n _ rfl)]; exact h
  refine ⟨⟨fun x => x ∈ tb.map (·.1), fun x => .tbl ((tb.lookup x).getD Str.empty), n0, fun x => if x ∈ tb.map (·.1) then none else H x, H⟩, [.lst (ns.map .int)], fun d _ => d = .bl true, noX, rfl, fun x o h => ?_, ⟨fun x hx => ⟨if_pos hx, _, mem x hx, #[], rfl, True.intro, fun pos cv hc => ?_⟩, fun p hp => ?_, fun x q hx hq => ?_⟩, .cons (.lst ?_ (ints_dens ns)) .nil, hR, fun v d _ _ _ r p => by cases p; exact den_bl r, xok_no⟩
  · have h' : (if x ∈ tb.map (·.1) then none else H x) = some o := h
    show H x = some o
    by_cases z : x ∈ tb.map (·.1)
    · rw [if_pos z] at h'; cases h'
    · rw [if_neg z] at h'; exact h'
  · have z : codeAmong pos [] = some cv := hc
    simp [codeAmong] at z
  · rw [hi] at hp
    refine ⟨List.mem_map.mpr ⟨p, hp, rfl⟩, ?_⟩
    show SK.tbl ((tb.lookup p.1).getD Str.empty) = _
    rw [lookup_nodup hn p hp]; rfl
  · rw [hi]
    obtain ⟨p, hp, e⟩ := List.mem_map.mp (show x ∈ tb.map (·.1) from hx)
    have hq' : SK.tbl ((tb.lookup x).getD Str.empty) = .tbl q := hq
    rw [← e, lookup_nodup hn p hp] at hq'
    cases hq'
    rw [← e]
    exact hp
  · rcases hS with (h | ⟨o, h⟩) | h
    · exact .inl (.inl (hH0 _ _ h fun _ z => by cases z))
    · exact .inl (.inr ⟨o, hH0 _ _ h fun _ z => by cases z⟩)
    · exact .inr h
end DL

namespace DL
open PySem L2 StX ClX
section
variable {K : PySem.W.Frag} [Tb K] {Z : ZX} {ds : DS} {n : Nat} {P : D → Nat → Prop} {te ta : TE} {t tk : TA} {C : Addr} {E : XK} {R : Rl}
/-- C.m(..) of a class -/
theorem we_cmeth (h : We K Z ta ds n fun o j => o = .cls C ∧ Wa K Z t ds j fun xs k => R (.cls C :: xs) k P noX) : We K Z (tCMeth C (spD K R) E ta t) ds n P := fun b u σ Q e S k =>
  h b u σ _ e S fun v o u1 g1 s1 r ⟨z, q⟩ => by
    subst z
    cases r
    exact ⟨rfl, q b u1 σ _ rfl (S.go g1 s1) fun vs xs u2 g2 s2 r2 p => ⟨u2, .cls C :: xs, P, noX, rfl, g2.c, s2, .cons (.cls C) r2, p, fun v d u3 g3 s3 r' p' => k v d u3 ((g1.trans g2).trans g3) s3 r' p', xok_no⟩⟩
theorem we_cmethX (h : We K Z ta ds n fun o j => o = .cls C ∧ Wa K Z t ds j fun xs k => R (.cls C :: xs) k P Z.X) : We K Z (tCMeth C (spD K R) Z.E ta t) ds n P := fun b u σ Q e S k =>
  h b u σ _ e S fun v o u1 g1 s1 r ⟨z, q⟩ => by
    subst z
    cases r
    exact ⟨rfl, q b u1 σ _ rfl (S.go g1 s1) fun vs xs u2 g2 s2 r2 p => ⟨u2, .cls C :: xs, P, Z.X, rfl, g2.c, s2, .cons (.cls C) r2, p, fun v d u3 g3 s3 r' p' => k v d u3 ((g1.trans g2).trans g3) s3 r' p', S.xk.at ((S.gr.trans g1).trans g2)⟩⟩
theorem we_cmethN {nk : Nat} {ix : List Nat} (h : We K Z ta ds n fun o j => o = .cls C ∧ Wa K Z tk ds j fun ys k => ys.length = nk ∧ R (perm ix [.cls C] ys) k P noX) : We K Z (tCMethN C nk (spD K R) (perm ix) E ta tk) ds n P := fun b u σ Q e S k =>
  h b u σ _ e S fun v o u1 g1 s1 r ⟨z, q⟩ => by
    subst z
    cases r
    exact ⟨rfl, q b u1 σ _ rfl (S.go g1 s1) fun zs ys u2 g2 s2 r2 ⟨h2, p⟩ => ⟨r2.len.trans h2, u2, perm ix [.cls C] ys, P, noX, rfl, g2.c, s2, dens_perm ix (.cons (.cls C) .nil) r2, p, fun v d u3 g3 s3 r' p' => k v d u3 ((g1.trans g2).trans g3) s3 r' p', xok_no⟩⟩
/-- cls(..) -/
theorem we_makeV {R : Ri} (h : We K Z te ds n fun o j => o = .cls C ∧ Wa K Z t ds j fun xs m => R xs m (fun gs => P (.obj C gs) m) noX) : We K Z (tMakeV C (spI K C R) [] E te t) ds n P := fun b u σ Q e S k =>
  h b u σ _ e S fun v o u1 g1 s1 r ⟨z, q⟩ => by
    subst z
    cases r
    exact ⟨rfl, we_make q b u1 σ _ rfl (S.go g1 s1) fun v d u' g s r p => k v d u' (g1.trans g) s r p⟩
/-- x[::-1] -/
theorem we_revS (h : We K Z te ds n fun x m => ∃ z, x = .str z ∧ z.length ≤ 1000000 ∧ P (.str (revS z)) m) : We K Z (tRevS te) ds n P := fun b u σ Q e S k =>
  h b u σ _ e S fun v o u1 g1 s1 r ⟨z, hz, h2, p⟩ => by
    subst hz
    cases r
    exact ⟨z, rfl, sz100 h2, k _ _ u1 g1 s1 (.str _) p⟩
/-- x[i] of a text -/
theorem ix_strD {P : D → Prop} {x : Str} {i : Int} {c : Nat} (hz : x.length ≤ 1000000) (h : atI x.cps.toList i = some c) (p : P (.str ⟨#[c]⟩)) : Op K (rIx K) (.str x) (.int i) P := fun u v w Q e _ d1 d2 k => by
  cases d1
  cases d2
  exact .inr (.inr ⟨x, i, c, rfl, rfl, sz100 hz, h, k _ _ u (.refl e) (.str _) p⟩)
end
end DL

/-! What is known of repr's guards, carried from the law down to the defs that ask for repr. -/
namespace L2
open PySem PySem.Spec PyProof.Rows
section
variable {X : Cx}
/-- repr of a list or a tuple of data -/
def rRepr (K : PySem.W.Frag) : List V → Hp → VK → Prop := fun xs H Q => ∃ a d, xs = [.ref a] ∧ Dp K H (.ref a) d ∧ d.showable = true ∧ d.hasDict = false ∧ d.depth ≤ 60 ∧ d.shown.length ≤ sizeLine ∧ Q (.str d.shown) H
theorem call_repr (hg : X.A.guards = some []) (hu : X.A.units + 64 < cLine) : CallR X (.builtin "repr") (rRepr X.K) := by
  intro pins s σ H xs us Q I r ⟨a, d, e, hd, h1, h2, h3, h4, q⟩
  subst e
  obtain ⟨u1, rfl, r1⟩ := vals1 r
  cases r1
  obtain ⟨as, hr⟩ := Dp.reads I d _ _ hd rfl
  exact repr_of_reads' hr h1 (fun z => by rw [h2] at z; cases z) hg (by omega) (fun _ _ e => e) (fun h' u tk hk => ⟨.str _, H, I.kept hk, ⟨_, rfl⟩, q⟩) h4
end
/-- a def that may be called where no repr is under way -/
structure FnG (P : Program) (w : World) (K : PySem.W.Frag) (mg : Str → Option Value) (base : Heap) (CX : CXT) (k : Nat) (f : Addr) (fd : FuncData) (ps : List Str) (sp : Sp) : Prop where
  size : ∀ {vs : List V} {H : Hp} {Q : VK} {E : XK}, sp vs H Q E → vs.length = ps.length
  goes : ∀ {A : Around} {outer : List Env} {s : Shared} {H : Hp} {args : Args} {us : List Value} {vs : List V} {Q : VK} {E : XK}, A.guards = some [] → Room k A → Env0 P w K mg base A outer s H → BindsTo s fd args (ps.zip us) → Vals vs us → sp vs H Q E →
    codeAny (model P w) A (.call (.ref f) args) (CR CX outer P w H s Q E) s
section
variable {P : Program} {w : World} {K : PySem.W.Frag} {mg : Str → Option Value} {base : Heap} {CX : CXT} {k : Nat} {f : Addr} {fd : FuncData} {ps N : List Str} {sp : Sp}
theorem FnG.of (F : FnOk P w K mg base CX k f fd ps sp) : FnG P w K mg base CX k f fd ps sp := ⟨F.len _ _ _ _, fun _ hr e0 hb rv h => F.run _ _ _ _ _ _ _ _ _ hr e0 hb rv h⟩
/-- a def by its body, the guards told -/
theorem Fun.okG {x qual : Str} {st : Stmt} (F : Fun K x qual st f fd) (S : FnScope N ps (defScope st)) (len : ∀ vs H Q E, sp vs H Q E → vs.length = ps.length)
    (hbody : ∀ (cdv : Value) (A : Around) (outer : List Env) (s : Shared) (H : Hp) (vs : List V) (Q : VK) (E : XK), fd.code = cdv → (A.deeper (envOfC qual (defScope st) s.heap.objs.size f cdv)).guards = some [] → Room k (A.deeper (envOfC qual (defScope st) s.heap.objs.size f cdv)) → sp vs H Q E →
      ∃ t, PSs (cxOf CX P w K mg base N qual (defScope st) f cdv A outer s H E) (defBody st) t ∧ t { nx := fun _ H' => Q .non H', rt := Q } (start N vs) H) :
    FnG P w K mg base CX (k + 1) f fd ps sp := by
  obtain ⟨oc, od, kV, doc, pm, an, cdv, ct, osl, rfl, lk, hcg⟩ := F.ex
  refine ⟨len _ _ _ _, fun {A outer s H args us vs Q E} hg hr e0 hb rv h => ?_⟩
  have same : ∀ b o, base.get? b = some o → s.heap.get? b = some o := fun b o e => (e0.bs b o e).1
  have KH : K.In s.heap := e0.mod.kin.keeps same
  refine codeAny_call_function hr.depth (KH _ _ lk) rfl S.co S.gen rfl (PySem.W.codeRec_of KH hcg) (hb _ _ _ _ (wpAny_newFunctionEnv_cells S.kind (fun ⟨y, z⟩ hy => ?_) fun env he s1 c => ?_))
  · exact (S.par y (List.of_mem_zip hy).1).elim .inl fun q => .inr ⟨q, PySem.W.cellsFrom_some _ _ _ (.inl q)⟩
  · subst he
    refine ⟨(e0.mod.nolimit.keeps same).keeps c.toInCall.keep, codeAny_func ?_⟩
    obtain ⟨t, ht, hq⟩ := hbody cdv A outer s H vs Q E rfl hg (hr.deeper _) h
    refine wpAny_mono (ht.run [] s1 (start N vs) H _ (inv_start S hr.hd e0 (len _ _ _ _ h) rv c) hq) (fun fl s' z => ?_) fun _ _ z => z
    match fl, z with
    | .ret u, ⟨v, σ', H', J, rv', q⟩ => exact ⟨v, H', J.os, J.bare, J.base, J.hok, rv', q⟩
    | .next, ⟨σ', H', J, q⟩ => exact ⟨.non, H', J.os, J.bare, J.base, J.hok, rfl, q⟩
    | .brk, ⟨_, _, _, q⟩ => exact q.elim
    | .cont, ⟨_, _, _, q⟩ => exact q.elim
end
section
variable {X : Cx} {CX : CXT} {k : Nat} {f : Addr} {fd : FuncData} {ps : List Str} {sp : Sp} {E : XK} {x : Str} {np pos : Pos} {e : Expr} {es : List Expr} {t : TA}
/-- f(..), f told with the guards -/
theorem pe_callG (hgu : X.A.guards = some []) (F : FnG X.prog X.w X.K X.mg X.base CX k f fd ps sp) (hr : Room k X.A) (hg : Gl X x) (hm : X.mg x = some (.ref f)) (hk : PySem.W.keepIn X.K (.ref f) = true) (hb : L2.Binds X.K fd ps []) (hx : Passes CX X E) (ha : PA X (e :: es) t)
    (hdb : (x == ("__debug__" : Str)) = false := by decide) (he : starEach (e :: es) X.env = (false, eval e X.env) :: starEach es X.env := by rfl) (hpl : (backTo pos (starEach es X.env)).any (·.1) = false := by rfl) :
    PE X (.Call (.Name x np) (e :: es) [] pos) (tCall sp [] E t) := by
  refine ⟨fun pins s σ H Q I h => wpAny_Call_Name_kw (ld_glob I hg hm (PySem.W.callWith_K (h₀ := X.base) I.ok.mod.kin hk (thn (ha.run pos pins s σ H _ I h) fun us s1 ⟨vs, H1, I1, rv, q⟩ => ⟨I1.kIn, ?_⟩) he hpl) hdb)⟩
  have rv2 : Vals (vs ++ []) (us ++ []) := rv.append .nil
  have hl : (us ++ []).length = ps.length := rv2.length.symm.trans (F.size q)
  refine wpAny_call (codeAny_mono (F.goes hgu hr I1.env0 (hb s1 us I1.kIn hl) rv2 q) fun fl s2 z => ?_)
  match fl, z with
  | .error er, z => exact hx pins σ H1 s1 er s2 I1 z
  | .ok (.ret u), z => exact I1.after z
  | .ok .next, z => exact False.elim z
  | .ok .brk, z => exact False.elim z
  | .ok .cont, z => exact False.elim z
end
end L2

/-! The end of a law whose def is told with the guards. -/
namespace LamX
open PySem PySem.Spec PyProof.Rows L2
/-- what a law begins with: empty tables, and its script, unless that is written out already -/
def beginH (ts : List Addr) (a : Addr) (o : Obj) (xs : List V) (kn : Bool) : Hp := fun b => if b ∈ ts then some (.tbl #[]) else if b = a ∧ kn = false then some (.frz o (.lst xs)) else none
section
variable {P : Program} {w : World} {K : PySem.W.Frag} {mg mb : Str → Option Value} {CX : CXT} {k : Nat} {fa a : Addr} {cs : List (Addr × Addr)} {fd : FuncData} {x : Str} {sp : Sp} {s₁ : Shared} {vs : List Value} {ns : List Int}
theorem law_callG (KX : K.In s₁.heap) (gN : s₁.heap.Ns mainGlobals mg) (bN : s₁.heap.Ns builtinsNs mb) (bB : ∀ y : Str, y ≠ "__name__" → mb y = bootBuiltins y) (nl : s₁.heap.NoLimit) (ge : s₁.gens = #[])
    (tE : ∀ p ∈ cs, s₁.heap.get? p.2 = some { cls := .none, data := .fields #[] }) (tN : ∀ p ∈ cs, K.lookup p.2 = none) (tC : ∀ p ∈ cs, PySem.W.CodeHd s₁.heap p.1 p.2)
    (bm : ∃ (c : Addr) (o : Obj), mg "__builtins__" = some (.ref c) ∧ c ≠ builtinsNs ∧ s₁.heap.get? c = some o ∧ o.cls = .type "module" ∧ o.dict = some builtinsNs ∧ o.data = .plain)
    (sc : s₁.heap.get? a = some { cls := .type "list", data := .seq vs.toArray }) (si : IntsAre vs ns) (sl : ns.length ≤ sizeLine) (hr : Room k callerA)
    (F : ∀ b : Heap, K.In b → b.Ns mainGlobals mg → (∀ p ∈ cs, TabB b mg p.1 p.2) → FnG P w K mg b CX k fa fd [x] sp) (fb : ∀ (s : Shared) (u : Value), BindsTo s fd ⟨[u], []⟩ [(x, u)])
    (go : ∀ H : Hp, (∀ p ∈ cs, H p.2 = some (.tbl #[])) → SqL K H a (ns.map V.int) → sp [.ref a] H (fun v _ => v = .bl true) fun _ _ _ => False)
    (noE : ∀ H e s', CX [] H s₁ (fun _ _ _ => False) e s' → False) :
    codeAny (model P w) callerA (.call (.ref fa) ⟨[.ref a], []⟩) (fun r s' => r = .ok (.ret (.bool true)) ∧ OldK s₁.heap s'.heap ∧ s'.os = s₁.os ∧ AllBare s'.gens) s₁ := by
  have isTab : ∀ {b : Addr}, b ∈ cs.map (·.2) → ∃ p ∈ cs, p.2 = b := fun hb => List.mem_map.mp hb
  have tab : ∀ {b : Addr}, b ∈ cs.map (·.2) → s₁.heap.get? b = some { cls := .none, data := .fields #[] } := fun hb => let ⟨p, h1, h2⟩ := isTab hb; h2 ▸ tE p h1
  have aN : a ∉ cs.map (·.2) := fun z => by
    have q := congrArg Obj.data (Option.some.inj ((tab z).symm.trans sc))
    cases q
  generalize hH : beginH (cs.map (·.2)) a { cls := .type "list", data := .seq vs.toArray } (ns.map V.int) (K.lookup a).isSome = H
  have atT : ∀ {b : Addr}, b ∈ cs.map (·.2) → H b = some (.tbl #[]) := fun hb => by rw [← hH]; exact if_pos hb
  have atN : ∀ {b : Addr}, b ∉ cs.map (·.2) → (b = a → (K.lookup a).isSome = true) → H b = none := fun {b} h1 h2 => by
    rw [← hH]
    show (if b ∈ _ then _ else if b = a ∧ (K.lookup a).isSome = false then _ else _) = none
    rw [if_neg h1, if_neg fun z => by rw [h2 z.1] at z; cases z.2]
  have cases3 : ∀ (b : Addr) (u : HO), H b = some u → (b ∈ cs.map (·.2) ∧ u = .tbl #[]) ∨ (b = a ∧ (K.lookup a).isSome = false ∧ u = .frz { cls := .type "list", data := .seq vs.toArray } (.lst (ns.map V.int))) := fun b u z => by
    rw [← hH] at z
    have z' : (if b ∈ cs.map (·.2) then some (HO.tbl #[]) else if b = a ∧ (K.lookup a).isSome = false then some (.frz { cls := .type "list", data := .seq vs.toArray } (.lst (ns.map V.int))) else none) = some u := z
    split at z'
    · next h => cases z'; exact .inl ⟨h, rfl⟩
    · split at z'
      · next h => cases z'; exact .inr ⟨h.1, h.2, rfl⟩
      · cases z'
  have see : ∀ {b : Addr} {o : Obj}, s₁.heap.get? b = some o → (∀ v m, o.data ≠ .seq v m) → o.data ≠ .fields #[] → (hidT s₁.heap H).get? b = some o := fun {b o} e h1 h2 => hidT_get e (atN (fun z => by
    have q := (tab z).symm.trans e
    cases q
    exact h2 rfl) fun z => by
    subst z
    have q := sc.symm.trans e
    cases q
    exact absurd rfl (h1 _ _))
  have seeN : ∀ {b : Addr} {m : Str → Option Value}, s₁.heap.Ns b m → (hidT s₁.heap H).Ns b m := fun ⟨o, es, n, e, d, q⟩ => ⟨o, es, n, see e (fun v m => by rw [d]; exact fun z => nomatch z) (by rw [d]; exact fun z => nomatch z), d, q⟩
  have seeK : K.In (hidT s₁.heap H) := fun b o e => hidT_get (KX b o e) (atN (fun z => by
    obtain ⟨p, h1, h2⟩ := isTab z
    rw [← h2, tN p h1] at e
    cases e) fun z => by rw [← z, e]; rfl)
  have seeT : ∀ p ∈ cs, TabB (hidT s₁.heap H) mg p.1 p.2 := fun p hp => by
    obtain ⟨co, cv, c1, c2, c3, c4, c5, c6, c7, at_, f1, f2, f3, f4, f5, f6, f7, f8, f9⟩ := tC p hp
    refine ⟨⟨co, cv, c1, c2, c3, c4, c5, c6, c7, see at_ (fun v m => by rw [f2]; exact fun z => nomatch z) (by rw [f2]; intro z; injection z with z; rw [z] at f3; cases f3), f1, f2, f3, f4, f5, f6, f7, f8, f9⟩, ?_, fun z => ?_⟩
    · obtain ⟨c, o, b1, b2, b3, b4, b5, b6⟩ := bm
      refine ⟨c, o, b1, b2, fun z => ?_, fun z => ?_, see b3 (fun v m => by rw [b6]; exact fun z => nomatch z) (by rw [b6]; exact fun z => nomatch z), b4, b5, b6⟩
      · obtain ⟨o', es, n, e, d, -⟩ := gN
        rw [← z, b3] at e
        cases e
        rw [b6] at d
        cases d
      · rw [z, tE p hp] at b3
        cases b3
        cases b6
    · obtain ⟨o', es, n, e, d, -⟩ := gN
      rw [z, tE p hp] at e
      cases e
      cases d
  have iv := vals_ints si
  have ln := si.length
  have ok : HOk P w H s₁.heap := fun b u z => by
    rcases cases3 b u z with ⟨h, rfl⟩ | ⟨rfl, -, rfl⟩
    · exact tab h
    · exact ⟨sc, by rw [List.length_map]; exact sl, vs, _, iv, sc⟩
  have sq : SqL K H a (ns.map V.int) := by
    cases hk : K.lookup a with
    | some o =>
      have e := (KX a o hk).symm.trans sc
      cases e
      exact .inr ⟨_, vs.toArray, _, hk, rfl, rfl, rfl, by rw [List.size_toArray, ln]; exact sl, by simpa using iv⟩
    | none =>
      refine .inl (.inr ⟨{ cls := .type "list", data := .seq vs.toArray }, ?_⟩)
      rw [← hH]
      show (if a ∈ _ then _ else if a = a ∧ (K.lookup a).isSome = false then _ else _) = _
      rw [if_neg aN, if_pos ⟨rfl, by rw [hk]; rfl⟩]
  have e0 : Env0 P w K mg (hidT s₁.heap H) callerA [] s₁ H := {
    frames := rfl
    mod := ⟨seeK, seeN gN, ⟨mb, seeN bN, bB⟩, let ⟨c, n1, n2⟩ := nl; ⟨c, seeN n1, n2⟩⟩
    bs := fun b o e => of_hidT e
    bsz := Nat.le_of_eq (hidT_size _ _)
    funs := trivial
    frf := fun b z => nomatch z
    hok := ok
    bare := .of_eq ge }
  refine codeAny_mono ((F _ seeK (seeN gN) seeT).goes rfl hr e0 (us := [.ref a]) (vs := [.ref a]) (fb s₁ (.ref a)) (.cons rfl .nil) (go H (fun p hp => atT (List.mem_map.mpr ⟨p, hp, rfl⟩)) sq)) fun r s' z => ?_
  match r, z with
  | .error e, z => exact (noE H e s' z).elim
  | .ok .next, z => exact False.elim z
  | .ok .brk, z => exact False.elim z
  | .ok .cont, z => exact False.elim z
  | .ok (.ret u), ⟨v, H', so, sb, un, ok', rv, (q : v = .bl true)⟩ =>
    subst q
    obtain rfl : u = Value.bool true := rv
    have kept : ∀ b o, b ∉ cs.map (·.2) → s₁.heap.get? b = some o → s'.heap.get? b = some o := fun b o nb e => by
      cases q : H b with
      | none => exact un.keep b o e q (fun z => nomatch z) (fun z => nomatch z)
      | some u =>
        rcases cases3 b u q with ⟨h, -⟩ | ⟨rfl, -, rfl⟩
        · exact absurd h nb
        · rw [sc] at e
          cases e
          exact (ok' _ _ (un.frzs _ _ _ q)).1
    have more : ∀ {b : Addr}, b ∈ cs.map (·.2) → ∃ m : Array Value, s'.heap.get? b = some { cls := .none, data := .fields m } := fun {b} hb => let ⟨m, z⟩ := un.tbls b #[] (atT hb); ⟨_, ok' b _ z⟩
    refine ⟨rfl, ⟨fun b o e => ?_, fun b o e => ?_⟩, so, sb⟩
    · by_cases hb : b ∈ cs.map (·.2)
      · obtain ⟨p, h1, rfl⟩ := isTab hb
        obtain ⟨m, hm⟩ := more hb
        have e' := (tE p h1).symm.trans e
        cases e'
        exact .inr (.inl ⟨((tC p h1).tab (tE p h1)).isCodeTable, rfl, #[], m, rfl, by rw [Array.empty_append]; exact hm⟩)
      · exact .inl (kept b o hb e)
    · by_cases hb : b ∈ cs.map (·.2)
      · exact let ⟨m, hm⟩ := more hb; ⟨_, hm⟩
      · exact ⟨o, kept b o hb e⟩
end
/-- what is to be known of a law's def, with the guards -/
def LawAtG (l : PySem.W.OpenLaw) (w : World) (K : PySem.W.Frag) (CX : CXT) (k n : Nat) (x : Str) (mg : Str → Option Value) (fa : Addr) (h : Heap) : Prop :=
  ∃ (fd : FuncData) (cs : List (Addr × Addr)) (sp : Sp), (∀ p ∈ cs, h.get? p.2 = some { cls := .none, data := .fields #[] } ∧ K.lookup p.2 = none ∧ PySem.W.CodeHd h p.1 p.2) ∧ (∀ (s : Shared) (u : Value), BindsTo s fd ⟨[u], []⟩ [(x, u)]) ∧
    (∀ (H : Hp) (a : Addr) (ns : List Int), ns.length ≤ n → (∀ p ∈ cs, H p.2 = some (.tbl #[])) → SqL K H a (ns.map V.int) → sp [.ref a] H (fun v _ => v = .bl true) fun _ _ _ => False) ∧
    ∀ b : Heap, K.In b → b.Ns mainGlobals mg → (∀ p ∈ cs, TabB b mg p.1 p.2) → FnG l.prog w K mg b CX k fa fd [x] sp
theorem walkG {l : PySem.W.OpenLaw} {n k : Nat} {q : Program} {loose : List Str} {XP : (Str → Option Value) → Heap → Prop} {YP : World → Heap → Prop} {d : DefRec} {K : Params → PySem.W.Frag} {CX : World → CXT} {x : Str} (most : l.most = some n) (small : n ≤ sizeLine) (nodef : d.params.defaults = []) (hr : Room k callerA)
    (inK : ∀ (w : World) (h : Heap), YP w h → (K w.params).In h) (F : ∀ (w : World) (mg : Str → Option Value) (fa : Addr) (h : Heap), YP w h → (K w.params).In h → h.Ns mainGlobals mg → mg d.name = some (.ref fa) → LawAtG l w (K w.params) (CX w) k n x mg fa h)
    (noE : ∀ (w : World) (H : Hp) (s : Shared) (e : Value) (s' : Shared), CX w [] H s (fun _ _ _ => False) e s' → False) : PySem.W.WalkO q loose XP YP l.row.toRowW d [] (fun f vs => PySem.call f vs) :=
  Att.attach_callB most nodef fun w s₀ s₁ mg mb fa o pm cd doc a vs ns G Y ho hd hcd hmg sc si hl hbits hg =>
    let ⟨fd, cs, sp, hT, hb, hsp, hF⟩ := F w mg fa _ Y (inK w _ Y) G.T.g hmg
    law_callG (inK w _ Y) G.T.g G.T.b G.T.builtins G.T.nolimit hg (fun p hp => (hT p hp).1) (fun p hp => (hT p hp).2.1) (fun p hp => (hT p hp).2.2) G.T.bmain sc si (Nat.le_trans hl small) hr hF hb (fun H h1 h2 => hsp H a ns hl h1 h2) fun H e s' => noE w H s₁ e s'
end LamX

namespace DL
open PySem L2 StX
open PyProof.Rows (envOfC)
section
variable {K : PySem.W.Frag} [Tb K]
/-- repr of a list or a tuple of data without dicts -/
theorem repr_of {P : D → Prop} {d : D} {e : PyData} (hc : ∃ xs, d = .lst xs ∨ d = .tup xs) (h1 : pd d = some e) (h2 : e.showable = true) (h3 : e.hasDict = false) (h4 : e.depth ≤ 60) (h5 : e.shown.length ≤ sizeLine) (h : P (.str e.shown)) : Cb K (rRepr K) [d] P := fun u vs Q ex r k => by
  obtain ⟨v, rfl, r1⟩ := dens1 r
  have hd := den_dp ex r1 h1
  obtain ⟨xs, rfl | rfl⟩ := hc
  · obtain ⟨a, ws, rfl, q, r2⟩ := den_lst r1
    exact ⟨a, e, rfl, hd, h2, h3, h4, h5, k _ _ u (.refl ex) (.str _) h⟩
  · obtain ⟨a, ws, rfl, q, r2⟩ := den_tup r1
    exact ⟨a, e, rfl, hd, h2, h3, h4, h5, k _ _ u (.refl ex) (.str _) h⟩
end
section
variable {Pr : Program} {w : World} {K : PySem.W.Frag} [Tb K] {mg : Str → Option Value} {base : Heap} {R : Rl}
/-- a def that asks for repr, or calls one that does; its code object is cdv (for lambdas) -/
theorem dokG {x qual : Str} {st : Stmt} {f : Addr} {fd : FuncData} {N ps : List Str} {k : Nat} (F : Fun K x qual st f fd) (S : FnScope N ps (defScope st)) (len : ∀ ds n P X, R ds n P X → ds.length = ps.length) (hNp : ps.length ≤ N.length)
    (hbody : ∀ (cdv : Value) (A : Around) (outer : List Env) (s : Shared) (H : Hp) (E : XK), fd.code = cdv → (A.deeper (envOfC qual (defScope st) s.heap.objs.size f cdv)).guards = some [] → Room k (A.deeper (envOfC qual (defScope st) s.heap.objs.size f cdv)) →
      ∃ t, PSs (cxOf CX0 Pr w K mg base N qual (defScope st) f cdv A outer s H E).nox (defBody st) t ∧ ∀ Z ds n P, R ds n P Z.X → Ws K Z t (startD N.length ds) n { nx := fun _ m => P .non m, rt := P }) : FnG Pr w K mg base CX0 (k + 1) f fd ps (spD K R) := by
  refine F.okG S (fun vs H Q E ⟨u, ds, P, X, _, e, _, r, h, _⟩ => by rw [r.len]; exact len ds _ P X h) (fun cdv A outer s H vs Q E hcd hg hr ⟨u, ds, P, X, eh, e, st, r, h, q, xk⟩ => ?_)
  obtain ⟨t, ht, hW⟩ := hbody cdv A outer s H E hcd hg hr
  subst eh
  exact ⟨t, ht.nox, hW ⟨E, X⟩ ds u.n P h u u _ _ rfl (sd_start e xk st r (by rw [r.len, len ds _ P X h]; exact hNp)) ⟨fun ds' v σ' _ S' p => q _ _ _ S'.gr S'.st .non p, fun d v v' g s r p => q v d v' g s r p, fun _ _ _ _ _ z => z.elim, fun _ _ _ _ _ z => z.elim⟩⟩
end
end DL

/-! repr of a list of two pairs of a text and an empty dict. -/
namespace L2
open PySem PySem.Spec PyProof.Rows
/-- a pair of a text and an empty dict -/
abbrev pairE (x : Str) : PyData := .tuple [.str x, .dict []]
def Dq (K : PySem.W.Frag) (H : Hp) (x : Str) (v : V) : Prop := ∃ t d, v = .ref t ∧ SqT K H t [.str x, .ref d] ∧ Rd H d (.dK [])
section
variable {X : Cx} {pins : List (Addr × Obj)} {σ : St} {H : Hp} {s : Shared}
theorem Dq.reads {x : Str} {v : V} {u : Value} (I : Inv X pins σ H s) (h : Dq X.K H x v) (r : RelV v u) : ∃ as, Reads s.heap u (pairE x) as ∧ sysModules ∉ as := by
  obtain ⟨t, d, rfl, ht, hd⟩ := h
  cases r
  obtain ⟨its, rv, ⟨o, ho, hc, n, hdat⟩, _⟩ := I.tuple ht
  cases rv with
  | cons r1 rv =>
  cases rv with
  | cons r2 rv =>
  cases rv
  obtain ⟨tk, rfl⟩ := r1
  cases r2
  obtain ⟨_, hsm, vs, kv, hD⟩ := dk_rd I.hok hd
  obtain ⟨od, es, ep, h1, h2, h3, _, hp, _⟩ := hD
  have e1 : vs = [] := by
    cases vs with
    | nil => rfl
    | cons a b => cases kv
  subst e1
  have e2 : es.toList = [] := by
    generalize es.toList = l at hp
    cases l with
    | nil => rfl
    | cons a b => cases hp
  refine ⟨_, Reads.tuple ho hc hdat (.cons (.str _ _) (.cons (.dict (kvs := []) h1 h2.1 h3 (by rw [e2]; exact .nil) (by rw [e2]; exact .nil)) .nil)), ?_⟩
  have : ¬ sysModules = d := fun z => by rw [z] at hsm; simp at hsm
  simpa using this
end
section
variable {X : Cx}
/-- repr of a list of two such pairs -/
def rRepr2 (K : PySem.W.Frag) : List V → Hp → VK → Prop := fun xs H Q => ∃ a x v1 v2, xs = [.ref a] ∧ SqL K H a [v1, v2] ∧ Dq K H x v1 ∧ Dq K H x v2 ∧ (PyData.list [pairE x, pairE x]).shown.length ≤ sizeLine ∧ Q (.str (PyData.list [pairE x, pairE x]).shown) H
theorem call_repr2 (hg : X.A.guards = some []) (hu : X.A.units + 64 < cLine) : CallR X (.builtin "repr") (rRepr2 X.K) := by
  intro pins s σ H xs us Q I r ⟨a, x, v1, v2, e, hs, d1, d2, hz, q⟩
  subst e
  obtain ⟨u1, rfl, r1⟩ := vals1 r
  cases r1
  obtain ⟨its, rv, ⟨o, n, ho, hc, _, hd⟩, _⟩ := I.list hs
  cases rv with
  | cons q1 rv =>
  cases rv with
  | cons q2 rv =>
  cases rv
  obtain ⟨as1, k1, n1⟩ := d1.reads I q1
  obtain ⟨as2, k2, n2⟩ := d2.reads I q2
  have all := ReadsAll.cons k1 (.cons k2 .nil)
  have hz' : (listText (PyData.shownAll [pairE x, pairE x])).length ≤ sizeLine := by simpa only [PyData.shown] using hz
  obtain ⟨bs, hb, hk⟩ := ReprAllK.of_readsAll (prog := X.prog) (w := X.w) all rfl (fun _ => by simp [n1, n2]) (fun t ht => Nat.le_trans (listText_mem_le ht) hz')
  have hna : a ∉ bs := not_mem_of_deeper (Reads.list ho hc hd all) (by simp only [PyData.depth]; omega) hb
  have dp : PyData.depthAll [pairE x, pairE x] ≤ 60 := by simp [PyData.depth, PyData.depthAll, PyData.depthKv]
  exact call_repr_slot (by omega) ⟨o, ho, hc⟩ F.slot_list_repr.toG (call_list_reprK ho hc hd hna (by simpa using hk.length_eq) (fun i y e => hk.item i y (by simpa using e)) hg (fun b _ => Clear.nil b) (by show X.A.units + 1 + (PyData.depthAll [pairE x, pairE x] + 1) < cLine; omega) (fun _ _ e => e)
    (fun h' u tk hk2 => ⟨_, _, rfl, .str _, H, I.kept hk2, ⟨_, rfl⟩, by simpa only [PyData.shown] using q⟩) hz')
/-- repr of data, or of a list of two pairs with empty dicts -/
def rReprU (K : PySem.W.Frag) : List V → Hp → VK → Prop := fun xs H Q => rRepr K xs H Q ∨ rRepr2 K xs H Q
theorem call_reprU (hg : X.A.guards = some []) (hu : X.A.units + 64 < cLine) : CallR X (.builtin "repr") (rReprU X.K) := fun pins s σ H xs us Q I r h => h.elim (call_repr hg hu pins s σ H xs us Q I r) (call_repr2 hg hu pins s σ H xs us Q I r)
end
end L2
namespace DL
open PySem L2 StX
section
variable {K : PySem.W.Frag} [Tb K]
theorem reprU_of {P : D → Prop} {d : D} {e : PyData} (hc : ∃ xs, d = .lst xs ∨ d = .tup xs) (h1 : pd d = some e) (h2 : e.showable = true) (h3 : e.hasDict = false) (h4 : e.depth ≤ 60) (h5 : e.shown.length ≤ sizeLine) (h : P (.str e.shown)) : Cb K (rReprU K) [d] P := fun u vs Q ex r k => .inl (repr_of hc h1 h2 h3 h4 h5 h u vs Q ex r k)
theorem den_dq {u : Wd} {v : V} {x : Str} (ex : Ex u.H0 u.H1) (h : Den K u v (.tup [.str x, .dct []])) : Dq K u.H1 x v := by
  obtain ⟨a, ws, rfl, q, r⟩ := den_tup h
  obtain ⟨w1, w2, rfl, r1, r2⟩ := dens2 r
  cases r1
  cases r2 with
  | dct hd hk =>
    cases hk
    refine ⟨a, _, rfl, Evl.ex_t ex q, ?_⟩
    rcases hd with hd | ⟨o, hd⟩
    · exact .inl (ex _ _ hd)
    · exact .inr ⟨o, ex _ _ hd⟩
theorem repr2_of {P : D → Prop} {x : Str} (h5 : (PyData.list [pairE x, pairE x]).shown.length ≤ sizeLine) (h : P (.str (PyData.list [pairE x, pairE x]).shown)) : Cb K (rReprU K) [.lst [.tup [.str x, .dct []], .tup [.str x, .dct []]]] P := fun u vs Q ex r k => by
  obtain ⟨v, rfl, r1⟩ := dens1 r
  obtain ⟨a, ws, rfl, q, r2⟩ := den_lst r1
  obtain ⟨w1, w2, rfl, d1, d2⟩ := dens2 r2
  exact .inr ⟨a, x, w1, w2, rfl, Evl.ex_l ex q, den_dq ex d1, den_dq ex d2, h5, k _ _ u (.refl ex) (.str _) h⟩
end
end DL

namespace L2
open PySem PySem.Spec PyProof.Rows
section
variable {X : Cx} {pins : List (Addr × Obj)} {σ : St} {H : Hp} {s : Shared}
theorem dqs_reads {x : Str} (I : Inv X pins σ H s) : ∀ {vs : List V} {us : List Value}, (∀ v ∈ vs, Dq X.K H x v) → Vals vs us → ∃ as, ReadsAll s.heap us (List.replicate vs.length (pairE x)) as ∧ sysModules ∉ as
  | _, _, _, .nil => ⟨[], .nil, by simp⟩
  | _, _, h, .cons r rs => by
    obtain ⟨as, k1, n1⟩ := (h _ (List.mem_cons_self ..)).reads I r
    obtain ⟨bs, k2, n2⟩ := dqs_reads I (fun v hv => h v (List.mem_cons_of_mem _ hv)) rs
    exact ⟨as ++ bs, .cons k1 k2, by simp [n1, n2]⟩
theorem show_pairs (x : Str) : ∀ n : Nat, PyData.showableAll (List.replicate n (pairE x)) = true
  | 0 => by simp [PyData.showableAll]
  | n + 1 => by
    rw [List.replicate_succ]
    simp only [PyData.showableAll, show_pairs x n, Bool.and_true]
    rfl
theorem depth_pairs (x : Str) : ∀ n : Nat, PyData.depthAll (List.replicate n (pairE x)) ≤ 10
  | 0 => by simp [PyData.depthAll]
  | n + 1 => by
    have := depth_pairs x n
    rw [List.replicate_succ]
    simp only [PyData.depthAll]
    have e : (pairE x).depth ≤ 10 := by simp [PyData.depth, PyData.depthAll, PyData.depthKv]
    omega
end
section
variable {X : Cx}
/-- repr of a list of such pairs -/
def rReprs (K : PySem.W.Frag) : List V → Hp → VK → Prop := fun xs H Q => ∃ a x vs, xs = [.ref a] ∧ vs ≠ [] ∧ SqL K H a vs ∧ (∀ v ∈ vs, Dq K H x v) ∧ (PyData.list (List.replicate vs.length (pairE x))).shown.length ≤ sizeLine ∧ Q (.str (PyData.list (List.replicate vs.length (pairE x))).shown) H
theorem call_reprs (hg : X.A.guards = some []) (hu : X.A.units + 64 < cLine) : CallR X (.builtin "repr") (rReprs X.K) := by
  intro pins s σ H xs us Q I r ⟨a, x, vs, e, hne, hs, dq, hz, q⟩
  subst e
  obtain ⟨u1, rfl, r1⟩ := vals1 r
  cases r1
  obtain ⟨its, rv, ⟨o, n, ho, hc, _, hd⟩, _⟩ := I.list hs
  obtain ⟨as, all, na⟩ := dqs_reads I dq rv
  have hz' : (listText (PyData.shownAll (List.replicate vs.length (pairE x)))).length ≤ sizeLine := by simpa only [PyData.shown] using hz
  obtain ⟨bs, hb, hk⟩ := ReprAllK.of_readsAll (prog := X.prog) (w := X.w) all (show_pairs x _) (fun _ => na) (fun t ht => Nat.le_trans (listText_mem_le ht) hz')
  have hna : a ∉ bs := not_mem_of_deeper (Reads.list ho hc hd all) (by simp only [PyData.depth]; omega) hb
  have dp := depth_pairs x vs.length
  have hle := hk.length_eq
  obtain ⟨y0, ys, rfl⟩ : ∃ y ys, its = y :: ys := by
    cases its with
    | nil => exact absurd (List.eq_nil_of_length_eq_zero rv.length) hne
    | cons y ys => exact ⟨y, ys, rfl⟩
  exact call_repr_slot (by omega) ⟨o, ho, hc⟩ F.slot_list_repr.toG (call_list_reprK ho hc hd hna (by simpa using hle) (fun i y e => hk.item i y (by simpa using e)) hg (fun b _ => Clear.nil b) (by show X.A.units + 1 + (PyData.depthAll (List.replicate vs.length (pairE x)) + 1) < cLine; omega) (fun _ _ e => e)
    (fun h' u tk hk2 => ⟨_, _, rfl, .str _, H, I.kept hk2, ⟨_, rfl⟩, by simpa only [PyData.shown] using q⟩) hz')
/-- repr of data, or of a list of pairs with empty dicts -/
def rReprV (K : PySem.W.Frag) : List V → Hp → VK → Prop := fun xs H Q => rRepr K xs H Q ∨ rReprs K xs H Q
theorem call_reprV (hg : X.A.guards = some []) (hu : X.A.units + 64 < cLine) : CallR X (.builtin "repr") (rReprV X.K) := fun pins s σ H xs us Q I r h => h.elim (call_repr hg hu pins s σ H xs us Q I r) (call_reprs hg hu pins s σ H xs us Q I r)
end
section
variable {X : Cx} {CX : CXT} {k nk : Nat} {f C : Addr} {fd : FuncData} {ps ks : List Str} {sp : Sp} {E : XK} {x : Str} {p pos : Pos} {kws : List Keyword} {tk : TA} {g : List Value → List Value → List Value} {gV : List V → List V → List V}
/-- C(k = v, ..), the number of keywords told -/
theorem pe_mkK0 (M : Mk X.K C f) (F : FnOk X.prog X.w X.K X.mg X.base CX k f fd ps sp) (hr : Room (k + 1) X.A) (hg : Gl X x) (hm : X.mg x = some (.ref C)) (hb : KBn X.K fd ps 1 ks g gV) (hx : Passes CX X E) (hkw : PK X kws tk)
    (hall : (backToKw pos (keywordEach kws X.env)).all (·.1.isSome) = true := by rfl) (hks : (backToKw pos (keywordEach kws X.env)).filterMap (·.1) = ks := by rfl) (hdb : (x == ("__debug__" : Str)) = false := by decide)
    (hpl : ((backTo pos (starEach [] X.env)).any (·.1) || (backToKw pos (keywordEach kws X.env)).any (·.1.isNone)) = false := by rfl) (hnk : ks.length = nk := by rfl) :
    PE X (.Call (.Name x p) [] kws pos) (tMakeK C 0 nk sp gV E tNil tk) := by
  subst hnk
  exact pe_makeK0 M F hr hg hm hb hx hkw hall hks hdb hpl
end
end L2
namespace DL
open PySem L2 StX
open PyProof.Rows (envOfC)
section
variable {K : PySem.W.Frag} [Tb K]
theorem reprV_of {P : D → Prop} {d : D} {e : PyData} (hc : ∃ xs, d = .lst xs ∨ d = .tup xs) (h1 : pd d = some e) (h2 : e.showable = true) (h3 : e.hasDict = false) (h4 : e.depth ≤ 60) (h5 : e.shown.length ≤ sizeLine) (h : P (.str e.shown)) : Cb K (rReprV K) [d] P := fun u vs Q ex r k => .inl (repr_of hc h1 h2 h3 h4 h5 h u vs Q ex r k)
theorem dens_dq {u : Wd} {x : Str} (ex : Ex u.H0 u.H1) : ∀ {vs : List V} {n : Nat}, Dens K u vs (List.replicate n (.tup [.str x, .dct []])) → vs.length = n ∧ ∀ v ∈ vs, Dq K u.H1 x v
  | [], 0, _ => ⟨rfl, by simp⟩
  | [], _ + 1, h => by rw [List.replicate_succ] at h; cases h
  | _ :: _, 0, h => by cases h
  | v :: vs, n + 1, h => by
    rw [List.replicate_succ] at h
    cases h with
    | cons r rs =>
      obtain ⟨e, f⟩ := dens_dq ex rs
      refine ⟨by rw [List.length_cons, e], fun w hw => ?_⟩
      rcases List.mem_cons.mp hw with rfl | hw
      · exact den_dq ex r
      · exact f w hw
theorem reprs_of {P : D → Prop} {x : Str} {n : Nat} (h0 : n ≠ 0) (h5 : (PyData.list (List.replicate n (pairE x))).shown.length ≤ sizeLine) (h : P (.str (PyData.list (List.replicate n (pairE x))).shown)) : Cb K (rReprV K) [.lst (List.replicate n (.tup [.str x, .dct []]))] P := fun u vs Q ex r k => by
  obtain ⟨v, rfl, r1⟩ := dens1 r
  obtain ⟨a, ws, rfl, q, r2⟩ := den_lst r1
  obtain ⟨e, f⟩ := dens_dq ex r2
  subst e
  exact .inr ⟨a, x, ws, rfl, fun z => h0 (by rw [z]; rfl), Evl.ex_l ex q, f, h5, k _ _ u (.refl ex) (.str _) h⟩
end
section
variable {K : PySem.W.Frag} [Tb K] {Z : ZX} {ds : DS} {n : Nat} {P : D → Nat → Prop} {tk : TA} {C : Addr} {E : XK} {R : Ri}
/-- C(k = v, ..) -/
theorem we_makeK0 {nk : Nat} {ix : List Nat} (hix : ∀ (a : V) (vs : List V), vs.length = nk → perm ix [a] vs = a :: perm (ix.tail.map (· - 1)) [] vs)
    (h : Wa K Z tk ds n fun ys m => ys.length = nk ∧ R (perm (ix.tail.map (· - 1)) [] ys) m (fun gs => P (.obj C gs) m) noX) : We K Z (tMakeK C 0 nk (spI K C R) (perm ix) E tNil tk) ds n P := fun b u σ Q e Sd k => by
  refine h b u σ _ e Sd fun vs xs u1 g1 s1 r ⟨hl, p⟩ => ⟨rfl, r.len.trans hl, fun x dx hx hdx ne => ?_⟩
  rw [hix _ _ (r.len.trans hl)]
  exact ⟨x, dx, _, u1, _, _, _, rfl, hx, hdx, ne, rfl, g1.c, s1, dens_perm _ .nil r, p, fun fs gs u2 g2 s2 en n0 nS h1 h2 hf pg => ⟨rfl, by
    have l1 : Le u2 ⟨u2.S, u2.T, u2.n, upd u2.H0 x (.ins C dx fs), u2.H1⟩ := ⟨fun _ h => h, fun _ _ => rfl, ex_new n0⟩
    exact k _ _ ⟨u2.S, u2.T, u2.n, upd u2.H0 x (.ins C dx fs), u2.H1⟩ (g1.trans (g2.settle hx n0 h1)) (s2.settle n0 nS) (.obj upd_same (hf.mono l1)) (en ▸ pg)⟩, xok_no⟩
theorem we_makeK0X {nk : Nat} {ix : List Nat} (hix : ∀ (a : V) (vs : List V), vs.length = nk → perm ix [a] vs = a :: perm (ix.tail.map (· - 1)) [] vs)
    (h : Wa K Z tk ds n fun ys m => ys.length = nk ∧ R (perm (ix.tail.map (· - 1)) [] ys) m (fun gs => P (.obj C gs) m) Z.X) : We K Z (tMakeK C 0 nk (spI K C R) (perm ix) Z.E tNil tk) ds n P := fun b u σ Q e Sd k => by
  refine h b u σ _ e Sd fun vs xs u1 g1 s1 r ⟨hl, p⟩ => ⟨rfl, r.len.trans hl, fun x dx hx hdx ne => ?_⟩
  rw [hix _ _ (r.len.trans hl)]
  exact ⟨x, dx, _, u1, _, _, _, rfl, hx, hdx, ne, rfl, g1.c, s1, dens_perm _ .nil r, p, fun fs gs u2 g2 s2 en n0 nS h1 h2 hf pg => ⟨rfl, by
    have l1 : Le u2 ⟨u2.S, u2.T, u2.n, upd u2.H0 x (.ins C dx fs), u2.H1⟩ := ⟨fun _ h => h, fun _ _ => rfl, ex_new n0⟩
    exact k _ _ ⟨u2.S, u2.T, u2.n, upd u2.H0 x (.ins C dx fs), u2.H1⟩ (g1.trans (g2.settle hx n0 h1)) (s2.settle n0 nS) (.obj upd_same (hf.mono l1)) (en ▸ pg)⟩, Sd.xk.at (Sd.gr.trans g1)⟩
end
section
variable {Pr : Program} {w : World} {K : PySem.W.Frag} [Tb K] {mg : Str → Option Value} {base : Heap} {C : Addr}
theorem dokIX {x qual : Str} {st : Stmt} {f : Addr} {fd : FuncData} {N ps : List Str} {k : Nat} {R : Ri} (F : Fun K x qual st f fd) (S : FnScope N ps (defScope st)) (len : ∀ ds n P X, R ds n P X → ds.length + 1 = ps.length) (hNp : ps.length ≤ N.length)
    (hbody : ∀ (cdv : Value) (A : Around) (outer : List Env) (s : Shared) (H : Hp) (E : XK), Room k (A.deeper (envOfC qual (defScope st) s.heap.objs.size f cdv)) →
      ∃ t, PSs (cxOf (L2.CX Pr w) Pr w K mg base N qual (defScope st) f cdv A outer s H E) (defBody st) t ∧ ∀ X x dx ds n P, R ds n P X → Ws K ⟨E, X⟩ t (some (.mob x dx C []) :: startD (N.length - 1) ds) n { nx := fun ds' m => m = n ∧ ∃ gs, ds'[0]? = some (some (.mob x dx C gs)) ∧ P gs, rt := fun _ _ => False }) : FnOk Pr w K mg base (L2.CX Pr w) (k + 1) f fd ps (spI K C R) := by
  refine F.okX S (fun vs H Q E ⟨x, dx, ws, u, ds, P, X, e, _, _, _, _, _, _, r, h, _⟩ => by subst e; rw [List.length_cons, r.len]; exact len ds _ P X h) (fun cdv A outer s H vs Q E hr ⟨x, dx, ws, u, ds, P, X, e, hx, hdx, ne, eH, ex, st, r, h, q, xk⟩ => ?_)
  obtain ⟨t, ht, hW⟩ := hbody cdv A outer s H E hr
  subst e
  subst eH
  have hl := len ds _ P X h
  obtain ⟨j, hn⟩ : ∃ j, N.length = j + 1 := ⟨N.length - 1, by omega⟩
  have x0 : u.H0 x = none := ex_none ex hx
  have dx0 : u.H0 dx = none := ex_none ex hdx
  have xS : ¬ u.S x := fun h => by
    obtain ⟨_, o, h1, _⟩ := st x h
    rw [hx] at h1; cases h1
  have dxS : ¬ u.S dx := fun h => by
    obtain ⟨_, o, h1, _⟩ := st dx h
    rw [hdx] at h1; cases h1
  have g : Gs u ⟨u.S, u.T, u.n, u.H0, upd (upd u.H1 dx (.own x)) x (.ins C dx [])⟩ := ((Gs.refl ex).write (o := .own x) hdx dx0).write (o := .ins C dx []) hx x0
  have s2 : StOk K ⟨u.S, u.T, u.n, u.H0, upd (upd u.H1 dx (.own x)) x (.ins C dx [])⟩ := (st.write (o := .own x) dxS).write (o := .ins C dx []) xS
  have S0 : Sd K ⟨E, X⟩ u ⟨u.S, u.T, u.n, u.H0, upd (upd u.H1 dx (.own x)) x (.ins C dx [])⟩ (L2.start N (.ref x :: ws)) (some (.mob x dx C []) :: startD (N.length - 1) ds) := by
    cases hN : N with
    | nil => rw [hN] at hn; cases hn
    | cons y N' =>
      have T := (sd_start (Z := ⟨E, X⟩) (N := N') (vs := ws) ex xk st r (by rw [hN] at hNp; simp at hNp; rw [r.len]; omega)).go g s2
      have es : L2.start (y :: N') (V.ref x :: ws) = some (V.ref x) :: L2.start N' ws := by simp [L2.start]
      rw [es]
      have nm : ∀ (i : Nat) (d : D), (some (D.mob x dx C []) :: startD ((y :: N').length - 1) ds)[i]? = some (some d) → isMut d = true → i = 0 := fun i d h m => by
        cases i with
        | zero => rfl
        | succ i =>
          have h' : (startD N'.length ds)[i]? = some (some d) := by simpa using h
          unfold startD at h'
          rw [List.getElem?_append] at h'
          by_cases q : i < (ds.map some).length
          · rw [if_pos q] at h'
            have h3 : ds[i]? = some d := by simpa using h'
            obtain ⟨v, _, hd⟩ := r.getD h3
            rw [hd.notMut] at m
            cases m
          · rw [if_neg q, List.getElem?_replicate] at h'
            split at h' <;> cases h'
      refine ⟨g, xk, s2, by simpa using T.len, fun i d hi => ?_, fun i j d e a b h1 h2 m1 m2 nij => absurd ((nm i d h1 m1).trans (nm j e h2 m2).symm) nij⟩
      cases i with
      | zero =>
        simp at hi
        subst hi
        exact ⟨.ref x, by simp, .mob hx x0 xS upd_same ((upd_ne ne).trans upd_same) dxS .nil⟩
      | succ i =>
        obtain ⟨v, hv, hd⟩ := T.sl i d (by simpa using hi)
        exact ⟨v, by simpa using hv, hd⟩
  refine ⟨t, ht, hW X x dx ds u.n P h u ⟨u.S, u.T, u.n, u.H0, _⟩ _ _ rfl S0 ⟨fun ds' u2 σ' _ S' ⟨en, gs, hg, p⟩ => ?_, fun d v _ _ _ _ p => p.elim, fun _ _ _ _ _ z => z.elim, fun _ _ _ _ _ z => z.elim⟩⟩
  obtain ⟨v, _, hS⟩ := S'.sl 0 _ hg
  cases hS with
  | den z => cases z
  | mob c0 c1 c5 c2 c4 c6 c3 => exact q _ gs u2 S'.gr S'.st en c1 c5 c2 c4 c3 p
end
end DL

/-! Lists that are grown: read, stored into, measured. -/
namespace DL
open PySem L2 StX
section
variable {K : PySem.W.Frag} [Tb K] {Z : ZX} {b u u' u'' : Wd} {σ : L2.St} {ds : DS} {n : Nat} {P : D → Nat → Prop} {te ta tb tc ti : TE} {N : Nd}
theorem mls_at {i : Nat} {xs : List D} (S : Sd K Z b u σ ds) (hd : ds[i]? = some (some (.mls xs))) : ∃ a vs, σ[i]? = some (some (.ref a)) ∧ b.H1 a = none ∧ u.H0 a = none ∧ ¬ u.S a ∧ u.H1 a = some (.lst vs) ∧ Dens K u vs xs := by
  obtain ⟨v, hv, hS⟩ := S.sl i _ hd
  cases hS with
  | den h => cases h
  | mls b0 b1 b5 b2 b3 => exact ⟨_, _, hv, b0, b1, b5, b2, b3⟩
theorem Dens.set : ∀ {vs : List V} {xs : List D} {v : V} {d : D} (_ : Dens K u vs xs) (_ : Den K u v d) (j : Nat), Dens K u (vs.set j v) (xs.set j d)
  | _, _, _, _, .nil, _, _ => by simpa using Dens.nil
  | _, _, _, _, .cons _ t, r, 0 => by simpa using Dens.cons r t
  | _, _, _, _, .cons q t, r, j + 1 => by simpa using Dens.cons q (Dens.set t r j)
/-- xs[k] of a list that is grown -/
theorem we_ixM {i : Nat} {xs : List D} (hd : ds[i]? = some (some (.mls xs))) (h : We K Z ti ds n fun y m => ∃ (k : Int) (j : Nat) (d : D), y = .int k ∧ ixN xs.length k = some j ∧ xs[j]? = some d ∧ P d m) : We K Z (tOp (rIx K) (tVar i) ti) ds n P := fun b u σ Q e S kk => by
  obtain ⟨a, vs, hv, b0, b1, b5, b2, b3⟩ := mls_at S hd
  refine ⟨.ref a, hv, ?_⟩
  refine h b u σ _ e S fun y d u1 g1 s1 r ⟨k, j, d', hy, hix, hat, p⟩ => ?_
  subst hy
  cases den_int r
  have S' := S.go g1 s1
  obtain ⟨a', ws, hv', c0, c1, c5, c2, c3⟩ := mls_at S' hd
  rw [hv] at hv'
  cases hv'
  obtain ⟨w, hw, rw'⟩ := c3.getD hat
  exact .inl ⟨a, ws, k, w, rfl, rfl, SqL.of c2, by unfold atI; rw [c3.len, hix]; exact hw, kk _ _ u1 g1 s1 rw' p⟩
/-- xs[k] = e into a list that is grown -/
theorem ws_setM {i : Nat} {xs : List D} (hd : ds[i]? = some (some (.mls xs))) (h : We K Z te ds n fun d m => We K Z ti ds m fun y l => ∃ (k : Int) (j : Nat), y = .int k ∧ ixN xs.length k = some j ∧ N.nx (ds.set i (some (.mls (xs.set j d)))) l) : Ws K Z (tAsg te (gSub (tVar i) ti rSetL)) ds n N := fun b u σ De e S O => by
  refine h b u σ _ e S fun w d u1 g1 s1 r q => ?_
  have S1 := S.go g1 s1
  obtain ⟨a, vs, hv, b0, b1, b5, b2, b3⟩ := mls_at S1 hd
  refine ⟨.ref a, hv, ?_⟩
  refine q b u1 σ _ rfl S1 fun y d2 u2 g2 s2 r2 ⟨k, j, hy, hix, p⟩ => ?_
  subst hy
  cases den_int r2
  have S2 := S1.go g2 s2
  obtain ⟨a', ws, hv', c0, c1, c5, c2, c3⟩ := mls_at S2 hd
  rw [hv] at hv'
  cases hv'
  have l1 : Le u2 ⟨u2.S, u2.T, u2.n, u2.H0, upd u2.H1 a (.lst (ws.set j w))⟩ := ⟨fun _ h => h, fun _ _ => rfl, .refl _⟩
  have g12 := g1.trans g2
  exact ⟨a, ws, k, j, rfl, rfl, c2, by rw [c3.len]; exact hix, O.nx _ ⟨u2.S, u2.T, u2.n, u2.H0, _⟩ _ ⟨g12.sub, g12.kd, g12.a⟩ (S2.change hd rfl hv rfl c0 c1 c5 (fun _ z => by rw [c2] at z; cases z) (.mls c0 c1 c5 upd_same ((c3.set (r.mono g2.ls) j).mono l1))) p⟩
/-- len(xs) of a list that is grown -/
theorem we_lenM {i : Nat} {xs : List D} (hd : ds[i]? = some (some (.mls xs))) (h : P (.int (xs.length : Nat)) n) : We K Z (tCB (rLen' K) (tCons (tVar i) tNil)) ds n P := fun b u σ Q e S kk => by
  obtain ⟨a, vs, hv, b0, b1, b5, b2, b3⟩ := mls_at S hd
  refine ⟨.ref a, hv, ?_⟩
  subst e
  exact ⟨_, vs.length, rfl, .inl ⟨vs, SqL.of b2, rfl⟩, by rw [b3.len]; exact kk _ _ u (.refl S.ex) S.st (.int _) h⟩
end
end DL

/-! Exceptions made as values; dict displays; repr of lists with one thing many times. -/
namespace L2
open PySem PySem.Spec PyProof.Rows
/-- the making of an exception, its object kept -/
def tMkE (t : St → Hp → XK → Prop) : TE := fun σ H Q => t σ H fun cls d H' => ∀ a, H' a = none → Q (.ref a) (upd H' a (xo a cls d))
section
variable {X : Cx}
theorem pe_mke {e : Expr} {t : St → Hp → XK → Prop} (he : PMk X e t) : PE X e (tMkE t) := by
  refine ⟨fun pins s σ H Q I h => ?_⟩
  refine wpAny_mono (he pins s σ H _ I h) (fun u s' hu => ?_) fun _ _ x => x
  obtain ⟨a, oe, vs, sI, H', cls, d, rfl, J, k, hne, ha, hz, hd, h1, na, os, ag, r, q⟩ := hu
  exact ⟨.ref a, _, J.landedT (B := PySem.W.hideAll sI.heap (frs X.stack)) (fun b o e hb => PySem.W.hideAll_get _ e hb) (fun b o e => k b o (PySem.W.of_hideAll _ e)) (Heap.UpToSlots.of_keeps k) os ag na hne ha hz hd, rfl, q a na⟩
/-- X(), X an own exception class without own __init__ -/
theorem pmk_own0 {C : Addr} {bmB : List Value} {B newId initId : String} {x : Str} {p pos : Pos} (F : ExcBaseFacts B newId initId bmB) (q : PySem.W.excIn X.K C bmB newId = true) (gC : X.mg x = some (.ref C))
    (kC : PySem.W.keepIn X.K (.ref C) = true) (r : Raises X (.ref C)) (hg : Gl X x) (hdb : (x == ("__debug__" : Str)) = false := by decide) :
    PMk X (.Call (.Name x p) [] [] pos) (fun σ H Q => Q (.ref C) none H) := by
  intro pins s σ H Q I h
  refine wpAny_Call_Name_kw (ld_glob I hg gC ?_ hdb)
  refine PySem.W.callWith_K0 I.kIn kC ?_
  obtain ⟨bm, N, nm, qn, bs, hdct, sn, sub, ab, col, dd, k0, k1, k2, k3, k5, mN, hC, hN, hni, T⟩ := exc_obj I.kIn q
  refine wpAny_call_exc_subT F T hC hN hni (fun h' e hm => ?_) (by show 0 ≤ sizeLine; omega)
  exact mk_of I hm r h (I.hok.gone hm.new)
end
/-- X(e) of an own exception class that stores its argument; X() of one that stores nothing -/
def tXv (C : Addr) (sp : Sp) (ta : TA) : TE := tMkE fun σ H E => tMkO C sp [] ta σ H E
def tXv0 (C : Addr) : TE := tMkE fun σ H E => E (.ref C) none H
/-! repr -/
/-- a dict with one text as its key and a number -/
def Dd (K : PySem.W.Frag) (H : Hp) (x : Str) (i : Int) (v : V) : Prop := ∃ d, v = .ref d ∧ Rd H d (.dK [(.inr x, .int i)])
section
variable {X : Cx} {pins : List (Addr × Obj)} {σ : St} {H : Hp} {s : Shared}
theorem Dd.reads {x : Str} {i : Int} {v : V} {u : Value} (I : Inv X pins σ H s) (h : Dd X.K H x i v) (r : RelV v u) : ∃ as, Reads s.heap u (.dict [(.str x, .int i)]) as ∧ sysModules ∉ as := by
  obtain ⟨d, rfl, hd⟩ := h
  cases r
  obtain ⟨_, hsm, vs, kv, hD⟩ := dk_rd I.hok hd
  obtain ⟨od, es, ep, h1, h2, h3, _, hp, _⟩ := hD
  obtain ⟨k, w, rfl, hk, hw⟩ : ∃ (k : Key) (w : Value), vs = [(k, w)] ∧ (.inr x : Key) = k ∧ RelV (.int i) w := by
    cases kv with
    | cons r0 kv2 =>
      cases kv2
      exact ⟨_, _, rfl, r0.1, r0.2⟩
  obtain ⟨tk, rfl⟩ := hw
  subst hk
  generalize hes : es.toList = l at hp
  cases hp with
  | cons he hv hp =>
  cases hp
  rename_i e
  have he' : keyIs (.inr x) e.key = true := he
  rcases keyIs_shape he' with ⟨j, t, hj, z⟩ | ⟨y, t, hy, z⟩
  · cases hj
  · cases hy
    refine ⟨_, Reads.dict (kvs := [(.str x, .int i)]) h1 h2.1 h3 (by rw [hes]; simp only [List.map_cons, List.map_nil]; rw [z]; exact .cons (.str _ _) .nil) (by rw [hes]; simp only [List.map_cons, List.map_nil]; rw [hv]; exact .cons (.int _ _) .nil), ?_⟩
    have : ¬ sysModules = d := fun z => by rw [z] at hsm; simp at hsm
    simpa using this
end
theorem dds_reads {X : Cx} {pins : List (Addr × Obj)} {σ : St} {H : Hp} {s : Shared} {x : Str} {i : Int} (I : Inv X pins σ H s) : ∀ {vs : List V} {us : List Value}, (∀ v ∈ vs, Dd X.K H x i v) → Vals vs us → ∃ as, ReadsAll s.heap us (List.replicate vs.length (.dict [(.str x, .int i)])) as ∧ sysModules ∉ as
  | _, _, _, .nil => ⟨[], .nil, by simp⟩
  | _, _, h, .cons r rs => by
    obtain ⟨as, k1, n1⟩ := (h _ (List.mem_cons_self ..)).reads I r
    obtain ⟨bs, k2, n2⟩ := dds_reads I (fun v hv => h v (List.mem_cons_of_mem _ hv)) rs
    exact ⟨as ++ bs, .cons k1 k2, by simp [n1, n2]⟩
theorem show_reps {e : PyData} (h : e.showable = true) : ∀ n : Nat, PyData.showableAll (List.replicate n e) = true
  | 0 => by simp [PyData.showableAll]
  | n + 1 => by
    rw [List.replicate_succ]
    simp only [PyData.showableAll, show_reps h n, h, Bool.and_true]
theorem depth_reps {e : PyData} (h : e.depth ≤ 10) : ∀ n : Nat, PyData.depthAll (List.replicate n e) ≤ 10
  | 0 => by simp [PyData.depthAll]
  | n + 1 => by
    have := depth_reps h n
    rw [List.replicate_succ]
    simp only [PyData.depthAll]
    omega
section
variable {X : Cx}
/-- repr of a list of such dicts -/
def rReprDs (K : PySem.W.Frag) : List V → Hp → VK → Prop := fun xs H Q => ∃ a x i vs, xs = [.ref a] ∧ vs ≠ [] ∧ SqL K H a vs ∧ (∀ v ∈ vs, Dd K H x i v) ∧ (PyData.dict [(.str x, .int i)]).showable = true ∧ (PyData.list (List.replicate vs.length (.dict [(.str x, .int i)]))).shown.length ≤ sizeLine ∧ Q (.str (PyData.list (List.replicate vs.length (.dict [(.str x, .int i)]))).shown) H
theorem call_reprDs (hg : X.A.guards = some []) (hu : X.A.units + 64 < cLine) : CallR X (.builtin "repr") (rReprDs X.K) := by
  intro pins s σ H xs us Q I r ⟨a, x, i, vs, e, hne, hs, dq, hsh, hz, q⟩
  subst e
  obtain ⟨u1, rfl, r1⟩ := vals1 r
  cases r1
  obtain ⟨its, rv, ⟨o, n, ho, hc, _, hd⟩, _⟩ := I.list hs
  obtain ⟨as, all, na⟩ := dds_reads I dq rv
  have hz' : (listText (PyData.shownAll (List.replicate vs.length (.dict [(.str x, .int i)])))).length ≤ sizeLine := by simpa only [PyData.shown] using hz
  obtain ⟨bs, hb, hk⟩ := ReprAllK.of_readsAll (prog := X.prog) (w := X.w) all (show_reps hsh _) (fun _ => na) (fun t ht => Nat.le_trans (listText_mem_le ht) hz')
  have hna : a ∉ bs := not_mem_of_deeper (Reads.list ho hc hd all) (by simp only [PyData.depth]; omega) hb
  have dp := depth_reps (e := .dict [(.str x, .int i)]) (by simp [PyData.depth, PyData.depthKv]) vs.length
  have hle := hk.length_eq
  obtain ⟨y0, ys, rfl⟩ : ∃ y ys, its = y :: ys := by
    cases its with
    | nil => exact absurd (List.eq_nil_of_length_eq_zero rv.length) hne
    | cons y ys => exact ⟨y, ys, rfl⟩
  exact call_repr_slot (by omega) ⟨o, ho, hc⟩ F.slot_list_repr.toG (call_list_reprK ho hc hd hna (by simpa using hle) (fun i y e => hk.item i y (by simpa using e)) hg (fun b _ => Clear.nil b) (by show X.A.units + 1 + (PyData.depthAll (List.replicate vs.length (.dict [(.str x, .int i)])) + 1) < cLine; omega) (fun _ _ e => e)
    (fun h' u tk hk2 => ⟨_, _, rfl, .str _, H, I.kept hk2, ⟨_, rfl⟩, by simpa only [PyData.shown] using q⟩) hz')
def rReprW (K : PySem.W.Frag) : List V → Hp → VK → Prop := fun xs H Q => rReprV K xs H Q ∨ rReprDs K xs H Q
theorem call_reprW (hg : X.A.guards = some []) (hu : X.A.units + 64 < cLine) : CallR X (.builtin "repr") (rReprW X.K) := fun pins s σ H xs us Q I r h => h.elim (call_reprV hg hu pins s σ H xs us Q I r) (call_reprDs hg hu pins s σ H xs us Q I r)
end
end L2
namespace DL
open PySem L2 StX
section
variable {K : PySem.W.Frag} [Tb K]
theorem den_dd {u : Wd} {v : V} {x : Str} {i : Int} (ex : Ex u.H0 u.H1) (h : Den K u v (.dct [(.inr x, .int i)])) : Dd K u.H1 x i v := by
  obtain ⟨a, kvs, rfl, hd, hk⟩ := den_dct h
  cases hk with
  | cons r0 hk =>
  cases hk
  cases den_int r0
  refine ⟨a, rfl, ?_⟩
  rcases hd with hd | ⟨o, hd⟩
  · exact .inl (ex _ _ hd)
  · exact .inr ⟨o, ex _ _ hd⟩
theorem dens_dd {u : Wd} {x : Str} {i : Int} (ex : Ex u.H0 u.H1) : ∀ {vs : List V} {n : Nat}, Dens K u vs (List.replicate n (.dct [(.inr x, .int i)])) → vs.length = n ∧ ∀ v ∈ vs, Dd K u.H1 x i v
  | [], 0, _ => ⟨rfl, by simp⟩
  | [], _ + 1, h => by rw [List.replicate_succ] at h; cases h
  | _ :: _, 0, h => by cases h
  | v :: vs, n + 1, h => by
    rw [List.replicate_succ] at h
    cases h with
    | cons r rs =>
      obtain ⟨e, f⟩ := dens_dd ex rs
      refine ⟨by rw [List.length_cons, e], fun w hw => ?_⟩
      rcases List.mem_cons.mp hw with rfl | hw
      · exact den_dd ex r
      · exact f w hw
theorem reprds_of {P : D → Prop} {x : Str} {i : Int} {n : Nat} (h0 : n ≠ 0) (hs : (PyData.dict [(.str x, .int i)]).showable = true) (h5 : (PyData.list (List.replicate n (.dict [(.str x, .int i)]))).shown.length ≤ sizeLine) (h : P (.str (PyData.list (List.replicate n (.dict [(.str x, .int i)]))).shown)) : Cb K (rReprW K) [.lst (List.replicate n (.dct [(.inr x, .int i)]))] P := fun u vs Q ex r k => by
  obtain ⟨v, rfl, r1⟩ := dens1 r
  obtain ⟨a, ws, rfl, q, r2⟩ := den_lst r1
  obtain ⟨e, f⟩ := dens_dd ex r2
  subst e
  exact .inr ⟨a, x, i, ws, rfl, fun z => h0 (by rw [z]; rfl), Evl.ex_l ex q, f, hs, h5, k _ _ u (.refl ex) (.str _) h⟩
theorem pds_reps {d : D} {e : PyData} (h : pd d = some e) : ∀ k : Nat, pds (List.replicate k d) = some (List.replicate k e)
  | 0 => rfl
  | k + 1 => by rw [List.replicate_succ, List.replicate_succ]; simp only [pds, h, pds_reps h k]; rfl
theorem dict_reps {e : PyData} (h : e.hasDict = false) : ∀ k : Nat, PyData.hasDictAll (List.replicate k e) = false
  | 0 => rfl
  | k + 1 => by rw [List.replicate_succ]; simp only [PyData.hasDictAll, h, dict_reps h k]; rfl
theorem depth_repn {e : PyData} {n : Nat} (h : e.depth ≤ n) : ∀ k : Nat, PyData.depthAll (List.replicate k e) ≤ n
  | 0 => by simp [PyData.depthAll]
  | k + 1 => by have := depth_repn h k; rw [List.replicate_succ]; simp only [PyData.depthAll]; omega
theorem shown_reps {e : PyData} : ∀ k : Nat, ((PyData.shownAll (List.replicate k e)).map (·.length)).sum = k * e.shown.length ∧ (PyData.shownAll (List.replicate k e)).length = k
  | 0 => by simp [PyData.shownAll]
  | k + 1 => by
    obtain ⟨h1, h2⟩ := shown_reps (e := e) k
    rw [List.replicate_succ]
    simp only [PyData.shownAll, List.map_cons, List.sum_cons, h1, List.length_cons, h2, and_true, Nat.add_mul]
    omega
/-- repr of a list with one thing many times -/
theorem repr_reps {k : Nat} {d : D} {e : PyData} (hk : k ≤ 1000) (h1 : pd d = some e) (h2 : e.showable = true) (h3 : e.hasDict = false) (h4 : e.depth ≤ 50) (h5 : e.shown.length ≤ 1000) : ∃ s : Str, ∀ P : D → Prop, P (.str s) → Cb K (rReprW K) [.lst (List.replicate k d)] P := by
  refine ⟨_, fun P hp => fun u vs Q ex r kk => .inl (reprV_of (e := .list (List.replicate k e)) ⟨_, .inl rfl⟩ (by simp [pd, pds_reps h1 k]) (by simp only [PyData.showable]; exact show_reps h2 k) (by simp only [PyData.hasDict]; exact dict_reps h3 k) (by have := depth_repn h4 k; simp only [PyData.depth]; omega) ?_ hp u vs Q ex r kk)⟩
  simp only [PyData.shown]
  have h := listText_len_le (PyData.shownAll (List.replicate k e))
  obtain ⟨a, b⟩ := shown_reps (e := e) k
  rw [a, b] at h
  have h6 : k * e.shown.length ≤ 1000 * 1000 := Nat.mul_le_mul hk h5
  rw [sizeLine_eq]
  omega
end
section
variable {K : PySem.W.Frag} [Tb K] {Z : ZX} {b u u' u'' : Wd} {σ : L2.St} {ds : DS} {n : Nat} {P : D → Nat → Prop} {t : TA} {C : Addr} {f : Str}
/-- X(e) as a value -/
theorem we_xv (h : Wa K Z t ds n fun xs m => ∃ y, xs = [y] ∧ P (.exc C [(f, y)]) m) : We K Z (tXv C (spX1 C f) t) ds n P := fun b u σ Q e S kk =>
  h b u σ _ e S fun vs xs u1 g1 s1 r ⟨y, hx, p⟩ => by
    subst hx
    obtain ⟨v, rfl, r1⟩ := dens1 r
    refine ⟨by show 1 ≤ 1000; decide, fun a ha => ⟨a, v, rfl, upd_same, fun dx hdx ne => ⟨rfl, dx, [(f, v)], upd_same, (upd_ne ne).trans upd_same, ?_, ?_⟩⟩⟩
    · exact (upd_ne ne).symm.trans hdx
    · have hd : u1.H1 dx = none := (upd_ne ne).symm.trans hdx
      have eq : upd (L2.del (upd (upd (upd u1.H1 a (exo a C none)) dx (exd dx [(f, v)])) a (exo a C (some dx))) a) dx (.xd [(f, v)]) = upd u1.H1 dx (.xd [(f, v)]) := by
        funext x
        by_cases q : x = dx
        · rw [q, upd_same, upd_same]
        · rw [upd_ne q, upd_ne q]
          by_cases q2 : x = a
          · rw [q2, L2.del_same, ha]
          · rw [L2.del_ne q2, upd_ne q2, upd_ne q, upd_ne q2]
      rw [eq]
      intro a' ha'
      have g2 := g1.trans (.put g1.c hd (o := .xd [(f, v)]))
      have s2 := s1.put g1.c hd (o := .xd [(f, v)])
      have de : DenE K (u1.put dx (.xd [(f, v)])) (.ref C) (some dx) C [(f, y)] := ⟨rfl, .inr ⟨dx, _, rfl, upd_same, .cons (r1.mono (Gs.put g1.c hd).ls) .nil⟩⟩
      exact kk _ _ ((u1.put dx (.xd [(f, v)])).put a' (xo a' (.ref C) (some dx))) (g2.trans (.put g2.c ha')) (s2.put g2.c ha') (den_exc (de.mono (Gs.put g2.c ha').ls) upd_same) p
/-- X() as a value -/
theorem we_xv0 (h : P (.exc C []) n) : We K Z (tXv0 C) ds n P := fun b u σ Q e S kk => by
  subst e
  intro a ha
  exact kk _ _ (u.put a (xo a (.ref C) none)) (.put S.ex ha) (S.st.put S.ex ha) (.exc0 upd_same) h
/-- {"k": i} -/
theorem we_disp1 {x : Str} {i : Int} (h : P (.dct [(.inr x, .int i)]) n) : We K Z (tDisp [(tC (.str x), tC (.int i))]) ds n P := fun b u σ Q e S kk => by
  subst e
  intro p hp
  refine ⟨upd_same, [(.inr x, .int i)], rfl, by simp, ?_⟩
  rw [upd_upd]
  exact kk _ _ (u.put p (.dK [(.inr x, .int i)])) (.put S.ex hp) (S.st.put S.ex hp) (.dct (.inl upd_same) (.cons (.int i) .nil)) h
end
end DL

/-! set(text), and how many signs it has. -/
namespace SS2
open PySem PySem.Spec PyProof.Rows SS
def signsOf (x : Str) : List Str := x.cps.toList.map fun c => ⟨#[c]⟩
theorem sign_at {x : Str} {i : Nat} {v : Value} (h : SignAt x i v) : ∃ t, v = .str ((signsOf x).getD i Str.empty) t := by
  obtain ⟨c, t, hc, rfl⟩ := h
  refine ⟨t, ?_⟩
  have e : (signsOf x)[i]? = some ⟨#[c]⟩ := by
    unfold signsOf
    rw [List.getElem?_map, Array.getElem?_toList, hc]; rfl
  rw [List.getD_eq_getElem?_getD, e]; rfl
section
variable {prog : Program} {w : World} {A : Around} {R : Result → Shared → Prop} {I : Addr} {fp wr : List Addr} {G : Array GenState → Array GenState → Prop} {n : Nat} {P : Nat → Value → Prop} {St : Nat → Shared → Prop}
theorem loopStrN (W : WalksS prog w A.in1 I fp wr G n P St) (S : Addr) (hSf : S ∉ fp) (xs : List Str) (hsz : xs.length = n) (hnd : xs.Nodup) (hb : n + 1 < scanBound)
    (hval : ∀ i v, P i v → ∃ t, v = .str (xs.getD i Str.empty) t) :
    ∀ (k i : Nat) (s : Shared), n - i = k → i ≤ n → St i s →
      s.heap.SetOf (PySem.strKind prog w) S (fun k' => (xs.take i).any (· == k')) i →
      (∀ s', Moved (S :: wr) G s s' → s'.heap.SetOf (PySem.strKind prog w) S (fun k' => (xs.take n).any (· == k')) n → R (.ok (.ret .none)) s') →
      codeAny (model prog w) A (.builtin "set.update.loop" ⟨[.ref S, .ref I], []⟩) R s := by
  have hSw : S ∉ wr := fun h => hSf (W.sub _ h)
  have hsub : ∀ b ∈ wr, b ∈ S :: wr := fun b hb => List.mem_cons_of_mem _ hb
  intro k
  induction k with
  | zero =>
    intro i s hk hi hst hS hR
    have hin : i = n := by omega
    subst hin
    refine codeAny_builtin PyProof.Rows.F.entry_set_update_loop ?_
    rw [Around.under_plainId PyProof.Rows.F.plain_set_update_loop _]
    show wpAny _ A.in1 (pyNext (.ref I) >>= _) _ _ s
    refine wpAny_bind (W.done s _ _ hst fun s' hm => ?_)
    show wpAny _ A.in1 (ret Value.none) _ _ s'
    exact wpAny_pure (hR s' (hm.mono hsub) (by
      obtain ⟨o, es, ep, t, ho, rest⟩ := hS
      exact ⟨o, es, ep, t, hm.heap S _ hSw ho, rest⟩))
  | succ k ih =>
    intro i s hk hi hst hS hR
    have hlt : i < n := by omega
    refine codeAny_builtin PyProof.Rows.F.entry_set_update_loop ?_
    rw [Around.under_plainId PyProof.Rows.F.plain_set_update_loop _]
    show wpAny _ A.in1 (pyNext (.ref I) >>= _) _ _ s
    refine wpAny_bind (W.item i s _ _ hlt hst fun v s' hP hst' hm => ?_)
    obtain ⟨t, rfl⟩ := hval i v hP
    have hS' : s'.heap.SetOf (PySem.strKind prog w) S (fun k' => (xs.take i).any (· == k')) i := by
      obtain ⟨o, es, ep, tb, ho, rest⟩ := hS
      exact ⟨o, es, ep, tb, hm.heap S _ hSw ho, rest⟩
    show wpAny _ A.in1 (holding [Value.str (xs.getD i Str.empty) t] (setAdd S (.str (xs.getD i Str.empty) t)) >>= _) _ _ s'
    refine wpAny_bind (wpAny_holding ?_)
    unfold setAdd
    refine wpAny_holding ?_
    refine wpAny_bind ((PySem.strKind prog w).pyHash (k := xs.getD i Str.empty) (strKind_is _ _ _ _) ?_)
    refine wpAny_setAddHashed_of (knd := PySem.strKind prog w) (s := { s' with toks := s'.toks + 1 }) (strKind_is _ _ _ _) rfl hS' (by omega) fun h' hsb hS2 => ?_
    have hSi : h'.SetOf (PySem.strKind prog w) S (fun k' => (xs.take (i + 1)).any (· == k')) (i + 1) := by
      have hix : i < xs.length := by omega
      have e1 : xs.getD i Str.empty = xs[i] := by rw [List.getD_eq_getElem?_getD, List.getElem?_eq_getElem hix]; rfl
      have e2 : xs.take (i + 1) = xs.take i ++ [xs[i]] := by rw [List.take_add_one, List.getElem?_eq_getElem hix]; rfl
      have no : ((xs.take i).any (· == xs[i])) = false := by
        cases hb : (xs.take i).any (· == xs[i]) with
        | false => rfl
        | true =>
          obtain ⟨y, hy, ey⟩ := List.any_eq_true.mp hb
          have ey2 : y = xs[i] := eq_of_beq ey
          rw [ey2] at hy
          obtain ⟨j, hj⟩ := List.mem_iff_getElem?.mp hy
          rw [List.getElem?_take] at hj
          by_cases hji : j < i
          · rw [if_pos hji] at hj
            obtain ⟨hjl, ej⟩ := List.getElem?_eq_some_iff.mp hj
            exact absurd ej (List.pairwise_iff_getElem.mp hnd j i hjl hix hji)
          · rw [if_neg hji] at hj
            cases hj
      refine SetOf_congr hS2 (fun k' => ?_) (by rw [e1, no]; rfl)
      rw [e1, e2, List.any_append]
      by_cases e : k' = xs[i]
      · subst e; simp
      · have hb : (xs[i] == k') = false := by simpa [beq_iff_eq] using (fun h' : xs[i] = k' => e h'.symm)
        simp [hb, e]
    refine wpAny_pure ⟨plainId_quiet PyProof.Rows.F.plain_set_update_loop _, ih (i + 1) _ (by omega) hlt (W.frame _ s' _ _ hst' (Nat.le_succ _) fun b hb o e => ?_) hSi fun s'' hm'' hS'' => ?_⟩
    · rw [hsb.2 b (fun h : b = S => hSf (by rw [← h]; exact hb))]; exact e
    · refine hR s'' (Moved.trans W.gtrans ((hm.mono hsub).then_heap (Nat.le_succ _) fun b o hb e => ?_) hm'') hS''
      rw [hsb.2 b (fun h : b = S => hb (by rw [h]; exact List.mem_cons_self))]; exact e
end

section
variable {prog : Program} {w : World} {A : Around} {E : Value → Shared → Prop} {s : Shared}
set_option maxHeartbeats 3200000 in
theorem call_set_strN {x : Str} {tx : Tok} {Q : Value → Shared → Prop}
    (hh : A.handled = none) (hnd : (signsOf x).Nodup) (hb : x.cps.size + 1 < scanBound)
    (h : ∀ (h' : Heap) (tk : Nat), h'.SetOf (PySem.strKind prog w) s.heap.objs.size (fun k' => ((signsOf x).take x.cps.size).any (· == k')) x.cps.size →
      (∀ b o, b < s.heap.objs.size → s.heap.get? b = some o → h'.get? b = some o) → Q (.ref s.heap.objs.size) { s with heap := h', toks := tk }) :
    wpAny (model prog w) A (call (.type "set") [.str x tx]) Q E s := by
  obtain ⟨c, tl, hmro⟩ := PySem.F.called_set.mro
  have hmade := PySem.F.called_set.made
  have hsub := PySem.F.called_set.sub
  refine wpAny_call (codeAny_of_tree ?_)
  show wpAny _ _ (callAny (.type "set") _) _ _ _
  refine wpAny_pure ⟨Code.quiet_builtin _ (by decide +kernel), codeAny_builtin PySem.F.entry_type_call ?_⟩
  rw [Around.under_plain (weight_type_call_type "set" [.str x tx] []) rfl]
  have h1 := PySem.F.called_set.notType
  have h2 := PySem.F.called_set.canCreate
  have hct := PySem.F.typeCall_set_1 (.str x tx)
  repeat (any_goals (first | assumption | wp_step))

  refine codeAny_mono (code_set_new_1 (.str x tx) (E := E) (Q₁ := fun obj s₁ => ∃ led : Bool, obj = .ref s.heap.objs.size ∧ s₁ = { s with heap := s.heap.push { cls := .type "set", dict := none, data := .set #[] 0 (.fresh 0 0 led) } }) fun led => ⟨led, rfl, rfl⟩) fun r s₁ hr => ?_
  cases r with
  | error e => exact hr
  | ok fl =>
    cases fl with
    | ret obj =>
      obtain ⟨led, rfl, rfl⟩ := hr
      have hS : (s.heap.push { cls := .type "set", dict := none, data := .set #[] 0 (.fresh 0 0 led) }).get? s.heap.objs.size = some { cls := .type "set", dict := none, data := .set #[] 0 (.fresh 0 0 led) } := Heap.get?_push_size _ rfl
      have hT : Shared.TypeIs { s with heap := s.heap.push { cls := .type "set", dict := none, data := .set #[] 0 (.fresh 0 0 led) } } (.ref s.heap.objs.size) "set" := ⟨_, hS, rfl⟩
      have hli := PySem.F.called_set.init.lookup
      have hbi := PySem.F.called_set.init.bind (.ref s.heap.objs.size)
      repeat (any_goals (first | assumption | wp_step))

      refine codeAny_mono (codeAny_call_builtin (R := wants (fun r s₂ => r = .none ∧ ∃ h' tk, s₂ = { s with heap := h', toks := tk } ∧
          h'.SetOf (PySem.strKind prog w) s.heap.objs.size (fun k' => ((signsOf x).take x.cps.size).any (· == k')) x.cps.size ∧
          (∀ b o, b < s.heap.objs.size → s.heap.get? b = some o → h'.get? b = some o)) E) PySem.F.called_set.init.plain PySem.F.entry_set_init (check_set_init_1 hT ?_)) fun r₂ s₂ hr₂ => ?_
      · have hsls : isSubtype (.type "str") (.type "set") = pure false := by rw [isSubtype_type]; kernel_rfl
        have hslf : isSubtype (.type "str") (.type "frozenset") = pure false := by rw [isSubtype_type]; kernel_rfl
        have hne : (Value.type "str" == Value.type "dict") = false := by decide
        unfold Builtin.«set.__init__» noKeywords Builtin.Frozenset.updateFrom
        generalize hPI : pyIter = PI
        wp_walk
        subst hPI
        refine wpAny_pyIter_str fun oI St W st0 => ?_
        refine wpAny_bind (wpAny_runValue ?_)
        have hh3 : A.in1.in1.in1.handled = none := by simp [hh]
        have hSf : s.heap.objs.size ∉ [(s.heap.push { cls := .type "set", dict := none, data := .set #[] 0 (.fresh 0 0 led) }).objs.size] := by
          rw [Heap.size_push]; simp
        have hsz : (signsOf x).length = x.cps.size := by simp [signsOf]
        have hval : ∀ (i : Nat) (v : Value), SignAt x i v → ∃ t, v = .str ((signsOf x).getD i Str.empty) t := fun i v hv => sign_at hv
        refine loopStrN ((W _ hh3).toS) s.heap.objs.size
          hSf (signsOf x) hsz hnd hb hval (x.cps.size - 0) 0 _ (by omega) (Nat.zero_le _)
          st0 ?hS0 ?hR
        case hS0 =>
          have hget : ((s.heap.push { cls := .type "set", dict := none, data := .set #[] 0 (.fresh 0 0 led) }).push oI).get? s.heap.objs.size
              = some { cls := .type "set", dict := none, data := .set #[] 0 (.fresh 0 0 led) } := Heap.get?_push_of_some _ hS
          exact PyProof.Rows.SetOf_congr ((PyProof.Rows.setObjOf_fresh (knd := PySem.strKind prog w) led).setOf hget (by unfold scanBound; omega)) (fun _ => rfl) rfl
        case hR =>
          intro s' hm hS'
          obtain ⟨h', g', d', tk', os'⟩ := s'
          have eg : g' = s.gens := hm.gens
          have ed : d' = s.drawn := hm.drawn
          have eo : os' = s.os := hm.os
          subst eg; subst ed; subst eo
          show wpAny _ _ _ _ _ _
          refine wpAny_pure ?_
          show wpAny _ _ (ret Value.none) _ _ _
          refine wpAny_pure ⟨rfl, h', tk', rfl, hS', fun b o hb e => ?_⟩
          have hb1 : b ≠ s.heap.objs.size := Nat.ne_of_lt hb
          have hb2 : b ≠ (s.heap.push { cls := .type "set", dict := none, data := .set #[] 0 (.fresh 0 0 led) }).objs.size := by
            rw [Heap.size_push]; exact Nat.ne_of_lt (Nat.lt_succ_of_lt hb)
          exact hm.heap b o (by simp only [List.mem_cons, List.mem_singleton, List.not_mem_nil, or_false, not_or]; exact ⟨hb1, hb2⟩) (Heap.get?_push_of_some _ (Heap.get?_push_of_some _ e))

      · cases r₂ with
        | error e => exact hr₂
        | ok fl₂ =>
          cases fl₂ with
          | ret r =>
            obtain ⟨rfl, h', tk, rfl, hS', hk'⟩ := hr₂
            repeat (any_goals (first | assumption | wp_step))
            exact h _ _ hS' hk'
          | _ => exact hr₂.elim
    | _ => exact hr.elim
end
end SS2
namespace L2
open PySem PySem.Spec PyProof.Rows
/-- len(set(x)), x a text without a sign twice -/
def tLenSetS (ta : TE) : TE := fun σ H Q => ta σ H fun x H1 => ∃ z : Str, x = .str z ∧ (SS2.signsOf z).Nodup ∧ z.cps.size ≤ 4000 ∧ Q (.int (z.cps.size : Nat)) H1
theorem pe_lenSetS {X : Cx} {a : Expr} {ta : TE} {p p2 q pos : Pos} (hg : Gl X "len") (hm : X.mg "len" = none) (hg2 : Gl X "set") (hm2 : X.mg "set" = none) (ha : PE X a ta) (hc : X.calm = true := by rfl)
    (na : starEach [a] X.env = (false, eval a X.env) :: starEach [] X.env := by rfl) : PE X (.Call (.Name "len" p) [.Call (.Name "set" p2) [a] [] q] [] pos) (tLenSetS ta) := by
  refine ⟨fun pins s σ H Q I h => ?_⟩
  refine Call_ (ld_blt I hg hm boot_len ?_)
  refine PyProof.Rows.callWith_builtin1 (PyProof.Rows.args_cons ?_ rfl) rfl rfl
  refine Call_ (ld_blt I hg2 hm2 boot_set ?_)
  refine PyProof.Rows.callWith_type1 (PyProof.Rows.args_cons (thn (ha.run pins s σ H _ I h) fun v s1 ⟨x, H1, I1, r1, q1⟩ => PyProof.Rows.args_nil ?_) na) na rfl
  obtain ⟨z, rfl, hnd, hz, q1⟩ := q1
  obtain ⟨t, rfl⟩ := r1
  refine SS2.call_set_strN (I1.ok.hd hc) hnd (by unfold scanBound; omega) fun h' tk hS hk => ?_
  refine PyProof.Rows.args_nil ?_
  obtain ⟨o, es, ep, tb, ho, hex, hd, _, _, _, hf, hn⟩ := hS
  have I2 : Inv X pins σ H1 { s1 with heap := h', toks := tk } := I1.kept fun b o e => hk b o (Heap.lt_size e) e
  exact call_len_set ho hex hd hf (by rw [hn] <;> omega) ⟨.int (z.cps.size : Nat), H1, I2.tok _, ⟨_, by rw [hn]⟩, q1⟩
end L2

/-! Dict comprehensions, class attributes, masks, signs in texts, all(..). -/
namespace L2
open PySem PySem.Spec PyProof.Rows
section
variable {J : It} {n : Nat} {G : Hp → Prop} {Y : Nat → V → Hp → Hp → Prop}
/-- i & (2 ^ k - 1) -/
def rAndM : R2 := fun x y H Q => ∃ (i : Int) (k : Nat), x = .int i ∧ y = .int (2 ^ k - 1) ∧ Q (.int (i % 2 ^ k)) H
theorem op_andM' {X : Cx} : OpR X (binaryOp .BitAnd) rAndM := op_andM
end
end L2
namespace DL
open PySem L2 StX
section
variable {K : PySem.W.Frag} [Tb K] {Z : ZX} {b u u' u'' : Wd} {σ : L2.St} {ds : DS} {n : Nat} {P : D → Nat → Prop} {te ta tb tk tv : TE} {tt : TT} {g : TG} {N : Nd}
/-- the key that a thing is -/
def keyD : D → Key → Prop
  | .int i, k => k = .inl i
  | .str x, k => k = .inr x
  | _, _ => False
theorem den_keyD {v : V} {d : D} {k : Key} (h : Den K u v d) (q : keyD d k) : v = kV k := by
  cases d <;> simp only [keyD] at q <;> first | exact q.elim | skip
  · subst q; exact den_int h
  · subst q; exact den_str h
theorem denK_keys : ∀ {kvs : List (Key × V)} {ys : List (Key × D)}, DenK K u kvs ys → kvs.map (·.1) = ys.map (·.1)
  | _, _, .nil => rfl
  | _, _, .cons _ r => by simp [denK_keys r]
theorem denK_len {kvs : List (Key × V)} {ys : List (Key × D)} (h : DenK K u kvs ys) : kvs.length = ys.length := by
  have := congrArg List.length (denK_keys h)
  simpa using this
theorem denK_app : ∀ {kvs : List (Key × V)} {ys : List (Key × D)} {k : Key} {v : V} {d : D}, DenK K u kvs ys → Den K u v d → DenK K u (kvs ++ [(k, v)]) (ys ++ [(k, d)])
  | _, _, _, _, _, .nil, r => .cons r .nil
  | _, _, _, _, _, .cons q t, r => .cons q (denK_app t r)
theorem putK_app {kvs : List (Key × V)} {k : Key} {v : V} (h : ∀ p ∈ kvs, p.1 ≠ k) : putK kvs k v = kvs ++ [(k, v)] := by
  unfold putK
  rw [if_neg]
  intro z
  obtain ⟨p, hp, e⟩ := List.any_eq_true.mp z
  exact h p hp (of_decide_eq_true e)
/-- {k: v for ..}, no key twice -/
theorem we_dc {wi : TI} {vs : List Nat} (h : Wi K Z wi ds n fun xs m => ∃ Iv : Nat → List (Key × D) → Nat → Prop, Iv 0 [] m ∧
    (∀ i x ys k, xs[i]? = some x → Iv i ys k → Wgc K Z g vs x (wipeD ds vs) fun ds2 => Wt K Z tt ds2 k fun c j => if c = true then We K Z tk ds2 j (fun y l => We K Z tv ds2 l fun z q => ys.length < 1000000 ∧ ∃ kk, keyD y kk ∧ (∀ p ∈ ys, p.1 ≠ kk) ∧ Iv (i + 1) (ys ++ [(kk, z)]) q) else Iv (i + 1) ys j) ∧
    (∀ ys k, Iv xs.length ys k → P (.dct ys) k)) : We K Z (tDc wi g tt tk tv vs) ds n P := fun b u σ Q e S k =>
  h b u σ _ e S fun J xs u1 G Y g1 s1 ⟨Iv, i0, is, idn⟩ w hG hY => fun Dl hD => by
    have n0 : u1.H0 Dl = none := ex_none g1.c hD
    have nS : ¬ u1.S Dl := fun h => by
      obtain ⟨_, o, h1, _⟩ := s1 Dl h
      rw [hD] at h1; cases h1
    let Pv : Nat → Hp → Prop := fun i H' => ∃ w ys acc, w.H1 = H' ∧ Gs u1 w ∧ StOk K w ∧ w.H0 Dl = none ∧ ¬ w.S Dl ∧ H' Dl = some (.dK acc) ∧ DenK K w acc ys ∧ Iv i ys w.n
    have start : Pv 0 (upd u1.H1 Dl (.dK [])) := ⟨⟨u1.S, u1.T, u1.n, u1.H0, upd u1.H1 Dl (.dK [])⟩, [], [], rfl, (Gs.refl g1.c).write hD n0, s1.write nS, n0, nS, upd_same, .nil, i0⟩
    have hGG : ∀ i H, i ≤ xs.length → Pv i H → G H := fun i H' _ ⟨w, ys, acc, eh, g', _⟩ => eh ▸ hG w g'.ls g'.c
    refine ⟨fun i m H => m = xs.length - i ∧ i ≤ xs.length ∧ Pv i H, ⟨xs.length, by simp, Nat.zero_le _, start⟩, ?_⟩
    rintro i m H ⟨rfl, hi, p⟩
    have q := hGG i H hi p
    by_cases hlt : i < xs.length
    · refine .inr ⟨w.goes i H hlt q, Pv (i + 1), fun H' p' => ⟨xs.length - (i + 1), by omega, rfl, hlt, p'⟩, fun v H'' y0 => ?_⟩
      have y := w.yields i H v H'' hlt q y0
      obtain ⟨w, ys, acc, rfl, g', sw, c0, cS, hc, hr, iv⟩ := p
      obtain ⟨x, w', rfl, hx, g2, r⟩ := hY w i v H'' g'.ls g'.c sw hlt y
      have c1 := g2.g.nn c0 hc
      have cS1 := g2.g.ns cS hc
      have hc1 := g2.g.b _ _ cS hc
      have S1 := ((S.go g1 s1).go (g'.trans g2.g) (g2.st sw)).wipe vs
      have q := is i x ys w.n hx iv
      rw [← g2.n] at q
      refine q b w' (L2.wipe σ vs) v _ S1 r fun ds2 σ2 S2 l2 f2 q => ⟨wipe_of (l2.trans (wipe_length _ _)) f2, q b w' σ2 _ rfl S2 fun c u3 g3 s3 q3 => ?_⟩
      have c2 := g3.nn c1 hc1
      have cS2 := g3.ns cS1 hc1
      have hc2 := g3.b _ _ cS1 hc1
      cases c with
      | false => exact ⟨u3, ys, acc, rfl, (g'.trans g2.g).trans g3, s3, c2, cS2, hc2, hr.mono (g2.g.ls.trans g3.ls), q3⟩
      | true =>
        refine q3 b u3 σ2 _ rfl (S2.go g3 s3) fun vk dk u4 g4 s4 r4 q4 => q4 b u4 σ2 _ rfl ((S2.go g3 s3).go g4 s4) fun vz dz u5 g5 s5 r5 ⟨hl, kk, hk, hnk, p5⟩ => ?_
        have g45 := g4.trans g5
        have c3 := g45.nn c2 hc2
        have cS3 := g45.ns cS2 hc2
        have hc3 := g45.b _ _ cS2 hc2
        have hrr := hr.mono ((g2.g.ls.trans g3.ls).trans g45.ls)
        have hkeys := denK_keys hrr
        have hno : ∀ p ∈ acc, p.1 ≠ kk := fun p hp => by
          have : p.1 ∈ ys.map (·.1) := by rw [← hkeys]; exact List.mem_map.mpr ⟨p, hp, rfl⟩
          obtain ⟨p2, hp2, e2⟩ := List.mem_map.mp this
          rw [← e2]
          exact hnk p2 hp2
        have l4 : Le u5 ⟨u5.S, u5.T, u5.n, u5.H0, upd u5.H1 Dl (.dK (acc ++ [(kk, vz)]))⟩ := ⟨fun _ h => h, fun _ _ => rfl, .refl _⟩
        refine ⟨acc, kk, den_keyD r4 hk, hc3, by rw [denK_len hrr]; exact Nat.lt_of_lt_of_le hl (by decide), ?_⟩
        rw [putK_app hno]
        exact ⟨⟨u5.S, u5.T, u5.n, u5.H0, upd u5.H1 Dl (.dK (acc ++ [(kk, vz)]))⟩, ys ++ [(kk, dz)], acc ++ [(kk, vz)], rfl, (((g'.trans g2.g).trans g3).trans g45).write hD c3, s5.write cS3, c3, cS3, upd_same, (denK_app hrr r5).mono l4, p5⟩
    · have e : i = xs.length := by omega
      subst e
      obtain ⟨w', ys, acc, rfl, g', sw, c0, cS, hc, hr, iv⟩ := p
      refine .inl ⟨w.stops _ q, ?_⟩
      have l1 : Le w' ⟨w'.S, w'.T, w'.n, upd w'.H0 Dl (.dK acc), w'.H1⟩ := ⟨fun _ h => h, fun _ _ => rfl, ex_new c0⟩
      exact k _ _ ⟨w'.S, w'.T, w'.n, upd w'.H0 Dl (.dK acc), w'.H1⟩ (g1.trans (g'.settle hD c0 hc)) (sw.settle c0 cS) (.dct (.inl upd_same) (hr.mono l1)) (idn ys _ iv)
/-- len(set(x)) -/
theorem we_lenSet (h : We K Z te ds n fun d m => ∃ z : Str, d = .str z ∧ (SS2.signsOf z).Nodup ∧ z.cps.size ≤ 4000 ∧ P (.int (z.cps.size : Nat)) m) : We K Z (tLenSetS te) ds n P := fun b u σ Q e S k =>
  h b u σ _ e S fun v d u1 g s r ⟨z, hd, h1, h2, p⟩ => by
    subst hd
    cases den_str r
    exact ⟨z, rfl, h1, h2, k _ _ u1 g s (.int _) p⟩
theorem dens_bls : ∀ {vs : List V} {bs : List Bool}, Dens K u vs (bs.map D.bl) → vs = bs.map V.bl
  | [], [], _ => rfl
  | [], _ :: _, h => by cases h
  | _ :: _, [], h => by cases h
  | v :: vs, c :: bs, h => by
    cases h with
    | cons r rs =>
      rw [den_bl r, dens_bls rs]; rfl
/-- all([..]) -/
theorem all_bls {P : D → Prop} {bs : List Bool} (h : P (.bl (bs.all id))) : Cb K (rAll K) [.lst (bs.map .bl)] P := fun u vs Q ex rs k => by
  obtain ⟨v, rfl, r1⟩ := dens1 rs
  obtain ⟨a, ws, rfl, q, r2⟩ := den_lst r1
  obtain rfl := dens_bls r2
  exact ⟨a, bs, rfl, Evl.ex_l ex q, k _ _ u (.refl ex) (.bl _) h⟩
/-- i & 31 -/
theorem and31 {P : D → Prop} {i : Int} (h : P (.int (i % 32))) : Op K rAndM (.int i) (.int 31) P := fun u v w Q ex _ d1 d2 k => by
  cases den_int d1
  cases den_int d2
  exact ⟨i, 5, rfl, rfl, k _ _ u (.refl ex) (.int _) h⟩
/-- sign in text -/
theorem in_sign {P : D → Prop} {c : Nat} {z : Str} (h : P (.bl (decide (c ∈ z.cps.toList)))) : Op K rInS (.str ⟨#[c]⟩) (.str z) P := fun u v w Q ex _ d1 d2 k => by
  cases den_str d1
  cases den_str d2
  exact ⟨c, z, rfl, rfl, k _ _ u (.refl ex) (.bl _) h⟩
theorem nin_sign {P : D → Prop} {c : Nat} {z : Str} (h : P (.bl (!decide (c ∈ z.cps.toList)))) : Op K rNotInS (.str ⟨#[c]⟩) (.str z) P := fun u v w Q ex _ d1 d2 k => by
  cases den_str d1
  cases den_str d2
  exact ⟨c, z, rfl, rfl, k _ _ u (.refl ex) (.bl _) h⟩
/-- C.f, a text -/
theorem we_cval {C : Addr} {mc u : Value} {f x : Str} (r : ClX.CRead K C mc) (c : ClX.CVal K C mc f (.str x) u) (h : We K Z te ds n fun d m => d = .cls C ∧ P (.str x) m) : We K Z (ClX.tCVal K te f) ds n P := fun b u1 σ Q e S k =>
  h b u1 σ _ e S fun v d u2 g s rr ⟨hd, p⟩ => by
    subst hd
    cases rr
    exact ⟨C, mc, .str x, u, rfl, r, c, k _ _ u2 g s (.str x) p⟩
end
end DL

/-! sorted(..) of numbers. -/
namespace DL
open PySem L2 StX
section
variable {K : PySem.W.Frag} [Tb K]
theorem dens_ints' {u : Wd} : ∀ {vs : List V} {ns : List Int}, Dens K u vs (ns.map D.int) → vs = ns.map V.int
  | [], [], _ => rfl
  | [], _ :: _, h => by cases h
  | _ :: _, [], h => by cases h
  | v :: vs, c :: ns, h => by
    cases h with
    | cons r rs =>
      rw [den_int r, dens_ints' rs]; rfl
theorem dens_of_ints {u : Wd} : ∀ ns : List Int, Dens K u (ns.map V.int) (ns.map D.int)
  | [] => .nil
  | i :: ns => .cons (.int i) (dens_of_ints ns)
/-- sorted(..) of numbers -/
theorem sorted_ints {ns : List Int} {P : D → Prop} (h : ∀ ns' : List Int, ns'.Perm ns → ns'.Pairwise (· ≤ ·) → P (.lst (ns'.map .int))) : Cb K (rSortedI K) [.lst (ns.map .int)] P := fun u vs Q ex rs k => by
  obtain ⟨v, rfl, r1⟩ := dens1 rs
  obtain ⟨a, ws, rfl, q, r2⟩ := den_lst r1
  obtain rfl := dens_ints' r2
  exact ⟨a, ns, rfl, Evl.ex_l ex q, fun ns' p h1 h2 hp => k _ _ (u.put p _) (.put ex hp) (.lst (SqL.of upd_same) (dens_of_ints ns')) (h ns' h1 h2)⟩
end
end DL

/-! enumerate(text). -/
namespace L2
open PySem PySem.Spec PyProof.Rows
/-- a text, sign by sign, each in a new pair -/
def Ites (x : Str) : It := ⟨fun i _ => i < x.cps.size, fun i H v H' => ∃ T c, v = .ref T ∧ H T = none ∧ H' = upd H T (.tup [.int (i : Nat), .str ⟨#[c]⟩]) ∧ x.cps[i]? = some c, fun i _ => x.cps.size ≤ i⟩
theorem turn_enumS {P : Program} {w : World} {K : PySem.W.Frag} {elts : List Expr} {kk : Nat} {tpos : Pos} (x : Str) (t : Tok) (e it : Addr) :
    Turn P w K (.Tuple elts kk tpos) (Ites x) [e, it] e (fun i h => (∃ old, IsEnum h e it ((i : Nat) : Int) old) ∧ h.IsStrIter it (strIterType x) x t i ∧ e ≠ it) where
  mem := by simp
  obj := fun i h st b hb => by
    obtain ⟨⟨old, he⟩, ⟨o, ho, hc, hd⟩, _⟩ := st
    have e' : b = e ∨ b = it := by simpa using hb
    rcases e' with z | z
    · rw [z]; exact ⟨_, he, fun v q => nomatch q⟩
    · rw [z]; exact ⟨o, ho, fun v q => by rw [hd] at q; cases q⟩
  keep := fun i h h' st k => let ⟨⟨old, he⟩, ⟨o, ho, r⟩, hne⟩ := st; ⟨⟨old, k e (by simp) _ he⟩, ⟨o, k it (by simp) o ho, r⟩, hne⟩
  item := by
    intro X hP hw hK hc i pins s σ H E I hf st hg
    subst hP hw hK
    obtain ⟨⟨old, he⟩, hit, hne⟩ := st
    have hel : e < s.heap.objs.size := Heap.lt_size he
    have hil : it < s.heap.objs.size := by obtain ⟨_, q, _⟩ := hit; exact Heap.lt_size q
    have D : Draws X.prog X.w X.A.in1 it [it] x.cps.size (fun i v => ∃ c u, x.cps[i]? = some c ∧ v = .str ⟨#[c]⟩ u) (fun i h => h.IsStrIter it (strIterType x) x t i) := Draws.text (A := X.A.in1) (show X.A.handled = none from I.ok.hd hc) it x t
    refine wpAny_pyNext_enum_itemD D he hit hg hne (by simpa using hne) fun v h' tk hv ho hit' hT hsz hk => ?_
    obtain ⟨c, u, hcx, rfl⟩ := hv
    refine ⟨_, rfl, wpAny_letOwnedTupleGo_enum (s := { s with heap := h', toks := tk + 1 }) ho fun h'' he' sb => ?_⟩
    have hT2 : h''.get? s.heap.objs.size = some { cls := .type "tuple", data := .seq #[.int i tk, .str ⟨#[c]⟩ u] } := (sb.2 _ (Nat.ne_of_gt hel)).trans hT
    have new : ObjOk X.prog X.w (upd H s.heap.objs.size (.tup [.int (i : Nat), .str ⟨#[c]⟩])) h'' s.heap.objs.size (.tup [.int (i : Nat), .str ⟨#[c]⟩]) :=
      ⟨by show 2 ≤ sizeLine; decide, [.int i tk, .str ⟨#[c]⟩ u], .cons ⟨_, rfl⟩ (.cons ⟨_, rfl⟩ .nil), ⟨_, hT2, rfl, _, rfl⟩⟩
    have I1 : Inv X pins σ (upd H s.heap.objs.size (.tup [.int (i : Nat), .str ⟨#[c]⟩])) { s with heap := h'', toks := tk + 1 } :=
      I.turnedNew (t' := tk + 1) (ch := [e, it]) (fun b ob hb q => (sb.2 b (fun z => hb (by simp [z]))).trans (hk b ob (fun z => hb (by simp [z])) (fun z => hb (by simp [z])) q)) hf (Nat.le_refl _) new
    refine ⟨.ref s.heap.objs.size, _, I1, rfl, ⟨_, c, rfl, I.hok.fresh (Nat.le_refl _), rfl, hcx⟩, ⟨⟨.str ⟨#[c]⟩ u, ?_⟩, ?_, hne⟩, fun b hb => ?_⟩
    · have e1 : ((i + 1 : Nat) : Int) = (i : Int) + 1 := by omega
      rw [e1]; exact he'
    · obtain ⟨o, h1, r⟩ := hit'
      exact ⟨o, (sb.2 it (Ne.symm hne)).trans h1, r⟩
    · have hb' : b < s.heap.objs.size := by
        have e' : b = e ∨ b = it := by simpa using hb
        rcases e' with z | z
        · rw [z]; exact hel
        · rw [z]; exact hil
      rw [upd_ne (Nat.ne_of_lt hb')]
      exact (hf b hb).1
  done := by
    intro X hP hw hK hc i pins s σ H E I hf st hg
    subst hP hw hK
    obtain ⟨⟨old, he⟩, hit, hne⟩ := st
    obtain ⟨f0, f1, f2, f3, f4, f5⟩ := hf it (by simp)
    have hno : x.cps[i]? = none := Array.getElem?_eq_none hg
    have D : Draws X.prog X.w X.A.in1 it [it] i (fun _ _ => False) (fun j h => j = i ∧ h.IsStrIter it (strIterType x) x t i) :=
      { live := fun _ _ st => let ⟨o, ho, _⟩ := st.2; ⟨o, ho⟩
        frame := fun _ _ _ st hk => let ⟨o, ho, r⟩ := st.2; ⟨st.1, o, hk it (by simp) o ho, r⟩
        item := fun j s Q E hi st _ => absurd st.1 (Nat.ne_of_lt hi)
        done := fun s Q E st hE => by
          cases ha : x.cps.all (· < 128)
          · have e2 : strIterType x = "str_iterator" := by simp [strIterType, ha]
            rw [e2] at st
            exact wpAny_nextOf_wide_end (A := X.A.in1) (show X.A.handled = none from I.ok.hd hc) st.2 hno hE
          · have e2 : strIterType x = "str_ascii_iterator" := by simp [strIterType, ha]
            rw [e2] at st
            exact wpAny_nextOf_ascii_end (A := X.A.in1) (show X.A.handled = none from I.ok.hd hc) st.2 hno hE }
    exact wpAny_pyNext_enum_endD D he ⟨rfl, hit⟩ fun h' eb => ⟨rfl, I.turned (t' := s.toks) (fun b o hb q => eb b o hb q) f0 f1 f3 f4 f5⟩
  self := fun A i s Q E st h => let ⟨⟨_, he⟩, _⟩ := st; wpAny_pyIter_enum he h
def iEnumS (ta : TA) : TI := fun σ H R => ta σ H fun vs H1 => ∃ x, vs = [.str x] ∧ R (Ites x) H1
theorem pi_enumS {X : Cx} {e : Expr} {ta : TA} {p pos tpos : Pos} {elts : List Expr} {kk : Nat} (hg : Gl X "enumerate") (hm : X.mg "enumerate" = none) (ha : PA X [e] ta) (hs : starEach [e] X.env = [(false, eval e X.env)] := by rfl) :
    PI X (.Tuple elts kk tpos) (.Call (.Name "enumerate" p) [e] [] pos) (iEnumS ta) := by
  refine ⟨fun pins s σ H R I h => ?_⟩
  refine Call_ (ld_blt I hg hm boot_enumerate (PyProof.Rows.callWith_type1 (thn (ha.run pos pins s σ H _ I h) fun us s1 ⟨vs, H1, I1, r1, q1⟩ => ?_) hs rfl))
  obtain ⟨x, ex, q⟩ := q1
  subst ex
  cases r1 with
  | cons r rr =>
    cases rr
    obtain ⟨t, rfl⟩ := r
    refine call_enumerate_str fun h' he hit hsz hk => wpAny_pyIter_enum he ?_
    have I2 : Inv X pins σ H1 { s1 with heap := h' } := I1.kept (t' := s1.toks) hk
    refine ⟨s1.heap.objs.size + 1, [s1.heap.objs.size + 1, s1.heap.objs.size], _, _, H1, rfl, I2, turn_enumS x t (s1.heap.objs.size + 1) s1.heap.objs.size, ⟨⟨.none, he⟩, hit, Nat.succ_ne_self _⟩, fun b hb => ?_, q⟩
    have e' : b = s1.heap.objs.size + 1 ∨ b = s1.heap.objs.size := by simpa using hb
    have hle : s1.heap.objs.size ≤ b := by
      rcases e' with z | z
      · rw [z]; exact Nat.le_add_right _ _
      · rw [z]; exact Nat.le_refl _
    exact I1.fpOk hle (I1.hok.fresh hle)
theorem walk_enumS {x : Str} : Walk (Ites x) x.cps.size (fun _ => True) (fun i H v H' => ∃ T c, v = .ref T ∧ H T = none ∧ H' = upd H T (.tup [.int (i : Nat), .str ⟨#[c]⟩]) ∧ x.cps[i]? = some c) :=
  ⟨fun _ _ hi _ => hi, fun _ _ => Nat.le_refl _, fun _ _ _ _ _ _ y => y⟩
end L2
namespace DL
open PySem L2 StX
section
variable {K : PySem.W.Frag} [Tb K] {Z : ZX} {ds : DS} {n : Nat} {Pl : List D → Nat → Prop}
theorem wi_enumS {t : TA} (h : Wa K Z t ds n fun ys m => ∃ x, ys = [.str x] ∧ Pl (enumD (signs x)) m) : Wi K Z (iEnumS t) ds n Pl := fun b u σ R e S k =>
  h b u σ _ e S fun vs d u1 g1 s1 r ⟨x, z, p⟩ => by
    subst z
    obtain ⟨v, rfl, r1⟩ := dens1 r
    clear r
    cases den_str r1
    refine ⟨x, rfl, k _ (enumD (signs x)) u1 _ _ g1 s1 p (by rw [enumD_len, signs_len]; exact walk_enumS) (fun _ _ _ => trivial) fun w i v A l e1 _ hi y => ?_⟩
    obtain ⟨T, c, rfl, hT, rfl, hc⟩ := y
    obtain ⟨g2, d2⟩ := gp_pair e1 hT (.int (i : Nat)) (.str (K := K) (u := w) ⟨#[c]⟩)
    exact ⟨_, _, rfl, enumD_get (by simp [signs, hc]), g2, d2⟩
end
end DL

/-! Positions, lines and edits of texts, told of lists of signs. -/
namespace Mx
abbrev Pt := Int × Int
def step (p : Pt) (c : Nat) : Pt := if c = 10 then (p.1 + 1, 0) else (p.1, p.2 + 1)
def beh (p : Pt) (l : List Nat) : Pt := l.foldl step p
theorem beh_nil (p : Pt) : beh p [] = p := rfl
theorem beh_cons (p : Pt) (c : Nat) (l : List Nat) : beh p (c :: l) = beh (step p c) l := rfl
theorem beh_app (p : Pt) (a b : List Nat) : beh p (a ++ b) = beh (beh p a) b := by unfold beh; rw [List.foldl_append]
def addP (p q : Pt) : Pt := if q.1 = 0 then (p.1, p.2 + q.2) else (p.1 + q.1, q.2)
def nn (p : Pt) : Prop := 0 ≤ p.1 ∧ 0 ≤ p.2
theorem nn_step {p : Pt} {c : Nat} (h : nn p) : nn (step p c) := by
  unfold step nn at *; split <;> simp <;> omega
theorem nn_beh {p : Pt} : ∀ (l : List Nat), nn p → nn (beh p l) := by
  intro l
  induction l generalizing p with
  | nil => exact fun h => h
  | cons c l ih => exact fun h => ih (nn_step h)
theorem step_add {p e : Pt} {c : Nat} (h : nn e) : step (addP p e) c = addP p (step e c) := by
  obtain ⟨a, b⟩ := e
  obtain ⟨x, y⟩ := p
  unfold nn at h
  simp only [step, addP] at *
  by_cases hc : c = 10
  · simp only [hc, if_true]
    have h1 : ¬ (a + 1 = 0) := by omega
    simp only [h1, if_false]
    by_cases ha : a = 0
    · simp [ha]
    · simp [ha]; omega
  · simp only [hc, if_false]
    by_cases ha : a = 0
    · simp [ha]; omega
    · simp [ha]
theorem beh_add (p : Pt) : ∀ (l : List Nat) {e : Pt}, nn e → beh (addP p e) l = addP p (beh e l) := by
  intro l
  induction l with
  | nil => intro e _; rfl
  | cons c l ih =>
    intro e h
    rw [beh_cons, beh_cons, step_add h, ih (nn_step h)]
theorem add_zero (p : Pt) : addP p (0, 0) = p := by simp [addP]
theorem zero_nn : nn (0, 0) := ⟨Int.le_refl _, Int.le_refl _⟩
/-- the position behind a text is the sum with its extent -/
theorem beh_ext (p : Pt) (l : List Nat) : addP p (beh (0, 0) l) = beh p l := by
  rw [← beh_add p l zero_nn, add_zero]
theorem beh_none {l : List Nat} (p : Pt) (h : 10 ∉ l) : beh p l = (p.1, p.2 + l.length) := by
  induction l generalizing p with
  | nil => simp [beh]
  | cons c l ih =>
    have hc : c ≠ 10 := fun z => h (by simp [z])
    rw [beh_cons, ih _ (fun z => h (by simp [z]))]
    simp [step, hc]
    omega
theorem beh_cnt (p : Pt) (l : List Nat) : (beh p l).1 = p.1 + l.count 10 := by
  induction l generalizing p with
  | nil => simp [beh]
  | cons c l ih =>
    rw [beh_cons, ih]
    by_cases hc : c = 10
    · simp [step, hc]; omega
    · simp [step, hc, List.count_cons]
theorem beh_last {a b : List Nat} (p : Pt) (h : 10 ∉ b) : (beh p (a ++ 10 :: b)).2 = b.length := by
  rw [beh_app, beh_cons, beh_none _ h]
  simp [step]
/-! order -/
def lt (p q : Pt) : Prop := p.1 < q.1 ∨ p.1 = q.1 ∧ p.2 < q.2
instance (p q : Pt) : Decidable (lt p q) := by unfold lt; exact inferInstance
def mv (p o w : Pt) : Pt := if p.1 = o.1 then (w.1, p.2 - o.2 + w.2) else (p.1 - o.1 + w.1, p.2)
theorem mv_ge {p o w : Pt} (h : ¬ lt p o) : ¬ lt (mv p o w) w := by
  unfold lt mv at *; split <;> simp at * <;> omega
theorem mv_inv {p o w : Pt} (h : ¬ lt p o) : mv (mv p o w) w o = p := by
  obtain ⟨a, b⟩ := p
  unfold lt mv at *
  simp at *
  by_cases q : a = o.1
  · simp [q]
    try omega
  · have : ¬ (a - o.1 + w.1 = w.1) := by omega
    simp [q, this]
    try omega
theorem mv_lt {p q o w : Pt} (h : ¬ lt p o) (h' : lt p q) : lt (mv p o w) (mv q o w) := by
  unfold lt mv at *; split <;> split <;> simp at * <;> omega
theorem mv_nn {p o w : Pt} (h : ¬ lt p o) (hp : nn p) (hw : nn w) : nn (mv p o w) := by
  unfold lt nn mv at *; split <;> simp at * <;> omega
theorem mv_step {p o w : Pt} (h : ¬ lt p o) (c : Nat) : mv (step p c) o w = step (mv p o w) c := by
  obtain ⟨a, b⟩ := p
  obtain ⟨x, y⟩ := o
  obtain ⟨z, t⟩ := w
  unfold lt at h
  simp only at h
  unfold mv step
  by_cases hc : c = 10
  · by_cases q : a = x
    · have q2 : ¬ (a + 1 = x) := by omega
      simp only [hc, q, q2, if_true, if_false]
      have q3 : ¬ (x + 1 = x) := by omega
      simp only [q3, if_false, Prod.mk.injEq, and_true, true_and]
      omega
    · have q2 : ¬ (a + 1 = x) := by omega
      simp only [hc, q, q2, if_true, if_false, Prod.mk.injEq, and_true, true_and]
      omega
  · by_cases q : a = x
    · simp only [hc, q, if_true, if_false, Prod.mk.injEq, and_true, true_and]
      omega
    · simp only [hc, q, if_true, if_false]
theorem lt_trans {p q r : Pt} (h : lt p q) (h' : lt q r) : lt p r := by unfold lt at *; omega
theorem lt_step {p : Pt} {c : Nat} (hp : nn p) : lt p (step p c) := by unfold lt step; split <;> simp <;> omega
theorem nlt_trans {p q r : Pt} (h : ¬ lt p q) (h' : ¬ lt q r) : ¬ lt p r := by unfold lt at *; omega
theorem nlt_of {p q : Pt} (h : lt p q) : ¬ lt q p := by unfold lt at *; omega
theorem nlt_self (p : Pt) : ¬ lt p p := by unfold lt; omega
theorem lt_nlt {p q r : Pt} (h : lt p q) (h' : ¬ lt r q) : lt p r := by unfold lt at *; omega
theorem nlt_step {p o : Pt} {c : Nat} (hp : nn p) (h : ¬ lt p o) : ¬ lt (step p c) o := nlt_trans (nlt_of (lt_step hp)) h
theorem nlt_beh {p : Pt} (hp : nn p) (l : List Nat) : ¬ lt (beh p l) p := by
  induction l generalizing p with
  | nil => exact nlt_self p
  | cons c l ih => exact nlt_trans (ih (nn_step hp)) (nlt_of (lt_step hp))
theorem lt_beh {p : Pt} (hp : nn p) {l : List Nat} (h : l ≠ []) : lt p (beh p l) := by
  cases l with
  | nil => exact absurd rfl h
  | cons c l => exact lt_nlt (lt_step hp) (nlt_beh (nn_step hp) l)
theorem mv_beh {o w : Pt} : ∀ (l : List Nat) {p : Pt}, nn p → ¬ lt p o → mv (beh p l) o w = beh (mv p o w) l := by
  intro l
  induction l with
  | nil => intro p _ _; rfl
  | cons c l ih => intro p hp h; rw [beh_cons, beh_cons, ih (nn_step hp) (nlt_step hp h), mv_step h]
theorem mv_self (o w : Pt) : mv o o w = w := by simp [mv]
/-! lines -/
def lns : List Nat → List (List Nat)
  | [] => [[]]
  | c :: r => if c = 10 then [] :: lns r else (c :: (lns r).headD []) :: (lns r).tail
theorem lns_ne (l : List Nat) : lns l ≠ [] := by cases l <;> simp [lns]; split <;> simp
/-- the place of a position -/
def sm (rows : List (List Nat)) : Int := (rows.map fun r => ((r.length : Nat) : Int) + 1).sum
theorem place_ok : ∀ (l : List Nat) (at_ : Nat), at_ ≤ l.length → ∃ (i : Nat) (row : List Nat), (beh (0, 0) (l.take at_)).1 = i ∧ (lns l)[i]? = some row ∧ (beh (0, 0) (l.take at_)).2 ≤ row.length ∧
    sm ((lns l).take i) + (beh (0, 0) (l.take at_)).2 = at_ := by
  intro l
  induction l with
  | nil =>
    intro k hk
    simp at hk
    subst hk
    exact ⟨0, [], rfl, rfl, by simp [beh], by simp [beh, sm]⟩
  | cons c r ih =>
    intro k hk
    cases k with
    | zero =>
      cases e : lns (c :: r) with
      | nil => exact absurd e (lns_ne _)
      | cons row rows => exact ⟨0, row, rfl, rfl, by simp [beh], by simp [beh, sm]⟩
    | succ k =>
      obtain ⟨i, row, h1, h2, h3, h4⟩ := ih k (by simpa using hk)
      have hn : nn (beh (0, 0) (r.take k)) := nn_beh _ zero_nn
      have e : beh (0, 0) ((c :: r).take (k + 1)) = addP (step (0, 0) c) (beh (0, 0) (r.take k)) := by
        rw [List.take_succ_cons, beh_cons, beh_ext]
      rw [e]
      generalize beh (0, 0) (r.take k) = q at *
      obtain ⟨a, b⟩ := q
      simp only at h1 h3 h4
      by_cases hc : c = 10
      · refine ⟨i + 1, row, ?_, ?_, ?_, ?_⟩
        · simp only [step, hc, addP, if_true]; split <;> simp <;> omega
        · simp [lns, hc, h2]
        · simp only [step, hc, addP, if_true]; split <;> simp <;> omega
        · have : sm ((lns (c :: r)).take (i + 1)) = 1 + sm ((lns r).take i) := by simp [lns, hc, sm]
          rw [this]
          simp only [step, hc, addP, if_true]; split <;> simp <;> omega
      · cases e2 : lns r with
        | nil => exact absurd e2 (lns_ne _)
        | cons row0 rows =>
          rw [e2] at h2 h4
          have el : lns (c :: r) = (c :: row0) :: rows := by simp [lns, hc, e2]
          rw [el]
          by_cases hi : i = 0
          · subst hi
            simp at h2
            subst h2
            have ha : a = 0 := by omega
            subst ha
            refine ⟨0, c :: row0, ?_, rfl, ?_, ?_⟩
            · simp [step, hc, addP]
            · simp [step, hc, addP]; omega
            · simp [step, hc, addP, sm] at *; omega
          · obtain ⟨j, rfl⟩ : ∃ j, i = j + 1 := ⟨i - 1, by omega⟩
            have ha : ¬ (a = 0) := by omega
            refine ⟨j + 1, row, ?_, by simpa using h2, ?_, ?_⟩
            · simp [step, hc, addP, ha]; omega
            · simp [step, hc, addP, ha]; omega
            · simp [step, hc, addP, ha, sm] at *; omega
end Mx

namespace Lw
open PySem L2 StX DL
open PyProof.Rows (envOfC)
structure Ad where
  c_Alphabet : Addr
  a_is_integer : Addr
  a__is_row_of_signs : Addr
  a__law_streams : Addr
  a__law_next : Addr
  a__law_free : Addr
  a__law_code : Addr
  a__law_folded : Addr
  a_is_count : Addr
  a_folded : Addr
  a_Alphabet_init : Addr
  a__law_signs : Addr
  a__law_drawn : Addr
  a_is_up_to : Addr
  a_check_up_to : Addr
  a_unfolded : Addr
  a_Alphabet_code_of : Addr
  a_Alphabet_call : Addr
  a_Alphabet_signed : Addr
  a__law_one_holds : Addr
  a_law : Addr
  t_CODE_LIMIT : Tok
  t_FOLDED_LIMIT : Tok
  t_MANY_DIGITS : Tok
  t_MANY_SIGNS : Tok
  t_PERCENT_SIGN : Tok
  t_SIGNED_LIMIT : Tok
abbrev k_CODE_LIMIT : V := .int 1000000000000
abbrev k_FOLDED_LIMIT : V := .int 2000000000
abbrev k_MANY_DIGITS : V := .int 32
abbrev k_MANY_SIGNS : V := .int 64
abbrev k_PERCENT_SIGN : V := .int 37
abbrev k_SIGNED_LIMIT : V := .int 1000000000
def RL : Rl := fun ds n P _ => ∃ ns : List Int, ds = [.lst (ns.map .int)] ∧ ns.length ≤ 63 ∧ n = 600 ∧ ∀ m, P (.bl true) m
abbrev spL (K : PySem.W.Frag) [Tb K] : Sp := spD K RL
theorem law_start {K : PySem.W.Frag} {tb : List (Addr × Str)} [i : Tb K] {H : Hp} {a : Addr} {ns : List Int} (hl : ns.length ≤ 63) (hS : SqL K H a (ns.map V.int)) (hi : Tb.tb K = tb) (hn : (tb.map (·.1)).Nodup) (hT : ∀ p ∈ tb, H p.1 = some (.tbl #[])) : spL K [.ref a] H (fun v _ => v = .bl true) fun _ _ _ => False :=
  law_begin 600 hS hi hn hT ⟨ns, rfl, hl, rfl, fun _ => rfl⟩
abbrev mk (l : List Nat) : Str := ⟨l.toArray⟩
abbrev tl (x : Str) : List Nat := x.cps.toList
abbrev P2 (p : Mx.Pt) : D := pos p.1 p.2
def oP : Option Mx.Pt → D
  | none => .non
  | some p => P2 p
/-- signs that no row holds -/
def noSign (c : Nat) : Bool := c == 37 || decide (c ∈ (Str.ofString ",;>.'").cps.toList)
/-- a row of signs -/
def okS (x : Str) : Prop := (tl x).length = 64 ∧ (tl x).Nodup ∧ ∀ c ∈ tl x, 32 ≤ c ∧ c ≤ 126 ∧ noSign c = false
abbrev alD (A : Ad) (x : Str) (e : List (Key × D)) : D := .obj A.c_Alphabet [("_signs", .str x), ("_indexes", .dct e)]
/-- the signs of the rest in front of what is told -/
def up (s : List Nat) (r : Nat) (acc : List Nat) : List Nat := if h : r = 0 then acc else up s (r / 32) (s.getD (32 + r % 32) 0 :: acc)
termination_by r
decreasing_by exact Nat.div_lt_self (Nat.pos_of_ne_zero h) (by decide)
def cdO (x : Str) (n : Nat) : Str := mk (up (tl x) (n / 32) [(tl x).getD (n % 32) 0])
def fo (i : Int) : Int := if 0 ≤ i then 2 * i else -2 * i - 1
def un (i : Int) : Int := if i = 2 * (i / 2) then i / 2 else -(i / 2) - 1
def fre : Str := Str.ofString " !\"#$&()*+-/0123456789:<=?@ABCDEFGHIJKLMNOPQRSTUVWXYZ[\\]^_`abcdefghijklmnopqrstuvwxyz{|}~"
abbrev R_is_integer (A : Ad) : Rl := pr fun ds P => ∃ i, ds = [.int i] ∧ P (.bl true)
abbrev R_is_count (A : Ad) : Rl := pr fun ds P => ∃ i, ds = [.int i] ∧ P (.bl (decide (0 ≤ i)))
abbrev R_is_up_to (A : Ad) : Rl := pr fun ds P => ∃ i l, ds = [.int i, .int l] ∧ P (.bl (decide (0 ≤ i) && decide (i ≤ l)))
abbrev R_check_up_to (A : Ad) : Rl := pr fun ds P => ∃ i l, ds = [.int i, .int l] ∧ 0 ≤ i ∧ i ≤ l ∧ P .non
abbrev R_folded (A : Ad) : Rl := pr fun ds P => ∃ i : Int, ds = [.int i] ∧ -1000000000 ≤ i ∧ i ≤ 1000000000 ∧ P (.int (fo i))
abbrev R_unfolded (A : Ad) : Rl := pr fun ds P => ∃ i : Int, ds = [.int i] ∧ 0 ≤ i ∧ i ≤ 2000000000 ∧ P (.int (un i))
abbrev R__is_row_of_signs (A : Ad) : Rl := pr fun ds P => ∃ x, ds = [.str x] ∧ okS x ∧ P (.bl true)
abbrev R_Alphabet_init (A : Ad) : Ri := fun ds _ P _ => ∃ x : Str, ds = [.str x] ∧ okS x ∧ ∀ e, P [("_signs", .str x), ("_indexes", .dct e)]
abbrev R_Alphabet_code_of (A : Ad) : Rl := pr fun ds P => ∃ (x : Str) (e : List (Key × D)) (k : Nat), ds = [alD A x e, .int k] ∧ okS x ∧ k ≤ 2000000000 ∧ P (.str (cdO x k))
abbrev R_Alphabet_call (A : Ad) : Rl := R_Alphabet_code_of A
abbrev R_Alphabet_signed (A : Ad) : Rl := pr fun ds P => ∃ (x : Str) (e : List (Key × D)) (i : Int), ds = [alD A x e, .int i] ∧ okS x ∧ -1000000000 < i ∧ i ≤ 1000000000 ∧ P (.str (cdO x (fo i).toNat))
/-! the law's own defs -/
abbrev R__law_streams (A : Ad) : Rl := fun ds n P _ => ∃ ns : List Int, ds = [.lst (ns.map .int)] ∧ ns.length ≤ 63 ∧ 600 ≤ n ∧ ∀ ps : List Addr, P (.lst (ps.map fun a => .strm a .cells)) n
abbrev R__law_next (A : Ad) : Rl := fun ds n P _ => ∃ (a : Addr) (t : Int), ds = [.strm a .cells, .int t] ∧ 0 < t ∧ t < 1073741824 ∧ n ≤ 1000000 ∧ ∀ r, 0 ≤ r → r < t → P (.int r) (n + 1)
abbrev R__law_free (A : Ad) : Rl := pr fun ds P => ds = [] ∧ P (.str fre)
abbrev R__law_code (A : Ad) : Rl := pr fun ds P => ∃ (x : Str) (k : Nat), ds = [.str x, .int k] ∧ okS x ∧ k ≤ 2000000000 ∧ P (.str (cdO x k))
abbrev R__law_folded (A : Ad) : Rl := pr fun ds P => ∃ i : Int, ds = [.int i] ∧ -1000000000 ≤ i ∧ i ≤ 1000000000 ∧ P (.int (fo i))
abbrev R__law_signs (A : Ad) : Rl := fun ds n P _ => ∃ a : Addr, ds = [.strm a .cells] ∧ n ≤ 900000 ∧ ∀ (x : Str) m, okS x → n ≤ m → m ≤ n + 3 → P (.str x) m
abbrev R__law_drawn (A : Ad) : Rl := fun ds n P _ => ∃ a : Addr, ds = [.strm a .cells] ∧ n ≤ 900000 ∧ ∀ (i : Int) m, -1000000000 < i → i < 1000000000 → n ≤ m → m ≤ n + 40 → P (.int i) m
abbrev R__law_one_holds (A : Ad) : Rl := pr fun ds P => ∃ (x : Str) (e : List (Key × D)) (i : Int), ds = [alD A x e, .str x, .int i] ∧ okS x ∧ -1000000000 < i ∧ i < 1000000000 ∧ P (.bl true)
abbrev R_law (A : Ad) : Rl := RL
structure TxtC (K : PySem.W.Frag) (A : Ad) : Prop where
  cl_Alphabet : Cls K A.c_Alphabet
  na_Alphabet__signs : NoAttr K A.c_Alphabet "_signs"
  na_Alphabet__indexes : NoAttr K A.c_Alphabet "_indexes"
  crd_Alphabet : ClX.CRead K A.c_Alphabet (.type "type")
  cv_Alphabet_MARKS : ∃ u, ClX.CVal K A.c_Alphabet (.type "type") "MARKS" (.str (PySem.Str.ofString ",;>.'")) u
structure TxtT (K : PySem.W.Frag) [Tb K] (A : Ad) : Prop where
  none : True
def t_is_integer (K : PySem.W.Frag) [Tb K] (A : Ad) : TS := (tRet (tAndV (tCB (rIsi K) (tCons (tVar 0) (tCons (tC (.ty "int")) tNil))) (tNotV (tCB (rIsi K) (tCons (tVar 0) (tCons (tC (.ty "bool")) tNil))))))
def t__is_row_of_signs (K : PySem.W.Frag) [Tb K] (A : Ad) : TS := (tSeq (tIfS (tOr (tNot (tB (tCB (rIsi K) (tCons (tVar 0) (tCons (tC (.ty "str")) tNil))))) (tOr (tTest (tOp (rNeP K) (tCB (rLen' K) (tCons (tVar 0) tNil)) (tC (k_MANY_SIGNS)))) (tTest (tOp (rNeP K) (tLenSetS (tVar 0)) (tC (k_MANY_SIGNS)))))) (tRet (tC (.bl false))) tNext)
    (tRet (tCB (rAll K) (tCons (tLc (iStr (tVar 0)) (gName 1) tYes (tAndV (tChain (rLeP K) (rLeP K) (tC (.str (PySem.Str.ofString " "))) (tVar 1) (tC (.str (PySem.Str.ofString "~")))) (tAndV (tOp (rNeP K) (tCB (rOrd') (tCons (tVar 1) tNil)) (tC (k_PERCENT_SIGN))) (tOp (rNotInS) (tVar 1) (ClX.tCVal K (tC (.ref A.c_Alphabet)) "MARKS")))) [1]) tNil))))
def t__law_streams (K : PySem.W.Frag) [Tb K] (A : Ad) : TS := (tSeq (tAsg (tIf (tTest (tOp (rNeP K) (tVar 0) (tLst tNil))) (tCB (rLstOf K) (tCons (tVar 0) tNil)) (tLst (tCons (tC (.int 0)) tNil))) (gName 1))
    (tSeq (tAsg (tLst tNil) (gName 2))
    (tSeq (tFor (iEnum K (tCons (tSl (rSlU K) (tVar 1) tNoPart (tPart (tC (.int 6)))) tNil)) (gTup K 2 (gCons (gName 3) (gCons (gName 4) gNil))) (tDrop (tBM K "list" rAppend (tVar 2) (tCons (tDisp [((tC (.str (PySem.Str.ofString "cells"))), (tOp (rAddU K) (tSl (rSlU K) (tVar 1) (tPart (tVar 3)) tNoPart) (tSl (rSlU K) (tVar 1) tNoPart (tPart (tVar 3))))), ((tC (.str (PySem.Str.ofString "at"))), (tOp (rI CMul fun i j => .int (i * j)) (tC (.int 89)) (tVar 3))), ((tC (.str (PySem.Str.ofString "left"))), (tIf (tTest (tOp (rGeP K) (tVar 4) (tOp (rI CPow fun i j => .int (i ^ j.toNat)) (tC (.int 10)) (tC (.int 18))))) (tVar 4) (tC (.int 0))))]) tNil))))
    (tRet (tVar 2)))))
def t__law_next (K : PySem.W.Frag) [Tb K] (A : Ad) : TS := (tSeq (sDPut (tVar 0) (tC (.str (PySem.Str.ofString "at"))) (tOp (rAddU K) (tDGet (tVar 0) (tC (.str (PySem.Str.ofString "at")))) (tC (.int 1))))
    (tSeq (tIfS (tTest (tOp (rGtP K) (tDGet (tVar 0) (tC (.str (PySem.Str.ofString "left")))) (tC (.int 0)))) (tSeq (tAsg (tOp (rI (fun _ j => 0 < j) fun i j => .int (i % j)) (tCB (rInt1) (tCons (tDGet (tVar 0) (tC (.str (PySem.Str.ofString "left")))) tNil)) (tVar 1)) (gName 2))
    (tSeq (sDPut (tVar 0) (tC (.str (PySem.Str.ofString "left"))) (tOp (rI CDiv fun i j => .int (i / j)) (tDGet (tVar 0) (tC (.str (PySem.Str.ofString "left")))) (tVar 1)))
    (tRet (tVar 2)))) tNext)
    (tSeq (tPar 3 4 (tCons (tDGet (tVar 0) (tC (.str (PySem.Str.ofString "at")))) (tCons (tDGet (tVar 0) (tC (.str (PySem.Str.ofString "cells")))) tNil)))
    (tSeq (tAsg (tOp (rAddU K) (tOp (rAddU K) (tOp (rI CMul fun i j => .int (i * j)) (tOp (rI CMul fun i j => .int (i * j)) (tC (.int 7907)) (tVar 3)) (tVar 3)) (tOp (rI CMul fun i j => .int (i * j)) (tC (.int 104723)) (tVar 3))) (tC (.int 11))) (gName 5))
    (tSeq (tAsg (tOp (rAddU K) (tOp (rI (fun _ j => 0 < j) fun i j => .int (i % j)) (tCB (rInt1) (tCons (tOp (rIx K) (tVar 4) (tOp (rI (fun _ j => 0 < j) fun i j => .int (i % j)) (tCB (rInt1) (tCons (tVar 3) tNil)) (tCB (rLen' K) (tCons (tVar 4) tNil)))) tNil)) (tC (.int 2147483629))) (tVar 5)) (gName 6))
    (tSeq (tAsg (tOp (rI (fun _ j => 0 < j) fun i j => .int (i % j)) (tCB (rInt1) (tCons (tOp (rI CPow fun i j => .int (i ^ j.toNat)) (tVar 6) (tC (.int 5))) tNil)) (tC (.int 2147483647))) (gName 6))
    (tRet (tOp (rI (fun _ j => 0 < j) fun i j => .int (i % j)) (tCB (rInt1) (tCons (tOp (rI CDiv fun i j => .int (i / j)) (tOp (rI (fun _ j => 0 < j) fun i j => .int (i % j)) (tCB (rInt1) (tCons (tOp (rI CMul fun i j => .int (i * j)) (tVar 6) (tC (.int 48271))) tNil)) (tC (.int 2147483629))) (tC (.int 7))) tNil)) (tVar 1)))))))))
def t__law_free (K : PySem.W.Frag) [Tb K] (A : Ad) : TS := (tSeq (tAsg (tC (.str (PySem.Str.ofString " !\"#$&()*+-/0123456789:<=?@ABCDEFGHIJKLMNOPQRSTUVWXYZ"))) (gName 0))
    (tRet (tOp (rAddU K) (tVar 0) (tC (.str (PySem.Str.ofString "[\\]^_`abcdefghijklmnopqrstuvwxyz{|}~"))))))
def t__law_code (K : PySem.W.Frag) [Tb K] (A : Ad) : TS := (tSeq (tPar 2 3 (tCons (tOp (rIx K) (tVar 0) (tOp (rI (fun _ j => 0 < j) fun i j => .int (i % j)) (tCB (rInt1) (tCons (tVar 1) tNil)) (tC (.int 32)))) (tCons (tOp (rI CDiv fun i j => .int (i / j)) (tVar 1) (tC (.int 32))) tNil)))
    (tSeq (tWhile (tTest (tOp (rGtP K) (tVar 3) (tC (.int 0)))) (tSeq (tAsg (tOp (rAddU K) (tOp (rIx K) (tVar 0) (tOp (rAddU K) (tC (.int 32)) (tOp (rI (fun _ j => 0 < j) fun i j => .int (i % j)) (tCB (rInt1) (tCons (tVar 3) tNil)) (tC (.int 32))))) (tVar 2)) (gName 2))
    (tAsg (tOp (rI CDiv fun i j => .int (i / j)) (tVar 3) (tC (.int 32))) (gName 3))))
    (tRet (tVar 2))))
def t__law_folded (K : PySem.W.Frag) [Tb K] (A : Ad) : TS := (tRet (tIf (tTest (tOp (rGeP K) (tVar 0) (tC (.int 0)))) (tOp (rI CMul fun i j => .int (i * j)) (tC (.int 2)) (tVar 0)) (tOp (rI0 fun i j => .int (i - j)) (tOp (rI CMul fun i j => .int (i * j)) (tUn (rU fun i => .int (-i)) (tC (.int 2))) (tVar 0)) (tC (.int 1)))))
def t_is_count (K : PySem.W.Frag) [Tb K] (A : Ad) : TS := (tRet (tAndV (tCall (spD K (R_is_integer A)) [] E0 (tCons (tVar 0) tNil)) (tOp (rGeP K) (tVar 0) (tC (.int 0)))))
def t_folded (K : PySem.W.Frag) [Tb K] (A : Ad) : TS := (tSeq (tIfS (tOr (tNot (tB (tCall (spD K (R_is_integer A)) [] E0 (tCons (tVar 0) tNil)))) (tNot (tTest (tChain (rLeP K) (rLeP K) (tUn (rU fun i => .int (-i)) (tC (k_SIGNED_LIMIT))) (tVar 0) (tC (k_SIGNED_LIMIT)))))) tNever tNext)
    (tRet (tIf (tTest (tOp (rGeP K) (tVar 0) (tC (.int 0)))) (tOp (rI CMul fun i j => .int (i * j)) (tC (.int 2)) (tVar 0)) (tOp (rI0 fun i j => .int (i - j)) (tOp (rI CMul fun i j => .int (i * j)) (tUn (rU fun i => .int (-i)) (tC (.int 2))) (tVar 0)) (tC (.int 1))))))
def t_Alphabet_init (K : PySem.W.Frag) [Tb K] (A : Ad) : TS := (tSeq (tIfS (tNot (tB (tCall (spD K (R__is_row_of_signs A)) [] E0 (tCons (tVar 1) tNil)))) tNever tNext)
    (tSeq (sFld K (tVar 0) (tVar 1) "_signs")
    (sFld K (tVar 0) (tDc (iEnumS (tCons (tVar 1) tNil)) (gTup K 2 (gCons (gName 2) (gCons (gName 3) gNil))) tYes (tVar 3) (tVar 2) [2, 3]) "_indexes")))
def t__law_signs (K : PySem.W.Frag) [Tb K] (A : Ad) : TS := (tSeq (tIfS (tTest (tOp (rGtP K) (tCall (spD K (R__law_next A)) [] E0 (tCons (tVar 0) (tCons (tC (.int 3)) tNil))) (tC (.int 0)))) (tSeq (tAsg (tC (.str (PySem.Str.ofString "ABCDEFGHIJKLMNOPQRSTUVWXYZabcdefghijklmnopqrstuvwxyz"))) (gName 1))
    (tRet (tOp (rAddU K) (tVar 1) (tC (.str (PySem.Str.ofString "0123456789+/")))))) tNext)
    (tSeq (tAsg (tTup (tCons (tCall (spD K (R__law_free A)) [] E0 tNil) (tCons (tCall (spD K (R__law_next A)) [] E0 (tCons (tVar 0) (tCons (tC (.int 89)) tNil))) (tCons (tOp (rAddU K) (tC (.int 1)) (tCall (spD K (R__law_next A)) [] E0 (tCons (tVar 0) (tCons (tC (.int 88)) tNil)))) tNil)))) (gTup K 3 (gCons (gName 2) (gCons (gName 3) (gCons (gName 4) gNil)))))
    (tRet (tM1 (rJoin K) (tC (.str (PySem.Str.ofString ""))) (tLc (iRng1 (tCons (tC (.int 64)) tNil)) (gName 5) tYes (tOp (rIx K) (tVar 2) (tOp (rI (fun _ j => 0 < j) fun i j => .int (i % j)) (tCB (rInt1) (tCons (tOp (rAddU K) (tVar 3) (tOp (rI CMul fun i j => .int (i * j)) (tVar 4) (tVar 5))) tNil)) (tC (.int 89)))) [5])))))
def t__law_drawn (K : PySem.W.Frag) [Tb K] (A : Ad) : TS := (tSeq (tPar 1 2 (tCons (tOp (rAddU K) (tC (.int 1)) (tCall (spD K (R__law_next A)) [] E0 (tCons (tVar 0) (tCons (tC (.int 30)) tNil)))) (tCons (tC (.int 0)) tNil)))
    (tSeq (tFor (iRng1 (tCons (tVar 1) tNil)) (gName 3) (tAsg (tOp (rAddU K) (tOp (rI CMul fun i j => .int (i * j)) (tC (.int 2)) (tVar 2)) (tCall (spD K (R__law_next A)) [] E0 (tCons (tVar 0) (tCons (tC (.int 2)) tNil)))) (gName 2)))
    (tRet (tOp (rI CMul fun i j => .int (i * j)) (tOp (rIx K) (tLst (tCons (tC (.int 1)) (tCons (tUn (rU fun i => .int (-i)) (tC (.int 1))) tNil))) (tCall (spD K (R__law_next A)) [] E0 (tCons (tVar 0) (tCons (tC (.int 2)) tNil)))) (tCB (rMin2) (tCons (tVar 2) (tCons (tOp (rI0 fun i j => .int (i - j)) (tOp (rI0 fun i j => .int (i - j)) (tOp (rI CPow fun i j => .int (i ^ j.toNat)) (tC (.int 10)) (tC (.int 9))) (tC (.int 1))) (tCall (spD K (R__law_next A)) [] E0 (tCons (tVar 0) (tCons (tC (.int 2)) tNil)))) tNil)))))))
def t_is_up_to (K : PySem.W.Frag) [Tb K] (A : Ad) : TS := (tRet (tAndV (tCall (spD K (R_is_count A)) [] E0 (tCons (tVar 0) tNil)) (tOrV (tOp (rIsN') (tVar 1) (tC .non)) (tOp (rLeP K) (tVar 0) (tVar 1)))))
def t_check_up_to (K : PySem.W.Frag) [Tb K] (A : Ad) : TS := (tIfS (tNot (tB (tCall (spD K (R_is_up_to A)) [] E0 (tCons (tVar 0) (tCons (tVar 1) tNil))))) tNever tNext)
def t_unfolded (K : PySem.W.Frag) [Tb K] (A : Ad) : TS := (tSeq (tDrop (tCall (spD K (R_check_up_to A)) [] E0 (tCons (tVar 0) (tCons (tC (k_FOLDED_LIMIT)) tNil))))
    (tSeq (tAsg (tOp (rI CDiv fun i j => .int (i / j)) (tVar 0) (tC (.int 2))) (gName 1))
    (tRet (tIf (tTest (tOp (rEqP K) (tVar 0) (tOp (rI CMul fun i j => .int (i * j)) (tC (.int 2)) (tVar 1)))) (tVar 1) (tOp (rI0 fun i j => .int (i - j)) (tUn (rU fun i => .int (-i)) (tVar 1)) (tC (.int 1)))))))
def t_Alphabet_code_of (K : PySem.W.Frag) [Tb K] (A : Ad) : TS := (tSeq (tDrop (tCall (spD K (R_check_up_to A)) [] E0 (tCons (tVar 1) (tCons (tC (k_CODE_LIMIT)) tNil))))
    (tSeq (tAsg (tOp (rIx K) (tFld K (tVar 0) "_signs") (tOp (rAndM) (tVar 1) (tC (.int 31)))) (gName 2))
    (tSeq (tAsg (tOp (rI CDiv fun i j => .int (i / j)) (tVar 1) (tC (k_MANY_DIGITS))) (gName 3))
    (tSeq (tWhile (tTest (tOp (rGtP K) (tVar 3) (tC (.int 0)))) (tSeq (tAsg (tOp (rAddU K) (tOp (rIx K) (tFld K (tVar 0) "_signs") (tOp (rAddU K) (tC (k_MANY_DIGITS)) (tOp (rAndM) (tVar 3) (tC (.int 31))))) (tVar 2)) (gName 2))
    (tAsg (tOp (rI CDiv fun i j => .int (i / j)) (tVar 3) (tC (k_MANY_DIGITS))) (gName 3))))
    (tRet (tVar 2))))))
def t_Alphabet_call (K : PySem.W.Frag) [Tb K] (A : Ad) : TS := (tRet (tMeth A.c_Alphabet "_code_of" (spD K (R_Alphabet_code_of A)) [] E0 (tVar 0) (tCons (tVar 1) tNil)))
def t_Alphabet_signed (K : PySem.W.Frag) [Tb K] (A : Ad) : TS := (tRet (tMeth A.c_Alphabet "_code_of" (spD K (R_Alphabet_code_of A)) [] E0 (tVar 0) (tCons (tCall (spD K (R_folded A)) [] E0 (tCons (tVar 1) tNil)) tNil)))
def t__law_one_holds (K : PySem.W.Frag) [Tb K] (A : Ad) : TS := (tSeq (tAsg (tCall (spD K (R_folded A)) [] E0 (tCons (tVar 2) tNil)) (gName 3))
    (tSeq (tAsg (tOp (rAddU K) (tOp rRep (tLst (tCons (tCall (spD K (R__law_folded A)) [] E0 (tCons (tVar 2) tNil)) tNil)) (tC (.int 2))) (tOp rRep (tLst (tCons (tVar 2) tNil)) (tC (.int 2)))) (gName 4))
    (tSeq (tIfS (tTest (tOp (rNeP K) (tCB (rReprV K) (tCons (tLst (tCons (tVar 3) (tCons (tCallN 0 1 (spD K (R_folded A)) (perm [0]) E0 tNil (tCons (tVar 2) tNil)) (tCons (tCall (spD K (R_unfolded A)) [] E0 (tCons (tVar 3) tNil)) (tCons (tCallN 0 1 (spD K (R_unfolded A)) (perm [0]) E0 tNil (tCons (tVar 3) tNil)) tNil))))) tNil)) (tCB (rReprV K) (tCons (tVar 4) tNil)))) (tRet (tC (.bl false))) tNext)
    (tSeq (tAsg (tMeth A.c_Alphabet "signed" (spD K (R_Alphabet_signed A)) [] E0 (tVar 0) (tCons (tVar 2) tNil)) (gName 5))
    (tSeq (tIfS (tOr (tTest (tOp (rNeP K) (tVar 5) (tCallO' A.c_Alphabet (spD K (R_Alphabet_call A)) E0 (tVar 0) (tCons (tVar 3) tNil)))) (tTest (tOp (rNeP K) (tVar 5) (tCall (spD K (R__law_code A)) [] E0 (tCons (tVar 1) (tCons (tVar 3) tNil)))))) (tRet (tC (.bl false))) tNext)
    (tSeq (tIfS (tTest (tOp (rNeP K) (tMethN A.c_Alphabet "signed" 1 (spD K (R_Alphabet_signed A)) (perm [0, 1]) E0 (tVar 0) (tCons (tVar 2) tNil)) (tVar 5))) (tRet (tC (.bl false))) tNext)
    (tRet (tOp (rEqP K) (tCall (spD K (R_unfolded A)) [] E0 (tCons (tOp (rAddU K) (tVar 3) (tC (.int 1))) tNil)) (tIf (tTest (tOp (rGeP K) (tVar 2) (tC (.int 0)))) (tOp (rI0 fun i j => .int (i - j)) (tUn (rU fun i => .int (-i)) (tVar 2)) (tC (.int 1))) (tUn (rU fun i => .int (-i)) (tVar 2)))))))))))
def t_law (K : PySem.W.Frag) [Tb K] (A : Ad) : TS := (tSeq (tFor (iList K (tSl (rSlU K) (tCall (spD K (R__law_streams A)) [] E0 (tCons (tVar 0) tNil)) tNoPart (tPart (tC (.int 3))))) (gName 1) (tSeq (tAsg (tCall (spD K (R__law_signs A)) [] E0 (tCons (tVar 1) tNil)) (gName 2))
    (tSeq (tPar 3 4 (tCons (tMake A.c_Alphabet (spI K A.c_Alphabet (R_Alphabet_init A)) [] E0 (tCons (tVar 2) tNil)) (tCons (tC (.str (PySem.Str.ofString ""))) tNil)))
    (tSeq (tFor (iRng1 (tCons (tC (.int 40)) tNil)) (gName 5) (tIfS (tNot (tB (tCall (spD K (R__law_one_holds A)) [] E0 (tCons (tVar 3) (tCons (tVar 2) (tCons (tCall (spD K (R__law_drawn A)) [] E0 (tCons (tVar 1) tNil)) tNil)))))) (tRet (tC (.bl false))) tNext))
    (tSeq (tAsg (tOp (rAddU K) (tC (.int 1)) (tCall (spD K (R__law_next A)) [] E0 (tCons (tVar 1) (tCons (tC (.int 200)) tNil)))) (gName 6))
    (tSeq (tAsg (tLc (iRng2 (tCons (tUn (rU fun i => .int (-i)) (tVar 6)) (tCons (tVar 6) tNil))) (gName 10) tYes (tCB (rInt1) (tCons (tCall (spD K (R_folded A)) [] E0 (tCons (tVar 10) tNil)) tNil)) [10]) (gName 7))
    (tSeq (tIfS (tTest (tOp (rNeP K) (tCB (rSortedI K) (tCons (tVar 7) tNil)) (tLc (iRng1 (tCons (tOp (rI CMul fun i j => .int (i * j)) (tC (.int 2)) (tVar 6)) tNil)) (gName 5) tYes (tVar 5) [5]))) (tRet (tC (.bl false))) tNext)
    (tFor (iRng1 (tCons (tOp (rI CMul fun i j => .int (i * j)) (tC (.int 2)) (tVar 6)) tNil)) (gName 5) (tSeq (tAsg (tMeth A.c_Alphabet "signed" (spD K (R_Alphabet_signed A)) [] E0 (tVar 3) (tCons (tCall (spD K (R_unfolded A)) [] E0 (tCons (tVar 5) tNil)) tNil)) (gName 8))
    (tSeq (tIfS (tTest (tOp (rLtP K) (tCB (rLen' K) (tCons (tVar 8) tNil)) (tCB (rLen' K) (tCons (tVar 4) tNil)))) (tRet (tC (.bl false))) tNext)
    (tAsg (tVar 8) (gName 4))))))))))))
    (tSeq (tAsg (tLst (tCons (tCall (spD K (R_folded A)) [] E0 (tCons (tOp (rI CPow fun i j => .int (i ^ j.toNat)) (tC (.int 10)) (tC (.int 9))) tNil)) (tCons (tCall (spD K (R_folded A)) [] E0 (tCons (tOp (rI0 fun i j => .int (i - j)) (tC (.int 1)) (tOp (rI CPow fun i j => .int (i ^ j.toNat)) (tC (.int 10)) (tC (.int 9)))) tNil)) (tCons (tCall (spD K (R_unfolded A)) [] E0 (tCons (tOp (rI CMul fun i j => .int (i * j)) (tC (.int 2)) (tOp (rI CPow fun i j => .int (i ^ j.toNat)) (tC (.int 10)) (tC (.int 9)))) tNil)) (tCons (tCall (spD K (R_unfolded A)) [] E0 (tCons (tOp (rI0 fun i j => .int (i - j)) (tOp (rI CMul fun i j => .int (i * j)) (tC (.int 2)) (tOp (rI CPow fun i j => .int (i ^ j.toNat)) (tC (.int 10)) (tC (.int 9)))) (tC (.int 1))) tNil)) tNil))))) (gName 9))
    (tRet (tOp (rEqP K) (tVar 9) (tLst (tCons (tOp (rI CMul fun i j => .int (i * j)) (tC (.int 2)) (tOp (rI CPow fun i j => .int (i ^ j.toNat)) (tC (.int 10)) (tC (.int 9)))) (tCons (tOp (rI0 fun i j => .int (i - j)) (tOp (rI CMul fun i j => .int (i * j)) (tC (.int 2)) (tOp (rI CPow fun i j => .int (i ^ j.toNat)) (tC (.int 10)) (tC (.int 9)))) (tC (.int 3))) (tCons (tOp (rI CPow fun i j => .int (i ^ j.toNat)) (tC (.int 10)) (tC (.int 9))) (tCons (tUn (rU fun i => .int (-i)) (tOp (rI CPow fun i j => .int (i ^ j.toNat)) (tC (.int 10)) (tC (.int 9)))) tNil)))))))))
end Lw

namespace Lw
open PySem L2 StX DL
theorem len_tl (x : Str) : x.length = (tl x).length := TL.len_tl x
theorem nl_is : Str.ofString "\n" = ⟨#[10]⟩ := TL.ext_tl ((TL.tl_ofString "\n").trans (by rfl))
theorem tl_nl : tl (Str.ofString "\n") = [10] := by rw [nl_is]
theorem em_is : Str.ofString "" = ⟨#[]⟩ := TL.ext_tl ((TL.tl_ofString "").trans (by rfl))
theorem tl_mk (l : List Nat) : tl (mk l) = l := rfl
theorem mk_tl (x : Str) : mk (tl x) = x := TL.mk_tl x
theorem mk_len (l : List Nat) : (mk l).length = l.length := by rw [len_tl, tl_mk]
theorem cut_to (x : Str) (k : Nat) (h : k ≤ x.length) : cutS x none (some (k : Int)) = mk ((tl x).take k) := by
  apply TL.ext_tl
  show (((tl x).drop (HT.sIx x.length 0 none)).take (HT.sIx x.length x.length (some (k : Int)) - HT.sIx x.length 0 none)) = _
  rw [HT.sIx_nat, HT.sIx_none, Nat.min_eq_left h]; rfl
theorem cut_from (x : Str) (k : Nat) (h : k ≤ x.length) : cutS x (some (k : Int)) none = mk ((tl x).drop k) := by
  apply TL.ext_tl
  show (((tl x).drop (HT.sIx x.length 0 (some (k : Int)))).take (HT.sIx x.length x.length none - HT.sIx x.length 0 (some (k : Int)))) = _
  rw [HT.sIx_nat, HT.sIx_none, Nat.min_eq_left h]
  exact List.take_of_length_le (by rw [List.length_drop, len_tl]; omega)
theorem cut_mid (x : Str) (i j : Nat) (h : i ≤ x.length) (h' : j ≤ x.length) : cutS x (some (i : Int)) (some (j : Int)) = mk (((tl x).drop i).take (j - i)) := by
  apply TL.ext_tl
  show (((tl x).drop (HT.sIx x.length 0 (some (i : Int)))).take (HT.sIx x.length x.length (some (j : Int)) - HT.sIx x.length 0 (some (i : Int)))) = _
  rw [HT.sIx_nat, HT.sIx_nat, Nat.min_eq_left h, Nat.min_eq_left h']
theorem cnt_count (c : Nat) (l : List Nat) : PyProof.Rows.cnt c l = (l.count c : Nat) := by
  induction l with
  | nil => rfl
  | cons a l ih =>
    rw [PyProof.Rows.cnt_cons, ih, List.count_cons]
    by_cases h : a = c <;> simp [h] <;> omega
theorem count_nl (x : Str) : Txt.count x (Str.ofString "\n") = (Mx.beh (0, 0) (tl x)).1 := by
  rw [nl_is, PyProof.Rows.count_cnt, cnt_count, Mx.beh_cnt]; simp
theorem pre_one (c : Nat) (l : List Nat) : TL.pre [c] l = true ↔ ∃ r, l = c :: r := by
  cases l with
  | nil => simp [TL.pre]
  | cons a l => simp [TL.pre]
theorem nlx : tl (⟨#[10]⟩ : Str) ≠ [] := by decide
theorem rfind_nl (x : Str) : (x.length : Int) - Txt.rfind x (Str.ofString "\n") - 1 = (Mx.beh (0, 0) (tl x)).2 := by
  rw [nl_is, len_tl]
  rcases PyProof.Rows.rfind_whole x ⟨#[10]⟩ with ⟨e, h⟩ | ⟨i, e, h1, h2⟩
  · rw [e, Mx.beh_none]
    · simp
    · intro hm
      obtain ⟨a, b, hab⟩ := List.append_of_mem hm
      refine h a.length ((TL.at_iff nlx _).mpr ((pre_one 10 _).mpr ⟨b, ?_⟩))
      show (tl x).drop a.length = _
      rw [show tl x = a ++ 10 :: b from hab]; simp
  · rw [e]
    obtain ⟨r, hr⟩ := (pre_one 10 _).mp ((TL.at_iff nlx i).mp h1)
    have hx : tl x = (tl x).take i ++ 10 :: r := by
      rw [← hr]; exact (List.take_append_drop i _).symm
    have hi : i < (tl x).length := by
      rcases Nat.lt_or_ge i (tl x).length with q | q
      · exact q
      · rw [show (TL.tl x).drop i = [] from List.drop_of_length_le q] at hr; cases hr
    have hn : 10 ∉ r := by
      intro hm
      obtain ⟨a, b, hab⟩ := List.append_of_mem hm
      refine h2 (i + 1 + a.length) (by omega) ((TL.at_iff nlx _).mpr ((pre_one 10 _).mpr ⟨b, ?_⟩))
      have e1 : (TL.tl x).drop (i + 1 + a.length) = (((TL.tl x).drop i).drop 1).drop a.length := by rw [List.drop_drop, List.drop_drop]; congr 1; omega
      rw [e1, hr, List.drop_succ_cons, List.drop_zero, hab]; simp
    rw [hx, Mx.beh_last _ hn, List.length_append, List.length_take, Nat.min_eq_left (Nat.le_of_lt hi), List.length_cons]
    omega
theorem spl_lns (acc l : List Nat) : TL.spl [10] 0 acc l = (acc ++ (Mx.lns l).headD []) :: (Mx.lns l).tail := by
  induction l generalizing acc with
  | nil => rw [TL.spl_nil]; simp [Mx.lns]
  | cons c l ih =>
    by_cases h : c = 10
    · subst h
      rw [TL.spl_hit ((pre_one 10 _).mpr ⟨l, rfl⟩)]
      show acc :: TL.spl [10] 0 [] l = _
      rw [ih]
      have := Mx.lns_ne l
      cases e : Mx.lns l with
      | nil => exact absurd e this
      | cons a b => simp [Mx.lns, e]
    · have hp : TL.pre [10] (c :: l) = false := TL.pre_of_head [] l h
      rw [TL.spl_miss hp, ih]
      simp [Mx.lns, h]
theorem split_nl (x : Str) : Txt.split x (Str.ofString "\n") = (Mx.lns (tl x)).map mk := by
  apply TL.map_tl_inj
  rw [nl_is, TL.split_spl x ⟨#[10]⟩ nlx (TL.kind_ok (by simp)), show TL.tl (⟨#[10]⟩ : Str) = [10] from rfl, spl_lns, List.map_map]
  have := Mx.lns_ne (tl x)
  cases e : Mx.lns (TL.tl x) with
  | nil => exact absurd e this
  | cons a b =>
    have z : TL.tl ∘ mk = id := rfl
    rw [z]; simp
theorem ne_oPs {K : PySem.W.Frag} [Tb K] {P : D → Prop} {o : Option Mx.Pt} (h : P (.bl false)) : Op K (rNeP K) (oP o) (oP o) P := by
  cases o with
  | none => exact ne_nn h
  | some p => exact ne_pos (by simpa using h)
theorem mut_oP (o : Option Mx.Pt) : isMut (oP o) = false := by cases o <;> rfl
theorem non_oP (o : Option Mx.Pt) : isNonD (oP o) = o.isNone := by cases o <;> rfl
end Lw

namespace DL
open PySem L2 StX
section
variable {K : PySem.W.Frag} [Tb K] {Z : ZX} {ds : DS} {n : Nat} {P P' : D → Nat → Prop} {te ta : TE} {N : Nd}
theorem We_imp (h : We K Z te ds n P) (i : ∀ d m, P d m → P' d m) : We K Z te ds n P' := fun b u σ Q e S k => h b u σ Q e S fun v d u1 g s r p => k v d u1 g s r (i d _ p)
theorem den_immD {u : Wd} {v : V} {d : D} (h : Den K u v d) : isMut d = false := by cases h <;> rfl
theorem we_immut (h : We K Z te ds n fun d m => isMut d = false → P d m) : We K Z te ds n P := fun b u σ Q e S k => h b u σ Q e S fun v d u1 g s r p => k v d u1 g s r (p (den_immD r))
/-- x = x + [..], a list of its own -/
theorem ws_catlist {i : Nat} {t : TA} (h : We K Z ta ds n fun x m => ∃ xs, x = .lst xs ∧ Wa K Z t ds m fun ys k => xs.length + ys.length ≤ 1000000 ∧ N.nx (ds.set i (some (.mls (xs ++ ys)))) k) : Ws K Z (tAsg (tOp (rAddU K) ta (tLst t)) (gName i)) ds n N := fun b u σ De e S O =>
  h b u σ _ e S fun v x u1 g1 s1 d1 ⟨xs, z, h2⟩ => by
    subst z
    refine h2 b u1 σ _ rfl (S.go g1 s1) fun vs ys u2 g2 s2 r ⟨hz, p⟩ => ⟨by rw [r.len]; exact sz100 (by omega), fun q hq => ?_⟩
    obtain ⟨a, ws, rfl, sq, r1⟩ := den_lst (d1.mono g2.ls)
    have g0 := Gs.put g2.c hq (o := .lst vs)
    have g3 := g1.trans (g2.trans g0)
    refine .inr (.inr (.inl ⟨a, q, ws, vs, rfl, rfl, Evl.ex_l (fun y o hy => g0.c _ _ (g0.a _ _ hy)) sq, SqL.of upd_same, by rw [r1.len, r.len]; exact sz100 hz, fun p2 hp2 => ?_⟩))
    exact O.nx _ ⟨(u2.put q (.lst vs)).S, (u2.put q (.lst vs)).T, (u2.put q (.lst vs)).n, (u2.put q (.lst vs)).H0, _⟩ _ ⟨g3.sub, g3.kd, g3.a⟩ ((S.go g3 (s2.put g2.c hq)).setMls hp2 ((r1.mono g0.ls).app (r.mono g0.ls))) p
theorem ne_same {P : D → Prop} {d : D} {e : PyData} (h1 : pd d = some e) (p : e.plain = true) (hd : e.depth ≤ 64) (he : PyData.eqv e e = true) (h : P (.bl false)) : Op K (rNeP K) d d P := neP h1 h1 p p hd (by rw [he]; exact h)
theorem eq_same {P : D → Prop} {d : D} {e : PyData} (h1 : pd d = some e) (p : e.plain = true) (hd : e.depth ≤ 64) (he : PyData.eqv e e = true) (h : P (.bl true)) : Op K (rEqP K) d d P := eqP h1 h1 p p hd (by rw [he]; exact h)
end
end DL
namespace Lw
open PySem L2 StX DL
section
variable {K : PySem.W.Frag} [Tb K] {Z : ZX} {ds : DS} {n : Nat} {P : D → Nat → Prop}
/-- {} -/
theorem we_dnew (h : P (.dct []) n) : We K Z tDNewK ds n P := fun b u σ Q e S k => fun p hp => k _ _ (u.put p (.dK [])) (.put S.ex hp) (S.st.put S.ex hp) (.dct (.inl upd_same) .nil) (e ▸ h)
end
section
variable {K : PySem.W.Frag} [Tb K] {Z : ZX} {A : Ad}
theorem sl_to {x : Str} {k : Nat} {P : D → Prop} (hz : x.length ≤ 1000000) (hk : k ≤ x.length) (h : P (.str (mk ((tl x).take k)))) : Sl K (rSlU K) (.str x) none (some (k : Int)) P := sl_str hz (by rw [cut_to x k hk]; exact h)
theorem sl_from {x : Str} {k : Nat} {P : D → Prop} (hz : x.length ≤ 1000000) (hk : k ≤ x.length) (h : P (.str (mk ((tl x).drop k)))) : Sl K (rSlU K) (.str x) (some (k : Int)) none P := sl_str hz (by rw [cut_from x k hk]; exact h)
theorem sl_mid {x : Str} {i j : Nat} {P : D → Prop} (hz : x.length ≤ 1000000) (hi : i ≤ x.length) (hj : j ≤ x.length) (h : P (.str (mk (((tl x).drop i).take (j - i))))) : Sl K (rSlU K) (.str x) (some (i : Int)) (some (j : Int)) P := sl_str hz (by rw [cut_mid x i j hi hj]; exact h)
theorem mt_nl {x : Str} {P : D → Prop} (h : P (.int (Mx.beh (0, 0) (tl x)).1)) : Mt K rCount x (.str (Str.ofString "\n")) P := mt_countD (by rw [count_nl]; exact h)
theorem mt_splitnl {x : Str} {P : D → Prop} (hz : x.length ≤ 1000000) (h : P (.lst ((Mx.lns (tl x)).map fun l => .str (mk l)))) : Mt K rSplit x (.str (Str.ofString "\n")) P := mt_splitD (by rw [nl_is]; rfl) hz (by rw [split_nl, List.map_map]; exact h)
theorem take_len {x : Str} {k : Nat} (h : k ≤ x.length) : (mk ((tl x).take k)).length = k := by rw [mk_len, List.length_take, ← len_tl]; omega
theorem len_take {x : Str} {k : Nat} {P : D → Prop} (hk : k ≤ x.length) (hz : x.length ≤ 1000000) (h : P (.int (k : Nat))) : Cb K (rLen' K) [.str (mk ((tl x).take k))] P := len_str (by rw [take_len hk]; omega) (by rw [take_len hk]; exact h)
theorem Wi_imp {wi : TI} {ds : DS} {n : Nat} {P P' : List D → Nat → Prop} (h : Wi K Z wi ds n P) (i : ∀ xs m, P xs m → P' xs m) : Wi K Z wi ds n P' := fun b u σ R e S k => h b u σ R e S fun J xs u' G Y g s p w a c => k J xs u' G Y g s (i _ _ p) w a c
theorem Wgc_imp {g : TG} {js : List Nat} {x : D} {ds : DS} {P P' : DS → Prop} (h : Wgc K Z g js x ds P) (i : ∀ d, P d → P' d) : Wgc K Z g js x ds P' := fun b u σ v Q S r k => h b u σ v Q S r fun ds' σ' S' l f p => k ds' σ' S' l f (i _ p)
theorem we_lcmap {wi : TI} {g : TG} {te : TE} {ds : DS} {n : Nat} {P : D → Nat → Prop} {vs : List Nat} (f : D → D) (h : Wi K Z wi ds n fun xs m => xs.length ≤ 1000000 ∧ (∀ x, x ∈ xs → Wgc K Z g vs x (wipeD ds vs) fun ds2 => We K Z te ds2 m (fun y l => l = m ∧ y = f x)) ∧ P (.lst (xs.map f)) m) : We K Z (tLc wi g tYes te vs) ds n P :=
  we_lc (Wi_imp h fun xs m ⟨hl, hs, hp⟩ => ⟨fun i ys k => k = m ∧ ys = (xs.take i).map f, ⟨rfl, by simp⟩, fun i x ys k hx ⟨ek, ey⟩ => by
    subst ek ey
    have hi : i < xs.length := (List.getElem?_eq_some_iff.mp hx).1
    refine Wgc_imp (hs x (List.mem_of_getElem? hx)) fun ds2 q => wt_yes ?_
    rw [if_pos rfl]
    refine q.imp fun y l ⟨el, ey⟩ => ?_
    subst el ey
    refine ⟨by rw [List.length_map, List.length_take]; omega, rfl, ?_⟩
    rw [List.take_add_one, hx]
    simp, fun ys k ⟨ek, ey⟩ => by
    subst ek ey
    rw [List.take_length]
    exact hp⟩)
theorem cutD_to {xs : List D} {k : Nat} (h : k ≤ xs.length) : cutD xs none (some (k : Int)) = xs.take k := by
  unfold cutD
  rw [HT.sIx_nat, HT.sIx_none, Nat.min_eq_left h]; rfl
theorem lns_cnt : ∀ {l : List Nat}, (Mx.lns l).length ≤ l.length + 1
  | [] => by simp [Mx.lns]
  | c :: l => by
    have ih := @lns_cnt l
    have := Mx.lns_ne l
    by_cases hc : c = 10
    · simp [Mx.lns, hc]; omega
    · cases e : Mx.lns l with
      | nil => exact absurd e this
      | cons a b => rw [e] at ih; simp [Mx.lns, hc, e] at *; omega
theorem bt_split {p : Mx.Pt} {l : List Nat} {i j : Nat} (h : i ≤ j) : Mx.beh p (l.take j) = Mx.beh (Mx.beh p (l.take i)) ((l.drop i).take (j - i)) := by
  rw [← Mx.beh_app]
  congr 1
  have : j = i + (j - i) := by omega
  conv => lhs; rw [this]
  rw [List.take_add]
theorem tl_app (x y : Str) : tl (x ++ y) = tl x ++ tl y := TL.tl_append x y
theorem bt_nn (l : List Nat) (i : Nat) : Mx.nn (Mx.beh (0, 0) (l.take i)) := Mx.nn_beh _ Mx.zero_nn
theorem bt_nlt {l : List Nat} {i j : Nat} (h : i ≤ j) : ¬ Mx.lt (Mx.beh (0, 0) (l.take j)) (Mx.beh (0, 0) (l.take i)) := by
  rw [bt_split h]
  exact Mx.nlt_beh (bt_nn l i) _
theorem bt_lt {l : List Nat} {i j : Nat} (h : i < j) (hj : j ≤ l.length) : Mx.lt (Mx.beh (0, 0) (l.take i)) (Mx.beh (0, 0) (l.take j)) := by
  rw [bt_split (Nat.le_of_lt h)]
  refine Mx.lt_beh (bt_nn l i) fun z => ?_
  have := congrArg List.length z
  rw [List.length_take, List.length_drop] at this
  simp at this
  omega
theorem lns_len : ∀ {l : List Nat} {r : List Nat}, r ∈ Mx.lns l → r.length ≤ l.length
  | [], r, h => by simp [Mx.lns] at h; simp [h]
  | c :: l, r, h => by
    have ih := @lns_len l
    by_cases hc : c = 10
    · simp [Mx.lns, hc] at h
      rcases h with rfl | h
      · simp
      · have := ih h; simp; omega
    · simp [Mx.lns, hc] at h
      cases e : Mx.lns l with
      | nil => exact absurd e (Mx.lns_ne l)
      | cons a b =>
        rw [e] at h ih
        simp at h
        rcases h with rfl | h
        · have := ih (List.mem_cons_self ..); simp; omega
        · have := ih (List.mem_cons_of_mem _ h); simp; omega
theorem putD_len (f : Str) (d : D) : ∀ fs : List (Str × D), (putD f d fs).length ≤ fs.length + 1
  | [] => by simp [putD]
  | (g, e) :: r => by
    have := putD_len f d r
    unfold putD
    split <;> simp <;> omega
theorem sgn_len {x : D} (h : x ∈ [D.str (Str.ofString "a"), D.str (Str.ofString "b"), D.str (Str.ofString "\n"), D.str (Str.ofString " "), D.str (Str.ofString "a"), D.str (Str.ofString "c")]) : ∃ z : Str, x = .str z ∧ z.length = 1 := by
  simp only [List.mem_cons, List.not_mem_nil, or_false] at h
  rcases h with rfl | rfl | rfl | rfl | rfl | rfl <;> exact ⟨_, rfl, by decide +kernel⟩
theorem joinL_nil : ∀ zs : List (List Nat), TL.joinL [] zs = zs.flatten
  | [] => rfl
  | [p] => by simp [TL.joinL]
  | p :: q :: r => by
    show p ++ ([] ++ TL.joinL [] (q :: r)) = _
    rw [joinL_nil (q :: r)]; simp
theorem tl_join0 (zs : List Str) : tl (Txt.join (Str.ofString "") zs) = (zs.map tl).flatten := by
  rw [TL.join_eq]
  refine (TL.tl_join _ zs).trans ?_
  rw [em_is]
  exact joinL_nil _
theorem ones_sum : ∀ {zs : List Str}, (∀ z ∈ zs, z.length = 1) → (zs.map (·.length)).sum = zs.length
  | [], _ => rfl
  | z :: zs, h => by
    have := ones_sum fun y hy => h y (List.mem_cons_of_mem _ hy)
    simp [this, h z (List.mem_cons_self ..)]; omega
theorem join0_len (zs : List Str) : (Txt.join (Str.ofString "") zs).length = (zs.map (·.length)).sum := by
  rw [len_tl, tl_join0, List.length_flatten, List.map_map]
  rfl
theorem iteF {A B : Prop} {c : Bool} (hc : c = false) (h : B) : if c = true then A else B := by rw [if_neg (by rw [hc]; exact Bool.false_ne_true)]; exact h
/-- one step -/
local macro_rules | `(tactic| walk_at "w1") => `(tactic| first
  | with_reducible refine ws_seq ?_
  | with_reducible refine ws_if ?_
  | with_reducible refine ws_ret ?_
  | ((fail_if_success (with_reducible show Ws _ _ (tDrop (tBM _ _ _ _ _)) _ _ _)); (with_reducible refine ws_drop ?_))
  | with_reducible refine ws_next ?_
  | with_reducible refine ws_par ?_
  | ((fail_if_success (with_reducible show Ws _ _ (tAsg _ (gSub _ _ _)) _ _ _)); (with_reducible refine ws_asg ?_))
  | with_reducible refine wg_name ?_
  | with_reducible refine we_int ?_
  | with_reducible refine we_bl ?_
  | with_reducible refine we_non ?_
  | with_reducible refine we_str ?_
  | with_reducible refine we_ty ?_
  | with_reducible refine we_cls ?_
  | with_reducible refine ws_par3 ?_
  | ((with_reducible show We _ _ (tVar _) _ _ _); refine we_var rfl rfl ?_)
  | ((with_reducible show We _ _ (tVar _) _ _ _); refine we_var rfl (mut_oP _) ?_)
  | with_reducible refine we_rep ?_
  | with_reducible refine we_op ?_
  | with_reducible refine we_un ?_
  | with_reducible refine we_cb ?_
  | with_reducible refine we_callX ?_
  | with_reducible refine we_call ?_
  | with_reducible refine we_callNX ?_
  | with_reducible refine we_callN ?_
  | with_reducible refine we_methN ?_
  | with_reducible refine we_callON ?_
  | with_reducible refine we_callOX ?_
  | with_reducible refine we_exf ?_
  | with_reducible refine we_dnew ?_
  | with_reducible refine ws_raise ?_
  | with_reducible refine we_tup ?_
  | with_reducible refine we_lst ?_
  | with_reducible refine we_sl ?_
  | with_reducible refine we_m1 ?_
  | with_reducible refine we_andV ?_
  | with_reducible refine we_orV ?_
  | with_reducible refine we_notV ?_
  | with_reducible refine we_if ?_
  | with_reducible refine we_chain ?_
  | with_reducible refine we_fld ?_
  | with_reducible refine we_methX ?_
  | with_reducible refine we_meth ?_
  | with_reducible refine we_prop ?_
  | with_reducible refine we_callO' ?_
  | with_reducible refine we_makeX ?_
  | with_reducible refine we_make ?_
  | with_reducible refine wt_test ?_
  | with_reducible refine wt_B ?_
  | with_reducible refine wt_yes ?_
  | with_reducible refine wt_and ?_
  | with_reducible refine wt_or ?_
  | with_reducible refine wt_not ?_
  | with_reducible refine wa_nil ?_
  | with_reducible refine wa_cons ?_
  | with_reducible refine wo_none ?_
  | with_reducible refine wo_some ?_
  | with_reducible refine add_int ?_
  | with_reducible refine sub_int ?_
  | with_reducible refine neg_int ?_
  | ((with_reducible refine mod_int ?_ ?_); (focus (first | assumption | omega)))
  | ((with_reducible refine mul_int ?_ ?_); (focus (first | exact Or.inl ⟨by omega, by omega⟩ | exact Or.inr ⟨by omega, by omega⟩)))
  | ((with_reducible refine fdiv_int ?_ ?_); (focus (exact ⟨by omega, by omega⟩)))
  | ((with_reducible refine pow_int ?_ ?_); (focus (exact ⟨by decide, by decide, by decide⟩)))
  | with_reducible refine is_non ?_
  | with_reducible refine not_non ?_
  | with_reducible refine eq_int ?_
  | with_reducible refine ne_int ?_
  | with_reducible refine eq_pos ?_
  | with_reducible refine ne_pos ?_
  | with_reducible refine ne_oPs ?_
  | with_reducible refine ne_nn ?_
  | with_reducible refine ne_np ?_
  | with_reducible refine ne_pn ?_
  | with_reducible refine eq_str ?_
  | with_reducible refine ne_str ?_
  | with_reducible refine eq_bl ?_
  | with_reducible refine ne_bl ?_
  | with_reducible refine lt_int ?_
  | with_reducible refine gt_int ?_
  | with_reducible refine le_int ?_
  | with_reducible refine ge_int ?_
  | with_reducible refine lt_pos ?_
  | with_reducible refine gt_pos ?_
  | with_reducible refine le_pos ?_
  | with_reducible refine ge_pos ?_
  | with_reducible refine int_int ?_
  | with_reducible refine min_int ?_
  | with_reducible refine max_int ?_
  | with_reducible refine len_lst ?_
  | with_reducible refine len_tup ?_
  | ((with_reducible refine len_take ?_ ?_ ?_); (focus (first | assumption | omega)); (focus (first | assumption | omega)))
  | ((with_reducible refine len_str ?_ ?_); (focus (first | assumption | omega)))
  | with_reducible refine tuple_lst ?_
  | with_reducible refine tuple_tup ?_
  | ((with_reducible refine sl_to ?_ ?_ ?_); (focus (first | assumption | omega)); (focus (first | assumption | omega)))
  | ((with_reducible refine sl_from ?_ ?_ ?_); (focus (first | assumption | omega)); (focus (first | assumption | omega)))
  | ((with_reducible refine sl_mid ?_ ?_ ?_ ?_); (focus (first | assumption | omega)); (focus (first | assumption | omega)); (focus (first | assumption | omega)))
  | with_reducible refine sl_lst ?_
  | with_reducible refine sl_tup ?_
  | ((with_reducible refine sl_str ?_ ?_); (focus (first | assumption | omega)))
  | with_reducible refine mt_nl ?_
  | with_reducible refine mt_countD ?_
  | with_reducible refine mt_rfindD ?_
  | ((with_reducible refine mt_splitnl ?_ ?_); (focus (first | assumption | omega)))
  | ((with_reducible refine mt_splitD ?_ ?_ ?_); (focus rfl); (focus (first | assumption | omega)))
  | ((with_reducible show Op _ (rIx _) (D.tup _) (D.int _) _); refine ix_tup (by decide) rfl ?_)
  | ((with_reducible show Op _ (rIx _) (D.lst _) (D.int _) _); refine ix_lst (n := 0) (by decide) rfl ?_)
  | ((with_reducible show Cb _ (rIsi _) [D.int _, D.ty _] _); first | refine isiI (r := true) (by decide +kernel) ?_ | refine isiI (r := false) (by decide +kernel) ?_)
  | ((with_reducible show Cb _ (rIsi _) [D.str _, D.ty _] _); first | refine isiS (r := true) (by decide +kernel) ?_ | refine isiS (r := false) (by decide +kernel) ?_)
  | ((with_reducible show Cb _ (rIsi _) [D.tup _, D.ty _] _); first | refine isiT (r := true) (by decide +kernel) ?_ | refine isiT (r := false) (by decide +kernel) ?_)
  | ((with_reducible show Wg _ _ (gTup _ _ _) _ _ _); refine wg_tup rfl rfl ?_)
  | ((with_reducible show Wgs _ _ gNil _ _ _); refine wgs_nil rfl ?_)
  | ((with_reducible show Wgs _ _ (gCons _ _) _ _ _); refine wgs_cons rfl ?_)
  | ((with_reducible show ∃ _, D.bl _ = D.bl _ ∧ _); refine ⟨_, rfl, ?_⟩)
  | ((with_reducible show ∃ _, D.int _ = D.int _ ∧ _); refine ⟨_, rfl, ?_⟩)
  | ((with_reducible show ∃ _, D.str _ = D.str _ ∧ _); refine ⟨_, rfl, ?_⟩)
  | ((with_reducible show ∃ _, D.tup _ = D.tup _ ∧ _); refine ⟨_, rfl, ?_⟩)
  | ((with_reducible show ∃ _, D.lst _ = D.lst _ ∧ _); refine ⟨_, rfl, ?_⟩)
  | with_reducible refine iteNT ?_
  | with_reducible refine iteNF ?_
  | ((with_reducible show if true = true then _ else _); rw [if_pos rfl])
  | ((with_reducible show if false = true then _ else _); rw [if_neg Bool.false_ne_true])
  | ((with_reducible show List.length _ ≤ 1000000 ∧ _); refine ⟨?_, ?_⟩; (focus (simp; done)))
  | fail "no step")
local macro_rules | `(tactic| walk_at "w") => `(tactic| repeat (walk_at "w1"))
local macro_rules | `(tactic| walk_at "ws") => `(tactic| repeat ((fail_if_success (with_reducible show We _ _ (tChain _ _ _ _ _) _ _ _)); (fail_if_success (with_reducible show Wt _ _ (tAnd _ _) _ _ _)); (fail_if_success (with_reducible show We _ _ (tOrT _ _ _) _ _ _)); walk_at "w1"))
local macro_rules | `(tactic| walk_at "wm") => `(tactic| repeat ((fail_if_success (with_reducible show Ws _ _ (tAsg (tLst _) _) _ _ _)); walk_at "w1"))
theorem iteTr {A B : Prop} {c : Bool} (hc : c = true) (h : A) : if c = true then A else B := by rw [if_pos hc]; exact h
theorem pds_is : ∀ xs : List Int, pds (xs.map D.int) = some (xs.map PyData.int)
  | [] => rfl
  | x :: xs => by simp only [List.map_cons, pds, pd, pds_is xs]; rfl
theorem ne_ints {xs : List Int} {P : D → Prop} (h : P (.bl (decide (xs.length ≠ 0)))) : Op K (rNeP K) (.lst (xs.map .int)) (.lst []) P := by
  refine neP (d := .list (xs.map .int)) (e := .list []) (by simp only [pd, pds_is]; rfl) rfl (by simp only [PyData.plain, plain_is xs]) rfl (by have := depth_is xs; simp only [PyData.depth]; omega) ?_
  have ev : (!PyData.eqv (.list (xs.map PyData.int)) (.list [])) = decide (xs.length ≠ 0) := by
    cases xs <;> simp [PyData.eqv, PyData.eqvAll]
  rw [ev]; exact h
theorem enumD_gett {xs : List D} {i : Nat} {x : D} (h : (enumD xs)[i]? = some x) : ∃ y, xs[i]? = some y ∧ x = .tup [.int (i : Nat), y] := by
  have hl := (List.getElem?_eq_some_iff.mp h).1
  rw [enumD_len] at hl
  have e := enumD_get (List.getElem?_eq_getElem hl)
  rw [h] at e
  exact ⟨_, List.getElem?_eq_getElem hl, Option.some.inj e⟩
theorem cut_map (cs : List Int) (k : Nat) (h : k ≤ cs.length) : cutD (cs.map D.int) (some (k : Int)) none = (cs.drop k).map D.int ∧ cutD (cs.map D.int) none (some (k : Int)) = (cs.take k).map D.int := by
  constructor
  · unfold cutD
    rw [HT.sIx_nat, HT.sIx_none, List.length_map, Nat.min_eq_left h, ← List.map_drop]
    exact List.take_of_length_le (by rw [List.length_map, List.length_drop]; exact Nat.le_refl _)
  · unfold cutD
    rw [HT.sIx_nat, HT.sIx_none, List.length_map, Nat.min_eq_left h, Nat.sub_zero, List.drop_zero, List.map_take]
theorem len__law_next : ∀ ds n P X, R__law_next A ds n P X → ds.length = 2 := by rintro ds n P X ⟨_, _, rfl, -⟩; rfl
theorem w__law_next (T : TxtC K A) : ∀ Z ds n P, R__law_next A ds n P Z.X → Ws K Z (t__law_next K A) (startD 7 ds) n {nx := fun _ m => P .non m, rt := P} := by
  rintro Z ds n P ⟨a, t, rfl, h0, h1, h2, h⟩
  unfold t__law_next
  walk_at "w"
  refine ws_cAt rfl ?_
  walk_at "w"
  refine we_cAt rfl fun c c0 cn => ?_
  walk_at "w"
  refine ⟨by omega, by omega, ?_⟩
  walk_at "w"
  refine we_cLeft rfl fun x x0 => ?_
  walk_at "w"
  refine iteD (fun q => ?_) (fun q => ?_)
  · walk_at "w"
    refine we_cLeft rfl fun y y0 => ?_
    walk_at "w"
    refine ws_cLeft rfl ?_
    walk_at "w"
    refine we_cLeft rfl fun z z0 => ?_
    walk_at "w"
    refine ⟨Int.ediv_nonneg z0 (by omega), ?_⟩
    walk_at "w"
    exact h _ (Int.emod_nonneg _ (by omega)) (Int.emod_lt_of_pos _ h0)
  · refine ws_next ?_
    walk_at "w"
    refine we_cAt rfl fun c c0 cn => ?_
    walk_at "w"
    refine we_cCells rfl fun cs hne hcs => ?_
    walk_at "w"
    have hl : 0 < cs.length := List.length_pos_iff.mpr hne
    refine ⟨_, _, rfl, ?_⟩
    walk_at "w"
    refine mod_int (by rw [List.length_map]; omega) ?_
    rw [List.length_map]
    have s0 := Int.emod_nonneg c (show (cs.length : Int) ≠ 0 by omega)
    have s1 := Int.emod_lt_of_pos c (show 0 < (cs.length : Int) by omega)
    generalize c % (cs.length : Int) = s at *
    have hi : s.toNat < cs.length := by omega
    refine ix_lst (n := 0) (d := .int cs[s.toNat]) s0 (by rw [List.getElem?_map, List.getElem?_eq_getElem hi]; rfl) ?_
    walk_at "w"
    have cc : c * c ≤ 1000001 * 1000001 := Int.mul_le_mul (by omega) (by omega) c0 (by decide)
    have cp : 0 ≤ c * c := Int.mul_nonneg c0 c0
    rw [show (7907 * c * c : Int) = 7907 * (c * c) from Int.mul_assoc ..]
    generalize c * c = q at *
    have hm := Int.emod_lt_of_pos cs[s.toNat] (show (0 : Int) < 2147483629 by decide)
    have hm0 := Int.emod_nonneg cs[s.toNat] (show (2147483629 : Int) ≠ 0 by decide)
    refine pow_int ⟨by decide, by decide, by omega⟩ ?_
    walk_at "w"
    exact h _ (Int.emod_nonneg _ (by omega)) (Int.emod_lt_of_pos _ h0)
theorem streams_tail {n : Nat} {P : D → Nat → Prop} {ns cs : List Int} (hn : 600 ≤ n) (hne : cs ≠ []) (hl : cs.length ≤ 63) (h : ∀ ps : List Addr, P (.lst (ps.map fun a => .strm a .cells)) n) :
    Ws K Z (tSeq (tAsg (tLst tNil) (gName 2))
    (tSeq (tFor (iEnum K (tCons (tSl (rSlU K) (tVar 1) tNoPart (tPart (tC (.int 6)))) tNil)) (gTup K 2 (gCons (gName 3) (gCons (gName 4) gNil))) (tDrop (tBM K "list" rAppend (tVar 2) (tCons (tDisp [((tC (.str (PySem.Str.ofString "cells"))), (tOp (rAddU K) (tSl (rSlU K) (tVar 1) (tPart (tVar 3)) tNoPart) (tSl (rSlU K) (tVar 1) tNoPart (tPart (tVar 3))))), ((tC (.str (PySem.Str.ofString "at"))), (tOp (rI CMul fun i j => .int (i * j)) (tC (.int 89)) (tVar 3))), ((tC (.str (PySem.Str.ofString "left"))), (tIf (tTest (tOp (rGeP K) (tVar 4) (tOp (rI CPow fun i j => .int (i ^ j.toNat)) (tC (.int 10)) (tC (.int 18))))) (tVar 4) (tC (.int 0))))]) tNil))))
    (tRet (tVar 2)))) [some (.lst (ns.map .int)), some (.lst (cs.map .int)), none, none, none] n {nx := fun _ m => P .non m, rt := P} := by
  refine ws_seq ?_
  refine ws_newlist (wa_nil ⟨by decide, ?_⟩)
  refine ws_seq ?_
  refine ws_for (wi_enum ?_)
  walk_at "w"
  refine ⟨_, rfl, fun i ds' k => k = n ∧ ∃ (ps : List Addr) (a b : Option D), ps.length = i ∧ ds' = [some (.lst (ns.map .int)), some (.lst (cs.map .int)), some (.mls (ps.map fun a => .strm a .cells)), a, b], ⟨rfl, [], _, _, rfl, rfl⟩, ?_, ?_⟩
  · rintro i z ds' k hz ⟨rfl, ps, a, b, rfl, rfl⟩
    obtain ⟨y, hy, rfl⟩ := enumD_gett hz
    have h6 : cutD (List.map D.int cs) none (some 6) = ((cs.take (min 6 cs.length)).map D.int) := by
      have e := (cut_map cs (min 6 cs.length) (Nat.min_le_right _ _)).2
      rw [← e]
      unfold cutD
      rw [show (some 6 : Option Int) = some ((6 : Nat) : Int) from rfl, HT.sIx_nat, HT.sIx_nat, HT.sIx_none, List.length_map, Nat.min_eq_left (Nat.min_le_right 6 cs.length)]
    rw [h6, List.getElem?_map] at hy
    obtain ⟨v, hv, rfl⟩ := Option.map_eq_some_iff.mp hy
    have hi := (List.getElem?_eq_some_iff.mp hv).1
    rw [List.length_take] at hi
    have hk : ps.length < cs.length := by omega
    walk_at "w"
    refine ws_append rfl (by rw [List.length_map]; omega) ?_
    refine we_cNew ?_
    walk_at "w"
    obtain ⟨c1, c2⟩ := cut_map cs ps.length (by omega)
    rw [c1, c2]
    refine add_lst (by rw [List.length_map, List.length_map, List.length_drop, List.length_take]; omega) ?_
    walk_at "w"
    have key : ∀ w : Int, 0 ≤ w → ∃ (zs : List Int) (c x : Int), D.lst ((cs.drop ps.length).map D.int ++ (cs.take ps.length).map D.int) = .lst (zs.map .int) ∧ D.int (89 * (ps.length : Nat)) = .int c ∧ D.int w = .int x ∧ zs ≠ [] ∧ zs.length ≤ 1000 ∧ 0 ≤ c ∧ c ≤ (k : Nat) ∧ 0 ≤ x := fun w w0 =>
      ⟨cs.drop ps.length ++ cs.take ps.length, _, _, by rw [List.map_append], rfl, rfl, fun e => by
        have := congrArg List.length e
        rw [List.length_append, List.length_drop, List.length_take] at this
        simp at this
        omega, by rw [List.length_append, List.length_drop, List.length_take]; omega, by omega, by omega, w0⟩
    have fin : ∀ w : Int, 0 ≤ w → _ := key
    refine iteD (fun q => ?_) (fun q => ?_)
    · walk_at "w"
      obtain ⟨zs, c, x, e1, e2, e3, f1, f2, f3, f4, f5⟩ := key v (Int.le_trans (by decide) q)
      exact ⟨zs, c, x, e1, e2, e3, f1, f2, f3, f4, f5, fun p => ⟨rfl, ps ++ [p], some (.int (ps.length : Nat)), some (.int v), by simp, by simp⟩⟩
    · walk_at "w"
      obtain ⟨zs, c, x, e1, e2, e3, f1, f2, f3, f4, f5⟩ := key 0 (Int.le_refl _)
      exact ⟨zs, c, x, e1, e2, e3, f1, f2, f3, f4, f5, fun p => ⟨rfl, ps ++ [p], some (.int (ps.length : Nat)), some (.int v), by simp, by simp⟩⟩
  · rintro ds' k ⟨rfl, ps, a, b, hps, rfl⟩
    refine ws_settle (i := 2) rfl ?_
    walk_at "w"
    exact h ps
theorem len__law_streams : ∀ ds n P X, R__law_streams A ds n P X → ds.length = 1 := by rintro ds n P X ⟨_, rfl, -⟩; rfl
theorem w__law_streams (T : TxtC K A) : ∀ Z ds n P, R__law_streams A ds n P Z.X → Ws K Z (t__law_streams K A) (startD 5 ds) n {nx := fun _ m => P .non m, rt := P} := by
  rintro Z ds n P ⟨ns, rfl, hn, h6, h⟩
  unfold t__law_streams
  refine ws_seq ?_
  walk_at "w"
  refine ne_ints ?_
  walk_at "w"
  refine iteD (fun q => ?_) (fun q => ?_)
  · walk_at "w1"
    walk_at "w1"
    refine we_var rfl rfl ?_
    refine wa_nil ?_
    refine list_lst (wg_name ?_)
    exact streams_tail (cs := ns) h6 (fun e => q (by rw [e]; rfl)) hn h
  · walk_at "w1"
    refine wa_cons (we_int (wa_nil ⟨by decide, wg_name ?_⟩))
    exact streams_tail (cs := [0]) h6 (by simp) (by decide) h
end
end Lw

namespace Lw
open PySem L2 StX DL
section
variable {K : PySem.W.Frag} [Tb K] {Z : ZX} {A : Ad}
/-- one step -/
local macro_rules | `(tactic| walk_at "w1") => `(tactic| first
  | with_reducible refine ws_seq ?_
  | with_reducible refine ws_if ?_
  | with_reducible refine ws_ret ?_
  | ((fail_if_success (with_reducible show Ws _ _ (tDrop (tBM _ _ _ _ _)) _ _ _)); (with_reducible refine ws_drop ?_))
  | with_reducible refine ws_next ?_
  | with_reducible refine ws_par ?_
  | ((fail_if_success (with_reducible show Ws _ _ (tAsg _ (gSub _ _ _)) _ _ _)); (with_reducible refine ws_asg ?_))
  | with_reducible refine wg_name ?_
  | with_reducible refine we_int ?_
  | with_reducible refine we_bl ?_
  | with_reducible refine we_non ?_
  | with_reducible refine we_str ?_
  | with_reducible refine we_ty ?_
  | with_reducible refine we_cls ?_
  | with_reducible refine ws_par3 ?_
  | ((with_reducible show We _ _ (tVar _) _ _ _); refine we_var rfl rfl ?_)
  | ((with_reducible show We _ _ (tVar _) _ _ _); refine we_var rfl (mut_oP _) ?_)
  | with_reducible refine we_rep ?_
  | with_reducible refine we_op ?_
  | with_reducible refine we_un ?_
  | with_reducible refine we_cb ?_
  | with_reducible refine we_callX ?_
  | with_reducible refine we_call ?_
  | with_reducible refine we_callNX ?_
  | with_reducible refine we_callN ?_
  | with_reducible refine we_methN ?_
  | with_reducible refine we_callON ?_
  | with_reducible refine we_callOX ?_
  | with_reducible refine we_exf ?_
  | with_reducible refine we_dnew ?_
  | with_reducible refine ws_raise ?_
  | with_reducible refine we_tup ?_
  | with_reducible refine we_lst ?_
  | with_reducible refine we_sl ?_
  | with_reducible refine we_m1 ?_
  | with_reducible refine we_andV ?_
  | with_reducible refine we_orV ?_
  | with_reducible refine we_notV ?_
  | with_reducible refine we_if ?_
  | with_reducible refine we_chain ?_
  | with_reducible refine we_fld ?_
  | with_reducible refine we_methX ?_
  | with_reducible refine we_meth ?_
  | with_reducible refine we_prop ?_
  | with_reducible refine we_callO' ?_
  | with_reducible refine we_makeX ?_
  | with_reducible refine we_make ?_
  | with_reducible refine wt_test ?_
  | with_reducible refine wt_B ?_
  | with_reducible refine wt_yes ?_
  | with_reducible refine wt_and ?_
  | with_reducible refine wt_or ?_
  | with_reducible refine wt_not ?_
  | with_reducible refine wa_nil ?_
  | with_reducible refine wa_cons ?_
  | with_reducible refine wo_none ?_
  | with_reducible refine wo_some ?_
  | with_reducible refine add_int ?_
  | with_reducible refine sub_int ?_
  | with_reducible refine neg_int ?_
  | ((with_reducible refine mod_int ?_ ?_); (focus (first | assumption | omega)))
  | ((with_reducible refine mul_int ?_ ?_); (focus (first | exact Or.inl ⟨by omega, by omega⟩ | exact Or.inr ⟨by omega, by omega⟩)))
  | ((with_reducible refine fdiv_int ?_ ?_); (focus (exact ⟨by omega, by omega⟩)))
  | ((with_reducible refine pow_int ?_ ?_); (focus (exact ⟨by decide, by decide, by decide⟩)))
  | with_reducible refine is_non ?_
  | with_reducible refine not_non ?_
  | with_reducible refine eq_int ?_
  | with_reducible refine ne_int ?_
  | with_reducible refine eq_pos ?_
  | with_reducible refine ne_pos ?_
  | with_reducible refine ne_oPs ?_
  | with_reducible refine ne_nn ?_
  | with_reducible refine ne_np ?_
  | with_reducible refine ne_pn ?_
  | with_reducible refine eq_str ?_
  | with_reducible refine ne_str ?_
  | with_reducible refine eq_bl ?_
  | with_reducible refine ne_bl ?_
  | with_reducible refine lt_int ?_
  | with_reducible refine gt_int ?_
  | with_reducible refine le_int ?_
  | with_reducible refine ge_int ?_
  | with_reducible refine lt_pos ?_
  | with_reducible refine gt_pos ?_
  | with_reducible refine le_pos ?_
  | with_reducible refine ge_pos ?_
  | with_reducible refine int_int ?_
  | with_reducible refine min_int ?_
  | with_reducible refine max_int ?_
  | with_reducible refine len_lst ?_
  | with_reducible refine len_tup ?_
  | ((with_reducible refine len_take ?_ ?_ ?_); (focus (first | assumption | omega)); (focus (first | assumption | omega)))
  | ((with_reducible refine len_str ?_ ?_); (focus (first | assumption | omega)))
  | with_reducible refine tuple_lst ?_
  | with_reducible refine tuple_tup ?_
  | ((with_reducible refine sl_to ?_ ?_ ?_); (focus (first | assumption | omega)); (focus (first | assumption | omega)))
  | ((with_reducible refine sl_from ?_ ?_ ?_); (focus (first | assumption | omega)); (focus (first | assumption | omega)))
  | ((with_reducible refine sl_mid ?_ ?_ ?_ ?_); (focus (first | assumption | omega)); (focus (first | assumption | omega)); (focus (first | assumption | omega)))
  | with_reducible refine sl_lst ?_
  | with_reducible refine sl_tup ?_
  | ((with_reducible refine sl_str ?_ ?_); (focus (first | assumption | omega)))
  | with_reducible refine mt_nl ?_
  | with_reducible refine mt_countD ?_
  | with_reducible refine mt_rfindD ?_
  | ((with_reducible refine mt_splitnl ?_ ?_); (focus (first | assumption | omega)))
  | ((with_reducible refine mt_splitD ?_ ?_ ?_); (focus rfl); (focus (first | assumption | omega)))
  | ((with_reducible show Op _ (rIx _) (D.tup _) (D.int _) _); refine ix_tup (by decide) rfl ?_)
  | ((with_reducible show Op _ (rIx _) (D.lst _) (D.int _) _); refine ix_lst (n := 0) (by decide) rfl ?_)
  | ((with_reducible show Cb _ (rIsi _) [D.int _, D.ty _] _); first | refine isiI (r := true) (by decide +kernel) ?_ | refine isiI (r := false) (by decide +kernel) ?_)
  | ((with_reducible show Cb _ (rIsi _) [D.str _, D.ty _] _); first | refine isiS (r := true) (by decide +kernel) ?_ | refine isiS (r := false) (by decide +kernel) ?_)
  | ((with_reducible show Cb _ (rIsi _) [D.tup _, D.ty _] _); first | refine isiT (r := true) (by decide +kernel) ?_ | refine isiT (r := false) (by decide +kernel) ?_)
  | ((with_reducible show Wg _ _ (gTup _ _ _) _ _ _); refine wg_tup rfl rfl ?_)
  | ((with_reducible show Wgs _ _ gNil _ _ _); refine wgs_nil rfl ?_)
  | ((with_reducible show Wgs _ _ (gCons _ _) _ _ _); refine wgs_cons rfl ?_)
  | ((with_reducible show ∃ _, D.bl _ = D.bl _ ∧ _); refine ⟨_, rfl, ?_⟩)
  | ((with_reducible show ∃ _, D.int _ = D.int _ ∧ _); refine ⟨_, rfl, ?_⟩)
  | ((with_reducible show ∃ _, D.str _ = D.str _ ∧ _); refine ⟨_, rfl, ?_⟩)
  | ((with_reducible show ∃ _, D.tup _ = D.tup _ ∧ _); refine ⟨_, rfl, ?_⟩)
  | ((with_reducible show ∃ _, D.lst _ = D.lst _ ∧ _); refine ⟨_, rfl, ?_⟩)
  | with_reducible refine iteNT ?_
  | with_reducible refine iteNF ?_
  | ((with_reducible show if true = true then _ else _); rw [if_pos rfl])
  | ((with_reducible show if false = true then _ else _); rw [if_neg Bool.false_ne_true])
  | ((with_reducible show List.length _ ≤ 1000000 ∧ _); refine ⟨?_, ?_⟩; (focus (simp; done)))
  | fail "no step")
local macro_rules | `(tactic| walk_at "w") => `(tactic| repeat (walk_at "w1"))
local macro_rules | `(tactic| walk_at "ws") => `(tactic| repeat ((fail_if_success (with_reducible show We _ _ (tChain _ _ _ _ _) _ _ _)); (fail_if_success (with_reducible show Wt _ _ (tAnd _ _) _ _ _)); (fail_if_success (with_reducible show We _ _ (tOrT _ _ _) _ _ _)); walk_at "w1"))
local macro_rules | `(tactic| walk_at "wm") => `(tactic| repeat ((fail_if_success (with_reducible show Ws _ _ (tAsg (tLst _) _) _ _ _)); walk_at "w1"))
theorem lk_none {x : Str} {e : List (Key × D)} : List.lookup (Str.ofString "_code_of") [(Str.ofString "_signs", D.str x), (Str.ofString "_indexes", D.dct e)] = none := by
  simp only [List.lookup, show (Str.ofString "_code_of" == Str.ofString "_signs") = false from by decide +kernel, show (Str.ofString "_code_of" == Str.ofString "_indexes") = false from by decide +kernel]
theorem len_is_integer : ∀ ds n P X, R_is_integer A ds n P X → ds.length = 1 := by rintro ds n P X ⟨_, rfl, -⟩; rfl
theorem w_is_integer (T : TxtC K A) : ∀ Z ds n P, R_is_integer A ds n P Z.X → Ws K Z (t_is_integer K A) (startD 1 ds) n { nx := fun _ m => P .non m, rt := P } := by
  rintro Z ds n P ⟨i, rfl, h⟩
  unfold t_is_integer
  walk_at "w"
  exact h
theorem len_is_count : ∀ ds n P X, R_is_count A ds n P X → ds.length = 1 := by rintro ds n P X ⟨_, rfl, -⟩; rfl
theorem w_is_count (T : TxtC K A) : ∀ Z ds n P, R_is_count A ds n P Z.X → Ws K Z (t_is_count K A) (startD 1 ds) n { nx := fun _ m => P .non m, rt := P } := by
  rintro Z ds n P ⟨i, rfl, h⟩
  unfold t_is_count
  walk_at "w"
  exact ⟨i, rfl, by walk_at "w"; exact h⟩
theorem len_is_up_to : ∀ ds n P X, R_is_up_to A ds n P X → ds.length = 2 := by rintro ds n P X ⟨_, _, rfl, -⟩; rfl
theorem w_is_up_to (T : TxtC K A) : ∀ Z ds n P, R_is_up_to A ds n P Z.X → Ws K Z (t_is_up_to K A) (startD 2 ds) n { nx := fun _ m => P .non m, rt := P } := by
  rintro Z ds n P ⟨i, l, rfl, h⟩
  unfold t_is_up_to
  walk_at "w"
  refine ⟨_, rfl, ?_⟩
  walk_at "w"
  refine iteD (fun z => ?_) (fun z => ?_)
  · walk_at "w"
    rw [show isNonD (D.int l) = false from rfl]
    walk_at "w"
    rw [decide_eq_true z, Bool.true_and] at h
    exact h
  · walk_at "w"
    rw [decide_eq_false z, Bool.false_and] at h
    first | exact h | (rw [decide_eq_false z]; exact h)
theorem len_check_up_to : ∀ ds n P X, R_check_up_to A ds n P X → ds.length = 2 := by rintro ds n P X ⟨_, _, rfl, -⟩; rfl
theorem w_check_up_to (T : TxtC K A) : ∀ Z ds n P, R_check_up_to A ds n P Z.X → Ws K Z (t_check_up_to K A) (startD 2 ds) n { nx := fun _ m => P .non m, rt := P } := by
  rintro Z ds n P ⟨i, l, rfl, h0, h1, h⟩
  unfold t_check_up_to
  walk_at "w"
  refine ⟨_, _, rfl, ?_⟩
  rw [decide_eq_true h0, decide_eq_true h1, show (true && true) = true from rfl]
  walk_at "w"
  exact h
theorem len__law_folded : ∀ ds n P X, R__law_folded A ds n P X → ds.length = 1 := by rintro ds n P X ⟨_, rfl, -⟩; rfl
theorem w__law_folded (T : TxtC K A) : ∀ Z ds n P, R__law_folded A ds n P Z.X → Ws K Z (t__law_folded K A) (startD 1 ds) n { nx := fun _ m => P .non m, rt := P } := by
  rintro Z ds n P ⟨i, rfl, h0, h1, h⟩
  unfold t__law_folded
  walk_at "w"
  unfold fo at h
  refine iteD (fun z => ?_) (fun z => ?_)
  · rw [if_pos z] at h
    walk_at "w"
    exact h
  · rw [if_neg z] at h
    walk_at "w"
    exact h
theorem len_folded : ∀ ds n P X, R_folded A ds n P X → ds.length = 1 := by rintro ds n P X ⟨_, rfl, -⟩; rfl
theorem w_folded (T : TxtC K A) : ∀ Z ds n P, R_folded A ds n P Z.X → Ws K Z (t_folded K A) (startD 1 ds) n { nx := fun _ m => P .non m, rt := P } := by
  rintro Z ds n P ⟨i, rfl, h0, h1, h⟩
  unfold t_folded
  walk_at "w"
  refine ⟨_, rfl, ?_⟩
  walk_at "w"
  refine iteD (fun z => ?_) (fun z => absurd h0 z)
  walk_at "w"
  rw [decide_eq_true h1]
  walk_at "w"
  unfold fo at h
  refine iteD (fun z => ?_) (fun z => ?_)
  · rw [if_pos z] at h
    walk_at "w"
    exact h
  · rw [if_neg z] at h
    walk_at "w"
    exact h
theorem len_unfolded : ∀ ds n P X, R_unfolded A ds n P X → ds.length = 1 := by rintro ds n P X ⟨_, rfl, -⟩; rfl
theorem w_unfolded (T : TxtC K A) : ∀ Z ds n P, R_unfolded A ds n P Z.X → Ws K Z (t_unfolded K A) (startD 2 ds) n { nx := fun _ m => P .non m, rt := P } := by
  rintro Z ds n P ⟨i, rfl, h0, h1, h⟩
  unfold t_unfolded
  walk_at "w"
  refine ⟨_, _, rfl, h0, h1, ?_⟩
  walk_at "w"
  unfold un at h
  refine iteD (fun z => ?_) (fun z => ?_)
  · rw [if_pos z] at h
    walk_at "w"
    exact h
  · rw [if_neg z] at h
    walk_at "w"
    exact h
theorem len__law_free : ∀ ds n P X, R__law_free A ds n P X → ds.length = 0 := by rintro ds n P X ⟨rfl, -⟩; rfl
theorem w__law_free (T : TxtC K A) : ∀ Z ds n P, R__law_free A ds n P Z.X → Ws K Z (t__law_free K A) (startD 1 ds) n { nx := fun _ m => P .non m, rt := P } := by
  rintro Z ds n P ⟨rfl, h⟩
  unfold t__law_free
  walk_at "w"
  refine add_str (by decide +kernel) ?_
  rw [show (Str.ofString " !\"#$&()*+-/0123456789:<=?@ABCDEFGHIJKLMNOPQRSTUVWXYZ" ++ Str.ofString "[\\]^_`abcdefghijklmnopqrstuvwxyz{|}~" : Str) = fre from by decide +kernel]
  exact h
theorem len_Alphabet_call : ∀ ds n P X, R_Alphabet_call A ds n P X → ds.length = 2 := by rintro ds n P X ⟨_, _, _, rfl, -⟩; rfl
theorem w_Alphabet_call (T : TxtC K A) : ∀ Z ds n P, R_Alphabet_call A ds n P Z.X → Ws K Z (t_Alphabet_call K A) (startD 2 ds) n { nx := fun _ m => P .non m, rt := P } := by
  rintro Z ds n P ⟨x, e, k, rfl, h0, h1, h⟩
  unfold t_Alphabet_call
  walk_at "w"
  refine ⟨_, rfl, lk_none, ?_⟩
  walk_at "w"
  exact ⟨_, _, _, rfl, h0, h1, h⟩
theorem len_Alphabet_signed : ∀ ds n P X, R_Alphabet_signed A ds n P X → ds.length = 2 := by rintro ds n P X ⟨_, _, _, rfl, -⟩; rfl
theorem fo_nat {i : Int} (h0 : -1000000000 < i) (h1 : i ≤ 1000000000) : fo i = ((fo i).toNat : Nat) ∧ (fo i).toNat ≤ 2000000000 := by
  unfold fo
  split <;> omega
theorem w_Alphabet_signed (T : TxtC K A) : ∀ Z ds n P, R_Alphabet_signed A ds n P Z.X → Ws K Z (t_Alphabet_signed K A) (startD 2 ds) n { nx := fun _ m => P .non m, rt := P } := by
  rintro Z ds n P ⟨x, e, i, rfl, h0, h1, h2, h⟩
  unfold t_Alphabet_signed
  obtain ⟨e1, e2⟩ := fo_nat h1 h2
  walk_at "w"
  refine ⟨_, rfl, lk_none, ?_⟩
  walk_at "w"
  refine ⟨_, rfl, by omega, h2, ?_⟩
  rw [e1]
  walk_at "w"
  exact ⟨_, _, _, rfl, h0, e2, h⟩
end
end Lw

namespace Lw
open PySem L2 StX DL

theorem up_eq (s : List Nat) (r : Nat) (acc : List Nat) : up s r acc = if r = 0 then acc else up s (r / 32) (s.getD (32 + r % 32) 0 :: acc) := by
  rw [up]
  by_cases h : r = 0
  · rw [dif_pos h, if_pos h]
  · rw [dif_neg h, if_neg h]
theorem up_ge (s : List Nat) (r : Nat) : ∀ acc, acc.length ≤ (up s r acc).length := by
  induction r using Nat.strongRecOn with
  | _ r ih =>
    intro acc
    rw [up_eq]
    split
    · exact Nat.le_refl _
    · rename_i h
      exact Nat.le_trans (by simp) (ih (r / 32) (Nat.div_lt_self (Nat.pos_of_ne_zero h) (by decide)) _)
theorem up_le (s : List Nat) : ∀ (d r : Nat) (acc : List Nat), r < 32 ^ d → (up s r acc).length ≤ acc.length + d
  | 0, r, acc, h => by
    have : r = 0 := by simpa using h
    rw [up_eq, if_pos this]
    exact Nat.le_refl _
  | d + 1, r, acc, h => by
    rw [up_eq]
    split
    · omega
    · have := up_le s d (r / 32) (s.getD (32 + r % 32) 0 :: acc) (Nat.div_lt_of_lt_mul (by rw [Nat.pow_succ, Nat.mul_comm] at h; exact h))
      rw [List.length_cons] at this
      omega
theorem up_mono (s : List Nat) (r : Nat) : ∀ (r' : Nat) (acc acc' : List Nat), r ≤ r' → acc.length ≤ acc'.length → (up s r acc).length ≤ (up s r' acc').length := by
  induction r using Nat.strongRecOn with
  | _ r ih =>
    intro r' acc acc' h h2
    by_cases z : r = 0
    · rw [up_eq s r, if_pos z]
      exact Nat.le_trans h2 (up_ge s r' acc')
    · rw [up_eq s r, up_eq s r', if_neg z, if_neg (by omega)]
      exact ih (r / 32) (Nat.div_lt_self (Nat.pos_of_ne_zero z) (by decide)) (r' / 32) _ _ (Nat.div_le_div_right h) (by simpa using h2)
theorem cd_mono (x : Str) {k k' : Nat} (h : k ≤ k') : (cdO x k).length ≤ (cdO x k').length := by
  unfold cdO
  rw [mk_len, mk_len]
  exact up_mono _ _ _ _ _ (Nat.div_le_div_right h) (by simp)
theorem cons_mk (a : Nat) (acc : List Nat) : (⟨#[a]⟩ : Str) ++ mk acc = mk (a :: acc) := by
  rw [← mk_tl ((⟨#[a]⟩ : Str) ++ mk acc), tl_app]; rfl
section
variable {K : PySem.W.Frag} [Tb K] {Z : ZX} {A : Ad}
/-- one step -/
local macro_rules | `(tactic| walk_at "w1") => `(tactic| first
  | with_reducible refine ws_seq ?_
  | with_reducible refine ws_if ?_
  | with_reducible refine ws_ret ?_
  | ((fail_if_success (with_reducible show Ws _ _ (tDrop (tBM _ _ _ _ _)) _ _ _)); (with_reducible refine ws_drop ?_))
  | with_reducible refine ws_next ?_
  | with_reducible refine ws_par ?_
  | ((fail_if_success (with_reducible show Ws _ _ (tAsg _ (gSub _ _ _)) _ _ _)); (with_reducible refine ws_asg ?_))
  | with_reducible refine wg_name ?_
  | with_reducible refine we_int ?_
  | with_reducible refine we_bl ?_
  | with_reducible refine we_non ?_
  | with_reducible refine we_str ?_
  | with_reducible refine we_ty ?_
  | with_reducible refine we_cls ?_
  | with_reducible refine ws_par3 ?_
  | ((with_reducible show We _ _ (tVar _) _ _ _); refine we_var rfl rfl ?_)
  | ((with_reducible show We _ _ (tVar _) _ _ _); refine we_var rfl (mut_oP _) ?_)
  | with_reducible refine we_rep ?_
  | with_reducible refine we_op ?_
  | with_reducible refine we_un ?_
  | with_reducible refine we_cb ?_
  | with_reducible refine we_callX ?_
  | with_reducible refine we_call ?_
  | with_reducible refine we_callNX ?_
  | with_reducible refine we_callN ?_
  | with_reducible refine we_methN ?_
  | with_reducible refine we_callON ?_
  | with_reducible refine we_callOX ?_
  | with_reducible refine we_exf ?_
  | with_reducible refine we_dnew ?_
  | with_reducible refine ws_raise ?_
  | with_reducible refine we_tup ?_
  | with_reducible refine we_lst ?_
  | with_reducible refine we_sl ?_
  | with_reducible refine we_m1 ?_
  | with_reducible refine we_andV ?_
  | with_reducible refine we_orV ?_
  | with_reducible refine we_notV ?_
  | with_reducible refine we_if ?_
  | with_reducible refine we_chain ?_
  | with_reducible refine we_fld ?_
  | with_reducible refine we_methX ?_
  | with_reducible refine we_meth ?_
  | with_reducible refine we_prop ?_
  | with_reducible refine we_callO' ?_
  | with_reducible refine we_makeX ?_
  | with_reducible refine we_make ?_
  | with_reducible refine wt_test ?_
  | with_reducible refine wt_B ?_
  | with_reducible refine wt_yes ?_
  | with_reducible refine wt_and ?_
  | with_reducible refine wt_or ?_
  | with_reducible refine wt_not ?_
  | with_reducible refine wa_nil ?_
  | with_reducible refine wa_cons ?_
  | with_reducible refine wo_none ?_
  | with_reducible refine wo_some ?_
  | with_reducible refine add_int ?_
  | with_reducible refine sub_int ?_
  | with_reducible refine neg_int ?_
  | ((with_reducible refine mod_int ?_ ?_); (focus (first | assumption | omega)))
  | ((with_reducible refine mul_int ?_ ?_); (focus (first | exact Or.inl ⟨by omega, by omega⟩ | exact Or.inr ⟨by omega, by omega⟩)))
  | ((with_reducible refine fdiv_int ?_ ?_); (focus (exact ⟨by omega, by omega⟩)))
  | ((with_reducible refine pow_int ?_ ?_); (focus (exact ⟨by decide, by decide, by decide⟩)))
  | with_reducible refine is_non ?_
  | with_reducible refine not_non ?_
  | with_reducible refine eq_int ?_
  | with_reducible refine ne_int ?_
  | with_reducible refine eq_pos ?_
  | with_reducible refine ne_pos ?_
  | with_reducible refine ne_oPs ?_
  | with_reducible refine ne_nn ?_
  | with_reducible refine ne_np ?_
  | with_reducible refine ne_pn ?_
  | with_reducible refine eq_str ?_
  | with_reducible refine ne_str ?_
  | with_reducible refine eq_bl ?_
  | with_reducible refine ne_bl ?_
  | with_reducible refine lt_int ?_
  | with_reducible refine gt_int ?_
  | with_reducible refine le_int ?_
  | with_reducible refine ge_int ?_
  | with_reducible refine lt_pos ?_
  | with_reducible refine gt_pos ?_
  | with_reducible refine le_pos ?_
  | with_reducible refine ge_pos ?_
  | with_reducible refine int_int ?_
  | with_reducible refine min_int ?_
  | with_reducible refine max_int ?_
  | with_reducible refine len_lst ?_
  | with_reducible refine len_tup ?_
  | ((with_reducible refine len_take ?_ ?_ ?_); (focus (first | assumption | omega)); (focus (first | assumption | omega)))
  | ((with_reducible refine len_str ?_ ?_); (focus (first | assumption | omega)))
  | with_reducible refine tuple_lst ?_
  | with_reducible refine tuple_tup ?_
  | ((with_reducible refine sl_to ?_ ?_ ?_); (focus (first | assumption | omega)); (focus (first | assumption | omega)))
  | ((with_reducible refine sl_from ?_ ?_ ?_); (focus (first | assumption | omega)); (focus (first | assumption | omega)))
  | ((with_reducible refine sl_mid ?_ ?_ ?_ ?_); (focus (first | assumption | omega)); (focus (first | assumption | omega)); (focus (first | assumption | omega)))
  | with_reducible refine sl_lst ?_
  | with_reducible refine sl_tup ?_
  | ((with_reducible refine sl_str ?_ ?_); (focus (first | assumption | omega)))
  | with_reducible refine mt_nl ?_
  | with_reducible refine mt_countD ?_
  | with_reducible refine mt_rfindD ?_
  | ((with_reducible refine mt_splitnl ?_ ?_); (focus (first | assumption | omega)))
  | ((with_reducible refine mt_splitD ?_ ?_ ?_); (focus rfl); (focus (first | assumption | omega)))
  | ((with_reducible show Op _ (rIx _) (D.tup _) (D.int _) _); refine ix_tup (by decide) rfl ?_)
  | ((with_reducible show Op _ (rIx _) (D.lst _) (D.int _) _); refine ix_lst (n := 0) (by decide) rfl ?_)
  | ((with_reducible show Cb _ (rIsi _) [D.int _, D.ty _] _); first | refine isiI (r := true) (by decide +kernel) ?_ | refine isiI (r := false) (by decide +kernel) ?_)
  | ((with_reducible show Cb _ (rIsi _) [D.str _, D.ty _] _); first | refine isiS (r := true) (by decide +kernel) ?_ | refine isiS (r := false) (by decide +kernel) ?_)
  | ((with_reducible show Cb _ (rIsi _) [D.tup _, D.ty _] _); first | refine isiT (r := true) (by decide +kernel) ?_ | refine isiT (r := false) (by decide +kernel) ?_)
  | ((with_reducible show Wg _ _ (gTup _ _ _) _ _ _); refine wg_tup rfl rfl ?_)
  | ((with_reducible show Wgs _ _ gNil _ _ _); refine wgs_nil rfl ?_)
  | ((with_reducible show Wgs _ _ (gCons _ _) _ _ _); refine wgs_cons rfl ?_)
  | ((with_reducible show ∃ _, D.bl _ = D.bl _ ∧ _); refine ⟨_, rfl, ?_⟩)
  | ((with_reducible show ∃ _, D.int _ = D.int _ ∧ _); refine ⟨_, rfl, ?_⟩)
  | ((with_reducible show ∃ _, D.str _ = D.str _ ∧ _); refine ⟨_, rfl, ?_⟩)
  | ((with_reducible show ∃ _, D.tup _ = D.tup _ ∧ _); refine ⟨_, rfl, ?_⟩)
  | ((with_reducible show ∃ _, D.lst _ = D.lst _ ∧ _); refine ⟨_, rfl, ?_⟩)
  | with_reducible refine iteNT ?_
  | with_reducible refine iteNF ?_
  | ((with_reducible show if true = true then _ else _); rw [if_pos rfl])
  | ((with_reducible show if false = true then _ else _); rw [if_neg Bool.false_ne_true])
  | ((with_reducible show List.length _ ≤ 1000000 ∧ _); refine ⟨?_, ?_⟩; (focus (simp; done)))
  | fail "no step")
local macro_rules | `(tactic| walk_at "w") => `(tactic| repeat (walk_at "w1"))
local macro_rules | `(tactic| walk_at "ws") => `(tactic| repeat ((fail_if_success (with_reducible show We _ _ (tChain _ _ _ _ _) _ _ _)); (fail_if_success (with_reducible show Wt _ _ (tAnd _ _) _ _ _)); (fail_if_success (with_reducible show We _ _ (tOrT _ _ _) _ _ _)); walk_at "w1"))
local macro_rules | `(tactic| walk_at "wm") => `(tactic| repeat ((fail_if_success (with_reducible show Ws _ _ (tAsg (tLst _) _) _ _ _)); walk_at "w1"))

theorem ix_row {x : Str} {j : Nat} {P : D → Prop} (hx : okS x) (hj : j < 64) (h : P (.str (mk [(tl x).getD j 0]))) : Op K (rIx K) (.str x) (.int (j : Nat)) P := by
  have hl := hx.1
  have hl2 := len_tl x
  refine ix_str (c := (tl x).getD j 0) (by omega) (by omega) ?_ h
  rw [Int.toNat_natCast, List.getD_eq_getElem?_getD, List.getElem?_eq_getElem (show j < (tl x).length by omega)]
  rfl
theorem len__law_code : ∀ ds n P X, R__law_code A ds n P X → ds.length = 2 := by rintro ds n P X ⟨_, _, rfl, -⟩; rfl
theorem w__law_code (T : TxtC K A) : ∀ Z ds n P, R__law_code A ds n P Z.X → Ws K Z (t__law_code K A) (startD 4 ds) n { nx := fun _ m => P .non m, rt := P } := by
  rintro Z ds n P ⟨x, k, rfl, hx, hk, h⟩
  have hle : (up (tl x) (k / 32) [(tl x).getD (k % 32) 0]).length ≤ 8 := up_le _ 7 _ _ (by omega)
  unfold t__law_code
  walk_at "w"
  rw [show ((k : Nat) : Int) % 32 = ((k % 32 : Nat) : Int) by omega]
  refine ix_row hx (by omega) ?_
  walk_at "w"
  rw [show ((k : Nat) : Int) / 32 = ((k / 32 : Nat) : Int) by omega]
  refine ⟨_, _, rfl, ?_⟩
  walk_at "w"
  refine ws_while (fun m ds' j => j = n ∧ ∃ acc, up (tl x) m acc = up (tl x) (k / 32) [(tl x).getD (k % 32) 0] ∧ m ≤ 2000000000 ∧ ds' = [some (.str x), some (.int k), some (.str (mk acc)), some (.int (m : Nat))]) ⟨_, rfl, _, rfl, by omega, rfl⟩ ?_
  rintro m ds' j ⟨rfl, acc, he, hm, rfl⟩
  have hg := up_ge (tl x) m acc
  rw [he] at hg
  rw [up_eq] at he
  walk_at "w"
  refine iteD (fun z => ?_) (fun z => ?_)
  · rw [if_neg (by omega)] at he
    walk_at "w"
    rw [show (32 : Int) + ((m : Nat) : Int) % 32 = ((32 + m % 32 : Nat) : Int) by omega]
    refine ix_row hx (by omega) ?_
    walk_at "w"
    refine add_str (by rw [mk_len]; simp [Str.length]; omega) ?_
    rw [cons_mk]
    walk_at "w"
    rw [show ((m : Nat) : Int) / 32 = ((m / 32 : Nat) : Int) by omega]
    exact ⟨m / 32, by omega, rfl, _, he, by omega, rfl⟩
  · rw [if_pos (by omega)] at he
    walk_at "w"
    rw [he]
    exact h
theorem len_Alphabet_code_of : ∀ ds n P X, R_Alphabet_code_of A ds n P X → ds.length = 2 := by rintro ds n P X ⟨_, _, _, rfl, -⟩; rfl
theorem w_Alphabet_code_of (T : TxtC K A) : ∀ Z ds n P, R_Alphabet_code_of A ds n P Z.X → Ws K Z (t_Alphabet_code_of K A) (startD 4 ds) n { nx := fun _ m => P .non m, rt := P } := by
  rintro Z ds n P ⟨x, e, k, rfl, hx, hk, h⟩
  have hle : (up (tl x) (k / 32) [(tl x).getD (k % 32) 0]).length ≤ 8 := up_le _ 7 _ _ (by omega)
  unfold t_Alphabet_code_of
  walk_at "w"
  refine ⟨_, _, rfl, by omega, by omega, ?_⟩
  walk_at "w"
  refine ⟨_, _, _, rfl, T.cl_Alphabet, T.na_Alphabet__signs, rfl, ?_⟩
  walk_at "w"
  refine and31 ?_
  rw [show ((k : Nat) : Int) % 32 = ((k % 32 : Nat) : Int) by omega]
  refine ix_row hx (by omega) ?_
  walk_at "w"
  rw [show ((k : Nat) : Int) / 32 = ((k / 32 : Nat) : Int) by omega]
  refine ws_while (fun m ds' j => j = n ∧ ∃ acc, up (tl x) m acc = up (tl x) (k / 32) [(tl x).getD (k % 32) 0] ∧ m ≤ 2000000000 ∧ ds' = [some (alD A x e), some (.int k), some (.str (mk acc)), some (.int (m : Nat))]) ⟨_, rfl, _, rfl, by omega, rfl⟩ ?_
  rintro m ds' j ⟨rfl, acc, he, hm, rfl⟩
  have hg := up_ge (tl x) m acc
  rw [he] at hg
  rw [up_eq] at he
  walk_at "w"
  refine iteD (fun z => ?_) (fun z => ?_)
  · rw [if_neg (by omega)] at he
    walk_at "w"
    refine ⟨_, _, _, rfl, T.cl_Alphabet, T.na_Alphabet__signs, rfl, ?_⟩
    walk_at "w"
    refine and31 ?_
    walk_at "w"
    rw [show (32 : Int) + ((m : Nat) : Int) % 32 = ((32 + m % 32 : Nat) : Int) by omega]
    refine ix_row hx (by omega) ?_
    walk_at "w"
    refine add_str (by rw [mk_len]; simp [Str.length]; omega) ?_
    rw [cons_mk]
    walk_at "w"
    rw [show ((m : Nat) : Int) / 32 = ((m / 32 : Nat) : Int) by omega]
    exact ⟨m / 32, by omega, rfl, _, he, by omega, rfl⟩
  · rw [if_pos (by omega)] at he
    walk_at "w"
    rw [he]
    exact h
end
end Lw

namespace Lw
open PySem L2 StX DL

theorem std_ok : okS (Str.ofString "ABCDEFGHIJKLMNOPQRSTUVWXYZabcdefghijklmnopqrstuvwxyz" ++ Str.ofString "0123456789+/") := by
  unfold okS
  decide +kernel
theorem fre_ok : (tl fre).length = 89 ∧ (tl fre).Nodup ∧ ∀ c ∈ tl fre, 32 ≤ c ∧ c ≤ 126 ∧ noSign c = false := by decide +kernel
theorem prime89 : ∀ s : Fin 89, ∀ d : Fin 64, s.val ≠ 0 → d.val ≠ 0 → (s.val * d.val) % 89 ≠ 0 := by decide +kernel
theorem step_inj {f s i j : Nat} (hs0 : s ≠ 0) (hs : s < 89) (hij : i < j) (hj : j < 64) : (f + s * i) % 89 ≠ (f + s * j) % 89 := by
  intro e
  obtain ⟨d, rfl⟩ : ∃ d, j = i + d := ⟨j - i, by omega⟩
  refine prime89 ⟨s, hs⟩ ⟨d, by omega⟩ hs0 (by show d ≠ 0; omega) ?_
  rw [Nat.mul_add] at e
  show s * d % 89 = 0
  omega
theorem nodup_getD {l : List Nat} (h : l.Nodup) {a b : Nat} (ha : a < l.length) (hb : b < l.length) (e : l.getD a 0 = l.getD b 0) : a = b := by
  rw [List.getD_eq_getElem?_getD, List.getD_eq_getElem?_getD, List.getElem?_eq_getElem ha, List.getElem?_eq_getElem hb] at e
  exact (List.getElem_inj h).mp e
theorem flat1 : ∀ l : List Nat, ((l.map fun c => mk [c]).map tl).flatten = l
  | [] => rfl
  | c :: l => by simp only [List.map_cons, List.flatten_cons, flat1 l]; rfl
theorem sum1 : ∀ l : List Nat, ((l.map fun c => mk [c]).map (·.length)).sum = l.length
  | [] => rfl
  | c :: l => by
    simp only [List.map_cons, List.sum_cons, sum1 l, List.length_cons, mk_len, List.length_nil]; omega
/-- the row that a first sign and a step give -/
def rowOf (f s : Nat) : List Nat := (List.range 64).map fun i => (tl fre).getD ((f + s * i) % 89) 0
theorem row_ok {f s : Nat} (hs0 : s ≠ 0) (hs : s < 89) : okS (mk (rowOf f s)) := by
  obtain ⟨h1, h2, h3⟩ := fre_ok
  refine ⟨by rw [tl_mk]; simp [rowOf], ?_, ?_⟩
  · rw [tl_mk, rowOf, List.Nodup, List.pairwise_map]
    refine List.Pairwise.imp_of_mem ?_ (List.pairwise_lt_range (n := 64))
    intro i j hi hj hlt
    have hj2 := List.mem_range.mp hj
    have q := step_inj (f := f) hs0 hs hlt hj2
    exact fun e => q (nodup_getD h2 (by omega) (by omega) e)
  · intro c hc
    rw [tl_mk, rowOf] at hc
    obtain ⟨i, -, rfl⟩ := List.mem_map.mp hc
    have hl : (f + s * i) % 89 < (tl fre).length := by omega
    rw [List.getD_eq_getElem?_getD, List.getElem?_eq_getElem hl]
    exact h3 _ (List.getElem_mem hl)
section
variable {K : PySem.W.Frag} [Tb K] {Z : ZX} {A : Ad}
/-- one step -/
local macro_rules | `(tactic| walk_at "w1") => `(tactic| first
  | with_reducible refine ws_seq ?_
  | with_reducible refine ws_if ?_
  | with_reducible refine ws_ret ?_
  | ((fail_if_success (with_reducible show Ws _ _ (tDrop (tBM _ _ _ _ _)) _ _ _)); (with_reducible refine ws_drop ?_))
  | with_reducible refine ws_next ?_
  | with_reducible refine ws_par ?_
  | ((fail_if_success (with_reducible show Ws _ _ (tAsg _ (gSub _ _ _)) _ _ _)); (with_reducible refine ws_asg ?_))
  | with_reducible refine wg_name ?_
  | with_reducible refine we_int ?_
  | with_reducible refine we_bl ?_
  | with_reducible refine we_non ?_
  | with_reducible refine we_str ?_
  | with_reducible refine we_ty ?_
  | with_reducible refine we_cls ?_
  | with_reducible refine ws_par3 ?_
  | ((with_reducible show We _ _ (tVar _) _ _ _); refine we_var rfl rfl ?_)
  | ((with_reducible show We _ _ (tVar _) _ _ _); refine we_var rfl (mut_oP _) ?_)
  | with_reducible refine we_rep ?_
  | with_reducible refine we_op ?_
  | with_reducible refine we_un ?_
  | with_reducible refine we_cb ?_
  | with_reducible refine we_callX ?_
  | with_reducible refine we_call ?_
  | with_reducible refine we_callNX ?_
  | with_reducible refine we_callN ?_
  | with_reducible refine we_methN ?_
  | with_reducible refine we_callON ?_
  | with_reducible refine we_callOX ?_
  | with_reducible refine we_exf ?_
  | with_reducible refine we_dnew ?_
  | with_reducible refine ws_raise ?_
  | with_reducible refine we_tup ?_
  | with_reducible refine we_lst ?_
  | with_reducible refine we_sl ?_
  | with_reducible refine we_m1 ?_
  | with_reducible refine we_andV ?_
  | with_reducible refine we_orV ?_
  | with_reducible refine we_notV ?_
  | with_reducible refine we_if ?_
  | with_reducible refine we_chain ?_
  | with_reducible refine we_fld ?_
  | with_reducible refine we_methX ?_
  | with_reducible refine we_meth ?_
  | with_reducible refine we_prop ?_
  | with_reducible refine we_callO' ?_
  | with_reducible refine we_makeX ?_
  | with_reducible refine we_make ?_
  | with_reducible refine wt_test ?_
  | with_reducible refine wt_B ?_
  | with_reducible refine wt_yes ?_
  | with_reducible refine wt_and ?_
  | with_reducible refine wt_or ?_
  | with_reducible refine wt_not ?_
  | with_reducible refine wa_nil ?_
  | with_reducible refine wa_cons ?_
  | with_reducible refine wo_none ?_
  | with_reducible refine wo_some ?_
  | with_reducible refine add_int ?_
  | with_reducible refine sub_int ?_
  | with_reducible refine neg_int ?_
  | ((with_reducible refine mod_int ?_ ?_); (focus (first | assumption | omega)))
  | ((with_reducible refine mul_int ?_ ?_); (focus (first | exact Or.inl ⟨by omega, by omega⟩ | exact Or.inr ⟨by omega, by omega⟩)))
  | ((with_reducible refine fdiv_int ?_ ?_); (focus (exact ⟨by omega, by omega⟩)))
  | ((with_reducible refine pow_int ?_ ?_); (focus (exact ⟨by decide, by decide, by decide⟩)))
  | with_reducible refine is_non ?_
  | with_reducible refine not_non ?_
  | with_reducible refine eq_int ?_
  | with_reducible refine ne_int ?_
  | with_reducible refine eq_pos ?_
  | with_reducible refine ne_pos ?_
  | with_reducible refine ne_oPs ?_
  | with_reducible refine ne_nn ?_
  | with_reducible refine ne_np ?_
  | with_reducible refine ne_pn ?_
  | with_reducible refine eq_str ?_
  | with_reducible refine ne_str ?_
  | with_reducible refine eq_bl ?_
  | with_reducible refine ne_bl ?_
  | with_reducible refine lt_int ?_
  | with_reducible refine gt_int ?_
  | with_reducible refine le_int ?_
  | with_reducible refine ge_int ?_
  | with_reducible refine lt_pos ?_
  | with_reducible refine gt_pos ?_
  | with_reducible refine le_pos ?_
  | with_reducible refine ge_pos ?_
  | with_reducible refine int_int ?_
  | with_reducible refine min_int ?_
  | with_reducible refine max_int ?_
  | with_reducible refine len_lst ?_
  | with_reducible refine len_tup ?_
  | ((with_reducible refine len_take ?_ ?_ ?_); (focus (first | assumption | omega)); (focus (first | assumption | omega)))
  | ((with_reducible refine len_str ?_ ?_); (focus (first | assumption | omega)))
  | with_reducible refine tuple_lst ?_
  | with_reducible refine tuple_tup ?_
  | ((with_reducible refine sl_to ?_ ?_ ?_); (focus (first | assumption | omega)); (focus (first | assumption | omega)))
  | ((with_reducible refine sl_from ?_ ?_ ?_); (focus (first | assumption | omega)); (focus (first | assumption | omega)))
  | ((with_reducible refine sl_mid ?_ ?_ ?_ ?_); (focus (first | assumption | omega)); (focus (first | assumption | omega)); (focus (first | assumption | omega)))
  | with_reducible refine sl_lst ?_
  | with_reducible refine sl_tup ?_
  | ((with_reducible refine sl_str ?_ ?_); (focus (first | assumption | omega)))
  | with_reducible refine mt_nl ?_
  | with_reducible refine mt_countD ?_
  | with_reducible refine mt_rfindD ?_
  | ((with_reducible refine mt_splitnl ?_ ?_); (focus (first | assumption | omega)))
  | ((with_reducible refine mt_splitD ?_ ?_ ?_); (focus rfl); (focus (first | assumption | omega)))
  | ((with_reducible show Op _ (rIx _) (D.tup _) (D.int _) _); refine ix_tup (by decide) rfl ?_)
  | ((with_reducible show Op _ (rIx _) (D.lst _) (D.int _) _); refine ix_lst (n := 0) (by decide) rfl ?_)
  | ((with_reducible show Cb _ (rIsi _) [D.int _, D.ty _] _); first | refine isiI (r := true) (by decide +kernel) ?_ | refine isiI (r := false) (by decide +kernel) ?_)
  | ((with_reducible show Cb _ (rIsi _) [D.str _, D.ty _] _); first | refine isiS (r := true) (by decide +kernel) ?_ | refine isiS (r := false) (by decide +kernel) ?_)
  | ((with_reducible show Cb _ (rIsi _) [D.tup _, D.ty _] _); first | refine isiT (r := true) (by decide +kernel) ?_ | refine isiT (r := false) (by decide +kernel) ?_)
  | ((with_reducible show Wg _ _ (gTup _ _ _) _ _ _); refine wg_tup rfl rfl ?_)
  | ((with_reducible show Wgs _ _ gNil _ _ _); refine wgs_nil rfl ?_)
  | ((with_reducible show Wgs _ _ (gCons _ _) _ _ _); refine wgs_cons rfl ?_)
  | ((with_reducible show ∃ _, D.bl _ = D.bl _ ∧ _); refine ⟨_, rfl, ?_⟩)
  | ((with_reducible show ∃ _, D.int _ = D.int _ ∧ _); refine ⟨_, rfl, ?_⟩)
  | ((with_reducible show ∃ _, D.str _ = D.str _ ∧ _); refine ⟨_, rfl, ?_⟩)
  | ((with_reducible show ∃ _, D.tup _ = D.tup _ ∧ _); refine ⟨_, rfl, ?_⟩)
  | ((with_reducible show ∃ _, D.lst _ = D.lst _ ∧ _); refine ⟨_, rfl, ?_⟩)
  | with_reducible refine iteNT ?_
  | with_reducible refine iteNF ?_
  | ((with_reducible show if true = true then _ else _); rw [if_pos rfl])
  | ((with_reducible show if false = true then _ else _); rw [if_neg Bool.false_ne_true])
  | ((with_reducible show List.length _ ≤ 1000000 ∧ _); refine ⟨?_, ?_⟩; (focus (simp; done)))
  | fail "no step")
local macro_rules | `(tactic| walk_at "w") => `(tactic| repeat (walk_at "w1"))
local macro_rules | `(tactic| walk_at "ws") => `(tactic| repeat ((fail_if_success (with_reducible show We _ _ (tChain _ _ _ _ _) _ _ _)); (fail_if_success (with_reducible show Wt _ _ (tAnd _ _) _ _ _)); (fail_if_success (with_reducible show We _ _ (tOrT _ _ _) _ _ _)); walk_at "w1"))
local macro_rules | `(tactic| walk_at "wm") => `(tactic| repeat ((fail_if_success (with_reducible show Ws _ _ (tAsg (tLst _) _) _ _ _)); walk_at "w1"))

theorem lt1 (a b : Nat) : ([a] < [b]) ↔ a < b := by
  rw [List.cons_lt_cons_iff]; simp
theorem le_sg {z y : Str} {a b : Nat} {P : D → Prop} (hz : z = ⟨#[a]⟩) (hy : y = ⟨#[b]⟩) (h : P (.bl (decide (a ≤ b)))) : Op K (rLeP K) (.str z) (.str y) P := by
  subst hz hy
  refine leP (d := .str ⟨#[a]⟩) (e := .str ⟨#[b]⟩) rfl rfl rfl (by intro h; cases h) (Nat.zero_le 64) ?_
  rw [PySem.W.dataLt_str]
  rw [show (!decide ((⟨#[b]⟩ : Str).cps.toList < (⟨#[a]⟩ : Str).cps.toList)) = decide (a ≤ b) from by
    rw [show (decide ((⟨#[b]⟩ : Str).cps.toList < (⟨#[a]⟩ : Str).cps.toList)) = decide (b < a) from by rw [decide_eq_decide]; exact lt1 b a]
    by_cases q : a ≤ b
    · rw [decide_eq_true q, decide_eq_false (by omega)]; rfl
    · rw [decide_eq_false q, decide_eq_true (by omega)]; rfl]
  exact h
theorem ord_sg {c : Nat} {P : D → Prop} (h : P (.int (c : Nat))) : Cb K rOrd' [.str ⟨#[c]⟩] P := fun u vs Q ex rs k => by
  obtain ⟨v, rfl, r1⟩ := dens1 rs
  cases den_str r1
  exact ⟨_, rfl, rfl, k _ _ u (.refl ex) (.int _) h⟩
theorem rng_get2 {lo : Int} {n i : Nat} {x : D} (h : (rng lo n)[i]? = some x) : i < n ∧ x = .int (lo + (i : Nat)) := by
  unfold rng at h
  rw [List.getElem?_map] at h
  obtain ⟨j, hj, rfl⟩ := Option.map_eq_some_iff.mp h
  have hl := (List.getElem?_eq_some_iff.mp hj).1
  rw [List.length_range] at hl
  rw [List.getElem?_range hl] at hj
  cases hj
  exact ⟨hl, rfl⟩
theorem len__law_signs : ∀ ds n P X, R__law_signs A ds n P X → ds.length = 1 := by rintro ds n P X ⟨_, rfl, -⟩; rfl
theorem w__law_signs (T : TxtC K A) : ∀ Z ds n P, R__law_signs A ds n P Z.X → Ws K Z (t__law_signs K A) (startD 6 ds) n { nx := fun _ m => P .non m, rt := P } := by
  rintro Z ds n P ⟨a, rfl, hn, h⟩
  unfold t__law_signs
  walk_at "w"
  refine ⟨a, _, rfl, by omega, by omega, by omega, fun r r0 r1 => ?_⟩
  walk_at "w"
  refine iteD (fun z => ?_) (fun z => ?_)
  · walk_at "w"
    refine add_str (by decide +kernel) ?_
    exact h _ _ std_ok (by omega) (by omega)
  · walk_at "w"
    refine ⟨rfl, ?_⟩
    walk_at "w"
    refine ⟨a, _, rfl, by omega, by omega, by omega, fun f f0 f1 => ?_⟩
    walk_at "w"
    refine ⟨a, _, rfl, by omega, by omega, by omega, fun s s0 s1 => ?_⟩
    walk_at "w"
    obtain ⟨f, rfl⟩ := Int.eq_ofNat_of_zero_le f0
    obtain ⟨s, rfl⟩ := Int.eq_ofNat_of_zero_le s0
    refine we_lcmap (fun d => match d with | .int i => .str (mk [(tl fre).getD ((f + (1 + s) * i.toNat) % 89) 0]) | d => d) (wi_range1 ?_)
    walk_at "w"
    refine ⟨64, rfl, ⟨by decide, by decide⟩, by decide +kernel, fun x hx => ?_, ?_⟩
    · obtain ⟨i, hi, rfl⟩ := List.mem_map.mp (show x ∈ (List.range (64 : Int).toNat).map fun (i : Nat) => D.int (0 + (i : Int)) from hx)
      have hi2 := List.mem_range.mp hi
      have hi3 : i < 64 := hi2
      refine wgc_name (by simp) ?_
      walk_at "w"
      rw [Int.zero_add, show ((f : Nat) : Int) + (1 + ((s : Nat) : Int)) * ((i : Nat) : Int) = ((f + (1 + s) * i : Nat) : Int) by simp]
      refine ix_str (c := (tl fre).getD ((f + (1 + s) * i) % 89) 0) (by decide +kernel) (by omega) ?_ ⟨rfl, rfl⟩
      rw [show (((f + (1 + s) * i : Nat) : Int) % 89).toNat = (f + (1 + s) * i) % 89 by omega]
      have hl : (f + (1 + s) * i) % 89 < (tl fre).length := by rw [fre_ok.1]; exact Nat.mod_lt _ (by decide)
      rw [List.getD_eq_getElem?_getD, List.getElem?_eq_getElem hl]
      rfl
    · have e : (rng 0 (64 : Int).toNat).map (fun d => match d with | .int i => D.str (mk [(tl fre).getD ((f + (1 + s) * i.toNat) % 89) 0]) | d => d) = ((rowOf f (1 + s)).map fun c => mk [c]).map D.str := by
        unfold rng rowOf
        rw [List.map_map, List.map_map, List.map_map]
        refine List.map_congr_left fun i _ => ?_
        show D.str (mk [(tl fre).getD ((f + (1 + s) * (0 + (i : Int)).toNat) % 89) 0]) = _
        rw [Int.zero_add, Int.toNat_natCast]
        rfl
      rw [e]
      refine mt_joinD (by rw [sum1, em_is, List.length_map]; show _ + _ * 0 ≤ _; simp [rowOf]) ?_
      have e2 : Txt.join (Str.ofString "") ((rowOf f (1 + s)).map fun c => mk [c]) = mk (rowOf f (1 + s)) := by
        apply TL.ext_tl
        exact (tl_join0 _).trans (flat1 _)
      rw [e2]
      exact h _ _ (row_ok (by omega) (by omega)) (by omega) (by omega)
theorem len__law_drawn : ∀ ds n P X, R__law_drawn A ds n P X → ds.length = 1 := by rintro ds n P X ⟨_, rfl, -⟩; rfl
theorem w__law_drawn (T : TxtC K A) : ∀ Z ds n P, R__law_drawn A ds n P Z.X → Ws K Z (t__law_drawn K A) (startD 4 ds) n { nx := fun _ m => P .non m, rt := P } := by
  rintro Z ds n P ⟨a, rfl, hn, h⟩
  unfold t__law_drawn
  walk_at "w"
  refine ⟨a, _, rfl, by omega, by omega, by omega, fun r r0 r1 => ?_⟩
  walk_at "w"
  refine ⟨_, _, rfl, ?_⟩
  walk_at "w"
  refine ws_for (wi_range1 ?_)
  walk_at "w"
  refine ⟨_, rfl, ⟨by omega, by omega⟩, fun i ds' k => k = n + 1 + i ∧ ∃ (f : Int) (b : Option D), 0 ≤ f ∧ f + 1 ≤ ((2 ^ i : Nat) : Int) ∧ ds' = [some (.strm a .cells), some (.int (1 + r)), some (.int f), b], ⟨rfl, 0, _, by omega, by decide, rfl⟩, ?_, ?_⟩
  · rintro i x ds' k hx ⟨rfl, f, b, f0, f1, rfl⟩
    obtain ⟨hi, rfl⟩ := rng_get2 hx
    have hp : 2 ^ i ≤ 2 ^ 29 := Nat.pow_le_pow_right (by decide) (by omega)
    have hq : 2 ^ (i + 1) = 2 * 2 ^ i := by rw [Nat.pow_succ, Nat.mul_comm]
    walk_at "w"
    refine ⟨a, _, rfl, by omega, by omega, by omega, fun c c0 c1 => ?_⟩
    walk_at "w"
    refine ⟨by omega, _, _, ?_, ?_, rfl⟩
    · omega
    · rw [hq]; omega
  · rintro ds' k ⟨rfl, f, b, f0, f1, rfl⟩
    have hp : 2 ^ (rng 0 (1 + r).toNat).length ≤ 2 ^ 30 := Nat.pow_le_pow_right (by decide) (by rw [rng_len]; omega)
    rw [rng_len] at hp f1
    have hrl : (rng 0 (1 + r).toNat).length ≤ 30 := by rw [rng_len]; omega
    walk_at "w"
    refine ⟨a, _, rfl, by omega, by omega, by omega, fun c c0 c1 => ?_⟩
    rcases (show c = 0 ∨ c = 1 by omega) with rfl | rfl
    all_goals
      walk_at "w"
      refine ⟨a, _, rfl, by omega, by omega, by omega, fun d d0 d1 => ?_⟩
      walk_at "w"
      obtain ⟨w, hw⟩ : ∃ w, (if 10 ^ (9 : Int).toNat - 1 - d < f then 10 ^ (9 : Int).toNat - 1 - d else f) = w := ⟨_, rfl⟩
      have hw2 : 0 ≤ w ∧ w ≤ 999999999 := by
        rw [show (10 : Int) ^ (9 : Int).toNat = 1000000000 by decide] at hw
        split at hw <;> omega
      rw [hw]
    · first | exact h _ _ (by omega) (by omega) (by omega) (by omega) | (refine mul_int ?_ ?_; (exact Or.inl ⟨by omega, by omega⟩); (exact h _ _ (by omega) (by omega) (by omega) (by omega)))
    · first | exact h _ _ (by omega) (by omega) (by omega) (by omega) | (refine mul_int ?_ ?_; (exact Or.inl ⟨by omega, by omega⟩); (exact h _ _ (by omega) (by omega) (by omega) (by omega)))
theorem len__is_row_of_signs : ∀ ds n P X, R__is_row_of_signs A ds n P X → ds.length = 1 := by rintro ds n P X ⟨_, rfl, -⟩; rfl
theorem w__is_row_of_signs (T : TxtC K A) : ∀ Z ds n P, R__is_row_of_signs A ds n P Z.X → Ws K Z (t__is_row_of_signs K A) (startD 2 ds) n { nx := fun _ m => P .non m, rt := P } := by
  rintro Z ds n P ⟨x, rfl, hx, h⟩
  have hl := len_tl x
  have h1 := hx.1
  unfold t__is_row_of_signs
  walk_at "w"
  rw [show decide (((x.length : Nat) : Int) = 64) = true from decide_eq_true (by omega)]
  walk_at "w"
  refine we_lenSet ?_
  walk_at "w"
  refine ⟨?_, by show x.length ≤ 4000; omega, ?_⟩
  · unfold SS2.signsOf
    rw [List.Nodup, List.pairwise_map]
    exact hx.2.1.imp fun hne e => hne (by injection e with e; injection e with e; injection e)
  walk_at "w"
  rw [show decide (((x.cps.size : Nat) : Int) = 64) = true from decide_eq_true (by show ((x.length : Nat) : Int) = 64; omega)]
  walk_at "w"
  refine we_lcmap (fun _ => .bl true) (wi_str ?_)
  walk_at "w"
  refine ⟨by rw [signs_len]; show x.length ≤ _; omega, fun y hy => ?_, ?_⟩
  · obtain ⟨c, hc, rfl⟩ := List.mem_map.mp hy
    obtain ⟨c1, c2, c3⟩ := hx.2.2 c hc
    have c4 : c ≠ 37 ∧ c ∉ (Str.ofString ",;>.'").cps.toList := by
      unfold noSign at c3
      simpa using c3
    refine wgc_name (by simp) ?_
    walk_at "w"
    refine le_sg (a := 32) (b := c) (by decide +kernel) rfl ?_
    rw [decide_eq_true c1]
    walk_at "w"
    refine le_sg (a := c) (b := 126) rfl (by decide +kernel) ?_
    rw [decide_eq_true c2]
    walk_at "w"
    refine ord_sg ?_
    walk_at "w"
    rw [show decide (((c : Nat) : Int) = 37) = false from decide_eq_false (by omega)]
    walk_at "w"
    obtain ⟨u, hu⟩ := T.cv_Alphabet_MARKS
    refine we_cval T.crd_Alphabet hu ?_
    walk_at "w"
    refine ⟨rfl, ?_⟩
    refine nin_sign ?_
    rw [decide_eq_false c4.2]
    exact ⟨rfl, rfl⟩
  · rw [show (signs x).map (fun _ => D.bl true) = ((signs x).map fun _ => true).map D.bl by rw [List.map_map]; rfl]
    walk_at "w"
    refine all_bls ?_
    rw [show ((signs x).map fun _ => true).all id = true by simp]
    exact h
theorem len_Alphabet_init : ∀ ds n P X, R_Alphabet_init A ds n P X → ds.length + 1 = 2 := by rintro ds n P X ⟨_, rfl, -⟩; rfl
theorem w_Alphabet_init (T : TxtC K A) : ∀ Z x dx ds n P, R_Alphabet_init A ds n P Z.X → Ws K Z (t_Alphabet_init K A) (some (.mob x dx A.c_Alphabet []) :: startD (4 - 1) ds) n { nx := fun ds' m => m = n ∧ ∃ gs, ds'[0]? = some (some (.mob x dx A.c_Alphabet gs)) ∧ P gs, rt := fun _ _ => False } := by
  rintro Z x dx ds n P ⟨y, rfl, hy, h⟩
  unfold t_Alphabet_init
  walk_at "w"
  refine ⟨_, rfl, hy, ?_⟩
  walk_at "w"
  refine ws_fld rfl T.cl_Alphabet T.na_Alphabet__signs (by decide) ?_
  walk_at "w"
  refine ws_fld rfl T.cl_Alphabet T.na_Alphabet__indexes (Nat.lt_of_le_of_lt (putD_len _ _ _) (by decide)) ?_
  walk_at "w"
  have hl := len_tl y
  have hl1 := hy.1
  refine we_dc (wi_enumS ?_)
  walk_at "w"
  refine ⟨_, rfl, fun i ys k => k = n ∧ ys.map (·.1) = ((tl y).take i).map fun c => (Sum.inr ⟨#[c]⟩ : Key), ⟨rfl, rfl⟩, ?_, ?_⟩
  · rintro i x ys k hx ⟨rfl, hk⟩
    obtain ⟨d, hd, rfl⟩ := enumD_gett hx
    unfold signs at hd
    rw [List.getElem?_map] at hd
    obtain ⟨c, hc, rfl⟩ := Option.map_eq_some_iff.mp hd
    have hi := (List.getElem?_eq_some_iff.mp hc).1
    have hi2 : i < (tl y).length := hi
    have hlen := congrArg List.length hk
    rw [List.length_map, List.length_map, List.length_take] at hlen
    refine wgc_tup rfl rfl (wgsc_cons rfl (wgc_name (by simp) (wgsc_cons rfl (wgc_name (by simp) (wgsc_nil rfl ?_)))))
    walk_at "w"
    refine ⟨by omega, .inr ⟨#[c]⟩, rfl, fun p hp e => ?_, rfl, ?_⟩
    · have : p.1 ∈ ys.map (·.1) := List.mem_map.mpr ⟨p, hp, rfl⟩
      rw [hk, e] at this
      obtain ⟨c2, h2, e2⟩ := List.mem_map.mp this
      have e3 : c2 = c := by injection e2 with e2; injection e2 with e2; injection e2 with e2; injection e2
      subst e3
      obtain ⟨j, hj, ej⟩ := List.mem_iff_getElem.mp h2
      rw [List.length_take] at hj
      rw [List.getElem_take] at ej
      have e4 : (tl y)[j]'(by omega) = (tl y)[i] := ej.trans (List.getElem?_eq_some_iff.mp hc).2.symm
      have := (List.getElem_inj hy.2.1).mp e4
      omega
    · rw [List.map_append, hk, List.take_add_one, List.map_append, show (tl y)[i]? = some c from hc]
      rfl
  · rintro ys k ⟨rfl, -⟩
    exact ⟨rfl, _, rfl, h ys⟩
end
end Lw

namespace Lw
open PySem L2 StX DL
theorem str_len (s : String) : (Str.ofString s).length = s.toList.length := by
  have h := TL.tl_ofString s
  rw [TL.len_tl, h, List.length_map]
theorem shown_int {i : Int} (h : i.natAbs < 2 ^ 100) : (PyData.int i).shown.length ≤ 1000 := by
  have e : (PyData.int i).shown = Str.ofString (toString i) := by simp only [PyData.shown]
  rw [e, str_len]
  cases i with
  | ofNat m =>
    have := nat_repr_length_le (n := m) (k := 100) (by decide) h
    have e2 : (toString (Int.ofNat m)).toList.length = (Nat.repr m).length := rfl
    omega
  | negSucc m =>
    have := nat_repr_length_le (n := m + 1) (k := 100) (by decide) h
    have e2 : (toString (Int.negSucc m)) = "-" ++ Nat.repr (m + 1) := rfl
    rw [e2]
    have e3 : ("-" ++ Nat.repr (m + 1)).toList.length = 1 + (Nat.repr (m + 1)).length := by
      show ("-" ++ Nat.repr (m + 1)).length = _
      rw [String.length_append]; rfl
    omega
theorem sg_none {x : Str} {e : List (Key × D)} : List.lookup (Str.ofString "signed") [(Str.ofString "_signs", D.str x), (Str.ofString "_indexes", D.dct e)] = none := by
  simp only [List.lookup, show (Str.ofString "signed" == Str.ofString "_signs") = false from by decide +kernel, show (Str.ofString "signed" == Str.ofString "_indexes") = false from by decide +kernel]
theorem showI {i : Int} (h : i.natAbs < 2 ^ 100) : (PyData.int i).showable = true := by
  simp only [PyData.showable]
  apply decide_eq_true
  by_cases q : i.natAbs = 0
  · rw [q]; decide
  · have : i.natAbs.log2 < 100 := (Nat.log2_lt q).mpr h
    omega
theorem un_fo (i : Int) : un (fo i) = i := by
  unfold un fo
  split <;> split <;> omega
theorem fo_un {i : Int} (h : 0 ≤ i) : fo (un i) = i := by
  unfold un fo
  split <;> split <;> omega
theorem un_next (i : Int) : un (fo i + 1) = if 0 ≤ i then -i - 1 else -i := by
  unfold un fo
  split <;> split <;> omega
/-- the folded numbers from -m to m - 1 -/
def folds (m : Nat) : List Int := (List.range (2 * m)).map fun (i : Nat) => fo (-(m : Int) + (i : Int))
theorem folds_perm (m : Nat) : (folds m).Perm ((List.range (2 * m)).map fun (i : Nat) => (i : Int)) := by
  refine (List.perm_ext_iff_of_nodup ?_ ?_).mpr fun a => ?_
  · unfold folds
    rw [List.Nodup, List.pairwise_map]
    refine List.Pairwise.imp ?_ (List.pairwise_lt_range (n := 2 * m))
    intro i j hlt e
    have := congrArg un e
    rw [un_fo, un_fo] at this
    omega
  · rw [List.Nodup, List.pairwise_map]
    refine List.Pairwise.imp ?_ (List.pairwise_lt_range (n := 2 * m))
    intro i j hlt e
    omega
  · unfold folds
    rw [List.mem_map, List.mem_map]
    constructor
    · rintro ⟨i, hi, rfl⟩
      have := List.mem_range.mp hi
      refine ⟨(fo (-(m : Int) + (i : Int))).toNat, List.mem_range.mpr ?_, ?_⟩
      · unfold fo; split <;> omega
      · unfold fo; split <;> omega
    · rintro ⟨i, hi, rfl⟩
      have := List.mem_range.mp hi
      refine ⟨(un i + m).toNat, List.mem_range.mpr ?_, ?_⟩
      · unfold un; split <;> omega
      · have e : -(m : Int) + ((un i + m).toNat : Nat) = un i := by unfold un; split <;> omega
        rw [e]
        exact fo_un (by omega)
theorem sorted_is {m : Nat} {ns : List Int} (h1 : ns.Perm (folds m)) (h2 : ns.Pairwise (· ≤ ·)) : ns = (List.range (2 * m)).map fun (i : Nat) => (i : Int) := by
  refine List.Perm.eq_of_pairwise (le := fun a b => decide (a ≤ b)) ?_ ?_ ?_ (h1.trans (folds_perm m))
  · intro a b _ _ x y
    have := of_decide_eq_true x
    have := of_decide_eq_true y
    omega
  · exact h2.imp fun h => decide_eq_true h
  · rw [List.pairwise_map]
    exact (List.pairwise_lt_range (n := 2 * m)).imp fun {a b} h => decide_eq_true (by omega)
theorem eqv_ints : ∀ l : List Int, PyData.eqvAll (l.map .int) (l.map .int) = true
  | [] => rfl
  | a :: l => by rw [List.map_cons]; simp [PyData.eqvAll, PyData.eqv, eqv_ints l]
theorem cd_le (x : Str) {k : Nat} (hk : k ≤ 2000000000) : (cdO x k).length ≤ 8 := by
  unfold cdO
  rw [mk_len]
  exact up_le _ 7 _ _ (by omega)
section
variable {K : PySem.W.Frag} [Tb K] {Z : ZX} {A : Ad}
/-- one step -/
local macro_rules | `(tactic| walk_at "w1") => `(tactic| first
  | with_reducible refine ws_seq ?_
  | with_reducible refine ws_if ?_
  | with_reducible refine ws_ret ?_
  | ((fail_if_success (with_reducible show Ws _ _ (tDrop (tBM _ _ _ _ _)) _ _ _)); (with_reducible refine ws_drop ?_))
  | with_reducible refine ws_next ?_
  | with_reducible refine ws_par ?_
  | ((fail_if_success (with_reducible show Ws _ _ (tAsg _ (gSub _ _ _)) _ _ _)); (with_reducible refine ws_asg ?_))
  | with_reducible refine wg_name ?_
  | with_reducible refine we_int ?_
  | with_reducible refine we_bl ?_
  | with_reducible refine we_non ?_
  | with_reducible refine we_str ?_
  | with_reducible refine we_ty ?_
  | with_reducible refine we_cls ?_
  | with_reducible refine ws_par3 ?_
  | ((with_reducible show We _ _ (tVar _) _ _ _); refine we_var rfl rfl ?_)
  | ((with_reducible show We _ _ (tVar _) _ _ _); refine we_var rfl (mut_oP _) ?_)
  | with_reducible refine we_rep ?_
  | with_reducible refine we_op ?_
  | with_reducible refine we_un ?_
  | with_reducible refine we_cb ?_
  | with_reducible refine we_callX ?_
  | with_reducible refine we_call ?_
  | with_reducible refine we_callNX ?_
  | with_reducible refine we_callN ?_
  | with_reducible refine we_methN ?_
  | with_reducible refine we_callON ?_
  | with_reducible refine we_callOX ?_
  | with_reducible refine we_exf ?_
  | with_reducible refine we_dnew ?_
  | with_reducible refine ws_raise ?_
  | with_reducible refine we_tup ?_
  | with_reducible refine we_lst ?_
  | with_reducible refine we_sl ?_
  | with_reducible refine we_m1 ?_
  | with_reducible refine we_andV ?_
  | with_reducible refine we_orV ?_
  | with_reducible refine we_notV ?_
  | with_reducible refine we_if ?_
  | with_reducible refine we_chain ?_
  | with_reducible refine we_fld ?_
  | with_reducible refine we_methX ?_
  | with_reducible refine we_meth ?_
  | with_reducible refine we_prop ?_
  | with_reducible refine we_callO' ?_
  | with_reducible refine we_makeX ?_
  | with_reducible refine we_make ?_
  | with_reducible refine wt_test ?_
  | with_reducible refine wt_B ?_
  | with_reducible refine wt_yes ?_
  | with_reducible refine wt_and ?_
  | with_reducible refine wt_or ?_
  | with_reducible refine wt_not ?_
  | with_reducible refine wa_nil ?_
  | with_reducible refine wa_cons ?_
  | with_reducible refine wo_none ?_
  | with_reducible refine wo_some ?_
  | with_reducible refine add_int ?_
  | with_reducible refine sub_int ?_
  | with_reducible refine neg_int ?_
  | ((with_reducible refine mod_int ?_ ?_); (focus (first | assumption | omega)))
  | ((with_reducible refine mul_int ?_ ?_); (focus (first | exact Or.inl ⟨by omega, by omega⟩ | exact Or.inr ⟨by omega, by omega⟩)))
  | ((with_reducible refine fdiv_int ?_ ?_); (focus (exact ⟨by omega, by omega⟩)))
  | ((with_reducible refine pow_int ?_ ?_); (focus (exact ⟨by decide, by decide, by decide⟩)))
  | with_reducible refine is_non ?_
  | with_reducible refine not_non ?_
  | with_reducible refine eq_int ?_
  | with_reducible refine ne_int ?_
  | with_reducible refine eq_pos ?_
  | with_reducible refine ne_pos ?_
  | with_reducible refine ne_oPs ?_
  | with_reducible refine ne_nn ?_
  | with_reducible refine ne_np ?_
  | with_reducible refine ne_pn ?_
  | with_reducible refine eq_str ?_
  | with_reducible refine ne_str ?_
  | with_reducible refine eq_bl ?_
  | with_reducible refine ne_bl ?_
  | with_reducible refine lt_int ?_
  | with_reducible refine gt_int ?_
  | with_reducible refine le_int ?_
  | with_reducible refine ge_int ?_
  | with_reducible refine lt_pos ?_
  | with_reducible refine gt_pos ?_
  | with_reducible refine le_pos ?_
  | with_reducible refine ge_pos ?_
  | with_reducible refine int_int ?_
  | with_reducible refine min_int ?_
  | with_reducible refine max_int ?_
  | with_reducible refine len_lst ?_
  | with_reducible refine len_tup ?_
  | ((with_reducible refine len_take ?_ ?_ ?_); (focus (first | assumption | omega)); (focus (first | assumption | omega)))
  | ((with_reducible refine len_str ?_ ?_); (focus (first | assumption | omega)))
  | with_reducible refine tuple_lst ?_
  | with_reducible refine tuple_tup ?_
  | ((with_reducible refine sl_to ?_ ?_ ?_); (focus (first | assumption | omega)); (focus (first | assumption | omega)))
  | ((with_reducible refine sl_from ?_ ?_ ?_); (focus (first | assumption | omega)); (focus (first | assumption | omega)))
  | ((with_reducible refine sl_mid ?_ ?_ ?_ ?_); (focus (first | assumption | omega)); (focus (first | assumption | omega)); (focus (first | assumption | omega)))
  | with_reducible refine sl_lst ?_
  | with_reducible refine sl_tup ?_
  | ((with_reducible refine sl_str ?_ ?_); (focus (first | assumption | omega)))
  | with_reducible refine mt_nl ?_
  | with_reducible refine mt_countD ?_
  | with_reducible refine mt_rfindD ?_
  | ((with_reducible refine mt_splitnl ?_ ?_); (focus (first | assumption | omega)))
  | ((with_reducible refine mt_splitD ?_ ?_ ?_); (focus rfl); (focus (first | assumption | omega)))
  | ((with_reducible show Op _ (rIx _) (D.tup _) (D.int _) _); refine ix_tup (by decide) rfl ?_)
  | ((with_reducible show Op _ (rIx _) (D.lst _) (D.int _) _); refine ix_lst (n := 0) (by decide) rfl ?_)
  | ((with_reducible show Cb _ (rIsi _) [D.int _, D.ty _] _); first | refine isiI (r := true) (by decide +kernel) ?_ | refine isiI (r := false) (by decide +kernel) ?_)
  | ((with_reducible show Cb _ (rIsi _) [D.str _, D.ty _] _); first | refine isiS (r := true) (by decide +kernel) ?_ | refine isiS (r := false) (by decide +kernel) ?_)
  | ((with_reducible show Cb _ (rIsi _) [D.tup _, D.ty _] _); first | refine isiT (r := true) (by decide +kernel) ?_ | refine isiT (r := false) (by decide +kernel) ?_)
  | ((with_reducible show Wg _ _ (gTup _ _ _) _ _ _); refine wg_tup rfl rfl ?_)
  | ((with_reducible show Wgs _ _ gNil _ _ _); refine wgs_nil rfl ?_)
  | ((with_reducible show Wgs _ _ (gCons _ _) _ _ _); refine wgs_cons rfl ?_)
  | ((with_reducible show ∃ _, D.bl _ = D.bl _ ∧ _); refine ⟨_, rfl, ?_⟩)
  | ((with_reducible show ∃ _, D.int _ = D.int _ ∧ _); refine ⟨_, rfl, ?_⟩)
  | ((with_reducible show ∃ _, D.str _ = D.str _ ∧ _); refine ⟨_, rfl, ?_⟩)
  | ((with_reducible show ∃ _, D.tup _ = D.tup _ ∧ _); refine ⟨_, rfl, ?_⟩)
  | ((with_reducible show ∃ _, D.lst _ = D.lst _ ∧ _); refine ⟨_, rfl, ?_⟩)
  | with_reducible refine iteNT ?_
  | with_reducible refine iteNF ?_
  | ((with_reducible show if true = true then _ else _); rw [if_pos rfl])
  | ((with_reducible show if false = true then _ else _); rw [if_neg Bool.false_ne_true])
  | ((with_reducible show List.length _ ≤ 1000000 ∧ _); refine ⟨?_, ?_⟩; (focus (simp; done)))
  | fail "no step")
local macro_rules | `(tactic| walk_at "w") => `(tactic| repeat (walk_at "w1"))
local macro_rules | `(tactic| walk_at "ws") => `(tactic| repeat ((fail_if_success (with_reducible show We _ _ (tChain _ _ _ _ _) _ _ _)); (fail_if_success (with_reducible show Wt _ _ (tAnd _ _) _ _ _)); (fail_if_success (with_reducible show We _ _ (tOrT _ _ _) _ _ _)); walk_at "w1"))
local macro_rules | `(tactic| walk_at "wm") => `(tactic| repeat ((fail_if_success (with_reducible show Ws _ _ (tAsg (tLst _) _) _ _ _)); walk_at "w1"))

theorem repr4 {a b c d : Int} (ha : a.natAbs < 2 ^ 100) (hb : b.natAbs < 2 ^ 100) (hc : c.natAbs < 2 ^ 100) (hd : d.natAbs < 2 ^ 100) : ∃ s : Str, ∀ P : D → Prop, P (.str s) → Cb K (rReprV K) [.lst [.int a, .int b, .int c, .int d]] P := by
  refine ⟨_, fun P hp => reprV_of (e := .list [.int a, .int b, .int c, .int d]) ⟨_, .inl rfl⟩ rfl ?_ rfl (by simp [PyData.depth, PyData.depthAll]) ?_ hp⟩
  · rw [show (PyData.list [.int a, .int b, .int c, .int d]).showable = ((PyData.int a).showable && ((PyData.int b).showable && ((PyData.int c).showable && ((PyData.int d).showable && true)))) by simp only [PyData.showable, PyData.showableAll]]
    rw [showI ha, showI hb, showI hc, showI hd]; rfl
  · have h := listText_len_le (PyData.shownAll [.int a, .int b, .int c, .int d])
    have h1 := shown_int ha
    have h2 := shown_int hb
    have h3 := shown_int hc
    have h4 := shown_int hd
    rw [show (PyData.list [.int a, .int b, .int c, .int d]).shown = listText (PyData.shownAll [.int a, .int b, .int c, .int d]) by simp only [PyData.shown]]
    simp only [PyData.shownAll, List.map_cons, List.map_nil, List.sum_cons, List.sum_nil, List.length_cons, List.length_nil] at h ⊢
    rw [sizeLine_eq]
    omega
theorem len__law_one_holds : ∀ ds n P X, R__law_one_holds A ds n P X → ds.length = 3 := by rintro ds n P X ⟨_, _, _, rfl, -⟩; rfl
theorem w__law_one_holds (T : TxtC K A) : ∀ Z ds n P, R__law_one_holds A ds n P Z.X → Ws K Z (t__law_one_holds K A) (startD 6 ds) n { nx := fun _ m => P .non m, rt := P } := by
  rintro Z ds n P ⟨x, e, i, rfl, hx, h0, h1, h⟩
  obtain ⟨e1, e2⟩ := fo_nat h0 (Int.le_of_lt h1)
  have f0 : 0 ≤ fo i ∧ fo i ≤ 1999999999 := by unfold fo; split <;> omega
  unfold t__law_one_holds
  walk_at "w"
  refine ⟨_, rfl, by omega, by omega, ?_⟩
  walk_at "w"
  refine ⟨_, rfl, by omega, by omega, ?_⟩
  walk_at "w"
  refine ⟨by simp, ?_⟩
  walk_at "w"
  refine ⟨by decide, by decide, ?_⟩
  walk_at "w"
  refine ⟨by simp, ?_⟩
  walk_at "w"
  refine ⟨by decide, by decide, ?_⟩
  refine add_lst (by simp) ?_
  walk_at "w"
  refine ⟨rfl, rfl, i, rfl, by omega, by omega, ?_⟩
  walk_at "w"
  refine ⟨_, rfl, by omega, by omega, ?_⟩
  rw [un_fo]
  walk_at "w"
  refine ⟨rfl, rfl, fo i, rfl, by omega, by omega, ?_⟩
  rw [un_fo]
  walk_at "w"
  obtain ⟨s, hr⟩ := repr4 (K := K) (a := fo i) (b := fo i) (c := i) (d := i) (by omega) (by omega) (by omega) (by omega)
  refine hr _ ?_
  walk_at "w"
  refine hr _ ?_
  walk_at "w"
  rw [decide_eq_true rfl]
  walk_at "w"
  refine ⟨_, rfl, sg_none, ?_⟩
  walk_at "w"
  refine ⟨x, e, i, rfl, hx, h0, by omega, ?_⟩
  obtain ⟨g, hg⟩ : ∃ g : Nat, (fo i).toNat = g := ⟨_, rfl⟩
  rw [hg]
  rw [hg] at e1 e2
  walk_at "w"
  refine ⟨_, rfl, ?_⟩
  walk_at "w"
  refine ⟨x, e, g, by rw [e1], hx, e2, ?_⟩
  walk_at "w"
  rw [decide_eq_true rfl]
  walk_at "w"
  refine ⟨x, g, by rw [e1], hx, e2, ?_⟩
  walk_at "w"
  rw [decide_eq_true rfl]
  walk_at "w"
  refine ⟨_, rfl, sg_none, ?_⟩
  walk_at "w"
  refine ⟨rfl, x, e, i, rfl, hx, h0, by omega, ?_⟩
  rw [hg]
  walk_at "w"
  rw [decide_eq_true rfl]
  walk_at "w"
  refine ⟨_, rfl, by omega, by omega, ?_⟩
  rw [un_next]
  walk_at "w"
  refine iteD (fun z => ?_) (fun z => ?_)
  · rw [if_pos z]
    walk_at "w"
    rw [decide_eq_true rfl]
    exact h
  · rw [if_neg z]
    walk_at "w"
    rw [decide_eq_true rfl]
    exact h
theorem len_law : ∀ ds n P X, R_law A ds n P X → ds.length = 1 := by rintro ds n P X ⟨_, rfl, -⟩; rfl
theorem w_law (T : TxtC K A) : ∀ Z ds n P, R_law A ds n P Z.X → Ws K Z (t_law K A) (startD 11 ds) n { nx := fun _ m => P .non m, rt := P } := by
  rintro Z ds n P ⟨ns, rfl, hn, rfl, h⟩
  have p9 : (10 : Int) ^ (9 : Int).toNat = 1000000000 := by decide
  unfold t_law
  walk_at "w"
  refine ws_for (wi_list ?_)
  walk_at "w"
  refine ⟨ns, rfl, hn, by omega, fun ps => ?_⟩
  walk_at "w"
  refine ⟨fun i ds' k => i ≤ 3 ∧ k ≤ 600 + 2000 * i ∧ ∃ a b c d e f g h i j : Option D, ds' = [some (.lst (ns.map .int)), a, b, c, d, e, f, g, h, i, j], ⟨by omega, by omega, _, _, _, _, _, _, _, _, _, _, rfl⟩, ?_, ?_⟩
  · rintro i y ds' k hy ⟨hi, hk, a1, a2, a3, a4, a5, a6, a7, a8, a9, a10, rfl⟩
    obtain ⟨p, rfl⟩ : ∃ p, y = .strm p .cells := by
      have := List.mem_of_getElem? hy
      obtain ⟨p, -, e⟩ := List.mem_map.mp (List.mem_of_mem_drop (List.mem_of_mem_take this))
      exact ⟨p, e.symm⟩
    have hi3 : i < 3 := by
      have := (List.getElem?_eq_some_iff.mp hy).1
      unfold cutD at this
      rw [show (some 3 : Option Int) = some ((3 : Nat) : Int) from rfl, HT.sIx_nat, HT.sIx_none, List.length_take] at this
      omega
    walk_at "w"
    refine ⟨p, rfl, by omega, fun x k1 hx k2 k3 => ?_⟩
    walk_at "w"
    refine ⟨x, rfl, hx, fun dc => ?_⟩
    walk_at "w"
    refine ⟨_, _, rfl, ?_⟩
    walk_at "w"
    refine ws_for (wi_range1 ?_)
    walk_at "w"
    refine ⟨40, rfl, ⟨by decide, by decide⟩, fun j ds' k => k1 ≤ k ∧ k ≤ k1 + 40 * j ∧ ∃ z : Option D, ds' = [some (.lst (ns.map .int)), some (.strm p .cells), some (.str x), some (alD A x dc), some (.str (Str.ofString "")), z, a6, a7, a8, a9, a10], ⟨by omega, by omega, _, rfl⟩, ?_, ?_⟩
    · rintro j y ds' k hy ⟨q1, q2, z, rfl⟩
      have hj := (rng_get2 hy).1
      have hj2 : j < 40 := hj
      walk_at "w"
      refine ⟨p, rfl, by omega, fun w m w0 w1 m0 m1 => ?_⟩
      walk_at "w"
      refine ⟨x, dc, w, rfl, hx, w0, w1, ?_⟩
      walk_at "w"
      exact ⟨by omega, by omega, _, rfl⟩
    rintro ds' k ⟨q1, q2, z, rfl⟩
    rw [rng_len] at q2
    have q3 : k ≤ k1 + 1600 := q2
    walk_at "w"
    refine ⟨p, _, rfl, by omega, by omega, by omega, fun r r0 r1 => ?_⟩
    walk_at "w"
    obtain ⟨m, hm⟩ : ∃ m : Nat, 1 + r = (m : Int) := ⟨(1 + r).toNat, by omega⟩
    rw [hm]
    refine we_lcmap (fun d => match d with | .int w => .int (fo w) | d => d) (wi_range2 ?_)
    walk_at "w"
    have hm2 : 1 ≤ m ∧ m ≤ 200 := by omega
    have e2m : ((m : Int) - -(m : Int)).toNat = 2 * m := by omega
    refine ⟨_, _, rfl, ⟨by omega, by omega, by omega, by omega⟩, by rw [rng_len, e2m]; omega, fun y hy => ?_, ?_⟩
    · rw [e2m] at hy
      obtain ⟨j, hj, rfl⟩ := List.mem_map.mp (show y ∈ (List.range (2 * m)).map fun (i : Nat) => D.int (-(m : Int) + (i : Int)) from hy)
      have hj2 := List.mem_range.mp hj
      refine wgc_name (by simp) ?_
      walk_at "w"
      refine ⟨_, rfl, by omega, by omega, ?_⟩
      walk_at "w"
      exact ⟨rfl, rfl⟩
    rw [show (rng (-(m : Int)) ((m : Int) - -(m : Int)).toNat).map (fun d => match d with | .int w => D.int (fo w) | d => d) = (folds m).map D.int by
      rw [e2m]; unfold rng folds; rw [List.map_map, List.map_map]; rfl]
    walk_at "w"
    refine sorted_ints fun ns' p1 p2 => ?_
    obtain rfl := sorted_is p1 p2
    walk_at "w"
    have rg : ∀ j : Nat, rng 0 ((2 : Int) * (j : Int)).toNat = ((List.range (2 * j)).map fun (i : Nat) => (i : Int)).map D.int := fun j => by
      unfold rng
      rw [show ((2 : Int) * (j : Int)).toNat = 2 * j by omega, List.map_map]
      refine List.map_congr_left fun i _ => ?_
      show D.int (0 + (i : Int)) = _
      rw [Int.zero_add]; rfl
    refine we_lcmap id (wi_range1 ?_)
    walk_at "w"
    refine ⟨_, rfl, ⟨by omega, by omega⟩, by rw [rng_len]; omega, fun y hy => ?_, ?_⟩
    · obtain ⟨j, hj, rfl⟩ := List.mem_map.mp (show y ∈ (List.range (2 * (m : Int)).toNat).map fun (i : Nat) => D.int (0 + (i : Int)) from hy)
      refine wgc_name (by simp) ?_
      walk_at "w"
      exact ⟨rfl, rfl⟩
    rw [List.map_id, rg]
    refine ne_same (e := .list ((List.map (fun (i : Nat) => (i : Int)) (List.range (2 * m))).map PyData.int)) (by simp only [pd, pds_is]; rfl) (by simp only [PyData.plain, plain_is]) (by have := depth_is (List.map (fun (i : Nat) => (i : Int)) (List.range (2 * m))); simp only [PyData.depth]; omega) (by simp only [PyData.eqv, eqv_ints]) ?_
    walk_at "w"
    refine ws_for (wi_range1 ?_)
    walk_at "w"
    refine ⟨_, rfl, ⟨by omega, by omega⟩, fun j ds' q => q = k + 1 ∧ ∃ (b : Str) (z5 z8 : Option D), b.length ≤ 8 ∧ (j < 2 * m → b.length ≤ (cdO x j).length) ∧ ds' = [some (.lst (ns.map .int)), some (.strm p .cells), some (.str x), some (alD A x dc), some (.str b), z5, some (.int (m : Nat)), some (.lst ((folds m).map .int)), z8, a9, a10], ⟨rfl, _, _, _, by decide +kernel, fun _ => by rw [show (Str.ofString "").length = 0 by decide +kernel]; exact Nat.zero_le _, rfl⟩, ?_, ?_⟩
    · rintro j y ds' q hy ⟨rfl, b, z5, z8, b1, b2, rfl⟩
      obtain ⟨hj, rfl⟩ := rng_get2 hy
      have hj2 : j < 2 * m := by omega
      walk_at "w"
      rw [Int.zero_add]
      refine ⟨_, rfl, sg_none, ?_⟩
      walk_at "w"
      refine ⟨_, rfl, by omega, by omega, ?_⟩
      have fu := fo_un (i := (j : Int)) (by omega)
      have ub : -1000000000 < un (j : Int) ∧ un (j : Int) ≤ 1000000000 := by unfold un; split <;> omega
      walk_at "w"
      refine ⟨x, dc, un (j : Int), rfl, hx, ub.1, ub.2, ?_⟩
      rw [fu, Int.toNat_natCast]
      have cl := cd_le x (k := j) (by omega)
      walk_at "w"
      have b3 := b2 hj2
      rw [decide_eq_false (by omega)]
      walk_at "w"
      exact ⟨rfl, _, _, _, cl, fun _ => cd_mono x (Nat.le_succ j), rfl⟩
    rintro ds' q ⟨rfl, b, z5, z8, b1, b2, rfl⟩
    exact ⟨by omega, by omega, _, _, _, _, _, _, _, _, _, _, rfl⟩
  rintro ds' k ⟨hi, hk, a1, a2, a3, a4, a5, a6, a7, a8, a9, a10, rfl⟩
  have t1 : fo (10 ^ (9 : Int).toNat) = 2 * 10 ^ (9 : Int).toNat := by decide
  have t2 : fo (1 - 10 ^ (9 : Int).toNat) = 2 * 10 ^ (9 : Int).toNat - 3 := by decide
  have t3 : un (2 * 10 ^ (9 : Int).toNat) = 10 ^ (9 : Int).toNat := by decide
  have t4 : un (2 * 10 ^ (9 : Int).toNat - 1) = -10 ^ (9 : Int).toNat := by decide
  walk_at "w"
  refine ⟨_, rfl, by decide, by decide, ?_⟩
  rw [t1]
  walk_at "w"
  refine ⟨_, rfl, by decide, by decide, ?_⟩
  rw [t2]
  walk_at "w"
  refine ⟨_, rfl, by decide, by decide, ?_⟩
  rw [t3]
  walk_at "w"
  refine ⟨_, rfl, by decide, by decide, ?_⟩
  rw [t4]
  walk_at "w"
  refine eq_same (e := .list ([2 * 10 ^ (9 : Int).toNat, 2 * 10 ^ (9 : Int).toNat - 3, 10 ^ (9 : Int).toNat, -10 ^ (9 : Int).toNat].map PyData.int)) rfl rfl (by simp [PyData.depth, PyData.depthAll]) (by simp only [PyData.eqv, eqv_ints]) ?_
  exact h _
end
end Lw

namespace Lw
open PySem L2 StX DL
open PyProof.Rows (envOfC)
def top (i : Nat) : Stmt := PySem.Challenge.pw_mapstack_k26_whole_folded_numbers.main.body.getD i (.Pass ⟨0, 0, 0, 0⟩)
abbrev s_is_integer : Stmt := top 6
abbrev s__is_row_of_signs : Stmt := top 19
abbrev s__law_streams : Stmt := top 22
abbrev s__law_next : Stmt := top 23
abbrev s__law_free : Stmt := top 24
abbrev s__law_code : Stmt := top 26
abbrev s__law_folded : Stmt := top 27
abbrev s_is_count : Stmt := top 7
abbrev s_folded : Stmt := top 17
abbrev s_Alphabet_init : Stmt := inClass (top 20) 2
abbrev s__law_signs : Stmt := top 25
abbrev s__law_drawn : Stmt := top 28
abbrev s_is_up_to : Stmt := top 8
abbrev s_check_up_to : Stmt := top 9
abbrev s_unfolded : Stmt := top 18
abbrev s_Alphabet_code_of : Stmt := inClass (top 20) 4
abbrev s_Alphabet_call : Stmt := inClass (top 20) 5
abbrev s_Alphabet_signed : Stmt := inClass (top 20) 6
abbrev s__law_one_holds : Stmt := top 29
abbrev s_law : Stmt := top 30
structure Fd where
  d_is_integer : FuncData
  d__is_row_of_signs : FuncData
  d__law_streams : FuncData
  d__law_next : FuncData
  d__law_free : FuncData
  d__law_code : FuncData
  d__law_folded : FuncData
  d_is_count : FuncData
  d_folded : FuncData
  d_Alphabet_init : FuncData
  d__law_signs : FuncData
  d__law_drawn : FuncData
  d_is_up_to : FuncData
  d_check_up_to : FuncData
  d_unfolded : FuncData
  d_Alphabet_code_of : FuncData
  d_Alphabet_call : FuncData
  d_Alphabet_signed : FuncData
  d__law_one_holds : FuncData
  d_law : FuncData
abbrev N_is_integer : List Str := ["value"]
theorem sc_is_integer : FnScope N_is_integer ["value"] (defScope s_is_integer) := ⟨rfl, rfl, rfl, by decide +kernel, rfl, by decide +kernel, by decide +kernel⟩
abbrev N__is_row_of_signs : List Str := ["value", "sign"]
theorem sc__is_row_of_signs : FnScope N__is_row_of_signs ["value"] (defScope s__is_row_of_signs) := ⟨rfl, rfl, rfl, by decide +kernel, rfl, by decide +kernel, by decide +kernel⟩
abbrev N__law_streams : List Str := ["script", "cells", "found", "k", "cell"]
theorem sc__law_streams : FnScope N__law_streams ["script"] (defScope s__law_streams) := ⟨rfl, rfl, rfl, by decide +kernel, rfl, by decide +kernel, by decide +kernel⟩
abbrev N__law_next : List Str := ["stream", "count", "found", "at", "cells", "offset", "own_number"]
theorem sc__law_next : FnScope N__law_next ["stream", "count"] (defScope s__law_next) := ⟨rfl, rfl, rfl, by decide +kernel, rfl, by decide +kernel, by decide +kernel⟩
abbrev N__law_free : List Str := ["found"]
theorem sc__law_free : FnScope N__law_free [] (defScope s__law_free) := ⟨rfl, rfl, rfl, by decide +kernel, rfl, by decide +kernel, by decide +kernel⟩
abbrev N__law_code : List Str := ["signs", "own_number", "found", "rest"]
theorem sc__law_code : FnScope N__law_code ["signs", "own_number"] (defScope s__law_code) := ⟨rfl, rfl, rfl, by decide +kernel, rfl, by decide +kernel, by decide +kernel⟩
abbrev N__law_folded : List Str := ["own_number"]
theorem sc__law_folded : FnScope N__law_folded ["own_number"] (defScope s__law_folded) := ⟨rfl, rfl, rfl, by decide +kernel, rfl, by decide +kernel, by decide +kernel⟩
abbrev N_is_count : List Str := ["value"]
theorem sc_is_count : FnScope N_is_count ["value"] (defScope s_is_count) := ⟨rfl, rfl, rfl, by decide +kernel, rfl, by decide +kernel, by decide +kernel⟩
abbrev N_folded : List Str := ["number"]
theorem sc_folded : FnScope N_folded ["number"] (defScope s_folded) := ⟨rfl, rfl, rfl, by decide +kernel, rfl, by decide +kernel, by decide +kernel⟩
abbrev N_Alphabet_init : List Str := ["self", "signs", "index", "sign"]
theorem sc_Alphabet_init : FnScope N_Alphabet_init ["self", "signs"] (defScope s_Alphabet_init) := ⟨rfl, rfl, rfl, by decide +kernel, rfl, by decide +kernel, by decide +kernel⟩
abbrev N__law_signs : List Str := ["stream", "found", "free", "first", "step", "k"]
theorem sc__law_signs : FnScope N__law_signs ["stream"] (defScope s__law_signs) := ⟨rfl, rfl, rfl, by decide +kernel, rfl, by decide +kernel, by decide +kernel⟩
abbrev N__law_drawn : List Str := ["stream", "size", "found", "k"]
theorem sc__law_drawn : FnScope N__law_drawn ["stream"] (defScope s__law_drawn) := ⟨rfl, rfl, rfl, by decide +kernel, rfl, by decide +kernel, by decide +kernel⟩
abbrev N_is_up_to : List Str := ["value", "limit"]
theorem sc_is_up_to : FnScope N_is_up_to ["value", "limit"] (defScope s_is_up_to) := ⟨rfl, rfl, rfl, by decide +kernel, rfl, by decide +kernel, by decide +kernel⟩
abbrev N_check_up_to : List Str := ["value", "limit"]
theorem sc_check_up_to : FnScope N_check_up_to ["value", "limit"] (defScope s_check_up_to) := ⟨rfl, rfl, rfl, by decide +kernel, rfl, by decide +kernel, by decide +kernel⟩
abbrev N_unfolded : List Str := ["number", "half"]
theorem sc_unfolded : FnScope N_unfolded ["number"] (defScope s_unfolded) := ⟨rfl, rfl, rfl, by decide +kernel, rfl, by decide +kernel, by decide +kernel⟩
abbrev N_Alphabet_code_of : List Str := ["self", "number", "code", "rest"]
theorem sc_Alphabet_code_of : FnScope N_Alphabet_code_of ["self", "number"] (defScope s_Alphabet_code_of) := ⟨rfl, rfl, rfl, by decide +kernel, rfl, by decide +kernel, by decide +kernel⟩
abbrev N_Alphabet_call : List Str := ["self", "number"]
theorem sc_Alphabet_call : FnScope N_Alphabet_call ["self", "number"] (defScope s_Alphabet_call) := ⟨rfl, rfl, rfl, by decide +kernel, rfl, by decide +kernel, by decide +kernel⟩
abbrev N_Alphabet_signed : List Str := ["self", "number"]
theorem sc_Alphabet_signed : FnScope N_Alphabet_signed ["self", "number"] (defScope s_Alphabet_signed) := ⟨rfl, rfl, rfl, by decide +kernel, rfl, by decide +kernel, by decide +kernel⟩
abbrev N__law_one_holds : List Str := ["alphabet", "signs", "own_number", "told", "due", "code"]
theorem sc__law_one_holds : FnScope N__law_one_holds ["alphabet", "signs", "own_number"] (defScope s__law_one_holds) := ⟨rfl, rfl, rfl, by decide +kernel, rfl, by decide +kernel, by decide +kernel⟩
abbrev N_law : List Str := ["script", "stream", "signs", "alphabet", "before", "k", "many", "told", "code", "ends", "own_number"]
theorem sc_law : FnScope N_law ["script"] (defScope s_law) := ⟨rfl, rfl, rfl, by decide +kernel, rfl, by decide +kernel, by decide +kernel⟩
structure Txt (K : PySem.W.Frag) (mg : Str → Option Value) (A : Ad) (B : Fd) : Prop where
  f_is_integer : Fun K "is_integer" "is_integer" s_is_integer A.a_is_integer B.d_is_integer
  b_is_integer : L2.Binds K B.d_is_integer ["value"] []
  f__is_row_of_signs : Fun K "_is_row_of_signs" "_is_row_of_signs" s__is_row_of_signs A.a__is_row_of_signs B.d__is_row_of_signs
  b__is_row_of_signs : L2.Binds K B.d__is_row_of_signs ["value"] []
  f__law_streams : Fun K "_law_streams" "_law_streams" s__law_streams A.a__law_streams B.d__law_streams
  b__law_streams : L2.Binds K B.d__law_streams ["script"] []
  f__law_next : Fun K "_law_next" "_law_next" s__law_next A.a__law_next B.d__law_next
  b__law_next : L2.Binds K B.d__law_next ["stream", "count"] []
  f__law_free : Fun K "_law_free" "_law_free" s__law_free A.a__law_free B.d__law_free
  b__law_free : L2.Binds K B.d__law_free [] []
  f__law_code : Fun K "_law_code" "_law_code" s__law_code A.a__law_code B.d__law_code
  b__law_code : L2.Binds K B.d__law_code ["signs", "own_number"] []
  f__law_folded : Fun K "_law_folded" "_law_folded" s__law_folded A.a__law_folded B.d__law_folded
  b__law_folded : L2.Binds K B.d__law_folded ["own_number"] []
  f_is_count : Fun K "is_count" "is_count" s_is_count A.a_is_count B.d_is_count
  b_is_count : L2.Binds K B.d_is_count ["value"] []
  f_folded : Fun K "folded" "folded" s_folded A.a_folded B.d_folded
  b_folded : L2.Binds K B.d_folded ["number"] []
  f_Alphabet_init : Fun K "__init__" "Alphabet.__init__" s_Alphabet_init A.a_Alphabet_init B.d_Alphabet_init
  b_Alphabet_init : L2.Binds K B.d_Alphabet_init ["self", "signs"] []
  f__law_signs : Fun K "_law_signs" "_law_signs" s__law_signs A.a__law_signs B.d__law_signs
  b__law_signs : L2.Binds K B.d__law_signs ["stream"] []
  f__law_drawn : Fun K "_law_drawn" "_law_drawn" s__law_drawn A.a__law_drawn B.d__law_drawn
  b__law_drawn : L2.Binds K B.d__law_drawn ["stream"] []
  f_is_up_to : Fun K "is_up_to" "is_up_to" s_is_up_to A.a_is_up_to B.d_is_up_to
  b_is_up_to : L2.Binds K B.d_is_up_to ["value", "limit"] []
  f_check_up_to : Fun K "check_up_to" "check_up_to" s_check_up_to A.a_check_up_to B.d_check_up_to
  b_check_up_to : L2.Binds K B.d_check_up_to ["value", "limit"] []
  f_unfolded : Fun K "unfolded" "unfolded" s_unfolded A.a_unfolded B.d_unfolded
  b_unfolded : L2.Binds K B.d_unfolded ["number"] []
  f_Alphabet_code_of : Fun K "_code_of" "Alphabet._code_of" s_Alphabet_code_of A.a_Alphabet_code_of B.d_Alphabet_code_of
  b_Alphabet_code_of : L2.Binds K B.d_Alphabet_code_of ["self", "number"] []
  f_Alphabet_call : Fun K "__call__" "Alphabet.__call__" s_Alphabet_call A.a_Alphabet_call B.d_Alphabet_call
  b_Alphabet_call : L2.Binds K B.d_Alphabet_call ["self", "number"] []
  f_Alphabet_signed : Fun K "signed" "Alphabet.signed" s_Alphabet_signed A.a_Alphabet_signed B.d_Alphabet_signed
  b_Alphabet_signed : L2.Binds K B.d_Alphabet_signed ["self", "number"] []
  f__law_one_holds : Fun K "_law_one_holds" "_law_one_holds" s__law_one_holds A.a__law_one_holds B.d__law_one_holds
  b__law_one_holds : L2.Binds K B.d__law_one_holds ["alphabet", "signs", "own_number"] []
  f_law : Fun K "law" "law" s_law A.a_law B.d_law
  b_law : L2.Binds K B.d_law ["script"] []
  kb_Alphabet_signed_1_number : KBn K B.d_Alphabet_signed ["self", "number"] 1 ["number"] (perm [0, 1]) (perm [0, 1])
  kb_folded_number : KBn K B.d_folded ["number"] 0 ["number"] (perm [0]) (perm [0])
  kb_unfolded_number : KBn K B.d_unfolded ["number"] 0 ["number"] (perm [0]) (perm [0])
  co_Alphabet : CallO K A.c_Alphabet A.a_Alphabet_call
  g__is_row_of_signs : mg "_is_row_of_signs" = some (.ref A.a__is_row_of_signs)
  g__law_code : mg "_law_code" = some (.ref A.a__law_code)
  g__law_drawn : mg "_law_drawn" = some (.ref A.a__law_drawn)
  g__law_folded : mg "_law_folded" = some (.ref A.a__law_folded)
  g__law_free : mg "_law_free" = some (.ref A.a__law_free)
  g__law_next : mg "_law_next" = some (.ref A.a__law_next)
  g__law_one_holds : mg "_law_one_holds" = some (.ref A.a__law_one_holds)
  g__law_signs : mg "_law_signs" = some (.ref A.a__law_signs)
  g__law_streams : mg "_law_streams" = some (.ref A.a__law_streams)
  g_check_up_to : mg "check_up_to" = some (.ref A.a_check_up_to)
  g_folded : mg "folded" = some (.ref A.a_folded)
  g_is_count : mg "is_count" = some (.ref A.a_is_count)
  g_is_integer : mg "is_integer" = some (.ref A.a_is_integer)
  g_is_up_to : mg "is_up_to" = some (.ref A.a_is_up_to)
  g_unfolded : mg "unfolded" = some (.ref A.a_unfolded)
  gc_Alphabet : mg "Alphabet" = some (.ref A.c_Alphabet)
  k_CODE_LIMIT : mg "CODE_LIMIT" = some (.int 1000000000000 A.t_CODE_LIMIT)
  k_FOLDED_LIMIT : mg "FOLDED_LIMIT" = some (.int 2000000000 A.t_FOLDED_LIMIT)
  k_MANY_DIGITS : mg "MANY_DIGITS" = some (.int 32 A.t_MANY_DIGITS)
  k_MANY_SIGNS : mg "MANY_SIGNS" = some (.int 64 A.t_MANY_SIGNS)
  k_PERCENT_SIGN : mg "PERCENT_SIGN" = some (.int 37 A.t_PERCENT_SIGN)
  k_SIGNED_LIMIT : mg "SIGNED_LIMIT" = some (.int 1000000000 A.t_SIGNED_LIMIT)
  me_Alphabet_code_of : Meth K A.c_Alphabet "_code_of" A.a_Alphabet_code_of
  me_Alphabet_signed : Meth K A.c_Alphabet "signed" A.a_Alphabet_signed
  mk_Alphabet : Mk K A.c_Alphabet A.a_Alphabet_init
  n_all : mg "all" = none
  n_bool : mg "bool" = none
  n_enumerate : mg "enumerate" = none
  n_int : mg "int" = none
  n_isinstance : mg "isinstance" = none
  n_len : mg "len" = none
  n_list : mg "list" = none
  n_min : mg "min" = none
  n_ord : mg "ord" = none
  n_range : mg "range" = none
  n_repr : mg "repr" = none
  n_set : mg "set" = none
  n_sorted : mg "sorted" = none
  n_str : mg "str" = none
  tc : TxtC K A
section
variable {Pr : Program} {w : World} {K : PySem.W.Frag} [Tb K] {mg : Str → Option Value} {base : Heap} {A : Ad} {B : Fd}
theorem tm_is_integer (T : Txt K mg A B)  {f : Addr} {cdv : Value} {Ar : Around} {outer : List Env} {s : Shared} {H : Hp} {E : XK} (hr : Room 0 (Ar.deeper (envOfC "is_integer" (defScope s_is_integer) s.heap.objs.size f cdv))) :
    PSs (cxOf CX0 Pr w K mg base N_is_integer "is_integer" (defScope s_is_integer) f cdv Ar outer s H E).nox (defBody s_is_integer) (t_is_integer K A) :=
  (pss_one (ps_ret (pe_and (pe_callB call_isi (by rfl) T.n_isinstance (by decide +kernel) (pa_cons (pv 0) (pa_cons (pe_bltn (v := .ty "int") (by rfl) T.n_int (by decide +kernel) rfl) pa_nil))) (pe_one (pe_not (pe_callB call_isi (by rfl) T.n_isinstance (by decide +kernel) (pa_cons (pv 0) (pa_cons (pe_bltn (v := .ty "bool") (by rfl) T.n_bool (by decide +kernel) rfl) pa_nil))))))))
theorem tm__is_row_of_signs (T : Txt K mg A B)  {f : Addr} {cdv : Value} {Ar : Around} {outer : List Env} {s : Shared} {H : Hp} {E : XK} (hr : Room 0 (Ar.deeper (envOfC "_is_row_of_signs" (defScope s__is_row_of_signs) s.heap.objs.size f cdv))) :
    PSs (cxOf CX0 Pr w K mg base N__is_row_of_signs "_is_row_of_signs" (defScope s__is_row_of_signs) f cdv Ar outer s H E).nox (defBody s__is_row_of_signs) (t__is_row_of_signs K A) :=
  (pss_cons (ps_if (PW.pt (pw_or (pt_not (pt_val (pe_callB call_isi (by rfl) T.n_isinstance (by decide +kernel) (pa_cons (pv 0) (pa_cons (pe_bltn (v := .ty "str") (by rfl) T.n_str (by decide +kernel) rfl) pa_nil))))) (pw_or (pt_cmpR (op_neP hr.units) (pe_callB call_len (by rfl) T.n_len (by decide +kernel) (pa_cons (pv 0) pa_nil)) (pe_glob rfl T.k_MANY_SIGNS ⟨_, rfl⟩) (nomark _)) (pw_or1 (pt_cmpR (op_neP hr.units) (pe_lenSetS rfl T.n_len rfl T.n_set (pv 0)) (pe_glob rfl T.k_MANY_SIGNS ⟨_, rfl⟩) (nomark _)))))) (pss_one (ps_ret pe_bl)) pss_nil)
      (pss_one (ps_ret (pe_callB (cr_all rfl) (by rfl) T.n_all (by decide +kernel) (pa_cons (pe_lc (own := [("sign", 1)]) rfl sc__is_row_of_signs.nd (pi_str (pv 0)) (blkOk_by (own := [("sign", 1)]) (N := N__is_row_of_signs) (sc := defScope s__is_row_of_signs) (by decide +kernel)) (fun _ _ _ _ _ => (pg_name (i := 1) sc__is_row_of_signs.nd rfl (Or.inl rfl))) (fun _ _ _ _ _ => pts_nil) (fun _ _ _ _ _ => (pe_and (pe_chain (op_leP hr.units) (op_leP hr.units) pe_str (pv 1) pe_str) (pe_and (pe_cmpR (op_neP hr.units) (pe_callB call_ord (by rfl) T.n_ord (by decide +kernel) (pa_cons (pv 1) pa_nil)) (pe_glob rfl T.k_PERCENT_SIGN ⟨_, rfl⟩) (nomark _)) (pe_one (pe_cmpR op_notInS (pv 1) (ClX.pe_cval (pe_glob (v := .ref A.c_Alphabet) (by rfl) T.gc_Alphabet (by rfl))) rfl)))))) pa_nil)))))
theorem tm__law_streams (T : Txt K mg A B)  {f : Addr} {cdv : Value} {Ar : Around} {outer : List Env} {s : Shared} {H : Hp} {E : XK} (hr : Room 0 (Ar.deeper (envOfC "_law_streams" (defScope s__law_streams) s.heap.objs.size f cdv))) :
    PSs (cxOf CX0 Pr w K mg base N__law_streams "_law_streams" (defScope s__law_streams) f cdv Ar outer s H E).nox (defBody s__law_streams) (t__law_streams K A) :=
  (pss_cons (ps_set (i := 1) sc__law_streams.nd rfl (Or.inl rfl) (pe_ifExp (pt_cmpR (op_neP hr.units) (pv 0) (pe_lst pa_nil) (nomark _)) (pe_callTy call_list_of (by rfl) T.n_list (by decide +kernel) (pa_cons (pv 0) pa_nil)) (pe_lst (pa_cons pe_int pa_nil))))
      (pss_cons (ps_set (i := 2) sc__law_streams.nd rfl (Or.inl rfl) (pe_lst pa_nil))
      (pss_cons (ps_for PassesOwn.never rfl (pi_enum (by rfl) T.n_enumerate (pa_cons (pe_slice sl_U (pv 1) po_none (po_some pe_int)) pa_nil)) (pg_tup rfl (pgs_cons (pg_name (i := 3) sc__law_streams.nd rfl (Or.inl rfl)) (pgs_cons (pg_name (i := 4) sc__law_streams.nd rfl (Or.inl rfl)) pgs_nil))) (pss_one (ps_expr (pe_bm PySem.F.plainAttrs_list PySem.F.slot_list_append PySem.F.type_list_append mt_append (pv 2) (pa_cons (pe_disp (pps_cons pe_str (pe_op op_addU (pe_slice sl_U (pv 1) (po_some (pv 3)) po_none) (pe_slice sl_U (pv 1) po_none (po_some (pv 3)))) (pps_cons pe_str (pe_op op_mul pe_int (pv 3)) (pps_cons pe_str (pe_ifExp (pt_cmpR (op_geP hr.units) (pv 4) (pe_op op_pow pe_int pe_int) (nomark _)) (pv 4) pe_int) pps_nil))) rfl rfl (fun z => by cases z) (by decide)) pa_nil)))))
      (pss_one (ps_ret (pv 2))))))
theorem tm__law_next (T : Txt K mg A B)  {f : Addr} {cdv : Value} {Ar : Around} {outer : List Env} {s : Shared} {H : Hp} {E : XK} (hr : Room 0 (Ar.deeper (envOfC "_law_next" (defScope s__law_next) s.heap.objs.size f cdv))) :
    PSs (cxOf CX0 Pr w K mg base N__law_next "_law_next" (defScope s__law_next) f cdv Ar outer s H E).nox (defBody s__law_next) (t__law_next K A) :=
  (pss_cons (ps_dput (Nat.lt_of_le_of_lt (Nat.add_le_add_left (by decide) _) hr.units) (pv 0) pe_str (pe_op op_addU (pe_dget (Nat.lt_of_le_of_lt (Nat.add_le_add_left (by decide) _) hr.units) (pv 0) pe_str (fun _ _ => rfl)) pe_int) rfl)
      (pss_cons (ps_if (pt_cmpR (op_gtP hr.units) (pe_dget (Nat.lt_of_le_of_lt (Nat.add_le_add_left (by decide) _) hr.units) (pv 0) pe_str (fun _ _ => rfl)) pe_int (nomark _)) (pss_cons (ps_set (i := 2) sc__law_next.nd rfl (Or.inl rfl) (pe_op op_mod (pe_callTy call_int1 (by rfl) T.n_int (by decide +kernel) (pa_cons (pe_dget (Nat.lt_of_le_of_lt (Nat.add_le_add_left (by decide) _) hr.units) (pv 0) pe_str (fun _ _ => rfl)) pa_nil)) (pv 1)))
      (pss_cons (ps_dput (Nat.lt_of_le_of_lt (Nat.add_le_add_left (by decide) _) hr.units) (pv 0) pe_str (pe_op op_fdiv (pe_dget (Nat.lt_of_le_of_lt (Nat.add_le_add_left (by decide) _) hr.units) (pv 0) pe_str (fun _ _ => rfl)) (pv 1)) rfl)
      (pss_one (ps_ret (pv 2))))) pss_nil)
      (pss_cons (ps_par (i := 3) (j := 4) (by rfl) sc__law_next.nd rfl rfl (by decide) rfl rfl (pa_cons (pe_dget (Nat.lt_of_le_of_lt (Nat.add_le_add_left (by decide) _) hr.units) (pv 0) pe_str (fun _ _ => rfl)) (pa_cons (pe_dget (Nat.lt_of_le_of_lt (Nat.add_le_add_left (by decide) _) hr.units) (pv 0) pe_str (fun _ _ => rfl)) pa_nil)) (by rfl))
      (pss_cons (ps_set (i := 5) sc__law_next.nd rfl (Or.inl rfl) (pe_op op_addU (pe_op op_addU (pe_op op_mul (pe_op op_mul pe_int (pv 3)) (pv 3)) (pe_op op_mul pe_int (pv 3))) pe_int))
      (pss_cons (ps_set (i := 6) sc__law_next.nd rfl (Or.inl rfl) (pe_op op_addU (pe_op op_mod (pe_callTy call_int1 (by rfl) T.n_int (by decide +kernel) (pa_cons (pe_ix ix_seq (pv 4) (pe_op op_mod (pe_callTy call_int1 (by rfl) T.n_int (by decide +kernel) (pa_cons (pv 3) pa_nil)) (pe_callB call_len (by rfl) T.n_len (by decide +kernel) (pa_cons (pv 4) pa_nil))) (fun _ _ => rfl)) pa_nil)) pe_int) (pv 5)))
      (pss_cons (ps_set (i := 6) sc__law_next.nd rfl (Or.inl rfl) (pe_op op_mod (pe_callTy call_int1 (by rfl) T.n_int (by decide +kernel) (pa_cons (pe_op op_pow (pv 6) pe_int) pa_nil)) pe_int))
      (pss_one (ps_ret (pe_op op_mod (pe_callTy call_int1 (by rfl) T.n_int (by decide +kernel) (pa_cons (pe_op op_fdiv (pe_op op_mod (pe_callTy call_int1 (by rfl) T.n_int (by decide +kernel) (pa_cons (pe_op op_mul (pv 6) pe_int) pa_nil)) pe_int) pe_int) pa_nil)) (pv 1))))))))))
theorem tm__law_free (T : Txt K mg A B)  {f : Addr} {cdv : Value} {Ar : Around} {outer : List Env} {s : Shared} {H : Hp} {E : XK} (hr : Room 0 (Ar.deeper (envOfC "_law_free" (defScope s__law_free) s.heap.objs.size f cdv))) :
    PSs (cxOf CX0 Pr w K mg base N__law_free "_law_free" (defScope s__law_free) f cdv Ar outer s H E).nox (defBody s__law_free) (t__law_free K A) :=
  (pss_cons (ps_set (i := 0) sc__law_free.nd rfl (Or.inl rfl) pe_str)
      (pss_one (ps_ret (pe_op op_addU (pv 0) pe_str))))
theorem tm__law_code (T : Txt K mg A B)  {f : Addr} {cdv : Value} {Ar : Around} {outer : List Env} {s : Shared} {H : Hp} {E : XK} (hr : Room 0 (Ar.deeper (envOfC "_law_code" (defScope s__law_code) s.heap.objs.size f cdv))) :
    PSs (cxOf CX0 Pr w K mg base N__law_code "_law_code" (defScope s__law_code) f cdv Ar outer s H E).nox (defBody s__law_code) (t__law_code K A) :=
  (pss_cons (ps_par (i := 2) (j := 3) (by rfl) sc__law_code.nd rfl rfl (by decide) rfl rfl (pa_cons (pe_ix ix_seq (pv 0) (pe_op op_mod (pe_callTy call_int1 (by rfl) T.n_int (by decide +kernel) (pa_cons (pv 1) pa_nil)) pe_int) (fun _ _ => rfl)) (pa_cons (pe_op op_fdiv (pv 1) pe_int) pa_nil)) (by rfl))
      (pss_cons (ps_while PassesOwn.never (pt_cmpR (op_gtP hr.units) (pv 3) pe_int (nomark _)) (pss_cons (ps_set (i := 2) sc__law_code.nd rfl (Or.inl rfl) (pe_op op_addU (pe_ix ix_seq (pv 0) (pe_op op_addU pe_int (pe_op op_mod (pe_callTy call_int1 (by rfl) T.n_int (by decide +kernel) (pa_cons (pv 3) pa_nil)) pe_int)) (fun _ _ => rfl)) (pv 2)))
      (pss_one (ps_set (i := 3) sc__law_code.nd rfl (Or.inl rfl) (pe_op op_fdiv (pv 3) pe_int)))))
      (pss_one (ps_ret (pv 2)))))
theorem tm__law_folded (T : Txt K mg A B)  {f : Addr} {cdv : Value} {Ar : Around} {outer : List Env} {s : Shared} {H : Hp} {E : XK} (hr : Room 0 (Ar.deeper (envOfC "_law_folded" (defScope s__law_folded) s.heap.objs.size f cdv))) :
    PSs (cxOf CX0 Pr w K mg base N__law_folded "_law_folded" (defScope s__law_folded) f cdv Ar outer s H E).nox (defBody s__law_folded) (t__law_folded K A) :=
  (pss_one (ps_ret (pe_ifExp (pt_cmpR (op_geP hr.units) (pv 0) pe_int (nomark _)) (pe_op op_mul pe_int (pv 0)) (pe_op op_sub (pe_op op_mul (pe_un un_neg pe_int) (pv 0)) pe_int))))
theorem tm_is_count (T : Txt K mg A B) (G_is_integer : FnOk Pr w K mg base CX0 1 A.a_is_integer B.d_is_integer ["value"] (spD K (R_is_integer A))) {f : Addr} {cdv : Value} {Ar : Around} {outer : List Env} {s : Shared} {H : Hp} {E : XK} (hr : Room 1 (Ar.deeper (envOfC "is_count" (defScope s_is_count) s.heap.objs.size f cdv))) :
    PSs (cxOf CX0 Pr w K mg base N_is_count "is_count" (defScope s_is_count) f cdv Ar outer s H E).nox (defBody s_is_count) (t_is_count K A) :=
  (pss_one (ps_ret (pe_and (pe_call G_is_integer (hr.mono (by decide)) rfl T.g_is_integer T.f_is_integer.kp T.b_is_integer .nil pass0 (pa_cons (pv 0) pa_nil)) (pe_one (pe_cmpR (op_geP hr.units) (pv 0) pe_int (nomark _))))))
theorem tm_folded (T : Txt K mg A B) (G_is_integer : FnOk Pr w K mg base CX0 1 A.a_is_integer B.d_is_integer ["value"] (spD K (R_is_integer A))) {f : Addr} {cdv : Value} {Ar : Around} {outer : List Env} {s : Shared} {H : Hp} {E : XK} (hr : Room 1 (Ar.deeper (envOfC "folded" (defScope s_folded) s.heap.objs.size f cdv))) :
    PSs (cxOf CX0 Pr w K mg base N_folded "folded" (defScope s_folded) f cdv Ar outer s H E).nox (defBody s_folded) (t_folded K A) :=
  (pss_cons (ps_if (PW.pt (pw_or (pt_not (pt_val (pe_call G_is_integer (hr.mono (by decide)) rfl T.g_is_integer T.f_is_integer.kp T.b_is_integer .nil pass0 (pa_cons (pv 0) pa_nil)))) (pw_or1 (pt_not (pt_chain (op_leP hr.units) (op_leP hr.units) (pe_un un_neg (pe_glob rfl T.k_SIGNED_LIMIT ⟨_, rfl⟩)) (pv 0) (pe_glob rfl T.k_SIGNED_LIMIT ⟨_, rfl⟩)))))) pss_never pss_nil)
      (pss_one (ps_ret (pe_ifExp (pt_cmpR (op_geP hr.units) (pv 0) pe_int (nomark _)) (pe_op op_mul pe_int (pv 0)) (pe_op op_sub (pe_op op_mul (pe_un un_neg pe_int) (pv 0)) pe_int)))))
theorem tm_Alphabet_init (T : Txt K mg A B) (G__is_row_of_signs : FnOk Pr w K mg base CX0 1 A.a__is_row_of_signs B.d__is_row_of_signs ["value"] (spD K (R__is_row_of_signs A))) {f : Addr} {cdv : Value} {Ar : Around} {outer : List Env} {s : Shared} {H : Hp} {E : XK} (hr : Room 1 (Ar.deeper (envOfC "Alphabet.__init__" (defScope s_Alphabet_init) s.heap.objs.size f cdv))) :
    PSs (cxOf CX0 Pr w K mg base N_Alphabet_init "Alphabet.__init__" (defScope s_Alphabet_init) f cdv Ar outer s H E).nox (defBody s_Alphabet_init) (t_Alphabet_init K A) :=
  (pss_cons (ps_if (pt_not (pt_val (pe_call G__is_row_of_signs (hr.mono (by decide)) rfl T.g__is_row_of_signs T.f__is_row_of_signs.kp T.b__is_row_of_signs .nil pass0 (pa_cons (pv 1) pa_nil)))) pss_never pss_nil)
      (pss_cons (ps_fld (pv 0) (pv 1) rfl)
      (pss_one (ps_fld (pv 0) (pe_dc (own := [("index", 2), ("sign", 3)]) rfl sc_Alphabet_init.nd (pi_enumS (by rfl) T.n_enumerate (pa_cons (pv 1) pa_nil)) (blkOk_by (own := [("index", 2), ("sign", 3)]) (N := N_Alphabet_init) (sc := defScope s_Alphabet_init) (by decide +kernel)) (fun _ _ _ _ _ => (pg_tup rfl (pgs_cons (pg_name (i := 2) sc_Alphabet_init.nd rfl (Or.inl rfl)) (pgs_cons (pg_name (i := 3) sc_Alphabet_init.nd rfl (Or.inl rfl)) pgs_nil)))) (fun _ _ _ _ _ => pts_nil) (fun _ _ _ _ _ => (pv 3)) (fun _ _ _ _ _ => (pv 2))) rfl))))
theorem tm__law_signs (T : Txt K mg A B) (G__law_free : FnOk Pr w K mg base CX0 1 A.a__law_free B.d__law_free [] (spD K (R__law_free A))) (G__law_next : FnOk Pr w K mg base CX0 1 A.a__law_next B.d__law_next ["stream", "count"] (spD K (R__law_next A))) {f : Addr} {cdv : Value} {Ar : Around} {outer : List Env} {s : Shared} {H : Hp} {E : XK} (hr : Room 1 (Ar.deeper (envOfC "_law_signs" (defScope s__law_signs) s.heap.objs.size f cdv))) :
    PSs (cxOf CX0 Pr w K mg base N__law_signs "_law_signs" (defScope s__law_signs) f cdv Ar outer s H E).nox (defBody s__law_signs) (t__law_signs K A) :=
  (pss_cons (ps_if (pt_cmpR (op_gtP hr.units) (pe_call G__law_next (hr.mono (by decide)) rfl T.g__law_next T.f__law_next.kp T.b__law_next .nil pass0 (pa_cons (pv 0) (pa_cons pe_int pa_nil))) pe_int (nomark _)) (pss_cons (ps_set (i := 1) sc__law_signs.nd rfl (Or.inl rfl) pe_str)
      (pss_one (ps_ret (pe_op op_addU (pv 1) pe_str)))) pss_nil)
      (pss_cons (ps_asg (pe_tup (pa_cons (pe_call0 G__law_free (hr.mono (by decide)) rfl T.g__law_free T.f__law_free.kp T.b__law_free .nil pass0) (pa_cons (pe_call G__law_next (hr.mono (by decide)) rfl T.g__law_next T.f__law_next.kp T.b__law_next .nil pass0 (pa_cons (pv 0) (pa_cons pe_int pa_nil))) (pa_cons (pe_op op_addU pe_int (pe_call G__law_next (hr.mono (by decide)) rfl T.g__law_next T.f__law_next.kp T.b__law_next .nil pass0 (pa_cons (pv 0) (pa_cons pe_int pa_nil)))) pa_nil)))) (pg_tup rfl (pgs_cons (pg_name (i := 2) sc__law_signs.nd rfl (Or.inr rfl)) (pgs_cons (pg_name (i := 3) sc__law_signs.nd rfl (Or.inr rfl)) (pgs_cons (pg_name (i := 4) sc__law_signs.nd rfl (Or.inr rfl)) pgs_nil)))))
      (pss_one (ps_ret (pe_m1 PySem.F.slot_str_join PySem.F.type_str_join mt_join pe_str (pe_lc (own := [("k", 5)]) rfl sc__law_signs.nd (pi_range1 rfl T.n_range (pa_cons pe_int pa_nil)) (blkOk_by (own := [("k", 5)]) (N := N__law_signs) (sc := defScope s__law_signs) (by decide +kernel)) (fun _ _ _ _ _ => (pg_name (i := 5) sc__law_signs.nd rfl (Or.inl rfl))) (fun _ _ _ _ _ => pts_nil) (fun _ _ _ _ _ => (pe_ix ix_seq (pv 2) (pe_op op_mod (pe_callTy call_int1 (by rfl) T.n_int (by decide +kernel) (pa_cons (pe_op op_addU (pv 3) (pe_op op_mul (pv 4) (pv 5))) pa_nil)) pe_int) (fun _ _ => rfl)))))))))
theorem tm__law_drawn (T : Txt K mg A B) (G__law_next : FnOk Pr w K mg base CX0 1 A.a__law_next B.d__law_next ["stream", "count"] (spD K (R__law_next A))) {f : Addr} {cdv : Value} {Ar : Around} {outer : List Env} {s : Shared} {H : Hp} {E : XK} (hr : Room 1 (Ar.deeper (envOfC "_law_drawn" (defScope s__law_drawn) s.heap.objs.size f cdv))) :
    PSs (cxOf CX0 Pr w K mg base N__law_drawn "_law_drawn" (defScope s__law_drawn) f cdv Ar outer s H E).nox (defBody s__law_drawn) (t__law_drawn K A) :=
  (pss_cons (ps_par (i := 1) (j := 2) (by rfl) sc__law_drawn.nd rfl rfl (by decide) rfl rfl (pa_cons (pe_op op_addU pe_int (pe_call G__law_next (hr.mono (by decide)) rfl T.g__law_next T.f__law_next.kp T.b__law_next .nil pass0 (pa_cons (pv 0) (pa_cons pe_int pa_nil)))) (pa_cons pe_int pa_nil)) (by rfl))
      (pss_cons (ps_for PassesOwn.never rfl (pi_range1 rfl T.n_range (pa_cons (pv 1) pa_nil)) (pg_name (i := 3) sc__law_drawn.nd rfl (Or.inl rfl)) (pss_one (ps_set (i := 2) sc__law_drawn.nd rfl (Or.inl rfl) (pe_op op_addU (pe_op op_mul pe_int (pv 2)) (pe_call G__law_next (hr.mono (by decide)) rfl T.g__law_next T.f__law_next.kp T.b__law_next .nil pass0 (pa_cons (pv 0) (pa_cons pe_int pa_nil)))))))
      (pss_one (ps_ret (pe_op op_mul (pe_ix ix_seq (pe_lst (pa_cons pe_int (pa_cons (pe_un un_neg pe_int) pa_nil))) (pe_call G__law_next (hr.mono (by decide)) rfl T.g__law_next T.f__law_next.kp T.b__law_next .nil pass0 (pa_cons (pv 0) (pa_cons pe_int pa_nil))) (fun _ _ => rfl)) (pe_callB (call_min2 rfl) (by rfl) T.n_min (by decide +kernel) (pa_cons (pv 2) (pa_cons (pe_op op_sub (pe_op op_sub (pe_op op_pow pe_int pe_int) pe_int) (pe_call G__law_next (hr.mono (by decide)) rfl T.g__law_next T.f__law_next.kp T.b__law_next .nil pass0 (pa_cons (pv 0) (pa_cons pe_int pa_nil)))) pa_nil))))))))
theorem tm_is_up_to (T : Txt K mg A B) (G_is_count : FnOk Pr w K mg base CX0 2 A.a_is_count B.d_is_count ["value"] (spD K (R_is_count A))) {f : Addr} {cdv : Value} {Ar : Around} {outer : List Env} {s : Shared} {H : Hp} {E : XK} (hr : Room 2 (Ar.deeper (envOfC "is_up_to" (defScope s_is_up_to) s.heap.objs.size f cdv))) :
    PSs (cxOf CX0 Pr w K mg base N_is_up_to "is_up_to" (defScope s_is_up_to) f cdv Ar outer s H E).nox (defBody s_is_up_to) (t_is_up_to K A) :=
  (pss_one (ps_ret (pe_and (pe_call G_is_count (hr.mono (by decide)) rfl T.g_is_count T.f_is_count.kp T.b_is_count .nil pass0 (pa_cons (pv 0) pa_nil)) (pe_one (pe_or (pe_cmpR op_isN (pv 1) pe_non (nomark _)) (pe_one (pe_cmpR (op_leP hr.units) (pv 0) (pv 1) (nomark _))))))))
theorem tm_check_up_to (T : Txt K mg A B) (G_is_up_to : FnOk Pr w K mg base CX0 3 A.a_is_up_to B.d_is_up_to ["value", "limit"] (spD K (R_is_up_to A))) {f : Addr} {cdv : Value} {Ar : Around} {outer : List Env} {s : Shared} {H : Hp} {E : XK} (hr : Room 3 (Ar.deeper (envOfC "check_up_to" (defScope s_check_up_to) s.heap.objs.size f cdv))) :
    PSs (cxOf CX0 Pr w K mg base N_check_up_to "check_up_to" (defScope s_check_up_to) f cdv Ar outer s H E).nox (defBody s_check_up_to) (t_check_up_to K A) :=
  (pss_one (ps_if (pt_not (pt_val (pe_call G_is_up_to (hr.mono (by decide)) rfl T.g_is_up_to T.f_is_up_to.kp T.b_is_up_to .nil pass0 (pa_cons (pv 0) (pa_cons (pv 1) pa_nil))))) pss_never pss_nil))
theorem tm_unfolded (T : Txt K mg A B) (G_check_up_to : FnOk Pr w K mg base CX0 4 A.a_check_up_to B.d_check_up_to ["value", "limit"] (spD K (R_check_up_to A))) {f : Addr} {cdv : Value} {Ar : Around} {outer : List Env} {s : Shared} {H : Hp} {E : XK} (hr : Room 4 (Ar.deeper (envOfC "unfolded" (defScope s_unfolded) s.heap.objs.size f cdv))) :
    PSs (cxOf CX0 Pr w K mg base N_unfolded "unfolded" (defScope s_unfolded) f cdv Ar outer s H E).nox (defBody s_unfolded) (t_unfolded K A) :=
  (pss_cons (ps_expr (pe_call G_check_up_to (hr.mono (by decide)) rfl T.g_check_up_to T.f_check_up_to.kp T.b_check_up_to .nil pass0 (pa_cons (pv 0) (pa_cons (pe_glob rfl T.k_FOLDED_LIMIT ⟨_, rfl⟩) pa_nil))))
      (pss_cons (ps_set (i := 1) sc_unfolded.nd rfl (Or.inl rfl) (pe_op op_fdiv (pv 0) pe_int))
      (pss_one (ps_ret (pe_ifExp (pt_cmpR (op_eqP hr.units) (pv 0) (pe_op op_mul pe_int (pv 1)) (nomark _)) (pv 1) (pe_op op_sub (pe_un un_neg (pv 1)) pe_int))))))
theorem tm_Alphabet_code_of (T : Txt K mg A B) (G_check_up_to : FnOk Pr w K mg base CX0 4 A.a_check_up_to B.d_check_up_to ["value", "limit"] (spD K (R_check_up_to A))) {f : Addr} {cdv : Value} {Ar : Around} {outer : List Env} {s : Shared} {H : Hp} {E : XK} (hr : Room 4 (Ar.deeper (envOfC "Alphabet._code_of" (defScope s_Alphabet_code_of) s.heap.objs.size f cdv))) :
    PSs (cxOf CX0 Pr w K mg base N_Alphabet_code_of "Alphabet._code_of" (defScope s_Alphabet_code_of) f cdv Ar outer s H E).nox (defBody s_Alphabet_code_of) (t_Alphabet_code_of K A) :=
  (pss_cons (ps_expr (pe_call G_check_up_to (hr.mono (by decide)) rfl T.g_check_up_to T.f_check_up_to.kp T.b_check_up_to .nil pass0 (pa_cons (pv 1) (pa_cons (pe_glob rfl T.k_CODE_LIMIT ⟨_, rfl⟩) pa_nil))))
      (pss_cons (ps_set (i := 2) sc_Alphabet_code_of.nd rfl (Or.inl rfl) (pe_ix ix_seq (pe_fld (pv 0) rfl) (pe_op op_andM' (pv 1) pe_int) (fun _ _ => rfl)))
      (pss_cons (ps_set (i := 3) sc_Alphabet_code_of.nd rfl (Or.inl rfl) (pe_op op_fdiv (pv 1) (pe_glob rfl T.k_MANY_DIGITS ⟨_, rfl⟩)))
      (pss_cons (ps_while PassesOwn.never (pt_cmpR (op_gtP hr.units) (pv 3) pe_int (nomark _)) (pss_cons (ps_set (i := 2) sc_Alphabet_code_of.nd rfl (Or.inl rfl) (pe_op op_addU (pe_ix ix_seq (pe_fld (pv 0) rfl) (pe_op op_addU (pe_glob rfl T.k_MANY_DIGITS ⟨_, rfl⟩) (pe_op op_andM' (pv 3) pe_int)) (fun _ _ => rfl)) (pv 2)))
      (pss_one (ps_set (i := 3) sc_Alphabet_code_of.nd rfl (Or.inl rfl) (pe_op op_fdiv (pv 3) (pe_glob rfl T.k_MANY_DIGITS ⟨_, rfl⟩))))))
      (pss_one (ps_ret (pv 2)))))))
theorem tm_Alphabet_call (T : Txt K mg A B) (G_Alphabet_code_of : FnOk Pr w K mg base CX0 5 A.a_Alphabet_code_of B.d_Alphabet_code_of ["self", "number"] (spD K (R_Alphabet_code_of A))) {f : Addr} {cdv : Value} {Ar : Around} {outer : List Env} {s : Shared} {H : Hp} {E : XK} (hr : Room 5 (Ar.deeper (envOfC "Alphabet.__call__" (defScope s_Alphabet_call) s.heap.objs.size f cdv))) :
    PSs (cxOf CX0 Pr w K mg base N_Alphabet_call "Alphabet.__call__" (defScope s_Alphabet_call) f cdv Ar outer s H E).nox (defBody s_Alphabet_call) (t_Alphabet_call K A) :=
  (pss_one (ps_ret (pe_meth (pv 0) T.tc.cl_Alphabet T.me_Alphabet_code_of G_Alphabet_code_of (hr.mono (by decide)) T.b_Alphabet_code_of .nil pass0 (pa_cons (pv 1) pa_nil))))
theorem tm_Alphabet_signed (T : Txt K mg A B) (G_Alphabet_code_of : FnOk Pr w K mg base CX0 5 A.a_Alphabet_code_of B.d_Alphabet_code_of ["self", "number"] (spD K (R_Alphabet_code_of A))) (G_folded : FnOk Pr w K mg base CX0 2 A.a_folded B.d_folded ["number"] (spD K (R_folded A))) {f : Addr} {cdv : Value} {Ar : Around} {outer : List Env} {s : Shared} {H : Hp} {E : XK} (hr : Room 5 (Ar.deeper (envOfC "Alphabet.signed" (defScope s_Alphabet_signed) s.heap.objs.size f cdv))) :
    PSs (cxOf CX0 Pr w K mg base N_Alphabet_signed "Alphabet.signed" (defScope s_Alphabet_signed) f cdv Ar outer s H E).nox (defBody s_Alphabet_signed) (t_Alphabet_signed K A) :=
  (pss_one (ps_ret (pe_meth (pv 0) T.tc.cl_Alphabet T.me_Alphabet_code_of G_Alphabet_code_of (hr.mono (by decide)) T.b_Alphabet_code_of .nil pass0 (pa_cons (pe_call G_folded (hr.mono (by decide)) rfl T.g_folded T.f_folded.kp T.b_folded .nil pass0 (pa_cons (pv 1) pa_nil)) pa_nil))))
theorem tm__law_one_holds (T : Txt K mg A B) (G_Alphabet_call : FnOk Pr w K mg base CX0 6 A.a_Alphabet_call B.d_Alphabet_call ["self", "number"] (spD K (R_Alphabet_call A))) (G_Alphabet_signed : FnOk Pr w K mg base CX0 6 A.a_Alphabet_signed B.d_Alphabet_signed ["self", "number"] (spD K (R_Alphabet_signed A))) (G__law_code : FnOk Pr w K mg base CX0 1 A.a__law_code B.d__law_code ["signs", "own_number"] (spD K (R__law_code A))) (G__law_folded : FnOk Pr w K mg base CX0 1 A.a__law_folded B.d__law_folded ["own_number"] (spD K (R__law_folded A))) (G_folded : FnOk Pr w K mg base CX0 2 A.a_folded B.d_folded ["number"] (spD K (R_folded A))) (G_unfolded : FnOk Pr w K mg base CX0 5 A.a_unfolded B.d_unfolded ["number"] (spD K (R_unfolded A))) {f : Addr} {cdv : Value} {Ar : Around} {outer : List Env} {s : Shared} {H : Hp} {E : XK} (hgu : (Ar.deeper (envOfC "_law_one_holds" (defScope s__law_one_holds) s.heap.objs.size f cdv)).guards = some []) (hr : Room 6 (Ar.deeper (envOfC "_law_one_holds" (defScope s__law_one_holds) s.heap.objs.size f cdv))) :
    PSs (cxOf CX0 Pr w K mg base N__law_one_holds "_law_one_holds" (defScope s__law_one_holds) f cdv Ar outer s H E).nox (defBody s__law_one_holds) (t__law_one_holds K A) :=
  (pss_cons (ps_set (i := 3) sc__law_one_holds.nd rfl (Or.inl rfl) (pe_call G_folded (hr.mono (by decide)) rfl T.g_folded T.f_folded.kp T.b_folded .nil pass0 (pa_cons (pv 2) pa_nil)))
      (pss_cons (ps_set (i := 4) sc__law_one_holds.nd rfl (Or.inl rfl) (pe_op op_addU (pe_op op_rep (pe_lst (pa_cons (pe_call G__law_folded (hr.mono (by decide)) rfl T.g__law_folded T.f__law_folded.kp T.b__law_folded .nil pass0 (pa_cons (pv 2) pa_nil)) pa_nil)) pe_int) (pe_op op_rep (pe_lst (pa_cons (pv 2) pa_nil)) pe_int)))
      (pss_cons (ps_if (pt_cmpR (op_neP hr.units) (pe_callB (call_reprV hgu hr.units) (by rfl) T.n_repr (by decide +kernel) (pa_cons (pe_lst (pa_cons (pv 3) (pa_cons (pe_callN0 G_folded (hr.mono (by decide)) rfl T.g_folded T.f_folded.kp T.kb_folded_number pass0 (pk_cons (pv 2) pk_nil)) (pa_cons (pe_call G_unfolded (hr.mono (by decide)) rfl T.g_unfolded T.f_unfolded.kp T.b_unfolded .nil pass0 (pa_cons (pv 3) pa_nil)) (pa_cons (pe_callN0 G_unfolded (hr.mono (by decide)) rfl T.g_unfolded T.f_unfolded.kp T.kb_unfolded_number pass0 (pk_cons (pv 3) pk_nil)) pa_nil))))) pa_nil)) (pe_callB (call_reprV hgu hr.units) (by rfl) T.n_repr (by decide +kernel) (pa_cons (pv 4) pa_nil)) (nomark _)) (pss_one (ps_ret pe_bl)) pss_nil)
      (pss_cons (ps_set (i := 5) sc__law_one_holds.nd rfl (Or.inl rfl) (pe_meth (pv 0) T.tc.cl_Alphabet T.me_Alphabet_signed G_Alphabet_signed (hr.mono (by decide)) T.b_Alphabet_signed .nil pass0 (pa_cons (pv 2) pa_nil)))
      (pss_cons (ps_if (PW.pt (pw_or (pt_cmpR (op_neP hr.units) (pv 5) (pe_callO' (pv 0) T.co_Alphabet (FnOk.raw0 G_Alphabet_call T.b_Alphabet_call) (hr.mono (by decide)) pass0 (pa_cons (pv 3) pa_nil)) (nomark _)) (pw_or1 (pt_cmpR (op_neP hr.units) (pv 5) (pe_call G__law_code (hr.mono (by decide)) rfl T.g__law_code T.f__law_code.kp T.b__law_code .nil pass0 (pa_cons (pv 1) (pa_cons (pv 3) pa_nil))) (nomark _))))) (pss_one (ps_ret pe_bl)) pss_nil)
      (pss_cons (ps_if (pt_cmpR (op_neP hr.units) (pe_methN (pv 0) T.tc.cl_Alphabet T.me_Alphabet_signed G_Alphabet_signed (hr.mono (by decide)) T.kb_Alphabet_signed_1_number pass0 (pk_cons (pv 2) pk_nil)) (pv 5) (nomark _)) (pss_one (ps_ret pe_bl)) pss_nil)
      (pss_one (ps_ret (pe_cmpR (op_eqP hr.units) (pe_call G_unfolded (hr.mono (by decide)) rfl T.g_unfolded T.f_unfolded.kp T.b_unfolded .nil pass0 (pa_cons (pe_op op_addU (pv 3) pe_int) pa_nil)) (pe_ifExp (pt_cmpR (op_geP hr.units) (pv 2) pe_int (nomark _)) (pe_op op_sub (pe_un un_neg (pv 2)) pe_int) (pe_un un_neg (pv 2))) (nomark _))))))))))
theorem tm_law (T : Txt K mg A B) (G_Alphabet_init : FnOk Pr w K mg base CX0 2 A.a_Alphabet_init B.d_Alphabet_init ["self", "signs"] (spI K A.c_Alphabet (R_Alphabet_init A))) (G_Alphabet_signed : FnOk Pr w K mg base CX0 6 A.a_Alphabet_signed B.d_Alphabet_signed ["self", "number"] (spD K (R_Alphabet_signed A))) (G__law_drawn : FnOk Pr w K mg base CX0 2 A.a__law_drawn B.d__law_drawn ["stream"] (spD K (R__law_drawn A))) (G__law_next : FnOk Pr w K mg base CX0 1 A.a__law_next B.d__law_next ["stream", "count"] (spD K (R__law_next A))) (G__law_one_holds : FnG Pr w K mg base CX0 7 A.a__law_one_holds B.d__law_one_holds ["alphabet", "signs", "own_number"] (spD K (R__law_one_holds A))) (G__law_signs : FnOk Pr w K mg base CX0 2 A.a__law_signs B.d__law_signs ["stream"] (spD K (R__law_signs A))) (G__law_streams : FnOk Pr w K mg base CX0 1 A.a__law_streams B.d__law_streams ["script"] (spD K (R__law_streams A))) (G_folded : FnOk Pr w K mg base CX0 2 A.a_folded B.d_folded ["number"] (spD K (R_folded A))) (G_unfolded : FnOk Pr w K mg base CX0 5 A.a_unfolded B.d_unfolded ["number"] (spD K (R_unfolded A))) {f : Addr} {cdv : Value} {Ar : Around} {outer : List Env} {s : Shared} {H : Hp} {E : XK} (hgu : (Ar.deeper (envOfC "law" (defScope s_law) s.heap.objs.size f cdv)).guards = some []) (hr : Room 7 (Ar.deeper (envOfC "law" (defScope s_law) s.heap.objs.size f cdv))) :
    PSs (cxOf CX0 Pr w K mg base N_law "law" (defScope s_law) f cdv Ar outer s H E).nox (defBody s_law) (t_law K A) :=
  (pss_cons (ps_for PassesOwn.never rfl (pi_list (pe_slice sl_U (pe_call G__law_streams (hr.mono (by decide)) rfl T.g__law_streams T.f__law_streams.kp T.b__law_streams .nil pass0 (pa_cons (pv 0) pa_nil)) po_none (po_some pe_int))) (pg_name (i := 1) sc_law.nd rfl (Or.inl rfl)) (pss_cons (ps_set (i := 2) sc_law.nd rfl (Or.inl rfl) (pe_call G__law_signs (hr.mono (by decide)) rfl T.g__law_signs T.f__law_signs.kp T.b__law_signs .nil pass0 (pa_cons (pv 1) pa_nil)))
      (pss_cons (ps_par (i := 3) (j := 4) (by rfl) sc_law.nd rfl rfl (by decide) rfl rfl (pa_cons (pe_make T.mk_Alphabet G_Alphabet_init (hr.mono (by decide)) rfl T.gc_Alphabet T.b_Alphabet_init .nil pass0 (pa_cons (pv 2) pa_nil)) (pa_cons pe_str pa_nil)) (by rfl))
      (pss_cons (ps_for PassesOwn.never rfl (pi_range1 rfl T.n_range (pa_cons pe_int pa_nil)) (pg_name (i := 5) sc_law.nd rfl (Or.inl rfl)) (pss_one (ps_if (pt_not (pt_val (pe_callG hgu G__law_one_holds (hr.mono (by decide)) rfl T.g__law_one_holds T.f__law_one_holds.kp T.b__law_one_holds pass0 (pa_cons (pv 3) (pa_cons (pv 2) (pa_cons (pe_call G__law_drawn (hr.mono (by decide)) rfl T.g__law_drawn T.f__law_drawn.kp T.b__law_drawn .nil pass0 (pa_cons (pv 1) pa_nil)) pa_nil)))))) (pss_one (ps_ret pe_bl)) pss_nil)))
      (pss_cons (ps_set (i := 6) sc_law.nd rfl (Or.inl rfl) (pe_op op_addU pe_int (pe_call G__law_next (hr.mono (by decide)) rfl T.g__law_next T.f__law_next.kp T.b__law_next .nil pass0 (pa_cons (pv 1) (pa_cons pe_int pa_nil)))))
      (pss_cons (ps_setLc (i := 7) (own := [("own_number", 10)]) rfl sc_law.nd rfl rfl (sw_true rfl rfl rfl (by decide +kernel)) (pi_range2 rfl T.n_range (pa_cons (pe_un un_neg (pv 6)) (pa_cons (pv 6) pa_nil))) (blkOk_by (own := [("own_number", 10)]) (N := N_law) (sc := defScope s_law) (by decide +kernel)) (fun _ _ _ _ _ => (pg_name (i := 10) sc_law.nd rfl (Or.inl rfl))) (fun _ _ _ _ _ => pts_nil) (fun _ _ _ _ _ => (pe_callTy call_int1 (by rfl) T.n_int (by decide +kernel) (pa_cons (pe_call G_folded (hr.mono (by decide)) rfl T.g_folded T.f_folded.kp T.b_folded .nil pass0 (pa_cons (pv 10) pa_nil)) pa_nil))))
      (pss_cons (ps_if (pt_cmpR (op_neP hr.units) (pe_callB cr_sortedI (by rfl) T.n_sorted (by decide +kernel) (pa_cons (pv 7) pa_nil)) (pe_lc (own := [("k", 5)]) rfl sc_law.nd (pi_range1 rfl T.n_range (pa_cons (pe_op op_mul pe_int (pv 6)) pa_nil)) (blkOk_by (own := [("k", 5)]) (N := N_law) (sc := defScope s_law) (by decide +kernel)) (fun _ _ _ _ _ => (pg_name (i := 5) sc_law.nd rfl (Or.inl rfl))) (fun _ _ _ _ _ => pts_nil) (fun _ _ _ _ _ => (pv 5))) (nomark _)) (pss_one (ps_ret pe_bl)) pss_nil)
      (pss_one (ps_for PassesOwn.never rfl (pi_range1 rfl T.n_range (pa_cons (pe_op op_mul pe_int (pv 6)) pa_nil)) (pg_name (i := 5) sc_law.nd rfl (Or.inl rfl)) (pss_cons (ps_set (i := 8) sc_law.nd rfl (Or.inl rfl) (pe_meth (pv 3) T.tc.cl_Alphabet T.me_Alphabet_signed G_Alphabet_signed (hr.mono (by decide)) T.b_Alphabet_signed .nil pass0 (pa_cons (pe_call G_unfolded (hr.mono (by decide)) rfl T.g_unfolded T.f_unfolded.kp T.b_unfolded .nil pass0 (pa_cons (pv 5) pa_nil)) pa_nil)))
      (pss_cons (ps_if (pt_cmpR (op_ltP hr.units) (pe_callB call_len (by rfl) T.n_len (by decide +kernel) (pa_cons (pv 8) pa_nil)) (pe_callB call_len (by rfl) T.n_len (by decide +kernel) (pa_cons (pv 4) pa_nil)) (nomark _)) (pss_one (ps_ret pe_bl)) pss_nil)
      (pss_one (ps_set (i := 4) sc_law.nd rfl (Or.inl rfl) (pv 8))))))))))))))
      (pss_cons (ps_set (i := 9) sc_law.nd rfl (Or.inl rfl) (pe_lst (pa_cons (pe_call G_folded (hr.mono (by decide)) rfl T.g_folded T.f_folded.kp T.b_folded .nil pass0 (pa_cons (pe_op op_pow pe_int pe_int) pa_nil)) (pa_cons (pe_call G_folded (hr.mono (by decide)) rfl T.g_folded T.f_folded.kp T.b_folded .nil pass0 (pa_cons (pe_op op_sub pe_int (pe_op op_pow pe_int pe_int)) pa_nil)) (pa_cons (pe_call G_unfolded (hr.mono (by decide)) rfl T.g_unfolded T.f_unfolded.kp T.b_unfolded .nil pass0 (pa_cons (pe_op op_mul pe_int (pe_op op_pow pe_int pe_int)) pa_nil)) (pa_cons (pe_call G_unfolded (hr.mono (by decide)) rfl T.g_unfolded T.f_unfolded.kp T.b_unfolded .nil pass0 (pa_cons (pe_op op_sub (pe_op op_mul pe_int (pe_op op_pow pe_int pe_int)) pe_int) pa_nil)) pa_nil))))))
      (pss_one (ps_ret (pe_cmpR (op_eqP hr.units) (pv 9) (pe_lst (pa_cons (pe_op op_mul pe_int (pe_op op_pow pe_int pe_int)) (pa_cons (pe_op op_sub (pe_op op_mul pe_int (pe_op op_pow pe_int pe_int)) pe_int) (pa_cons (pe_op op_pow pe_int pe_int) (pa_cons (pe_un un_neg (pe_op op_pow pe_int pe_int)) pa_nil))))) (nomark _))))))
end
section
variable {Pr : Program} {w : World} {K : PySem.W.Frag} [Tb K] {mg : Str → Option Value} {base : Heap} {A : Ad} {B : Fd}
theorem ok_is_integer (T : Txt K mg A B)  : FnOk Pr w K mg base CX0 1 A.a_is_integer B.d_is_integer ["value"] (spD K (R_is_integer A)) :=
  dok T.f_is_integer sc_is_integer len_is_integer (by decide) fun cdv Ar outer s H E hr => ⟨t_is_integer K A, tm_is_integer T  hr, w_is_integer T.tc⟩
theorem ok__is_row_of_signs (T : Txt K mg A B)  : FnOk Pr w K mg base CX0 1 A.a__is_row_of_signs B.d__is_row_of_signs ["value"] (spD K (R__is_row_of_signs A)) :=
  dok T.f__is_row_of_signs sc__is_row_of_signs len__is_row_of_signs (by decide) fun cdv Ar outer s H E hr => ⟨t__is_row_of_signs K A, tm__is_row_of_signs T  hr, w__is_row_of_signs T.tc⟩
theorem ok__law_streams (T : Txt K mg A B)  : FnOk Pr w K mg base CX0 1 A.a__law_streams B.d__law_streams ["script"] (spD K (R__law_streams A)) :=
  dok T.f__law_streams sc__law_streams len__law_streams (by decide) fun cdv Ar outer s H E hr => ⟨t__law_streams K A, tm__law_streams T  hr, w__law_streams T.tc⟩
theorem ok__law_next (T : Txt K mg A B)  : FnOk Pr w K mg base CX0 1 A.a__law_next B.d__law_next ["stream", "count"] (spD K (R__law_next A)) :=
  dok T.f__law_next sc__law_next len__law_next (by decide) fun cdv Ar outer s H E hr => ⟨t__law_next K A, tm__law_next T  hr, w__law_next T.tc⟩
theorem ok__law_free (T : Txt K mg A B)  : FnOk Pr w K mg base CX0 1 A.a__law_free B.d__law_free [] (spD K (R__law_free A)) :=
  dok T.f__law_free sc__law_free len__law_free (by decide) fun cdv Ar outer s H E hr => ⟨t__law_free K A, tm__law_free T  hr, w__law_free T.tc⟩
theorem ok__law_code (T : Txt K mg A B)  : FnOk Pr w K mg base CX0 1 A.a__law_code B.d__law_code ["signs", "own_number"] (spD K (R__law_code A)) :=
  dok T.f__law_code sc__law_code len__law_code (by decide) fun cdv Ar outer s H E hr => ⟨t__law_code K A, tm__law_code T  hr, w__law_code T.tc⟩
theorem ok__law_folded (T : Txt K mg A B)  : FnOk Pr w K mg base CX0 1 A.a__law_folded B.d__law_folded ["own_number"] (spD K (R__law_folded A)) :=
  dok T.f__law_folded sc__law_folded len__law_folded (by decide) fun cdv Ar outer s H E hr => ⟨t__law_folded K A, tm__law_folded T  hr, w__law_folded T.tc⟩
theorem ok_is_count (T : Txt K mg A B) (G_is_integer : FnOk Pr w K mg base CX0 1 A.a_is_integer B.d_is_integer ["value"] (spD K (R_is_integer A))) : FnOk Pr w K mg base CX0 2 A.a_is_count B.d_is_count ["value"] (spD K (R_is_count A)) :=
  dok T.f_is_count sc_is_count len_is_count (by decide) fun cdv Ar outer s H E hr => ⟨t_is_count K A, tm_is_count T G_is_integer hr, w_is_count T.tc⟩
theorem ok_folded (T : Txt K mg A B) (G_is_integer : FnOk Pr w K mg base CX0 1 A.a_is_integer B.d_is_integer ["value"] (spD K (R_is_integer A))) : FnOk Pr w K mg base CX0 2 A.a_folded B.d_folded ["number"] (spD K (R_folded A)) :=
  dok T.f_folded sc_folded len_folded (by decide) fun cdv Ar outer s H E hr => ⟨t_folded K A, tm_folded T G_is_integer hr, w_folded T.tc⟩
theorem ok_Alphabet_init (T : Txt K mg A B) (G__is_row_of_signs : FnOk Pr w K mg base CX0 1 A.a__is_row_of_signs B.d__is_row_of_signs ["value"] (spD K (R__is_row_of_signs A))) : FnOk Pr w K mg base CX0 2 A.a_Alphabet_init B.d_Alphabet_init ["self", "signs"] (spI K A.c_Alphabet (R_Alphabet_init A)) :=
  dokI T.f_Alphabet_init sc_Alphabet_init len_Alphabet_init (by decide) fun cdv Ar outer s H E hr => ⟨t_Alphabet_init K A, tm_Alphabet_init T G__is_row_of_signs hr, w_Alphabet_init T.tc⟩
theorem ok__law_signs (T : Txt K mg A B) (G__law_free : FnOk Pr w K mg base CX0 1 A.a__law_free B.d__law_free [] (spD K (R__law_free A))) (G__law_next : FnOk Pr w K mg base CX0 1 A.a__law_next B.d__law_next ["stream", "count"] (spD K (R__law_next A))) : FnOk Pr w K mg base CX0 2 A.a__law_signs B.d__law_signs ["stream"] (spD K (R__law_signs A)) :=
  dok T.f__law_signs sc__law_signs len__law_signs (by decide) fun cdv Ar outer s H E hr => ⟨t__law_signs K A, tm__law_signs T G__law_free G__law_next hr, w__law_signs T.tc⟩
theorem ok__law_drawn (T : Txt K mg A B) (G__law_next : FnOk Pr w K mg base CX0 1 A.a__law_next B.d__law_next ["stream", "count"] (spD K (R__law_next A))) : FnOk Pr w K mg base CX0 2 A.a__law_drawn B.d__law_drawn ["stream"] (spD K (R__law_drawn A)) :=
  dok T.f__law_drawn sc__law_drawn len__law_drawn (by decide) fun cdv Ar outer s H E hr => ⟨t__law_drawn K A, tm__law_drawn T G__law_next hr, w__law_drawn T.tc⟩
theorem ok_is_up_to (T : Txt K mg A B) (G_is_count : FnOk Pr w K mg base CX0 2 A.a_is_count B.d_is_count ["value"] (spD K (R_is_count A))) : FnOk Pr w K mg base CX0 3 A.a_is_up_to B.d_is_up_to ["value", "limit"] (spD K (R_is_up_to A)) :=
  dok T.f_is_up_to sc_is_up_to len_is_up_to (by decide) fun cdv Ar outer s H E hr => ⟨t_is_up_to K A, tm_is_up_to T G_is_count hr, w_is_up_to T.tc⟩
theorem ok_check_up_to (T : Txt K mg A B) (G_is_up_to : FnOk Pr w K mg base CX0 3 A.a_is_up_to B.d_is_up_to ["value", "limit"] (spD K (R_is_up_to A))) : FnOk Pr w K mg base CX0 4 A.a_check_up_to B.d_check_up_to ["value", "limit"] (spD K (R_check_up_to A)) :=
  dok T.f_check_up_to sc_check_up_to len_check_up_to (by decide) fun cdv Ar outer s H E hr => ⟨t_check_up_to K A, tm_check_up_to T G_is_up_to hr, w_check_up_to T.tc⟩
theorem ok_unfolded (T : Txt K mg A B) (G_check_up_to : FnOk Pr w K mg base CX0 4 A.a_check_up_to B.d_check_up_to ["value", "limit"] (spD K (R_check_up_to A))) : FnOk Pr w K mg base CX0 5 A.a_unfolded B.d_unfolded ["number"] (spD K (R_unfolded A)) :=
  dok T.f_unfolded sc_unfolded len_unfolded (by decide) fun cdv Ar outer s H E hr => ⟨t_unfolded K A, tm_unfolded T G_check_up_to hr, w_unfolded T.tc⟩
theorem ok_Alphabet_code_of (T : Txt K mg A B) (G_check_up_to : FnOk Pr w K mg base CX0 4 A.a_check_up_to B.d_check_up_to ["value", "limit"] (spD K (R_check_up_to A))) : FnOk Pr w K mg base CX0 5 A.a_Alphabet_code_of B.d_Alphabet_code_of ["self", "number"] (spD K (R_Alphabet_code_of A)) :=
  dok T.f_Alphabet_code_of sc_Alphabet_code_of len_Alphabet_code_of (by decide) fun cdv Ar outer s H E hr => ⟨t_Alphabet_code_of K A, tm_Alphabet_code_of T G_check_up_to hr, w_Alphabet_code_of T.tc⟩
theorem ok_Alphabet_call (T : Txt K mg A B) (G_Alphabet_code_of : FnOk Pr w K mg base CX0 5 A.a_Alphabet_code_of B.d_Alphabet_code_of ["self", "number"] (spD K (R_Alphabet_code_of A))) : FnOk Pr w K mg base CX0 6 A.a_Alphabet_call B.d_Alphabet_call ["self", "number"] (spD K (R_Alphabet_call A)) :=
  dok T.f_Alphabet_call sc_Alphabet_call len_Alphabet_call (by decide) fun cdv Ar outer s H E hr => ⟨t_Alphabet_call K A, tm_Alphabet_call T G_Alphabet_code_of hr, w_Alphabet_call T.tc⟩
theorem ok_Alphabet_signed (T : Txt K mg A B) (G_Alphabet_code_of : FnOk Pr w K mg base CX0 5 A.a_Alphabet_code_of B.d_Alphabet_code_of ["self", "number"] (spD K (R_Alphabet_code_of A))) (G_folded : FnOk Pr w K mg base CX0 2 A.a_folded B.d_folded ["number"] (spD K (R_folded A))) : FnOk Pr w K mg base CX0 6 A.a_Alphabet_signed B.d_Alphabet_signed ["self", "number"] (spD K (R_Alphabet_signed A)) :=
  dok T.f_Alphabet_signed sc_Alphabet_signed len_Alphabet_signed (by decide) fun cdv Ar outer s H E hr => ⟨t_Alphabet_signed K A, tm_Alphabet_signed T G_Alphabet_code_of G_folded hr, w_Alphabet_signed T.tc⟩
theorem ok__law_one_holds (T : Txt K mg A B) (G_Alphabet_call : FnOk Pr w K mg base CX0 6 A.a_Alphabet_call B.d_Alphabet_call ["self", "number"] (spD K (R_Alphabet_call A))) (G_Alphabet_signed : FnOk Pr w K mg base CX0 6 A.a_Alphabet_signed B.d_Alphabet_signed ["self", "number"] (spD K (R_Alphabet_signed A))) (G__law_code : FnOk Pr w K mg base CX0 1 A.a__law_code B.d__law_code ["signs", "own_number"] (spD K (R__law_code A))) (G__law_folded : FnOk Pr w K mg base CX0 1 A.a__law_folded B.d__law_folded ["own_number"] (spD K (R__law_folded A))) (G_folded : FnOk Pr w K mg base CX0 2 A.a_folded B.d_folded ["number"] (spD K (R_folded A))) (G_unfolded : FnOk Pr w K mg base CX0 5 A.a_unfolded B.d_unfolded ["number"] (spD K (R_unfolded A))) : FnG Pr w K mg base CX0 7 A.a__law_one_holds B.d__law_one_holds ["alphabet", "signs", "own_number"] (spD K (R__law_one_holds A)) :=
  dokG T.f__law_one_holds sc__law_one_holds len__law_one_holds (by decide) fun cdv Ar outer s H E hcd hgu hr => ⟨t__law_one_holds K A, tm__law_one_holds T G_Alphabet_call G_Alphabet_signed G__law_code G__law_folded G_folded G_unfolded hgu hr, w__law_one_holds T.tc⟩
theorem ok_law (T : Txt K mg A B) (G_Alphabet_init : FnOk Pr w K mg base CX0 2 A.a_Alphabet_init B.d_Alphabet_init ["self", "signs"] (spI K A.c_Alphabet (R_Alphabet_init A))) (G_Alphabet_signed : FnOk Pr w K mg base CX0 6 A.a_Alphabet_signed B.d_Alphabet_signed ["self", "number"] (spD K (R_Alphabet_signed A))) (G__law_drawn : FnOk Pr w K mg base CX0 2 A.a__law_drawn B.d__law_drawn ["stream"] (spD K (R__law_drawn A))) (G__law_next : FnOk Pr w K mg base CX0 1 A.a__law_next B.d__law_next ["stream", "count"] (spD K (R__law_next A))) (G__law_one_holds : FnG Pr w K mg base CX0 7 A.a__law_one_holds B.d__law_one_holds ["alphabet", "signs", "own_number"] (spD K (R__law_one_holds A))) (G__law_signs : FnOk Pr w K mg base CX0 2 A.a__law_signs B.d__law_signs ["stream"] (spD K (R__law_signs A))) (G__law_streams : FnOk Pr w K mg base CX0 1 A.a__law_streams B.d__law_streams ["script"] (spD K (R__law_streams A))) (G_folded : FnOk Pr w K mg base CX0 2 A.a_folded B.d_folded ["number"] (spD K (R_folded A))) (G_unfolded : FnOk Pr w K mg base CX0 5 A.a_unfolded B.d_unfolded ["number"] (spD K (R_unfolded A))) : FnG Pr w K mg base CX0 8 A.a_law B.d_law ["script"] (spD K (R_law A)) :=
  dokG T.f_law sc_law len_law (by decide) fun cdv Ar outer s H E hcd hgu hr => ⟨t_law K A, tm_law T G_Alphabet_init G_Alphabet_signed G__law_drawn G__law_next G__law_one_holds G__law_signs G__law_streams G_folded G_unfolded hgu hr, w_law T.tc⟩
theorem ok_all (T : Txt K mg A B)  : FnG Pr w K mg base CX0 8 A.a_law B.d_law ["script"] (spD K (R_law A)) := by
  have h_is_integer := ok_is_integer (Pr := Pr) (w := w) (base := base) T 
  have h__is_row_of_signs := ok__is_row_of_signs (Pr := Pr) (w := w) (base := base) T 
  have h__law_streams := ok__law_streams (Pr := Pr) (w := w) (base := base) T 
  have h__law_next := ok__law_next (Pr := Pr) (w := w) (base := base) T 
  have h__law_free := ok__law_free (Pr := Pr) (w := w) (base := base) T 
  have h__law_code := ok__law_code (Pr := Pr) (w := w) (base := base) T 
  have h__law_folded := ok__law_folded (Pr := Pr) (w := w) (base := base) T 
  have h_is_count := ok_is_count (Pr := Pr) (w := w) (base := base) T h_is_integer
  have h_folded := ok_folded (Pr := Pr) (w := w) (base := base) T h_is_integer
  have h_Alphabet_init := ok_Alphabet_init (Pr := Pr) (w := w) (base := base) T h__is_row_of_signs
  have h__law_signs := ok__law_signs (Pr := Pr) (w := w) (base := base) T h__law_free h__law_next
  have h__law_drawn := ok__law_drawn (Pr := Pr) (w := w) (base := base) T h__law_next
  have h_is_up_to := ok_is_up_to (Pr := Pr) (w := w) (base := base) T h_is_count
  have h_check_up_to := ok_check_up_to (Pr := Pr) (w := w) (base := base) T h_is_up_to
  have h_unfolded := ok_unfolded (Pr := Pr) (w := w) (base := base) T h_check_up_to
  have h_Alphabet_code_of := ok_Alphabet_code_of (Pr := Pr) (w := w) (base := base) T h_check_up_to
  have h_Alphabet_call := ok_Alphabet_call (Pr := Pr) (w := w) (base := base) T h_Alphabet_code_of
  have h_Alphabet_signed := ok_Alphabet_signed (Pr := Pr) (w := w) (base := base) T h_Alphabet_code_of h_folded
  have h__law_one_holds := ok__law_one_holds (Pr := Pr) (w := w) (base := base) T h_Alphabet_call h_Alphabet_signed h__law_code h__law_folded h_folded h_unfolded
  have h_law := ok_law (Pr := Pr) (w := w) (base := base) T h_Alphabet_init h_Alphabet_signed h__law_drawn h__law_next h__law_one_holds h__law_signs h__law_streams h_folded h_unfolded
  exact h_law
end
theorem all_mk {l : PySem.W.OpenLaw} {w : World} {K : PySem.W.Frag} {h : Heap} {mg : Str → Option Value} {fa : Addr} (X : K.In h) (G : h.Ns mainGlobals mg) (hfa : mg "law" = some (.ref fa))
    {c_Alphabet a_is_integer a__is_row_of_signs a__law_streams a__law_next a__law_free a__law_code a__law_folded a_is_count a_folded a_Alphabet_init a__law_signs a__law_drawn a_is_up_to a_check_up_to a_unfolded a_Alphabet_code_of a_Alphabet_call a_Alphabet_signed a__law_one_holds a_law : Addr}
    {od0 an0 : Option Addr} {sl0 : Array (Option Value)} {oc0 kV0 dc0 pm0 cd0 ct0 : Value}
    {od1 an1 : Option Addr} {sl1 : Array (Option Value)} {oc1 kV1 dc1 pm1 cd1 ct1 : Value}
    {od2 an2 : Option Addr} {sl2 : Array (Option Value)} {oc2 kV2 dc2 pm2 cd2 ct2 : Value}
    {od3 an3 : Option Addr} {sl3 : Array (Option Value)} {oc3 kV3 dc3 pm3 cd3 ct3 : Value}
    {od4 an4 : Option Addr} {sl4 : Array (Option Value)} {oc4 kV4 dc4 pm4 cd4 ct4 : Value}
    {od5 an5 : Option Addr} {sl5 : Array (Option Value)} {oc5 kV5 dc5 pm5 cd5 ct5 : Value}
    {od6 an6 : Option Addr} {sl6 : Array (Option Value)} {oc6 kV6 dc6 pm6 cd6 ct6 : Value}
    {od7 an7 : Option Addr} {sl7 : Array (Option Value)} {oc7 kV7 dc7 pm7 cd7 ct7 : Value}
    {od8 an8 : Option Addr} {sl8 : Array (Option Value)} {oc8 kV8 dc8 pm8 cd8 ct8 : Value}
    {od9 an9 : Option Addr} {sl9 : Array (Option Value)} {oc9 kV9 dc9 pm9 cd9 ct9 : Value}
    {od10 an10 : Option Addr} {sl10 : Array (Option Value)} {oc10 kV10 dc10 pm10 cd10 ct10 : Value}
    {od11 an11 : Option Addr} {sl11 : Array (Option Value)} {oc11 kV11 dc11 pm11 cd11 ct11 : Value}
    {od12 an12 : Option Addr} {sl12 : Array (Option Value)} {oc12 kV12 dc12 pm12 cd12 ct12 : Value}
    {od13 an13 : Option Addr} {sl13 : Array (Option Value)} {oc13 kV13 dc13 pm13 cd13 ct13 : Value}
    {od14 an14 : Option Addr} {sl14 : Array (Option Value)} {oc14 kV14 dc14 pm14 cd14 ct14 : Value}
    {od15 an15 : Option Addr} {sl15 : Array (Option Value)} {oc15 kV15 dc15 pm15 cd15 ct15 : Value}
    {od16 an16 : Option Addr} {sl16 : Array (Option Value)} {oc16 kV16 dc16 pm16 cd16 ct16 : Value}
    {od17 an17 : Option Addr} {sl17 : Array (Option Value)} {oc17 kV17 dc17 pm17 cd17 ct17 : Value}
    {od18 an18 : Option Addr} {sl18 : Array (Option Value)} {oc18 kV18 dc18 pm18 cd18 ct18 : Value}
    {od19 an19 : Option Addr} {sl19 : Array (Option Value)} {oc19 kV19 dc19 pm19 cd19 ct19 : Value}
    {t_CODE_LIMIT t_FOLDED_LIMIT t_MANY_DIGITS t_MANY_SIGNS t_PERCENT_SIGN t_SIGNED_LIMIT : Tok}
    {tkcv_Alphabet_MARKS : Tok}
    (zoa_Alphabet : PySem.W.findIn K (.ref c_Alphabet) "__call__" = some (some (.ref a_Alphabet_call)))
    (zof_Alphabet : PySem.W.isFn K (.ref a_Alphabet_call) = true)
    (zoi_Alphabet : PySem.W.fnIn K a_Alphabet_call = true)
    (zg__is_row_of_signs : PySem.W.nsIn K mainGlobals "_is_row_of_signs" = some (some (.ref a__is_row_of_signs)))
    (zg__law_code : PySem.W.nsIn K mainGlobals "_law_code" = some (some (.ref a__law_code)))
    (zg__law_drawn : PySem.W.nsIn K mainGlobals "_law_drawn" = some (some (.ref a__law_drawn)))
    (zg__law_folded : PySem.W.nsIn K mainGlobals "_law_folded" = some (some (.ref a__law_folded)))
    (zg__law_free : PySem.W.nsIn K mainGlobals "_law_free" = some (some (.ref a__law_free)))
    (zg__law_next : PySem.W.nsIn K mainGlobals "_law_next" = some (some (.ref a__law_next)))
    (zg__law_one_holds : PySem.W.nsIn K mainGlobals "_law_one_holds" = some (some (.ref a__law_one_holds)))
    (zg__law_signs : PySem.W.nsIn K mainGlobals "_law_signs" = some (some (.ref a__law_signs)))
    (zg__law_streams : PySem.W.nsIn K mainGlobals "_law_streams" = some (some (.ref a__law_streams)))
    (zg_check_up_to : PySem.W.nsIn K mainGlobals "check_up_to" = some (some (.ref a_check_up_to)))
    (zg_folded : PySem.W.nsIn K mainGlobals "folded" = some (some (.ref a_folded)))
    (zg_is_count : PySem.W.nsIn K mainGlobals "is_count" = some (some (.ref a_is_count)))
    (zg_is_integer : PySem.W.nsIn K mainGlobals "is_integer" = some (some (.ref a_is_integer)))
    (zg_is_up_to : PySem.W.nsIn K mainGlobals "is_up_to" = some (some (.ref a_is_up_to)))
    (zg_unfolded : PySem.W.nsIn K mainGlobals "unfolded" = some (some (.ref a_unfolded)))
    (zc_Alphabet : PySem.W.nsIn K mainGlobals "Alphabet" = some (some (.ref c_Alphabet)))
    (zk_CODE_LIMIT : PySem.W.nsIn K mainGlobals "CODE_LIMIT" = some (some (.int 1000000000000 t_CODE_LIMIT)))
    (zk_FOLDED_LIMIT : PySem.W.nsIn K mainGlobals "FOLDED_LIMIT" = some (some (.int 2000000000 t_FOLDED_LIMIT)))
    (zk_MANY_DIGITS : PySem.W.nsIn K mainGlobals "MANY_DIGITS" = some (some (.int 32 t_MANY_DIGITS)))
    (zk_MANY_SIGNS : PySem.W.nsIn K mainGlobals "MANY_SIGNS" = some (some (.int 64 t_MANY_SIGNS)))
    (zk_PERCENT_SIGN : PySem.W.nsIn K mainGlobals "PERCENT_SIGN" = some (some (.int 37 t_PERCENT_SIGN)))
    (zk_SIGNED_LIMIT : PySem.W.nsIn K mainGlobals "SIGNED_LIMIT" = some (some (.int 1000000000 t_SIGNED_LIMIT)))
    (zme_Alphabet_code_of : PySem.W.findIn K (.ref c_Alphabet) "_code_of" = some (some (.ref a_Alphabet_code_of)))
    (zmf_Alphabet_code_of : PySem.W.isFn K (.ref a_Alphabet_code_of) = true)
    (zme_Alphabet_signed : PySem.W.findIn K (.ref c_Alphabet) "signed" = some (some (.ref a_Alphabet_signed)))
    (zmf_Alphabet_signed : PySem.W.isFn K (.ref a_Alphabet_signed) = true)
    (zki_Alphabet : PySem.W.findIn K (.ref c_Alphabet) "__init__" = some (some (.ref a_Alphabet_init)))
    (zkf_Alphabet : PySem.W.isFn K (.ref a_Alphabet_init) = true)
    (zkm_Alphabet : PySem.W.makesIn K c_Alphabet = true)
    (zkk_Alphabet : PySem.W.keepIn K (.ref c_Alphabet) = true)
    (zn_all : PySem.W.nsIn K mainGlobals "all" = some none)
    (zn_bool : PySem.W.nsIn K mainGlobals "bool" = some none)
    (zn_enumerate : PySem.W.nsIn K mainGlobals "enumerate" = some none)
    (zn_int : PySem.W.nsIn K mainGlobals "int" = some none)
    (zn_isinstance : PySem.W.nsIn K mainGlobals "isinstance" = some none)
    (zn_len : PySem.W.nsIn K mainGlobals "len" = some none)
    (zn_list : PySem.W.nsIn K mainGlobals "list" = some none)
    (zn_min : PySem.W.nsIn K mainGlobals "min" = some none)
    (zn_ord : PySem.W.nsIn K mainGlobals "ord" = some none)
    (zn_range : PySem.W.nsIn K mainGlobals "range" = some none)
    (zn_repr : PySem.W.nsIn K mainGlobals "repr" = some none)
    (zn_set : PySem.W.nsIn K mainGlobals "set" = some none)
    (zn_sorted : PySem.W.nsIn K mainGlobals "sorted" = some none)
    (zn_str : PySem.W.nsIn K mainGlobals "str" = some none)
    (zg_law : PySem.W.nsIn K mainGlobals "law" = some (some (.ref a_law)))
    (zcg_Alphabet : PySem.W.plainGet K c_Alphabet Str.empty = true)
    (zch_Alphabet : PySem.W.hasDictIn K c_Alphabet = true)
    (zcp_Alphabet : PySem.W.plainOver K c_Alphabet = true)
    (zcs_Alphabet : PySem.W.findIn K (.ref c_Alphabet) "__setattr__" = some (some (.builtin "object.__setattr__")))
    (zna_Alphabet__signs : PySem.W.findIn K (.ref c_Alphabet) "_signs" = some none)
    (zna_Alphabet__indexes : PySem.W.findIn K (.ref c_Alphabet) "_indexes" = some none)
    (zcrd_Alphabet : PySem.W.readsIn K c_Alphabet (.type "type") = true)
    (zcrg_Alphabet : PySem.W.specialIn K (.ref c_Alphabet) "__getattribute__" = some (some (.builtin "type.__getattribute__")))
    (zcv_Alphabet_MARKS : PySem.W.findCls K (.ref c_Alphabet) (.type "type") "MARKS" = some (.val (.str (PySem.Str.ofString ",;>.'") tkcv_Alphabet_MARKS)))
    (zl_is_integer : K.lookup a_is_integer = some ⟨oc0, od0, .func (PySem.W.fnOf "is_integer" "is_integer" (defArgs s_is_integer) (defBody s_is_integer) (defScope s_is_integer) .none kV0 dc0 pm0 an0 cd0 ct0), sl0⟩)
    (zd_is_integer : PySem.W.codeIn K cd0 "is_integer" = true)
    (ze_is_integer : PySem.W.keepIn K (.ref a_is_integer) = true)
    (zl__is_row_of_signs : K.lookup a__is_row_of_signs = some ⟨oc1, od1, .func (PySem.W.fnOf "_is_row_of_signs" "_is_row_of_signs" (defArgs s__is_row_of_signs) (defBody s__is_row_of_signs) (defScope s__is_row_of_signs) .none kV1 dc1 pm1 an1 cd1 ct1), sl1⟩)
    (zd__is_row_of_signs : PySem.W.codeIn K cd1 "_is_row_of_signs" = true)
    (ze__is_row_of_signs : PySem.W.keepIn K (.ref a__is_row_of_signs) = true)
    (zl__law_streams : K.lookup a__law_streams = some ⟨oc2, od2, .func (PySem.W.fnOf "_law_streams" "_law_streams" (defArgs s__law_streams) (defBody s__law_streams) (defScope s__law_streams) .none kV2 dc2 pm2 an2 cd2 ct2), sl2⟩)
    (zd__law_streams : PySem.W.codeIn K cd2 "_law_streams" = true)
    (ze__law_streams : PySem.W.keepIn K (.ref a__law_streams) = true)
    (zl__law_next : K.lookup a__law_next = some ⟨oc3, od3, .func (PySem.W.fnOf "_law_next" "_law_next" (defArgs s__law_next) (defBody s__law_next) (defScope s__law_next) .none kV3 dc3 pm3 an3 cd3 ct3), sl3⟩)
    (zd__law_next : PySem.W.codeIn K cd3 "_law_next" = true)
    (ze__law_next : PySem.W.keepIn K (.ref a__law_next) = true)
    (zl__law_free : K.lookup a__law_free = some ⟨oc4, od4, .func (PySem.W.fnOf "_law_free" "_law_free" (defArgs s__law_free) (defBody s__law_free) (defScope s__law_free) .none kV4 dc4 pm4 an4 cd4 ct4), sl4⟩)
    (zd__law_free : PySem.W.codeIn K cd4 "_law_free" = true)
    (ze__law_free : PySem.W.keepIn K (.ref a__law_free) = true)
    (zl__law_code : K.lookup a__law_code = some ⟨oc5, od5, .func (PySem.W.fnOf "_law_code" "_law_code" (defArgs s__law_code) (defBody s__law_code) (defScope s__law_code) .none kV5 dc5 pm5 an5 cd5 ct5), sl5⟩)
    (zd__law_code : PySem.W.codeIn K cd5 "_law_code" = true)
    (ze__law_code : PySem.W.keepIn K (.ref a__law_code) = true)
    (zl__law_folded : K.lookup a__law_folded = some ⟨oc6, od6, .func (PySem.W.fnOf "_law_folded" "_law_folded" (defArgs s__law_folded) (defBody s__law_folded) (defScope s__law_folded) .none kV6 dc6 pm6 an6 cd6 ct6), sl6⟩)
    (zd__law_folded : PySem.W.codeIn K cd6 "_law_folded" = true)
    (ze__law_folded : PySem.W.keepIn K (.ref a__law_folded) = true)
    (zl_is_count : K.lookup a_is_count = some ⟨oc7, od7, .func (PySem.W.fnOf "is_count" "is_count" (defArgs s_is_count) (defBody s_is_count) (defScope s_is_count) .none kV7 dc7 pm7 an7 cd7 ct7), sl7⟩)
    (zd_is_count : PySem.W.codeIn K cd7 "is_count" = true)
    (ze_is_count : PySem.W.keepIn K (.ref a_is_count) = true)
    (zl_folded : K.lookup a_folded = some ⟨oc8, od8, .func (PySem.W.fnOf "folded" "folded" (defArgs s_folded) (defBody s_folded) (defScope s_folded) .none kV8 dc8 pm8 an8 cd8 ct8), sl8⟩)
    (zd_folded : PySem.W.codeIn K cd8 "folded" = true)
    (ze_folded : PySem.W.keepIn K (.ref a_folded) = true)
    (zl_Alphabet_init : K.lookup a_Alphabet_init = some ⟨oc9, od9, .func (PySem.W.fnOf "__init__" "Alphabet.__init__" (defArgs s_Alphabet_init) (defBody s_Alphabet_init) (defScope s_Alphabet_init) .none kV9 dc9 pm9 an9 cd9 ct9), sl9⟩)
    (zd_Alphabet_init : PySem.W.codeIn K cd9 "Alphabet.__init__" = true)
    (ze_Alphabet_init : PySem.W.keepIn K (.ref a_Alphabet_init) = true)
    (zl__law_signs : K.lookup a__law_signs = some ⟨oc10, od10, .func (PySem.W.fnOf "_law_signs" "_law_signs" (defArgs s__law_signs) (defBody s__law_signs) (defScope s__law_signs) .none kV10 dc10 pm10 an10 cd10 ct10), sl10⟩)
    (zd__law_signs : PySem.W.codeIn K cd10 "_law_signs" = true)
    (ze__law_signs : PySem.W.keepIn K (.ref a__law_signs) = true)
    (zl__law_drawn : K.lookup a__law_drawn = some ⟨oc11, od11, .func (PySem.W.fnOf "_law_drawn" "_law_drawn" (defArgs s__law_drawn) (defBody s__law_drawn) (defScope s__law_drawn) .none kV11 dc11 pm11 an11 cd11 ct11), sl11⟩)
    (zd__law_drawn : PySem.W.codeIn K cd11 "_law_drawn" = true)
    (ze__law_drawn : PySem.W.keepIn K (.ref a__law_drawn) = true)
    (zl_is_up_to : K.lookup a_is_up_to = some ⟨oc12, od12, .func (PySem.W.fnOf "is_up_to" "is_up_to" (defArgs s_is_up_to) (defBody s_is_up_to) (defScope s_is_up_to) .none kV12 dc12 pm12 an12 cd12 ct12), sl12⟩)
    (zd_is_up_to : PySem.W.codeIn K cd12 "is_up_to" = true)
    (ze_is_up_to : PySem.W.keepIn K (.ref a_is_up_to) = true)
    (zl_check_up_to : K.lookup a_check_up_to = some ⟨oc13, od13, .func (PySem.W.fnOf "check_up_to" "check_up_to" (defArgs s_check_up_to) (defBody s_check_up_to) (defScope s_check_up_to) .none kV13 dc13 pm13 an13 cd13 ct13), sl13⟩)
    (zd_check_up_to : PySem.W.codeIn K cd13 "check_up_to" = true)
    (ze_check_up_to : PySem.W.keepIn K (.ref a_check_up_to) = true)
    (zl_unfolded : K.lookup a_unfolded = some ⟨oc14, od14, .func (PySem.W.fnOf "unfolded" "unfolded" (defArgs s_unfolded) (defBody s_unfolded) (defScope s_unfolded) .none kV14 dc14 pm14 an14 cd14 ct14), sl14⟩)
    (zd_unfolded : PySem.W.codeIn K cd14 "unfolded" = true)
    (ze_unfolded : PySem.W.keepIn K (.ref a_unfolded) = true)
    (zl_Alphabet_code_of : K.lookup a_Alphabet_code_of = some ⟨oc15, od15, .func (PySem.W.fnOf "_code_of" "Alphabet._code_of" (defArgs s_Alphabet_code_of) (defBody s_Alphabet_code_of) (defScope s_Alphabet_code_of) .none kV15 dc15 pm15 an15 cd15 ct15), sl15⟩)
    (zd_Alphabet_code_of : PySem.W.codeIn K cd15 "Alphabet._code_of" = true)
    (ze_Alphabet_code_of : PySem.W.keepIn K (.ref a_Alphabet_code_of) = true)
    (zl_Alphabet_call : K.lookup a_Alphabet_call = some ⟨oc16, od16, .func (PySem.W.fnOf "__call__" "Alphabet.__call__" (defArgs s_Alphabet_call) (defBody s_Alphabet_call) (defScope s_Alphabet_call) .none kV16 dc16 pm16 an16 cd16 ct16), sl16⟩)
    (zd_Alphabet_call : PySem.W.codeIn K cd16 "Alphabet.__call__" = true)
    (ze_Alphabet_call : PySem.W.keepIn K (.ref a_Alphabet_call) = true)
    (zl_Alphabet_signed : K.lookup a_Alphabet_signed = some ⟨oc17, od17, .func (PySem.W.fnOf "signed" "Alphabet.signed" (defArgs s_Alphabet_signed) (defBody s_Alphabet_signed) (defScope s_Alphabet_signed) .none kV17 dc17 pm17 an17 cd17 ct17), sl17⟩)
    (zd_Alphabet_signed : PySem.W.codeIn K cd17 "Alphabet.signed" = true)
    (ze_Alphabet_signed : PySem.W.keepIn K (.ref a_Alphabet_signed) = true)
    (zl__law_one_holds : K.lookup a__law_one_holds = some ⟨oc18, od18, .func (PySem.W.fnOf "_law_one_holds" "_law_one_holds" (defArgs s__law_one_holds) (defBody s__law_one_holds) (defScope s__law_one_holds) .none kV18 dc18 pm18 an18 cd18 ct18), sl18⟩)
    (zd__law_one_holds : PySem.W.codeIn K cd18 "_law_one_holds" = true)
    (ze__law_one_holds : PySem.W.keepIn K (.ref a__law_one_holds) = true)
    (zl_law : K.lookup a_law = some ⟨oc19, od19, .func (PySem.W.fnOf "law" "law" (defArgs s_law) (defBody s_law) (defScope s_law) .none kV19 dc19 pm19 an19 cd19 ct19), sl19⟩)
    (zd_law : PySem.W.codeIn K cd19 "law" = true)
    (ze_law : PySem.W.keepIn K (.ref a_law) = true) :
    LamX.LawAtG l w K CX0 8 63 "script" mg fa h := by
  have e := hfa.symm.trans (PySem.W.mg_of X G zg_law)
  cases e
  have F_is_integer := fun_mk (st := s_is_integer) zl_is_integer zd_is_integer ze_is_integer
  have B_is_integer := F_is_integer.binds (ps := ["value"]) fun _ _ _ _ _ _ us hl => match us, hl with | [_], _ => rfl
  have F__is_row_of_signs := fun_mk (st := s__is_row_of_signs) zl__is_row_of_signs zd__is_row_of_signs ze__is_row_of_signs
  have B__is_row_of_signs := F__is_row_of_signs.binds (ps := ["value"]) fun _ _ _ _ _ _ us hl => match us, hl with | [_], _ => rfl
  have F__law_streams := fun_mk (st := s__law_streams) zl__law_streams zd__law_streams ze__law_streams
  have B__law_streams := F__law_streams.binds (ps := ["script"]) fun _ _ _ _ _ _ us hl => match us, hl with | [_], _ => rfl
  have F__law_next := fun_mk (st := s__law_next) zl__law_next zd__law_next ze__law_next
  have B__law_next := F__law_next.binds (ps := ["stream", "count"]) fun _ _ _ _ _ _ us hl => match us, hl with | [_, _], _ => rfl
  have F__law_free := fun_mk (st := s__law_free) zl__law_free zd__law_free ze__law_free
  have B__law_free := F__law_free.binds (ps := []) fun _ _ _ _ _ _ us hl => match us, hl with | [], _ => rfl
  have F__law_code := fun_mk (st := s__law_code) zl__law_code zd__law_code ze__law_code
  have B__law_code := F__law_code.binds (ps := ["signs", "own_number"]) fun _ _ _ _ _ _ us hl => match us, hl with | [_, _], _ => rfl
  have F__law_folded := fun_mk (st := s__law_folded) zl__law_folded zd__law_folded ze__law_folded
  have B__law_folded := F__law_folded.binds (ps := ["own_number"]) fun _ _ _ _ _ _ us hl => match us, hl with | [_], _ => rfl
  have F_is_count := fun_mk (st := s_is_count) zl_is_count zd_is_count ze_is_count
  have B_is_count := F_is_count.binds (ps := ["value"]) fun _ _ _ _ _ _ us hl => match us, hl with | [_], _ => rfl
  have F_folded := fun_mk (st := s_folded) zl_folded zd_folded ze_folded
  have B_folded := F_folded.binds (ps := ["number"]) fun _ _ _ _ _ _ us hl => match us, hl with | [_], _ => rfl
  have F_Alphabet_init := fun_mk (st := s_Alphabet_init) zl_Alphabet_init zd_Alphabet_init ze_Alphabet_init
  have B_Alphabet_init := F_Alphabet_init.binds (ps := ["self", "signs"]) fun _ _ _ _ _ _ us hl => match us, hl with | [_, _], _ => rfl
  have F__law_signs := fun_mk (st := s__law_signs) zl__law_signs zd__law_signs ze__law_signs
  have B__law_signs := F__law_signs.binds (ps := ["stream"]) fun _ _ _ _ _ _ us hl => match us, hl with | [_], _ => rfl
  have F__law_drawn := fun_mk (st := s__law_drawn) zl__law_drawn zd__law_drawn ze__law_drawn
  have B__law_drawn := F__law_drawn.binds (ps := ["stream"]) fun _ _ _ _ _ _ us hl => match us, hl with | [_], _ => rfl
  have F_is_up_to := fun_mk (st := s_is_up_to) zl_is_up_to zd_is_up_to ze_is_up_to
  have B_is_up_to := F_is_up_to.binds (ps := ["value", "limit"]) fun _ _ _ _ _ _ us hl => match us, hl with | [_, _], _ => rfl
  have F_check_up_to := fun_mk (st := s_check_up_to) zl_check_up_to zd_check_up_to ze_check_up_to
  have B_check_up_to := F_check_up_to.binds (ps := ["value", "limit"]) fun _ _ _ _ _ _ us hl => match us, hl with | [_, _], _ => rfl
  have F_unfolded := fun_mk (st := s_unfolded) zl_unfolded zd_unfolded ze_unfolded
  have B_unfolded := F_unfolded.binds (ps := ["number"]) fun _ _ _ _ _ _ us hl => match us, hl with | [_], _ => rfl
  have F_Alphabet_code_of := fun_mk (st := s_Alphabet_code_of) zl_Alphabet_code_of zd_Alphabet_code_of ze_Alphabet_code_of
  have B_Alphabet_code_of := F_Alphabet_code_of.binds (ps := ["self", "number"]) fun _ _ _ _ _ _ us hl => match us, hl with | [_, _], _ => rfl
  have F_Alphabet_call := fun_mk (st := s_Alphabet_call) zl_Alphabet_call zd_Alphabet_call ze_Alphabet_call
  have B_Alphabet_call := F_Alphabet_call.binds (ps := ["self", "number"]) fun _ _ _ _ _ _ us hl => match us, hl with | [_, _], _ => rfl
  have F_Alphabet_signed := fun_mk (st := s_Alphabet_signed) zl_Alphabet_signed zd_Alphabet_signed ze_Alphabet_signed
  have B_Alphabet_signed := F_Alphabet_signed.binds (ps := ["self", "number"]) fun _ _ _ _ _ _ us hl => match us, hl with | [_, _], _ => rfl
  have F__law_one_holds := fun_mk (st := s__law_one_holds) zl__law_one_holds zd__law_one_holds ze__law_one_holds
  have B__law_one_holds := F__law_one_holds.binds (ps := ["alphabet", "signs", "own_number"]) fun _ _ _ _ _ _ us hl => match us, hl with | [_, _, _], _ => rfl
  have F_law := fun_mk (st := s_law) zl_law zd_law ze_law
  have B_law := F_law.binds (ps := ["script"]) fun _ _ _ _ _ _ us hl => match us, hl with | [_], _ => rfl
  have KB_Alphabet_signed_1_number := F_Alphabet_signed.kbn (ps := ["self", "number"]) (ks := ["number"]) (n := 1) [0, 1] fun _ _ _ _ _ _ us ws h1 h2 => match us, ws, h1, h2 with | [_], [_], _, _ => rfl
  have KB_folded_number := F_folded.kbn (ps := ["number"]) (ks := ["number"]) (n := 0) [0] fun _ _ _ _ _ _ us ws h1 h2 => match us, ws, h1, h2 with | [], [_], _, _ => rfl
  have KB_unfolded_number := F_unfolded.kbn (ps := ["number"]) (ks := ["number"]) (n := 0) [0] fun _ _ _ _ _ _ us ws h1 h2 => match us, ws, h1, h2 with | [], [_], _, _ => rfl
  letI : Tb K := ⟨[]⟩
  have T : Txt K mg ⟨c_Alphabet, a_is_integer, a__is_row_of_signs, a__law_streams, a__law_next, a__law_free, a__law_code, a__law_folded, a_is_count, a_folded, a_Alphabet_init, a__law_signs, a__law_drawn, a_is_up_to, a_check_up_to, a_unfolded, a_Alphabet_code_of, a_Alphabet_call, a_Alphabet_signed, a__law_one_holds, fa, t_CODE_LIMIT, t_FOLDED_LIMIT, t_MANY_DIGITS, t_MANY_SIGNS, t_PERCENT_SIGN, t_SIGNED_LIMIT⟩ ⟨_, _, _, _, _, _, _, _, _, _, _, _, _, _, _, _, _, _, _, _⟩ := {
    f_is_integer := F_is_integer,
    b_is_integer := B_is_integer,
    f__is_row_of_signs := F__is_row_of_signs,
    b__is_row_of_signs := B__is_row_of_signs,
    f__law_streams := F__law_streams,
    b__law_streams := B__law_streams,
    f__law_next := F__law_next,
    b__law_next := B__law_next,
    f__law_free := F__law_free,
    b__law_free := B__law_free,
    f__law_code := F__law_code,
    b__law_code := B__law_code,
    f__law_folded := F__law_folded,
    b__law_folded := B__law_folded,
    f_is_count := F_is_count,
    b_is_count := B_is_count,
    f_folded := F_folded,
    b_folded := B_folded,
    f_Alphabet_init := F_Alphabet_init,
    b_Alphabet_init := B_Alphabet_init,
    f__law_signs := F__law_signs,
    b__law_signs := B__law_signs,
    f__law_drawn := F__law_drawn,
    b__law_drawn := B__law_drawn,
    f_is_up_to := F_is_up_to,
    b_is_up_to := B_is_up_to,
    f_check_up_to := F_check_up_to,
    b_check_up_to := B_check_up_to,
    f_unfolded := F_unfolded,
    b_unfolded := B_unfolded,
    f_Alphabet_code_of := F_Alphabet_code_of,
    b_Alphabet_code_of := B_Alphabet_code_of,
    f_Alphabet_call := F_Alphabet_call,
    b_Alphabet_call := B_Alphabet_call,
    f_Alphabet_signed := F_Alphabet_signed,
    b_Alphabet_signed := B_Alphabet_signed,
    f__law_one_holds := F__law_one_holds,
    b__law_one_holds := B__law_one_holds,
    f_law := F_law,
    b_law := B_law,
    kb_Alphabet_signed_1_number := KB_Alphabet_signed_1_number,
    kb_folded_number := KB_folded_number,
    kb_unfolded_number := KB_unfolded_number,
    co_Alphabet := ⟨zoa_Alphabet, zof_Alphabet, zoi_Alphabet⟩,
    g__is_row_of_signs := PySem.W.mg_of X G zg__is_row_of_signs,
    g__law_code := PySem.W.mg_of X G zg__law_code,
    g__law_drawn := PySem.W.mg_of X G zg__law_drawn,
    g__law_folded := PySem.W.mg_of X G zg__law_folded,
    g__law_free := PySem.W.mg_of X G zg__law_free,
    g__law_next := PySem.W.mg_of X G zg__law_next,
    g__law_one_holds := PySem.W.mg_of X G zg__law_one_holds,
    g__law_signs := PySem.W.mg_of X G zg__law_signs,
    g__law_streams := PySem.W.mg_of X G zg__law_streams,
    g_check_up_to := PySem.W.mg_of X G zg_check_up_to,
    g_folded := PySem.W.mg_of X G zg_folded,
    g_is_count := PySem.W.mg_of X G zg_is_count,
    g_is_integer := PySem.W.mg_of X G zg_is_integer,
    g_is_up_to := PySem.W.mg_of X G zg_is_up_to,
    g_unfolded := PySem.W.mg_of X G zg_unfolded,
    gc_Alphabet := PySem.W.mg_of X G zc_Alphabet,
    k_CODE_LIMIT := PySem.W.mg_of X G zk_CODE_LIMIT,
    k_FOLDED_LIMIT := PySem.W.mg_of X G zk_FOLDED_LIMIT,
    k_MANY_DIGITS := PySem.W.mg_of X G zk_MANY_DIGITS,
    k_MANY_SIGNS := PySem.W.mg_of X G zk_MANY_SIGNS,
    k_PERCENT_SIGN := PySem.W.mg_of X G zk_PERCENT_SIGN,
    k_SIGNED_LIMIT := PySem.W.mg_of X G zk_SIGNED_LIMIT,
    me_Alphabet_code_of := ⟨zme_Alphabet_code_of, zmf_Alphabet_code_of, ze_Alphabet_code_of⟩,
    me_Alphabet_signed := ⟨zme_Alphabet_signed, zmf_Alphabet_signed, ze_Alphabet_signed⟩,
    mk_Alphabet := ⟨zkm_Alphabet, zki_Alphabet, zkf_Alphabet, zkk_Alphabet⟩,
    n_all := PySem.W.mg_none_of X G zn_all,
    n_bool := PySem.W.mg_none_of X G zn_bool,
    n_enumerate := PySem.W.mg_none_of X G zn_enumerate,
    n_int := PySem.W.mg_none_of X G zn_int,
    n_isinstance := PySem.W.mg_none_of X G zn_isinstance,
    n_len := PySem.W.mg_none_of X G zn_len,
    n_list := PySem.W.mg_none_of X G zn_list,
    n_min := PySem.W.mg_none_of X G zn_min,
    n_ord := PySem.W.mg_none_of X G zn_ord,
    n_range := PySem.W.mg_none_of X G zn_range,
    n_repr := PySem.W.mg_none_of X G zn_repr,
    n_set := PySem.W.mg_none_of X G zn_set,
    n_sorted := PySem.W.mg_none_of X G zn_sorted,
    n_str := PySem.W.mg_none_of X G zn_str,
    tc := { cl_Alphabet := ⟨zcg_Alphabet, zch_Alphabet, zcp_Alphabet, zcs_Alphabet⟩, na_Alphabet__signs := zna_Alphabet__signs, na_Alphabet__indexes := zna_Alphabet__indexes, crd_Alphabet := ⟨zcrd_Alphabet, zcrg_Alphabet⟩, cv_Alphabet_MARKS := ⟨_, zcv_Alphabet_MARKS, ⟨_, rfl⟩⟩ } }
  exact ⟨_, [], spL K, fun p hp => absurd hp (by simp), fun s v => .of_eq rfl, fun H a ns hl hT hS => law_start hl hS (tb := []) rfl .nil (fun p hp => absurd hp (by simp)), fun base _ _ hTB => ok_all T⟩
end Lw
open PySem PySem.W PyProof.Rows in
set_option maxRecDepth 100000 in
set_option maxHeartbeats 0 in
theorem PySem.Challenge.cw_mapstack_k26_whole_folded_numbers_holds : PySem.Challenge.rw_mapstack_k26_whole_folded_numbers.Holds := by
  w_on; o_law; k_head; (case hw => w_witness2)
  k_fill
  refine LamX.walkG (l := PySem.Challenge.rw_mapstack_k26_whole_folded_numbers) (n := 63) (k := 8) (x := "script") (CX := fun _ => L2.CX0) rfl (by decide) rfl ⟨rfl, by decide, by decide⟩ (fun w h Y => PySem.W.kIn_of Y) ?F fun _ _ _ _ _ z => z
  case F =>
    intro w mg fa h Y KX G hmg
    refine' Lw.all_mk KX G hmg ?zoa_Alphabet ?zof_Alphabet ?zoi_Alphabet ?zg__is_row_of_signs ?zg__law_code ?zg__law_drawn ?zg__law_folded ?zg__law_free ?zg__law_next ?zg__law_one_holds ?zg__law_signs ?zg__law_streams ?zg_check_up_to ?zg_folded ?zg_is_count ?zg_is_integer ?zg_is_up_to ?zg_unfolded ?zc_Alphabet ?zk_CODE_LIMIT ?zk_FOLDED_LIMIT ?zk_MANY_DIGITS ?zk_MANY_SIGNS ?zk_PERCENT_SIGN ?zk_SIGNED_LIMIT ?zme_Alphabet_code_of ?zmf_Alphabet_code_of ?zme_Alphabet_signed ?zmf_Alphabet_signed ?zki_Alphabet ?zkf_Alphabet ?zkm_Alphabet ?zkk_Alphabet ?zn_all ?zn_bool ?zn_enumerate ?zn_int ?zn_isinstance ?zn_len ?zn_list ?zn_min ?zn_ord ?zn_range ?zn_repr ?zn_set ?zn_sorted ?zn_str ?zg_law ?zcg_Alphabet ?zch_Alphabet ?zcp_Alphabet ?zcs_Alphabet ?zna_Alphabet__signs ?zna_Alphabet__indexes ?zcrd_Alphabet ?zcrg_Alphabet ?zcv_Alphabet_MARKS ?zl_is_integer ?zd_is_integer ?ze_is_integer ?zl__is_row_of_signs ?zd__is_row_of_signs ?ze__is_row_of_signs ?zl__law_streams ?zd__law_streams ?ze__law_streams ?zl__law_next ?zd__law_next ?ze__law_next ?zl__law_free ?zd__law_free ?ze__law_free ?zl__law_code ?zd__law_code ?ze__law_code ?zl__law_folded ?zd__law_folded ?ze__law_folded ?zl_is_count ?zd_is_count ?ze_is_count ?zl_folded ?zd_folded ?ze_folded ?zl_Alphabet_init ?zd_Alphabet_init ?ze_Alphabet_init ?zl__law_signs ?zd__law_signs ?ze__law_signs ?zl__law_drawn ?zd__law_drawn ?ze__law_drawn ?zl_is_up_to ?zd_is_up_to ?ze_is_up_to ?zl_check_up_to ?zd_check_up_to ?ze_check_up_to ?zl_unfolded ?zd_unfolded ?ze_unfolded ?zl_Alphabet_code_of ?zd_Alphabet_code_of ?ze_Alphabet_code_of ?zl_Alphabet_call ?zd_Alphabet_call ?ze_Alphabet_call ?zl_Alphabet_signed ?zd_Alphabet_signed ?ze_Alphabet_signed ?zl__law_one_holds ?zd__law_one_holds ?ze__law_one_holds ?zl_law ?zd_law ?ze_law 
    (case zg__is_row_of_signs => k_is)
    (case zg__law_code => k_is)
    (case zg__law_drawn => k_is)
    (case zg__law_folded => k_is)
    (case zg__law_free => k_is)
    (case zg__law_next => k_is)
    (case zg__law_one_holds => k_is)
    (case zg__law_signs => k_is)
    (case zg__law_streams => k_is)
    (case zg_check_up_to => k_is)
    (case zg_folded => k_is)
    (case zg_is_count => k_is)
    (case zg_is_integer => k_is)
    (case zg_is_up_to => k_is)
    (case zg_unfolded => k_is)
    (case zc_Alphabet => k_is)
    (case zk_CODE_LIMIT => k_is)
    (case zk_FOLDED_LIMIT => k_is)
    (case zk_MANY_DIGITS => k_is)
    (case zk_MANY_SIGNS => k_is)
    (case zk_PERCENT_SIGN => k_is)
    (case zk_SIGNED_LIMIT => k_is)
    (case zn_all => k_is)
    (case zn_bool => k_is)
    (case zn_enumerate => k_is)
    (case zn_int => k_is)
    (case zn_isinstance => k_is)
    (case zn_len => k_is)
    (case zn_list => k_is)
    (case zn_min => k_is)
    (case zn_ord => k_is)
    (case zn_range => k_is)
    (case zn_repr => k_is)
    (case zn_set => k_is)
    (case zn_sorted => k_is)
    (case zn_str => k_is)
    (case zg_law => k_is)
    (case zoa_Alphabet => k_is)
    (case zme_Alphabet_code_of => k_is)
    (case zme_Alphabet_signed => k_is)
    (case zki_Alphabet => k_is)
    (case zl_is_integer => k_is)
    (case zl__is_row_of_signs => k_is)
    (case zl__law_streams => k_is)
    (case zl__law_next => k_is)
    (case zl__law_free => k_is)
    (case zl__law_code => k_is)
    (case zl__law_folded => k_is)
    (case zl_is_count => k_is)
    (case zl_folded => k_is)
    (case zl_Alphabet_init => k_is)
    (case zl__law_signs => k_is)
    (case zl__law_drawn => k_is)
    (case zl_is_up_to => k_is)
    (case zl_check_up_to => k_is)
    (case zl_unfolded => k_is)
    (case zl_Alphabet_code_of => k_is)
    (case zl_Alphabet_call => k_is)
    (case zl_Alphabet_signed => k_is)
    (case zl__law_one_holds => k_is)
    (case zl_law => k_is)
    (case zof_Alphabet => k_is)
    (case zoi_Alphabet => k_is)
    (case zmf_Alphabet_code_of => k_is)
    (case zmf_Alphabet_signed => k_is)
    (case zkf_Alphabet => k_is)
    (case zkm_Alphabet => k_is)
    (case zkk_Alphabet => k_is)
    (case zcg_Alphabet => k_is)
    (case zch_Alphabet => k_is)
    (case zcp_Alphabet => k_is)
    (case zcs_Alphabet => k_is)
    (case zna_Alphabet__signs => k_is)
    (case zna_Alphabet__indexes => k_is)
    (case zcrd_Alphabet => k_is)
    (case zcrg_Alphabet => k_is)
    (case zcv_Alphabet_MARKS => k_is)
    (case zd_is_integer => k_is)
    (case ze_is_integer => k_is)
    (case zd__is_row_of_signs => k_is)
    (case ze__is_row_of_signs => k_is)
    (case zd__law_streams => k_is)
    (case ze__law_streams => k_is)
    (case zd__law_next => k_is)
    (case ze__law_next => k_is)
    (case zd__law_free => k_is)
    (case ze__law_free => k_is)
    (case zd__law_code => k_is)
    (case ze__law_code => k_is)
    (case zd__law_folded => k_is)
    (case ze__law_folded => k_is)
    (case zd_is_count => k_is)
    (case ze_is_count => k_is)
    (case zd_folded => k_is)
    (case ze_folded => k_is)
    (case zd_Alphabet_init => k_is)
    (case ze_Alphabet_init => k_is)
    (case zd__law_signs => k_is)
    (case ze__law_signs => k_is)
    (case zd__law_drawn => k_is)
    (case ze__law_drawn => k_is)
    (case zd_is_up_to => k_is)
    (case ze_is_up_to => k_is)
    (case zd_check_up_to => k_is)
    (case ze_check_up_to => k_is)
    (case zd_unfolded => k_is)
    (case ze_unfolded => k_is)
    (case zd_Alphabet_code_of => k_is)
    (case ze_Alphabet_code_of => k_is)
    (case zd_Alphabet_call => k_is)
    (case ze_Alphabet_call => k_is)
    (case zd_Alphabet_signed => k_is)
    (case ze_Alphabet_signed => k_is)
    (case zd__law_one_holds => k_is)
    (case ze__law_one_holds => k_is)
    (case zd_law => k_is)
    (case ze_law => k_is)
