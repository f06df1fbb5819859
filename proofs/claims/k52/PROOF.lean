import PyProof.Rows.All
import Wide.All
import OpenK.AllK
import Wide.FinOn
import HandS.ForMost
import HandS.Evl
import HandS.Walk
import HandS.IsInst
import HandS.Flow
import HandS.TupLe
import HandS.TupAny
import HandS.Property
import HandS.StrMore
import HandS.Conv
import HandS.Star
import HandS.Style
import HandS.Steps
import HandS.WordsExc
import HandS.ExcInit
import PyProof.Rows.SeqMore
import KE.DataEq
import KE.DataCmp
import KE.DatumOrd
import KE.DataMinMax
import HandS.ExcIs
import HandS.ExcField
import HandS.Lambda
import HandS.ExcValue
import HandS.EndTab
import HandS.Defaults
import HandS.MakeKw
import KE.KExcIs
import KE.KTryMore
import KE.KDflt
import KE.KNestM
import HandS.OwnEq
import PyProof.InstNe
import HandS.TupMul
import HandS.ClsMeth
import PyProof.Rows.StrRev
import HandS.MakeKwOnly
import PyProof.ExcBaseAll.RuntimeError
import HandS.Strs
import HandS.DictComp
import HandS.WideBits
import HandS.SortInts
import KE.GoesMore
import OpenK.KMeth
import OpenK.KOps
import KE.SortKeyHeap
import KE.KSortKey
import HandS.SortKw
import PyProof.Rows.Own
import PyProof.AutoSeq1
import HandS.SetKeys
import HandS.More
import KE.KDictSum
import PyProof.EqKinds
import PyProof.EqAt
import PyProof.ReprBulk
import PySem.Challenge.RW_mapstack_k52_joined_ranges
set_option Elab.async false
set_option linter.all false
set_option maxRecDepth 100000
set_option maxHeartbeats 2000000
section
open PySem PySem.W PyProof.Rows
set_option maxRecDepth 100000
set_option maxHeartbeats 0
open_top Lw.hd for PySem.Challenge.rw_mapstack_k52_joined_ranges
end

/-! Exceptions that were caught and are kept: tracked as things of their own. -/
namespace L2
open PySem PySem.Spec PyProof.Rows
/-- at a: an exception object of the class C with the dict d, caught or not -/
def xo (a : Addr) (C : Value) (d : Option Addr) : HO := .ext fun h => ∃ (oe : Obj) (vs : Array Value), h.get? a = some oe ∧ oe.cls = C ∧ oe.dict = d ∧ oe.data = .fields vs
theorem xo_ok {P : Program} {w : World} {H : Hp} {h : Heap} {a : Addr} {C : Value} {d : Option Addr} {oe : Obj} {vs : Array Value} (e : h.get? a = some oe) (z : Zc C d oe) (q : oe.data = .fields vs) : ObjOk P w H h a (xo a C d) :=
  ⟨⟨oe, vs, e, z.1, z.2, q⟩, ⟨oe, e⟩, fun _ _ ⟨o, v, y, r⟩ k => ⟨o, v, k o y, r⟩⟩
theorem xo_at {P : Program} {w : World} {H : Hp} {h : Heap} {a : Addr} {C : Value} {d : Option Addr} (hok : HOk P w H h) (e : H a = some (xo a C d)) : ∃ (oe : Obj) (vs : Array Value), h.get? a = some oe ∧ oe.cls = C ∧ oe.dict = d ∧ oe.data = .fields vs := by
  have x : ObjOk P w H h a (.ext fun h => ∃ (oe : Obj) (vs : Array Value), h.get? a = some oe ∧ oe.cls = C ∧ oe.dict = d ∧ oe.data = .fields vs) := hok a _ e
  exact x.1
section
variable {X : Cx} {pins : List (Addr × Obj)} {σ : St} {H : Hp} {s sI s' : Shared} {B : Heap}
/-- as Inv.landed, the exception tracked from now on -/
theorem Inv.landedT {a : Addr} {C : Value} {d : Option Addr} {oe : Obj} {vs : Array Value} (I : Inv X pins σ H sI) (nb : ∀ b o, sI.heap.get? b = some o → b ∉ frs X.stack → B.get? b = some o) (st : B.StaysIn s'.heap) (up : sI.heap.UpToSlots s'.heap) (os : s'.os = sI.os) (ag : AllBare s'.gens)
    (na : H a = none) (nI : sI.heap.get? a = none) (he : s'.heap.get? a = some oe) (hz : Zc C d oe) (hd : oe.data = .fields vs) : Inv X pins σ (upd H a (xo a C d)) s' := by
  have ne : ∀ {b : Addr} {o : Obj}, sI.heap.get? b = some o → b ≠ a := fun {b o} q z => by rw [z, nI] at q; cases q
  have fr : ∀ b ∈ frs X.stack, ∀ o, sI.heap.get? b = some o → ∃ sl, s'.heap.get? b = some { o with slots := sl } := fun b hb o e => by
    obtain ⟨_, o', e', q⟩ := I.stack.mem hb
    rw [e] at e'
    cases e'
    exact up b o e q
  have hG := (I.inGround nb).kept (h' := s'.heap) st
  have hok : HOk X.prog X.w (upd H a (xo a C d)) s'.heap := fun b o q => by
    by_cases hb : b = a
    · rw [hb, upd_same] at q
      rw [hb]
      cases q
      exact xo_ok he hz hd
    · rw [upd_ne hb] at q
      exact (hG b o q).stay (fun _ _ _ z => z) (fun c z => by rw [upd_ne (ne_of_none z na)]; exact z) fun c xs z => by rw [upd_ne (ne_of_none z na)]; exact z
  have U : Un (frs X.stack) [] H (upd H a (xo a C d)) sI.heap s'.heap := {
    keep := fun b o e _ hb _ => st b o (nb b o e hb)
    slot := fun b o e _ hb _ => fr b hb o e
    free := fun b o e n _ => by rw [upd_ne (ne e)]; exact n
    there := fun b o e _ => by
      by_cases hb : b ∈ frs X.stack
      · obtain ⟨sl, q⟩ := fr b hb o e
        exact ⟨_, q⟩
      · exact ⟨o, st b o (nb b o e hb)⟩
    tups := fun b xs e => by rw [upd_ne (ne_of_none e na)]; exact e
    frzs := fun b o u e => by rw [upd_ne (ne_of_none e na)]; exact e
    tbls := fun b ps e => ⟨#[], by rw [upd_ne (ne_of_none e na), e]; simp⟩ }
  exact I.call' (ch := []) os U hok ag fun _ z => nomatch z
/-- into an except suite, nothing pinned -/
theorem Inv.suiteT (I : Inv X pins σ H s) (a : Addr) : Inv (X.suite a (X.pn ++ pins)) [] σ H s :=
  ⟨I.ok.suite _ _, I.os, I.bare, I.base, I.loc, I.cell, I.free, I.freeC, fun p hp => I.pin p (by rw [List.append_nil] at hp; exact hp), I.hok, I.len⟩
theorem Inv.unsuiteT {a : Addr} {pn' : List (Addr × Obj)} (I : Inv (X.suite a (X.pn ++ pins)) pn' σ H s) (ok : X.Ok) : Inv X pins σ H s :=
  ⟨ok, I.os, I.bare, I.base, I.loc, I.cell, I.free, I.freeC, fun p hp => I.pin p (List.mem_append_left _ hp), I.hok, I.len⟩
end
theorem flyingZ_keeps {B h h' : Heap} {l : List Env} {e : Addr} {Z : Obj → Prop} (x : HandSPX.FlyingZ B l e Z h) (k : ∀ b o, h.get? b = some o → h'.get? b = some o) : HandSPX.FlyingZ B l e Z h' := by
  obtain ⟨f1, f2, f3, oe, vs, T, oT, ts, he, hz, hd, h1, hn, hne, hT, hdT, h3⟩ := x
  exact ⟨fun b o q => k b o (f1 b o q), f2, f3.of_keeps fun b o q _ => ⟨o, k b o q, rfl⟩, oe, vs, T, oT, ts, k _ _ he, hz, hd, h1, hn, hne, k _ _ hT, hdT, h3⟩
/-- an except clause's test: it names the classes cs -/
def Clause (X : Cx) (t : Expr) (cs : List Value) : Prop :=
  ∀ (a : Addr) (pn : List (Addr × Obj)) (σ : St) (H : Hp) (s : Shared) (cls : Value) (b : Bool) (Q : Bool → Shared → Prop) (E : Value → Shared → Prop), Inv (X.suite a pn) [] σ H s → PySem.W.Looks (model X.prog X.w) s.heap (typeOf (.ref a)) cls →
    PySem.W.exmAny X.K cls cs = some b → (∀ h', (∀ q o, s.heap.get? q = some o → h'.get? q = some o) → Q b { s with heap := h' }) →
    wpAny (model X.prog X.w) (X.A.mark (some (.ref a))) (eval t X.env) (fun c s1 => wpAny (model X.prog X.w) (X.A.mark (some (.ref a))) (excMatches (.ref a) c) Q E s1) E s
section
variable {X : Cx} {a : Addr} {pn : List (Addr × Obj)} {σ : St} {H : Hp} {s : Shared} {x x1 x2 x3 x4 : Str} {c c1 c2 c3 c4 : Value} {p p1 p2 p3 p4 : Pos} {k : Nat}
theorem names_at (I : Inv (X.suite a pn) [] σ H s) (n : Names X x c) {Q : Value → Shared → Prop} {E : Value → Shared → Prop} (q : Q c s) : wpAny (model X.prog X.w) (X.A.mark (some (.ref a))) (eval (.Name x p) X.env) Q E s := by
  obtain ⟨hg, hd, hm | ⟨hm, hv, hn⟩⟩ := n
  · exact ld_glob (X := X.suite a pn) I hg hm q hd
  · exact ld_blt (X := X.suite a pn) I hg hm hv q hn hd
theorem clause1 (n : Names X x c) : Clause X (.Name x p) [c] := fun a pn σ H s cls b Q E I LT e q => by
  obtain ⟨b1, d1, e1, e2, eb⟩ := PySem.W.exmAny_cons e
  have : b1 = b := by cases e2; rw [eb, Bool.or_false]
  subst this
  exact names_at I n ((PySem.W.exm_one (M := model X.prog X.w) I.kIn LT e1).here (q s.heap fun _ _ z => z))
end
/-- the wish of a clause that keeps what it catches: it catches all, slot i is the name's -/
def wKeep (K : PySem.W.Frag) (cs : List Value) (i : Nat) (ts : TS) (D : Ends) : WX := fun cls d σ H =>
  PySem.W.exmAny K cls cs = some true ∧ ∀ a, H a = none → ts { nx := fun σ' H' => D.nx (σ'.set i none) H', rt := D.rt, bk := fun σ' H' => D.bk (σ'.set i none) H', ct := fun σ' H' => D.ct (σ'.set i none) H' } (σ.set i (some (.ref a))) (upd H a (xo a cls d))
def tTryK (K : PySem.W.Frag) (cs : List Value) (i : Nat) (ts : TS) (tb : WX → TS) : TS := fun D σ H => tb (wKeep K cs i ts D) D σ H
section
variable {X : Cx} {t : Expr} {n : Str} {cs : List Value} {i : Nat} {body suite : List Stmt} {b₀ : Stmt} {pos pos' : Pos} {tb : WX → TS} {ts : TS}
theorem ps_try_keep (hs : X.stack = X.env :: X.outer) (hf : X.env.frame = some X.env.locals) (hx : X.ex = []) (hN : X.N.Nodup) (hi : X.N[i]? = some n) (hln : X.env.kindOf n = some .local) (hc : Clause X t cs)
    (hb : ∀ (W : WX) (pn : List (Addr × Obj)) (xe : Value → Shared → Prop), Takes (X.tr pn xe) W → PassesOwn (model X.prog X.w) X.A X.env xe → PSs (X.tr pn xe) body (tb W)) (hsu : ∀ (a : Addr) (pn : List (Addr × Obj)), PSs (X.suite a pn) (b₀ :: suite) ts) :
    PS X (.Try body [.ExceptHandler (some t) (some n) (b₀ :: suite) pos'] [] [] pos) (tTryK X.K cs i ts tb) := by
  refine ⟨fun pins s σ H D I h => ?_⟩
  have ok := I.ok
  have hfr : X.A.frames = some (X.env :: X.outer) := by rw [ok.frames, hs]
  refine wpAny_Try_except (wpAny_mono ((hb (wKeep X.K cs i ts D) (X.pn ++ pins) (fun e s₁ => wpAny (model X.prog X.w) X.A (noteFrame e X.env) (fun _ s₂ => wpAny (model X.prog X.w) X.A (setFlight e none) (fun _ s₃ =>
    wpAny (model X.prog X.w) X.A (handleBy e X.env [.ExceptHandler (some t) (some n) (b₀ :: suite) pos']) (SP X pins D) X.xe s₃) X.xe s₂) X.xe s₁) (fun u s' xx => ?_) PassesOwn.looking).run [] s σ H D (I.toTry _) h) (fun f s1 hsp => ?_) (fun e s1 he => he))
  · obtain ⟨a, B, sI, pins', σ', H', cls, d, rfl, J', nb, up, sky, na, os, ag, hm, hyes⟩ := xx
    have J : Inv X pins σ' H' sI := J'.ofTry ok
    have sky' : Sky B (X.env :: X.outer) a (Zc cls d) X.env.locals s'.heap := by rw [← hs]; exact sky
    show wpAny (model X.prog X.w) X.A (noteFrame (.ref a) X.env) _ _ _
    refine Sky.land Zc.steady hfr hf sky' fun h3 fl3 up3 => ?_
    have J3 : Inv X pins σ' H' { s' with heap := h3 } := J.landed nb fl3.1 (up.trans up3) os ag
    obtain ⟨oe3, vs3, he3, hz3, hd3⟩ := fl3.there
    have nfr : a ∉ frs X.stack := fun hm => by
      rw [hs] at hm
      obtain ⟨_, o', e', q⟩ := fl3.2.2.1.mem hm
      rw [he3] at e'
      cases e'
      exact q _ hd3
    have nI : sI.heap.get? a = none := by
      cases q : sI.heap.get? a with
      | none => rfl
      | some o =>
        have z := nb a o q nfr
        rw [fl3.2.1] at z
        cases z
    have S3 := J3.suiteT a
    refine wpAny_handleBy_cons (codeAny_handlers_test (hc a _ σ' H' _ cls true _ _ S3 (fun A Q E s k q => wpAny_typeOf_ref (k _ _ he3) (by rw [hz3.1]; exact q)) hm fun h4 k4 => ?_)) (by intro q; cases q)
    have fl4 := flyingZ_keeps fl3 k4
    refine codeAny_handlers_suite_as (HandSPX.lands_againZ fl4 fun h5 fl5 up5 => ?_)
    obtain ⟨oe5, vs5, he5, hz5, hd5⟩ := fl5.there
    have J5 : Inv X pins σ' (upd H' a (xo a cls d)) { s' with heap := h5 } := J.landedT nb fl5.1 (((up.trans up3).trans (Heap.UpToSlots.of_keeps k4)).trans up5) os ag na nI he5 hz5 hd5
    refine store_ok (X := X.suite a (X.pn ++ pins)) (v := .ref a) (J5.suiteT a) hN hi (.inl hln) rfl (fun s6 S6 => ?_) (.inr hln)
    refine wpAny_mono ((hsu a (X.pn ++ pins)).run [] s6 _ _ _ S6 (hyes a na)) (fun f s7 hsp => ?_) (fun _ _ z => False.elim z)
    have fin : ∀ {σ7 : St} {H7 : Hp} {Q : Shared → Prop}, Inv (X.suite a (X.pn ++ pins)) [] σ7 H7 s7 → (∀ s8, Inv X pins (σ7.set i none) H7 s8 → Q s8) → wpAny (model X.prog X.w) X.A (do bindName X.env n .none; unbindBehindTheSuite X.env n pos') (fun _ s8 => Q s8) X.xe s7 :=
      fun {σ7 H7 Q} S7 hq => gone_ok (S7.unsuiteT ok) hN hi hln hq
    cases f with
    | next => obtain ⟨σ7, H7, S7, q7⟩ := hsp; exact fin S7 fun s8 J8 => ⟨_, _, J8, q7⟩
    | brk => obtain ⟨σ7, H7, S7, q7⟩ := hsp; exact fin S7 fun s8 J8 => ⟨_, _, J8, q7⟩
    | cont => obtain ⟨σ7, H7, S7, q7⟩ := hsp; exact fin S7 fun s8 J8 => ⟨_, _, J8, q7⟩
    | ret u => obtain ⟨v7, σ7, H7, S7, r7, q7⟩ := hsp; exact fin S7 fun s8 J8 => ⟨_, _, _, J8, r7, q7⟩
  · cases f with
    | next => obtain ⟨σ', H', J', q⟩ := hsp; exact wpAny_execs_nil ⟨σ', H', J'.ofTry ok, q⟩
    | brk => obtain ⟨σ', H', J', q⟩ := hsp; exact ⟨σ', H', J'.ofTry ok, q⟩
    | cont => obtain ⟨σ', H', J', q⟩ := hsp; exact ⟨σ', H', J'.ofTry ok, q⟩
    | ret u => obtain ⟨v, σ', H', J', r, q⟩ := hsp; exact ⟨v, σ', H', J'.ofTry ok, r, q⟩
end
end L2

/-! Own exceptions of any base: made (raised, or as values), their one field, asked by isinstance. -/
namespace PySem
namespace XG
open PySem.W PySem.Calls PyProof.Rows PySem.HandSPX Builtin Builtin.ObjectAttr
/-- classes of the program, then the row tl -/
def ownThen (tl : List Value) : List Value → Bool
  | .ref _ :: r => ownThen tl r
  | l => l == tl
theorem ownThen_cases (tl : List Value) : ∀ l, ownThen tl l = true → (∃ c r, l = .ref c :: r ∧ ownThen tl r = true) ∨ l = tl := fun l e => by
  cases l with
  | nil => exact .inr (beq_iff_eq.mp e)
  | cons a r =>
    cases a with
    | ref c => exact .inl ⟨c, r, rfl, e⟩
    | _ => exact .inr (beq_iff_eq.mp e)
/-- what is asked of a base: its row tl -/
structure BaseX (tl : List Value) (B newId initId : String) : Prop where
  F : ExcBaseFacts B newId initId tl
  pass : ∀ self : Value, refuseLoop self "__setattr__" tl = pure ()
  ob : tl.contains (.type "object") = true
  ne : tl.isEmpty = false
theorem bx_VE : BaseX [.type "ValueError", .type "Exception", .type "BaseException", .type "object"] "ValueError" "ValueError.__new__" "ValueError.__init__" := ⟨F.excBase_ValueError, fun s => F.store_ValueError.passes s, by decide +kernel, rfl⟩
section
variable {tl : List Value} {B newId initId : String} {l : List Value}
theorem pass_of (b : BaseX tl B newId initId) (self : Value) (e : ownThen tl l = true) : refuseLoop self "__setattr__" l = pure () := by
  induction l with
  | nil => rcases ownThen_cases tl _ e with ⟨_, _, q, _⟩ | q
           · cases q
           · rw [q]; exact b.pass self
  | cons a r ih => rcases ownThen_cases tl _ e with ⟨c, r', q, h⟩ | q
                   · obtain ⟨rfl, rfl⟩ := List.cons.inj q
                     exact (refuseLoop_ref self _ c r).trans (ih h)
                   · rw [q]; exact b.pass self
theorem has_of (e : ownThen tl l = true) (Y : String) : l.contains (.type Y) = tl.contains (.type Y) := by
  induction l with
  | nil => rcases ownThen_cases tl _ e with ⟨_, _, q, _⟩ | q
           · cases q
           · rw [q]
  | cons a r ih => rcases ownThen_cases tl _ e with ⟨c, r', q, h⟩ | q
                   · obtain ⟨rfl, rfl⟩ := List.cons.inj q
                     rw [List.contains_cons, ih h]; rfl
                   · rw [q]
theorem ne_of (b : BaseX tl B newId initId) (e : ownThen tl l = true) : l.isEmpty = false := by
  cases l with
  | nil => rcases ownThen_cases tl _ e with ⟨_, _, q, _⟩ | q
           · cases q
           · rw [q]; exact b.ne
  | cons _ _ => rfl
end
section
variable {prog : Program} {w : World} {A : Around} {R : Result → Shared → Prop} {hp : Heap} {g : Array GenState} {d : Drawn} {t : Nat} {os : OsState} {tl : List Value} {B newId initId : String}
/-- self.name = v on a new exception -/
theorem osa_any {K : W.Frag} {name : Str} {tk : Tok} {v : Value} {x C : Addr} {fv : Array Value} {cd : ClassData} (b : BaseX tl B newId initId)
    (Xk : K.In hp) (hx : hp.get? x = some { cls := .ref C, data := .fields fv }) (hcd : W.clsIn K C = some cd) (hm : ownThen tl cd.mro = true) (hh : cd.hasDict = true) (ha : W.findIn K (.ref C) name = some none)
    (hq : ∀ h' tk' dx, (∀ y o, y ≠ x → hp.get? y = some o → h'.get? y = some o) → hp.objs.size ≤ dx → dx ≠ x → h'.get? x = some { cls := .ref C, dict := some dx, data := .fields fv } → h'.Ns1 dx (fun y => if y = name then some v else none) → R (.ok (.ret .none)) ⟨h', g, d, tk', os⟩) :
    codeAny (model prog w) A (.call (.builtin "object.__setattr__") ⟨[.ref x, .str name tk, v], []⟩) R ⟨hp, g, d, t, os⟩ := by
  have I0 : W.InstAt hp x { cls := .ref C, data := .fields fv } C none := ⟨hx, rfl, rfl, trivial⟩
  have hob : cd.mro.contains (.type "object") = true := (has_of hm "object").trans b.ob
  have hns : x ≠ hp.objs.size := Nat.ne_of_lt (Heap.lt_size hx)
  have sub : W.Looks (model prog w) hp (isInstance (.ref x) (.type "object")) true := I0.type.andThen (W.looks_mroIn Xk (by unfold W.mroIn; rw [hcd, Option.bind_some, if_neg (by rw [ne_of b hm]; decide), hob]))
  refine codeAny_call_builtin F.store_object.slot.plain F.store_object.entry (@W.check_slot (model prog w) _ _ ⟨hp, g, d, t, os⟩ "object.__setattr__" "object" "__setattr__" (.ref x) [.str name tk, v] [] _ F.store_object.kind F.store_object.split sub (F.store_object.args (.ref x) (.str name tk) v) ?_)
  have L1 : W.Looks (model prog w) hp (mroOf (.ref C)) cd.mro := (W.looks_clsIn Xk hcd).andThen .now
  have L2 : W.Looks (model prog w) hp (storeTaker? none) none := .now
  have L3 : W.Looks (model prog w) hp (classData C) cd := W.looks_clsIn Xk hcd
  rw [W.osa_eq, refuse_eq]
  refine wpAny_bind (wpAny_bind (I0.type.at (wpAny_bind (L1.at ?_))))
  rw [pass_of b _ hm]
  refine wpAny_pure (wpAny_bind (I0.type.at (wpAny_bind ((W.looks_findIn Xk ha).at (wpAny_bind (L2.at ?_))))))
  show wpAny _ _ (storeInOwnDict (.ref x) (.ref C) (.str name tk) name v false) _ _ _
  obtain ⟨c1, c2, c3, c4, c5, c6, c7, c8, c9, c10, c11⟩ := cd
  dsimp only at hh
  subst hh
  unfold storeInOwnDict ownDictForStores
  repeat (first | with_reducible refine store_in_new ?_ ?_ | with_reducible refine wpAny_loadPart_at hx ?_ | with_reducible refine L3.at ?_ | wp_step)
  · exact ⟨_, #[], _, (Heap.get?_update_ne _ _ _ _ hns.symm).trans (Heap.get?_push_at rfl rfl), rfl, fun e he => absurd he (by simp), fun _ => rfl⟩
  · intro h' tk' hn' hs
    have hx1 : (hp.push { cls := .type "dict", data := .dict #[] }).get? x = some { cls := .ref C, data := .fields fv } := Heap.get?_push_of_some _ hx
    refine hq h' tk' hp.objs.size (fun y o hy ho => ?_) (Nat.le_refl _) hns.symm ((hs.2 x hns).trans (Heap.get?_update_self _ hx1 rfl)) hn'
    exact (hs.2 y (Nat.ne_of_lt (Heap.lt_size ho))).trans ((Heap.get?_update_ne _ _ _ _ hy).trans (Heap.get?_push_of_some _ ho))
end
end XG
end PySem
namespace L2
open PySem PySem.Spec PyProof.Rows PySem.XG
/-- what the written part says of an own exception class whose row ends in tl -/
structure OexG (K : PySem.W.Frag) (C : Addr) (tl : List Value) (newId : String) : Prop where
  cls : ∃ nm q N bs bm sn sub ab col dd k0 k1 k2 k3 k5, K.lookup C = some (excClassObj nm q C N bs bm true sn sub ab col dd k0 k1 k2 k3 k5 newId) ∧ ownThen tl bm = true
  sa : PySem.W.findIn K (.ref C) "__setattr__" = some (some (.builtin "object.__setattr__"))
  ty : PySem.W.typeIn K (.ref C) = some (.type "type")
  kp : PySem.W.keepIn K (.ref C) = true
  ga : PySem.W.findIn K (.ref C) "__getattribute__" = some (some (.builtin "BaseException.__getattribute__"))
  gg : PySem.W.findIn K (.ref C) "__getattr__" = some none
  ex : PySem.W.subIn K (.ref C) (.type "BaseException") = some true
  hd : PySem.W.hasDictIn K C = true
  ha : PySem.W.findIn K (.ref C) "__class__" = some (some (.builtin "object.__class__"))
  hn : PySem.W.specialIn K (.builtin "object.__class__") "__get__" = some (some (.builtin "getset_descriptor.__get__"))
  ht : PySem.W.takesIn K (.builtin "object.__class__") = some true
  hm : PySem.W.mroIn K C (.type "object") = some true
/-- the class's own part, by a look at what is written -/
def oexB (K : PySem.W.Frag) (C : Addr) (tl : List Value) (newId : String) : Bool :=
  match K.lookup C with
  | some ⟨.type "type", _, .cls cd, sl⟩ =>
    match cd.mro, sl.toList with
    | .ref C' :: bm, [_, _, _, _, some (.builtin n), _] => C' == C && n == newId && !cd.hasDel && cd.hasDict && ownThen tl bm
    | _, _ => false
  | _ => false
theorem oexB_ok {K : PySem.W.Frag} {C : Addr} {tl : List Value} {newId : String} (h : oexB K C tl newId = true) :
    ∃ nm q N bs bm sn sub ab col dd k0 k1 k2 k3 k5, K.lookup C = some (excClassObj nm q C N bs bm true sn sub ab col dd k0 k1 k2 k3 k5 newId) ∧ ownThen tl bm = true := by
  unfold oexB at h
  split at h
  · rename_i dd cd sl ho
    split at h
    · rename_i C' bm k0 k1 k2 k3 n k5 hm hs
      simp only [Bool.and_eq_true, beq_iff_eq, Bool.not_eq_true'] at h
      obtain ⟨⟨⟨⟨rfl, rfl⟩, hdel⟩, hdict⟩, hown⟩ := h
      obtain ⟨c1, c2, c3, c4, c5, c6, c7, c8, c9, c10, c11⟩ := cd
      dsimp only at hm hdel hdict
      subst hm hdel hdict
      have e : sl = #[k0, k1, k2, k3, some (.builtin n), k5] := by
        obtain ⟨l⟩ := sl
        simp only at hs
        rw [hs]
      subst e
      exact ⟨_, _, _, _, bm, _, _, _, _, _, _, _, _, _, _, ho, hown⟩
    · cases h
  · cases h
section
variable {X : Cx} {pins : List (Addr × Obj)} {σ : St} {H : Hp} {s : Shared} {a C dx : Addr} {f : Str} {y : V} {u : Value} {A : Around} {tl : List Value} {B newId initId : String}
/-- self.f = y on a new exception -/
theorem ost_any (b : BaseX tl B newId initId) (T : OexG X.K C tl newId) (I : Inv X pins σ H s) (e : H a = some (exo a C none)) (hno : PySem.W.findIn X.K (.ref C) f = some none) (ry : RelV y u) {Q : Unit → Shared → Prop} {E : Value → Shared → Prop}
    (h : ∀ dx s', H dx = none → dx ≠ a → Inv X pins σ (upd (upd H dx (exd dx [(f, y)])) a (exo a C (some dx))) s' → Q () s') : wpAny (model X.prog X.w) A (setAttr (.ref a) f u) Q E s := by
  obtain ⟨nm, q, N, bs, bm, sn, sub, ab, col, dd, k0, k1, k2, k3, k5, hC, hbm⟩ := T.cls
  have hcl : PySem.W.clsIn X.K C = some { name := nm, bases := bs, mro := .ref C :: bm, ns := N, qualname := q, hasDict := true, slotNames := sn, subclasses := sub, abstract := ab, collection := col, hasDel := false } := by unfold PySem.W.clsIn; rw [hC]
  obtain ⟨t1, ho⟩ := exo_at I.hok e
  obtain ⟨hp, g, d, t, os⟩ := s
  refine PySem.W.set_plain I.kIn (ox := { cls := .ref C, dict := none, data := .fields #[.ref t1, .none, .none, .none, .bool false, .none] }) (od := none) ⟨ho, rfl, rfl, trivial⟩ T.sa (osa_any b I.kIn ho hcl (show ownThen tl (.ref C :: bm) = true from hbm) rfl hno fun h' tk' dx k dn dne hx hn => ?_)
  have hnd : H dx = none := I.hok.fresh dn
  have nd : ∀ {z : Addr} {o : Obj}, hp.get? z = some o → z ≠ dx := fun {z o} q => Nat.ne_of_lt (Nat.lt_of_lt_of_le (Heap.lt_size q) dn)
  have na : ∀ {z : Addr}, H z = none → z ≠ a := fun {z} n q => by rw [q, e] at n; cases n
  have U : Un X.fs [] H (upd (upd H dx (exd dx [(f, y)])) a (exo a C (some dx))) hp h' := {
    keep := fun z o q n _ _ => k z o (na n) q
    slot := fun z o q n _ _ => ⟨o.slots, k z o (na n) q⟩
    free := fun z o q n _ => by rw [upd_ne (na n), upd_ne (nd q), n]
    there := fun z o q _ => by
      by_cases hz : z = a
      · exact ⟨_, by rw [hz]; exact hx⟩
      · exact ⟨o, k z o hz q⟩
    tups := fun z xs q => by rw [upd_ne (at_ne e q exo_tup), upd_ne (ne_of_none q hnd), q]
    frzs := fun z o v q => by rw [upd_ne (at_ne e q exo_frz), upd_ne (ne_of_none q hnd), q]
    tbls := fun z ps q => ⟨#[], by rw [upd_ne (at_ne e q exo_tbl), upd_ne (ne_of_none q hnd), q]; simp⟩ }
  refine h dx _ hnd dne (I.un (t' := tk') U fun z o q => ?_)
  by_cases hz : z = a
  · subst hz
    rw [upd_same] at q
    cases q
    exact exo_ok hx
  · rw [upd_ne hz] at q
    by_cases hd : z = dx
    · subst hd
      rw [upd_same] at q
      cases q
      exact exd_ok hn (relO_put (fs := []) ry fun g => True.intro)
    · rw [upd_ne hd] at q
      refine (I.hok z o q).stay (fun c v hc y => k c v ?_ y) (fun c hc => ?_) fun c xs hc => ?_
      · rcases hc with hc | hc
        · rw [hc]; exact hz
        · exact at_ne e hc exo_own
      · rw [upd_ne (at_ne e hc exo_own), upd_ne (ne_of_none hc hnd), hc]
      · rw [upd_ne (at_ne e hc exo_tup), upd_ne (ne_of_none hc hnd), hc]
end
/-- self.f = e, of a new exception -/
def tOsx (K : PySem.W.Frag) (C : Addr) (f : Str) (to te : TE) : TS := fun D σ H => te σ H fun y H1 => to σ H1 fun x H2 => ∃ a : Addr, x = .ref a ∧ H2 a = some (exo a C none) ∧ ∀ dx, H2 dx = none → dx ≠ a → D.nx σ (upd (upd H2 dx (exd dx [(f, y)])) a (exo a C (some dx)))
section
variable {X : Cx} {o e : Expr} {es : List Expr} {to te : TE} {ta : TA} {f : Str} {p p' pos : Pos} {C : Addr} {tl : List Value} {B newId initId : String}
theorem ps_osx (b : BaseX tl B newId initId) (T : OexG X.K C tl newId) (hno : PySem.W.findIn X.K (.ref C) f = some none) (ho : PE X o to) (he : PE X e te) (hs : swapsWith e (some (.Attribute o f p')) pos.line X.env = pure false := by rfl) : PS X (.Assign [.Attribute o f p'] e pos) (tOsx X.K C f to te) := by
  refine ⟨fun pins s σ H D I h => plainObj_wpAny_Assign_Attribute (thn (he.run pins s σ H _ I h) fun v s1 ⟨y, H1, I1, r1, q1⟩ => thn (ho.run pins s1 σ H1 _ I1 q1) fun u s2 ⟨x, H2, I2, r2, a, ex, ea, q⟩ => ?_) hs⟩
  subst ex
  obtain rfl : u = Value.ref a := r2
  exact ost_any b T I2 ea hno r1 fun dx s' n ne J => ⟨σ, _, J, q dx n ne⟩
/-- what a call of the class leaves, whatever is made of it -/
theorem run_oex {Q : Value → Shared → Prop} {CX : CXT} {fI : Addr} {k : Nat} {fd : FuncData} {ps : List Str} {sp : Sp} {pins : List (Addr × Obj)} {σ : St} {H1 : Hp} {us : List Value} {vs : List V} {s1 : Shared} (b : BaseX tl B newId initId) (T : OexG X.K C tl newId)
    (iC : PySem.W.findIn X.K (.ref C) "__init__" = some (some (.ref fI))) (tI : PySem.W.typeIn X.K (.ref fI) = some (.type "function")) (F1 : FnOk X.prog X.w X.K X.mg X.base CX k fI fd ps sp) (hr : Room (k + 1) X.A) (hb : Binds X.K fd ps []) (hx : Passes CX X (fun _ _ _ => False)) (I1 : Inv X pins σ H1 s1) (r1 : Vals vs us) (hz : vs.length ≤ 1000)
    (q1 : ∀ a, H1 a = none → ∃ Qd : Addr → Hp → Prop, sp (.ref a :: vs) (upd H1 a (exo a C none)) (fun v H2 => v = .non ∧ ∃ (d : Addr) (fs : List (Str × V)), H2 a = some (exo a C (some d)) ∧ H2 d = some (exd d fs) ∧ H1 d = none ∧ Qd d (upd (del H2 a) d (.xd fs))) (fun _ _ _ => False) ∧
      ∀ (d : Addr) (H3 : Hp) (t0 : Addr) (G : Heap) (s' : Shared), Qd d H3 → Inv X pins σ H3 { s' with heap := G } → (∀ z o, G.get? z = some o → s'.heap.get? z = some o) → G.get? a = none → s'.heap.get? a = some ({ cls := .ref C, dict := some d, data := .fields #[.ref t0, .none, .none, .none, .bool false, .none] } : Obj) → H3 a = none → Q (.ref a) s') :
    wpAny (model X.prog X.w) X.A (call (.ref C) us) Q X.xe s1 := by
  obtain ⟨nm, q, N, bs, bm, sn, sub, ab, col, dd, k0, k1, k2, k3, k5, hC, hbm⟩ := T.cls
  obtain ⟨hp, g, dr, tk, os⟩ := s1
  have hsz : hp.objs.size ≤ hp.objs.size + 1 := Nat.le_succ _
  have hn : H1 (hp.objs.size + 1) = none := I1.hok.fresh hsz
  obtain ⟨Qd, hq, hQ⟩ := q1 (hp.objs.size + 1) hn
  have kk : ∀ z o, hp.get? z = some o → ((hp.push (PySem.W.kdv_tup us)).push (PySem.HandSPX.excO C hp.objs.size)).get? z = some o := fun z o e => Heap.get?_push_of_some _ (Heap.get?_push_of_some _ e)
  have hget : ((hp.push (PySem.W.kdv_tup us)).push (PySem.HandSPX.excO C hp.objs.size)).get? (hp.objs.size + 1) = some (PySem.HandSPX.excO C hp.objs.size) := by heap_get
  have J : Inv X pins σ (upd H1 (hp.objs.size + 1) (exo (hp.objs.size + 1) C none)) ⟨(hp.push (PySem.W.kdv_tup us)).push (PySem.HandSPX.excO C hp.objs.size), g, dr, tk, os⟩ := I1.laid (t' := tk) kk hsz (exo_ok hget)
  have r2 : Vals (V.ref (hp.objs.size + 1) :: vs) (Value.ref (hp.objs.size + 1) :: us) := .cons rfl r1
  have hl : (Value.ref (hp.objs.size + 1) :: us).length = ps.length := by
    have e := r2.length
    rw [F1.len _ _ _ _ hq] at e
    exact e.symm
  have hus : us.length ≤ sizeLine := by
    rw [← Paired.length r1, sizeLine_eq]
    omega
  have hb' := hb _ (Value.ref (hp.objs.size + 1) :: us) J.kIn (by rw [← hl]; simp)
  rw [List.append_nil] at hb'
  refine wpAny_call (PySem.HandSPX.call_own b.F (fun Y => has_of hbm Y) (I1.kIn _ _ hC) (PySem.W.looks_findIn I1.kIn iC) (fun self => PySem.W.bind_fn I1.kIn self tI) hus (codeAny_mono (F1.run _ X.stack _ _ ⟨Value.ref (hp.objs.size + 1) :: us, []⟩ _ _ _ (fun _ _ _ => False) (hr.make C us []) (J.env0.make C us []) hb' r2 hq) fun r s' hq' => ?_))
  cases r with
  | error er => exact hx pins σ _ _ er s' J hq'
  | ok fl =>
    cases fl with
    | ret u =>
      obtain ⟨v, H2, os2, bare2, un2, hok2, rv, ev, d, fs, ea, ed, hd1, q2⟩ := hq'
      subst ev
      obtain ⟨h2, g2, d2, t2, os'⟩ := s'
      obtain ⟨t0, G, J2, kG, ge, hoe, na⟩ := mk_end0 (d2 := d2) (t2 := t2) I1 hsz kk un2 hok2 os2 bare2 ea ed hd1
      exact ⟨rv, hQ d _ t0 G ⟨h2, g2, d2, t2, os'⟩ q2 J2 kG ge hoe na⟩
    | next => exact False.elim hq'
    | brk => exact False.elim hq'
    | cont => exact False.elim hq'
/-- C(e), raised -/
theorem pmk_any {CX : CXT} {x : Str} {fI : Addr} {k : Nat} {fd : FuncData} {ps : List Str} {sp : Sp} (b : BaseX tl B newId initId) (T : OexG X.K C tl newId) (iC : PySem.W.findIn X.K (.ref C) "__init__" = some (some (.ref fI))) (tI : PySem.W.typeIn X.K (.ref fI) = some (.type "function"))
    (F1 : FnOk X.prog X.w X.K X.mg X.base CX k fI fd ps sp) (hr : Room (k + 1) X.A) (hb : Binds X.K fd ps []) (hx : Passes CX X (fun _ _ _ => False)) (hg : Gl X x) (hm : X.mg x = some (.ref C)) (ha : PA X (e :: es) ta)
    (hdb : (x == ("__debug__" : Str)) = false := by decide) (he : starEach (e :: es) X.env = (false, eval e X.env) :: starEach es X.env := by rfl) (hpl : (backTo pos (starEach es X.env)).any (·.1) = false := by rfl) : PMk X (.Call (.Name x p) (e :: es) [] pos) (tMkO C sp [] ta) := by
  intro pins s σ H Q I h
  refine wpAny_Call_Name_kw (ld_glob I hg hm (PySem.W.callWith_K (h₀ := X.base) I.ok.mod.kin T.kp (thn (ha.run pos pins s σ H _ I h) fun us s1 ⟨vs, H1, I1, r1, hz, q1⟩ => ⟨I1.kIn, ?_⟩) he hpl) hdb)
  refine run_oex (b := b) (T := T) iC tI F1 hr hb hx I1 r1 hz fun a ha => ⟨fun d H3 => Q (.ref C) (some d) H3, ?_, fun d H3 t0 G s' q2 J2 kG ge hoe na => ?_⟩
  · have := q1 a ha
    rw [List.append_nil] at this
    exact this
  · exact ⟨a, _, _, { s' with heap := G }, H3, .ref C, some d, rfl, J2, kG, ge, hoe, ⟨rfl, rfl⟩, rfl, rfl, na, rfl, J2.bare, raises_own T.ex T.ty, q2⟩
/-- C(e), as a value -/
def tMkX (C : Addr) (sp : Sp) (ta : TA) : TE := fun σ H Q => ta σ H fun vs H1 => vs.length ≤ 1000 ∧ ∀ a, H1 a = none → sp (.ref a :: vs) (upd H1 a (exo a C none))
  (fun v H2 => v = .non ∧ ∃ (d : Addr) (fs : List (Str × V)), H2 a = some (exo a C (some d)) ∧ H2 d = some (exd d fs) ∧ H1 d = none ∧ Q (.ref a) (upd (upd (del H2 a) d (.xd fs)) a (xo a (.ref C) (some d)))) (fun _ _ _ => False)
end
/-! ### a tracked exception asked -/
/-- error.f -/
def tExf (K : PySem.W.Frag) (f : Str) (te : TE) : TE := fun σ H Q => te σ H fun x H1 => ∃ (a C dx : Addr) (fs : List (Str × V)) (v : V), x = .ref a ∧ H1 a = some (xo a (.ref C) (some dx)) ∧ H1 dx = some (.xd fs) ∧ XfC K C ∧ PySem.W.findIn K (.ref C) f = some none ∧ fs.lookup f = some v ∧ Q v H1
section
variable {X : Cx}
theorem inst_xo {pins : List (Addr × Obj)} {σ : St} {H : Hp} {s : Shared} {a C : Addr} {d : Option Addr} (I : Inv X pins σ H s) (e : H a = some (xo a (.ref C) d)) (hd : d = none ∨ ∃ dx fs, d = some dx ∧ H dx = some (.xd fs)) : ∃ oe od, PySem.W.InstAt s.heap a oe C od := by
  obtain ⟨oe, vs, e1, e2, e3, e4⟩ := xo_at I.hok e
  obtain ⟨oc, odd, oda, osl⟩ := oe
  dsimp only at e2 e3 e4
  subst e2 e3 e4
  rcases hd with rfl | ⟨dx, fs, rfl, hx⟩
  · exact ⟨_, none, e1, rfl, rfl, trivial⟩
  · obtain ⟨mA, hns, _⟩ := (show ObjOk X.prog X.w H s.heap dx (.xd fs) from I.hok dx _ hx)
    obtain ⟨od, ho, _⟩ := lookIn_ns hns
    exact ⟨_, some od, e1, rfl, rfl, ho⟩
theorem pe_exf {e : Expr} {te : TE} {pos : Pos} {n : Str} (he : PE X e te) (hb : attributeBase e n X.env (eval e X.env) = eval e X.env := by rfl) : PE X (.Attribute e n pos) (tExf X.K n te) := by
  refine ⟨fun pins s σ H Q I h => attr_of hb (thn (he.run pins s σ H _ I h) fun u s1 ⟨x, H1, I1, rx, a, C, dx, fs, v, ex, ea, ed, T, hno, l, q⟩ => ?_)⟩
  subst ex
  obtain rfl : u = Value.ref a := rx
  obtain ⟨oe, vs, e1, e2, e3, e4⟩ := xo_at I1.hok ea
  obtain ⟨mA, hns, hr⟩ := (show ObjOk X.prog X.w H1 s1.heap dx (.xd fs) from I1.hok dx _ ed)
  obtain ⟨od, ho, hl⟩ := lookIn_ns hns
  obtain ⟨u, hu, ru⟩ := RelO.some_of (v := v) (o := mA n) (by rw [← l]; exact hr n)
  have J : PySem.W.InstAt s1.heap a oe C (some od) := ⟨e1, e2, by unfold PySem.W.notCls; rw [e4] <;> rfl, by rw [e3]; exact ho⟩
  exact HandSPX.exc_get I1.kIn J T.ga T.gg T.exC (PySem.W.findObj_own T.hdC hno rfl (by rw [hl, hu])) (handed_of ru) ⟨v, H1, I1.tok _, ru, q⟩
/-- isinstance(e, c) of a tracked exception -/
def rIsX (K : PySem.W.Frag) : List V → Hp → VK → Prop := fun xs H Q => ∃ (a C : Addr) (d : Option Addr) (c : V) (cv : Value) (b : Bool), xs = [.ref a, c] ∧ H a = some (xo a (.ref C) d) ∧ (d = none ∨ ∃ dx fs, d = some dx ∧ H dx = some (.xd fs)) ∧ ExcC K C ∧ (∀ u, RelV c u → u = cv) ∧ PySem.W.kitOne K (.ref C) cv = some b ∧ Q (.bl b) H
theorem call_isX : CallR X (.builtin "isinstance") (rIsX X.K) := by
  intro pins s σ H xs us Q I r h
  obtain ⟨a, C, d, c, cv, b, rfl, ea, hd, T, hcv, e, q⟩ := h
  cases r with
  | cons rx rr =>
    cases rr with
    | cons rt rr =>
      cases rr
      cases rx
      have ec := hcv _ rt
      subst ec
      obtain ⟨oe, od, J⟩ := inst_xo I ea hd
      have hcl : (PySem.W.clsIn X.K C).isSome = true := by
        obtain ⟨cd, hc, _⟩ := PySem.W.any_some T.hd
        rw [hc]; rfl
      exact PySem.W.kia_one (PySem.W.kitx_exc hcl T.hg T.hk T.hs T.ha T.hn T.ht T.hm) I.kIn J e (fun z => nomatch z) fun tk => ⟨.bl b, H, I.kept (t' := tk) fun _ _ z => z, rfl, q⟩
end
end L2

/-! A lambda without parameters, or with one that has the default 0, handed to a def that calls it. -/
namespace L2
open PySem PySem.Spec PyProof.Rows LamX
/-- the function object of a lambda -/
abbrev lfn (q : Str) (params : Arguments) (body : Expr) (scope : Scope) (cl : List (Str × Addr)) (dV doc pm : Value) (c' : Addr) (ct : Value) : FuncData := PySem.W.kdv_fn "<lambda>" q params (.expr body) scope cl dV doc pm (.ref c') ct
/-- how its defaults stand: none, or a tuple of 0 -/
def DefAt (H : Hp) (fr : List Addr) (h : Heap) (params : Arguments) (bs : List (Str × Value)) (dV : Value) : Prop :=
  (params.defaults = [] ∧ bs = [] ∧ dV = .none) ∨ ∃ (T : Addr) (tk : Tok) (x : Str), dV = .ref T ∧ bs = [(x, .int 0 tk)] ∧ h.get? T = some (PySem.W.kdv_tup [.int 0 tk]) ∧ H T = none ∧ T ∉ fr
/-- how a call without arguments binds -/
structure LamB (params : Arguments) (one : Option Str) : Prop where
  kd : params.kw_defaults = []
  no : one = none → params.defaults = [] ∧ ∀ (q : Str) (body : FuncBody) (scope : Scope) (cl : List (Str × Addr)) (doc pm cv ct : Value), bindArgs (PySem.W.kdv_fn "<lambda>" q params body scope cl .none doc pm cv ct) ⟨[], []⟩ = pure []
  yes : ∀ x, one = some x → (∃ j p, params.defaults = [.Constant (.int 0) j p]) ∧ ∀ (q : Str) (body : FuncBody) (scope : Scope) (cl : List (Str × Addr)) (T : Addr) (tk : Tok) (doc pm cv ct : Value), ∃ k : Option (Array Value) → Sem (List (Str × Value)), bindArgs (PySem.W.kdv_fn "<lambda>" q params body scope cl (.ref T) doc pm cv ct) ⟨[], []⟩ = seqItems? (.ref T) >>= k ∧ k (some #[.int 0 tk]) = pure [(x, .int 0 tk)]
/-- its names: captured ones and globals; the one parameter isn't among the maker's -/
structure LamN (N : List Str) (sc scope : Scope) (one : Option Str) : Prop where
  kind : scope.kind = .function
  co : scope.isCoroutine = false
  gen : scope.isGenerator = false
  cell : ∀ y ∈ scope.names, y.2 ≠ .cell
  own : ∀ y ∈ scope.names, y.2 = .local → y.1 ∉ N
  par : ∀ x, one = some x → scope.names.lookup x = some .local
  free : ∀ y ∈ scope.names, y.2 = .free → sc.names.lookup y.1 = some .cell ∨ sc.names.lookup y.1 = some .free
def lamNB (N : List Str) (sc scope : Scope) (one : Option Str) : Bool :=
  decide (scope.kind = .function) && !scope.isCoroutine && !scope.isGenerator && (scope.names.all fun y => !decide (y.2 = .cell) && (!decide (y.2 = .local) || !decide (y.1 ∈ N)) && (!decide (y.2 = .free) || decide (sc.names.lookup y.1 = some .cell) || decide (sc.names.lookup y.1 = some .free))) &&
    (match one with | none => true | some x => decide (scope.names.lookup x = some .local))
theorem lamN_by {N : List Str} {sc scope : Scope} {one : Option Str} (h : lamNB N sc scope one = true) : LamN N sc scope one := by
  unfold lamNB at h
  simp only [Bool.and_eq_true, Bool.or_eq_true, Bool.not_eq_true', decide_eq_true_eq, decide_eq_false_iff_not, List.all_eq_true] at h
  obtain ⟨⟨⟨⟨h1, h2⟩, h3⟩, h4⟩, h5⟩ := h
  refine ⟨h1, h2, h3, fun y hy => (h4 y hy).1.1, fun y hy e hn => ?_, fun x e => ?_, fun y hy e => ?_⟩
  · rcases (h4 y hy).1.2 with z | z
    · exact z e
    · exact z hn
  · subst e; simpa using h5
  · rcases (h4 y hy).2 with (z | z) | z
    · exact absurd e z
    · exact .inl z
    · exact .inr z
theorem LamN.has {X : Cx} {scope : Scope} {one : Option Str} (L : LamN X.N X.env.scope scope one) (ok : X.Ok) : ∀ y ∈ scope.names, y.2 = .free → ∃ c, X.env.cells.lookup y.1 = some c := fun y hy e => (L.free y hy e).elim (fun k => ok.has _ (.inl k)) fun k => ok.has _ (.inr k)
/-- the table at P tells code objects of the name q -/
def TabO (H : Hp) (ps : Array Value) (q : Str) : Prop := TriplesOk ps.toList ∧ ∀ (pos : Pos) (cv : Value), codeAmong pos ps.toList = some cv → ∃ c, cv = .ref c ∧ H c = some (CodeO c q)
theorem codeAmong_snoc {pos p' : Pos} {c cv : Value} (l : List Value) (h : TriplesOk l) (hc : codeAmong p' (l ++ [rawInt pos.line, rawInt pos.col, c]) = some cv) : codeAmong p' l = some cv ∨ cv = c := among_app l h hc
/-- what the making of a lambda does to what is tracked: its code object c' is found in the table ps, or new -/
def LamStep (H : Hp) (P : Addr) (ps : Array Value) (q : Str) (c' : Addr) (H1 : Hp) : Prop :=
  (H1 = H ∧ ∃ p, codeAmong p ps.toList = some (.ref c')) ∨ ∃ ps', H c' = none ∧ c' ≠ P ∧ H1 = upd (upd H P (.tbl ps')) c' (CodeO c' q) ∧ TriplesOk ps'.toList ∧ ∀ p cv, codeAmong p ps'.toList = some cv → cv = .ref c' ∨ codeAmong p ps.toList = some cv
section
variable {X : Cx} {pins : List (Addr × Obj)} {σ : St} {H : Hp} {s : Shared} {P c : Addr} {params : Arguments} {body : Expr} {scope : Scope} {pos : Pos} {ps : Array Value} {E : Value → Shared → Prop}
/-- behind the defaults: the code object is new, or found -/
theorem lam_tail {dV : Value} {q : Str} {n : Nat} {Q : Value → Shared → Prop} (I : Inv X pins σ H s) (TB : TabB X.base X.mg c P) (hcode : X.env.code = .ref c) (hP : H P = some (.tbl ps)) (hT : TabO H ps q) (hfree : ∀ y ∈ scope.names, y.2 = .free → ∃ c, X.env.cells.lookup y.1 = some c)
    (h : ∀ (f c' : Addr) (doc pm ctv : Value) (H1 : Hp) (s' : Shared), Inv X pins σ H1 s' → LamStep H P ps q c' H1 → (∀ b o, H b = none → s.heap.get? b = some o → s'.heap.get? b = some o ∧ H1 b = none) →
      s'.heap.get? f = some ({ cls := .type "function", data := .func (lfn q params body scope (cloFrom X.env.cells scope.names []) dV doc pm c' ctv) } : Obj) → H1 f = none → f ∉ frs X.stack → H1 c' = some (CodeO c' q) → Q (.ref f) s') :
    wpAny (model X.prog X.w) X.A (makeTail "<lambda>" q params (.expr body) scope X.env dV .none none pos n) Q E s := by
  obtain ⟨ht, ha⟩ := hT
  have hP' : s.heap.get? P = some { cls := .none, data := .fields ps } := I.hok P _ hP
  have notFr : ∀ f, s.heap.objs.size ≤ f → f ∉ frs X.stack := fun f hf z => by
    rcases List.mem_cons.mp (I.stkSub _ z) with e | e
    · have h1 := I.lt
      rw [← e] at h1
      exact absurd (Nat.lt_of_lt_of_le h1 hf) (Nat.lt_irrefl _)
    · exact I.nofs hf e
  have neP : ∀ b, H b = none → b ≠ P := fun b e z => by rw [z, hP] at e; cases e
  cases hc : codeAmong pos ps.toList with
  | none =>
    refine PySem.W.kdv_makeTail (mg := X.mg) (c := c) (P := P) (ps := ps) (closure_ok hfree) I.ok.glob (I.mod.glob.keeps I.bk) hcode (TB.code.keeps I.bk) hP' ht hc TB.gP (TB.bm.keeps I.bk) fun c' ctv doc h' tk hx hge hlt hrec htb => ?_
    obtain ⟨c2, oc, vs, t, e2, hoc, hd, hv⟩ := hrec
    cases e2
    have hsz : s.heap.objs.size ≤ h'.objs.size := Nat.le_trans hge (Nat.le_of_lt hlt)
    have nC : H c' = none := I.hok.fresh hge
    have kp : ∀ b o, b ≠ P → s.heap.get? b = some o → (h'.push ({ cls := .type "function", data := .func (lfn q params body scope (cloFrom X.env.cells scope.names []) dV doc ((X.mg "__name__").getD .none) c' ctv) } : Obj)).get? b = some o := fun b o hb e => Heap.get?_push_of_some _ (hx b o hb e)
    have J := inv_table (q := q) (t' := tk) (more := #[rawInt pos.line, rawInt pos.col, .ref c']) (h' := h'.push ({ cls := .type "function", data := .func (lfn q params body scope (cloFrom X.env.cells scope.names []) dV doc ((X.mg "__name__").getD .none) c' ctv) } : Obj)) I hP kp (Heap.get?_push_of_some _ htb) hge ⟨oc, vs, t, Heap.get?_push_of_some _ hoc, hd, hv⟩
    have nf : H h'.objs.size = none := I.hok.fresh hsz
    have n1 : h'.objs.size ≠ c' := Nat.ne_of_gt hlt
    refine h h'.objs.size c' doc _ ctv _ _ J (.inr ⟨_, nC, neP _ nC, rfl, ?_, fun p' cv hcv => ?_⟩) (fun b o n e => ⟨kp b o (neP b n) e, ?_⟩) (Heap.get?_push_size _ rfl) ?_ (notFr _ hsz) upd_same
    · have eL : (ps ++ #[rawInt pos.line, rawInt pos.col, .ref c']).toList = ps.toList ++ [rawInt pos.line, rawInt pos.col, .ref c'] := by simp
      rw [eL]
      exact PySem.TriplesOk_snoc _ _ _ _ ht
    · have eL : (ps ++ #[rawInt pos.line, rawInt pos.col, .ref c']).toList = ps.toList ++ [rawInt pos.line, rawInt pos.col, .ref c'] := by simp
      rw [eL] at hcv
      exact (codeAmong_snoc _ ht hcv).symm
    · have : b ≠ c' := fun z => by
        rw [z] at e
        exact absurd (Nat.lt_of_lt_of_le (Heap.lt_size e) hge) (Nat.lt_irrefl _)
      rw [upd_ne this, upd_ne (neP b n), n]
    · rw [upd_ne n1, upd_ne (neP _ nf), nf]
  | some cv =>
    obtain ⟨c', e, hco⟩ := ha pos cv hc
    subst e
    refine PySem.W.kdv_makeTailHit (mg := X.mg) (c := c) (P := P) (ps := ps) (closure_ok hfree) I.ok.glob (I.mod.glob.keeps I.bk) hcode (TB.code.keeps I.bk) hP' ht hc (TB.bm.keeps I.bk) fun ctv doc h' tk hx hsz => ?_
    have J : Inv X pins σ H { s with heap := h'.push ({ cls := .type "function", data := .func (lfn q params body scope (cloFrom X.env.cells scope.names []) dV doc ((X.mg "__name__").getD .none) c' ctv) } : Obj), toks := tk } := I.kept fun b o e => Heap.get?_push_of_some _ (hx b o e)
    exact h h'.objs.size c' doc _ ctv H _ J (.inl ⟨rfl, pos, hc⟩) (fun b o n e => ⟨Heap.get?_push_of_some _ (hx b o e), n⟩) (Heap.get?_push_size _ rfl) (I.hok.fresh hsz) (notFr _ hsz) hco
/-- the lambda is made -/
theorem lam_make {one : Option Str} {Q : Value → Shared → Prop} (I : Inv X pins σ H s) (TB : TabB X.base X.mg c P) (hcode : X.env.code = .ref c) (hP : H P = some (.tbl ps)) (hT : TabO H ps (X.env.qual ++ "<lambda>")) (hfree : ∀ y ∈ scope.names, y.2 = .free → ∃ c, X.env.cells.lookup y.1 = some c) (B : LamB params one)
    (h : ∀ (f c' : Addr) (bs : List (Str × Value)) (dV doc pm ctv : Value) (H1 : Hp) (s' : Shared), Inv X pins σ H1 s' → LamStep H P ps (X.env.qual ++ "<lambda>") c' H1 →
      DefAt H1 (frs X.stack) s'.heap params bs dV → (∀ y ∈ bs, one = some y.1) → (one = none → bs = []) → (∀ x, one = some x → ∃ tk, bs = [(x, .int 0 tk)]) → s'.heap.get? f = some ({ cls := .type "function", data := .func (lfn (X.env.qual ++ "<lambda>") params body scope (cloFrom X.env.cells scope.names []) dV doc pm c' ctv) } : Obj) → H1 f = none → f ∉ frs X.stack → H1 c' = some (CodeO c' (X.env.qual ++ "<lambda>")) → Q (.ref f) s') :
    wpAny (model X.prog X.w) X.A (eval (.Lambda params body scope pos) X.env) Q X.xe s := by
  cases one with
  | none =>
    obtain ⟨d0, _⟩ := B.no rfl
    have hdef : defaultsOf params X.env = ([], []) := by rw [defaultsOf_eq, d0, B.kd]; rfl
    refine PySem.W.kla_eval hdef ?_
    rw [makeFunction_eq]
    simp only [List.zip_nil_right, List.filterMap_nil, List.isEmpty_nil, if_true, pure_bind]
    exact lam_tail I TB hcode hP hT hfree fun f c' doc pm ctv H1 s' J e kp hf hn hfr hco => h f c' [] .none doc pm ctv H1 s' J e (.inl ⟨d0, rfl, rfl⟩) (fun y hy => absurd hy (by simp)) (fun _ => rfl) (fun x e => by cases e) hf hn hfr hco
  | some x =>
    obtain ⟨⟨j, p, d1⟩, _⟩ := B.yes x rfl
    refine PySem.W.kdv_lam (by rw [d1]; rfl) B.kd ?_
    rw [d1]
    refine PySem.W.kdv_all1 (wpAny_mono ((pe_int (X := X) (i := 0) (j := j) (pos := p)).run pins s σ H (fun v H1 => v = .int 0 ∧ H1 = H) I ⟨rfl, rfl⟩) (fun u s1 hu => ?_) fun _ _ _ => ?_)
    · obtain ⟨v, H1, I1, r1, ev, eH⟩ := hu
      subst ev eH
      obtain ⟨tk, rfl⟩ : ∃ tk, u = .int 0 tk := r1
      refine PySem.W.kdv_all0 ?_
      rw [makeFunction_eq]
      simp only [List.zip_nil_right, List.filterMap_nil, List.isEmpty_nil, List.isEmpty_cons, if_true, pure_bind, Bool.false_eq_true, if_false]
      refine wpAny_bind (wpAny_newTextTuple ?_)
      have kT : ∀ b o, s1.heap.get? b = some o → (s1.heap.push (PySem.W.kdv_tup [.int 0 tk])).get? b = some o := fun b o e => Heap.get?_push_of_some _ e
      have J1 : Inv X pins σ H1 { s1 with heap := s1.heap.push (PySem.W.kdv_tup [.int 0 tk]), toks := s1.toks } := I1.kept kT
      have nT : H1 s1.heap.objs.size = none := I1.hok.fresh (Nat.le_refl _)
      have fT : s1.heap.objs.size ∉ frs X.stack := fun z => by
        rcases List.mem_cons.mp (I1.stkSub _ z) with e | e
        · have h1 := I1.lt
          rw [← e] at h1
          exact absurd h1 (Nat.lt_irrefl _)
        · exact I1.nofs (Nat.le_refl _) e
      exact lam_tail J1 TB hcode hP hT hfree fun f c' doc pm ctv H2 s' J e kp hf hn hfr hco => h f c' [(x, .int 0 tk)] (.ref s1.heap.objs.size) doc pm ctv H2 s' J e (.inr ⟨_, tk, x, rfl, rfl, (kp _ _ nT (Heap.get?_push_size _ rfl)).1, (kp _ _ nT (Heap.get?_push_size _ rfl)).2, fT⟩) (fun y hy => by simp at hy; rw [hy]) (fun z => by cases z) (fun y e => by cases e; exact ⟨tk, rfl⟩) hf hn hfr hco
    · rename_i z; exact z
end

section
variable {X : Cx} {pins : List (Addr × Obj)} {σ : L2.St} {H HZ : Hp} {s s1 : Shared}
theorem lam_enter {A : Around} {outer : List Env} {E : XK} {scope : Scope} {one : Option Str} {f c' : Addr} {h₁ : Heap} {tk : Nat} {mB : Str → Option Value} (I : Inv X pins σ H s) (L : LamN X.N X.env.scope scope one) (e0 : Env0 X.prog X.w X.K X.mg X.base A outer s1 HZ) (hd : A.handled = none)
    (un : Un (frs X.stack) [] H HZ s.heap s1.heap) (hns : h₁.Ns s1.heap.objs.size mB) (kp : ∀ b o, s1.heap.get? b = some o → h₁.get? b = some o) : Inv (lamCx X A outer s1 HZ E scope f c') [] σ HZ { s1 with heap := h₁, toks := tk } := by
  have hfree := L.has I.ok
  have back : ∀ {y c}, (cloFrom X.env.cells scope.names []).lookup y = some c → X.env.cells.lookup y = some c := fun {y c} e => by
    rcases cloFrom_mem (PySem.mem_of_lookup e) with hm | ⟨h1, h2⟩
    · cases hm
    · obtain ⟨c1, hc⟩ := hfree _ h1 rfl
      have hc : X.env.cells.lookup y = some c1 := hc
      rw [show c = c1 by rw [h2, hc] <;> rfl]
      exact hc
  have there : ∀ {y}, scope.names.lookup y = some .free → ∃ c, (cloFrom X.env.cells scope.names []).lookup y = some c := fun {y} hl => mem_lookup (cloFrom_has (cells := X.env.cells) (acc := []) (show (y, NameKind.free) ∈ scope.names from PySem.mem_of_lookup hl))
  have cellK : ∀ {c : Addr} {v : Option Value}, H c = none → s.heap.IsCell c v → h₁.IsCell c v := fun {c v} n ⟨o, ho, hd⟩ => by
    obtain ⟨sl, q⟩ := un.any ho n (by simp)
    exact ⟨_, kp _ _ q, hd⟩
  have noA : ∀ b : Addr, b ∉ (lamCx X A outer s1 HZ E scope f c').ex := fun b z => absurd (show b ∈ ([] : List Addr) from z) (by simp)
  have ok : (lamCx X A outer s1 HZ E scope f c').Ok := {
    mod := e0.mod
    kind := L.kind
    glob := rfl
    blt := rfl
    above := Nat.le_refl _
    inj := fun y z c e1 e2 => I.ok.inj y z c (back e1) (back e2)
    has := fun y hy => by
      have hy : scope.names.lookup y = some .cell ∨ scope.names.lookup y = some .free := hy
      exact hy.elim (fun z => absurd rfl (L.cell _ (PySem.mem_of_lookup z))) there
    cab := fun y c z _ => by
      have z : false = true := z
      cases z
    hd := fun _ => hd
    frames := Around.frames_deeper e0.frames
    stk := .inr ⟨rfl, rfl⟩
    exf := fun b z => absurd z (noA b)
    bs := e0.bs
    bsz := e0.bsz
    noex := fun b _ _ => noA b
    exfs := fun b z => absurd z (noA b)
    funs := e0.funs
    frf := e0.frf }
  refine ⟨ok, rfl, e0.bare, Un.kept kp, ⟨_, hns, fun i y v e1 e2 e3 => ?_⟩, fun y c e => ?_, e0.hok.fresh (Nat.le_refl _), fun y c e => ?_, fun q hq => absurd (show q ∈ ([] : List (Addr × Obj)) ++ [] from hq) (by simp), e0.hok.kept kp, I.len⟩
  · rcases (show Vis scope y from e3) with k | k | k
    · exact absurd (List.mem_of_getElem? (show X.N[i]? = some y from e1)) (L.own _ (PySem.mem_of_lookup k) rfl)
    · exact absurd rfl (L.cell _ (PySem.mem_of_lookup k))
    · obtain ⟨m, hn, hl⟩ := I.loc
      obtain ⟨w', r, q⟩ := hl i y v e1 e2 ((L.free _ (PySem.mem_of_lookup k) rfl).elim (fun k => .inr (.inl k)) (fun k => .inr (.inr k)))
      obtain ⟨c2, h2⟩ := there k
      refine ⟨w', r, .inr ⟨.inr k, c2, h2, ?_⟩⟩
      have c1 := back h2
      rcases q with ⟨k', _⟩ | ⟨_, c3, e', z⟩
      · have k' : X.env.scope.names.lookup y = some .local := k'
        rcases L.free _ (PySem.mem_of_lookup k) rfl with k2 | k2 <;> rw [show X.env.scope.names.lookup y = _ from k2] at k' <;> cases k'
      · rw [c1] at e'
        cases e'
        exact cellK (I.freeC y _ c1) z
  · obtain ⟨w', z⟩ := I.cell y c (back e)
    exact ⟨w', cellK (I.freeC y c (back e)) z⟩
  · obtain ⟨v, o, ho, hd⟩ := I.cell y c (back e)
    exact un.free c o ho (I.freeC y c (back e)) (by simp)
/-- what a lambda's call reads: f in the slot, its code object, its own reading -/
def tAct (j : Nat) (f c' : Addr) (q : Str) (tl : Hp → VK → Prop) : TE := fun σZ HZ Q => σZ[j]? = some (some (.ref f)) ∧ HZ c' = some (CodeO c' q) ∧ tl HZ Q
/-- a(), in the def that got the lambda: Z is that def's context, entered at s -/
theorem pe_actG {CXg : CXT} {Eg : XK} {Ng : List Str} {qg : Str} {sg : Scope} {g f c' : Addr} {cdg dV doc pm ctv : Value} {params : Arguments} {body : Expr} {scope : Scope} {one : Option Str} {bs : List (Str × Value)} {k i : Nat} {a : Str} {pn : List (Addr × Obj)} {xe : Value → Shared → Prop} {W : WX} {E : XK} {tb : TE} {p1 p2 : Pos}
    (I : Inv X pins σ H s) (L : LamN X.N X.env.scope scope one) (B : LamB params one) (hD : DefAt H (frs X.stack) s.heap params bs dV) (h1 : one = none → bs = []) (h2 : ∀ x, one = some x → ∃ tk, bs = [(x, .int 0 tk)])
    (hf : s.heap.get? f = some ({ cls := .type "function", data := .func (lfn (X.env.qual ++ "<lambda>") params body scope (cloFrom X.env.cells scope.names []) dV doc pm c' ctv) } : Obj)) (hfn : H f = none) (hfr : f ∉ frs X.stack)
    (tk : Takes ((cxOf CXg X.prog X.w X.K X.mg X.base Ng qg sg g cdg X.A X.stack s H Eg).tr pn xe) W) (hW : ∀ cls d σ' H', E cls d H' → σ'.length = Ng.length → W cls d σ' H') (hr : Room (k + 1) (X.A.deeper (envOfC qg sg s.heap.objs.size g cdg)))
    (hbody : ∀ (A : Around) (outer : List Env) (s : Shared) (H : Hp), Room k (A.deeper (lamEnv X scope s.heap.objs.size f c')) → PE (lamCx X A outer s H E scope f c') body tb)
    (hN : Ng[i]? = some a) (hv : Vis sg a) (hd : (a == ("__debug__" : Str)) = false) (hcd : (a == ("__classdict__" : Str)) = false) :
    PE ((cxOf CXg X.prog X.w X.K X.mg X.base Ng qg sg g cdg X.A X.stack s H Eg).tr pn xe) (.Call (.Name a p1) [] [] p2) (tAct i f c' (X.env.qual ++ "<lambda>") (tb σ)) := by
  refine ⟨fun pinsZ sZ σZ HZ Q IZ h => ?_⟩
  obtain ⟨hs, hc, ht⟩ := h
  refine wpAny_Call_Name_kw (thn ((pe_var (pos := p1) (i := i) hN hv hd hcd).run pinsZ sZ σZ HZ (fun v H1 => v = .ref f ∧ H1 = HZ) IZ ⟨.ref f, hs, rfl, rfl⟩) fun u s1 ⟨v, H1, I1, r1, ev, eH⟩ => ?_)
  subst ev
  rw [eH] at I1
  obtain rfl : u = Value.ref f := r1
  have un : Un (frs X.stack) [] H HZ s.heap s1.heap := I1.base
  have of1 := un.keep f _ hf hfn hfr (by simp)
  obtain ⟨⟨oc, vs, t, hoc, hdc, hvc⟩, _, _⟩ := I1.hok c' _ hc
  have hbind : BindsTo s1 (lfn (X.env.qual ++ "<lambda>") params body scope (cloFrom X.env.cells scope.names []) dV doc pm c' ctv) ⟨[], []⟩ bs := by
    cases one with
    | none =>
      have e := h1 rfl
      rcases hD with ⟨_, _, rfl⟩ | ⟨T, tk, x, _, z, _⟩
      · subst e
        exact BindsTo.of_eq ((B.no rfl).2 _ _ _ _ _ _ _ _)
      · rw [e] at z; cases z
    | some x =>
      obtain ⟨tk, e⟩ := h2 x rfl
      rcases hD with ⟨_, z, _⟩ | ⟨T, tk', x', rfl, z, hT, nT, fT⟩
      · rw [e] at z; cases z
      · have zz : tk = tk' ∧ x = x' := by
          rw [e] at z
          have := List.cons.inj z
          have h3 := Prod.mk.inj this.1
          exact ⟨(Value.int.inj h3.2).2, h3.1⟩
        obtain ⟨rfl, rfl⟩ := zz
        obtain ⟨k, k1, k2⟩ := (B.yes x rfl).2 (X.env.qual ++ "<lambda>") (.expr body) scope (cloFrom X.env.cells scope.names []) T tk doc pm (.ref c') ctv
        rw [e]
        exact BindsTo.of_defaults rfl (un.keep T _ hT nT fT (by simp)) rfl k1 k2
  have hloc : ∀ y ∈ bs, scope.names.lookup y.1 = some .local := fun y hy => by
    cases one with
    | none => rw [h1 rfl] at hy; cases hy
    | some x =>
      obtain ⟨tk, e⟩ := h2 x rfl
      rw [e] at hy
      simp at hy
      rw [hy]
      exact L.par x rfl
  refine PySem.W.callWith_F0 ⟨_, _, _, _, of1⟩ ?_
  have rc : codeAny (model X.prog X.w) (X.A.deeper (envOfC qg sg s.heap.objs.size g cdg)) (.call (.ref f) ⟨[], []⟩) (CR (L2.CX X.prog X.w) (envOfC qg sg s.heap.objs.size g cdg :: X.stack) X.prog X.w HZ s1 Q E) s1 := by
    refine PySem.W.kla_callFunE hr.depth of1 rfl L.co L.gen rfl ⟨c', oc, vs, t, rfl, hoc, hdc, hvc⟩ (hbind _ _ _ _ ?_)
    refine wpAny_newFunctionEnv (fun y hy => L.cell y hy) hloc (fun h₁ hns hsb => ⟨I1.nolimit.fresh _ hsb, ?_⟩) L.kind
    show codeAny _ _ (.expr body (lamEnv X scope s1.heap.objs.size f c')) _ _
    have kp : ∀ b o, s1.heap.get? b = some o → h₁.get? b = some o := fun b o e => hsb.extBut b o (Nat.ne_of_lt (Heap.lt_size e)) (Heap.get?_push_of_some _ e)
    have J := lam_enter (E := E) (f := f) (c' := c') (tk := s1.toks + bs.length) I L I1.env0 hr.hd un hns kp
    refine PySem.W.kla_codeExpr (wpAny_mono ((hbody _ _ s1 HZ (hr.deeper _)).run [] _ _ HZ Q J ht) (fun v s' hq => ?_) fun e s' hq => hq)
    obtain ⟨w', H', J', rv, q⟩ := hq
    exact ⟨w', H', J'.os, J'.bare, J'.base, J'.hok, rv, q⟩
  have hx : Passes (L2.CX X.prog X.w) ((cxOf CXg X.prog X.w X.K X.mg X.base Ng qg sg g cdg X.A X.stack s H Eg).tr pn xe) E := fun pinsZ σZ HZ s1 e s' I1 c => tk e s' (XE.of_call I1 (fun cls d H' h => hW cls d σZ H' h I1.len) c)
  refine wpAny_call (codeAny_mono rc fun r s' hq => ?_)
  cases r with
  | error e => exact hx pinsZ σZ HZ s1 e s' I1 hq
  | ok fl =>
    cases fl with
    | ret u => exact I1.after hq
    | next => exact False.elim hq
    | brk => exact False.elim hq
    | cont => exact False.elim hq
end
/-- the def that calls what it got: TT is what it makes of the lambda's reading -/
def GivesG (X : Cx) (Ng : List Str) (x : Str) (sg : Scope) (g : Addr) (cdg : Value) (bg : List Stmt) (a : Str) (q : Str) (TT : (XK → Hp → VK → Prop) → Addr → Addr → Hp → VK → Prop) : Prop :=
  ∀ (f c' : Addr) (s : Shared) (H : Hp) (Q : VK) (tl : XK → Hp → VK → Prop),
    (∀ (W : WX) (pn : List (Addr × Obj)) (xe : Value → Shared → Prop) (E : XK) (p1 p2 : Pos), Takes ((cxOf C8.CX0 X.prog X.w X.K X.mg X.base Ng x sg g cdg X.A X.stack s H C8.E0).tr pn xe) W → (∀ cls d σ' H', E cls d H' → σ'.length = Ng.length → W cls d σ' H') →
      PE ((cxOf C8.CX0 X.prog X.w X.K X.mg X.base Ng x sg g cdg X.A X.stack s H C8.E0).tr pn xe) (.Call (.Name a p1) [] [] p2) (tAct 0 f c' q (tl E))) → H c' = some (CodeO c' q) → TT tl f c' H Q →
    ∃ t, PSs (cxOf C8.CX0 X.prog X.w X.K X.mg X.base Ng x sg g cdg X.A X.stack s H C8.E0).nox bg t ∧ t { nx := fun _ H' => Q .non H', rt := Q } (L2.start Ng [.ref f]) H
/-- g(lambda: ..): its table at P -/
def tLamG (P : Addr) (q : Str) (TT : (XK → Hp → VK → Prop) → Addr → Addr → Hp → VK → Prop) (t : XK → TE) : TE := fun σ H Q => ∃ ps, H P = some (.tbl ps) ∧ TabO H ps q ∧
  ∀ (f c' : Addr) (H1 : Hp), LamStep H P ps q c' H1 → H1 c' = some (CodeO c' q) → TT (fun E H' Q' => t E σ H' Q') f c' H1 Q
section
variable {X : Cx}
theorem pe_lamG {one : Option Str} {TT : (XK → Hp → VK → Prop) → Addr → Addr → Hp → VK → Prop} {x a : Str} {g c P : Addr} {k : Nat} {pg : Arguments} {bg : List Stmt} {sg : Scope} {dV kV doc pm cdv ct oc : Value} {an od : Option Addr} {osl : Array (Option Value)} {Ng : List Str}
    {params : Arguments} {body : Expr} {scope : Scope} {t : XK → TE} {p lpos pos : Pos} (hg : Gl X x) (hm : X.mg x = some (.ref g)) (hk : PySem.W.keepIn X.K (.ref g) = true)
    (lk : X.K.lookup g = some ⟨oc, od, .func (PySem.W.fnOf x x pg bg sg dV kV doc pm an cdv ct), osl⟩) (hcg : PySem.W.codeIn X.K cdv x = true) (hb : L2.Binds X.K (PySem.W.fnOf x x pg bg sg dV kV doc pm an cdv ct) [a] []) (Sg : FnScope Ng [a] sg) (hNg : Ng[0]? = some a) (hva : Vis sg a)
    (hG : GivesG X Ng x sg g cdv bg a (X.env.qual ++ "<lambda>") TT) (TB : TabB X.base X.mg c P) (hcode : X.env.code = .ref c) (hr : Room (k + 2) X.A) (L : LamN X.N X.env.scope scope one) (B : LamB params one)
    (hbody : ∀ (A : Around) (outer : List Env) (s : Shared) (H : Hp) (E : XK) (f c' : Addr), Room k (A.deeper (lamEnv X scope s.heap.objs.size f c')) → PE (lamCx X A outer s H E scope f c') body (t E))
    (hdb : (x == ("__debug__" : Str)) = false := by decide) (hd : (a == ("__debug__" : Str)) = false := by decide) (hcd : (a == ("__classdict__" : Str)) = false := by decide) :
    PE X (.Call (.Name x p) [.Lambda params body scope lpos] [] pos) (tLamG P (X.env.qual ++ "<lambda>") TT t) := by
  refine ⟨fun pins s σ H Q I h => ?_⟩
  obtain ⟨ps, hP, hT, h⟩ := h
  refine wpAny_Call_Name_kw (ld_glob I hg hm (PySem.W.callWith_K (h₀ := X.base) I.ok.mod.kin hk ?_ (by rfl) (by rfl)) hdb)
  show wpAny _ _ (spliced ((false, eval (.Lambda params body scope lpos) X.env) :: backTo pos (starEach [] X.env))) _ _ s
  refine Calls.spliced_cons (lam_make I TB hcode hP hT (L.has I.ok) B fun f c' bs dV' doc' pm' ctv H1 s' I1 eN hD _ hb0 hb1 hf hfn hfr hco => Calls.spliced_nil ⟨I1.kIn, ?_⟩)
  have rc : codeAny (model X.prog X.w) X.A (.call (.ref g) ⟨[.ref f], []⟩) (CR C8.CX0 X.stack X.prog X.w H1 s' Q C8.E0) s' := by
    refine run_ofS (N := Ng) (ps := [a]) (us := [.ref f]) (vs := [.ref f]) lk hcg Sg hr I1.env0 (hb s' [.ref f] I1.kIn rfl) (.cons rfl .nil) rfl fun hr' => ?_
    obtain ⟨t', ht', hq'⟩ := hG f c' s' H1 Q (fun E H' Q' => t E σ H' Q') (fun W pn xe E p1 p2 tk hW => pe_actG (i := 0) I1 L B hD hb0 hb1 hf hfn hfr tk hW hr' (fun A outer s H hr2 => hbody A outer s H E f c' hr2) hNg hva hd hcd) hco (h f c' H1 eN hco)
    exact ⟨t', ht'.nox, hq'⟩
  refine wpAny_call (codeAny_mono rc fun r s2 hq => ?_)
  cases r with
  | error e => exact (show False from hq).elim
  | ok fl =>
    cases fl with
    | ret u => exact I1.after hq
    | next => exact False.elim hq
    | brk => exact False.elim hq
    | cont => exact False.elim hq
end
end L2

/-! Calls by keywords; defs with a known code object; a try's body for whatever slots. -/
namespace L2
open PySem PySem.Spec PyProof.Rows LamX
/-- the values us, then ws, in another order -/
def perm {α : Type} (ix : List Nat) (us ws : List α) : List α := ix.filterMap fun i => (us ++ ws)[i]?
theorem vals_at : ∀ {vs : List V} {us : List Value}, Vals vs us → ∀ i : Nat, (vs[i]? = none ∧ us[i]? = none) ∨ ∃ v u, vs[i]? = some v ∧ us[i]? = some u ∧ RelV v u
  | _, _, .nil, i => .inl ⟨by simp, by simp⟩
  | _, _, .cons r _, 0 => .inr ⟨_, _, rfl, rfl, r⟩
  | _, _, .cons _ rs, i + 1 => by
    rcases vals_at rs i with ⟨a, b⟩ | ⟨v, u, a, b, r⟩
    · exact .inl ⟨by simpa using a, by simpa using b⟩
    · exact .inr ⟨v, u, by simpa using a, by simpa using b, r⟩
theorem vals_perm (ix : List Nat) {vs zs : List V} {us ws : List Value} (r : Vals vs us) (rz : Vals zs ws) : Vals (perm ix vs zs) (perm ix us ws) := by
  have h := vals_at (r.append rz)
  induction ix with
  | nil => exact .nil
  | cons i ix ih =>
    unfold perm at ih ⊢
    rcases h i with ⟨a, b⟩ | ⟨v, u, a, b, q⟩
    · rw [List.filterMap_cons, List.filterMap_cons, a, b]; exact ih
    · rw [List.filterMap_cons, List.filterMap_cons, a, b]; exact .cons q ih
section
variable {K : PySem.W.Frag}
theorem Fun.kbn {x qual : Str} {st : Stmt} {f : Addr} {fd : FuncData} {ps ks : List Str} {n : Nat} (ix : List Nat) (F : Fun K x qual st f fd)
    (h : ∀ (kV doc pm : Value) (an : Option Addr) (cdv ct : Value) (us ws : List Value), us.length = n → ws.length = ks.length → bindArgs (PySem.W.fnOf x qual (defArgs st) (defBody st) (defScope st) .none kV doc pm an cdv ct) ⟨us, ks.zip ws⟩ = pure (ps.zip (perm ix us ws))) : KBn K fd ps n ks (perm ix) (perm ix) := by
  obtain ⟨oc, od, kV, doc, pm, an, cdv, ct, osl, rfl, lk, hcd⟩ := F.ex
  exact ⟨fun s us ws _ h1 h2 => .of_eq (h kV doc pm an cdv ct us ws h1 h2), fun r rz => vals_perm ix r rz⟩
end
section
variable {X : Cx} {CX : CXT} {k : Nat} {f : Addr} {fd : FuncData} {ps ks : List Str} {sp : Sp} {E : XK} {x : Str} {p pos : Pos} {kws : List Keyword} {tk : TA} {g : List Value → List Value → List Value} {gV : List V → List V → List V} {nk : Nat}
/-- f(k = v, ..), nothing by position -/
theorem pe_callN0 (F : FnOk X.prog X.w X.K X.mg X.base CX k f fd ps sp) (hr : Room k X.A) (hg : Gl X x) (hm : X.mg x = some (.ref f)) (hk : PySem.W.keepIn X.K (.ref f) = true) (hb : KBn X.K fd ps 0 ks g gV) (hx : Passes CX X E)
    (hkw : PK X kws tk) (hall : (backToKw pos (keywordEach kws X.env)).all (·.1.isSome) = true := by rfl) (hks : (backToKw pos (keywordEach kws X.env)).filterMap (·.1) = ks := by rfl) (hdb : (x == ("__debug__" : Str)) = false := by decide)
    (hpl : ((backTo pos (starEach [] X.env)).any (·.1) || (backToKw pos (keywordEach kws X.env)).any (·.1.isNone)) = false := by rfl) (hnk : ks.length = nk := by rfl) : PE X (.Call (.Name x p) [] kws pos) (tCallN 0 nk sp gV E tNil tk) := by
  subst hnk
  refine ⟨fun pins s σ H Q I h => wpAny_Call_Name_kw (ld_glob I hg hm (PySem.W.callWith_KW0 (h₀ := X.base) I.ok.mod.kin hk hall (thn (hkw.run pos pins s σ H _ I h) fun ws s2 ⟨zs, H2, I2, rz, l1, l2, q2⟩ => ⟨I2.kIn, ?_⟩) hpl) hdb)⟩
  rw [hks]
  exact run_fnN F hr hb hx I2 .nil rz l1 l2 q2
theorem passN : Passes (L2.CX X.prog X.w) X E0 := fun pins σ H s e s' I c => by
  obtain ⟨_, _, _, _, _, _, _, _, _, _, _, _, z⟩ := c
  exact z.elim
/-- try: the reading t E of the body, E what is wished of exceptions, whatever the slots hold -/
def tTryB (len : Nat) (t : XK → TS) : WX → TS := fun W D σ H => ∃ E : XK, (∀ cls d σ' H', E cls d H' → σ'.length = len → W cls d σ' H') ∧ t E D σ H
theorem ps_tryB {body : List Stmt} {W : WX} {len : Nat} {t : XK → TS} (h : ∀ E : XK, (∀ cls d σ' H', E cls d H' → σ'.length = len → W cls d σ' H') → PSs X body (t E)) : PSs X body (tTryB len t W) := ⟨fun pins s σ H D I ⟨E, hE, q⟩ => (h E hE).run pins s σ H D I q⟩
end
section
variable {X : Cx} {one : Option Str} {TT : (XK → Hp → VK → Prop) → Addr → Addr → Hp → VK → Prop} {x a : Str} {g c P : Addr} {k : Nat} {stg : Stmt} {fdg : FuncData} {Ng : List Str} {params : Arguments} {body : Expr} {scope : Scope} {t : XK → TE} {p lpos pos : Pos}
/-- g(lambda: ..), g told by what is written of it -/
theorem pe_lamF (F : Fun X.K x x stg g fdg) (hb : L2.Binds X.K fdg [a] []) (Sg : FnScope Ng [a] (defScope stg)) (hNg : Ng[0]? = some a) (hva : Vis (defScope stg) a) (hG : ∀ cdv, GivesG X Ng x (defScope stg) g cdv (defBody stg) a (X.env.qual ++ "<lambda>") TT)
    (TB : TabB X.base X.mg c P) (hcode : X.env.code = .ref c) (hr : Room (k + 2) X.A) (L : LamN X.N X.env.scope scope one) (B : LamB params one) (hg : Gl X x) (hm : X.mg x = some (.ref g))
    (hbody : ∀ (A : Around) (outer : List Env) (s : Shared) (H : Hp) (E : XK) (f c' : Addr), Room k (A.deeper (lamEnv X scope s.heap.objs.size f c')) → PE (lamCx X A outer s H E scope f c') body (t E))
    (hdb : (x == ("__debug__" : Str)) = false := by decide) (hd : (a == ("__debug__" : Str)) = false := by decide) (hcd : (a == ("__classdict__" : Str)) = false := by decide) :
    PE X (.Call (.Name x p) [.Lambda params body scope lpos] [] pos) (tLamG P (X.env.qual ++ "<lambda>") TT t) := by
  obtain ⟨oc, od, kV, doc, pm, an, cdv, ct, osl, rfl, lk, hcg⟩ := F.ex
  exact pe_lamG hg hm F.kp lk hcg hb Sg hNg hva (hG cdv) TB hcode hr L B hbody hdb hd hcd
end
section
variable {P : Program} {w : World} {K : PySem.W.Frag} {mg : Str → Option Value} {base : Heap}
end
end L2

/-! == and != by an own __eq__; methods and instances called by keywords. -/
namespace L2
open PySem PySem.Spec PyProof.Rows LamX
/-- x == y, x an instance of C, whose __eq__ keeps sp -/
def rEqO (K : PySem.W.Frag) (C : Addr) (sp : Sp) : R2 := fun x y H Q => ∃ (a dx : Addr) (fs : List (Str × V)) (t : Value), x = .ref a ∧ H a = some (.ins C dx fs) ∧ TyX K H y t ∧ PySem.W.notFirst K C t = true ∧ sp [x, y] H (fun z H' => ∃ b, z = .bl b ∧ Q (.bl b) H') E0
/-- x != y, both instances of C -/
def rNeO (C : Addr) (sp : Sp) : R2 := fun x y H Q => ∃ (a dx : Addr) (fs : List (Str × V)) (a' dx' : Addr) (fs' : List (Str × V)), x = .ref a ∧ H a = some (.ins C dx fs) ∧ y = .ref a' ∧ H a' = some (.ins C dx' fs') ∧ sp [x, y] H (fun z H' => ∃ b, z = .bl b ∧ Q (.bl (!b)) H') E0
/-- C has an own __eq__, f, and no __ne__ -/
def neB (K : PySem.W.Frag) (C f : Addr) : Bool := match K.lookup C with
  | some ⟨.type "type", _, .cls cd, sl⟩ => (match cd.mro, sl.toList with
    | [.ref C', .type "object"], [_, _, _, _, some (.builtin _), _] => C' == C && !cd.hasDel && PySem.W.nsOkIn K cd.ns && PySem.W.nsIn K cd.ns "__eq__" == some (some (.ref f)) && PySem.W.nsIn K cd.ns "__ne__" == some none
    | _, _ => false)
  | _ => false
section
variable {X : Cx} {CX : CXT} {k : Nat} {C f : Addr} {fd : FuncData} {ps : List Str} {sp : Sp} {R : Value → Shared → Prop}
end
section
variable {X : Cx} {CX : CXT} {k : Nat} {C f g : Addr} {fd : FuncData} {ps ks : List Str} {sp : Sp} {E : XK} {x m : Str} {p pos apos : Pos} {o fe : Expr} {kws : List Keyword} {ta tf : TE} {t tk : TA} {gL : List Value → List Value → List Value} {gV : List V → List V → List V}
/-- o.m(k = v, ..) -/
def tMethN (C : Addr) (m : Str) (nk : Nat) (sp : Sp) (gV : List V → List V → List V) (E : XK) (ta : TE) (tk : TA) : TE := fun σ H Q => ta σ H fun y H1 => ∃ (a dx : Addr) (fs : List (Str × V)), y = .ref a ∧ H1 a = some (.ins C dx fs) ∧ fs.lookup m = none ∧ tk σ H1 fun zs H2 => zs.length = nk ∧ sp (gV [.ref a] zs) H2 Q E
end
section
variable {X : Cx} {CX : CXT} {k : Nat} {C g : Addr} {fd : FuncData} {ps ks : List Str} {sp : Sp} {E : XK} {pos : Pos} {fe : Expr} {kws : List Keyword} {tf : TE} {tk : TA} {gL : List Value → List Value → List Value} {gV : List V → List V → List V}
/-- o(k = v, ..), o an instance -/
def tCallON (C : Addr) (nk : Nat) (sp : Sp) (gV : List V → List V → List V) (E : XK) (tf : TE) (tk : TA) : TE := fun σ H Q => tf σ H fun y H1 => ∃ a, y = V.ref a ∧ tk σ H1 fun zs H2 => (∃ dx fs, H2 a = some (.ins C dx fs)) ∧ zs.length = nk ∧ sp (gV [.ref a] zs) H2 Q E
end
end L2

/-! A calculus over data: what a reading gives, told by plain data; the heap stays out of sight.
    Streams: objects of the law's own that draws change; all that is told of them is SO. -/
namespace DL
open PySem L2
abbrev Ex := Evl.Ex
/-- kinds of streams: the list of three; the dict with cells; the dict with a list of what is left, and that list -/
inductive SK where
  | l3 | cells | mp (len : Nat) | nats (len : Nat) | tbl (q : Str) | inv (I : Nat → Hp → HO → Prop)
/-- the tables of code objects that defs with lambdas have -/
class Tb (K : PySem.W.Frag) where
  tb : List (Addr × Str)
/-- what is known: the streams and a bound of their counters; what is settled, all that is tracked -/
structure Wd where
  S : Addr → Prop
  T : Addr → SK
  n : Nat
  H0 : Hp
  H1 : Hp
/-- data: what a value stands for; the last three are things that a def is still making (they stand in a slot alone) -/
inductive D where
  | non | bl (b : Bool) | int (i : Int) | str (x : Str)
  | lst (xs : List D) | tup (xs : List D)
  | obj (C : Addr) (fs : List (Str × D))
  | dct (kvs : List (Key × D))
  | fdc (kvs : List (Key × D))
  | ty (n : String) | cls (a : Addr)
  | strm (a : Addr) (k : SK)
  | exc (C : Addr) (fs : List (Str × D)) | lam (f c' : Addr) (q : Str) (u0 : Wd)
  | mls (xs : List D) | mob (a dx C : Addr) (fs : List (Str × D)) | mdk (kvs : List (Key × D))
/-- nothing that is known is lost -/
structure Le (u v : Wd) : Prop where
  s : ∀ a, u.S a → v.S a
  t : ∀ a, u.S a → v.T a = u.T a
  h : Ex u.H0 v.H0
theorem Le.refl {u : Wd} : Le u u := ⟨fun _ h => h, fun _ _ => rfl, .refl _⟩
theorem Le.trans {u u' u'' : Wd} (a : Le u u') (b : Le u' u'') : Le u u'' := ⟨fun x h => b.s x (a.s x h), fun x h => (b.t x (a.s x h)).trans (a.t x h), a.h.trans b.h⟩
mutual
inductive Den (K : PySem.W.Frag) (u : Wd) : V → D → Prop
  | non : Den K u .non .non
  | bl (b : Bool) : Den K u (.bl b) (.bl b)
  | int (i : Int) : Den K u (.int i) (.int i)
  | str (x : Str) : Den K u (.str x) (.str x)
  | ty (n : String) : Den K u (.ty n) (.ty n)
  | cls (a : Addr) : Den K u (.ref a) (.cls a)
  | strm {a : Addr} {k : SK} : u.S a → u.T a = k → Den K u (.ref a) (.strm a k)
  | lst {a : Addr} {xs : List V} {ds : List D} : SqL K u.H0 a xs → Dens K u xs ds → Den K u (.ref a) (.lst ds)
  | tup {a : Addr} {xs : List V} {ds : List D} : SqT K u.H0 a xs → Dens K u xs ds → Den K u (.ref a) (.tup ds)
  | obj {a C dx : Addr} {fs : List (Str × V)} {gs : List (Str × D)} : u.H0 a = some (.ins C dx fs) → DenF K u fs gs → Den K u (.ref a) (.obj C gs)
  | dct {a : Addr} {kvs : List (Key × V)} {gs : List (Key × D)} : Rd u.H0 a (.dK kvs) → DenK K u kvs gs → Den K u (.ref a) (.dct gs)
  | fdc {a : Addr} {o : Obj} {kvs : List (Key × V)} {gs : List (Key × D)} : u.H0 a = some (.frz o (.dK kvs)) → DenK K u kvs gs → Den K u (.ref a) (.fdc gs)
  | exc {a C dx : Addr} {fs : List (Str × V)} {gs : List (Str × D)} : u.H0 a = some (xo a (.ref C) (some dx)) → u.H0 dx = some (.xd fs) → DenF K u fs gs → Den K u (.ref a) (.exc C gs)
  | exc0 {a C : Addr} : u.H0 a = some (xo a (.ref C) none) → Den K u (.ref a) (.exc C [])
  | lam {f c' : Addr} {q : Str} {u0 : Wd} : Le u0 u → u.H0 c' = some (LamX.CodeO c' q) → Den K u (.ref f) (.lam f c' q u0)
inductive Dens (K : PySem.W.Frag) (u : Wd) : List V → List D → Prop
  | nil : Dens K u [] []
  | cons {v : V} {d : D} {vs : List V} {ds : List D} : Den K u v d → Dens K u vs ds → Dens K u (v :: vs) (d :: ds)
inductive DenF (K : PySem.W.Frag) (u : Wd) : List (Str × V) → List (Str × D) → Prop
  | nil : DenF K u [] []
  | cons {f : Str} {v : V} {d : D} {vs : List (Str × V)} {ds : List (Str × D)} : Den K u v d → DenF K u vs ds → DenF K u ((f, v) :: vs) ((f, d) :: ds)
inductive DenK (K : PySem.W.Frag) (u : Wd) : List (Key × V) → List (Key × D) → Prop
  | nil : DenK K u [] []
  | cons {f : Key} {v : V} {d : D} {vs : List (Key × V)} {ds : List (Key × D)} : Den K u v d → DenK K u vs ds → DenK K u ((f, v) :: vs) ((f, d) :: ds)
end
section
variable {K : PySem.W.Frag} [Tb K] {H H' : Hp} {u u' u'' v' : Wd}
theorem ex_new {p : Addr} {o : HO} (h : H p = none) : Ex H (upd H p o) := Evl.Ex.new h
mutual
theorem Den.mono (e : Le u u') : ∀ {v : V} {d : D}, Den K u v d → Den K u' v d
  | _, _, .non => .non
  | _, _, .bl b => .bl b
  | _, _, .int i => .int i
  | _, _, .str x => .str x
  | _, _, .ty x => .ty x
  | _, _, .cls x => .cls x
  | _, _, .strm h q => .strm (e.s _ h) ((e.t _ h).trans q)
  | _, _, .lst h r => .lst (Evl.ex_l e.h h) (Dens.mono e r)
  | _, _, .tup h r => .tup (Evl.ex_t e.h h) (Dens.mono e r)
  | _, _, .obj h r => .obj (e.h _ _ h) (DenF.mono e r)
  | _, _, .dct h r => .dct (Evl.ex_rd e.h h) (DenK.mono e r)
  | _, _, .fdc h r => .fdc (e.h _ _ h) (DenK.mono e r)
  | _, _, .exc h1 h2 r => .exc (e.h _ _ h1) (e.h _ _ h2) (DenF.mono e r)
  | _, _, .exc0 h => .exc0 (e.h _ _ h)
  | _, _, .lam l h => .lam (l.trans e) (e.h _ _ h)
theorem Dens.mono (e : Le u u') : ∀ {v : List V} {d : List D}, Dens K u v d → Dens K u' v d
  | _, _, .nil => .nil
  | _, _, .cons h r => .cons (Den.mono e h) (Dens.mono e r)
theorem DenF.mono (e : Le u u') : ∀ {v : List (Str × V)} {d : List (Str × D)}, DenF K u v d → DenF K u' v d
  | _, _, .nil => .nil
  | _, _, .cons h r => .cons (Den.mono e h) (DenF.mono e r)
theorem DenK.mono (e : Le u u') : ∀ {v : List (Key × V)} {d : List (Key × D)}, DenK K u v d → DenK K u' v d
  | _, _, .nil => .nil
  | _, _, .cons h r => .cons (Den.mono e h) (DenK.mono e r)
end
theorem Dens.len : ∀ {v : List V} {d : List D}, Dens K u v d → v.length = d.length
  | _, _, .nil => rfl
  | _, _, .cons _ r => by simp [Dens.len r]
theorem Dens.get : ∀ {v : List V} {d : List D} {i : Nat} {x : V}, Dens K u v d → v[i]? = some x → ∃ y, d[i]? = some y ∧ Den K u x y
  | _, _, _, _, .nil, e => by simp at e
  | _, _, 0, _, .cons r _, e => by simp at e; subst e; exact ⟨_, rfl, r⟩
  | _, _, i + 1, x, .cons _ t, e => by
    obtain ⟨u, h1, h2⟩ := Dens.get (i := i) (x := x) t (by simpa using e)
    exact ⟨u, by simpa using h1, h2⟩
theorem Dens.getD : ∀ {v : List V} {d : List D} {i : Nat} {y : D}, Dens K u v d → d[i]? = some y → ∃ x, v[i]? = some x ∧ Den K u x y
  | _, _, _, _, .nil, e => by simp at e
  | _, _, 0, _, .cons r _, e => by simp at e; subst e; exact ⟨_, rfl, r⟩
  | _, _, i + 1, x, .cons _ t, e => by
    obtain ⟨u, h1, h2⟩ := Dens.getD (i := i) (y := x) t (by simpa using e)
    exact ⟨u, by simpa using h1, h2⟩
theorem Dens.app : ∀ {v v' : List V} {d d' : List D}, Dens K u v d → Dens K u v' d' → Dens K u (v ++ v') (d ++ d')
  | _, _, _, _, .nil, s => s
  | _, _, _, _, .cons r t, s => .cons r (Dens.app t s)
theorem Dens.take : ∀ {v : List V} {d : List D} (n : Nat), Dens K u v d → Dens K u (v.take n) (d.take n)
  | _, _, 0, _ => .nil
  | _, _, _ + 1, .nil => .nil
  | _, _, n + 1, .cons r t => .cons r (Dens.take n t)
theorem Dens.drop : ∀ {v : List V} {d : List D} (n : Nat), Dens K u v d → Dens K u (v.drop n) (d.drop n)
  | _, _, 0, r => r
  | _, _, _ + 1, .nil => .nil
  | _, _, n + 1, .cons _ t => Dens.drop n t
theorem DenF.keys : ∀ {v : List (Str × V)} {d : List (Str × D)}, DenF K u v d → v.map (·.1) = d.map (·.1)
  | _, _, .nil => rfl
  | _, _, .cons _ r => by simp [DenF.keys r]
theorem DenF.len {v : List (Str × V)} {d : List (Str × D)} (h : DenF K u v d) : v.length = d.length := by
  have := congrArg List.length h.keys
  simpa using this
theorem DenF.look : ∀ {v : List (Str × V)} {d : List (Str × D)} {f : Str} {y : D}, DenF K u v d → d.lookup f = some y → ∃ x, v.lookup f = some x ∧ Den K u x y
  | _, _, _, _, .nil, e => by simp at e
  | _, _, f, y, .cons (f := g) (v := v) (d := d) r t, e => by
    rw [List.lookup_cons] at e ⊢
    cases hq : f == g with
    | true => rw [hq] at e; cases e; exact ⟨v, rfl, r⟩
    | false => rw [hq] at e; exact DenF.look t e
theorem den_int {v : V} {i : Int} (h : Den K u v (.int i)) : v = .int i := by cases h; rfl
theorem den_bl {v : V} {i : Bool} (h : Den K u v (.bl i)) : v = .bl i := by cases h; rfl
theorem den_non {v : V} (h : Den K u v .non) : v = .non := by cases h; rfl
theorem den_strm {v : V} {a : Addr} {k : SK} (h : Den K u v (.strm a k)) : v = .ref a ∧ u.S a ∧ u.T a = k := by cases h with | strm h q => exact ⟨rfl, h, q⟩
theorem den_lst {v : V} {xs : List D} (h : Den K u v (.lst xs)) : ∃ a vs, v = .ref a ∧ SqL K u.H0 a vs ∧ Dens K u vs xs := by cases h with | lst q r => exact ⟨_, _, rfl, q, r⟩
theorem den_tup {v : V} {xs : List D} (h : Den K u v (.tup xs)) : ∃ a vs, v = .ref a ∧ SqT K u.H0 a vs ∧ Dens K u vs xs := by cases h with | tup q r => exact ⟨_, _, rfl, q, r⟩
theorem dens1 {vs : List V} {x : D} (h : Dens K u vs [x]) : ∃ v, vs = [v] ∧ Den K u v x := by cases h with | cons a r => cases r; exact ⟨_, rfl, a⟩
theorem dens2 {vs : List V} {x y : D} (h : Dens K u vs [x, y]) : ∃ v w, vs = [v, w] ∧ Den K u v x ∧ Den K u w y := by cases h with | cons a r => obtain ⟨w, rfl, b⟩ := dens1 r; exact ⟨_, _, rfl, a, b⟩
/-- a field stored -/
def putD (f : Str) (d : D) : List (Str × D) → List (Str × D)
  | [] => [(f, d)]
  | (g, e) :: r => if g = f then (f, d) :: r else (g, e) :: putD f d r
theorem ex_none (e : Ex H H') {x : Addr} (h : H' x = none) : H x = none := Evl.fresh_back e h
abbrev ky (x : String) : Key := .inr (Str.ofString x)
/-- what is told of a stream of the law -/
def SO (K : PySem.W.Frag) [Tb K] (u : Wd) : SK → HO → Prop
  | .l3, o => ∃ x c m : Int, o = .lst [.int x, .int c, .int m] ∧ 0 ≤ x ∧ 0 ≤ c ∧ c ≤ u.n ∧ 0 ≤ m ∧ m < 2147483648
  | .cells, o => ∃ (l : Addr) (cs : List Int) (c x : Int), o = .dK [(ky "cells", .ref l), (ky "at", .int c), (ky "left", .int x)] ∧ SqL K u.H0 l (cs.map V.int) ∧ cs ≠ [] ∧ cs.length ≤ 1000 ∧ 0 ≤ c ∧ c ≤ u.n ∧ 0 ≤ x
  | .mp len, o => ∃ (l l2 : Addr) (cs : List Int) (c : Int), o = .dK [(ky "script", .ref l), (ky "at", .int c), (ky "left", .ref l2)] ∧ SqL K u.H0 l (cs.map V.int) ∧ cs.length = len ∧ 0 ≤ c ∧ c ≤ u.n ∧ u.S l2 ∧ u.T l2 = .nats len
  | .tbl q, o => ∃ ps, o = .tbl ps ∧ TabO u.H0 ps q
  | .nats len, o => ∃ xs : List Int, o = .lst (xs.map V.int) ∧ xs.length = len ∧ ∀ x ∈ xs, 0 ≤ x
  | .inv I, o => ∃ m H, m ≤ u.n ∧ Evl.Ex H u.H0 ∧ I m H o ∧ ∀ x, o ≠ .own x
theorem SO.mono {u v : Wd} {k : SK} {o : HO} (h : SO K u k o) (l : Le u v) (hn : u.n ≤ v.n) : SO K v k o := by
  cases k with
  | l3 =>
    obtain ⟨x, c, m, e, h1, h2, h3, h4⟩ := h
    exact ⟨x, c, m, e, h1, h2, by omega, h4⟩
  | cells =>
    obtain ⟨a, cs, c, x, e, q, h1, h2, h3, h4, h5⟩ := h
    exact ⟨a, cs, c, x, e, Evl.ex_l l.h q, h1, h2, h3, by omega, h5⟩
  | mp len =>
    obtain ⟨a, a2, cs, c, e, q, h1, h2, h3, h4, h5⟩ := h
    exact ⟨a, a2, cs, c, e, Evl.ex_l l.h q, h1, h2, by omega, l.s _ h4, (l.t _ h4).trans h5⟩
  | nats len => exact h
  | tbl q =>
    obtain ⟨ps, e, ht, ha⟩ := h
    exact ⟨ps, e, ht, fun p cv hc => let ⟨c, e1, e2⟩ := ha p cv hc; ⟨c, e1, l.h _ _ e2⟩⟩
  | inv I =>
    obtain ⟨m, H, h1, h2, h3⟩ := h
    exact ⟨m, H, by omega, h2.trans l.h, h3⟩
/-- one step on: all that is tracked stands, but streams may change; what is settled now was settled or is new -/
structure Gs (u v : Wd) : Prop where
  a : Ex u.H0 v.H0
  b : ∀ x o, ¬ u.S x → u.H1 x = some o → v.H1 x = some o
  b' : ∀ x, u.H1 x ≠ none → v.H1 x ≠ none
  c : Ex v.H0 v.H1
  n : ∀ x, u.H0 x = none → v.H0 x ≠ none → u.H1 x = none
  sub : ∀ x, u.S x → v.S x
  kd : ∀ x, u.S x → v.T x = u.T x
  new : ∀ x, v.S x → u.S x ∨ u.H1 x = none
  le : u.n ≤ v.n
theorem Gs.ls (g : Gs u v') : Le u v' := ⟨g.sub, g.kd, g.a⟩
theorem Gs.refl (e : Ex u.H0 u.H1) : Gs u u := ⟨.refl _, fun _ _ _ h => h, fun _ h => h, e, fun _ h h' => absurd h h', fun _ h => h, fun _ _ => rfl, fun _ h => .inl h, Nat.le_refl _⟩
theorem Gs.trans (g : Gs u u') (k : Gs u' u'') : Gs u u'' :=
  ⟨g.a.trans k.a, fun x o s h => k.b x o (fun s' => (g.new x s').elim s (fun z => by rw [z] at h; cases h)) (g.b x o s h), fun x h => k.b' x (g.b' x h), k.c, fun x h h' => by
    cases e : u'.H0 x with
    | none =>
      have z := k.n x e h'
      cases q : u.H1 x with
      | none => rfl
      | some o => exact absurd z (g.b' x (by rw [q]; simp))
    | some o => exact g.n x h (by rw [e]; simp), fun x h => k.sub x (g.sub x h), fun x h => (k.kd x (g.sub x h)).trans (g.kd x h), fun x h => by
    rcases k.new x h with h | h
    · exact g.new x h
    · refine .inr ?_
      cases q : u.H1 x with
      | none => rfl
      | some o => exact absurd h (g.b' x (by rw [q]; simp)), Nat.le_trans g.le k.le⟩
/-- the same world with a new object p, settled -/
abbrev Wd.put (u : Wd) (p : Addr) (o : HO) : Wd := ⟨u.S, u.T, u.n, upd u.H0 p o, upd u.H1 p o⟩
/-- streams stand as told -/
structure StOk (K : PySem.W.Frag) [Tb K] (u : Wd) : Prop where
  at_ : ∀ a, u.S a → u.H0 a = none ∧ ∃ o, u.H1 a = some o ∧ SO K u (u.T a) o
  tb : ∀ p ∈ Tb.tb K, u.S p.1 ∧ u.T p.1 = .tbl p.2
  on : ∀ a q, u.S a → u.T a = .tbl q → (a, q) ∈ Tb.tb K
instance : CoeFun (StOk K u) (fun _ => ∀ a, u.S a → u.H0 a = none ∧ ∃ o, u.H1 a = some o ∧ SO K u (u.T a) o) := ⟨StOk.at_⟩
theorem Gs.put (e : Ex u.H0 u.H1) {p : Addr} {o : HO} (h : u.H1 p = none) : Gs u (u.put p o) :=
  ⟨ex_new (ex_none e h), fun x w _ hx => (ex_new h) x w hx, fun x hx => by
      show upd u.H1 p o x ≠ none
      by_cases q : x = p
      · subst q; rw [upd_same]; simp
      · rw [upd_ne q]; exact hx, fun x w (hx : upd u.H0 p o x = some w) => by
      show upd u.H1 p o x = some w
      by_cases q : x = p
      · subst q; rw [upd_same] at hx ⊢; exact hx
      · rw [upd_ne q] at hx ⊢; exact e x w hx, fun x h0 (h1 : upd u.H0 p o x ≠ none) => by
      by_cases q : x = p
      · subst q; exact h
      · rw [upd_ne q] at h1; exact absurd h0 h1, fun _ h => h, fun _ _ => rfl, fun _ h => .inl h, Nat.le_refl _⟩
theorem StOk.put (e : Ex u.H0 u.H1) (s : StOk K u) {p : Addr} {o : HO} (h : u.H1 p = none) : StOk K (u.put p o) := by
  refine ⟨fun a ha => ?_, s.tb, s.on⟩
  obtain ⟨h0, w, h1, hs⟩ := s a ha
  have q : a ≠ p := fun q => by rw [q, h] at h1; cases h1
  exact ⟨(upd_ne q).trans h0, w, (upd_ne q).trans h1, hs.mono ⟨fun _ h => h, fun _ _ => rfl, (Gs.put e h).a⟩ (Nat.le_refl _)⟩
/-- more settled: an object that was not, and is no stream -/
theorem Gs.settle {b : Wd} (g : Gs b u) {p : Addr} {o : HO} (hb : b.H1 p = none) (h0 : u.H0 p = none) (h1 : u.H1 p = some o) : Gs b ⟨u.S, u.T, u.n, upd u.H0 p o, u.H1⟩ :=
  ⟨g.a.trans (ex_new h0), g.b, g.b', fun x w (hx : upd u.H0 p o x = some w) => by
      show u.H1 x = some w
      by_cases q : x = p
      · subst q; rw [upd_same] at hx; rw [h1]; exact hx
      · rw [upd_ne q] at hx; exact g.c x w hx, fun x h (h' : upd u.H0 p o x ≠ none) => by
      by_cases q : x = p
      · subst q; exact hb
      · rw [upd_ne q] at h'; exact g.n x h h', g.sub, g.kd, g.new, g.le⟩
theorem StOk.settle (s : StOk K u) {p : Addr} {o : HO} (h0' : u.H0 p = none) (n : ¬ u.S p) : StOk K ⟨u.S, u.T, u.n, upd u.H0 p o, u.H1⟩ := by
  refine ⟨fun a ha => ?_, s.tb, s.on⟩
  obtain ⟨h0, w, h1, hs⟩ := s a ha
  have q : a ≠ p := fun q => n (q ▸ ha)
  exact ⟨(upd_ne q).trans h0, w, h1, hs.mono ⟨fun _ h => h, fun _ _ => rfl, ex_new h0'⟩ (Nat.le_refl _)⟩
/-- an object that is not settled changes -/
theorem Gs.write {b : Wd} (g : Gs b u) {p : Addr} {o : HO} (hb : b.H1 p = none) (h0 : u.H0 p = none) : Gs b ⟨u.S, u.T, u.n, u.H0, upd u.H1 p o⟩ :=
  ⟨g.a, fun x w s hx => by
      show upd u.H1 p o x = some w
      have q : x ≠ p := fun q => by rw [q, hb] at hx; cases hx
      rw [upd_ne q]; exact g.b x w s hx, fun x hx => by
      show upd u.H1 p o x ≠ none
      by_cases q : x = p
      · subst q; rw [upd_same]; simp
      · rw [upd_ne q]; exact g.b' x hx, fun x w hx => by
      show upd u.H1 p o x = some w
      have q : x ≠ p := fun q => by rw [q, h0] at hx; cases hx
      rw [upd_ne q]; exact g.c x w hx, g.n, g.sub, g.kd, g.new, g.le⟩
theorem StOk.write (s : StOk K u) {p : Addr} {o : HO} (n : ¬ u.S p) : StOk K ⟨u.S, u.T, u.n, u.H0, upd u.H1 p o⟩ := by
  refine ⟨fun a ha => ?_, s.tb, s.on⟩
  obtain ⟨h0, w, h1, hs⟩ := s a ha
  have q : a ≠ p := fun q => n (q ▸ ha)
  exact ⟨h0, w, (upd_ne q).trans h1, hs.mono ⟨fun _ h => h, fun _ _ => rfl, .refl _⟩ (Nat.le_refl _)⟩
end
end DL

namespace DL
open PySem L2
section
variable {K : PySem.W.Frag} [Tb K] {Z : ZX} {b u u' u'' : Wd}
/-- whether a thing stands in a slot alone, still being made -/
def isMut : D → Bool
  | .mls _ | .mob _ _ _ _ | .mdk _ => true
  | _ => false
/-- what a slot holds -/
inductive DenS (K : PySem.W.Frag) (b u : Wd) : V → D → Prop
  | den {v : V} {d : D} : Den K u v d → DenS K b u v d
  | mls {a : Addr} {xs : List V} {ds : List D} : b.H1 a = none → u.H0 a = none → ¬ u.S a → u.H1 a = some (.lst xs) → Dens K u xs ds → DenS K b u (.ref a) (.mls ds)
  | mob {a C dx : Addr} {fs : List (Str × V)} {gs : List (Str × D)} : b.H1 a = none → u.H0 a = none → ¬ u.S a → u.H1 a = some (.ins C dx fs) → u.H1 dx = some (.own a) → ¬ u.S dx → DenF K u fs gs → DenS K b u (.ref a) (.mob a dx C gs)
  | mdk {a : Addr} {kvs : List (Key × V)} {gs : List (Key × D)} : b.H1 a = none → u.H0 a = none → ¬ u.S a → u.H1 a = some (.dK kvs) → DenK K u kvs gs → DenS K b u (.ref a) (.mdk gs)
theorem Den.notMut {v : V} {d : D} (h : Den K u v d) : isMut d = false := by
  cases h <;> rfl
theorem DenS.imm {v : V} {d : D} (h : DenS K b u v d) (i : isMut d = false) : Den K u v d := by
  cases h with
  | den h => exact h
  | mls => cases i
  | mob => cases i
  | mdk => cases i
theorem Gs.nn (g : Gs u u') {a : Addr} {o : HO} (e0 : u.H0 a = none) (e1 : u.H1 a = some o) : u'.H0 a = none := by
  cases q : u'.H0 a with
  | none => rfl
  | some w =>
    have z := g.n a e0 (by rw [q]; simp)
    rw [z] at e1; cases e1
theorem Gs.ns (g : Gs u u') {a : Addr} {o : HO} (e0 : ¬ u.S a) (e1 : u.H1 a = some o) : ¬ u'.S a := fun h => by
  rcases g.new a h with h | h
  · exact e0 h
  · rw [h] at e1; cases e1
theorem DenS.mono {v : V} {d : D} (g : Gs u u') (h : DenS K b u v d) : DenS K b u' v d := by
  cases h with
  | den h => exact .den (h.mono g.ls)
  | mls hb h0 hs h1 r => exact .mls hb (g.nn h0 h1) (g.ns hs h1) (g.b _ _ hs h1) (r.mono g.ls)
  | mob hb h0 hs h1 h2 hx r => exact .mob hb (g.nn h0 h1) (g.ns hs h1) (g.b _ _ hs h1) (g.b _ _ hx h2) (g.ns hx h2) (r.mono g.ls)
  | mdk hb h0 hs h1 r => exact .mdk hb (g.nn h0 h1) (g.ns hs h1) (g.b _ _ hs h1) (r.mono g.ls)
/-- where exceptions go, and what is told of them: class, fields, the bound of the streams -/
structure ZX where
  E : XK
  X : Addr → List (Str × D) → Nat → Prop
/-- an exception that flies: of the class C, with these fields -/
def DenE (K : PySem.W.Frag) [Tb K] (u : Wd) (cls : Value) (d : Option Addr) (C : Addr) (fs : List (Str × D)) : Prop :=
  cls = .ref C ∧ ((d = none ∧ fs = []) ∨ ∃ dx vs, d = some dx ∧ u.H0 dx = some (.xd vs) ∧ DenF K u vs fs)
def XOk (K : PySem.W.Frag) [Tb K] (Z : ZX) (b : Wd) : Prop := ∀ cls d C fs u', Gs b u' → StOk K u' → DenE K u' cls d C fs → Z.X C fs u'.n → Z.E cls d u'.H1
abbrev DS := List (Option D)
/-- the slots, told by data; b: the world that the def was handed -/
structure Sd (K : PySem.W.Frag) [Tb K] (Z : ZX) (b u : Wd) (σ : St) (ds : DS) : Prop where
  gr : Gs b u
  xk : XOk K Z b
  st : StOk K u
  len : σ.length = ds.length
  sl : ∀ (i : Nat) (d : D), ds[i]? = some (some d) → ∃ v, σ[i]? = some (some v) ∧ DenS K b u v d
  ap : ∀ (i j : Nat) (d e : D) (a c : Addr), ds[i]? = some (some d) → ds[j]? = some (some e) → isMut d = true → isMut e = true → i ≠ j → σ[i]? = some (some (.ref a)) → σ[j]? = some (some (.ref c)) → a ≠ c
variable {σ : St} {ds : DS}
theorem Sd.ex (S : Sd K Z b u σ ds) : Ex u.H0 u.H1 := S.gr.c
theorem Sd.go (S : Sd K Z b u σ ds) (g : Gs u u') (s : StOk K u') : Sd K Z b u' σ ds :=
  ⟨S.gr.trans g, S.xk, s, S.len, fun i d e => let ⟨v, h1, h2⟩ := S.sl i d e; ⟨v, h1, h2.mono g⟩, S.ap⟩
theorem get_set {α : Type} (l : List α) (i j : Nat) (x : α) : (l.set i x)[j]? = if i = j then (if i < l.length then some x else none) else l[j]? := by
  rw [List.getElem?_set]
/-- a value stored -/
theorem Sd.set {i : Nat} {v : V} {d : D} (S : Sd K Z b u σ ds) (h : Den K u v d) : Sd K Z b u (σ.set i (some v)) (ds.set i (some d)) := by
  refine ⟨S.gr, S.xk, S.st, by simp [S.len], fun j e q => ?_, fun j k e f a b h1 h2 m1 m2 ne q1 q2 => ?_⟩
  · by_cases q' : i = j
    · subst q'
      rw [get_set] at q
      by_cases hl : i < ds.length
      · simp [hl] at q
        subst q
        exact ⟨v, by simp [get_set, S.len, hl], .den h⟩
      · simp [hl] at q
    · rw [get_set, if_neg q'] at q
      obtain ⟨w, h1, h2⟩ := S.sl j e q
      exact ⟨w, by rw [get_set, if_neg q']; exact h1, h2⟩
  · have nd := h.notMut
    have k1 : i ≠ j := fun z => by
      subst z
      rw [get_set] at h1
      by_cases hl : i < ds.length
      · simp [hl] at h1; subst h1; rw [nd] at m1; cases m1
      · simp [hl] at h1
    have k2 : i ≠ k := fun z => by
      subst z
      rw [get_set] at h2
      by_cases hl : i < ds.length
      · simp [hl] at h2; subst h2; rw [nd] at m2; cases m2
      · simp [hl] at h2
    rw [get_set, if_neg k1] at h1 q1
    rw [get_set, if_neg k2] at h2 q2
    exact S.ap j k e f a b h1 h2 m1 m2 ne q1 q2

/-! ### judgements: P of what comes out, and of the bound of the streams behind -/
def We (K : PySem.W.Frag) [Tb K] (Z : ZX) (te : TE) (ds : DS) (n : Nat) (P : D → Nat → Prop) : Prop :=
  ∀ (b u : Wd) (σ : St) (Q : VK), u.n = n → Sd K Z b u σ ds → (∀ v d u', Gs u u' → StOk K u' → Den K u' v d → P d u'.n → Q v u'.H1) → te σ u.H1 Q
def Wt (K : PySem.W.Frag) [Tb K] (Z : ZX) (tt : TT) (ds : DS) (n : Nat) (P : Bool → Nat → Prop) : Prop :=
  ∀ (b u : Wd) (σ : St) (Q : Bool → Hp → Prop), u.n = n → Sd K Z b u σ ds → (∀ c u', Gs u u' → StOk K u' → P c u'.n → Q c u'.H1) → tt σ u.H1 Q
def Wa (K : PySem.W.Frag) [Tb K] (Z : ZX) (ta : TA) (ds : DS) (n : Nat) (P : List D → Nat → Prop) : Prop :=
  ∀ (b u : Wd) (σ : St) (Q : List V → Hp → Prop), u.n = n → Sd K Z b u σ ds → (∀ vs xs u', Gs u u' → StOk K u' → Dens K u' vs xs → P xs u'.n → Q vs u'.H1) → ta σ u.H1 Q
def Wo (K : PySem.W.Frag) [Tb K] (Z : ZX) (to : TO) (ds : DS) (n : Nat) (P : Option Int → Nat → Prop) : Prop :=
  ∀ (b u : Wd) (σ : St) (Q : Option Int → Hp → Prop), u.n = n → Sd K Z b u σ ds → (∀ c u', Gs u u' → StOk K u' → P c u'.n → Q c u'.H1) → to σ u.H1 Q
structure Nd where
  nx : DS → Nat → Prop
  rt : D → Nat → Prop
  bk : DS → Nat → Prop := fun _ _ => False
  ct : DS → Nat → Prop := fun _ _ => False
/-- the ends of a statement at the heaps, where the ends at the data are N; s: where it began -/
structure EndsOk (K : PySem.W.Frag) [Tb K] (Z : ZX) (b s : Wd) (De : Ends) (N : Nd) : Prop where
  nx : ∀ ds u σ, Le s u → Sd K Z b u σ ds → N.nx ds u.n → De.nx σ u.H1
  rt : ∀ d v u, Gs b u → StOk K u → Den K u v d → N.rt d u.n → De.rt v u.H1
  bk : ∀ ds u σ, Le s u → Sd K Z b u σ ds → N.bk ds u.n → De.bk σ u.H1
  ct : ∀ ds u σ, Le s u → Sd K Z b u σ ds → N.ct ds u.n → De.ct σ u.H1
theorem EndsOk.mono {s s' : Wd} {De : Ends} {N : Nd} (O : EndsOk K Z b s De N) (e : Le s s') : EndsOk K Z b s' De N :=
  ⟨fun ds u σ x => O.nx ds u σ (e.trans x), O.rt, fun ds u σ x => O.bk ds u σ (e.trans x), fun ds u σ x => O.ct ds u σ (e.trans x)⟩
def Ws (K : PySem.W.Frag) [Tb K] (Z : ZX) (ts : TS) (ds : DS) (n : Nat) (N : Nd) : Prop :=
  ∀ (b u : Wd) (σ : St) (De : Ends), u.n = n → Sd K Z b u σ ds → EndsOk K Z b u De N → ts De σ u.H1
/-- a target: x is stored -/
def Wg (K : PySem.W.Frag) [Tb K] (Z : ZX) (g : TG) (x : D) (ds : DS) (P : DS → Prop) : Prop :=
  ∀ (b u : Wd) (σ : St) (v : V) (Q : St → Hp → Prop), Sd K Z b u σ ds → Den K u v x → (∀ ds' σ', Sd K Z b u σ' ds' → P ds' → Q σ' u.H1) → g v σ u.H1 Q
def Wgs (K : PySem.W.Frag) [Tb K] (Z : ZX) (g : TGs) (xs : List D) (ds : DS) (P : DS → Prop) : Prop :=
  ∀ (b u : Wd) (σ : St) (vs : List V) (Q : St → Hp → Prop), Sd K Z b u σ ds → Dens K u vs xs → (∀ ds' σ', Sd K Z b u σ' ds' → P ds' → Q σ' u.H1) → g vs σ u.H1 Q

/-! ### expressions -/
variable {n : Nat} {P : D → Nat → Prop} {te ta tb tc : TE} {N : Nd}
theorem We.imp {P' : D → Nat → Prop} (h : We K Z te ds n P) (i : ∀ d m, P d m → P' d m) : We K Z te ds n P' := fun b u σ Q e S k => h b u σ Q e S fun v d u' g s r p => k v d u' g s r (i d _ p)
theorem we_here {v : V} {d : D} (hd : ∀ u, Den K u v d) (p : P d n) : We K Z (tC v) ds n P := fun b u σ Q e S k => k _ d u (.refl S.ex) S.st (hd u) (e ▸ p)
theorem we_var {i : Nat} {d : D} (h : ds[i]? = some (some d)) (m : isMut d = false) (p : P d n) : We K Z (tVar i) ds n P := fun b u σ Q e S k => by
  obtain ⟨v, h1, h2⟩ := S.sl i d h
  exact ⟨v, h1, k v d u (.refl S.ex) S.st (h2.imm m) (e ▸ p)⟩
theorem we_int {i : Int} (p : P (.int i) n) : We K Z (tC (.int i)) ds n P := we_here (fun _ => .int i) p
theorem we_bl {i : Bool} (p : P (.bl i) n) : We K Z (tC (.bl i)) ds n P := we_here (fun _ => .bl i) p
theorem we_non (p : P .non n) : We K Z (tC .non) ds n P := we_here (fun _ => .non) p
theorem we_str {x : Str} (p : P (.str x) n) : We K Z (tC (.str x)) ds n P := we_here (fun _ => .str x) p
theorem we_ty {x : String} (p : P (.ty x) n) : We K Z (tC (.ty x)) ds n P := we_here (fun _ => .ty x) p
theorem we_cls {x : Addr} (p : P (.cls x) n) : We K Z (tC (.ref x)) ds n P := we_here (fun _ => .cls x) p
/-- pure growth -/
structure Gp (K : PySem.W.Frag) [Tb K] (u v : Wd) : Prop where
  g : Gs u v
  st : StOk K u → StOk K v
  n : v.n = u.n
theorem Gp.refl (e : Ex u.H0 u.H1) : Gp K u u := ⟨.refl e, fun h => h, rfl⟩
theorem Gp.put (e : Ex u.H0 u.H1) {p : Addr} {o : HO} (h : u.H1 p = none) : Gp K u (u.put p o) := ⟨.put e h, fun s => s.put e h, rfl⟩
theorem Gp.trans (g : Gp K u u') (k : Gp K u' u'') : Gp K u u'' := ⟨g.g.trans k.g, fun s => k.st (g.st s), k.n.trans g.n⟩
/-- an operator on data -/
def Op (K : PySem.W.Frag) [Tb K] (r : R2) (x y : D) (P : D → Prop) : Prop :=
  ∀ (u : Wd) (v w : V) (Q : VK), Ex u.H0 u.H1 → StOk K u → Den K u v x → Den K u w y → (∀ z d u', Gp K u u' → Den K u' z d → P d → Q z u'.H1) → r v w u.H1 Q
theorem we_op {r : R2} (h : We K Z ta ds n fun x m => We K Z tb ds m fun y k => Op K r x y fun z => P z k) : We K Z (tOp r ta tb) ds n P := fun b u σ Q e S k =>
  h b u σ _ e S fun v x u1 g1 s1 d1 h2 => h2 b u1 σ _ rfl (S.go g1 s1) fun w y u2 g2 s2 d2 h3 => h3 u2 v w Q g2.c s2 (d1.mono g2.ls) d2 fun z d u3 g3 d3 p => k z d u3 ((g1.trans g2).trans g3.g) (g3.st s2) d3 (g3.n ▸ p)
def Un (K : PySem.W.Frag) [Tb K] (r : V → Hp → VK → Prop) (x : D) (P : D → Prop) : Prop :=
  ∀ (u : Wd) (v : V) (Q : VK), Ex u.H0 u.H1 → Den K u v x → (∀ z d u', Gp K u u' → Den K u' z d → P d → Q z u'.H1) → r v u.H1 Q
theorem we_un {r : V → Hp → VK → Prop} (h : We K Z ta ds n fun x m => Un K r x fun z => P z m) : We K Z (tUn r ta) ds n P := fun b u σ Q e S k =>
  h b u σ _ e S fun v x u1 g1 s1 d1 h2 => h2 u1 v Q g1.c d1 fun z d u3 g3 d3 p => k z d u3 (g1.trans g3.g) (g3.st s1) d3 (g3.n ▸ p)
theorem wa_nil {P : List D → Nat → Prop} (p : P [] n) : Wa K Z tNil ds n P := fun b u σ Q e S k => k _ [] u (.refl S.ex) S.st .nil (e ▸ p)
theorem wa_cons {P : List D → Nat → Prop} {tr : TA} (h : We K Z ta ds n fun x m => Wa K Z tr ds m fun xs k => P (x :: xs) k) : Wa K Z (tCons ta tr) ds n P := fun b u σ Q e S k =>
  h b u σ _ e S fun v x u1 g1 s1 d1 h2 => h2 b u1 σ _ rfl (S.go g1 s1) fun vs xs u2 g2 s2 d2 p => k (v :: vs) (x :: xs) u2 (g1.trans g2) s2 (.cons (d1.mono g2.ls) d2) p
/-- what a call of a built-in gives -/
def Cb (K : PySem.W.Frag) [Tb K] (r : List V → Hp → VK → Prop) (xs : List D) (P : D → Prop) : Prop :=
  ∀ (u : Wd) (vs : List V) (Q : VK), Ex u.H0 u.H1 → Dens K u vs xs → (∀ z d u', Gp K u u' → Den K u' z d → P d → Q z u'.H1) → r vs u.H1 Q
theorem we_cb {r : List V → Hp → VK → Prop} {t : TA} (h : Wa K Z t ds n fun xs m => Cb K r xs fun z => P z m) : We K Z (tCB r t) ds n P := fun b u σ Q e S k =>
  h b u σ _ e S fun vs xs u1 g1 s1 d1 h2 => h2 u1 vs Q g1.c d1 fun z d u3 g3 d3 p => k z d u3 (g1.trans g3.g) (g3.st s1) d3 (g3.n ▸ p)
theorem sz100 {n : Nat} (h : n ≤ 1000000) : n ≤ sizeLine := Nat.le_trans h (by decide)
theorem we_tup {t : TA} (h : Wa K Z t ds n fun xs m => xs.length ≤ 1000000 ∧ P (.tup xs) m) : We K Z (tTup t) ds n P := fun b u σ Q e S k =>
  h b u σ _ e S fun vs xs u1 g1 s1 d1 h2 => ⟨by rw [d1.len]; exact sz100 h2.1, fun p hp => k _ _ (u1.put p _) (g1.trans (.put g1.c hp)) (s1.put g1.c hp) (.tup (SqT.of upd_same) (d1.mono (Gs.put g1.c hp).ls)) h2.2⟩
theorem we_lst {t : TA} (h : Wa K Z t ds n fun xs m => xs.length ≤ 1000000 ∧ P (.lst xs) m) : We K Z (tLst t) ds n P := fun b u σ Q e S k =>
  h b u σ _ e S fun vs xs u1 g1 s1 d1 h2 => ⟨by rw [d1.len]; exact sz100 h2.1, fun p hp => k _ _ (u1.put p _) (g1.trans (.put g1.c hp)) (s1.put g1.c hp) (.lst (SqL.of upd_same) (d1.mono (Gs.put g1.c hp).ls)) h2.2⟩
/-! ### tests -/
theorem wt_test {P : Bool → Nat → Prop} (h : We K Z te ds n fun d m => ∃ c, d = .bl c ∧ P c m) : Wt K Z (tTest te) ds n P := fun b u σ Q e S k =>
  h b u σ _ e S fun v d u1 g1 s1 d1 ⟨c, q, p⟩ => by
    subst q
    cases den_bl d1
    exact ⟨c, rfl, k c u1 g1 s1 p⟩
theorem wt_B {P : Bool → Nat → Prop} (h : We K Z te ds n fun d m => ∃ c, d = .bl c ∧ P c m) : Wt K Z (tB te) ds n P := fun b u σ Q e S k =>
  h b u σ _ e S fun v d u1 g1 s1 d1 ⟨c, q, p⟩ => by
    subst q
    cases den_bl d1
    exact ⟨c, rfl, k c u1 g1 s1 p⟩
variable {tt tu : TT}
theorem wt_and {P : Bool → Nat → Prop} (h : Wt K Z tt ds n fun c m => if c = true then Wt K Z tu ds m P else P false m) : Wt K Z (tAnd tt tu) ds n P := fun b u σ Q e S k =>
  h b u σ _ e S fun c u1 g1 s1 q => by
    cases c with
    | true => exact q b u1 σ Q rfl (S.go g1 s1) fun c u2 g2 s2 p => k c u2 (g1.trans g2) s2 p
    | false => exact k false u1 g1 s1 q
theorem wt_or {P : Bool → Nat → Prop} (h : Wt K Z tt ds n fun c m => if c = true then P true m else Wt K Z tu ds m P) : Wt K Z (tOr tt tu) ds n P := fun b u σ Q e S k =>
  h b u σ _ e S fun c u1 g1 s1 q => by
    cases c with
    | true => exact k true u1 g1 s1 q
    | false => exact q b u1 σ Q rfl (S.go g1 s1) fun c u2 g2 s2 p => k c u2 (g1.trans g2) s2 p
theorem wt_not {P : Bool → Nat → Prop} (h : Wt K Z tt ds n fun c m => P (!c) m) : Wt K Z (tNot tt) ds n P := fun b u σ Q e S k =>
  h b u σ _ e S fun c u1 g1 s1 q => k (!c) u1 g1 s1 q
theorem we_andV (h : We K Z ta ds n fun d m => ∃ c, d = .bl c ∧ if c = true then We K Z tb ds m P else P (.bl false) m) : We K Z (tAndV ta tb) ds n P := fun b u σ Q e S k =>
  h b u σ _ e S fun v d u1 g1 s1 d1 ⟨c, z, q⟩ => by
    subst z
    cases den_bl d1
    refine ⟨c, rfl, ?_⟩
    cases c with
    | true => exact q b u1 σ Q rfl (S.go g1 s1) fun v d u2 g2 s2 r p => k v d u2 (g1.trans g2) s2 r p
    | false => exact k _ _ u1 g1 s1 (.bl false) q
theorem we_orV (h : We K Z ta ds n fun d m => ∃ c, d = .bl c ∧ if c = true then P (.bl true) m else We K Z tb ds m P) : We K Z (tOrV ta tb) ds n P := fun b u σ Q e S k =>
  h b u σ _ e S fun v d u1 g1 s1 d1 ⟨c, z, q⟩ => by
    subst z
    cases den_bl d1
    refine ⟨c, rfl, ?_⟩
    cases c with
    | true => exact k _ _ u1 g1 s1 (.bl true) q
    | false => exact q b u1 σ Q rfl (S.go g1 s1) fun v d u2 g2 s2 r p => k v d u2 (g1.trans g2) s2 r p
theorem we_notV (h : We K Z ta ds n fun d m => ∃ c, d = .bl c ∧ P (.bl (!c)) m) : We K Z (tNotV ta) ds n P := fun b u σ Q e S k =>
  h b u σ _ e S fun v d u1 g1 s1 d1 ⟨c, z, q⟩ => by
    subst z
    cases den_bl d1
    exact ⟨c, rfl, k _ _ u1 g1 s1 (.bl (!c)) q⟩
theorem we_if (h : Wt K Z tt ds n fun c m => if c = true then We K Z ta ds m P else We K Z tb ds m P) : We K Z (tIf tt ta tb) ds n P := fun b u σ Q e S k =>
  h b u σ _ e S fun c u1 g1 s1 q => by
    cases c with
    | true => exact q b u1 σ Q rfl (S.go g1 s1) fun v d u2 g2 s2 r p => k v d u2 (g1.trans g2) s2 r p
    | false => exact q b u1 σ Q rfl (S.go g1 s1) fun v d u2 g2 s2 r p => k v d u2 (g1.trans g2) s2 r p
theorem wo_none {P : Option Int → Nat → Prop} (p : P none n) : Wo K Z tNoPart ds n P := fun b u σ Q e S k => k _ u (.refl S.ex) S.st (e ▸ p)
theorem wo_some {P : Option Int → Nat → Prop} (h : We K Z te ds n fun d m => ∃ i, d = .int i ∧ P (some i) m) : Wo K Z (tPart te) ds n P := fun b u σ Q e S k =>
  h b u σ _ e S fun v d u1 g1 s1 d1 ⟨i, z, q⟩ => by
    subst z
    cases den_int d1
    exact ⟨i, rfl, k _ u1 g1 s1 q⟩
def Sl (K : PySem.W.Frag) [Tb K] (r : V → Option Int → Option Int → Hp → VK → Prop) (x : D) (lo hi : Option Int) (P : D → Prop) : Prop :=
  ∀ (u : Wd) (v : V) (Q : VK), Ex u.H0 u.H1 → Den K u v x → (∀ z d u', Gp K u u' → Den K u' z d → P d → Q z u'.H1) → r v lo hi u.H1 Q
theorem we_sl {r : V → Option Int → Option Int → Hp → VK → Prop} {tl th : TO} (h : We K Z te ds n fun x m => Wo K Z tl ds m fun lo k => Wo K Z th ds k fun hi j => Sl K r x lo hi fun z => P z j) : We K Z (tSl r te tl th) ds n P := fun b u σ Q e S k =>
  h b u σ _ e S fun v x u1 g1 s1 d1 h1 => h1 b u1 σ _ rfl (S.go g1 s1) fun lo u2 g2 s2 h2 => h2 b u2 σ _ rfl ((S.go g1 s1).go g2 s2) fun hi u3 g3 s3 h3 =>
    h3 u3 v Q g3.c (d1.mono (g2.ls.trans g3.ls)) fun z d u4 g4 r p => k z d u4 (((g1.trans g2).trans g3).trans g4.g) (g4.st s3) r (g4.n ▸ p)
/-! ### statements -/
variable {ts t1 t2 : TS} {g : TG} {De : Ends}
theorem ws_next (p : N.nx ds n) : Ws K Z tNext ds n N := fun b u σ De e S O => O.nx _ u σ .refl S (e ▸ p)
theorem ws_seq (h : Ws K Z t1 ds n { N with nx := fun ds' m => Ws K Z t2 ds' m N }) : Ws K Z (tSeq t1 t2) ds n N := fun b u σ De e S O =>
  h b u σ _ e S ⟨fun ds' u' σ' x S' q => q b u' σ' De rfl S' (O.mono x), O.rt, O.bk, O.ct⟩
theorem ws_ret (h : We K Z te ds n N.rt) : Ws K Z (tRet te) ds n N := fun b u σ De e S O =>
  h b u σ _ e S fun v d u1 g1 s1 r p => O.rt d v u1 (S.gr.trans g1) s1 r p
theorem ws_if (h : Wt K Z tt ds n fun c m => if c = true then Ws K Z t1 ds m N else Ws K Z t2 ds m N) : Ws K Z (tIfS tt t1 t2) ds n N := fun b u σ De e S O =>
  h b u σ _ e S fun c u1 g1 s1 q => by
    cases c with
    | true => exact q b u1 σ De rfl (S.go g1 s1) (O.mono g1.ls)
    | false => exact q b u1 σ De rfl (S.go g1 s1) (O.mono g1.ls)
theorem ws_asg (h : We K Z te ds n fun d m => Wg K Z g d ds fun ds' => N.nx ds' m) : Ws K Z (tAsg te g) ds n N := fun b u σ De e S O =>
  h b u σ _ e S fun v d u1 g1 s1 r p => p b u1 σ v _ (S.go g1 s1) r fun ds' σ' S' q => O.nx _ u1 _ g1.ls S' q
theorem wg_name {i : Nat} {x : D} {P : DS → Prop} (p : P (ds.set i (some x))) : Wg K Z (gName i) x ds P := fun b u σ v Q S r k => k _ _ (S.set r) p
theorem wgs_nil {P : DS → Prop} {xs : List D} (e : xs = []) (p : P ds) : Wgs K Z gNil xs ds P := fun b u σ v Q S r k => by
  subst e
  cases r
  exact ⟨rfl, k _ _ S p⟩
theorem wgs_cons {P : DS → Prop} {x : D} {xs ys : List D} {gs : TGs} (e : ys = x :: xs) (h : Wg K Z g x ds fun ds' => Wgs K Z gs xs ds' P) : Wgs K Z (gCons g gs) ys ds P := fun b u σ v Q S r k => by
  subst e
  cases r with
  | cons r1 r2 =>
    rename_i v vs
    exact ⟨v, vs, rfl, h b u σ v _ S r1 fun ds' σ' S' q => q b u σ' vs _ S' r2 k⟩
theorem wg_tup {P : DS → Prop} {j : Nat} {x : D} {xs : List D} {gs : TGs} (e : x = .tup xs) (hn : xs.length = j) (h : Wgs K Z gs xs ds P) : Wg K Z (gTup K j gs) x ds P := fun b u σ v Q S r k => by
  subst e
  obtain ⟨a, vs, rfl, q, r2⟩ := den_tup r
  exact ⟨_, _, rfl, Evl.ex_t S.ex q, r2.len.trans hn, h b u σ _ Q S r2 k⟩
/-- a slot forgotten -/
theorem Sd.drop {i : Nat} {y : Option V} (S : Sd K Z b u σ ds) : Sd K Z b u (σ.set i y) (ds.set i none) := by
  refine ⟨S.gr, S.xk, S.st, by simp [S.len], fun j e q => ?_, fun j k e f a b h1 h2 m1 m2 ne q1 q2 => ?_⟩
  · by_cases q' : i = j
    · subst q'
      rw [get_set] at q
      by_cases hl : i < ds.length <;> simp [hl] at q
    · rw [get_set, if_neg q'] at q
      obtain ⟨w, h1, h2⟩ := S.sl j e q
      exact ⟨w, by rw [get_set, if_neg q']; exact h1, h2⟩
  · have k1 : i ≠ j := fun z => by
      subst z
      rw [get_set] at h1
      by_cases hl : i < ds.length <;> simp [hl] at h1
    have k2 : i ≠ k := fun z => by
      subst z
      rw [get_set] at h2
      by_cases hl : i < ds.length <;> simp [hl] at h2
    rw [get_set, if_neg k1] at h1 q1
    rw [get_set, if_neg k2] at h2 q2
    exact S.ap j k e f a b h1 h2 m1 m2 ne q1 q2
/-- what a slot is making changes -/
theorem Sd.change {i : Nat} {a : Addr} {o : HO} {d d' : D} (S : Sd K Z b u σ ds) (hd : ds[i]? = some (some d)) (m : isMut d = true) (hs : σ[i]? = some (some (.ref a))) (m' : isMut d' = true) (hb : b.H1 a = none) (h0 : u.H0 a = none) (hS : ¬ u.S a)
    (hx' : ∀ x, u.H1 a ≠ some (.own x)) (new : DenS K b ⟨u.S, u.T, u.n, u.H0, upd u.H1 a o⟩ (.ref a) d') : Sd K Z b ⟨u.S, u.T, u.n, u.H0, upd u.H1 a o⟩ σ (ds.set i (some d')) := by
  have l1 : Le u ⟨u.S, u.T, u.n, u.H0, upd u.H1 a o⟩ := ⟨fun _ h => h, fun _ _ => rfl, .refl _⟩
  refine ⟨S.gr.write hb h0, S.xk, S.st.write hS, by simp [S.len], fun j e q => ?_, fun j k e f b c h1 h2 m1 m2 ne q1 q2 => ?_⟩
  · by_cases q' : i = j
    · subst q'
      have hl : i < ds.length := (List.getElem?_eq_some_iff.mp hd).1
      rw [get_set] at q
      simp [hl] at q
      subst q
      exact ⟨.ref a, hs, new⟩
    · rw [get_set, if_neg q'] at q
      obtain ⟨w, h1, h2⟩ := S.sl j e q
      refine ⟨w, h1, ?_⟩
      cases h2 with
      | den h => exact .den (h.mono l1)
      | mls b0 b1 b5 b2 b3 =>
        have z := S.ap i j _ _ _ _ hd q m rfl q' hs h1
        exact .mls b0 b1 b5 ((upd_ne z.symm).trans b2) (b3.mono l1)
      | mob b0 b1 b5 b2 b4 b6 b3 =>
        have z := S.ap i j _ _ _ _ hd q m rfl q' hs h1
        exact .mob b0 b1 b5 ((upd_ne z.symm).trans b2) ((upd_ne (fun z : _ = a => by rw [z] at b4; exact hx' _ b4)).trans b4) b6 (b3.mono l1)
      | mdk b0 b1 b5 b2 b3 =>
        have z := S.ap i j _ _ _ _ hd q m rfl q' hs h1
        exact .mdk b0 b1 b5 ((upd_ne z.symm).trans b2) (b3.mono l1)
  · have hl : i < ds.length := (List.getElem?_eq_some_iff.mp hd).1
    have at_ : ∀ (j : Nat) (e : D), (ds.set i (some d'))[j]? = some (some e) → isMut e = true → ∃ e', ds[j]? = some (some e') ∧ isMut e' = true := fun j e h m1 => by
      by_cases q : i = j
      · subst q; exact ⟨d, hd, m⟩
      · rw [get_set, if_neg q] at h; exact ⟨e, h, m1⟩
    obtain ⟨e', h1', m1'⟩ := at_ j e h1 m1
    obtain ⟨f', h2', m2'⟩ := at_ k f h2 m2
    exact S.ap j k e' f' b c h1' h2' m1' m2' ne q1 q2
/-- xs.append(e) -/
theorem ws_append {i : Nat} {xs : List D} (hd : ds[i]? = some (some (.mls xs))) (hz : xs.length < 1000000) (h : We K Z te ds n fun d m => N.nx (ds.set i (some (.mls (xs ++ [d])))) m) : Ws K Z (tDrop (tBM K "list" rAppend (tVar i) (tCons te tNil))) ds n N := fun b u σ De e S O => by
  obtain ⟨v, hv, hS⟩ := S.sl i _ hd
  cases hS with
  | den h => cases h
  | mls b0 b1 b5 b2 b3 =>
    rename_i a vs
    refine ⟨.ref a, hv, ⟨Or.inl ⟨rfl, vs, SqL.of b2⟩, h b u σ _ e S fun w d u1 g1 s1 r p => ?_⟩⟩
    have S' := S.go g1 s1
    obtain ⟨v', hv', hS'⟩ := S'.sl i _ hd
    rw [hv] at hv'
    cases hv'
    cases hS' with
    | den h => cases h
    | mls c0 c1 c5 c2 c3 =>
      have z : vs = _ := HO.lst.inj (Option.some.inj ((g1.b _ _ b5 b2).symm.trans c2))
      subst z
      have l1 : Le u1 ⟨u1.S, u1.T, u1.n, u1.H0, upd u1.H1 a (.lst (vs ++ [w]))⟩ := ⟨fun _ h => h, fun _ _ => rfl, .refl _⟩
      exact ⟨a, vs, w, rfl, rfl, c2, by rw [c3.len]; exact Nat.lt_of_lt_of_le hz (by decide), O.nx _ ⟨u1.S, u1.T, u1.n, u1.H0, _⟩ _ ⟨g1.sub, g1.kd, g1.a⟩ (S'.change hd rfl hv rfl c0 c1 c5 (fun _ z => by rw [c2] at z; cases z) (.mls c0 c1 c5 upd_same ((c3.app (.cons r .nil)).mono l1))) p⟩
/-- what a slot is making is done -/
theorem Sd.settle {i : Nat} {xs : List D} (S : Sd K Z b u σ ds) (hd : ds[i]? = some (some (.mls xs))) : ∃ u', Le u u' ∧ u'.n = u.n ∧ u'.H1 = u.H1 ∧ Sd K Z b u' σ (ds.set i (some (.lst xs))) := by
  obtain ⟨v, hv, hS⟩ := S.sl i _ hd
  cases hS with
  | den h => cases h
  | mls b0 b1 b5 b2 b3 =>
    rename_i a vs
    have l1 : Le u ⟨u.S, u.T, u.n, upd u.H0 a (.lst vs), u.H1⟩ := ⟨fun _ h => h, fun _ _ => rfl, ex_new b1⟩
    refine ⟨⟨u.S, u.T, u.n, upd u.H0 a (.lst vs), u.H1⟩, l1, rfl, rfl, S.gr.settle b0 b1 b2, S.xk, S.st.settle b1 b5, by simp [S.len], fun j e q => ?_, fun j k e f b c h1 h2 m1 m2 ne q1 q2 => ?_⟩
    · by_cases q' : i = j
      · subst q'
        have hl : i < ds.length := (List.getElem?_eq_some_iff.mp hd).1
        rw [get_set] at q
        simp [hl] at q
        subst q
        exact ⟨.ref a, hv, .den (.lst (SqL.of upd_same) (b3.mono l1))⟩
      · rw [get_set, if_neg q'] at q
        obtain ⟨w, h1, h2⟩ := S.sl j e q
        refine ⟨w, h1, ?_⟩
        cases h2 with
        | den h => exact .den (h.mono l1)
        | mls c0 c1 c5 c2 c3 => exact .mls c0 ((upd_ne (S.ap i j _ _ _ _ hd q rfl rfl q' hv h1).symm).trans c1) c5 c2 (c3.mono l1)
        | mob c0 c1 c5 c2 c4 c6 c3 => exact .mob c0 ((upd_ne (S.ap i j _ _ _ _ hd q rfl rfl q' hv h1).symm).trans c1) c5 c2 c4 c6 (c3.mono l1)
        | mdk c0 c1 c5 c2 c3 => exact .mdk c0 ((upd_ne (S.ap i j _ _ _ _ hd q rfl rfl q' hv h1).symm).trans c1) c5 c2 (c3.mono l1)
    · have hl : i < ds.length := (List.getElem?_eq_some_iff.mp hd).1
      have ni : ∀ (j : Nat) (e : D), (ds.set i (some (D.lst xs)))[j]? = some (some e) → isMut e = true → ds[j]? = some (some e) := fun j e h m => by
        by_cases q : i = j
        · subst q
          rw [get_set] at h
          simp [hl] at h
          subst h
          cases m
        · rw [get_set, if_neg q] at h; exact h
      exact S.ap j k e f b c (ni _ _ h1 m1) (ni _ _ h2 m2) m1 m2 ne q1 q2
theorem ws_settle {i : Nat} {xs : List D} (hd : ds[i]? = some (some (.mls xs))) (h : Ws K Z ts (ds.set i (some (.lst xs))) n N) : Ws K Z ts ds n N := fun b u σ De e S O => by
  obtain ⟨u', x, en, eh, S'⟩ := S.settle hd
  have := h b u' σ De (en.trans e) S' (O.mono x)
  rw [eh] at this
  exact this
end
end DL

namespace DL
open PySem L2 StX
open PyProof.Rows (envOfC)
section
variable {K : PySem.W.Frag} [Tb K] {Z : ZX} {b u u' u'' : Wd} {σ : L2.St} {ds : DS} {n : Nat} {P : D → Nat → Prop} {te ta tb tc : TE} {tt tu : TT} {N : Nd} {ts t1 t2 : TS} {g : TG} {De : Ends} {Pl : List D → Nat → Prop}
/-! ### what is walked gives the data xs -/
def Wi (K : PySem.W.Frag) [Tb K] (Z : ZX) (wi : TI) (ds : DS) (n : Nat) (P : List D → Nat → Prop) : Prop :=
  ∀ (b u : Wd) (σ : St) (R : It → Hp → Prop), u.n = n → Sd K Z b u σ ds → (∀ J xs u' G Y, Gs u u' → StOk K u' → P xs u'.n → Walk J xs.length G Y → (∀ w, Le u' w → Ex w.H0 w.H1 → G w.H1) →
    (∀ w i v A, Le u' w → Ex w.H0 w.H1 → StOk K w → i < xs.length → Y i w.H1 v A → ∃ x w', w'.H1 = A ∧ xs[i]? = some x ∧ Gp K w w' ∧ Den K w' v x) → R J u'.H1) → wi σ u.H1 R
theorem ws_for {wi : TI} {g : TG} {tb : TS} (h : Wi K Z wi ds n fun xs m => ∃ Iv : Nat → DS → Nat → Prop, Iv 0 ds m ∧
    (∀ i x ds' k, xs[i]? = some x → Iv i ds' k → Wg K Z g x ds' fun ds2 => Ws K Z tb ds2 k { nx := Iv (i + 1), rt := N.rt, bk := N.nx, ct := Iv (i + 1) }) ∧ (∀ ds' k, Iv xs.length ds' k → N.nx ds' k)) : Ws K Z (tFor wi g tb) ds n N := fun b u σ De e S O =>
  h b u σ _ e S fun J xs u1 G Y g1 s1 ⟨Iv, i0, is, idn⟩ w hG hY => by
    refine for_it w (fun i σ' H' => ∃ w ds', w.H1 = H' ∧ Le u1 w ∧ Sd K Z b w σ' ds' ∧ Iv i ds' w.n) ⟨u1, ds, rfl, .refl, S.go g1 s1, i0⟩ (fun i σ' H' _ ⟨w, ds', eh, l, S', _⟩ => eh ▸ hG w l S'.ex) ?_ ?_
    · rintro i v σ' H' H'' hi ⟨w, ds', rfl, l, S', iv⟩ y
      obtain ⟨x, w', rfl, hx, g2, r⟩ := hY w i v H'' l S'.ex S'.st hi y
      have q := is i x ds' w.n hx iv
      rw [← g2.n] at q
      refine q b w' σ' v _ (S'.go g2.g (g2.st S'.st)) r fun ds2 σ2 S2 q => q b w' σ2 _ rfl S2 ⟨fun ds3 u3 σ3 x S3 q3 => ⟨u3, ds3, rfl, (l.trans g2.g.ls).trans x, S3, q3⟩, O.rt, fun ds3 u3 σ3 x S3 q3 => O.nx _ u3 _ (g1.ls.trans ((l.trans g2.g.ls).trans x)) S3 q3, fun ds3 u3 σ3 x S3 q3 => ⟨u3, ds3, rfl, (l.trans g2.g.ls).trans x, S3, q3⟩⟩
    · rintro σ' H' ⟨w, ds', rfl, l, S', iv⟩
      exact O.nx _ w _ (g1.ls.trans l) S' (idn ds' _ iv)
theorem wi_list (h : We K Z te ds n fun d m => ∃ xs, d = .lst xs ∧ Pl xs m) : Wi K Z (iList K te) ds n Pl := fun b u σ R e S k =>
  h b u σ _ e S fun v d u1 g1 s1 r ⟨xs, z, p⟩ => by
    subst z
    obtain ⟨a, vs, rfl, q, r⟩ := den_lst r
    refine ⟨a, rfl, ⟨vs, Evl.ex_l g1.c q⟩, k _ xs u1 _ _ g1 s1 p (r.len ▸ walk_list (K := K) (a := a) (xs := vs)) (fun w l e => Evl.ex_l e (Evl.ex_l l.h q)) fun w i v A l e1 _ hi y => ?_⟩
    obtain ⟨rfl, y⟩ := y
    obtain ⟨z, hz, hd⟩ := r.get y
    exact ⟨z, w, rfl, hz, .refl e1, hd.mono l⟩
theorem wi_tup (h : We K Z te ds n fun d m => ∃ xs, d = .tup xs ∧ Pl xs m) : Wi K Z (iTup K te) ds n Pl := fun b u σ R e S k =>
  h b u σ _ e S fun v d u1 g1 s1 r ⟨xs, z, p⟩ => by
    subst z
    obtain ⟨a, vs, rfl, q, r⟩ := den_tup r
    refine ⟨a, rfl, ⟨vs, Evl.ex_t g1.c q⟩, k _ xs u1 _ _ g1 s1 p (r.len ▸ walk_tup (K := K) (a := a) (xs := vs)) (fun w l e => Evl.ex_t e (Evl.ex_t l.h q)) fun w i v A l e1 _ hi y => ?_⟩
    obtain ⟨rfl, y⟩ := y
    obtain ⟨z, hz, hd⟩ := r.get y
    exact ⟨z, w, rfl, hz, .refl e1, hd.mono l⟩
def rng (lo : Int) (n : Nat) : List D := (List.range n).map fun (i : Nat) => D.int (lo + (i : Int))
theorem rng_len (lo : Int) (n : Nat) : (rng lo n).length = n := by simp [rng]
theorem rng_get {lo : Int} {n i : Nat} (h : i < n) : (rng lo n)[i]? = some (.int (lo + i)) := by simp [rng, h]
theorem wi_rng {lo : Int} {n : Nat} {R : It → Hp → Prop} (g : Gs u u') (s : StOk K u') (p : Pl (rng lo n) u'.n) (k : ∀ J xs u' G Y, Gs u u' → StOk K u' → Pl xs u'.n → Walk J xs.length G Y → (∀ w, Le u' w → Ex w.H0 w.H1 → G w.H1) →
    (∀ w i v A, Le u' w → Ex w.H0 w.H1 → StOk K w → i < xs.length → Y i w.H1 v A → ∃ x w', w'.H1 = A ∧ xs[i]? = some x ∧ Gp K w w' ∧ Den K w' v x) → R J u'.H1) : R (Itr lo n) u'.H1 := by
  refine k _ (rng lo n) u' _ _ g s p (by rw [rng_len]; exact walk_range (lo := lo) (n := n)) (fun _ _ _ => trivial) fun w i v A l e1 _ hi y => ?_
  obtain ⟨rfl, rfl⟩ := y
  exact ⟨.int (lo + i), w, rfl, rng_get (by simpa [rng_len] using hi), .refl e1, .int _⟩
theorem wi_range1 {t : TA} (h : Wa K Z t ds n fun xs m => ∃ j : Int, xs = [.int j] ∧ (-(2 ^ 62) ≤ j ∧ j < 2 ^ 62) ∧ Pl (rng 0 j.toNat) m) : Wi K Z (iRng1 t) ds n Pl := fun b u σ R e S k =>
  h b u σ _ e S fun vs d u1 g1 s1 r ⟨j, z, ⟨b1, b2⟩, p⟩ => by
    subst z
    obtain ⟨v, rfl, r1⟩ := dens1 r
    cases den_int r1
    exact ⟨j, rfl, b1, b2, wi_rng g1 s1 p k⟩
def signs (z : Str) : List D := z.cps.toList.map fun c => D.str ⟨#[c]⟩
def enumD (xs : List D) : List D := (List.range xs.length).zipWith (fun (i : Nat) x => D.tup [.int (i : Int), x]) xs
def zipD (xs ys : List D) : List D := xs.zipWith (fun x y => D.tup [x, y]) ys
/-! ### comprehensions -/
def wipeD (ds : DS) : List Nat → DS
  | [] => ds
  | v :: vs => (wipeD ds vs).set v none
theorem Sd.wipe (S : Sd K Z b u σ ds) : ∀ vs : List Nat, Sd K Z b u (L2.wipe σ vs) (wipeD ds vs)
  | [] => S
  | v :: vs => (Sd.wipe S vs).drop
theorem wipe_get (σ : St) (i : Nat) : ∀ vs : List Nat, (L2.wipe σ vs)[i]? = if i ∈ vs then (if i < σ.length then some none else none) else σ[i]?
  | [] => by simp [L2.wipe]
  | v :: vs => by
    show ((L2.wipe σ vs).set v none)[i]? = _
    rw [get_set, wipe_length, wipe_get σ i vs]
    by_cases h : v = i
    · subst h; simp
    · have h' : i ≠ v := fun z => h z.symm
      simp [h, h']
theorem wipe_of {σ σ' : St} {vs : List Nat} (hl : σ'.length = σ.length) (h : ∀ j, j ∉ vs → σ'[j]? = (L2.wipe σ vs)[j]?) : L2.wipe σ' vs = L2.wipe σ vs := by
  apply List.ext_getElem?
  intro i
  rw [wipe_get]
  by_cases q : i ∈ vs
  · rw [if_pos q, wipe_get, if_pos q, hl]
  · rw [if_neg q, h i q]
def Wgc (K : PySem.W.Frag) [Tb K] (Z : ZX) (g : TG) (js : List Nat) (x : D) (ds : DS) (P : DS → Prop) : Prop :=
  ∀ (b u : Wd) (σ : St) (v : V) (Q : St → Hp → Prop), Sd K Z b u σ ds → Den K u v x → (∀ ds' σ', Sd K Z b u σ' ds' → σ'.length = σ.length → (∀ j, j ∉ js → σ'[j]? = σ[j]?) → P ds' → Q σ' u.H1) → g v σ u.H1 Q
def Wgsc (K : PySem.W.Frag) [Tb K] (Z : ZX) (g : TGs) (js : List Nat) (xs : List D) (ds : DS) (P : DS → Prop) : Prop :=
  ∀ (b u : Wd) (σ : St) (vs : List V) (Q : St → Hp → Prop), Sd K Z b u σ ds → Dens K u vs xs → (∀ ds' σ', Sd K Z b u σ' ds' → σ'.length = σ.length → (∀ j, j ∉ js → σ'[j]? = σ[j]?) → P ds' → Q σ' u.H1) → g vs σ u.H1 Q
theorem wgc_name {i : Nat} {js : List Nat} {x : D} {P : DS → Prop} (hi : i ∈ js) (p : P (ds.set i (some x))) : Wgc K Z (gName i) js x ds P := fun b u σ v Q S r k =>
  k _ _ (S.set r) (by simp) (fun j hj => by rw [get_set, if_neg (fun z : i = j => hj (by rw [← z]; exact hi))]) p
theorem wgsc_nil {P : DS → Prop} {js : List Nat} {xs : List D} (e : xs = []) (p : P ds) : Wgsc K Z gNil js xs ds P := fun b u σ v Q S r k => by
  subst e
  cases r
  exact ⟨rfl, k _ _ S rfl (fun _ _ => rfl) p⟩
theorem wgsc_cons {P : DS → Prop} {js : List Nat} {x : D} {xs ys : List D} {gs : TGs} (e : ys = x :: xs) (h : Wgc K Z g js x ds fun ds' => Wgsc K Z gs js xs ds' P) : Wgsc K Z (gCons g gs) js ys ds P := fun b u σ v Q S r k => by
  subst e
  cases r with
  | cons r1 r2 =>
    rename_i v vs
    exact ⟨v, vs, rfl, h b u σ v _ S r1 fun ds' σ' S' l1 f1 q => q b u σ' vs _ S' r2 fun ds2 σ2 S2 l2 f2 p => k ds2 σ2 S2 (l2.trans l1) (fun j hj => (f2 j hj).trans (f1 j hj)) p⟩
theorem wgc_tup {P : DS → Prop} {js : List Nat} {j : Nat} {x : D} {xs : List D} {gs : TGs} (e : x = .tup xs) (hn : xs.length = j) (h : Wgsc K Z gs js xs ds P) : Wgc K Z (gTup K j gs) js x ds P := fun b u σ v Q S r k => by
  subst e
  obtain ⟨a, vs, rfl, q, r2⟩ := den_tup r
  exact ⟨_, _, rfl, Evl.ex_t S.ex q, r2.len.trans hn, h b u σ _ Q S r2 k⟩
theorem we_lc {wi : TI} {vs : List Nat} (h : Wi K Z wi ds n fun xs m => ∃ Iv : Nat → List D → Nat → Prop, Iv 0 [] m ∧
    (∀ i x ys k, xs[i]? = some x → Iv i ys k → Wgc K Z g vs x (wipeD ds vs) fun ds2 => Wt K Z tt ds2 k fun c j => if c = true then We K Z te ds2 j (fun y l => ys.length < 1000000 ∧ Iv (i + 1) (ys ++ [y]) l) else Iv (i + 1) ys j) ∧
    (∀ ys k, Iv xs.length ys k → P (.lst ys) k)) : We K Z (tLc wi g tt te vs) ds n P := fun b u σ Q e S k =>
  h b u σ _ e S fun J xs u1 G Y g1 s1 ⟨Iv, i0, is, idn⟩ w hG hY => fun Dl hD => by
    have n0 : u1.H0 Dl = none := ex_none g1.c hD
    have nS : ¬ u1.S Dl := fun h => by
      obtain ⟨_, o, h1, _⟩ := s1 Dl h
      rw [hD] at h1; cases h1
    refine lc_it w (fun i H' => ∃ w ys acc, w.H1 = H' ∧ Gs u1 w ∧ StOk K w ∧ w.H0 Dl = none ∧ ¬ w.S Dl ∧ H' Dl = some (.lst acc) ∧ Dens K w acc ys ∧ Iv i ys w.n)
      ⟨⟨u1.S, u1.T, u1.n, u1.H0, upd u1.H1 Dl (.lst [])⟩, [], [], rfl, (Gs.refl g1.c).write hD n0, s1.write nS, n0, nS, upd_same, .nil, i0⟩ (fun i H' _ ⟨w, ys, acc, eh, g', _⟩ => eh ▸ hG w g'.ls g'.c) ?_ ?_
    · rintro i v H' H'' hi ⟨w, ys, acc, rfl, g', sw, c0, cS, hc, hr, iv⟩ y
      obtain ⟨x, w', rfl, hx, g2, r⟩ := hY w i v H'' g'.ls g'.c sw hi y
      have c1 := g2.g.nn c0 hc
      have cS1 := g2.g.ns cS hc
      have hc1 := g2.g.b _ _ cS hc
      have S1 := ((S.go g1 s1).go (g'.trans g2.g) (g2.st sw)).wipe vs
      have q := is i x ys w.n hx iv
      rw [← g2.n] at q
      refine q b w' (L2.wipe σ vs) v _ S1 r fun ds2 σ2 S2 l2 f2 q => ⟨wipe_of (l2.trans (wipe_length _ _)) f2, q b w' σ2 _ rfl S2 fun c u3 g3 s3 q3 => ?_⟩
      have c2 := g3.nn c1 hc1
      have cS2 := g3.ns cS1 hc1
      have hc2 := g3.b _ _ cS1 hc1
      cases c with
      | false => exact ⟨u3, ys, acc, rfl, (g'.trans g2.g).trans g3, s3, c2, cS2, hc2, hr.mono (g2.g.ls.trans g3.ls), q3⟩
      | true =>
        refine q3 b u3 σ2 _ rfl (S2.go g3 s3) fun y d u4 g4 s4 r4 ⟨hl, p4⟩ => ?_
        have c3 := g4.nn c2 hc2
        have cS3 := g4.ns cS2 hc2
        have hc3 := g4.b _ _ cS2 hc2
        have l4 : Le u4 ⟨u4.S, u4.T, u4.n, u4.H0, upd u4.H1 Dl (.lst (acc ++ [y]))⟩ := ⟨fun _ h => h, fun _ _ => rfl, .refl _⟩
        exact ⟨acc, hc3, by rw [hr.len]; exact Nat.lt_of_lt_of_le hl (by decide), ⟨u4.S, u4.T, u4.n, u4.H0, upd u4.H1 Dl (.lst (acc ++ [y]))⟩, ys ++ [d], acc ++ [y], rfl, (((g'.trans g2.g).trans g3).trans g4).write hD c3, s4.write cS3, c3, cS3, upd_same, ((hr.mono ((g2.g.ls.trans g3.ls).trans g4.ls)).app (.cons r4 .nil)).mono l4, p4⟩
    · rintro H' ⟨w, ys, acc, rfl, g', sw, c0, cS, hc, hr, iv⟩
      have l1 : Le w ⟨w.S, w.T, w.n, upd w.H0 Dl (.lst acc), w.H1⟩ := ⟨fun _ h => h, fun _ _ => rfl, ex_new c0⟩
      exact k _ _ ⟨w.S, w.T, w.n, upd w.H0 Dl (.lst acc), w.H1⟩ (g1.trans (g'.settle hD c0 hc)) (sw.settle c0 cS) (.lst (SqL.of upd_same) (hr.mono l1)) (idn ys _ iv)
end
/-! ### defs -/
abbrev Xp := Addr → List (Str × D) → Nat → Prop
abbrev Rl := List D → Nat → (D → Nat → Prop) → Xp → Prop
/-- a def that draws nothing and raises nothing -/
abbrev pr (R : List D → (D → Prop) → Prop) : Rl := fun ds n P _ => R ds fun d => P d n
/-- a def that draws nothing -/
abbrev px (R : List D → (D → Prop) → (Addr → List (Str × D) → Prop) → Prop) : Rl := fun ds n P X => R ds (fun d => P d n) fun C fs => X C fs n
def spD (K : PySem.W.Frag) [Tb K] (R : Rl) : Sp := fun vs H Q E => ∃ (u : Wd) (ds : List D) (P : D → Nat → Prop) (X : Xp), u.H1 = H ∧ Ex u.H0 u.H1 ∧ StOk K u ∧ Dens K u vs ds ∧ R ds u.n P X ∧ (∀ v d u', Gs u u' → StOk K u' → Den K u' v d → P d u'.n → Q v u'.H1) ∧ XOk K ⟨E, X⟩ u
abbrev noX : Xp := fun _ _ _ => False
theorem xok_no {K : PySem.W.Frag} [Tb K] {E : XK} {u : Wd} : XOk K ⟨E, noX⟩ u := fun _ _ _ _ _ _ _ _ z => z.elim
theorem XOk.at {K : PySem.W.Frag} [Tb K] {Z : ZX} {b u : Wd} (x : XOk K Z b) (g : Gs b u) : XOk K Z u := fun cls d C fs u' g' s e z => x cls d C fs u' (g.trans g') s e z
/-- of an __init__: the fields that the new object has -/
abbrev Ri := List D → Nat → (List (Str × D) → Prop) → Xp → Prop
def spI (K : PySem.W.Frag) [Tb K] (C : Addr) (R : Ri) : Sp := fun vs H Q E => ∃ (x dx : Addr) (ws : List V) (u : Wd) (ds : List D) (P : List (Str × D) → Prop) (X : Xp), vs = .ref x :: ws ∧ u.H1 x = none ∧ u.H1 dx = none ∧ dx ≠ x ∧ H = upd (upd u.H1 dx (.own x)) x (.ins C dx []) ∧ Ex u.H0 u.H1 ∧ StOk K u ∧ Dens K u ws ds ∧ R ds u.n P X ∧
  (∀ fs gs u', Gs u u' → StOk K u' → u'.n = u.n → u'.H0 x = none → ¬ u'.S x → u'.H1 x = some (.ins C dx fs) → u'.H1 dx = some (.own x) → DenF K u' fs gs → P gs → Q .non u'.H1) ∧ XOk K ⟨E, X⟩ u
section
variable {K : PySem.W.Frag} [Tb K] {Z : ZX} {b u u' u'' : Wd} {σ : L2.St} {ds : DS} {n : Nat} {P : D → Nat → Prop} {te ta tb tc : TE} {tt tu : TT} {N : Nd} {ts t1 t2 : TS} {g : TG} {De : Ends} {E : XK} {C : Addr} {R : Rl}
theorem we_call {t : TA} (h : Wa K Z t ds n fun xs m => R xs m P noX) : We K Z (tCall (spD K R) [] E t) ds n P := fun b u σ Q e S k =>
  h b u σ _ e S fun vs xs u1 g1 s1 r p => ⟨u1, xs, P, noX, rfl, g1.c, s1, by rw [List.append_nil]; exact r, p, fun v d u2 g2 s2 r' p' => k v d u2 (g1.trans g2) s2 r' p', xok_no⟩
theorem we_callX {t : TA} (h : Wa K Z t ds n fun xs m => R xs m P Z.X) : We K Z (tCall (spD K R) [] Z.E t) ds n P := fun b u σ Q e S k =>
  h b u σ _ e S fun vs xs u1 g1 s1 r p => ⟨u1, xs, P, Z.X, rfl, g1.c, s1, by rw [List.append_nil]; exact r, p, fun v d u2 g2 s2 r' p' => k v d u2 (g1.trans g2) s2 r' p', S.xk.at (S.gr.trans g1)⟩
variable {Pr : Program} {w : World} {mg : Str → Option Value} {base : Heap}
theorem start_get {N : List Str} {vs : List V} (h : vs.length ≤ N.length) : (L2.start N vs).length = N.length := by simp [L2.start]; omega
def startD (n : Nat) (ds : List D) : DS := ds.map some ++ List.replicate (n - ds.length) none
theorem sd_start {N : List Str} {vs : List V} {xs : List D} (e : Ex u.H0 u.H1) (xk : XOk K Z u) (st : StOk K u) (r : Dens K u vs xs) (hl : vs.length ≤ N.length) : Sd K Z u u (L2.start N vs) (startD N.length xs) := by
  have get : ∀ (i : Nat) (d : D), (startD N.length xs)[i]? = some (some d) → xs[i]? = some d := fun i d h => by
    unfold startD at h
    rw [List.getElem?_append] at h
    by_cases q : i < (xs.map some).length
    · rw [if_pos q] at h
      simpa using h
    · rw [if_neg q, List.getElem?_replicate] at h
      split at h <;> cases h
  refine ⟨.refl e, xk, st, by rw [start_get hl]; simp [startD, r.len.symm]; omega, fun i d h => ?_, fun i j d e a b h1 h2 m1 m2 => ?_⟩
  · obtain ⟨v, hv, hd⟩ := r.getD (get i d h)
    refine ⟨v, ?_, .den hd⟩
    unfold L2.start
    rw [List.getElem?_append_left (by simpa using (List.getElem?_eq_some_iff.mp hv).1)]
    simp [hv]
  · obtain ⟨v, hv, hd⟩ := r.getD (get i d h1)
    rw [hd.notMut] at m1
    cases m1
/-- a def keeps its promise: its body, told by data -/
theorem dok {x qual : Str} {st : Stmt} {f : Addr} {fd : FuncData} {N ps : List Str} {k : Nat} (F : Fun K x qual st f fd) (S : FnScope N ps (defScope st)) (len : ∀ ds n P X, R ds n P X → ds.length = ps.length) (hNp : ps.length ≤ N.length)
    (hbody : ∀ (cdv : Value) (A : Around) (outer : List Env) (s : Shared) (H : Hp) (E : XK), Room k (A.deeper (envOfC qual (defScope st) s.heap.objs.size f cdv)) →
      ∃ t, PSs (cxOf CX0 Pr w K mg base N qual (defScope st) f cdv A outer s H E).nox (defBody st) t ∧ ∀ Z ds n P, R ds n P Z.X → Ws K Z t (startD N.length ds) n { nx := fun _ m => P .non m, rt := P }) : FnOk Pr w K mg base CX0 (k + 1) f fd ps (spD K R) := by
  refine F.ok S (fun vs H Q E ⟨u, ds, P, X, _, e, _, r, h, _⟩ => by rw [r.len]; exact len ds _ P X h) (fun cdv A outer s H vs Q E hr ⟨u, ds, P, X, eh, e, st, r, h, q, xk⟩ => ?_)
  obtain ⟨t, ht, hW⟩ := hbody cdv A outer s H E hr
  subst eh
  refine ⟨t, ht, hW ⟨E, X⟩ ds u.n P h u u _ _ rfl (sd_start e xk st r (by rw [r.len, len ds _ P X h]; exact hNp)) ⟨fun ds' v σ' _ S' p => q _ _ _ S'.gr S'.st .non p, fun d v v' g s r p => q v d v' g s r p, fun _ _ _ _ _ z => z.elim, fun _ _ _ _ _ z => z.elim⟩⟩
/-- the same of a def that lets exceptions out -/
theorem dokX {x qual : Str} {st : Stmt} {f : Addr} {fd : FuncData} {N ps : List Str} {k : Nat} (F : Fun K x qual st f fd) (S : FnScope N ps (defScope st)) (len : ∀ ds n P X, R ds n P X → ds.length = ps.length) (hNp : ps.length ≤ N.length)
    (hbody : ∀ (cdv : Value) (A : Around) (outer : List Env) (s : Shared) (H : Hp) (E : XK), Room k (A.deeper (envOfC qual (defScope st) s.heap.objs.size f cdv)) →
      ∃ t, PSs (cxOf (L2.CX Pr w) Pr w K mg base N qual (defScope st) f cdv A outer s H E) (defBody st) t ∧ ∀ X ds n P, R ds n P X → Ws K ⟨E, X⟩ t (startD N.length ds) n { nx := fun _ m => P .non m, rt := P }) : FnOk Pr w K mg base (L2.CX Pr w) (k + 1) f fd ps (spD K R) := by
  refine F.okX S (fun vs H Q E ⟨u, ds, P, X, _, e, _, r, h, _⟩ => by rw [r.len]; exact len ds _ P X h) (fun cdv A outer s H vs Q E hr ⟨u, ds, P, X, eh, e, st, r, h, q, xk⟩ => ?_)
  obtain ⟨t, ht, hW⟩ := hbody cdv A outer s H E hr
  subst eh
  refine ⟨t, ht, hW X ds u.n P h u u _ _ rfl (sd_start e xk st r (by rw [r.len, len ds _ P X h]; exact hNp)) ⟨fun ds' v σ' _ S' p => q _ _ _ S'.gr S'.st .non p, fun d v v' g s r p => q v d v' g s r p, fun _ _ _ _ _ z => z.elim, fun _ _ _ _ _ z => z.elim⟩⟩
end
end DL

namespace L2
open PySem PySem.Spec PyProof.Rows
section
variable {X : Cx}
/-- list + list, whatever the lists are -/
def rCatL (K : PySem.W.Frag) : R2 := fun x y H Q => ∃ l b xs zs, x = .ref l ∧ y = .ref b ∧ SqL K H l xs ∧ SqL K H b zs ∧ xs.length + zs.length ≤ sizeLine ∧ ∀ p, H p = none → Q (.ref p) (upd H p (.lst (xs ++ zs)))
theorem op_catL : OpR X (binaryOp .Add) (rCatL X.K) := by
  intro pins s σ H x y v u Q I rx ry h
  obtain ⟨l, b, xs, zs, rfl, rfl, hH, hB, hz, q⟩ := h
  cases rx
  cases ry
  obtain ⟨its, r, pl, hl⟩ := I.list hH
  obtain ⟨its2, r2, pl2, hl2⟩ := I.list hB
  obtain ⟨⟨cls, dd, data, sl⟩, ho, hc, n, hd⟩ := pl.isList
  obtain ⟨⟨cls2, dd2, data2, sl2⟩, ho2, hc2, n2, hd2⟩ := pl2.isList
  simp only at hc hd hc2 hd2
  subst hc hd hc2 hd2
  have ea : its.toArray ++ its2.toArray = (its ++ its2).toArray := by simp
  have l1 := r.length
  have l2 := r2.length
  refine concat_meets ⟨_, ho, rfl⟩ ⟨_, ho2, rfl⟩ noFill_list_add seq_list_add PySem.F.slot_list_add PySem.F.entry_list_add (PySem.F.args_list_add_2 _ _) (list_addW l b its.toArray its2.toArray n n2 dd dd2 sl sl2 (by simp; omega)) ⟨ho, ho2, ?_⟩
  rw [ea]
  exact ⟨.ref _, _, I.lnew (t' := s.toks) (r.append r2) (by rw [List.length_append]; omega), rfl, q _ I.fresh⟩
/-- a + b: ints, texts, lists, tuples -/
def rAddI : R2 := rI0 fun i j => .int (i + j)
def rAddT : R2 := fun x y H Q => ∃ i j, x = .str i ∧ y = .str j ∧ i.length + j.length ≤ sizeLine ∧ Q (.str (i ++ j)) H
def rAddU (K : PySem.W.Frag) : R2 := fun x y H Q => rAddI x y H Q ∨ rAddT x y H Q ∨ rCatL K x y H Q ∨ rCatA K x y H Q
theorem op_addU : OpR X (binaryOp .Add) (rAddU X.K) := (show OpR X (binaryOp .Add) rAddI from op_add).or ((show OpR X (binaryOp .Add) rAddT from op_add_str).or (op_catL.or op_catA))
end
end L2
namespace DL
open PySem L2 StX
section
variable {K : PySem.W.Frag} [Tb K] {Z : ZX} {u u' : Wd} {σ : L2.St} {ds : DS} {P : D → Prop} {te ta tb tc : TE} {tt tu : TT} {i j : Int} {x y : Str} {xs ys : List D} {C : Addr} {a b : D} {p q : Bool}
theorem Op.or {r r' : R2} (h : Op K r a b P) : Op K (fun x y H Q => r x y H Q ∨ r' x y H Q) a b P := fun u v w Q e s d1 d2 k => .inl (h u v w Q e s d1 d2 k)
theorem op_I0 {g : Int → Int → V} {d : D} (hd : ∀ u, Den K u (g i j) d) (h : P d) : Op K (rI0 g) (.int i) (.int j) P := fun u v w Q e _ d1 d2 k => by
  cases den_int d1
  cases den_int d2
  exact ⟨i, j, rfl, rfl, k _ _ u (.refl e) (hd _) h⟩
theorem op_I {c : Int → Int → Prop} {g : Int → Int → V} {d : D} (hd : ∀ u, Den K u (g i j) d) (hc : c i j) (h : P d) : Op K (rI c g) (.int i) (.int j) P := fun u v w Q e _ d1 d2 k => by
  cases den_int d1
  cases den_int d2
  exact ⟨i, j, rfl, rfl, hc, k _ _ u (.refl e) (hd _) h⟩
/-! ### + -/
theorem add_int (h : P (.int (i + j))) : Op K (rAddU K) (.int i) (.int j) P := Op.or (op_I0 (fun _ => .int _) h)
theorem add_lst (hz : xs.length + ys.length ≤ 1000000) (h : P (.lst (xs ++ ys))) : Op K (rAddU K) (.lst xs) (.lst ys) P := fun u v w Q e _ d1 d2 k => by
  obtain ⟨a, vs, rfl, q, r⟩ := den_lst d1
  obtain ⟨a', vs', rfl, q', r'⟩ := den_lst d2
  refine .inr (.inr (.inl ⟨a, a', vs, vs', rfl, rfl, Evl.ex_l e q, Evl.ex_l e q', by rw [r.len, r'.len]; exact sz100 hz, fun p hp => k _ _ (u.put p _) (.put e hp) (.lst (SqL.of upd_same) ((r.app r').mono (Gs.put e hp).ls)) h⟩))
/-! ### other operators on ints -/
theorem sub_int (h : P (.int (i - j))) : Op K (rI0 fun i j => .int (i - j)) (.int i) (.int j) P := op_I0 (fun _ => .int _) h
theorem mul_int (hc : CMul i j) (h : P (.int (i * j))) : Op K (rI CMul fun i j => .int (i * j)) (.int i) (.int j) P := op_I (fun _ => .int _) hc h
theorem fdiv_int (hc : 0 < j ∧ j < 1073741824) (h : P (.int (i / j))) : Op K (rI CDiv fun i j => .int (i / j)) (.int i) (.int j) P := op_I (fun _ => .int _) hc h
theorem mod_int (hc : 0 < j) (h : P (.int (i % j))) : Op K (rI (fun _ j => 0 < j) fun i j => .int (i % j)) (.int i) (.int j) P := op_I (fun _ => .int _) hc h
theorem pow_int (hc : CPow i j) (h : P (.int (i ^ j.toNat))) : Op K (rI CPow fun i j => .int (i ^ j.toNat)) (.int i) (.int j) P := op_I (fun _ => .int _) hc h
theorem neg_int (h : P (.int (-i))) : Un K (rU fun i => .int (-i)) (.int i) P := fun u v Q e d1 k => by
  cases den_int d1
  exact ⟨i, rfl, k _ _ u (.refl e) (.int _) h⟩
/-! ### is None -/
abbrev rIsN' : R2 := fun x y H Q => y = .non ∧ Q (.bl (decide (x = .non))) H
abbrev rNotN' : R2 := fun x y H Q => y = .non ∧ Q (.bl (!decide (x = .non))) H
def isNonD : D → Bool
  | .non => true
  | _ => false
theorem den_isNon {v : V} {d : D} (h : Den K u v d) : decide (v = .non) = isNonD d := by cases h <;> rfl
theorem is_non (h : P (.bl (isNonD a))) : Op K rIsN' a .non P := fun u v w Q e _ d1 d2 k => by
  cases den_non d2
  exact ⟨rfl, by rw [den_isNon d1]; exact k _ _ u (.refl e) (.bl _) h⟩
end
/-! ### plain data: ==, !=, <, <=, >, >=, in -/
mutual
def pd : D → Option PyData
  | .non => some .none
  | .bl b => some (.bool b)
  | .int i => some (.int i)
  | .str x => some (.str x)
  | .lst xs => (pds xs).map .list
  | .tup xs => (pds xs).map .tuple
  | _ => none
def pds : List D → Option (List PyData)
  | [] => some []
  | x :: xs => (pd x).bind fun y => (pds xs).map fun ys => y :: ys
end
section
variable {K : PySem.W.Frag} [Tb K] {Z : ZX} {H : Hp} {u : Wd}
mutual
theorem den_dp (x : Ex u.H0 H) : ∀ {v : V} {d : D} {e : PyData}, Den K u v d → pd d = some e → Dp K H v e
  | _, _, e, .non, h => by simp only [pd] at h; cases h; exact .non
  | _, _, e, .bl b, h => by simp only [pd] at h; cases h; exact .bl b
  | _, _, e, .int i, h => by simp only [pd] at h; cases h; exact .int i
  | _, _, e, .str y, h => by simp only [pd] at h; cases h; exact .str y
  | _, _, e, .lst (ds := ds) q r, h => by
    simp only [pd] at h
    cases hp : pds ds with
    | none => rw [hp] at h; cases h
    | some es => rw [hp] at h; cases h; exact .lst (Evl.ex_l x q) (dens_dp x r hp)
  | _, _, e, .tup (ds := ds) q r, h => by
    simp only [pd] at h
    cases hp : pds ds with
    | none => rw [hp] at h; cases h
    | some es => rw [hp] at h; cases h; exact .tup (Evl.ex_t x q) (dens_dp x r hp)
  | _, _, e, .ty _, h => by simp only [pd] at h; cases h
  | _, _, e, .cls _, h => by simp only [pd] at h; cases h
  | _, _, e, .strm _ _, h => by simp only [pd] at h; cases h
  | _, _, e, .obj _ _, h => by simp only [pd] at h; cases h
  | _, _, e, .dct _ _, h => by simp only [pd] at h; cases h
  | _, _, e, .fdc _ _, h => by simp only [pd] at h; cases h
theorem dens_dp (x : Ex u.H0 H) : ∀ {v : List V} {d : List D} {e : List PyData}, Dens K u v d → pds d = some e → DpAll K H v e
  | _, _, e, .nil, h => by simp only [pds] at h; cases h; exact .nil
  | _, _, e, .cons (d := d) (ds := ds) r rs, h => by
    simp only [pds] at h
    cases hp : pd d with
    | none => rw [hp] at h; cases h
    | some y =>
      rw [hp] at h
      cases hq : pds ds with
      | none => rw [hq] at h; cases h
      | some ys => rw [hq] at h; cases h; exact .cons (den_dp x r hp) (dens_dp x rs hq)
end
end
end DL
namespace L2
open PySem PySem.Spec PyProof.Rows
section
variable {X : Cx}
def rEqP (K : PySem.W.Frag) : R2 := fun x y H Q => ∃ d e, Dp K H x d ∧ Dp K H y e ∧ d.plain = true ∧ e.plain = true ∧ d.depth ≤ 64 ∧ Q (.bl (PyData.eqv d e)) H
def rNeP (K : PySem.W.Frag) : R2 := fun x y H Q => ∃ d e, Dp K H x d ∧ Dp K H y e ∧ d.plain = true ∧ e.plain = true ∧ d.depth ≤ 64 ∧ Q (.bl (!PyData.eqv d e)) H
def rLtP (K : PySem.W.Frag) : R2 := fun x y H Q => ∃ d e, Dp K H x d ∧ Dp K H y e ∧ PySem.W.alike d e = true ∧ d ≠ .none ∧ d.depth ≤ 64 ∧ Q (.bl (PySem.W.dataLt d e)) H
def rGtP (K : PySem.W.Frag) : R2 := fun x y H Q => ∃ d e, Dp K H x d ∧ Dp K H y e ∧ PySem.W.alike d e = true ∧ d ≠ .none ∧ d.depth ≤ 64 ∧ Q (.bl (PySem.W.dataLt e d)) H
def rLeP (K : PySem.W.Frag) : R2 := fun x y H Q => ∃ d e, Dp K H x d ∧ Dp K H y e ∧ PySem.W.alike d e = true ∧ d ≠ .none ∧ d.depth ≤ 64 ∧ Q (.bl (!PySem.W.dataLt e d)) H
def rGeP (K : PySem.W.Frag) : R2 := fun x y H Q => ∃ d e, Dp K H x d ∧ Dp K H y e ∧ PySem.W.alike d e = true ∧ d ≠ .none ∧ d.depth ≤ 64 ∧ Q (.bl (!PySem.W.dataLt d e)) H
theorem room_min {u a b : Nat} (hu : u + 64 < cLine) (h : a ≤ 64) : u + min a b < cLine := by have := Nat.min_le_left a b; omega
theorem op_eqP (hu : X.A.units + 64 < cLine) : OpR X (compareOp .Eq) (rEqP X.K) := by
  intro pins s σ H x y v u Q I rx ry ⟨d, e, hd, he, pd, pe, dd, q⟩
  obtain ⟨as, r1⟩ := Dp.reads I d x v hd rx
  obtain ⟨bs, r2⟩ := Dp.reads I e y u he ry
  exact PySem.SeqAt.eq_plain r1 r2 pd pe (room_min hu dd) ⟨.bl _, H, I, rfl, q⟩
theorem op_neP (hu : X.A.units + 64 < cLine) : OpR X (compareOp .NotEq) (rNeP X.K) := by
  intro pins s σ H x y v u Q I rx ry ⟨d, e, hd, he, pd, pe, dd, q⟩
  obtain ⟨as, r1⟩ := Dp.reads I d x v hd rx
  obtain ⟨bs, r2⟩ := Dp.reads I e y u he ry
  exact PySem.SeqAt.ne_plain r1 r2 pd pe (room_min hu dd) ⟨.bl _, H, I, rfl, q⟩
theorem op_ltP (hu : X.A.units + 64 < cLine) : OpR X (compareOp .Lt) (rLtP X.K) := by
  intro pins s σ H x y v u Q I rx ry ⟨d, e, hd, he, al, nn, dd, q⟩
  obtain ⟨as, r1⟩ := Dp.reads I d x v hd rx
  obtain ⟨bs, r2⟩ := Dp.reads I e y u he ry
  exact PySem.W.lt_data r1 r2 al nn (room_min hu dd) ⟨.bl _, H, I, rfl, q⟩
theorem op_gtP (hu : X.A.units + 64 < cLine) : OpR X (compareOp .Gt) (rGtP X.K) := by
  intro pins s σ H x y v u Q I rx ry ⟨d, e, hd, he, al, nn, dd, q⟩
  obtain ⟨as, r1⟩ := Dp.reads I d x v hd rx
  obtain ⟨bs, r2⟩ := Dp.reads I e y u he ry
  exact PySem.W.gt_data r1 r2 al nn (room_min hu dd) ⟨.bl _, H, I, rfl, q⟩
theorem op_leP (hu : X.A.units + 64 < cLine) : OpR X (compareOp .LtE) (rLeP X.K) := by
  intro pins s σ H x y v u Q I rx ry ⟨d, e, hd, he, al, nn, dd, q⟩
  obtain ⟨as, r1⟩ := Dp.reads I d x v hd rx
  obtain ⟨bs, r2⟩ := Dp.reads I e y u he ry
  exact PySem.W.le_data r1 r2 al nn (room_min hu dd) ⟨.bl _, H, I, rfl, q⟩
theorem op_geP (hu : X.A.units + 64 < cLine) : OpR X (compareOp .GtE) (rGeP X.K) := by
  intro pins s σ H x y v u Q I rx ry ⟨d, e, hd, he, al, nn, dd, q⟩
  obtain ⟨as, r1⟩ := Dp.reads I d x v hd rx
  obtain ⟨bs, r2⟩ := Dp.reads I e y u he ry
  exact PySem.W.ge_data r1 r2 al nn (room_min hu dd) ⟨.bl _, H, I, rfl, q⟩
/-- x in a list or a tuple of data; c in a text -/
def rInP (K : PySem.W.Frag) : R2 := fun x y H Q => ∃ d xs, Dp K H x d ∧ (Dp K H y (.list xs) ∨ Dp K H y (.tuple xs)) ∧ d.plain = true ∧ PyData.plainAll xs = true ∧ d.depth ≤ 60 ∧ Q (.bl (xs.any fun z => PyData.eqv z d)) H
def rNiP (K : PySem.W.Frag) : R2 := fun x y H Q => ∃ d xs, Dp K H x d ∧ (Dp K H y (.list xs) ∨ Dp K H y (.tuple xs)) ∧ d.plain = true ∧ PyData.plainAll xs = true ∧ d.depth ≤ 60 ∧ Q (.bl (!xs.any fun z => PyData.eqv z d)) H
end
end L2
namespace DL
open PySem L2 StX
section
variable {K : PySem.W.Frag} [Tb K] {Z : ZX} {u u' : Wd} {P : D → Prop} {a b : D} {d e : PyData} {xs : List PyData} {ys : List D}
theorem eqP (h1 : pd a = some d) (h2 : pd b = some e) (p1 : d.plain = true) (p2 : e.plain = true) (hd : d.depth ≤ 64) (h : P (.bl (PyData.eqv d e))) : Op K (rEqP K) a b P := fun u v w Q ex _ d1 d2 k =>
  ⟨d, e, den_dp ex d1 h1, den_dp ex d2 h2, p1, p2, hd, k _ _ u (.refl ex) (.bl _) h⟩
theorem neP (h1 : pd a = some d) (h2 : pd b = some e) (p1 : d.plain = true) (p2 : e.plain = true) (hd : d.depth ≤ 64) (h : P (.bl (!PyData.eqv d e))) : Op K (rNeP K) a b P := fun u v w Q ex _ d1 d2 k =>
  ⟨d, e, den_dp ex d1 h1, den_dp ex d2 h2, p1, p2, hd, k _ _ u (.refl ex) (.bl _) h⟩
theorem ltP (h1 : pd a = some d) (h2 : pd b = some e) (p1 : PySem.W.alike d e = true) (p2 : d ≠ .none) (hd : d.depth ≤ 64) (h : P (.bl (PySem.W.dataLt d e))) : Op K (rLtP K) a b P := fun u v w Q ex _ d1 d2 k =>
  ⟨d, e, den_dp ex d1 h1, den_dp ex d2 h2, p1, p2, hd, k _ _ u (.refl ex) (.bl _) h⟩
theorem gtP (h1 : pd a = some d) (h2 : pd b = some e) (p1 : PySem.W.alike d e = true) (p2 : d ≠ .none) (hd : d.depth ≤ 64) (h : P (.bl (PySem.W.dataLt e d))) : Op K (rGtP K) a b P := fun u v w Q ex _ d1 d2 k =>
  ⟨d, e, den_dp ex d1 h1, den_dp ex d2 h2, p1, p2, hd, k _ _ u (.refl ex) (.bl _) h⟩
theorem leP (h1 : pd a = some d) (h2 : pd b = some e) (p1 : PySem.W.alike d e = true) (p2 : d ≠ .none) (hd : d.depth ≤ 64) (h : P (.bl (!PySem.W.dataLt e d))) : Op K (rLeP K) a b P := fun u v w Q ex _ d1 d2 k =>
  ⟨d, e, den_dp ex d1 h1, den_dp ex d2 h2, p1, p2, hd, k _ _ u (.refl ex) (.bl _) h⟩
theorem geP (h1 : pd a = some d) (h2 : pd b = some e) (p1 : PySem.W.alike d e = true) (p2 : d ≠ .none) (hd : d.depth ≤ 64) (h : P (.bl (!PySem.W.dataLt d e))) : Op K (rGeP K) a b P := fun u v w Q ex _ d1 d2 k =>
  ⟨d, e, den_dp ex d1 h1, den_dp ex d2 h2, p1, p2, hd, k _ _ u (.refl ex) (.bl _) h⟩
end
end DL
namespace L2
open PySem PySem.Spec PyProof.Rows
section
variable {X : Cx}
def rSlU (K : PySem.W.Frag) : V → Option Int → Option Int → Hp → VK → Prop := fun x lo hi H Q => rSlS x lo hi H Q ∨ (rSlL K x lo hi H Q ∨ rSlA K x lo hi H Q)
theorem sl_U : SlR X (rSlU X.K) := sl_str.or (sl_list.or sl_tupA)
/-- min, max of a list of data -/
def rMinP (K : PySem.W.Frag) : List V → Hp → VK → Prop := fun xs H Q => ∃ p vs d ds, xs = [.ref p] ∧ SqL K H p vs ∧ DpAll K H vs (d :: ds) ∧ PySem.W.AlikeAll (d :: ds) ∧ PyData.depthAll (d :: ds) ≤ 60 ∧ ∀ (i : Nat) v, vs[i]? = some v → Dp K H v (PySem.W.minD d ds) → Q v H
def rMaxP (K : PySem.W.Frag) : List V → Hp → VK → Prop := fun xs H Q => ∃ p vs d ds, xs = [.ref p] ∧ SqL K H p vs ∧ DpAll K H vs (d :: ds) ∧ PySem.W.AlikeAll (d :: ds) ∧ PyData.depthAll (d :: ds) ≤ 60 ∧ ∀ (i : Nat) v, vs[i]? = some v → Dp K H v (PySem.W.maxD d ds) → Q v H
end
end L2
namespace DL
open PySem L2 StX
section
variable {K : PySem.W.Frag} [Tb K] {Z : ZX} {u u' : Wd} {σ : L2.St} {ds : DS} {P : D → Prop} {te ta tb tc : TE} {tt tu : TT} {i j : Int} {x y : Str} {xs ys : List D} {C : Addr} {a b : D} {p q : Bool}
/-! ### subscripts -/
theorem atI_of {α : Type} {xs : List α} {i : Int} {n : Nat} (h : (0 ≤ i ∧ i.toNat = n ∨ i < 0 ∧ (i + xs.length).toNat = n ∧ -(xs.length : Int) ≤ i)) (hn : n < xs.length) : atI xs i = xs[n]? := by
  unfold atI ixN
  rcases h with ⟨h1, h2⟩ | ⟨h1, h2, h3⟩
  · rw [if_pos h1, if_pos (by omega)]; simp [h2]
  · rw [if_neg (by omega), if_pos h3]; simp [h2]
theorem ix_lst {n : Nat} {d : D} (h0 : 0 ≤ i) (hn : xs[i.toNat]? = some d) (h : P d) : Op K (rIx K) (.lst xs) (.int i) P := fun u v w Q e _ d1 d2 k => by
  obtain ⟨a, vs, rfl, q, r⟩ := den_lst d1
  cases den_int d2
  obtain ⟨z, hz, hd⟩ := r.getD hn
  refine .inl ⟨a, vs, i, z, rfl, rfl, Evl.ex_l e q, ?_, k _ _ u (.refl e) hd h⟩
  rw [atI_of (.inl ⟨h0, rfl⟩) (List.getElem?_eq_some_iff.mp hz).1, hz]
theorem ix_tup {d : D} (h0 : 0 ≤ i) (hn : xs[i.toNat]? = some d) (h : P d) : Op K (rIx K) (.tup xs) (.int i) P := fun u v w Q e _ d1 d2 k => by
  obtain ⟨a, vs, rfl, q, r⟩ := den_tup d1
  cases den_int d2
  obtain ⟨z, hz, hd⟩ := r.getD hn
  refine .inr (.inl ⟨a, vs, i, z, rfl, rfl, Evl.ex_t e q, ?_, k _ _ u (.refl e) hd h⟩)
  rw [atI_of (.inl ⟨h0, rfl⟩) (List.getElem?_eq_some_iff.mp hz).1, hz]
/-! ### slices -/
def cutD (xs : List D) (lo hi : Option Int) : List D := (xs.drop (HT.sIx xs.length 0 lo)).take (HT.sIx xs.length xs.length hi - HT.sIx xs.length 0 lo)
theorem Dens.cut {vs : List V} (r : Dens K u vs xs) (lo hi : Option Int) : Dens K u (cutV vs lo hi) (cutD xs lo hi) := by
  unfold cutV cutD
  rw [r.len]
  exact (r.drop _).take _
theorem sl_lst {lo hi : Option Int} (h : P (.lst (cutD xs lo hi))) : Sl K (rSlU K) (.lst xs) lo hi P := fun u v Q e d1 k => by
  obtain ⟨a, vs, rfl, q, r⟩ := den_lst d1
  exact .inr (.inl ⟨a, vs, rfl, Evl.ex_l e q, fun p hp => k _ _ (u.put p _) (.put e hp) (.lst (SqL.of upd_same) ((r.cut lo hi).mono (Gs.put e hp).ls)) h⟩)
theorem sl_tup {lo hi : Option Int} (h : P (.tup (cutD xs lo hi))) : Sl K (rSlU K) (.tup xs) lo hi P := fun u v Q e d1 k => by
  obtain ⟨a, vs, rfl, q, r⟩ := den_tup d1
  refine .inr (.inr ⟨a, vs, rfl, Evl.ex_t e q, fun ⟨h1, h2⟩ => ?_, fun _ p hp => k _ _ (u.put p _) (.put e hp) (.tup (SqT.of upd_same) ((r.cut lo hi).mono (Gs.put e hp).ls)) h⟩)
  have z : cutD xs lo hi = xs := by
    unfold cutD
    rw [r.len] at h1 h2
    rw [h1, h2]
    simp
  rw [z] at h
  exact k _ _ u (.refl e) (.tup q r) h
/-! ### built-ins -/
abbrev rLen' (K : PySem.W.Frag) [Tb K] : List V → Hp → VK → Prop := fun xs H Q => ∃ x n, xs = [x] ∧ LenV K x H n ∧ Q (.int n) H
theorem len_lst (h : P (.int xs.length)) : Cb K (rLen' K) [.lst xs] P := fun u vs Q e r k => by
  obtain ⟨v, rfl, r1⟩ := dens1 r
  obtain ⟨a, ws, rfl, q, r2⟩ := den_lst r1
  exact ⟨_, ws.length, rfl, .inl ⟨ws, Evl.ex_l e q, rfl⟩, by rw [r2.len]; exact k _ _ u (.refl e) (.int _) h⟩
theorem len_tup (h : P (.int xs.length)) : Cb K (rLen' K) [.tup xs] P := fun u vs Q e r k => by
  obtain ⟨v, rfl, r1⟩ := dens1 r
  obtain ⟨a, ws, rfl, q, r2⟩ := den_tup r1
  exact ⟨_, ws.length, rfl, .inr ⟨ws, Evl.ex_t e q, rfl⟩, by rw [r2.len]; exact k _ _ u (.refl e) (.int _) h⟩
abbrev rInt1 : List V → Hp → VK → Prop := fun xs H Q => (∃ i, xs = [.int i] ∧ Q (.int i) H) ∨ ∃ k, xs = [.bl k] ∧ Q (.int (if k then 1 else 0)) H
theorem int_int (h : P (.int i)) : Cb K rInt1 [.int i] P := fun u vs Q e r k => by
  obtain ⟨v, rfl, r1⟩ := dens1 r
  cases den_int r1
  exact .inl ⟨i, rfl, k _ _ u (.refl e) (.int _) h⟩
abbrev rMin2 : List V → Hp → VK → Prop := fun xs H Q => ∃ i j, xs = [.int i, .int j] ∧ Q (.int (if j < i then j else i)) H
abbrev rMax2 : List V → Hp → VK → Prop := fun xs H Q => ∃ i j, xs = [.int i, .int j] ∧ Q (.int (if j > i then j else i)) H
theorem min_int (h : P (.int (if j < i then j else i))) : Cb K rMin2 [.int i, .int j] P := fun u vs Q e r k => by
  obtain ⟨v, w, rfl, r1, r2⟩ := dens2 r
  cases den_int r1
  cases den_int r2
  exact ⟨i, j, rfl, k _ _ u (.refl e) (.int _) h⟩
theorem max_int (h : P (.int (if j > i then j else i))) : Cb K rMax2 [.int i, .int j] P := fun u vs Q e r k => by
  obtain ⟨v, w, rfl, r1, r2⟩ := dens2 r
  cases den_int r1
  cases den_int r2
  exact ⟨i, j, rfl, k _ _ u (.refl e) (.int _) h⟩
theorem ints_dens (ns : List Int) : Dens K u (ns.map V.int) (ns.map D.int) := by
  induction ns with
  | nil => exact .nil
  | cons n ns ih => exact .cons (.int n) ih
abbrev rTupOf (K : PySem.W.Frag) [Tb K] : List V → Hp → VK → Prop := fun xs H Q => ∃ p ys, xs = [.ref p] ∧ ((SqL K H p ys ∧ ∀ l, H l = none → Q (.ref l) (upd H l (.tup ys))) ∨ (SqT K H p ys ∧ Q (.ref p) H))
theorem tuple_lst (h : P (.tup xs)) : Cb K (rTupOf K) [.lst xs] P := fun u vs Q e r k => by
  obtain ⟨v, rfl, r1⟩ := dens1 r
  obtain ⟨a, ws, rfl, q, r2⟩ := den_lst r1
  exact ⟨a, ws, rfl, .inl ⟨Evl.ex_l e q, fun p hp => k _ _ (u.put p _) (.put e hp) (.tup (SqT.of upd_same) (r2.mono (Gs.put e hp).ls)) h⟩⟩
abbrev rLstOf (K : PySem.W.Frag) [Tb K] : List V → Hp → VK → Prop := fun xs H Q => ∃ p ys, xs = [.ref p] ∧ (SqL K H p ys ∨ SqT K H p ys) ∧ ∀ l, H l = none → Q (.ref l) (upd H l (.lst ys))
theorem list_lst (h : P (.lst xs)) : Cb K (rLstOf K) [.lst xs] P := fun u vs Q e r k => by
  obtain ⟨v, rfl, r1⟩ := dens1 r
  obtain ⟨a, ws, rfl, q, r2⟩ := den_lst r1
  exact ⟨a, ws, rfl, .inl (Evl.ex_l e q), fun p hp => k _ _ (u.put p _) (.put e hp) (.lst (SqL.of upd_same) (r2.mono (Gs.put e hp).ls)) h⟩
/-! ### isinstance -/
def tyD : D → Option String
  | .non => some "NoneType"
  | .bl _ => some "bool"
  | .int _ => some "int"
  | .str _ => some "str"
  | .lst _ => some "list"
  | .tup _ => some "tuple"
  | .dct _ => some "dict"
  | .fdc _ => some "dict"
  | _ => none
theorem den_ty {v : V} {d : D} {T : String} (h : Den K u v d) (ht : tyD d = some T) : TyX K u.H0 v (.type T) := by
  cases h with
  | non => cases ht; exact .base .non
  | bl => cases ht; exact .base (.bl _)
  | int => cases ht; exact .base (.int _)
  | str => cases ht; exact .base (.str _)
  | lst q r =>
    cases ht
    rcases q with (q | ⟨o, q⟩) | ⟨o, its, n, hk, hc, _⟩
    · exact .base (.lst q)
    · exact .base (.frz q)
    · exact .kList hk hc
  | tup q r =>
    cases ht
    rcases q with (q | ⟨o, q⟩) | ⟨o, its, n, hk, hc, _⟩
    · exact .base (.tup q)
    · exact .fTuple q
    · exact .kTuple hk hc
  | dct q r =>
    cases ht
    rcases q with q | ⟨o, q⟩
    · exact .base (.dK q)
    · exact .fDict q
  | fdc q r => cases ht; exact .fDict q
  | _ => cases ht
theorem isi_ty {T T' : String} {r : Bool} (ht : tyD a = some T) (hk : kitB T T' = some r) (h : P (.bl r)) : Cb K (rIsi K) [a, .ty T'] P := fun u vs Q e rs k => by
  obtain ⟨v, w, rfl, r1, r2⟩ := dens2 rs
  cases r2
  exact ⟨v, .ty T', .type T, .type T', r, rfl, .ty _, den_ty (u := ⟨u.S, u.T, u.n, u.H1, u.H1⟩) (Den.mono (show Le u ⟨u.S, u.T, u.n, u.H1, u.H1⟩ from ⟨fun _ h => h, fun _ _ => rfl, e⟩) r1) ht, kit_ty hk, k _ _ u (.refl e) (.bl _) h⟩
/-! ### truth -/
def truD : D → Option Bool
  | .non => some false
  | .bl b => some b
  | .int i => some (i != 0)
  | .lst xs => some (!xs.isEmpty)
  | .tup xs => some (!xs.isEmpty)
  | _ => none
theorem isEmpty_den {vs : List V} (r : Dens K u vs xs) : vs.isEmpty = xs.isEmpty := by cases r <;> rfl
theorem den_tru {v : V} {d : D} {b : Bool} (h : Den K u v d) (ht : truD d = some b) : TruV K v u.H0 b := by
  cases h with
  | non => cases ht; rfl
  | bl => cases ht; rfl
  | int => cases ht; rfl
  | lst q r => cases ht; exact .inl ⟨_, q, by rw [isEmpty_den r]⟩
  | tup q r => cases ht; exact .inr (.inl ⟨_, q, by rw [isEmpty_den r]⟩)
  | _ => cases ht
theorem den_truE {H : Hp} {v : V} {d : D} {b : Bool} (x : Ex u.H0 H) (h : Den K u v d) (ht : truD d = some b) : TruV K v H b := den_tru (u := ⟨u.S, u.T, u.n, H, H⟩) (Den.mono (show Le u ⟨u.S, u.T, u.n, H, H⟩ from ⟨fun _ h => h, fun _ _ => rfl, x⟩) h) ht
theorem wt_tru {ds : DS} {n : Nat} {P : Bool → Nat → Prop} (h : We K Z ta ds n fun d m => ∃ k, truD d = some k ∧ P k m) : Wt K Z (L2.tTru K ta) ds n P := fun b u σ Q e S k =>
  h b u σ _ e S fun v d u1 g1 s1 r ⟨c, ht, q⟩ => ⟨c, den_truE g1.c r ht, k _ u1 g1 s1 q⟩
/-! ### methods of texts -/
/-- s.m(e), s a text -/
def Mt (K : PySem.W.Frag) [Tb K] (r : V → List V → Hp → VK → Prop) (a : Str) (y : D) (P : D → Prop) : Prop :=
  ∀ (u : Wd) (w : V) (Q : VK), Ex u.H0 u.H1 → Den K u w y → (∀ z d u', Gp K u u' → Den K u' z d → P d → Q z u'.H1) → r (.str a) [w] u.H1 Q
end
end DL
namespace L2
open PySem PySem.Spec PyProof.Rows StX
section
variable {X : Cx}
def rMinQ (K : PySem.W.Frag) : List V → Hp → VK → Prop := fun xs H Q => ∃ p vs d ds, xs = [.ref p] ∧ SqL K H p vs ∧ DpAll K H vs (d :: ds) ∧ PySem.W.AlikeAll (d :: ds) ∧ PyData.plainAll (d :: ds) = true ∧ PyData.depthAll (d :: ds) ≤ 60 ∧ ∀ (i : Nat) v, vs[i]? = some v → (d :: ds)[i]? = some (PySem.W.minD d ds) → Q v H
def rMaxQ (K : PySem.W.Frag) : List V → Hp → VK → Prop := fun xs H Q => ∃ p vs d ds, xs = [.ref p] ∧ SqL K H p vs ∧ DpAll K H vs (d :: ds) ∧ PySem.W.AlikeAll (d :: ds) ∧ PyData.plainAll (d :: ds) = true ∧ PyData.depthAll (d :: ds) ≤ 60 ∧ ∀ (i : Nat) v, vs[i]? = some v → (d :: ds)[i]? = some (PySem.W.maxD d ds) → Q v H
/-- x(e, ..), x an instance -/
def tCallO' (C : Addr) (sp : Sp) (E : XK) (tf : TE) (t : TA) : TE := fun σ H Q => tf σ H fun y H1 => ∃ a, y = V.ref a ∧ t σ H1 fun vs H2 => (∃ dx fs, H2 a = some (.ins C dx fs)) ∧ sp (V.ref a :: vs) H2 Q E
variable {CX : CXT} {k : Nat} {C : Addr} {sp : Sp} {E : XK} {e fe : Expr} {es : List Expr} {tf : TE} {t : TA} {pos : Pos} {g : Addr}
end
abbrev rCount : V → List V → Hp → VK → Prop := fun x xs H Q => ∃ a b, x = .str a ∧ xs = [.str b] ∧ Q (.int (Txt.count a b)) H
abbrev rRfind : V → List V → Hp → VK → Prop := fun x xs H Q => ∃ a b, x = .str a ∧ xs = [.str b] ∧ Q (.int (Txt.rfind a b)) H
abbrev rSplit : V → List V → Hp → VK → Prop := fun x xs H Q => ∃ a b, x = .str a ∧ xs = [.str b] ∧ (b.length == 0) = false ∧ a.length + 2 ≤ sizeLine ∧ rNewStrs (Txt.split a b) H Q
abbrev rJoin (K : PySem.W.Frag) : V → List V → Hp → VK → Prop := fun x xs H Q => ∃ a p, ∃ ys : List Str, x = .str a ∧ xs = [.ref p] ∧ (SqL K H p (ys.map V.str) ∨ SqT K H p (ys.map V.str)) ∧ (ys.map (·.length)).sum + ys.length * a.length ≤ 16777216 ∧ Q (.str (Txt.join a ys)) H
abbrev rOrd' : List V → Hp → VK → Prop := fun xs H Q => ∃ x, xs = [.str x] ∧ x.length = 1 ∧ Q (.int (x.cps.getD 0 0 : Nat)) H
end L2
namespace DL
open PySem L2 StX
section
variable {K : PySem.W.Frag} [Tb K] {Z : ZX} {u u' : Wd} {σ : L2.St} {ds : DS} {P : D → Prop} {te ta tb tc : TE} {tt tu : TT} {C : Addr} {E : XK} {R : Rl} {N : Nd}
end
end DL

namespace DL
open PySem L2 StX
section
variable {K : PySem.W.Frag} [Tb K] {Z : ZX} {b u u' u'' : Wd} {σ : L2.St} {ds : DS} {n : Nat} {P : D → Nat → Prop} {te ta tb tc : TE} {tt tu : TT} {N : Nd} {ts t1 t2 : TS} {g : TG} {De : Ends}
/-! ### streams -/
theorem strm_at {i : Nat} {a : Addr} {k : SK} (S : Sd K Z b u σ ds) (hd : ds[i]? = some (some (.strm a k))) : σ[i]? = some (some (.ref a)) ∧ u.S a ∧ u.T a = k ∧ u.H0 a = none ∧ ∃ o, u.H1 a = some o ∧ SO K u k o := by
  obtain ⟨v, hv, hS⟩ := S.sl i _ hd
  obtain ⟨rfl, hs, ht⟩ := den_strm (hS.imm rfl)
  obtain ⟨h0, o, h1, q⟩ := S.st a hs
  rw [ht] at q
  exact ⟨hv, hs, ht, h0, o, h1, q⟩
theorem gs_strm {a : Addr} {o : HO} {k : Nat} (e : Ex u.H0 u.H1) (s : StOk K u) (hs : u.S a) (hk : u.n ≤ k) (ho : SO K ⟨u.S, u.T, k, u.H0, upd u.H1 a o⟩ (u.T a) o) : Gs u ⟨u.S, u.T, k, u.H0, upd u.H1 a o⟩ ∧ StOk K ⟨u.S, u.T, k, u.H0, upd u.H1 a o⟩ := by
  obtain ⟨a0, o1, a1, _⟩ := s a hs
  refine ⟨⟨.refl _, fun x w ns hx => ?_, fun x hx => ?_, fun x w hx => ?_, fun x h h' => absurd h h', fun _ h => h, fun _ _ => rfl, fun _ h => .inl h, hk⟩, ⟨fun x hx => ?_, s.tb, s.on⟩⟩
  · exact (upd_ne (fun q : x = a => ns (by rw [q]; exact hs))).trans hx
  · show upd u.H1 a o x ≠ none
    by_cases q : x = a
    · rw [q, upd_same]; simp
    · rw [upd_ne q]; exact hx
  · exact (upd_ne (fun q => by rw [q, a0] at hx; cases hx)).trans (e x w hx)
  · obtain ⟨x0, w, x1, xs⟩ := s x hx
    by_cases q : x = a
    · subst q
      exact ⟨x0, o, upd_same, ho⟩
    · exact ⟨x0, w, (upd_ne q).trans x1, xs.mono ⟨fun _ h => h, fun _ _ => rfl, .refl _⟩ hk⟩
end
/-! ### comparisons of known forms -/
section
variable {K : PySem.W.Frag} [Tb K] {Z : ZX} {P : D → Prop} {i j k l : Int} {p q : Bool} {x y : Str}
theorem b_eq {α : Type} [DecidableEq α] (a b : α) : (a == b) = decide (a = b) := by
  by_cases h : a = b
  · subst h; simp
  · simp [h]
theorem eq_int (h : P (.bl (decide (i = j)))) : Op K (rEqP K) (.int i) (.int j) P := eqP (d := .int i) (e := .int j) rfl rfl rfl rfl (by simp [PyData.depth, PyData.depthAll]) (by simpa [PyData.eqv, b_eq] using h)
theorem ne_int (h : P (.bl (!decide (i = j)))) : Op K (rNeP K) (.int i) (.int j) P := neP (d := .int i) (e := .int j) rfl rfl rfl rfl (by simp [PyData.depth, PyData.depthAll]) (by simpa [PyData.eqv, b_eq] using h)
theorem ne_str (h : P (.bl (!decide (x = y)))) : Op K (rNeP K) (.str x) (.str y) P := neP (d := .str x) (e := .str y) rfl rfl rfl rfl (by simp [PyData.depth, PyData.depthAll]) (by simpa [PyData.eqv, b_eq] using h)
abbrev pos (a b : Int) : D := .tup [.int a, .int b]
abbrev ppos (a b : Int) : PyData := .tuple [.int a, .int b]
theorem lt_int (h : P (.bl (decide (i < j)))) : Op K (rLtP K) (.int i) (.int j) P := ltP (d := .int i) (e := .int j) rfl rfl rfl (fun z => by cases z) (by simp [PyData.depth, PyData.depthAll]) (by rw [PySem.W.dataLt_int]; exact h)
theorem gt_int (h : P (.bl (decide (j < i)))) : Op K (rGtP K) (.int i) (.int j) P := gtP (d := .int i) (e := .int j) rfl rfl rfl (fun z => by cases z) (by simp [PyData.depth, PyData.depthAll]) (by rw [PySem.W.dataLt_int]; exact h)
theorem le_int (h : P (.bl (decide (i ≤ j)))) : Op K (rLeP K) (.int i) (.int j) P := leP (d := .int i) (e := .int j) rfl rfl rfl (fun z => by cases z) (by simp [PyData.depth, PyData.depthAll]) (by
  rw [PySem.W.dataLt_int]
  have e : (!decide (j < i)) = decide (i ≤ j) := by by_cases q : i ≤ j <;> simp [q] <;> omega
  rw [e]; exact h)
theorem ge_int (h : P (.bl (decide (j ≤ i)))) : Op K (rGeP K) (.int i) (.int j) P := geP (d := .int i) (e := .int j) rfl rfl rfl (fun z => by cases z) (by simp [PyData.depth, PyData.depthAll]) (by
  rw [PySem.W.dataLt_int]
  have e : (!decide (i < j)) = decide (j ≤ i) := by by_cases q : j ≤ i <;> simp [q] <;> omega
  rw [e]; exact h)
/-- positions in order -/
abbrev plt (i j k l : Int) : Prop := i < k ∨ i = k ∧ j < l
theorem isiI {T' : String} {r : Bool} (hk : kitB "int" T' = some r) (h : P (.bl r)) : Cb K (rIsi K) [.int i, .ty T'] P := isi_ty (a := .int i) rfl hk h
theorem isiT {xs : List D} {T' : String} {r : Bool} (hk : kitB "tuple" T' = some r) (h : P (.bl r)) : Cb K (rIsi K) [.tup xs, .ty T'] P := isi_ty (a := .tup xs) rfl hk h
end
end DL

namespace DL
open PySem L2 StX
section
variable {K : PySem.W.Frag} [Tb K] {Z : ZX} {b u u' u'' : Wd} {σ : L2.St} {ds : DS} {n : Nat} {P : D → Nat → Prop} {te ta tb tc : TE} {tt tu : TT} {N : Nd} {ts t1 t2 : TS} {g : TG} {De : Ends}
/-- an object that nothing tells of -/
theorem Gs.junk (e : Ex u.H0 u.H1) {p : Addr} {o : HO} (hp : u.H1 p = none) : Gs u ⟨u.S, u.T, u.n, u.H0, upd u.H1 p o⟩ :=
  ⟨.refl _, fun x w _ hx => ex_new hp x w hx, fun x hx => by
      show upd u.H1 p o x ≠ none
      by_cases q : x = p
      · subst q; rw [upd_same]; simp
      · rw [upd_ne q]; exact hx, e.trans (ex_new hp), fun _ a b => absurd a b, fun _ h => h, fun _ _ => rfl, fun _ h => .inl h, Nat.le_refl _⟩
theorem StOk.not (s : StOk K u) {p : Addr} (hp : u.H1 p = none) : ¬ u.S p := fun h => by
  obtain ⟨_, o, h1, _⟩ := s p h
  rw [hp] at h1; cases h1
end
end DL

namespace DL
open PySem L2 StX
section
variable {K : PySem.W.Frag} [Tb K] {Z : ZX} {b u u' u'' : Wd} {σ : L2.St} {ds : DS} {n : Nat} {P : D → Nat → Prop} {te ta tb tc tv : TE} {N : Nd} {De : Ends}
/-! ### three keys -/
theorem get1 {k1 k2 k3 : Key} {x y z : V} : valV [(k1, x), (k2, y), (k3, z)] k1 = some x := valV_pos rfl
theorem get2 {k1 k2 k3 : Key} {x y z : V} (h : ¬ k1 = k2) : valV [(k1, x), (k2, y), (k3, z)] k2 = some y := (valV_neg h).trans (valV_pos rfl)
theorem get3 {k1 k2 k3 : Key} {x y z : V} (h : ¬ k1 = k3) (h' : ¬ k2 = k3) : valV [(k1, x), (k2, y), (k3, z)] k3 = some z := (valV_neg h).trans ((valV_neg h').trans (valV_pos rfl))
theorem put2 {k1 k2 k3 : Key} {x y z v : V} (h : ¬ k1 = k2) (h' : ¬ k3 = k2) : putK [(k1, x), (k2, y), (k3, z)] k2 v = [(k1, x), (k2, v), (k3, z)] := by
  simp [putK, h, h']
theorem put3 {k1 k2 k3 : Key} {x y z v : V} (h : ¬ k1 = k3) (h' : ¬ k2 = k3) : putK [(k1, x), (k2, y), (k3, z)] k3 v = [(k1, x), (k2, y), (k3, v)] := by
  simp [putK, h, h']
theorem merge3 {k1 k2 k3 : Key} {x y z : V} (h1 : ¬ k1 = k2) (h2 : ¬ k1 = k3) (h3 : ¬ k2 = k3) : mergeK [] [(k1, x), (k2, y), (k3, z)] = [(k1, x), (k2, y), (k3, z)] := by
  show putK (putK (putK [] k1 x) k2 y) k3 z = _
  rw [putK_new x valV_nil, putK_new (kvs := [] ++ [(k1, x)]) y ((valV_neg h1).trans valV_nil), putK_new (kvs := [] ++ [(k1, x)] ++ [(k2, y)]) z ((valV_neg h2).trans ((valV_neg h3).trans valV_nil))]
  rfl
/-! ### the dict with cells -/
/-- what was made apart becomes a stream -/
theorem Gs.toStrm {k : SK} {o : HO} {p : Addr} (g : Gs b u) (s : StOk K u) (hb : b.H1 p = none) (h0 : u.H0 p = none) (hS : ¬ u.S p) (ho : SO K u k o) (hkt : ∀ z, k ≠ .tbl z := by intro _ z; cases z) :
    Gs b ⟨fun a => u.S a ∨ a = p, fun a => if a = p then k else u.T a, u.n, u.H0, upd u.H1 p o⟩ ∧ StOk K ⟨fun a => u.S a ∨ a = p, fun a => if a = p then k else u.T a, u.n, u.H0, upd u.H1 p o⟩ := by
  have nq : ∀ a, u.S a → a ≠ p := fun a ha z => hS (z ▸ ha)
  have l : Le u ⟨fun a => u.S a ∨ a = p, fun a => if a = p then k else u.T a, u.n, u.H0, upd u.H1 p o⟩ := ⟨fun _ h => .inl h, fun a ha => if_neg (nq a ha), .refl _⟩
  have w := Gs.write (o := o) g hb h0
  refine ⟨⟨w.a, w.b, w.b', w.c, w.n, fun x h => .inl (g.sub x h), fun x h => (if_neg (nq x (g.sub x h))).trans (g.kd x h), fun x h => h.elim (g.new x) fun z => .inr (by rw [z]; exact hb), g.le⟩, ⟨?_, fun p hp => ⟨.inl (s.tb p hp).1, (if_neg (nq p.1 (s.tb p hp).1)).trans (s.tb p hp).2⟩, fun a z ha hz => ?_⟩⟩
  rotate_left
  · have hz' : (if a = p then k else u.T a) = .tbl z := hz
    by_cases h : a = p
    · rw [if_pos h] at hz'; exact absurd hz' (hkt z)
    · rw [if_neg h] at hz'; exact s.on a z (ha.resolve_right h) hz'
  rintro a (ha | rfl)
  · obtain ⟨a0, w, a1, as⟩ := s a ha
    refine ⟨a0, w, (upd_ne (nq a ha)).trans a1, ?_⟩
    show SO K _ (if a = p then k else u.T a) w
    rw [if_neg (nq a ha)]
    exact as.mono l (Nat.le_refl _)
  · refine ⟨h0, _, upd_same, ?_⟩
    show SO K _ (if a = a then k else u.T a) o
    rw [if_pos rfl]
    exact ho.mono l (Nat.le_refl _)
end
end DL

namespace DL
open PySem L2 StX
/-- an own exception's __init__ that stores its one argument in the field f -/
def spX1 (C : Addr) (f : Str) : Sp := fun vs H Q _ => ∃ a y, vs = [.ref a, y] ∧ H a = some (exo a C none) ∧ ∀ dx, H dx = none → dx ≠ a → Q .non (upd (upd H dx (exd dx [(f, y)])) a (exo a C (some dx)))
/-- raise C(..) -/
def tRaise (E : XK) (C : Addr) (sp : Sp) (ta : TA) : TS := fun _ σ H => tMkO C sp [] ta σ H E
section
variable {K : PySem.W.Frag} [Tb K] {Z : ZX} {b u u' u'' : Wd} {σ : L2.St} {ds : DS} {n : Nat} {P : D → Nat → Prop} {te ta tb tc tv : TE} {N : Nd} {De : Ends} {C : Addr} {f : Str}
theorem ws_raise {t : TA} (h : Wa K Z t ds n fun xs m => ∃ y, xs = [y] ∧ Z.X C [(f, y)] m) : Ws K Z (tRaise Z.E C (spX1 C f) t) ds n N := fun b u σ De e S O =>
  h b u σ _ e S fun vs xs u1 g1 s1 r ⟨y, hx, p⟩ => by
    subst hx
    obtain ⟨v, rfl, r1⟩ := dens1 r
    refine ⟨by show 1 ≤ 1000; decide, fun a ha => ⟨a, v, rfl, upd_same, fun dx hdx ne => ⟨rfl, dx, [(f, v)], upd_same, (upd_ne ne).trans upd_same, ?_, ?_⟩⟩⟩
    · exact (upd_ne ne).symm.trans hdx
    · have hd : u1.H1 dx = none := (upd_ne ne).symm.trans hdx
      have eq : upd (L2.del (upd (upd (upd u1.H1 a (exo a C none)) dx (exd dx [(f, v)])) a (exo a C (some dx))) a) dx (.xd [(f, v)]) = upd u1.H1 dx (.xd [(f, v)]) := by
        funext x
        by_cases q : x = dx
        · rw [q, upd_same, upd_same]
        · rw [upd_ne q, upd_ne q]
          by_cases q2 : x = a
          · rw [q2, L2.del_same, ha]
          · rw [L2.del_ne q2, upd_ne q2, upd_ne q, upd_ne q2]
      rw [eq]
      exact S.xk (.ref C) (some dx) C [(f, y)] (u1.put dx (.xd [(f, v)])) ((S.gr.trans g1).trans (.put g1.c hd)) (s1.put g1.c hd) ⟨rfl, .inr ⟨dx, _, rfl, upd_same, .cons (r1.mono (Gs.put g1.c hd).ls) .nil⟩⟩ p
end
section
variable {Pr : Program} {w : World} {K : PySem.W.Frag} [Tb K] {mg : Str → Option Value} {base : Heap} {C fI : Addr} {f : Str}
end
end DL

namespace DL
open PySem L2 StX
section
variable {K : PySem.W.Frag} [Tb K] {Z : ZX} {b u u' u'' : Wd} {σ : L2.St} {ds : DS} {n : Nat} {P : D → Nat → Prop} {te ta tb tc tv : TE} {N : Nd} {De : Ends} {tt : TT} {g : TG} {len : Nat}
/-! ### the dict with a list of what is left -/
end
end DL

namespace L2
open PySem
theorem OexG.xf {K : PySem.W.Frag} {C : Addr} {tl : List Value} {n : String} (T : OexG K C tl n) : XfC K C := ⟨T.ga, T.gg, T.ex, T.hd⟩
theorem OexG.xc {K : PySem.W.Frag} {C : Addr} {tl : List Value} {n : String} (T : OexG K C tl n) : ExcC K C := ⟨T.ga, T.gg, T.ex, T.hd, T.ha, T.hn, T.ht, T.hm⟩
end L2
namespace DL
open PySem L2 StX
section
variable {K : PySem.W.Frag} [Tb K] {Z Z' : ZX} {b u u' u'' : Wd} {σ : L2.St} {ds : DS} {n : Nat} {P : D → Nat → Prop} {te : TE} {N : Nd} {De : Ends}
/-- slots that hold no thing that is being made -/
def immO : Option D → Option D
  | some d => if isMut d then none else some d
  | none => none
def immDS (ds : DS) : DS := ds.map immO
theorem imm_get {i : Nat} {d : D} (h : (immDS ds)[i]? = some (some d)) : ds[i]? = some (some d) ∧ isMut d = false := by
  unfold immDS at h
  rw [List.getElem?_map] at h
  cases q : ds[i]? with
  | none => rw [q] at h; cases h
  | some o =>
    rw [q] at h
    cases o with
    | none => cases h
    | some e =>
      simp only [Option.map_some, immO] at h
      by_cases m : isMut e = true
      · rw [if_pos m] at h; cases h
      · rw [if_neg m] at h
        cases h
        exact ⟨rfl, by simpa using m⟩
/-- the same slots from here on -/
theorem Sd.imm (S : Sd K Z b u σ ds) {w : Wd} (l : Le u w) (e : Ex w.H0 w.H1) (st : StOk K w) (xk : XOk K Z' w) : Sd K Z' w w σ (immDS ds) := by
  refine ⟨.refl e, xk, st, by simp [S.len, immDS], fun i d h => ?_, fun i j d e a c h1 h2 m1 m2 => ?_⟩
  · obtain ⟨q, m⟩ := imm_get h
    obtain ⟨v, h1, h2⟩ := S.sl i d q
    exact ⟨v, h1, .den ((h2.imm m).mono l)⟩
  · rw [(imm_get h1).2] at m1; cases m1
theorem DenS.rebase {v : V} {d : D} (g : Gs b u) (h : DenS K u u' v d) : DenS K b u' v d := by
  have nb : ∀ {a}, u.H1 a = none → b.H1 a = none := fun {a} h => by
    cases q : b.H1 a with
    | none => rfl
    | some o => exact absurd h (g.b' a (by rw [q]; simp))
  cases h with
  | den h => exact .den h
  | mls a1 a2 a3 a4 a5 => exact .mls (nb a1) a2 a3 a4 a5
  | mob a1 a2 a3 a4 a5 a6 a7 => exact .mob (nb a1) a2 a3 a4 a5 a6 a7
  | mdk a1 a2 a3 a4 a5 => exact .mdk (nb a1) a2 a3 a4 a5
theorem Sd.rebase (S : Sd K Z' u u' σ ds) (g : Gs b u) (xk : XOk K Z b) : Sd K Z b u' σ ds :=
  ⟨g.trans S.gr, xk, S.st, S.len, fun i d h => let ⟨v, h1, h2⟩ := S.sl i d h; ⟨v, h1, h2.rebase g⟩, S.ap⟩
theorem Sd.blank (S : Sd K Z b u σ ds) {σ' : L2.St} {len : Nat} (h : σ'.length = len) : Sd K Z b u σ' (List.replicate len none) := by
  refine ⟨S.gr, S.xk, S.st, by simp [h], fun i d q => ?_, fun i j d e a c q => ?_⟩ <;> (rw [List.getElem?_replicate] at q; split at q <;> cases q)
theorem den_exc {a C : Addr} {d : Option Addr} {fs : List (Str × D)} {w : Wd} (e : DenE K w (.ref C) d C fs) (ha : w.H0 a = some (xo a (.ref C) d)) : Den K w (.ref a) (.exc C fs) := by
  rcases e.2 with ⟨rfl, rfl⟩ | ⟨dx, vs, rfl, h1, h2⟩
  · exact .exc0 ha
  · exact .exc ha h1 h2
theorem DenE.mono {C : Addr} {cls : Value} {d : Option Addr} {fs : List (Str × D)} (l : Le u u') (e : DenE K u cls d C fs) : DenE K u' cls d C fs := ⟨e.1, e.2.imp id fun ⟨dx, vs, h1, h2, h3⟩ => ⟨dx, vs, h1, l.h _ _ h2, h3.mono l⟩⟩
/-- try: .. except cs as e: .. -/
theorem ws_try {cs : List Value} {i len : Nat} {ts : TS} {t : XK → TS} (hl : ds.length = len) (X1 : Xp) (hb : ∀ E, Ws K ⟨E, X1⟩ (t E) (immDS ds) n N)
    (hc : ∀ C fs m, X1 C fs m → PySem.W.exmAny K (.ref C) cs = some true ∧ Ws K Z ts ((List.replicate len none).set i (some (.exc C fs))) m { nx := fun ds' k => N.nx (ds'.set i none) k, rt := N.rt, bk := fun ds' k => N.bk (ds'.set i none) k, ct := fun ds' k => N.ct (ds'.set i none) k }) :
    Ws K Z (tTryK K cs i ts (tTryB len t)) ds n N := fun b u σ De e S O => by
  refine ⟨fun cls d H' => ∀ σ', σ'.length = len → wKeep K cs i ts De cls d σ' H', fun cls d σ' H' h l => h σ' l, ?_⟩
  refine hb _ u u σ De e (S.imm .refl S.ex S.st ?_) ⟨fun ds' w σ' x S' q => O.nx ds' w σ' x (S'.rebase S.gr S.xk) q, fun d v w g st r q => O.rt d v w (S.gr.trans g) st r q, fun ds' w σ' x S' q => O.bk ds' w σ' x (S'.rebase S.gr S.xk) q, fun ds' w σ' x S' q => O.ct ds' w σ' x (S'.rebase S.gr S.xk) q⟩
  intro cls d C fs w g st hd hx σ' hl'
  obtain rfl := hd.1
  obtain ⟨hm, hs⟩ := hc C fs w.n hx
  refine ⟨hm, fun a ha => ?_⟩
  have G1 : Gs u (w.put a (xo a (.ref C) d)) := g.trans (.put g.c ha)
  have S1 : Sd K Z b (w.put a (xo a (.ref C) d)) (σ'.set i (some (.ref a))) ((List.replicate len none).set i (some (.exc C fs))) :=
    ((S.go G1 (st.put g.c ha)).blank hl').set (den_exc (hd.mono (Gs.put g.c ha).ls) upd_same)
  exact hs b (w.put a (xo a (.ref C) d)) _ _ rfl S1 ⟨fun ds' w' σ'' x S' q => O.nx _ w' _ (G1.ls.trans x) S'.drop q, O.rt, fun ds' w' σ'' x S' q => O.bk _ w' _ (G1.ls.trans x) S'.drop q, fun ds' w' σ'' x S' q => O.ct _ w' _ (G1.ls.trans x) S'.drop q⟩
/-- error.f -/
theorem we_exf {f : Str} (h : We K Z te ds n fun x m => ∃ C fs d, x = .exc C fs ∧ XfC K C ∧ PySem.W.findIn K (.ref C) f = some none ∧ fs.lookup f = some d ∧ P d m) : We K Z (tExf K f te) ds n P := fun b u σ Q e S k =>
  h b u σ _ e S fun v x u1 g1 s1 d1 ⟨C, fs, d, z, T, hn, hl, p⟩ => by
    subst z
    cases d1 with
    | exc h1 h2 h3 =>
      obtain ⟨w, q1, q2⟩ := h3.look hl
      exact ⟨_, C, _, _, w, rfl, g1.c _ _ h1, g1.c _ _ h2, T, hn, q1, k w d u1 g1 s1 q2 p⟩
    | exc0 h1 => simp at hl
/-- isinstance(error, C) -/
theorem isX {P : D → Prop} {C c : Addr} {fs : List (Str × D)} {r : Bool} (T : ExcC K C) (e : PySem.W.kitOne K (.ref C) (.ref c) = some r) (h : P (.bl r)) : Cb K (rIsX K) [.exc C fs, .cls c] P := fun u vs Q ex rr k => by
  obtain ⟨v, w, rfl, r1, r2⟩ := dens2 rr
  cases r2
  cases r1 with
  | exc h1 h2 h3 => exact ⟨_, C, _, .ref c, .ref c, r, rfl, ex _ _ h1, .inr ⟨_, _, rfl, ex _ _ h2⟩, T, fun u h => h, e, k _ _ u (.refl ex) (.bl _) h⟩
  | exc0 h1 => exact ⟨_, C, _, .ref c, .ref c, r, rfl, ex _ _ h1, .inl rfl, T, fun u h => h, e, k _ _ u (.refl ex) (.bl _) h⟩
/-! ### lambdas -/
/-- what is told of a lambda's reading, from the world u0 on -/
def TlOk (K : PySem.W.Frag) [Tb K] (tl : XK → Hp → VK → Prop) (u0 : Wd) (n0 : Nat) (P : D → Nat → Prop) (X0 : Xp) : Prop :=
  ∀ (E : XK) (w : Wd) (Q : VK), Le u0 w → w.n = n0 → Ex w.H0 w.H1 → StOk K w → (∀ v d w', Gs w w' → StOk K w' → Den K w' v d → P d w'.n → Q v w'.H1) → XOk K ⟨E, X0⟩ w → tl E w.H1 Q
theorem we_act {E : XK} {X0 : Xp} {j : Nat} {f c' : Addr} {q : Str} {tl : XK → Hp → VK → Prop} {u0 : Wd} (hd : ds[j]? = some (some (.lam f c' q u0))) (T : TlOk K tl u0 n P X0) : We K ⟨E, X0⟩ (tAct j f c' q (tl E)) ds n P := fun b u σ Q e S k => by
  obtain ⟨v, h1, h2⟩ := S.sl j _ hd
  cases h2 with
  | den h =>
    cases h with
    | lam l hc => exact ⟨h1, S.ex _ _ hc, T E u Q l e S.ex S.st k (S.xk.at S.gr)⟩
abbrev Rg := (D → Nat → Prop) → Xp → Nat → (D → Nat → Prop) → Prop
def TTd (K : PySem.W.Frag) [Tb K] (q : Str) (RG : Rg) : (XK → Hp → VK → Prop) → Addr → Addr → Hp → VK → Prop := fun tl f c' H Q => ∃ (u : Wd) (P0 : D → Nat → Prop) (X0 : Xp) (P : D → Nat → Prop), u.H1 = H ∧ Ex u.H0 u.H1 ∧ StOk K u ∧ u.H0 c' = some (LamX.CodeO c' q) ∧
  TlOk K tl u u.n P0 X0 ∧ RG P0 X0 u.n P ∧ ∀ v d u', Gs u u' → StOk K u' → Den K u' v d → P d u'.n → Q v u'.H1
/-- g(lambda: ..) -/
theorem we_lam {Pt : Addr} {q : Str} {RG : Rg} {t : XK → TE} (ht : (Pt, q) ∈ Tb.tb K) (h : ∃ P0 X0, (∀ E, We K ⟨E, X0⟩ (t E) (immDS ds) n P0) ∧ RG P0 X0 n P) : We K Z (tLamG Pt q (TTd K q RG) t) ds n P := fun b u σ Q e S k => by
  obtain ⟨P0, X0, hb, hR⟩ := h
  obtain ⟨tS, tT⟩ := S.st.tb _ ht
  obtain ⟨p0, o, p1, po⟩ := S.st Pt tS
  have tT' : u.T Pt = .tbl q := tT
  rw [tT'] at po
  obtain ⟨ps, rfl, hT, hTa⟩ := po
  have ups : ∀ cv, (∃ c, cv = Value.ref c ∧ u.H0 c = some (LamX.CodeO c q)) → ∃ c, cv = Value.ref c ∧ u.H1 c = some (LamX.CodeO c q) := fun cv ⟨c, h1, h2⟩ => ⟨c, h1, S.ex _ _ h2⟩
  refine ⟨ps, p1, ⟨hT, fun p cv hc => ups cv (hTa p cv hc)⟩, fun f c' H1 hH hc => ?_⟩
  have fin : ∀ w : Wd, w.H1 = H1 → Le u w → Gs u w → StOk K w → w.H0 c' = some (LamX.CodeO c' q) → w.n = u.n → TTd K q RG (fun E H' Q' => t E σ H' Q') f c' H1 Q := fun w hw l g st hc0 hn => by
    refine ⟨w, P0, X0, P, hw, g.c, st, hc0, fun E v Q' l2 hn2 ex2 st2 k2 xk2 => ?_, by rw [hn, e]; exact hR, fun z d v' g2 st2 r p => k z d v' (g.trans g2) st2 r p⟩
    exact hb E v v σ Q' ((hn2.trans hn).trans e) (S.imm (l.trans l2) ex2 st2 xk2) k2
  rcases hH with ⟨rfl, p, hp⟩ | ⟨ps', nc, ncP, rfl, hT1, hTa1⟩
  · obtain ⟨c2, e1, e2⟩ := hTa p _ hp
    cases e1
    exact fin u rfl .refl (.refl S.ex) S.st e2 rfl
  · have hne : ∀ x, u.S x → x ≠ c' := fun x hx z => by
      obtain ⟨_, w, h1, _⟩ := S.st x hx
      rw [z, nc] at h1; cases h1
    have c0 : u.H0 c' = none := ex_none S.ex nc
    have G : Gs u ⟨u.S, u.T, u.n, upd u.H0 c' (LamX.CodeO c' q), upd (upd u.H1 Pt (.tbl ps')) c' (LamX.CodeO c' q)⟩ := {
      a := ex_new c0
      b := fun x o ns hx => (ex_new (by rw [upd_ne ncP]; exact nc)) x o ((upd_ne (fun z : x = Pt => ns (by rw [z]; exact tS))).trans hx)
      b' := fun x hx => by
        show upd (upd u.H1 Pt (.tbl ps')) c' _ x ≠ none
        by_cases z : x = c'
        · rw [z, upd_same]; simp
        · rw [upd_ne z]
          by_cases z2 : x = Pt
          · rw [z2, upd_same]; simp
          · rw [upd_ne z2]; exact hx
      c := fun x o (hx : upd u.H0 c' _ x = some o) => by
        show upd (upd u.H1 Pt (.tbl ps')) c' _ x = some o
        by_cases z : x = c'
        · rw [z] at hx ⊢
          rw [upd_same] at hx ⊢
          exact hx
        · rw [upd_ne z] at hx
          rw [upd_ne z, upd_ne (fun z2 => by rw [z2, p0] at hx; cases hx)]
          exact S.ex _ _ hx
      n := fun x h h' => by
        by_cases z : x = c'
        · rw [z]; exact nc
        · exact absurd ((show upd u.H0 c' _ x = u.H0 x from upd_ne z).trans h) h'
      sub := fun _ h => h
      kd := fun _ _ => rfl
      new := fun _ h => .inl h
      le := Nat.le_refl _ }
    refine fin _ rfl G.ls G ⟨fun x hx => ?_, S.st.tb, S.st.on⟩ upd_same rfl
    obtain ⟨x0, o, x1, xs⟩ := S.st x hx
    refine ⟨(upd_ne (hne x hx)).trans x0, ?_⟩
    by_cases z : x = Pt
    · subst z
      refine ⟨.tbl ps', (upd_ne (hne x hx)).trans upd_same, ?_⟩
      show SO K _ (u.T x) _
      rw [tT']
      refine ⟨ps', rfl, hT1, fun p cv hcv => ?_⟩
      rcases hTa1 p cv hcv with rfl | hcv
      · exact ⟨c', rfl, upd_same⟩
      · obtain ⟨c2, e1, e2⟩ := hTa p cv hcv
        exact ⟨c2, e1, G.a _ _ e2⟩
    · exact ⟨o, (upd_ne (hne x hx)).trans ((upd_ne z).trans x1), xs.mono G.ls (Nat.le_refl _)⟩
end
end DL

namespace DL
open PySem L2 StX
open PyProof.Rows (envOfC)
section
variable {K : PySem.W.Frag} [Tb K] {Z : ZX} {b u u' : Wd} {σ : L2.St} {ds : DS} {n : Nat} {P : D → Nat → Prop} {te ta tb : TE} {t tk : TA} {N : Nd} {C : Addr} {E : XK} {R : Rl}
theorem dens_at : ∀ {vs : List V} {ds : List D}, Dens K u vs ds → ∀ i : Nat, (vs[i]? = none ∧ ds[i]? = none) ∨ ∃ v d, vs[i]? = some v ∧ ds[i]? = some d ∧ Den K u v d
  | _, _, .nil, i => .inl ⟨by simp, by simp⟩
  | _, _, .cons r _, 0 => .inr ⟨_, _, rfl, rfl, r⟩
  | _, _, .cons _ rs, i + 1 => by
    rcases dens_at rs i with ⟨a, b⟩ | ⟨v, u, a, b, r⟩
    · exact .inl ⟨by simpa using a, by simpa using b⟩
    · exact .inr ⟨v, u, by simpa using a, by simpa using b, r⟩
theorem dens_perm (ix : List Nat) {vs zs : List V} {xs ys : List D} (r : Dens K u vs xs) (rz : Dens K u zs ys) : Dens K u (perm ix vs zs) (perm ix xs ys) := by
  have h := dens_at (r.app rz)
  induction ix with
  | nil => exact .nil
  | cons i ix ih =>
    unfold perm at ih ⊢
    rcases h i with ⟨a, b⟩ | ⟨v, u, a, b, q⟩
    · rw [List.filterMap_cons, List.filterMap_cons, a, b]; exact ih
    · rw [List.filterMap_cons, List.filterMap_cons, a, b]; exact .cons q ih
/-- f(e, .., k = v, ..) -/
theorem we_callN {a m : Nat} {ix : List Nat} (h : Wa K Z t ds n fun xs j => Wa K Z tk ds j fun ys k => xs.length = a ∧ ys.length = m ∧ R (perm ix xs ys) k P noX) : We K Z (tCallN a m (spD K R) (perm ix) E t tk) ds n P := fun b u σ Q e S k =>
  h b u σ _ e S fun vs xs u1 g1 s1 r q => q b u1 σ _ rfl (S.go g1 s1) fun zs ys u2 g2 s2 r2 ⟨h1, h2, p⟩ =>
    ⟨r.len.trans h1, r2.len.trans h2, u2, perm ix xs ys, P, noX, rfl, g2.c, s2, dens_perm ix (r.mono g2.ls) r2, p, fun v d u3 g3 s3 r' p' => k v d u3 ((g1.trans g2).trans g3) s3 r' p', xok_no⟩
/-! ### own == -/
/-- what a class must say so that its instances' type is told -/
structure TyC (K : PySem.W.Frag) (C : Addr) : Prop where
  c : Cls K C
  a : PySem.W.findIn K (.ref C) "__class__" = some (some (.builtin "object.__class__"))
  g : PySem.W.specialIn K (.builtin "object.__class__") "__get__" = some (some (.builtin "getset_descriptor.__get__"))
  t : PySem.W.takesIn K (.builtin "object.__class__") = some true
  m : PySem.W.mroIn K C (.type "object") = some true
/-- the type of a thing -/
def TyD (K : PySem.W.Frag) (d : D) (w : Value) : Prop := (∃ T, tyD d = some T ∧ w = .type T) ∨ ∃ C fs, d = .obj C fs ∧ w = .ref C ∧ TyC K C
theorem dens_rep {vs : List V} {xs : List D} (r : Dens K u vs xs) : ∀ k : Nat, Dens K u (List.replicate k vs).flatten (List.replicate k xs).flatten
  | 0 => .nil
  | k + 1 => by
    rw [List.replicate_succ, List.replicate_succ, List.flatten_cons, List.flatten_cons]
    exact r.app (dens_rep r k)
/-- [..] * k -/
theorem we_rep (h : Wa K Z t ds n fun xs m => xs.length ≤ 1000 ∧ We K Z tb (ds) m fun y j => ∃ i : Int, y = .int i ∧ 0 ≤ i ∧ i ≤ 1000 ∧ P (.lst (List.replicate i.toNat xs).flatten) j) : We K Z (tOp rRep (tLst t) tb) ds n P := fun b u σ Q e S k =>
  h b u σ _ e S fun vs xs u1 g1 s1 r ⟨hz, h2⟩ => by
    refine ⟨by rw [r.len]; exact sz100 (Nat.le_trans hz (by decide)), fun p hp => ?_⟩
    have g0 := g1.trans (Gs.put g1.c hp (o := .lst vs))
    refine h2 b (u1.put p (.lst vs)) σ _ rfl (S.go g0 (s1.put g1.c hp)) fun w y u2 g2 s2 r2 ⟨i, hy, i0, i1, pp⟩ => ?_
    subst hy
    cases den_int r2
    refine ⟨p, i, vs, rfl, rfl, g2.c _ _ (g2.a _ _ upd_same), by omega, by omega, ?_, fun q hq => ?_⟩
    · rw [r.len]
      exact sz100 (Nat.le_trans (Nat.mul_le_mul hz (show i.toNat ≤ 1000 by omega)) (by decide))
    · have l2 := (Gs.put g1.c hp (o := .lst vs)).ls.trans g2.ls
      exact k _ _ (u2.put q _) ((g0.trans g2).trans (.put g2.c hq)) (s2.put g2.c hq) (.lst (SqL.of upd_same) ((dens_rep (r.mono l2) i.toNat).mono (Gs.put g2.c hq).ls)) pp
end
/-! ### defs -/
section
variable {Pr : Program} {w : World} {K : PySem.W.Frag} [Tb K] {mg : Str → Option Value} {base : Heap} {R : Rl}
/-- the def that calls the lambda that it got -/
theorem gives_of {X : Cx} [Tb X.K] {Ng : List Str} {x a q : Str} {sg : Scope} {g : Addr} {cdg : Value} {bg : List Stmt} {RG : Rg} {tt : Addr → Addr → (XK → Hp → VK → Prop) → TS} (hN : 1 ≤ Ng.length)
    (hb : ∀ (f c' : Addr) (s : Shared) (H : Hp) (tl : XK → Hp → VK → Prop), (∀ (W : WX) (pn : List (Addr × Obj)) (xe : Value → Shared → Prop) (E : XK) (p1 p2 : Pos), Takes ((cxOf C8.CX0 X.prog X.w X.K X.mg X.base Ng x sg g cdg X.A X.stack s H C8.E0).tr pn xe) W → (∀ cls d σ' H', E cls d H' → σ'.length = Ng.length → W cls d σ' H') →
      PE ((cxOf C8.CX0 X.prog X.w X.K X.mg X.base Ng x sg g cdg X.A X.stack s H C8.E0).tr pn xe) (.Call (.Name a p1) [] [] p2) (tAct 0 f c' q (tl E))) → PSs (cxOf C8.CX0 X.prog X.w X.K X.mg X.base Ng x sg g cdg X.A X.stack s H C8.E0).nox bg (tt f c' tl))
    (hW : ∀ (Z : ZX) (f c' : Addr) (tl : XK → Hp → VK → Prop) (u0 : Wd) (n : Nat) (P0 : D → Nat → Prop) (X0 : Xp) (P : D → Nat → Prop), TlOk X.K tl u0 n P0 X0 → RG P0 X0 n P → Ws X.K Z (tt f c' tl) (startD Ng.length [.lam f c' q u0]) n { nx := fun _ m => P .non m, rt := P }) :
    GivesG X Ng x sg g cdg bg a q (TTd X.K q RG) := by
  intro f c' s H Q tl act hc ⟨u, P0, X0, P, eh, ex, st, hc0, hT, hR, k⟩
  subst eh
  refine ⟨tt f c' tl, hb f c' s u.H1 tl act, ?_⟩
  refine hW ⟨C8.E0, noX⟩ f c' tl u u.n P0 X0 P hT hR u u _ _ rfl (sd_start (vs := [.ref f]) ex xok_no st (.cons (.lam .refl hc0) .nil) (by simpa using hN)) ⟨fun ds' v σ' _ S' p => k _ _ _ S'.gr S'.st .non p, fun d v v' g s r p => k v d v' g s r p, fun _ _ _ _ _ z => z.elim, fun _ _ _ _ _ z => z.elim⟩
end
section
variable {Pr : Program} {w : World} {K : PySem.W.Frag} {mg : Str → Option Value} {base : Heap} {C fI : Addr} {f : Str} {tl : List Value} {B newId initId : String}
/-- the __init__ of an own exception, one field stored -/
theorem ok_excG {qual : Str} {st : Stmt} {fd : FuncData} {N : List Str} {k : Nat} {a1 a2 : Str} (F : Fun K "__init__" qual st fI fd) (S : FnScope N [a1, a2] (defScope st)) (hN : N = [a1, a2])
    (hbody : ∀ (cdv : Value) (A : Around) (outer : List Env) (s : Shared) (H : Hp) (E : XK), PSs (cxOf CX0 Pr w K mg base N qual (defScope st) fI cdv A outer s H E).nox (defBody st) (tOsx K C f (tVar 0) (tVar 1))) : FnOk Pr w K mg base CX0 (k + 1) fI fd [a1, a2] (spX1 C f) := by
  refine F.ok S (fun vs H Q E ⟨a, y, e, _⟩ => by rw [e]; rfl) (fun cdv A outer s H vs Q E hr ⟨a, y, e, ha, q⟩ => ⟨_, hbody cdv A outer s H E, ?_⟩)
  subst e hN
  exact ⟨y, rfl, .ref a, rfl, a, rfl, ha, fun dx h1 h2 => q dx h1 h2⟩
theorem ps_raiseG {X : Cx} {E : XK} {CX : CXT} {x : Str} {k : Nat} {fd : FuncData} {ps : List Str} {sp : Sp} {ta : TA} {e : Expr} {es : List Expr} {p pos pos' : Pos} (hc : X.calm = true) (tk : Takes X fun cls d _ H => E cls d H) (b : PySem.XG.BaseX tl B newId initId) (T : OexG X.K C tl newId) (iC : PySem.W.findIn X.K (.ref C) "__init__" = some (some (.ref fI))) (tI : PySem.W.typeIn X.K (.ref fI) = some (.type "function"))
    (F1 : FnOk X.prog X.w X.K X.mg X.base CX k fI fd ps sp) (hr : Room (k + 1) X.A) (hb : Binds X.K fd ps []) (hx : Passes CX X (fun _ _ _ => False)) (hg : Gl X x) (hm : X.mg x = some (.ref C)) (ha : PA X (e :: es) ta)
    (hdb : (x == ("__debug__" : Str)) = false := by decide) (he : starEach (e :: es) X.env = (false, eval e X.env) :: starEach es X.env := by rfl) (hpl : (backTo pos' (starEach es X.env)).any (·.1) = false := by rfl) :
    PS X (.Raise (some (.Call (.Name x p) (e :: es) [] pos')) none pos) (tRaise E C sp ta) := ps_raise (W := fun cls d _ H => E cls d H) hc tk (pmk_any b T iC tI F1 hr hb hx hg hm ha hdb he hpl)
end
theorem lookup_nodup {tb : List (Addr × Str)} (hn : (tb.map (·.1)).Nodup) : ∀ p ∈ tb, tb.lookup p.1 = some p.2 := by
  induction tb with
  | nil => intro p hp; cases hp
  | cons q tb ih =>
    intro p hp
    obtain ⟨a, n⟩ := q
    rw [List.map_cons, List.nodup_cons] at hn
    rw [List.lookup_cons]
    rcases List.mem_cons.mp hp with rfl | hp
    · simp
    · have : p.1 ≠ a := fun z => hn.1 (by rw [← z]; exact List.mem_map.mpr ⟨p, hp, rfl⟩)
      have e : (p.1 == a) = false := by simpa using this
      rw [e]
      exact ih hn.2 p hp
/-- where a law begins: its script is told, the tables are empty -/
theorem law_begin {K : PySem.W.Frag} {tb : List (Addr × Str)} [i : Tb K] {R : Rl} {H : Hp} {a : Addr} {ns : List Int} (n0 : Nat) (hS : SqL K H a (ns.map V.int)) (hi : Tb.tb K = tb) (hn : (tb.map (·.1)).Nodup) (hT : ∀ p ∈ tb, H p.1 = some (.tbl #[])) (hR : R [.lst (ns.map .int)] n0 (fun d _ => d = .bl true) noX) :
    spD K R [.ref a] H (fun v _ => v = .bl true) fun _ _ _ => False := by
  have mem : ∀ x, x ∈ tb.map (·.1) → H x = some (.tbl #[]) := fun x hx => by
    obtain ⟨p, hp, e⟩ := List.mem_map.mp hx
    rw [← e]; exact hT p hp
  have hH0 : ∀ x o, H x = some o → (∀ ps, o ≠ .tbl ps) → (if x ∈ tb.map (·.1) then none else H x) = some o := fun x o h n => by
    rw [if_neg (fun z => by rw [mem x z] at h; cases h; exact n _ rfl)]; exact h
  refine ⟨⟨fun x => x ∈ tb.map (·.1), fun x => .tbl ((tb.lookup x).getD Str.empty), n0, fun x => if x ∈ tb.map (·.1) then none else H x, H⟩, [.lst (ns.map .int)], fun d _ => d = .bl true, noX, rfl, fun x o h => ?_, ⟨fun x hx => ⟨if_pos hx, _, mem x hx, #[], rfl, True.intro, fun pos cv hc => ?_⟩, fun p hp => ?_, fun x q hx hq => ?_⟩, .cons (.lst ?_ (ints_dens ns)) .nil, hR, fun v d _ _ _ r p => by cases p; exact den_bl r, xok_no⟩
  · have h' : (if x ∈ tb.map (·.1) then none else H x) = some o := h
    show H x = some o
    by_cases z : x ∈ tb.map (·.1)
    · rw [if_pos z] at h'; cases h'
    · rw [if_neg z] at h'; exact h'
  · have z : codeAmong pos [] = some cv := hc
    simp [codeAmong] at z
  · rw [hi] at hp
    refine ⟨List.mem_map.mpr ⟨p, hp, rfl⟩, ?_⟩
    show SK.tbl ((tb.lookup p.1).getD Str.empty) = _
    rw [lookup_nodup hn p hp]; rfl
  · rw [hi]
    obtain ⟨p, hp, e⟩ := List.mem_map.mp (show x ∈ tb.map (·.1) from hx)
    have hq' : SK.tbl ((tb.lookup x).getD Str.empty) = .tbl q := hq
    rw [← e, lookup_nodup hn p hp] at hq'
    cases hq'
    rw [← e]
    exact hp
  · rcases hS with (h | ⟨o, h⟩) | h
    · exact .inl (.inl (hH0 _ _ h fun _ z => by cases z))
    · exact .inl (.inr ⟨o, hH0 _ _ h fun _ z => by cases z⟩)
    · exact .inr h
end DL

/-! Classmethods called by keywords, cls(..), texts backwards. -/
namespace L2
open PySem PySem.Spec PyProof.Rows ClX
section
variable {X : Cx} {CX : CXT} {k : Nat} {C p f g : Addr} {mc : Value} {fd : FuncData} {ps ks : List Str} {ds : List Value} {dvs : List V} {sp : Sp} {E : XK} {o e : Expr} {es : List Expr} {kws : List Keyword} {m x : Str} {np pos apos : Pos} {te ta : TE} {t tk : TA} {gL : List Value → List Value → List Value} {gV : List V → List V → List V}
/-- C.m(k = v, ..), m a classmethod -/
def tCMethN (C : Addr) (nk : Nat) (sp : Sp) (gV : List V → List V → List V) (E : XK) (ta : TE) (tk : TA) : TE := fun σ H Q => ta σ H fun y H1 => y = .ref C ∧ tk σ H1 fun zs H2 => zs.length = nk ∧ sp (gV [.ref C] zs) H2 Q E
/-- cls(..), the class a variable -/
def tMakeV (C : Addr) (sp : Sp) (dvs : List V) (E : XK) (te : TE) (t : TA) : TE := fun σ H Q => te σ H fun y H1 => y = .ref C ∧ tMake C sp dvs E t σ H1 Q
/-- a text backwards -/
def revS (z : Str) : Str := ⟨z.cps.toList.reverse.toArray⟩
def tRevS (te : TE) : TE := fun σ H Q => te σ H fun x H1 => ∃ z, x = .str z ∧ z.length ≤ sizeLine ∧ Q (.str (revS z)) H1
end
end L2

namespace DL
open PySem L2 StX ClX
section
variable {K : PySem.W.Frag} [Tb K] {Z : ZX} {ds : DS} {n : Nat} {P : D → Nat → Prop} {te ta : TE} {t tk : TA} {C : Addr} {E : XK} {R : Rl}
end
end DL

/-! What is known of repr's guards, carried from the law down to the defs that ask for repr. -/
namespace L2
open PySem PySem.Spec PyProof.Rows
section
variable {X : Cx}
/-- repr of a list or a tuple of data -/
def rRepr (K : PySem.W.Frag) : List V → Hp → VK → Prop := fun xs H Q => ∃ a d, xs = [.ref a] ∧ Dp K H (.ref a) d ∧ d.showable = true ∧ d.hasDict = false ∧ d.depth ≤ 60 ∧ d.shown.length ≤ sizeLine ∧ Q (.str d.shown) H
theorem call_repr (hg : X.A.guards = some []) (hu : X.A.units + 64 < cLine) : CallR X (.builtin "repr") (rRepr X.K) := by
  intro pins s σ H xs us Q I r ⟨a, d, e, hd, h1, h2, h3, h4, q⟩
  subst e
  obtain ⟨u1, rfl, r1⟩ := vals1 r
  cases r1
  obtain ⟨as, hr⟩ := Dp.reads I d _ _ hd rfl
  exact repr_of_reads' hr h1 (fun z => by rw [h2] at z; cases z) hg (by omega) (fun _ _ e => e) (fun h' u tk hk => ⟨.str _, H, I.kept hk, ⟨_, rfl⟩, q⟩) h4
end
/-- a def that may be called where no repr is under way -/
structure FnG (P : Program) (w : World) (K : PySem.W.Frag) (mg : Str → Option Value) (base : Heap) (CX : CXT) (k : Nat) (f : Addr) (fd : FuncData) (ps : List Str) (sp : Sp) : Prop where
  size : ∀ {vs : List V} {H : Hp} {Q : VK} {E : XK}, sp vs H Q E → vs.length = ps.length
  goes : ∀ {A : Around} {outer : List Env} {s : Shared} {H : Hp} {args : Args} {us : List Value} {vs : List V} {Q : VK} {E : XK}, A.guards = some [] → Room k A → Env0 P w K mg base A outer s H → BindsTo s fd args (ps.zip us) → Vals vs us → sp vs H Q E →
    codeAny (model P w) A (.call (.ref f) args) (CR CX outer P w H s Q E) s
section
variable {P : Program} {w : World} {K : PySem.W.Frag} {mg : Str → Option Value} {base : Heap} {CX : CXT} {k : Nat} {f : Addr} {fd : FuncData} {ps N : List Str} {sp : Sp}
theorem FnG.of (F : FnOk P w K mg base CX k f fd ps sp) : FnG P w K mg base CX k f fd ps sp := ⟨F.len _ _ _ _, fun _ hr e0 hb rv h => F.run _ _ _ _ _ _ _ _ _ hr e0 hb rv h⟩
/-- a def by its body, the guards told -/
theorem Fun.okG {x qual : Str} {st : Stmt} (F : Fun K x qual st f fd) (S : FnScope N ps (defScope st)) (len : ∀ vs H Q E, sp vs H Q E → vs.length = ps.length)
    (hbody : ∀ (cdv : Value) (A : Around) (outer : List Env) (s : Shared) (H : Hp) (vs : List V) (Q : VK) (E : XK), fd.code = cdv → (A.deeper (envOfC qual (defScope st) s.heap.objs.size f cdv)).guards = some [] → Room k (A.deeper (envOfC qual (defScope st) s.heap.objs.size f cdv)) → sp vs H Q E →
      ∃ t, PSs (cxOf CX P w K mg base N qual (defScope st) f cdv A outer s H E) (defBody st) t ∧ t { nx := fun _ H' => Q .non H', rt := Q } (start N vs) H) :
    FnG P w K mg base CX (k + 1) f fd ps sp := by
  obtain ⟨oc, od, kV, doc, pm, an, cdv, ct, osl, rfl, lk, hcg⟩ := F.ex
  refine ⟨len _ _ _ _, fun {A outer s H args us vs Q E} hg hr e0 hb rv h => ?_⟩
  have same : ∀ b o, base.get? b = some o → s.heap.get? b = some o := fun b o e => (e0.bs b o e).1
  have KH : K.In s.heap := e0.mod.kin.keeps same
  refine codeAny_call_function hr.depth (KH _ _ lk) rfl S.co S.gen rfl (PySem.W.codeRec_of KH hcg) (hb _ _ _ _ (wpAny_newFunctionEnv_cells S.kind (fun ⟨y, z⟩ hy => ?_) fun env he s1 c => ?_))
  · exact (S.par y (List.of_mem_zip hy).1).elim .inl fun q => .inr ⟨q, PySem.W.cellsFrom_some _ _ _ (.inl q)⟩
  · subst he
    refine ⟨(e0.mod.nolimit.keeps same).keeps c.toInCall.keep, codeAny_func ?_⟩
    obtain ⟨t, ht, hq⟩ := hbody cdv A outer s H vs Q E rfl hg (hr.deeper _) h
    refine wpAny_mono (ht.run [] s1 (start N vs) H _ (inv_start S hr.hd e0 (len _ _ _ _ h) rv c) hq) (fun fl s' z => ?_) fun _ _ z => z
    match fl, z with
    | .ret u, ⟨v, σ', H', J, rv', q⟩ => exact ⟨v, H', J.os, J.bare, J.base, J.hok, rv', q⟩
    | .next, ⟨σ', H', J, q⟩ => exact ⟨.non, H', J.os, J.bare, J.base, J.hok, rfl, q⟩
    | .brk, ⟨_, _, _, q⟩ => exact q.elim
    | .cont, ⟨_, _, _, q⟩ => exact q.elim
end
section
variable {X : Cx} {CX : CXT} {k : Nat} {f : Addr} {fd : FuncData} {ps : List Str} {sp : Sp} {E : XK} {x : Str} {np pos : Pos} {e : Expr} {es : List Expr} {t : TA}
end
end L2

/-! The end of a law whose def is told with the guards. -/
namespace LamX
open PySem PySem.Spec PyProof.Rows L2
/-- what a law begins with: empty tables, and its script, unless that is written out already -/
def beginH (ts : List Addr) (a : Addr) (o : Obj) (xs : List V) (kn : Bool) : Hp := fun b => if b ∈ ts then some (.tbl #[]) else if b = a ∧ kn = false then some (.frz o (.lst xs)) else none
section
variable {P : Program} {w : World} {K : PySem.W.Frag} {mg mb : Str → Option Value} {CX : CXT} {k : Nat} {fa a : Addr} {cs : List (Addr × Addr)} {fd : FuncData} {x : Str} {sp : Sp} {s₁ : Shared} {vs : List Value} {ns : List Int}
theorem law_callG (KX : K.In s₁.heap) (gN : s₁.heap.Ns mainGlobals mg) (bN : s₁.heap.Ns builtinsNs mb) (bB : ∀ y : Str, y ≠ "__name__" → mb y = bootBuiltins y) (nl : s₁.heap.NoLimit) (ge : s₁.gens = #[])
    (tE : ∀ p ∈ cs, s₁.heap.get? p.2 = some { cls := .none, data := .fields #[] }) (tN : ∀ p ∈ cs, K.lookup p.2 = none) (tC : ∀ p ∈ cs, PySem.W.CodeHd s₁.heap p.1 p.2)
    (bm : ∃ (c : Addr) (o : Obj), mg "__builtins__" = some (.ref c) ∧ c ≠ builtinsNs ∧ s₁.heap.get? c = some o ∧ o.cls = .type "module" ∧ o.dict = some builtinsNs ∧ o.data = .plain)
    (sc : s₁.heap.get? a = some { cls := .type "list", data := .seq vs.toArray }) (si : IntsAre vs ns) (sl : ns.length ≤ sizeLine) (hr : Room k callerA)
    (F : ∀ b : Heap, K.In b → b.Ns mainGlobals mg → (∀ p ∈ cs, TabB b mg p.1 p.2) → FnG P w K mg b CX k fa fd [x] sp) (fb : ∀ (s : Shared) (u : Value), BindsTo s fd ⟨[u], []⟩ [(x, u)])
    (go : ∀ H : Hp, (∀ p ∈ cs, H p.2 = some (.tbl #[])) → SqL K H a (ns.map V.int) → sp [.ref a] H (fun v _ => v = .bl true) fun _ _ _ => False)
    (noE : ∀ H e s', CX [] H s₁ (fun _ _ _ => False) e s' → False) :
    codeAny (model P w) callerA (.call (.ref fa) ⟨[.ref a], []⟩) (fun r s' => r = .ok (.ret (.bool true)) ∧ OldK s₁.heap s'.heap ∧ s'.os = s₁.os ∧ AllBare s'.gens) s₁ := by
  have isTab : ∀ {b : Addr}, b ∈ cs.map (·.2) → ∃ p ∈ cs, p.2 = b := fun hb => List.mem_map.mp hb
  have tab : ∀ {b : Addr}, b ∈ cs.map (·.2) → s₁.heap.get? b = some { cls := .none, data := .fields #[] } := fun hb => let ⟨p, h1, h2⟩ := isTab hb; h2 ▸ tE p h1
  have aN : a ∉ cs.map (·.2) := fun z => by
    have q := congrArg Obj.data (Option.some.inj ((tab z).symm.trans sc))
    cases q
  generalize hH : beginH (cs.map (·.2)) a { cls := .type "list", data := .seq vs.toArray } (ns.map V.int) (K.lookup a).isSome = H
  have atT : ∀ {b : Addr}, b ∈ cs.map (·.2) → H b = some (.tbl #[]) := fun hb => by rw [← hH]; exact if_pos hb
  have atN : ∀ {b : Addr}, b ∉ cs.map (·.2) → (b = a → (K.lookup a).isSome = true) → H b = none := fun {b} h1 h2 => by
    rw [← hH]
    show (if b ∈ _ then _ else if b = a ∧ (K.lookup a).isSome = false then _ else _) = none
    rw [if_neg h1, if_neg fun z => by rw [h2 z.1] at z; cases z.2]
  have cases3 : ∀ (b : Addr) (u : HO), H b = some u → (b ∈ cs.map (·.2) ∧ u = .tbl #[]) ∨ (b = a ∧ (K.lookup a).isSome = false ∧ u = .frz { cls := .type "list", data := .seq vs.toArray } (.lst (ns.map V.int))) := fun b u z => by
    rw [← hH] at z
    have z' : (if b ∈ cs.map (·.2) then some (HO.tbl #[]) else if b = a ∧ (K.lookup a).isSome = false then some (.frz { cls := .type "list", data := .seq vs.toArray } (.lst (ns.map V.int))) else none) = some u := z
    split at z'
    · next h => cases z'; exact .inl ⟨h, rfl⟩
    · split at z'
      · next h => cases z'; exact .inr ⟨h.1, h.2, rfl⟩
      · cases z'
  have see : ∀ {b : Addr} {o : Obj}, s₁.heap.get? b = some o → (∀ v m, o.data ≠ .seq v m) → o.data ≠ .fields #[] → (hidT s₁.heap H).get? b = some o := fun {b o} e h1 h2 => hidT_get e (atN (fun z => by
    have q := (tab z).symm.trans e
    cases q
    exact h2 rfl) fun z => by
    subst z
    have q := sc.symm.trans e
    cases q
    exact absurd rfl (h1 _ _))
  have seeN : ∀ {b : Addr} {m : Str → Option Value}, s₁.heap.Ns b m → (hidT s₁.heap H).Ns b m := fun ⟨o, es, n, e, d, q⟩ => ⟨o, es, n, see e (fun v m => by rw [d]; exact fun z => nomatch z) (by rw [d]; exact fun z => nomatch z), d, q⟩
  have seeK : K.In (hidT s₁.heap H) := fun b o e => hidT_get (KX b o e) (atN (fun z => by
    obtain ⟨p, h1, h2⟩ := isTab z
    rw [← h2, tN p h1] at e
    cases e) fun z => by rw [← z, e]; rfl)
  have seeT : ∀ p ∈ cs, TabB (hidT s₁.heap H) mg p.1 p.2 := fun p hp => by
    obtain ⟨co, cv, c1, c2, c3, c4, c5, c6, c7, at_, f1, f2, f3, f4, f5, f6, f7, f8, f9⟩ := tC p hp
    refine ⟨⟨co, cv, c1, c2, c3, c4, c5, c6, c7, see at_ (fun v m => by rw [f2]; exact fun z => nomatch z) (by rw [f2]; intro z; injection z with z; rw [z] at f3; cases f3), f1, f2, f3, f4, f5, f6, f7, f8, f9⟩, ?_, fun z => ?_⟩
    · obtain ⟨c, o, b1, b2, b3, b4, b5, b6⟩ := bm
      refine ⟨c, o, b1, b2, fun z => ?_, fun z => ?_, see b3 (fun v m => by rw [b6]; exact fun z => nomatch z) (by rw [b6]; exact fun z => nomatch z), b4, b5, b6⟩
      · obtain ⟨o', es, n, e, d, -⟩ := gN
        rw [← z, b3] at e
        cases e
        rw [b6] at d
        cases d
      · rw [z, tE p hp] at b3
        cases b3
        cases b6
    · obtain ⟨o', es, n, e, d, -⟩ := gN
      rw [z, tE p hp] at e
      cases e
      cases d
  have iv := vals_ints si
  have ln := si.length
  have ok : HOk P w H s₁.heap := fun b u z => by
    rcases cases3 b u z with ⟨h, rfl⟩ | ⟨rfl, -, rfl⟩
    · exact tab h
    · exact ⟨sc, by rw [List.length_map]; exact sl, vs, _, iv, sc⟩
  have sq : SqL K H a (ns.map V.int) := by
    cases hk : K.lookup a with
    | some o =>
      have e := (KX a o hk).symm.trans sc
      cases e
      exact .inr ⟨_, vs.toArray, _, hk, rfl, rfl, rfl, by rw [List.size_toArray, ln]; exact sl, by simpa using iv⟩
    | none =>
      refine .inl (.inr ⟨{ cls := .type "list", data := .seq vs.toArray }, ?_⟩)
      rw [← hH]
      show (if a ∈ _ then _ else if a = a ∧ (K.lookup a).isSome = false then _ else _) = _
      rw [if_neg aN, if_pos ⟨rfl, by rw [hk]; rfl⟩]
  have e0 : Env0 P w K mg (hidT s₁.heap H) callerA [] s₁ H := {
    frames := rfl
    mod := ⟨seeK, seeN gN, ⟨mb, seeN bN, bB⟩, let ⟨c, n1, n2⟩ := nl; ⟨c, seeN n1, n2⟩⟩
    bs := fun b o e => of_hidT e
    bsz := Nat.le_of_eq (hidT_size _ _)
    funs := trivial
    frf := fun b z => nomatch z
    hok := ok
    bare := .of_eq ge }
  refine codeAny_mono ((F _ seeK (seeN gN) seeT).goes rfl hr e0 (us := [.ref a]) (vs := [.ref a]) (fb s₁ (.ref a)) (.cons rfl .nil) (go H (fun p hp => atT (List.mem_map.mpr ⟨p, hp, rfl⟩)) sq)) fun r s' z => ?_
  match r, z with
  | .error e, z => exact (noE H e s' z).elim
  | .ok .next, z => exact False.elim z
  | .ok .brk, z => exact False.elim z
  | .ok .cont, z => exact False.elim z
  | .ok (.ret u), ⟨v, H', so, sb, un, ok', rv, (q : v = .bl true)⟩ =>
    subst q
    obtain rfl : u = Value.bool true := rv
    have kept : ∀ b o, b ∉ cs.map (·.2) → s₁.heap.get? b = some o → s'.heap.get? b = some o := fun b o nb e => by
      cases q : H b with
      | none => exact un.keep b o e q (fun z => nomatch z) (fun z => nomatch z)
      | some u =>
        rcases cases3 b u q with ⟨h, -⟩ | ⟨rfl, -, rfl⟩
        · exact absurd h nb
        · rw [sc] at e
          cases e
          exact (ok' _ _ (un.frzs _ _ _ q)).1
    have more : ∀ {b : Addr}, b ∈ cs.map (·.2) → ∃ m : Array Value, s'.heap.get? b = some { cls := .none, data := .fields m } := fun {b} hb => let ⟨m, z⟩ := un.tbls b #[] (atT hb); ⟨_, ok' b _ z⟩
    refine ⟨rfl, ⟨fun b o e => ?_, fun b o e => ?_⟩, so, sb⟩
    · by_cases hb : b ∈ cs.map (·.2)
      · obtain ⟨p, h1, rfl⟩ := isTab hb
        obtain ⟨m, hm⟩ := more hb
        have e' := (tE p h1).symm.trans e
        cases e'
        exact .inr (.inl ⟨((tC p h1).tab (tE p h1)).isCodeTable, rfl, #[], m, rfl, by rw [Array.empty_append]; exact hm⟩)
      · exact .inl (kept b o hb e)
    · by_cases hb : b ∈ cs.map (·.2)
      · exact let ⟨m, hm⟩ := more hb; ⟨_, hm⟩
      · exact ⟨o, kept b o hb e⟩
end
/-- what is to be known of a law's def, with the guards -/
def LawAtG (l : PySem.W.OpenLaw) (w : World) (K : PySem.W.Frag) (CX : CXT) (k n : Nat) (x : Str) (mg : Str → Option Value) (fa : Addr) (h : Heap) : Prop :=
  ∃ (fd : FuncData) (cs : List (Addr × Addr)) (sp : Sp), (∀ p ∈ cs, h.get? p.2 = some { cls := .none, data := .fields #[] } ∧ K.lookup p.2 = none ∧ PySem.W.CodeHd h p.1 p.2) ∧ (∀ (s : Shared) (u : Value), BindsTo s fd ⟨[u], []⟩ [(x, u)]) ∧
    (∀ (H : Hp) (a : Addr) (ns : List Int), ns.length ≤ n → (∀ p ∈ cs, H p.2 = some (.tbl #[])) → SqL K H a (ns.map V.int) → sp [.ref a] H (fun v _ => v = .bl true) fun _ _ _ => False) ∧
    ∀ b : Heap, K.In b → b.Ns mainGlobals mg → (∀ p ∈ cs, TabB b mg p.1 p.2) → FnG l.prog w K mg b CX k fa fd [x] sp
theorem walkG {l : PySem.W.OpenLaw} {n k : Nat} {q : Program} {loose : List Str} {XP : (Str → Option Value) → Heap → Prop} {YP : World → Heap → Prop} {d : DefRec} {K : Params → PySem.W.Frag} {CX : World → CXT} {x : Str} (most : l.most = some n) (small : n ≤ sizeLine) (nodef : d.params.defaults = []) (hr : Room k callerA)
    (inK : ∀ (w : World) (h : Heap), YP w h → (K w.params).In h) (F : ∀ (w : World) (mg : Str → Option Value) (fa : Addr) (h : Heap), YP w h → (K w.params).In h → h.Ns mainGlobals mg → mg d.name = some (.ref fa) → LawAtG l w (K w.params) (CX w) k n x mg fa h)
    (noE : ∀ (w : World) (H : Hp) (s : Shared) (e : Value) (s' : Shared), CX w [] H s (fun _ _ _ => False) e s' → False) : PySem.W.WalkO q loose XP YP l.row.toRowW d [] (fun f vs => PySem.call f vs) :=
  Att.attach_callB most nodef fun w s₀ s₁ mg mb fa o pm cd doc a vs ns G Y ho hd hcd hmg sc si hl hbits hg =>
    let ⟨fd, cs, sp, hT, hb, hsp, hF⟩ := F w mg fa _ Y (inK w _ Y) G.T.g hmg
    law_callG (inK w _ Y) G.T.g G.T.b G.T.builtins G.T.nolimit hg (fun p hp => (hT p hp).1) (fun p hp => (hT p hp).2.1) (fun p hp => (hT p hp).2.2) G.T.bmain sc si (Nat.le_trans hl small) hr hF hb (fun H h1 h2 => hsp H a ns hl h1 h2) fun H e s' => noE w H s₁ e s'
end LamX

namespace DL
open PySem L2 StX
open PyProof.Rows (envOfC)
section
variable {K : PySem.W.Frag} [Tb K]
/-- repr of a list or a tuple of data without dicts -/
theorem repr_of {P : D → Prop} {d : D} {e : PyData} (hc : ∃ xs, d = .lst xs ∨ d = .tup xs) (h1 : pd d = some e) (h2 : e.showable = true) (h3 : e.hasDict = false) (h4 : e.depth ≤ 60) (h5 : e.shown.length ≤ sizeLine) (h : P (.str e.shown)) : Cb K (rRepr K) [d] P := fun u vs Q ex r k => by
  obtain ⟨v, rfl, r1⟩ := dens1 r
  have hd := den_dp ex r1 h1
  obtain ⟨xs, rfl | rfl⟩ := hc
  · obtain ⟨a, ws, rfl, q, r2⟩ := den_lst r1
    exact ⟨a, e, rfl, hd, h2, h3, h4, h5, k _ _ u (.refl ex) (.str _) h⟩
  · obtain ⟨a, ws, rfl, q, r2⟩ := den_tup r1
    exact ⟨a, e, rfl, hd, h2, h3, h4, h5, k _ _ u (.refl ex) (.str _) h⟩
end
section
variable {Pr : Program} {w : World} {K : PySem.W.Frag} [Tb K] {mg : Str → Option Value} {base : Heap} {R : Rl}
/-- a def that asks for repr, or calls one that does; its code object is cdv (for lambdas) -/
theorem dokG {x qual : Str} {st : Stmt} {f : Addr} {fd : FuncData} {N ps : List Str} {k : Nat} (F : Fun K x qual st f fd) (S : FnScope N ps (defScope st)) (len : ∀ ds n P X, R ds n P X → ds.length = ps.length) (hNp : ps.length ≤ N.length)
    (hbody : ∀ (cdv : Value) (A : Around) (outer : List Env) (s : Shared) (H : Hp) (E : XK), fd.code = cdv → (A.deeper (envOfC qual (defScope st) s.heap.objs.size f cdv)).guards = some [] → Room k (A.deeper (envOfC qual (defScope st) s.heap.objs.size f cdv)) →
      ∃ t, PSs (cxOf CX0 Pr w K mg base N qual (defScope st) f cdv A outer s H E).nox (defBody st) t ∧ ∀ Z ds n P, R ds n P Z.X → Ws K Z t (startD N.length ds) n { nx := fun _ m => P .non m, rt := P }) : FnG Pr w K mg base CX0 (k + 1) f fd ps (spD K R) := by
  refine F.okG S (fun vs H Q E ⟨u, ds, P, X, _, e, _, r, h, _⟩ => by rw [r.len]; exact len ds _ P X h) (fun cdv A outer s H vs Q E hcd hg hr ⟨u, ds, P, X, eh, e, st, r, h, q, xk⟩ => ?_)
  obtain ⟨t, ht, hW⟩ := hbody cdv A outer s H E hcd hg hr
  subst eh
  exact ⟨t, ht.nox, hW ⟨E, X⟩ ds u.n P h u u _ _ rfl (sd_start e xk st r (by rw [r.len, len ds _ P X h]; exact hNp)) ⟨fun ds' v σ' _ S' p => q _ _ _ S'.gr S'.st .non p, fun d v v' g s r p => q v d v' g s r p, fun _ _ _ _ _ z => z.elim, fun _ _ _ _ _ z => z.elim⟩⟩
end
end DL

/-! repr of a list of two pairs of a text and an empty dict. -/
namespace L2
open PySem PySem.Spec PyProof.Rows
/-- a pair of a text and an empty dict -/
abbrev pairE (x : Str) : PyData := .tuple [.str x, .dict []]
def Dq (K : PySem.W.Frag) (H : Hp) (x : Str) (v : V) : Prop := ∃ t d, v = .ref t ∧ SqT K H t [.str x, .ref d] ∧ Rd H d (.dK [])
section
variable {X : Cx} {pins : List (Addr × Obj)} {σ : St} {H : Hp} {s : Shared}
theorem Dq.reads {x : Str} {v : V} {u : Value} (I : Inv X pins σ H s) (h : Dq X.K H x v) (r : RelV v u) : ∃ as, Reads s.heap u (pairE x) as ∧ sysModules ∉ as := by
  obtain ⟨t, d, rfl, ht, hd⟩ := h
  cases r
  obtain ⟨its, rv, ⟨o, ho, hc, n, hdat⟩, _⟩ := I.tuple ht
  cases rv with
  | cons r1 rv =>
  cases rv with
  | cons r2 rv =>
  cases rv
  obtain ⟨tk, rfl⟩ := r1
  cases r2
  obtain ⟨_, hsm, vs, kv, hD⟩ := dk_rd I.hok hd
  obtain ⟨od, es, ep, h1, h2, h3, _, hp, _⟩ := hD
  have e1 : vs = [] := by
    cases vs with
    | nil => rfl
    | cons a b => cases kv
  subst e1
  have e2 : es.toList = [] := by
    generalize es.toList = l at hp
    cases l with
    | nil => rfl
    | cons a b => cases hp
  refine ⟨_, Reads.tuple ho hc hdat (.cons (.str _ _) (.cons (.dict (kvs := []) h1 h2.1 h3 (by rw [e2]; exact .nil) (by rw [e2]; exact .nil)) .nil)), ?_⟩
  have : ¬ sysModules = d := fun z => by rw [z] at hsm; simp at hsm
  simpa using this
end
section
variable {X : Cx}
/-- repr of a list of two such pairs -/
def rRepr2 (K : PySem.W.Frag) : List V → Hp → VK → Prop := fun xs H Q => ∃ a x v1 v2, xs = [.ref a] ∧ SqL K H a [v1, v2] ∧ Dq K H x v1 ∧ Dq K H x v2 ∧ (PyData.list [pairE x, pairE x]).shown.length ≤ sizeLine ∧ Q (.str (PyData.list [pairE x, pairE x]).shown) H
/-- repr of data, or of a list of two pairs with empty dicts -/
def rReprU (K : PySem.W.Frag) : List V → Hp → VK → Prop := fun xs H Q => rRepr K xs H Q ∨ rRepr2 K xs H Q
end
end L2
namespace DL
open PySem L2 StX
section
variable {K : PySem.W.Frag} [Tb K]
end
end DL

namespace L2
open PySem PySem.Spec PyProof.Rows
section
variable {X : Cx} {pins : List (Addr × Obj)} {σ : St} {H : Hp} {s : Shared}
theorem dqs_reads {x : Str} (I : Inv X pins σ H s) : ∀ {vs : List V} {us : List Value}, (∀ v ∈ vs, Dq X.K H x v) → Vals vs us → ∃ as, ReadsAll s.heap us (List.replicate vs.length (pairE x)) as ∧ sysModules ∉ as
  | _, _, _, .nil => ⟨[], .nil, by simp⟩
  | _, _, h, .cons r rs => by
    obtain ⟨as, k1, n1⟩ := (h _ (List.mem_cons_self ..)).reads I r
    obtain ⟨bs, k2, n2⟩ := dqs_reads I (fun v hv => h v (List.mem_cons_of_mem _ hv)) rs
    exact ⟨as ++ bs, .cons k1 k2, by simp [n1, n2]⟩
theorem show_pairs (x : Str) : ∀ n : Nat, PyData.showableAll (List.replicate n (pairE x)) = true
  | 0 => by simp [PyData.showableAll]
  | n + 1 => by
    rw [List.replicate_succ]
    simp only [PyData.showableAll, show_pairs x n, Bool.and_true]
    rfl
theorem depth_pairs (x : Str) : ∀ n : Nat, PyData.depthAll (List.replicate n (pairE x)) ≤ 10
  | 0 => by simp [PyData.depthAll]
  | n + 1 => by
    have := depth_pairs x n
    rw [List.replicate_succ]
    simp only [PyData.depthAll]
    have e : (pairE x).depth ≤ 10 := by simp [PyData.depth, PyData.depthAll, PyData.depthKv]
    omega
end
section
variable {X : Cx}
/-- repr of a list of such pairs -/
def rReprs (K : PySem.W.Frag) : List V → Hp → VK → Prop := fun xs H Q => ∃ a x vs, xs = [.ref a] ∧ vs ≠ [] ∧ SqL K H a vs ∧ (∀ v ∈ vs, Dq K H x v) ∧ (PyData.list (List.replicate vs.length (pairE x))).shown.length ≤ sizeLine ∧ Q (.str (PyData.list (List.replicate vs.length (pairE x))).shown) H
theorem call_reprs (hg : X.A.guards = some []) (hu : X.A.units + 64 < cLine) : CallR X (.builtin "repr") (rReprs X.K) := by
  intro pins s σ H xs us Q I r ⟨a, x, vs, e, hne, hs, dq, hz, q⟩
  subst e
  obtain ⟨u1, rfl, r1⟩ := vals1 r
  cases r1
  obtain ⟨its, rv, ⟨o, n, ho, hc, _, hd⟩, _⟩ := I.list hs
  obtain ⟨as, all, na⟩ := dqs_reads I dq rv
  have hz' : (listText (PyData.shownAll (List.replicate vs.length (pairE x)))).length ≤ sizeLine := by simpa only [PyData.shown] using hz
  obtain ⟨bs, hb, hk⟩ := ReprAllK.of_readsAll (prog := X.prog) (w := X.w) all (show_pairs x _) (fun _ => na) (fun t ht => Nat.le_trans (listText_mem_le ht) hz')
  have hna : a ∉ bs := not_mem_of_deeper (Reads.list ho hc hd all) (by simp only [PyData.depth]; omega) hb
  have dp := depth_pairs x vs.length
  have hle := hk.length_eq
  obtain ⟨y0, ys, rfl⟩ : ∃ y ys, its = y :: ys := by
    cases its with
    | nil => exact absurd (List.eq_nil_of_length_eq_zero rv.length) hne
    | cons y ys => exact ⟨y, ys, rfl⟩
  exact call_repr_slot (by omega) ⟨o, ho, hc⟩ F.slot_list_repr.toG (call_list_reprK ho hc hd hna (by simpa using hle) (fun i y e => hk.item i y (by simpa using e)) hg (fun b _ => Clear.nil b) (by show X.A.units + 1 + (PyData.depthAll (List.replicate vs.length (pairE x)) + 1) < cLine; omega) (fun _ _ e => e)
    (fun h' u tk hk2 => ⟨_, _, rfl, .str _, H, I.kept hk2, ⟨_, rfl⟩, by simpa only [PyData.shown] using q⟩) hz')
/-- repr of data, or of a list of pairs with empty dicts -/
def rReprV (K : PySem.W.Frag) : List V → Hp → VK → Prop := fun xs H Q => rRepr K xs H Q ∨ rReprs K xs H Q
theorem call_reprV (hg : X.A.guards = some []) (hu : X.A.units + 64 < cLine) : CallR X (.builtin "repr") (rReprV X.K) := fun pins s σ H xs us Q I r h => h.elim (call_repr hg hu pins s σ H xs us Q I r) (call_reprs hg hu pins s σ H xs us Q I r)
end
section
variable {X : Cx} {CX : CXT} {k nk : Nat} {f C : Addr} {fd : FuncData} {ps ks : List Str} {sp : Sp} {E : XK} {x : Str} {p pos : Pos} {kws : List Keyword} {tk : TA} {g : List Value → List Value → List Value} {gV : List V → List V → List V}
end
end L2
namespace DL
open PySem L2 StX
open PyProof.Rows (envOfC)
section
variable {K : PySem.W.Frag} [Tb K]
theorem reprV_of {P : D → Prop} {d : D} {e : PyData} (hc : ∃ xs, d = .lst xs ∨ d = .tup xs) (h1 : pd d = some e) (h2 : e.showable = true) (h3 : e.hasDict = false) (h4 : e.depth ≤ 60) (h5 : e.shown.length ≤ sizeLine) (h : P (.str e.shown)) : Cb K (rReprV K) [d] P := fun u vs Q ex r k => .inl (repr_of hc h1 h2 h3 h4 h5 h u vs Q ex r k)
end
section
variable {K : PySem.W.Frag} [Tb K] {Z : ZX} {ds : DS} {n : Nat} {P : D → Nat → Prop} {tk : TA} {C : Addr} {E : XK} {R : Ri}
end
section
variable {Pr : Program} {w : World} {K : PySem.W.Frag} [Tb K] {mg : Str → Option Value} {base : Heap} {C : Addr}
end
end DL

/-! Lists that are grown: read, stored into, measured. -/
namespace DL
open PySem L2 StX
section
variable {K : PySem.W.Frag} [Tb K] {Z : ZX} {b u u' u'' : Wd} {σ : L2.St} {ds : DS} {n : Nat} {P : D → Nat → Prop} {te ta tb tc ti : TE} {N : Nd}
theorem mls_at {i : Nat} {xs : List D} (S : Sd K Z b u σ ds) (hd : ds[i]? = some (some (.mls xs))) : ∃ a vs, σ[i]? = some (some (.ref a)) ∧ b.H1 a = none ∧ u.H0 a = none ∧ ¬ u.S a ∧ u.H1 a = some (.lst vs) ∧ Dens K u vs xs := by
  obtain ⟨v, hv, hS⟩ := S.sl i _ hd
  cases hS with
  | den h => cases h
  | mls b0 b1 b5 b2 b3 => exact ⟨_, _, hv, b0, b1, b5, b2, b3⟩
theorem Dens.set : ∀ {vs : List V} {xs : List D} {v : V} {d : D} (_ : Dens K u vs xs) (_ : Den K u v d) (j : Nat), Dens K u (vs.set j v) (xs.set j d)
  | _, _, _, _, .nil, _, _ => by simpa using Dens.nil
  | _, _, _, _, .cons _ t, r, 0 => by simpa using Dens.cons r t
  | _, _, _, _, .cons q t, r, j + 1 => by simpa using Dens.cons q (Dens.set t r j)
/-- xs[k] of a list that is grown -/
theorem we_ixM {i : Nat} {xs : List D} (hd : ds[i]? = some (some (.mls xs))) (h : We K Z ti ds n fun y m => ∃ (k : Int) (j : Nat) (d : D), y = .int k ∧ ixN xs.length k = some j ∧ xs[j]? = some d ∧ P d m) : We K Z (tOp (rIx K) (tVar i) ti) ds n P := fun b u σ Q e S kk => by
  obtain ⟨a, vs, hv, b0, b1, b5, b2, b3⟩ := mls_at S hd
  refine ⟨.ref a, hv, ?_⟩
  refine h b u σ _ e S fun y d u1 g1 s1 r ⟨k, j, d', hy, hix, hat, p⟩ => ?_
  subst hy
  cases den_int r
  have S' := S.go g1 s1
  obtain ⟨a', ws, hv', c0, c1, c5, c2, c3⟩ := mls_at S' hd
  rw [hv] at hv'
  cases hv'
  obtain ⟨w, hw, rw'⟩ := c3.getD hat
  exact .inl ⟨a, ws, k, w, rfl, rfl, SqL.of c2, by unfold atI; rw [c3.len, hix]; exact hw, kk _ _ u1 g1 s1 rw' p⟩
/-- xs[k] = e into a list that is grown -/
theorem ws_setM {i : Nat} {xs : List D} (hd : ds[i]? = some (some (.mls xs))) (h : We K Z te ds n fun d m => We K Z ti ds m fun y l => ∃ (k : Int) (j : Nat), y = .int k ∧ ixN xs.length k = some j ∧ N.nx (ds.set i (some (.mls (xs.set j d)))) l) : Ws K Z (tAsg te (gSub (tVar i) ti rSetL)) ds n N := fun b u σ De e S O => by
  refine h b u σ _ e S fun w d u1 g1 s1 r q => ?_
  have S1 := S.go g1 s1
  obtain ⟨a, vs, hv, b0, b1, b5, b2, b3⟩ := mls_at S1 hd
  refine ⟨.ref a, hv, ?_⟩
  refine q b u1 σ _ rfl S1 fun y d2 u2 g2 s2 r2 ⟨k, j, hy, hix, p⟩ => ?_
  subst hy
  cases den_int r2
  have S2 := S1.go g2 s2
  obtain ⟨a', ws, hv', c0, c1, c5, c2, c3⟩ := mls_at S2 hd
  rw [hv] at hv'
  cases hv'
  have l1 : Le u2 ⟨u2.S, u2.T, u2.n, u2.H0, upd u2.H1 a (.lst (ws.set j w))⟩ := ⟨fun _ h => h, fun _ _ => rfl, .refl _⟩
  have g12 := g1.trans g2
  exact ⟨a, ws, k, j, rfl, rfl, c2, by rw [c3.len]; exact hix, O.nx _ ⟨u2.S, u2.T, u2.n, u2.H0, _⟩ _ ⟨g12.sub, g12.kd, g12.a⟩ (S2.change hd rfl hv rfl c0 c1 c5 (fun _ z => by rw [c2] at z; cases z) (.mls c0 c1 c5 upd_same ((c3.set (r.mono g2.ls) j).mono l1))) p⟩
/-- len(xs) of a list that is grown -/
theorem we_lenM {i : Nat} {xs : List D} (hd : ds[i]? = some (some (.mls xs))) (h : P (.int (xs.length : Nat)) n) : We K Z (tCB (rLen' K) (tCons (tVar i) tNil)) ds n P := fun b u σ Q e S kk => by
  obtain ⟨a, vs, hv, b0, b1, b5, b2, b3⟩ := mls_at S hd
  refine ⟨.ref a, hv, ?_⟩
  subst e
  exact ⟨_, vs.length, rfl, .inl ⟨vs, SqL.of b2, rfl⟩, by rw [b3.len]; exact kk _ _ u (.refl S.ex) S.st (.int _) h⟩
end
end DL

/-! Exceptions made as values; dict displays; repr of lists with one thing many times. -/
namespace L2
open PySem PySem.Spec PyProof.Rows
/-- the making of an exception, its object kept -/
def tMkE (t : St → Hp → XK → Prop) : TE := fun σ H Q => t σ H fun cls d H' => ∀ a, H' a = none → Q (.ref a) (upd H' a (xo a cls d))
section
variable {X : Cx}
end
/-- X(e) of an own exception class that stores its argument; X() of one that stores nothing -/
def tXv (C : Addr) (sp : Sp) (ta : TA) : TE := tMkE fun σ H E => tMkO C sp [] ta σ H E
def tXv0 (C : Addr) : TE := tMkE fun σ H E => E (.ref C) none H
/-! repr -/
/-- a dict with one text as its key and a number -/
def Dd (K : PySem.W.Frag) (H : Hp) (x : Str) (i : Int) (v : V) : Prop := ∃ d, v = .ref d ∧ Rd H d (.dK [(.inr x, .int i)])
section
variable {X : Cx} {pins : List (Addr × Obj)} {σ : St} {H : Hp} {s : Shared}
theorem Dd.reads {x : Str} {i : Int} {v : V} {u : Value} (I : Inv X pins σ H s) (h : Dd X.K H x i v) (r : RelV v u) : ∃ as, Reads s.heap u (.dict [(.str x, .int i)]) as ∧ sysModules ∉ as := by
  obtain ⟨d, rfl, hd⟩ := h
  cases r
  obtain ⟨_, hsm, vs, kv, hD⟩ := dk_rd I.hok hd
  obtain ⟨od, es, ep, h1, h2, h3, _, hp, _⟩ := hD
  obtain ⟨k, w, rfl, hk, hw⟩ : ∃ (k : Key) (w : Value), vs = [(k, w)] ∧ (.inr x : Key) = k ∧ RelV (.int i) w := by
    cases kv with
    | cons r0 kv2 =>
      cases kv2
      exact ⟨_, _, rfl, r0.1, r0.2⟩
  obtain ⟨tk, rfl⟩ := hw
  subst hk
  generalize hes : es.toList = l at hp
  cases hp with
  | cons he hv hp =>
  cases hp
  rename_i e
  have he' : keyIs (.inr x) e.key = true := he
  rcases keyIs_shape he' with ⟨j, t, hj, z⟩ | ⟨y, t, hy, z⟩
  · cases hj
  · cases hy
    refine ⟨_, Reads.dict (kvs := [(.str x, .int i)]) h1 h2.1 h3 (by rw [hes]; simp only [List.map_cons, List.map_nil]; rw [z]; exact .cons (.str _ _) .nil) (by rw [hes]; simp only [List.map_cons, List.map_nil]; rw [hv]; exact .cons (.int _ _) .nil), ?_⟩
    have : ¬ sysModules = d := fun z => by rw [z] at hsm; simp at hsm
    simpa using this
end
theorem dds_reads {X : Cx} {pins : List (Addr × Obj)} {σ : St} {H : Hp} {s : Shared} {x : Str} {i : Int} (I : Inv X pins σ H s) : ∀ {vs : List V} {us : List Value}, (∀ v ∈ vs, Dd X.K H x i v) → Vals vs us → ∃ as, ReadsAll s.heap us (List.replicate vs.length (.dict [(.str x, .int i)])) as ∧ sysModules ∉ as
  | _, _, _, .nil => ⟨[], .nil, by simp⟩
  | _, _, h, .cons r rs => by
    obtain ⟨as, k1, n1⟩ := (h _ (List.mem_cons_self ..)).reads I r
    obtain ⟨bs, k2, n2⟩ := dds_reads I (fun v hv => h v (List.mem_cons_of_mem _ hv)) rs
    exact ⟨as ++ bs, .cons k1 k2, by simp [n1, n2]⟩
theorem show_reps {e : PyData} (h : e.showable = true) : ∀ n : Nat, PyData.showableAll (List.replicate n e) = true
  | 0 => by simp [PyData.showableAll]
  | n + 1 => by
    rw [List.replicate_succ]
    simp only [PyData.showableAll, show_reps h n, h, Bool.and_true]
theorem depth_reps {e : PyData} (h : e.depth ≤ 10) : ∀ n : Nat, PyData.depthAll (List.replicate n e) ≤ 10
  | 0 => by simp [PyData.depthAll]
  | n + 1 => by
    have := depth_reps h n
    rw [List.replicate_succ]
    simp only [PyData.depthAll]
    omega
section
variable {X : Cx}
/-- repr of a list of such dicts -/
def rReprDs (K : PySem.W.Frag) : List V → Hp → VK → Prop := fun xs H Q => ∃ a x i vs, xs = [.ref a] ∧ vs ≠ [] ∧ SqL K H a vs ∧ (∀ v ∈ vs, Dd K H x i v) ∧ (PyData.dict [(.str x, .int i)]).showable = true ∧ (PyData.list (List.replicate vs.length (.dict [(.str x, .int i)]))).shown.length ≤ sizeLine ∧ Q (.str (PyData.list (List.replicate vs.length (.dict [(.str x, .int i)]))).shown) H
theorem call_reprDs (hg : X.A.guards = some []) (hu : X.A.units + 64 < cLine) : CallR X (.builtin "repr") (rReprDs X.K) := by
  intro pins s σ H xs us Q I r ⟨a, x, i, vs, e, hne, hs, dq, hsh, hz, q⟩
  subst e
  obtain ⟨u1, rfl, r1⟩ := vals1 r
  cases r1
  obtain ⟨its, rv, ⟨o, n, ho, hc, _, hd⟩, _⟩ := I.list hs
  obtain ⟨as, all, na⟩ := dds_reads I dq rv
  have hz' : (listText (PyData.shownAll (List.replicate vs.length (.dict [(.str x, .int i)])))).length ≤ sizeLine := by simpa only [PyData.shown] using hz
  obtain ⟨bs, hb, hk⟩ := ReprAllK.of_readsAll (prog := X.prog) (w := X.w) all (show_reps hsh _) (fun _ => na) (fun t ht => Nat.le_trans (listText_mem_le ht) hz')
  have hna : a ∉ bs := not_mem_of_deeper (Reads.list ho hc hd all) (by simp only [PyData.depth]; omega) hb
  have dp := depth_reps (e := .dict [(.str x, .int i)]) (by simp [PyData.depth, PyData.depthKv]) vs.length
  have hle := hk.length_eq
  obtain ⟨y0, ys, rfl⟩ : ∃ y ys, its = y :: ys := by
    cases its with
    | nil => exact absurd (List.eq_nil_of_length_eq_zero rv.length) hne
    | cons y ys => exact ⟨y, ys, rfl⟩
  exact call_repr_slot (by omega) ⟨o, ho, hc⟩ F.slot_list_repr.toG (call_list_reprK ho hc hd hna (by simpa using hle) (fun i y e => hk.item i y (by simpa using e)) hg (fun b _ => Clear.nil b) (by show X.A.units + 1 + (PyData.depthAll (List.replicate vs.length (.dict [(.str x, .int i)])) + 1) < cLine; omega) (fun _ _ e => e)
    (fun h' u tk hk2 => ⟨_, _, rfl, .str _, H, I.kept hk2, ⟨_, rfl⟩, by simpa only [PyData.shown] using q⟩) hz')
def rReprW (K : PySem.W.Frag) : List V → Hp → VK → Prop := fun xs H Q => rReprV K xs H Q ∨ rReprDs K xs H Q
theorem call_reprW (hg : X.A.guards = some []) (hu : X.A.units + 64 < cLine) : CallR X (.builtin "repr") (rReprW X.K) := fun pins s σ H xs us Q I r h => h.elim (call_reprV hg hu pins s σ H xs us Q I r) (call_reprDs hg hu pins s σ H xs us Q I r)
end
end L2
namespace DL
open PySem L2 StX
section
variable {K : PySem.W.Frag} [Tb K]
theorem pds_reps {d : D} {e : PyData} (h : pd d = some e) : ∀ k : Nat, pds (List.replicate k d) = some (List.replicate k e)
  | 0 => rfl
  | k + 1 => by rw [List.replicate_succ, List.replicate_succ]; simp only [pds, h, pds_reps h k]; rfl
theorem dict_reps {e : PyData} (h : e.hasDict = false) : ∀ k : Nat, PyData.hasDictAll (List.replicate k e) = false
  | 0 => rfl
  | k + 1 => by rw [List.replicate_succ]; simp only [PyData.hasDictAll, h, dict_reps h k]; rfl
theorem depth_repn {e : PyData} {n : Nat} (h : e.depth ≤ n) : ∀ k : Nat, PyData.depthAll (List.replicate k e) ≤ n
  | 0 => by simp [PyData.depthAll]
  | k + 1 => by have := depth_repn h k; rw [List.replicate_succ]; simp only [PyData.depthAll]; omega
theorem shown_reps {e : PyData} : ∀ k : Nat, ((PyData.shownAll (List.replicate k e)).map (·.length)).sum = k * e.shown.length ∧ (PyData.shownAll (List.replicate k e)).length = k
  | 0 => by simp [PyData.shownAll]
  | k + 1 => by
    obtain ⟨h1, h2⟩ := shown_reps (e := e) k
    rw [List.replicate_succ]
    simp only [PyData.shownAll, List.map_cons, List.sum_cons, h1, List.length_cons, h2, and_true, Nat.add_mul]
    omega
/-- repr of a list with one thing many times -/
theorem repr_reps {k : Nat} {d : D} {e : PyData} (hk : k ≤ 1000) (h1 : pd d = some e) (h2 : e.showable = true) (h3 : e.hasDict = false) (h4 : e.depth ≤ 50) (h5 : e.shown.length ≤ 1000) : ∃ s : Str, ∀ P : D → Prop, P (.str s) → Cb K (rReprW K) [.lst (List.replicate k d)] P := by
  refine ⟨_, fun P hp => fun u vs Q ex r kk => .inl (reprV_of (e := .list (List.replicate k e)) ⟨_, .inl rfl⟩ (by simp [pd, pds_reps h1 k]) (by simp only [PyData.showable]; exact show_reps h2 k) (by simp only [PyData.hasDict]; exact dict_reps h3 k) (by have := depth_repn h4 k; simp only [PyData.depth]; omega) ?_ hp u vs Q ex r kk)⟩
  simp only [PyData.shown]
  have h := listText_len_le (PyData.shownAll (List.replicate k e))
  obtain ⟨a, b⟩ := shown_reps (e := e) k
  rw [a, b] at h
  have h6 : k * e.shown.length ≤ 1000 * 1000 := Nat.mul_le_mul hk h5
  rw [sizeLine_eq]
  omega
end
section
variable {K : PySem.W.Frag} [Tb K] {Z : ZX} {b u u' u'' : Wd} {σ : L2.St} {ds : DS} {n : Nat} {P : D → Nat → Prop} {t : TA} {C : Addr} {f : Str}
end
end DL

/-! set(text), and how many signs it has. -/
namespace SS2
open PySem PySem.Spec PyProof.Rows SS
def signsOf (x : Str) : List Str := x.cps.toList.map fun c => ⟨#[c]⟩
section
variable {prog : Program} {w : World} {A : Around} {R : Result → Shared → Prop} {I : Addr} {fp wr : List Addr} {G : Array GenState → Array GenState → Prop} {n : Nat} {P : Nat → Value → Prop} {St : Nat → Shared → Prop}
end

section
variable {prog : Program} {w : World} {A : Around} {E : Value → Shared → Prop} {s : Shared}
set_option maxHeartbeats 3200000 in
end
end SS2
namespace L2
open PySem PySem.Spec PyProof.Rows
/-- len(set(x)), x a text without a sign twice -/
def tLenSetS (ta : TE) : TE := fun σ H Q => ta σ H fun x H1 => ∃ z : Str, x = .str z ∧ (SS2.signsOf z).Nodup ∧ z.cps.size ≤ 4000 ∧ Q (.int (z.cps.size : Nat)) H1
end L2

/-! Dict comprehensions, class attributes, masks, signs in texts, all(..). -/
namespace L2
open PySem PySem.Spec PyProof.Rows
section
variable {J : It} {n : Nat} {G : Hp → Prop} {Y : Nat → V → Hp → Hp → Prop}
/-- i & (2 ^ k - 1) -/
def rAndM : R2 := fun x y H Q => ∃ (i : Int) (k : Nat), x = .int i ∧ y = .int (2 ^ k - 1) ∧ Q (.int (i % 2 ^ k)) H
end
end L2
namespace DL
open PySem L2 StX
section
variable {K : PySem.W.Frag} [Tb K] {Z : ZX} {b u u' u'' : Wd} {σ : L2.St} {ds : DS} {n : Nat} {P : D → Nat → Prop} {te ta tb tk tv : TE} {tt : TT} {g : TG} {N : Nd}
/-- the key that a thing is -/
def keyD : D → Key → Prop
  | .int i, k => k = .inl i
  | .str x, k => k = .inr x
  | _, _ => False
end
end DL

/-! sorted(..) of numbers. -/
namespace DL
open PySem L2 StX
section
variable {K : PySem.W.Frag} [Tb K]
end
end DL

/-! enumerate(text). -/
namespace L2
open PySem PySem.Spec PyProof.Rows
/-- a text, sign by sign, each in a new pair -/
def Ites (x : Str) : It := ⟨fun i _ => i < x.cps.size, fun i H v H' => ∃ T c, v = .ref T ∧ H T = none ∧ H' = upd H T (.tup [.int (i : Nat), .str ⟨#[c]⟩]) ∧ x.cps[i]? = some c, fun i _ => x.cps.size ≤ i⟩
def iEnumS (ta : TA) : TI := fun σ H R => ta σ H fun vs H1 => ∃ x, vs = [.str x] ∧ R (Ites x) H1
end L2
namespace DL
open PySem L2 StX
section
variable {K : PySem.W.Frag} [Tb K] {Z : ZX} {ds : DS} {n : Nat} {Pl : List D → Nat → Prop}
end
end DL

/-! Own [ ], in and len of instances. -/
namespace L2
open PySem PySem.Spec PyProof.Rows LamX
/-- o[e], o an instance of C, whose __getitem__ keeps sp -/
def rIxO (C : Addr) (sp : Sp) : R2 := fun x y H Q => ∃ (a dx : Addr) (fs : List (Str × V)), x = .ref a ∧ H a = some (.ins C dx fs) ∧ sp [x, y] H Q E0
/-- e in o -/
def rInO (C : Addr) (sp : Sp) : R2 := fun y x H Q => ∃ (a dx : Addr) (fs : List (Str × V)), x = .ref a ∧ H a = some (.ins C dx fs) ∧ sp [x, y] H (fun z H' => ∃ b, z = .bl b ∧ Q (.bl b) H') E0
def rNotInO (C : Addr) (sp : Sp) : R2 := fun y x H Q => ∃ (a dx : Addr) (fs : List (Str × V)), x = .ref a ∧ H a = some (.ins C dx fs) ∧ sp [x, y] H (fun z H' => ∃ b, z = .bl b ∧ Q (.bl (!b)) H') E0
section
variable {X : Cx} {CX : CXT} {k : Nat} {C f : Addr} {fd : FuncData} {ps : List Str} {sp : Sp} {a b : Expr} {ta tb : TE} {pos : Pos}
/-- len(o) -/
def rLenO (C : Addr) (sp : Sp) : List V → Hp → VK → Prop := fun xs H Q => ∃ (a dx : Addr) (fs : List (Str × V)), xs = [.ref a] ∧ H a = some (.ins C dx fs) ∧ sp [.ref a] H (fun z H' => ∃ n : Int, z = .int n ∧ 0 ≤ n ∧ n < 2 ^ 62 ∧ Q (.int n) H') E0
end
end L2
namespace DL
open PySem L2 StX
section
variable {K : PySem.W.Frag} [Tb K] {C : Addr} {R : Rl} {P : D → Prop}
end
section
variable {K : PySem.W.Frag} [Tb K] {Z : ZX} {C : Addr} {R : Rl} {ds : DS} {n : Nat} {P : D → Nat → Prop} {te : TE}
end
end DL

/-! A stream that is a list of numbers: stores at any place, one made by a display. -/
namespace DL
open PySem L2 StX
section
variable {K : PySem.W.Frag} [Tb K] {Z : ZX} {b u u' u'' : Wd} {σ : L2.St} {ds : DS} {n : Nat} {P : D → Nat → Prop} {te tp ta tb tc : TE} {N : Nd} {len : Nat}
end
end DL

/-! A key def's call over the heap: it keeps all. -/
namespace L2
open PySem PySem.Spec PyProof.Rows
section
variable {P : Program} {w : World} {A : Around} {s : Shared} {E : Value → Shared → Prop} {fd : FuncData} {f t : Addr} {o : Obj} {x : Str} {p1 p2 p3 p4 p5 p6 p7 p8 : Pos} {kk : Nat} {items : Array Value} {i j a b : Int} {u u' : Tok}
/-- x[i] of a tuple that the name x is -/
theorem ev_sub {env : Env} {s1 : Shared} {k1 k2 : Pos} {k3 : Pos} {i : Int} {c : Value} {Q : Value → Shared → Prop} (hx : ∀ {s'} {Q' : Value → Shared → Prop}, s'.heap = s1.heap → Q' (.ref t) s' → wpAny (model P w) A (eval (.Name x k1) env) Q' E s')
    (ht : IsTup s1.heap t items) (h0 : 0 ≤ i) (h1 : i < 2 ^ 63) (hn : items[i.toNat]? = some c) (h : Q c { s1 with toks := s1.toks + 1 }) : wpAny (model P w) A (eval (.Subscript (.Name x k1) (.Constant (.int i) 0 k2) k3) env) Q E s1 := by
  refine Subscript_ (hx rfl (wpAny_Constant_int ?_))
  refine item_tuple (s := { s1 with toks := s1.toks + 1 }) ht (by omega) h1 (j := i.toNat) ?_ hn h
  have hl : i.toNat < items.size := (Array.getElem?_eq_some_iff.mp hn).1
  exact seqIndex_of h0 (by omega)
/-- the call of a def that returns two whole numbers of the tuple that it is given: nothing that stood is changed -/
theorem pure_two (hroom : A.depth < recursionLimit) (ho : s.heap.get? f = some o) (hdata : o.data = .func fd) (hlim : s.heap.NoLimit) (hcd : s.heap.CodeRec fd.code fd.qualname)
    (hbody : fd.body = .stmts [.Return (some (.Tuple [.Subscript (.Name x p1) (.Constant (.int i) 0 p2) p3, .Subscript (.Name x p4) (.Constant (.int j) 0 p5) p6] kk p7)) p8])
    (hbind : bindArgs fd ⟨[.ref t], []⟩ = pure [(x, .ref t)]) (hnames : fd.scope.names = [(x, .local)]) (hco : fd.scope.isCoroutine = false) (hgen : fd.scope.isGenerator = false) (hk : fd.scope.kind = .function) (hd : (x == ("__debug__" : Str)) = false)
    (ht : IsTup s.heap t items) (hi0 : 0 ≤ i) (hi1 : i < 2 ^ 63) (hj0 : 0 ≤ j) (hj1 : j < 2 ^ 63) (hi : items[i.toNat]? = some (.int a u)) (hj : items[j.toNat]? = some (.int b u')) :
    wpAny (model P w) A (call (.ref f) [.ref t]) (PySem.W.KeyPure (.tuple [.int a, .int b]) s) E s := by
  have hlk : fd.scope.names.lookup x = some .local := by rw [hnames]; simp [List.lookup]
  refine wpAny_call (codeAny_call_straight hroom ho hdata hlim hcd hbody hbind (fun y hy => ?_) (fun y hy => ?_) (fun s1 ic => ?_) hco hgen hk)
  · rw [hnames] at hy
    rw [List.mem_singleton.mp hy]
    simp
  · rw [List.mem_singleton.mp hy]
    exact hlk
  · obtain ⟨h0, tk, rfl⟩ := ic.same
    have ht1 : IsTup h0 t items := by
      obtain ⟨oo, e1, e2⟩ := ht
      exact ⟨oo, ic.keep _ _ e1, e2⟩
    have nm : ∀ {k1 : Pos} {s' : Shared} {Q' : Value → Shared → Prop}, s'.heap = h0 → Q' (.ref t) s' → wpAny (model P w) (A.deeper (callEnv fd s.heap.objs.size f)) (eval (.Name x k1) (callEnv fd s.heap.objs.size f)) Q' (fun e s' => wpAny (model P w) (A.deeper (callEnv fd s.heap.objs.size f)) (leaving (callEnv fd s.heap.objs.size f) e) (fun _ s'' => E e s'') (fun e' s'' => E e' s'') s') s' := by
      intro k1 s' Q' e q
      refine ldc (fd := fd) hk hlk (m := fun y => [(x, Value.ref t)].reverse.lookup y) (by rw [e]; exact ic.ns) (by simp [List.lookup]) q hd
    refine wpAny_execs_cons (wpAny_Return_some (Tuple_ (spliced_more (ev_sub (s1 := { s with heap := h0, toks := tk }) nm ht1 hi0 hi1 hi ?_))))
    refine spliced_more (ev_sub (s1 := { s with heap := h0, toks := tk + 1 }) nm ht1 hj0 hj1 hj ?_)
    refine spliced_none ?_
    refine wpAny_newTuple ?_ (by show 2 ≤ sizeLine; decide)
    refine ⟨_, _, rfl, fun c oc e => Heap.get?_push_of_some _ (ic.keep _ _ e), .tuple (Heap.get?_push_size _ rfl) rfl rfl (.cons (.int _ _) (.cons (.int _ _) .nil))⟩
end
/-- a before b: by the first number, then by the second -/
abbrev ordP {α : Type} (x y : α × (Int × Int)) : Bool := decide (x.2.1 < y.2.1 ∨ (x.2.1 = y.2.1 ∧ x.2.2 ≤ y.2.2))
/-- f is a def that returns the items i and j of its tuple -/
structure KeyFn (K : PySem.W.Frag) (f : Addr) (i j : Nat) : Prop where
  ex : ∃ (oc : Value) (od : Option Addr) (fd : FuncData) (osl : Array (Option Value)) (x : Str) (p1 p2 p3 p4 p5 p6 p7 p8 : Pos) (kk : Nat), K.lookup f = some ⟨oc, od, .func fd, osl⟩ ∧ PySem.W.codeIn K fd.code fd.qualname = true ∧
    fd.body = .stmts [.Return (some (.Tuple [.Subscript (.Name x p1) (.Constant (.int (i : Nat)) 0 p2) p3, .Subscript (.Name x p4) (.Constant (.int (j : Nat)) 0 p5) p6] kk p7)) p8] ∧ (∀ t, bindArgs fd ⟨[.ref t], []⟩ = pure [(x, .ref t)]) ∧
    fd.scope.names = [(x, .local)] ∧ fd.scope.isCoroutine = false ∧ fd.scope.isGenerator = false ∧ fd.scope.kind = .function ∧ (x == ("__debug__" : Str)) = false ∧ i < 1000 ∧ j < 1000
/-- sorted(xs, key=f) -/
def rSortedK (K : PySem.W.Frag) (f : Addr) (i j : Nat) : List V → List V → Hp → VK → Prop := fun vs zs H Q => ∃ (a : Addr) (bs : List (V × (Int × Int))), vs = [.ref a] ∧ zs = [.ref f] ∧ SqL K H a (bs.map (·.1)) ∧
  (∀ b ∈ bs, ∃ t ys, b.1 = .ref t ∧ SqT K H t ys ∧ ys[i]? = some (.int b.2.1) ∧ ys[j]? = some (.int b.2.2)) ∧ ∀ p, H p = none → Q (.ref p) (upd H p (.lst ((bs.mergeSort ordP).map (·.1))))
theorem each_vals (l : List (V × (Int × Int))) : ∀ {bs : List (V × (Int × Int))} {us : List Value}, Vals (bs.map (·.1)) us → (∀ b ∈ bs, b ∈ l) → PySem.W.EachIs (fun v b => RelV b.1 v ∧ b ∈ l) us bs
  | [], _, .nil, _ => .nil
  | b :: bs, _, .cons r rs, h => .cons ⟨r, h _ (List.mem_cons_self ..)⟩ (each_vals l rs fun x hx => h x (List.mem_cons_of_mem _ hx))
theorem vals_each {l : List (V × (Int × Int))} : ∀ {us : List Value} {bs : List (V × (Int × Int))}, PySem.W.EachIs (fun v b => RelV b.1 v ∧ b ∈ l) us bs → Vals (bs.map (·.1)) us
  | _, _, .nil => .nil
  | _, _, .cons r rs => .cons r.1 (vals_each rs)
theorem cr_sortedK {X : Cx} {f : Addr} {i j : Nat} (hr : Room 3 X.A) (KF : KeyFn X.K f i j) : CallRK X (.builtin "sorted") [Str.ofString "key"] (rSortedK X.K f i j) := by
  intro pins s σ H xs zs us ws Q I r rz h
  obtain ⟨a, vs, rfl, rfl, hs, hk, q⟩ := h
  obtain ⟨its, rv, hl, hz⟩ := I.list hs
  rw [Vals.ref1 r, Vals.ref1 rz]
  obtain ⟨oc, od, fd, osl, x, p1, p2, p3, p4, p5, p6, p7, p8, kk, lk, hcd, hb, hbind, hn, hco, hgen, hkd, hdb, hi, hj⟩ := KF.ex
  have e := each_vals vs rv fun x hx => hx
  have lim : s.heap.NoLimit := I.env0.mod.nolimit.keeps fun b o e => (I.env0.bs b o e).1
  have hlk := I.kIn _ _ lk
  have hcr := PySem.W.codeRec_of I.kIn hcd
  have r2 := hr.in1.in1
  have hz2 : vs.length ≤ sizeLine := by rw [List.length_map] at hz; exact hz
  show wpAny _ _ (call (.builtin "sorted") [.ref a] [(Str.ofString "key", .ref f)]) _ _ _
  refine PySem.W.sorted_key_data (b := false) (fun x : V × (Int × Int) => .tuple [.int x.2.1, .int x.2.2]) hl.isList e (PySem.W.AllAlike.of fun _ _ => by simp [PySem.W.alike, PySem.W.alikeAll]) (PySem.W.Sortable.tuples fun _ => ⟨_, _, rfl⟩) hz2 (fun y _ => ?_) (PyProof.Rows.ksk_s1 _ _) (fun _ => PyProof.Rows.ksk_l1 _ _) (fun _ => PyProof.Rows.ksk_t1 _ _)
    (fun v y hv hy h tk kp => ?_) fun out c h' tk kp _ hD hlen eo => ?_
  · have hd : (PyData.tuple [.int y.2.1, .int y.2.2]).depth = 1 := by simp [PyData.depth, PyData.depthAll]
    have := hr.un
    omega
  · obtain ⟨rel, mem⟩ := hv
    obtain ⟨t, ys, ey, ht, h1, h2⟩ := hk y mem
    rw [ey] at rel
    obtain rfl : v = Value.ref t := rel
    obtain ⟨its2, rv2, ⟨o2, e1, e2, e3⟩, _⟩ := I.tuple ht
    obtain ⟨u1, g1, w1⟩ := rv2.get h1
    obtain ⟨u2, g2, w2⟩ := rv2.get h2
    obtain ⟨k1, rfl⟩ := w1
    obtain ⟨k2, rfl⟩ := w2
    exact pure_two (s := { s with heap := h, toks := tk }) r2.depth (kp _ _ hlk) rfl (lim.keeps kp) (PySem.W.codeRec_of (I.kIn.keeps kp) hcd) hb (hbind t) hn hco hgen hkd hdb (items := its2.toArray) ⟨o2, kp _ _ e1, e2, e3⟩ (by omega) (by omega) (by omega) (by omega) (by simpa using g1) (by simpa using g2)
  · rw [PySem.W.dataLe_ii (fun x : V × (Int × Int) => x.2.1) (fun x => x.2.2)] at eo
    have hlen2 : ((vs.mergeSort ordP).map (·.1)).length ≤ sizeLine := by rw [List.length_map, List.length_mergeSort]; exact hz2
    exact ⟨.ref (s.heap.objs.size + 1), upd H (s.heap.objs.size + 1) (.lst ((vs.mergeSort ordP).map (·.1))), I.laid (t' := tk) kp (Nat.le_succ _) ⟨hlen2, out, c, vals_each eo, hD⟩, rfl, q _ (I.hok.fresh (Nat.le_succ _))⟩
end L2

/-! sorted(tuple, key=def). -/
namespace L2
open PySem PySem.Spec PyProof.Rows
section
variable {prog : Program} {w : World} {A : Around} {E : Value → Shared → Prop} {s : Shared}
theorem collect_tup {l : Addr} {vs : List Value} {Q : List Value → Shared → Prop} (hl : IsTup s.heap l vs.toArray)
    (h : Q vs { s with heap := (s.heap.push (seqObj "list" #[] 0)).update s.heap.objs.size (Obj.mapSeq (· ++ vs.toArray)) }) (hsz : vs.length ≤ sizeLine) : wpAny (model prog w) A (collect (.ref l)) Q E s := by
  obtain ⟨o, ho, hc, n, hd⟩ := hl
  have ho' : (s.heap.push (seqObj "list" #[] 0)).get? l = some o := Heap.get?_push_of_some _ ho
  unfold collect
  refine wpAny_bind (wpAny_runValue (codeAny_builtin entry_proto_collect' ?_))
  show wpAny _ _ (do again (.builtin "list.__iadd__" ⟨[← newList [], .ref l], []⟩)) _ _ s
  refine wpAny_bind (wpAny_newList (wpAny_pure ⟨Code.quiet_builtin _ (by decide +kernel), codeAny_builtin entry_list_iadd' ?_⟩))
  show wpAny _ _ (Builtin.List.listExtendWith (.ref s.heap.objs.size) (.ref l) (.ref s.heap.objs.size)) _ _ { s with heap := s.heap.push (seqObj "list" #[] 0) }
  unfold Builtin.List.listExtendWith
  refine wpAny_bind (wpAny_typeOf (T := "tuple") ⟨o, ho', hc⟩ ?_)
  rw [if_pos (by rw [show (Value.type "tuple" == Value.type "tuple") = true by rfl]; simp)]
  refine wpAny_bind (listItems_at ho' hd ?_)
  refine wpAny_bind (listItems_at (xs := #[]) (n := 0) (Heap.get?_push_size _ rfl) rfl ?_)
  rw [if_neg (by simp)]
  refine wpAny_bind (listUpdate_at (xs := #[]) (n := 0) (Heap.get?_push_size _ rfl) rfl ?_ (Nat.zero_le _) (by show (#[] ++ vs.toArray).size ≤ sizeLine + 1; simp only [Array.size_append, List.size_toArray, List.length_nil]; omega))
  refine wpAny_pure ?_
  refine wpAny_bind (wpAny_load (get?_update_seq (Heap.get?_push_size _ rfl) _) ?_)
  have e : ((#[] : Array Value) ++ vs.toArray).toList = vs := by simp
  show wpAny _ _ (pure ((#[] : Array Value) ++ vs.toArray).toList) Q E _
  rw [e]
  exact wpAny_pure h
/-- sorted(xs, key=f), xs a tuple -/
theorem sorted_tup {β : Type} {vs : List Value} {bs : List β} {R : Value → β → Prop} {l f : Addr} {Q : Value → Shared → Prop} (k : β → PyData) (hl : IsTup s.heap l vs.toArray) (e : PySem.W.EachIs R vs bs) (hal : PySem.W.AllAlike (bs.map k)) (hk : PySem.W.Sortable (bs.map k)) (hL : bs.length ≤ sizeLine)
    (hu : ∀ x, x ∈ bs → A.units + 2 + (k x).depth < cLine)
    (turn : ∀ (v : Value) (x : β), R v x → x ∈ bs → ∀ (h : Heap) (tk : Nat), (∀ b o, s.heap.get? b = some o → h.get? b = some o) →
      wpAny (model prog w) A.in1.in1 (call (.ref f) [v]) (PySem.W.KeyPure (k x) { s with heap := h, toks := tk }) (fun _ _ => False) { s with heap := h, toks := tk })
    (h : ∀ out c h' tk, (∀ b o, s.heap.get? b = some o → h'.get? b = some o) → h'.get? (s.heap.objs.size + 1) = some (seqObj "list" (List.toArray out) c) → PySem.W.EachIs R out (bs.mergeSort (PySem.W.dataLe false k)) →
      Q (.ref (s.heap.objs.size + 1)) { s with heap := h', toks := tk }) :
    wpAny (model prog w) A (call (.builtin "sorted") [.ref l] [(Str.ofString "key", .ref f)]) Q E s := by
  have hL2 : vs.length ≤ sizeLine := by rw [e.length]; exact hL
  have up : ∀ {g : Heap}, PySem.W.KeepsBut (s.heap.objs.size + 1) (PySem.W.copyHeap s.heap vs) g → ∀ b o, s.heap.get? b = some o → g.get? b = some o := fun {g} kp b o q =>
    kp b o (Nat.ne_of_lt (Nat.lt_succ_of_lt (Heap.lt_size q))) (PySem.W.copyHeap_old q)
  refine call_function_entry_kw kind_sorted plain_sorted entry_sorted (PyProof.Rows.ksk_s1 _ _) ?_
  unfold Builtin.«sorted»
  refine wpAny_bind (m := checkCount "sorted" 1 1 _) (wpAny_pure ?_)
  refine wpAny_bind (collect_tup hl ?_ hL2)
  refine wpAny_bind (wpAny_newList ?_ hL2)
  have hsz : ((s.heap.push (seqObj "list" #[] 0)).update s.heap.objs.size (Obj.mapSeq (· ++ vs.toArray))).objs.size = s.heap.objs.size + 1 := by
    rw [Heap.size_update, size_push']
  show wpAny _ _ _ _ _ { s with heap := PySem.W.copyHeap s.heap vs }
  rw [hsz]
  refine wpAny_bind (wpAny_holding (wpAny_call_entry_kw slot_list_sort ⟨_, PySem.W.copyHeap_at s.heap vs, rfl⟩ entry_list_sort ?_ (PyProof.Rows.ksk_l1 _ _)))
  show wpAny (model prog w) A.in1.in1 (Builtin.«list.sort» ⟨[.ref (s.heap.objs.size + 1)], [(Str.ofString "key", .ref f)]⟩) _ _ _
  rw [PyProof.Rows.ksk_t1]
  refine wpAny_mono (PySem.W.keyH_tree (b := false) (kz := bs.map k) (s := { s with heap := PySem.W.copyHeap s.heap vs }) (P := fun fin s' => fin = .done (.ret .none) ∧ Q (.ref (s.heap.objs.size + 1)) s') (PySem.W.copyHeap_at s.heap vs) (by rw [List.length_map]; exact e.length.symm) hL2 hal hk (PySem.W.bound_map (A := A.in1.in1) hu)
    (PySem.W.keyH_turns (s := { s with heap := PySem.W.copyHeap s.heap vs }) e fun v x hR hx h tk kp => turn v x hR hx h tk (up kp)) fun h' tk out c kp hD ko => ⟨rfl, h out c h' tk (up kp) hD (PySem.W.keyedOut_each k ko e)⟩) (fun fn s' hf => ?_) fun _ _ e => e
  obtain ⟨rfl, hq⟩ := hf
  exact ⟨_, rfl, wpAny_pure ⟨_, rfl, hq⟩⟩
end
/-- sorted(xs, key=f), xs a tuple -/
def rSortedKT (K : PySem.W.Frag) (f : Addr) (i j : Nat) : List V → List V → Hp → VK → Prop := fun vs zs H Q => ∃ (a : Addr) (bs : List (V × (Int × Int))), vs = [.ref a] ∧ zs = [.ref f] ∧ SqT K H a (bs.map (·.1)) ∧
  (∀ b ∈ bs, ∃ t ys, b.1 = .ref t ∧ SqT K H t ys ∧ ys[i]? = some (.int b.2.1) ∧ ys[j]? = some (.int b.2.2)) ∧ ∀ p, H p = none → Q (.ref p) (upd H p (.lst ((bs.mergeSort ordP).map (·.1))))
theorem cr_sortedKT {X : Cx} {f : Addr} {i j : Nat} (hr : Room 3 X.A) (KF : KeyFn X.K f i j) : CallRK X (.builtin "sorted") [Str.ofString "key"] (rSortedKT X.K f i j) := by
  intro pins s σ H xs zs us ws Q I r rz h
  obtain ⟨a, vs, rfl, rfl, hs, hk, q⟩ := h
  obtain ⟨its, rv, hl, hz⟩ := I.tuple hs
  rw [Vals.ref1 r, Vals.ref1 rz]
  obtain ⟨oc, od, fd, osl, x, p1, p2, p3, p4, p5, p6, p7, p8, kk, lk, hcd, hb, hbind, hn, hco, hgen, hkd, hdb, hi, hj⟩ := KF.ex
  have e := each_vals vs rv fun x hx => hx
  have lim : s.heap.NoLimit := I.env0.mod.nolimit.keeps fun b o e => (I.env0.bs b o e).1
  have hlk := I.kIn _ _ lk
  have r2 := hr.in1.in1
  have hz2 : vs.length ≤ sizeLine := by rw [List.length_map] at hz; exact hz
  show wpAny _ _ (call (.builtin "sorted") [.ref a] [(Str.ofString "key", .ref f)]) _ _ _
  refine sorted_tup (fun x : V × (Int × Int) => .tuple [.int x.2.1, .int x.2.2]) hl e (PySem.W.AllAlike.of fun _ _ => by simp [PySem.W.alike, PySem.W.alikeAll]) (PySem.W.Sortable.tuples fun _ => ⟨_, _, rfl⟩) hz2 (fun y _ => ?_)
    (fun v y hv hy h tk kp => ?_) fun out c h' tk kp hD eo => ?_
  · have hd : (PyData.tuple [.int y.2.1, .int y.2.2]).depth = 1 := by simp [PyData.depth, PyData.depthAll]
    have := hr.un
    omega
  · obtain ⟨rel, mem⟩ := hv
    obtain ⟨t, ys, ey, ht, h1, h2⟩ := hk y mem
    rw [ey] at rel
    obtain rfl : v = Value.ref t := rel
    obtain ⟨its2, rv2, ⟨o2, e1, e2, e3⟩, _⟩ := I.tuple ht
    obtain ⟨u1, g1, w1⟩ := rv2.get h1
    obtain ⟨u2, g2, w2⟩ := rv2.get h2
    obtain ⟨k1, rfl⟩ := w1
    obtain ⟨k2, rfl⟩ := w2
    exact pure_two (s := { s with heap := h, toks := tk }) r2.depth (kp _ _ hlk) rfl (lim.keeps kp) (PySem.W.codeRec_of (I.kIn.keeps kp) hcd) hb (hbind t) hn hco hgen hkd hdb (items := its2.toArray) ⟨o2, kp _ _ e1, e2, e3⟩ (by omega) (by omega) (by omega) (by omega) (by simpa using g1) (by simpa using g2)
  · rw [PySem.W.dataLe_ii (fun x : V × (Int × Int) => x.2.1) (fun x => x.2.2)] at eo
    have hlen2 : ((vs.mergeSort ordP).map (·.1)).length ≤ sizeLine := by rw [List.length_map, List.length_mergeSort]; exact hz2
    exact ⟨.ref (s.heap.objs.size + 1), upd H (s.heap.objs.size + 1) (.lst ((vs.mergeSort ordP).map (·.1))), I.laid (t' := tk) kp (Nat.le_succ _) ⟨hlen2, out, c, vals_each eo, hD⟩, rfl, q _ (I.hok.fresh (Nat.le_succ _))⟩
end L2

/-! sorted(xs, key=def) over data. -/
namespace DL
open PySem L2 StX
section
variable {K : PySem.W.Frag} [Tb K] {Z : ZX} {u : Wd} {ds : DS} {n : Nat} {P : D → Nat → Prop} {te : TE} {f : Addr} {i j : Nat}
theorem dens_zip : ∀ {ws : List V} {xs : List (D × (Int × Int))}, Dens K u ws (xs.map (·.1)) → ∀ c ∈ ws.zip xs, Den K u c.1 c.2.1
  | [], [], _, c, hc => by cases hc
  | w :: ws, x :: xs, h, c, hc => by
    cases h with
    | cons r rs =>
      rcases List.mem_cons.mp hc with rfl | hc
      · exact r
      · exact dens_zip rs c hc
theorem dens_all : ∀ {es : List (V × (D × (Int × Int)))}, (∀ c ∈ es, Den K u c.1 c.2.1) → Dens K u (es.map (·.1)) (es.map (·.2.1))
  | [], _ => .nil
  | e :: es, h => .cons (h e (List.mem_cons_self ..)) (dens_all fun c hc => h c (List.mem_cons_of_mem _ hc))
theorem dens_sort {ws : List V} {xs : List (D × (Int × Int))} (h : Dens K u ws (xs.map (·.1))) : Dens K u (((ws.zip (xs.map (·.2))).mergeSort ordP).map (·.1)) ((xs.mergeSort ordP).map (·.1)) := by
  have hl : ws.length = xs.length := by rw [h.len, List.length_map]
  have e1 : (ws.zip xs).map (fun c => (c.1, c.2.2)) = ws.zip (xs.map (·.2)) := by rw [List.zip_map_right]; rfl
  have e2 : (ws.zip xs).map (·.2) = xs := List.map_snd_zip (by omega)
  have m1 := List.map_mergeSort (r := fun x y : V × (D × (Int × Int)) => ordP x.2 y.2) (s := ordP) (f := fun c => (c.1, c.2.2)) (l := ws.zip xs) (fun _ _ _ _ => rfl)
  have m2 := List.map_mergeSort (r := fun x y : V × (D × (Int × Int)) => ordP x.2 y.2) (s := ordP) (f := fun c => c.2) (l := ws.zip xs) (fun _ _ _ _ => rfl)
  rw [e1] at m1
  rw [e2] at m2
  rw [← m1, ← m2, List.map_map, List.map_map]
  exact dens_all fun c hc => dens_zip h c ((List.mergeSort_perm _ _).mem_iff.mp hc)
theorem keys_read {H : Hp} {ws : List V} {xs : List (D × (Int × Int))} (ex : Ex u.H0 H) (h : Dens K u ws (xs.map (·.1))) (hk : ∀ p ∈ xs, ∃ ys, p.1 = .tup ys ∧ ys[i]? = some (.int p.2.1) ∧ ys[j]? = some (.int p.2.2)) :
    ∀ b ∈ ws.zip (xs.map (·.2)), ∃ t ys, b.1 = .ref t ∧ SqT K H t ys ∧ ys[i]? = some (.int b.2.1) ∧ ys[j]? = some (.int b.2.2) := by
  intro b hb
  have e1 : ws.zip (xs.map (·.2)) = (ws.zip xs).map fun c => (c.1, c.2.2) := by rw [List.zip_map_right]; rfl
  rw [e1] at hb
  obtain ⟨c, hc, rfl⟩ := List.mem_map.mp hb
  have hd := dens_zip h c hc
  obtain ⟨ys, ey, h1, h2⟩ := hk c.2 (List.of_mem_zip hc).2
  rw [ey] at hd
  obtain ⟨t, vs, ev, q, r⟩ := den_tup hd
  obtain ⟨v1, g1, w1⟩ := r.getD h1
  obtain ⟨v2, g2, w2⟩ := r.getD h2
  exact ⟨t, vs, ev, Evl.ex_t ex q, by rw [g1, den_int w1], by rw [g2, den_int w2]⟩
end
end DL

/-! Dicts that are frozen as soon as they are made; fresh lists and dicts put into slots. -/
namespace L2
open PySem PySem.Spec PyProof.Rows
/-- a new dict, from now on read alone -/
def tFrz (te : TE) : TE := fun σ H Q => te σ H fun v H' => ∃ d u, v = .ref d ∧ H' d = some u ∧ Mut (some u) ∧ ∀ od, Q v (upd H' d (.frz od u))
/-- the dict in slot i, from now on read alone -/
def tFrzS (i : Nat) (t : TS) : TS := fun D σ H => ∃ d u, σ[i]? = some (some (.ref d)) ∧ H d = some u ∧ Mut (some u) ∧ ∀ od, t D σ (upd H d (.frz od u))
end L2
namespace DL
open PySem L2 StX
section
variable {K : PySem.W.Frag} [Tb K] {Z : ZX} {b u u' u'' : Wd} {σ : L2.St} {ds : DS} {n : Nat} {P : D → Nat → Prop} {te ta tb tc tk tv : TE} {tt tu : TT} {N : Nd} {ts t1 t2 : TS} {g : TG} {De : Ends}
/-- a value that goes into a slot: data, or a new thing that the def goes on with -/
inductive NewS (K : PySem.W.Frag) (u u' : Wd) : V → D → Prop
  | den {v : V} {d : D} : Den K u' v d → NewS K u u' v d
  | mls {p : Addr} {vs : List V} {xs : List D} : u.H1 p = none → u'.H0 p = none → ¬ u'.S p → u'.H1 p = some (.lst vs) → Dens K u' vs xs → NewS K u u' (.ref p) (.mls xs)
  | mdk {p : Addr} {vs : List (Key × V)} {xs : List (Key × D)} : u.H1 p = none → u'.H0 p = none → ¬ u'.S p → u'.H1 p = some (.dK vs) → DenK K u' vs xs → NewS K u u' (.ref p) (.mdk xs)
  | mob {p C dx : Addr} {fs : List (Str × V)} {gs : List (Str × D)} : u.H1 p = none → u'.H0 p = none → ¬ u'.S p → u'.H1 p = some (.ins C dx fs) → u'.H1 dx = some (.own p) → ¬ u'.S dx → DenF K u' fs gs → NewS K u u' (.ref p) (.mob p dx C gs)
def Wx (K : PySem.W.Frag) [Tb K] (Z : ZX) (te : TE) (ds : DS) (n : Nat) (P : D → Nat → Prop) : Prop :=
  ∀ (b u : Wd) (σ : L2.St) (Q : VK), u.n = n → Sd K Z b u σ ds → (∀ v d u', Gs u u' → StOk K u' → NewS K u u' v d → P d u'.n → Q v u'.H1) → te σ u.H1 Q
theorem wx_we (h : We K Z te ds n P) : Wx K Z te ds n P := fun b u σ Q e S k => h b u σ Q e S fun v d u' g s r p => k v d u' g s (.den r) p
theorem wx_lst {t : TA} (h : Wa K Z t ds n fun xs m => xs.length ≤ 1000000 ∧ P (.mls xs) m) : Wx K Z (tLst t) ds n P := fun b u σ Q e S k =>
  h b u σ _ e S fun vs xs u1 g1 s1 r h2 => ⟨by rw [r.len]; exact sz100 h2.1, fun p hp => by
    have h0 : u.H1 p = none := by
      cases q : u.H1 p with
      | none => rfl
      | some o => exact absurd hp (g1.b' p (by rw [q]; simp))
    have nS := s1.not hp
    exact k _ (.mls xs) ⟨u1.S, u1.T, u1.n, u1.H0, upd u1.H1 p (.lst vs)⟩ (g1.trans (Gs.junk g1.c hp)) (s1.write nS) (.mls h0 (ex_none g1.c hp) nS upd_same (r.mono (show Le u1 ⟨u1.S, u1.T, u1.n, u1.H0, upd u1.H1 p (.lst vs)⟩ from ⟨fun _ h => h, fun _ _ => rfl, .refl _⟩))) h2.2⟩
theorem wx_list (h : We K Z te ds n fun d m => ∃ xs, (d = .lst xs ∨ d = .tup xs) ∧ P (.mls xs) m) : Wx K Z (tCB (rLstOf K) (tCons te tNil)) ds n P := fun b u σ Q e S k =>
  h b u σ _ e S fun v d u1 g1 s1 r ⟨xs, hd, h2⟩ => by
    have go : ∀ (a : Addr) (vs : List V), v = .ref a → (SqL K u1.H1 a vs ∨ SqT K u1.H1 a vs) → Dens K u1 vs xs → rLstOf K [v] u1.H1 Q := fun a vs ev hs r2 => by
      subst ev
      refine ⟨a, vs, rfl, hs, fun p hp => ?_⟩
      have h0 : u.H1 p = none := by
        cases q : u.H1 p with
        | none => rfl
        | some o => exact absurd hp (g1.b' p (by rw [q]; simp))
      have nS := s1.not hp
      exact k _ (.mls xs) ⟨u1.S, u1.T, u1.n, u1.H0, upd u1.H1 p (.lst vs)⟩ (g1.trans (Gs.junk g1.c hp)) (s1.write nS) (.mls h0 (ex_none g1.c hp) nS upd_same (r2.mono (show Le u1 ⟨u1.S, u1.T, u1.n, u1.H0, upd u1.H1 p (.lst vs)⟩ from ⟨fun _ h => h, fun _ _ => rfl, .refl _⟩))) h2
    rcases hd with rfl | rfl
    · obtain ⟨a, vs, rfl, q, r⟩ := den_lst r
      exact go a vs rfl (.inl (Evl.ex_l g1.c q)) r
    · obtain ⟨a, vs, rfl, q, r⟩ := den_tup r
      exact go a vs rfl (.inr (Evl.ex_t g1.c q)) r
/-- stored: data or a new thing -/
theorem Sd.setS {i : Nat} {v : V} {d : D} (S : Sd K Z b u σ ds) (gr : Gs u u') (st : StOk K u') (h : NewS K u u' v d) : Sd K Z b u' (σ.set i (some v)) (ds.set i (some d)) := by
  have T := S.go gr st
  have core : ∀ (p : Addr), u.H1 p = none → v = .ref p → DenS K b u' (.ref p) d → Sd K Z b u' (σ.set i (some v)) (ds.set i (some d)) := fun p hp ev hd => by
    subst ev
    clear h
    refine ⟨T.gr, T.xk, T.st, by simp [S.len], fun j e q => ?_, fun j k e f a b h1 h2 m1 m2 ne q1 q2 => ?_⟩
    · by_cases q' : i = j
      · subst q'
        rw [get_set] at q
        by_cases hl : i < ds.length
        · simp [hl] at q
          subst q
          exact ⟨.ref p, by simp [get_set, S.len, hl], hd⟩
        · simp [hl] at q
      · rw [get_set, if_neg q'] at q
        obtain ⟨w, h1, h2⟩ := T.sl j e q
        exact ⟨w, by rw [get_set, if_neg q']; exact h1, h2⟩
    · have old : ∀ (j : Nat) (e : D) (a : Addr), ds[j]? = some (some e) → isMut e = true → σ[j]? = some (some (.ref a)) → a ≠ p := fun j e a h m q z => by
        subst z
        obtain ⟨w, h1, h2⟩ := S.sl j e h
        rw [q] at h1
        cases h1
        cases h2 with
        | den hh => rw [hh.notMut] at m; cases m
        | mls _ _ _ hh _ => rw [hp] at hh; cases hh
        | mob _ _ _ hh _ _ _ => rw [hp] at hh; cases hh
        | mdk _ _ _ hh _ => rw [hp] at hh; cases hh
      by_cases k1 : i = j
      · subst k1
        rw [get_set] at q1
        by_cases hl : i < σ.length
        · simp [hl] at q1
          subst q1
          rw [get_set, if_neg ne] at h2 q2
          exact fun z => old k f b h2 m2 q2 z.symm
        · simp [hl] at q1
      · rw [get_set, if_neg k1] at h1 q1
        by_cases k2 : i = k
        · subst k2
          rw [get_set] at q2
          by_cases hl : i < σ.length
          · simp [hl] at q2
            subst q2
            exact old j e a h1 m1 q1
          · simp [hl] at q2
        · rw [get_set, if_neg k2] at h2 q2
          exact S.ap j k e f a b h1 h2 m1 m2 ne q1 q2
  have bn : ∀ p, u.H1 p = none → b.H1 p = none := fun p hp => by
    cases q : b.H1 p with
    | none => rfl
    | some o => exact absurd hp (S.gr.b' p (by rw [q]; simp))
  cases h with
  | den r => exact T.set r
  | mls h0 h1 h2 h3 h4 => exact core _ h0 rfl (.mls (bn _ h0) h1 h2 h3 h4)
  | mdk h0 h1 h2 h3 h4 => exact core _ h0 rfl (.mdk (bn _ h0) h1 h2 h3 h4)
  | mob h0 h1 h2 h3 h4 h5 h6 => exact core _ h0 rfl (.mob (bn _ h0) h1 h2 h3 h4 h5 h6)
theorem ws_setX {i : Nat} (h : Wx K Z te ds n fun d m => N.nx (ds.set i (some d)) m) : Ws K Z (tAsg te (gName i)) ds n N := fun b u σ De e S O =>
  h b u σ _ e S fun v d u1 g1 s1 r p => O.nx _ u1 _ g1.ls (S.setS g1 s1 r) p
theorem ws_parX {i j : Nat} (h : Wx K Z ta ds n fun d m => Wx K Z tb ds m fun e k => N.nx ((ds.set i (some d)).set j (some e)) k) : Ws K Z (tPar i j (tCons ta (tCons tb tNil))) ds n N := fun b u σ De e S O =>
  h b u σ _ e S fun v d u1 g1 s1 r q => q b u1 σ _ rfl (S.go g1 s1) fun w d2 u2 g2 s2 r2 p => ⟨v, w, rfl, O.nx _ u2 _ (g1.ls.trans g2.ls) ((S.setS g1 s1 r).setS g2 s2 r2) p⟩
/-! ### dicts read -/
def valD : List (Key × D) → Key → Option D
  | [], _ => none
  | (f, d) :: r, k => if f = k then some d else valD r k
/-- the keys as data -/
def keyDt : Key → D
  | .inl i => .int i
  | .inr x => .str x
end
end DL

/-! Lists, dicts and instances that a def is making: grown, stored into, read. -/
namespace PySem.AutoSeq1
end PySem.AutoSeq1
namespace L2
open PySem PySem.Spec PyProof.Rows
/-- xs.extend(a tuple) -/
def rExtT (K : PySem.W.Frag) : V → List V → Hp → VK → Prop := fun x vs H Q => ∃ l b xs zs, x = .ref l ∧ vs = [.ref b] ∧ H l = some (.lst xs) ∧ SqT K H b zs ∧ xs.length + zs.length ≤ sizeLine ∧ Q .non (upd H l (.lst (xs ++ zs)))
end L2
namespace DL
open PySem L2 StX
section
variable {K : PySem.W.Frag} [Tb K] {Z : ZX} {b u u' u'' : Wd} {σ : L2.St} {ds : DS} {n : Nat} {P : D → Nat → Prop} {te ta tb tc tk tv ti : TE} {tt tu : TT} {N : Nd} {ts t1 t2 : TS} {g : TG} {De : Ends} {C : Addr}
/-- for the writer of a changed list -/
theorem Sd.chL {i : Nat} {xs : List D} {a : Addr} {vs ws : List V} {ys : List D} (S : Sd K Z b u σ ds) (hd : ds[i]? = some (some (.mls xs))) (hv : σ[i]? = some (some (.ref a))) (c0 : b.H1 a = none) (c1 : u.H0 a = none) (c5 : ¬ u.S a) (c2 : u.H1 a = some (.lst vs)) (r : Dens K u ws ys) :
    Sd K Z b ⟨u.S, u.T, u.n, u.H0, upd u.H1 a (.lst ws)⟩ σ (ds.set i (some (.mls ys))) :=
  S.change hd rfl hv rfl c0 c1 c5 (fun _ z => by rw [c2] at z; cases z) (.mls c0 c1 c5 upd_same (r.mono (show Le u ⟨u.S, u.T, u.n, u.H0, upd u.H1 a (.lst ws)⟩ from ⟨fun _ h => h, fun _ _ => rfl, .refl _⟩)))
theorem Dens.eraseIdx : ∀ {vs : List V} {xs : List D} (_ : Dens K u vs xs) (j : Nat), Dens K u (vs.eraseIdx j) (xs.eraseIdx j)
  | _, _, .nil, _ => by simpa using Dens.nil
  | _, _, .cons _ t, 0 => by simpa using t
  | _, _, .cons q t, j + 1 => by simpa using Dens.cons q (Dens.eraseIdx t j)
/-- x = xs.pop(k), xs.append(ys.pop(k)) .. : what is popped, and the list left -/
def Wp (K : PySem.W.Frag) [Tb K] (Z : ZX) (te : TE) (ds : DS) (n : Nat) (P : D → DS → Nat → Prop) : Prop :=
  ∀ (b u : Wd) (σ : L2.St) (Q : VK), u.n = n → Sd K Z b u σ ds → (∀ v d ds' u', Le u u' → Sd K Z b u' σ ds' → Den K u' v d → P d ds' u'.n → Q v u'.H1) → te σ u.H1 Q
theorem wp_popAt {i : Nat} {xs : List D} {PP : D → DS → Nat → Prop} (hd : ds[i]? = some (some (.mls xs))) (h : We K Z te ds n fun d m => ∃ (j : Nat) (x : D), d = .int (j : Nat) ∧ xs[j]? = some x ∧ j < 1000000 ∧ PP x (ds.set i (some (.mls (xs.eraseIdx j)))) m) : Wp K Z (tBM K "list" rPopAt (tVar i) (tCons te tNil)) ds n PP := fun b u σ Q e S k => by
  obtain ⟨a, vs, hv, b0, b1, b5, b2, b3⟩ := mls_at S hd
  refine ⟨.ref a, hv, ⟨Or.inl ⟨rfl, vs, SqL.of b2⟩, h b u σ _ e S fun w d u1 g1 s1 r ⟨j, x, hy, hx, hz, p⟩ => ?_⟩⟩
  subst hy
  cases den_int r
  have S1 := S.go g1 s1
  obtain ⟨a', vs', hv', c0, c1, c5, c2, c3⟩ := mls_at S1 hd
  rw [hv] at hv'
  cases hv'
  obtain ⟨w, hw, rw'⟩ := c3.getD hx
  have hl : j < vs'.length := (List.getElem?_eq_some_iff.mp hw).1
  refine ⟨a, vs', (j : Int), j, w, rfl, rfl, c2, by omega, by omega, ?_, hw, k w x _ ⟨u1.S, u1.T, u1.n, u1.H0, _⟩ ⟨g1.sub, g1.kd, g1.a⟩ (S1.chL hd hv c0 c1 c5 c2 (c3.eraseIdx j)) (rw'.mono (show Le u1 ⟨u1.S, u1.T, u1.n, u1.H0, upd u1.H1 a (.lst (vs'.eraseIdx j))⟩ from ⟨fun _ h => h, fun _ _ => rfl, .refl _⟩)) p⟩
  unfold seqIndex?
  have e0 : (if (j : Int) < 0 then (j : Int) + (vs'.length : Int) else (j : Int)) = (j : Int) := if_neg (by omega)
  simp only [e0]
  rw [if_pos (by simp; omega)]
  simp
/-- xs.append(ys.pop(k)) -/
theorem ws_appendP {i : Nat} {xs : List D} (hd : ds[i]? = some (some (.mls xs))) (h : Wp K Z te ds n fun d ds' m => ds'[i]? = some (some (.mls xs)) ∧ xs.length < 1000000 ∧ N.nx (ds'.set i (some (.mls (xs ++ [d])))) m) : Ws K Z (tDrop (tBM K "list" rAppend (tVar i) (tCons te tNil))) ds n N := fun b u σ De e S O => by
  obtain ⟨a, vs, hv, b0, b1, b5, b2, b3⟩ := mls_at S hd
  refine ⟨.ref a, hv, ⟨Or.inl ⟨rfl, vs, SqL.of b2⟩, h b u σ _ e S fun w d ds' u1 l S1 r ⟨hd', hz, p⟩ => ?_⟩⟩
  obtain ⟨a', vs', hv', c0, c1, c5, c2, c3⟩ := mls_at S1 hd'
  rw [hv] at hv'
  cases hv'
  exact ⟨a, vs', w, rfl, rfl, c2, by rw [c3.len]; exact Nat.lt_of_lt_of_le hz (by decide), O.nx _ ⟨u1.S, u1.T, u1.n, u1.H0, _⟩ _ ⟨l.s, l.t, l.h⟩ (S1.chL hd' hv c0 c1 c5 c2 (c3.app (.cons r .nil))) p⟩
/-- a list that is grown, by truth -/
theorem wt_truM {i : Nat} {xs : List D} {Pb : Bool → Nat → Prop} (hd : ds[i]? = some (some (.mls xs))) (h : Pb (!xs.isEmpty) n) : Wt K Z (tTru K (tVar i)) ds n Pb := fun b u σ Q e S k => by
  obtain ⟨a, vs, hv, b0, b1, b5, b2, b3⟩ := mls_at S hd
  exact ⟨.ref a, hv, !vs.isEmpty, .inl ⟨vs, SqL.of b2, rfl⟩, k _ u (.refl S.ex) S.st (by rw [isEmpty_den b3]; exact e ▸ h)⟩
/-- xs == [], xs != [] of a list that is grown -/
theorem we_neM0 {i : Nat} {xs : List D} {es : List PyData} (hd : ds[i]? = some (some (.mls xs))) (hes : pds xs = some es) (pl : PyData.plainAll es = true) (dp : PyData.depthAll es ≤ 60) (h : P (.bl (decide (xs ≠ []))) n) : We K Z (tOp (rNeP K) (tVar i) (tLst tNil)) ds n P := fun b u σ Q e S k => by
  obtain ⟨a, vs, hv, b0, b1, b5, b2, b3⟩ := mls_at S hd
  refine ⟨.ref a, hv, ⟨(by show 0 ≤ sizeLine; decide), fun q hq => ?_⟩⟩
  have S2 := S.go (Gs.put S.ex (o := .lst []) hq) (S.st.put S.ex hq)
  obtain ⟨a', vs', hv', c0, c1, c5, c2, c3⟩ := mls_at S2 hd
  rw [hv] at hv'
  cases hv'
  refine ⟨.list es, .list [], .lst (SqL.of c2) (dens_dp S2.ex c3 hes), .lst (SqL.of upd_same) .nil, by simpa [PyData.plain] using pl, rfl, by simp only [PyData.depth]; omega, ?_⟩
  have e2 : (!PyData.eqv (.list es) (.list [])) = decide (xs ≠ []) := by
    cases xs with
    | nil => simp only [pds] at hes; cases hes; rfl
    | cons x xs =>
      simp only [pds] at hes
      cases hp : pd x with
      | none => rw [hp] at hes; cases hes
      | some y =>
        rw [hp] at hes
        cases hq : pds xs with
        | none => rw [hq] at hes; cases hes
        | some ys => rw [hq] at hes; cases hes; simp [PyData.eqv, PyData.eqvAll]
  rw [e2]
  exact k _ _ (u.put q (.lst [])) (.put S.ex hq) (S.st.put S.ex hq) (.bl _) (e ▸ h)
/-! ### dicts and instances in the making -/
def putKD (kvs : List (Key × D)) (k : Key) (d : D) : List (Key × D) := if kvs.any (fun p => decide (p.1 = k)) then kvs.map (fun p => if p.1 = k then (k, d) else p) else kvs ++ [(k, d)]
end
end DL

/-! Defs with *args: their promise, calls, instances made by such an __init__; what is walked: a list or a tuple. -/
namespace L2
open PySem PySem.Spec PyProof.Rows StX
/-- def f(a, .., *v): what is left over stands in a new tuple -/
def starS (k : Nat) (sp : Sp) : Sp := fun vs H Q E => ∃ ws rest, vs = ws ++ rest ∧ ws.length = k ∧ rest.length ≤ sizeLine ∧ ∀ p, H p = Option.none → sp (ws ++ [V.ref p]) (upd H p (.tup rest)) Q E
def StarB (fd : FuncData) (ps : List Str) (pv : Str) : Prop := ∀ us rest : List Value, us.length = ps.length → bindArgs fd ⟨us ++ rest, []⟩ = (newTuple rest >>= fun t => pure (ps.zip us ++ [(pv, t)]))
section
variable {X : Cx} {CX : CXT} {k i : Nat} {f C : Addr} {sp : Sp} {E : XK} {x : Str} {e fe : Expr} {es : List Expr} {te tf : TE} {t : TA} {p pos sp_ : Pos}
/-- C(*e) -/
def tMakeS (K : PySem.W.Frag) (C : Addr) (sp : Sp) (E : XK) (te : TE) : TE := fun σ H Q => te σ H fun y H1 => ∃ a xs, y = V.ref a ∧ (SqT K H1 a xs ∨ SqL K H1 a xs) ∧ ∀ x dx, H1 x = Option.none → H1 dx = Option.none → dx ≠ x →
  sp (V.ref x :: xs) (upd (upd H1 dx (.own x)) x (.ins C dx [])) (fun v H2 => v = .non ∧ Q (.ref x) H2) E
end
/-- a list or a tuple, walked -/
def iSeq (K : PySem.W.Frag) (te : TE) : TI := fun σ H R => iList K te σ H R ∨ iTup K te σ H R
theorem pi_seq {X : Cx} {tg e : Expr} {te : TE} (h : PE X e te) : PI X tg e (iSeq X.K te) := ⟨fun pins s σ H R I hw => hw.elim ((pi_list h).run pins s σ H R I) ((pi_tup h).run pins s σ H R I)⟩
end L2
namespace DL
open PySem L2 StX
open PyProof.Rows (envOfC)
section
variable {K : PySem.W.Frag} [Tb K] {Z : ZX} {b u u' u'' : Wd} {σ : L2.St} {ds : DS} {n : Nat} {P : D → Nat → Prop} {te ta tb tc tk tv ti : TE} {tt tu : TT} {N : Nd} {ts t1 t2 : TS} {g : TG} {De : Ends} {C : Addr} {Pl : List D → Nat → Prop}
/-- walked by a name of the def or the like: known ahead which it is -/
theorem wi_seqL (h : We K Z te ds n fun d m => ∃ xs, d = .lst xs ∧ Pl xs m) : Wi K Z (iSeq K te) ds n Pl := fun b u σ R e S k => .inl (wi_list h b u σ R e S k)
theorem wi_seqT (h : We K Z te ds n fun d m => ∃ xs, d = .tup xs ∧ Pl xs m) : Wi K Z (iSeq K te) ds n Pl := fun b u σ R e S k => .inr (wi_tup h b u σ R e S k)
variable {Pr : Program} {w : World} {mg : Str → Option Value} {base : Heap}
end
end DL

/-! enumerate(tuple). -/
namespace PySem
open Sem (wp)
open AutoSeq1 (wpAny_loadPart')
section
variable {prog : Program} {w : World} {A : Around} {E : Value → Shared → Prop} {s : Shared}
end
end PySem
namespace L2
open PySem PySem.Spec PyProof.Rows
/-- a tuple, each item in a new pair -/
def Itet (K : PySem.W.Frag) (a : Addr) : It :=
  ⟨fun i H => ∃ (xs : List V) (x : V), SqT K H a xs ∧ xs[i]? = some x, fun i H v H' => ∃ T x, v = .ref T ∧ H T = none ∧ H' = upd H T (.tup [.int (i : Nat), x]) ∧ ∀ xs, SqT K H a xs → xs[i]? = some x, fun i H => ∃ xs : List V, SqT K H a xs ∧ xs.length ≤ i⟩
def iEnumT (K : PySem.W.Frag) (ta : TA) : TI := fun σ H R => ta σ H fun vs H1 => ∃ a xs, vs = [.ref a] ∧ SqT K H1 a xs ∧ R (Itet K a) H1
/-- enumerate of a list or a tuple -/
def iEnumQ (K : PySem.W.Frag) (ta : TA) : TI := fun σ H R => iEnum K ta σ H R ∨ iEnumT K ta σ H R
end L2
namespace DL
open PySem L2 StX
section
variable {K : PySem.W.Frag} [Tb K] {Z : ZX} {b u u' u'' : Wd} {σ : L2.St} {ds : DS} {n : Nat} {Pl : List D → Nat → Prop}
end
end DL

/-! rows.setdefault(k, []).append(x) in a loop; a dict of tuple keys that sees no key twice. -/
namespace DL
open PySem L2 StX
section
variable {K : PySem.W.Frag} [Tb K] {Z : ZX} {b u u' u'' : Wd} {σ : L2.St} {ds : DS} {n : Nat} {P : D → Nat → Prop} {te ta tb tc tk tv ti : TE} {tt tu : TT} {N : Nd} {ts t1 t2 : TS} {g : TG} {De : Ends} {C : Addr} {Pl : List D → Nat → Prop}
def noMut (ds : DS) : Prop := ∀ (i : Nat) (d : D), ds[i]? = some (some d) → isMut d = false
/-! ### groups -/
def addG (k : Int) (x : D) : List (Int × List D) → List (Int × List D)
  | [] => [(k, [x])]
  | (k', l) :: r => if k' = k then (k', l ++ [x]) :: r else (k', l) :: addG k x r
def kAt (kx : Nat) : D → Int
  | .tup ys => match ys[kx]? with
    | some (.int k) => k
    | _ => 0
  | _ => 0
def grpD (kx : Nat) (xs : List D) : List (Int × List D) := xs.foldl (fun g x => addG (kAt kx x) x g) []
structure GE where
  k : Int
  a : Addr
  vs : List V
  ds : List D
/-- the groups at d as they stand -/
structure Grp (K : PySem.W.Frag) (b w : Wd) (d : Addr) (gl : List GE) (G : List (Int × List D)) : Prop where
  dd : w.H1 d = some (.dK (gl.map fun g => (Sum.inl g.k, V.ref g.a)))
  db : b.H1 d = none
  d0 : w.H0 d = none
  dS : ¬ w.S d
  ls : ∀ g ∈ gl, b.H1 g.a = none ∧ w.H0 g.a = none ∧ ¬ w.S g.a ∧ w.H1 g.a = some (.lst g.vs) ∧ Dens K w g.vs g.ds
  nd : (gl.map (·.a)).Nodup
  eq : gl.map (fun g => (g.k, g.ds)) = G
end
end DL

/-! A dict of tuple keys that sees no key twice; sorted(dict). -/
namespace DL
open PySem L2 StX
section
variable {K : PySem.W.Frag} [Tb K] {Z : ZX} {b u u' u'' : Wd} {σ : L2.St} {ds : DS} {n : Nat} {P : D → Nat → Prop} {te ta tb tc tk tv ti : TE} {tt tu : TT} {N : Nd} {ts t1 t2 : TS} {g : TG} {De : Ends} {C : Addr} {Pl : List D → Nat → Prop}
def kAs : Option D → Int
  | some (.int l) => l
  | _ => 0
def key13 : D → List Key
  | .tup [_, .tup ys] => [.inl (kAs ys[1]?), .inl (kAs ys[2]?)]
  | _ => []
/-- sorted(d), d's keys numbers -/
def rSortDI (K : PySem.W.Frag) : List V → Hp → VK → Prop := fun xs H Q => ∃ (a : Addr) (kvs : List (Key × V)) (ks : List Int), xs = [.ref a] ∧ Rd H a (.dK kvs) ∧ kvs.map (·.1) = ks.map Sum.inl ∧ ks.length < 64 ∧
    ∀ (ys : List Int) (p : Addr), ys.Perm ks → ys.Pairwise (· ≤ ·) → H p = none → Q (.ref p) (upd H p (.lst (ys.map V.int)))
end
end DL
namespace L2
end L2

/-! Static methods read off a class. -/
namespace ClX
open PySem PySem.Spec PyProof.Rows L2
/-- C.m is a staticmethod: its record at p, its def at g -/
structure SMet (K : PySem.W.Frag) (C : Addr) (mc : Value) (m : Str) (p g : Addr) : Prop where
  at_ : PySem.W.findCls K (.ref C) mc m = some (.get (.builtin "staticmethod.__get__") (.ref p) .none (.ref C))
  rc : ∃ rest, PySem.W.recIn K p "staticmethod" = some (.ref g :: rest)
  kp : PySem.W.keepIn K (.ref g) = true
section
variable {X : Cx} {pins : List (Addr × Obj)} {σ : L2.St} {H : Hp} {s : Shared} {a C p g : Addr} {mc : Value} {f m : Str} {v : V} {u : Value} {A : Around} {E : Value → Shared → Prop}
def tSMeth (C : Addr) (sp : Sp) (E : XK) (ta : TE) (t : TA) : TE := fun σ H Q => ta σ H fun x H1 => x = .ref C ∧ t σ H1 fun vs H2 => sp vs H2 Q E
variable {CX : CXT} {k : Nat} {sp : Sp} {o e : Expr} {es : List Expr} {ta : TE} {t : TA} {apos pos : Pos} {EX : XK}
end
end ClX
namespace DL
open PySem L2 StX
section
variable {K : PySem.W.Frag} [Tb K] {Z : ZX} {b u u' u'' : Wd} {σ : L2.St} {ds : DS} {n : Nat} {P : D → Nat → Prop} {te ta tb tc tk tv ti : TE} {N : Nd} {C : Addr} {R : Rl} {E : XK}
end
end DL

/-! tuple(d): the keys; dict comprehensions whose keys come again. -/
namespace L2
open PySem PySem.Spec PyProof.Rows
section
variable {X : Cx}
end
end L2
namespace DL
open PySem L2 StX
section
variable {K : PySem.W.Frag} [Tb K] {Z : ZX} {b u u' u'' : Wd} {σ : L2.St} {ds : DS} {n : Nat} {P : D → Nat → Prop} {te ta tb tc tk tv : TE} {tt tu : TT} {N : Nd} {ts t1 t2 : TS} {g : TG} {De : Ends}
def rTupD (K : PySem.W.Frag) : List V → Hp → VK → Prop := fun xs H Q => ∃ (a : Addr) (kvs : List (Key × V)), xs = [.ref a] ∧ Rd H a (.dK kvs) ∧ ∀ p, H p = none → Q (.ref p) (upd H p (.tup (kvs.map fun kv => kV kv.1)))
end
end DL
namespace L2
end L2

/-! a dict in a list or a tuple of texts: never. -/
namespace L2
open PySem PySem.Spec PyProof.Rows PySem.SeqAt
end L2
namespace L2
open PySem PySem.Spec PyProof.Rows PySem.SeqAt
/-- d in a list or a tuple of texts -/
def rInU (K : PySem.W.Frag) : R2 := fun x y H Q => ∃ (a p : Addr) (kvs : List (Key × V)) (zs : List Str), x = .ref a ∧ Rd H a (.dK kvs) ∧ y = .ref p ∧ (SqL K H p (zs.map V.str) ∨ SqT K H p (zs.map V.str)) ∧ Q (.bl false) H
end L2
namespace L2
open PySem PySem.Spec PyProof.Rows
def rInQ (K : PySem.W.Frag) : R2 := fun x y H Q => rInP K x y H Q ∨ rInU K x y H Q
end L2
namespace DL
open PySem L2 StX
section
variable {K : PySem.W.Frag} [Tb K] {P : D → Prop} {a b : D}
end
end DL

/-! Streams with an invariant of their own: dicts with text keys, read and stored. -/
namespace DL
open PySem L2 StX
/-! data without streams and things that a def is making -/
mutual
def pureD : D → Bool
  | .non => true | .bl _ => true | .int _ => true | .str _ => true | .ty _ => true | .cls _ => true
  | .lst xs => puresD xs | .tup xs => puresD xs
  | _ => false
def puresD : List D → Bool
  | [] => true
  | x :: xs => pureD x && puresD xs
end
section
variable {K : PySem.W.Frag} [Tb K] {Z : ZX} {b u u' u'' : Wd} {σ : L2.St} {ds : DS} {n : Nat} {P : D → Nat → Prop} {te ta tb tc tv : TE} {N : Nd} {De : Ends}
/-- what stands for a thing wherever this much is settled -/
def PDen (K : PySem.W.Frag) [Tb K] (H : Hp) (v : V) (d : D) : Prop := ∀ u : Wd, Ex H u.H0 → Den K u v d
mutual
theorem den_pure : ∀ {v : V} {d : D}, Den K u v d → pureD d = true → PDen K u.H0 v d
  | _, _, .non, _ => fun _ _ => .non
  | _, _, .bl b, _ => fun _ _ => .bl b
  | _, _, .int i, _ => fun _ _ => .int i
  | _, _, .str x, _ => fun _ _ => .str x
  | _, _, .ty x, _ => fun _ _ => .ty x
  | _, _, .cls x, _ => fun _ _ => .cls x
  | _, _, .lst h r, p => fun w e => .lst (Evl.ex_l e h) (dens_pure r (by simpa only [pureD] using p) w e)
  | _, _, .tup h r, p => fun w e => .tup (Evl.ex_t e h) (dens_pure r (by simpa only [pureD] using p) w e)
  | _, _, .strm _ _, p => by simp [pureD] at p
  | _, _, .obj _ _, p => by simp [pureD] at p
  | _, _, .dct _ _, p => by simp [pureD] at p
  | _, _, .fdc _ _, p => by simp [pureD] at p
  | _, _, .exc _ _ _, p => by simp [pureD] at p
  | _, _, .exc0 _, p => by simp [pureD] at p
  | _, _, .lam _ _, p => by simp [pureD] at p
theorem dens_pure : ∀ {vs : List V} {ds : List D}, Dens K u vs ds → puresD ds = true → ∀ w : Wd, Ex u.H0 w.H0 → Dens K w vs ds
  | _, _, .nil, _ => fun _ _ => .nil
  | _, _, .cons h r, p => fun w e => by
    simp only [puresD, Bool.and_eq_true] at p
    exact .cons (den_pure h p.1 w e) (dens_pure r p.2 w e)
end
theorem pden_int (H : Hp) (i : Int) : PDen K H (.int i) (.int i) := fun _ _ => .int i
/-- s["key"] -/
theorem we_iGet {i : Nat} {a : Addr} {I : Nat → Hp → HO → Prop} {key : Str} (hd : ds[i]? = some (some (.strm a (.inv I)))) (h : ∀ m H o, m ≤ n → I m H o → ∃ kvs v d, o = .dK kvs ∧ valV kvs (.inr key) = some v ∧ PDen K H v d ∧ P d n) : We K Z (tDGet (tVar i) (tC (.str key))) ds n P := fun b u σ Q e S k => by
  subst e
  obtain ⟨hv, hs, ht, h0, o, h1, m, H, z1, z2, z3, _⟩ := strm_at S hd
  obtain ⟨kvs, v, d, rfl, hval, hp, hP⟩ := h m H o z1 z3
  have g := DGet.k (k := .inr key) h1
  rw [hval] at g
  exact ⟨.ref a, hv, a, v, rfl, g, k _ _ u (.refl S.ex) S.st (hp u z2) hP⟩
/-- s["key"] = e -/
theorem ws_iPut {i : Nat} {a : Addr} {I : Nat → Hp → HO → Prop} {key : Str} (hd : ds[i]? = some (some (.strm a (.inv I)))) (c : Nat) (h : We K Z tv ds n fun d m => pureD d = true ∧ (∀ j H o, j ≤ m → I j H o → ∃ kvs, o = .dK kvs ∧ kvs.length < 1000000 ∧ ∃ j', j' ≤ m + c ∧ ∀ H' v, Ex H H' → PDen K H' v d → I j' H' (.dK (putK kvs (.inr key) v))) ∧ N.nx ds (m + c)) : Ws K Z (sDPut (tVar i) (tC (.str key)) tv) ds n N := fun b u σ De e S O =>
  h b u σ _ e S fun v d u1 g1 s1 r ⟨pu, hI, p⟩ => by
    have S1 := S.go g1 s1
    obtain ⟨hv, hs, ht, h0, o, h1, j, H, z1, z2, z3, _⟩ := strm_at S1 hd
    obtain ⟨kvs, rfl, hl, j', hj, hput⟩ := hI j H o z1 z3
    obtain ⟨gg, ss⟩ := gs_strm (o := .dK (putK kvs (.inr key) v)) (k := u1.n + c) g1.c s1 hs (by omega) (by
      rw [ht]
      exact ⟨j', u1.H0, hj, .refl _, hput u1.H0 v z2 (den_pure r pu), fun _ z => by cases z⟩)
    have w := DPut.k (k := .inr key) (v := v) h1 (Nat.lt_of_lt_of_le hl (by decide))
    exact ⟨.ref a, hv, a, _, rfl, w, O.nx _ ⟨u1.S, u1.T, u1.n + c, u1.H0, _⟩ _ (g1.trans gg).ls (S1.go gg ss) p⟩
/-- {"k1": .., "k2": .., "k3": ..} -/
theorem we_iNew3 {k1 k2 k3 : Str} {I : Nat → Hp → HO → Prop} (h12 : ¬ (Sum.inr k1 : Key) = .inr k2) (h13 : ¬ (Sum.inr k1 : Key) = .inr k3) (h23 : ¬ (Sum.inr k2 : Key) = .inr k3)
    (h : We K Z ta ds n fun d1 m1 => We K Z tb ds m1 fun d2 m2 => We K Z tc ds m2 fun d3 m3 => pureD d1 = true ∧ pureD d2 = true ∧ pureD d3 = true ∧
      (∀ H v1 v2 v3, PDen K H v1 d1 → PDen K H v2 d2 → PDen K H v3 d3 → I 0 H (.dK [(.inr k1, v1), (.inr k2, v2), (.inr k3, v3)])) ∧ ∀ p, P (.strm p (.inv I)) m3) :
    We K Z (tDisp [(tC (.str k1), ta), (tC (.str k2), tb), (tC (.str k3), tc)]) ds n P := fun b u σ Q e S k => fun p hp => by
  have n0 : u.H0 p = none := ex_none S.ex hp
  have G0 : Gs u _ := Gs.junk S.ex (o := .dK []) hp
  have S0 := S.go G0 (S.st.write (S.st.not hp))
  have nS : ¬ u.S p := S.st.not hp
  refine h b ⟨u.S, u.T, u.n, u.H0, upd u.H1 p (.dK [])⟩ σ _ e S0 fun v1 d1 u1 g1 s1 r1 h2 => h2 b u1 σ _ rfl (S0.go g1 s1) fun v2 d2 u2 g2 s2 r2 h3 => h3 b u2 σ _ rfl ((S0.go g1 s1).go g2 s2) fun v3 d3 u3 g3 s3 r3 ⟨p1, p2, p3, hI, hP⟩ => ?_
  have gg := (g1.trans g2).trans g3
  have hp3 : u3.H1 p = some (.dK []) := gg.b p _ nS upd_same
  have h03 : u3.H0 p = none := gg.nn n0 upd_same
  have hS3 : ¬ u3.S p := gg.ns nS upd_same
  obtain ⟨g4, s4⟩ := Gs.toStrm (k := .inv I) (o := .dK [(.inr k1, v1), (.inr k2, v2), (.inr k3, v3)]) (G0.trans gg) s3 hp h03 hS3 ⟨0, u3.H0, Nat.zero_le _, .refl _, hI _ _ _ _ (den_pure (r1.mono (g2.trans g3).ls) p1) (den_pure (r2.mono g3.ls) p2) (den_pure r3 p3), fun _ z => by cases z⟩
  refine ⟨hp3, [(.inr k1, v1), (.inr k2, v2), (.inr k3, v3)], rfl, (by show 3 ≤ 15; decide), ?_⟩
  rw [merge3 h12 h13 h23]
  exact k _ _ _ g4 s4 (.strm (.inr rfl) (if_pos rfl)) (hP p)
end
end DL

/-! isinstance(x, (T1, T2)); sorted(xs, key=def) of a list or a tuple. -/
namespace L2
open PySem
/-- sorted(xs, key=f), xs a list or a tuple -/
def rSortedKQ (K : PySem.W.Frag) (f : Addr) (i j : Nat) : List V → List V → Hp → VK → Prop := fun vs zs H Q => rSortedK K f i j vs zs H Q ∨ rSortedKT K f i j vs zs H Q
theorem cr_sortedKQ {X : Cx} {f : Addr} {i j : Nat} (hr : Room 3 X.A) (KF : KeyFn X.K f i j) : CallRK X (.builtin "sorted") [Str.ofString "key"] (rSortedKQ X.K f i j) := by
  intro pins s σ H xs zs us ws Q I r rz h
  rcases h with h | h
  · exact cr_sortedK hr KF pins s σ H xs zs us ws Q I r rz h
  · exact cr_sortedKT hr KF pins s σ H xs zs us ws Q I r rz h
end L2
namespace DL
open PySem L2 StX
section
variable {K : PySem.W.Frag} [Tb K] {Z : ZX} {b u u' u'' : Wd} {σ : L2.St} {ds : DS} {n : Nat} {P : D → Nat → Prop} {te ta tb tc tv : TE} {N : Nd} {f : Addr} {i j : Nat}
theorem we_sortKQ (h : We K Z te ds n fun d m => ∃ xs : List (D × (Int × Int)), (d = .lst (xs.map (·.1)) ∨ d = .tup (xs.map (·.1))) ∧ (∀ p ∈ xs, ∃ ys, p.1 = .tup ys ∧ ys[i]? = some (.int p.2.1) ∧ ys[j]? = some (.int p.2.2)) ∧ P (.lst ((xs.mergeSort ordP).map (·.1))) m) :
    We K Z (tCKw (rSortedKQ K f i j) (tCons te tNil) (tCons (tC (.ref f)) tNil)) ds n P := fun b u σ Q e S k =>
  h b u σ _ e S fun v d u1 g s r ⟨xs, hd, hk, p⟩ => by
    rcases hd with hd | hd
    · subst hd
      obtain ⟨a, ws, rfl, q, r2⟩ := den_lst r
      have hl : ws.length = (xs.map (·.2)).length := by rw [r2.len, List.length_map, List.length_map]
      refine .inl ⟨a, ws.zip (xs.map (·.2)), rfl, rfl, ?_, keys_read g.c r2 hk, fun z hz => ?_⟩
      · rw [show (ws.zip (xs.map (·.2))).map (·.1) = ws from List.map_fst_zip (by omega)]
        exact Evl.ex_l g.c q
      · have g0 := Gs.put g.c hz (o := .lst (((ws.zip (xs.map (·.2))).mergeSort ordP).map (·.1)))
        exact k _ _ (u1.put z _) (g.trans g0) (s.put g.c hz) (.lst (SqL.of upd_same) ((dens_sort r2).mono g0.ls)) p
    · subst hd
      obtain ⟨a, ws, rfl, q, r2⟩ := den_tup r
      have hl : ws.length = (xs.map (·.2)).length := by rw [r2.len, List.length_map, List.length_map]
      refine .inr ⟨a, ws.zip (xs.map (·.2)), rfl, rfl, ?_, keys_read g.c r2 hk, fun z hz => ?_⟩
      · rw [show (ws.zip (xs.map (·.2))).map (·.1) = ws from List.map_fst_zip (by omega)]
        exact Evl.ex_t g.c q
      · have g0 := Gs.put g.c hz (o := .lst (((ws.zip (xs.map (·.2))).mergeSort ordP).map (·.1)))
        exact k _ _ (u1.put z _) (g.trans g0) (s.put g.c hz) (.lst (SqL.of upd_same) ((dens_sort r2).mono g0.ls)) p
/-- isinstance(x, (T1, T2)) -/
def kit2 (T T1 T2 : String) : Option Bool := match kitB T T1 with
  | some true => some true
  | some false => kitB T T2
  | none => none
theorem we_isiT2 {T1 T2 : String} (h : We K Z ta ds n fun d m => ∃ T r, tyD d = some T ∧ kit2 T T1 T2 = some r ∧ P (.bl r) m) : We K Z (tCB (rIsiT K) (tCons ta (tCons (tTup (tCons (tC (.ty T1)) (tCons (tC (.ty T2)) tNil))) tNil))) ds n P := fun b u σ Q e S k =>
  h b u σ _ e S fun v d u1 g s r ⟨T, r', ht, hk, p⟩ => by
    refine ⟨by show 2 ≤ sizeLine; decide, fun q hq => ?_⟩
    have g0 := Gs.put g.c hq (o := .tup [.ty T1, .ty T2])
    have s0 := s.put g.c hq (o := .tup [.ty T1, .ty T2])
    have ka : PySem.W.kitAny K (.type T) [.type T1, .type T2] = some r' := by
      unfold kit2 at hk
      cases h1 : kitB T T1 with
      | none => rw [h1] at hk; cases hk
      | some c =>
        rw [h1] at hk
        cases c with
        | true => exact kitAny_cons (kit_ty h1) (fun z => by cases z) (fun _ => by simpa using hk.symm)
        | false => exact kitAny_cons (kit_ty h1) (fun _ => kitAny_cons (r := r') (b := r') (kit_ty hk) (fun z => by rw [z]; exact kitAny_nil) (fun z => z)) (fun z => by cases z)
    refine ⟨v, q, [.ty T1, .ty T2], .type T, [.type T1, .type T2], r', rfl, upd_same, .cons (.ty _) (.cons (.ty _) .nil), ?_, ka, k _ _ _ (g.trans g0) s0 (.bl _) p⟩
    exact den_ty (u := ⟨u1.S, u1.T, u1.n, upd u1.H1 q (.tup [.ty T1, .ty T2]), upd u1.H1 q (.tup [.ty T1, .ty T2])⟩) (Den.mono (show Le u1 ⟨u1.S, u1.T, u1.n, upd u1.H1 q (.tup [.ty T1, .ty T2]), upd u1.H1 q (.tup [.ty T1, .ty T2])⟩ from ⟨fun _ h => h, fun _ _ => rfl, fun x w hx => (upd_ne (fun z => by rw [z, ex_none g.c hq] at hx; cases hx)).trans (g.c x w hx)⟩) r) ht
end
end DL

/-! The mathematics of pieces: columns that are looked at, the machine that makes pieces, all columns. -/
namespace MP
open PySem
structure Tg where
  s : Str
  l : Nat
  c : Nat
  w : Option Str
  deriving DecidableEq
abbrev Td := Option (Bool × Tg)
abbrev Stt := Nat × Td
def adv (t : Tg) (i : Nat) : Tg := { t with c := t.c + i }
theorem adv_adv (t : Tg) (i j : Nat) : adv (adv t i) j = adv t (i + j) := by simp [adv, Nat.add_assoc]
def furt : Td → Nat → Td
  | some (true, t), i => some (true, adv t i)
  | o, _ => o
/-- the value at an offset -/
def tv (td : Td) (i : Nat) : Option Tg := (furt td i).map (·.2)
/-- pieces: begin, kind (0 gap, 1 run, 2 point), first value -/
structure Pc where
  b : Nat
  k : Nat
  f : Option Tg
  deriving DecidableEq
def goes (p : Pc) (c : Nat) (t : Option Tg) : Prop := if p.k = 1 then t = p.f.map (adv · (c - p.b)) else t = p.f
instance (p : Pc) (c : Nat) (t : Option Tg) : Decidable (goes p c t) := by unfold goes; exact inferInstance
def trig (p : Pc) (c : Nat) (t : Option Tg) : Prop := t ≠ none ∧ t = p.f ∧ c = p.b + 1
instance (p : Pc) (c : Nat) (t : Option Tg) : Decidable (trig p c t) := by unfold trig; exact inferInstance
def tr (p : Pc) (c : Nat) (t : Option Tg) : Pc := if trig p c t then ⟨p.b, 2, t⟩ else p
abbrev Ms := List Pc × Pc
def step (s : Ms) (x : Nat × Option Tg) : Ms :=
  if goes (tr s.2 x.1 x.2) x.1 x.2 then (s.1, tr s.2 x.1 x.2) else (s.1 ++ [tr s.2 x.1 x.2], ⟨x.1, if x.2 = none then 0 else 1, x.2⟩)
def p0 : Pc := ⟨0, 0, none⟩
def run (s : Ms) (f : Nat → Option Tg) (b m : Nat) : Ms := (List.range' b m).foldl (fun s c => step s (c, f c)) s
theorem run0 (s : Ms) (f : Nat → Option Tg) (b : Nat) : run s f b 0 = s := rfl
theorem run_s (s : Ms) (f : Nat → Option Tg) (b m : Nat) : run s f b (m + 1) = run (step s (b, f b)) f (b + 1) m := by simp [run, List.range'_succ]
theorem run_add (s : Ms) (f : Nat → Option Tg) (b m k : Nat) : run s f b (m + k) = run (run s f b m) f (b + m) k := by
  induction m generalizing s b with
  | zero => simp [run0]
  | succ m ih => rw [show m + 1 + k = (m + k) + 1 by omega, run_s, run_s, ih, show b + 1 + m = b + (m + 1) by omega]
theorem run_last (s : Ms) (f : Nat → Option Tg) (b m : Nat) : run s f b (m + 1) = step (run s f b m) (b + m, f (b + m)) := by rw [run_add, run_s, run0]
/-- a piece as it stands in front of column c -/
structure PcOk (p : Pc) (c : Nat) : Prop where
  k : p.k = 0 ∨ p.k = 1 ∨ p.k = 2
  g : p.k = 0 ↔ p.f = none
  b : p.b < c ∨ p = p0
theorem PcOk.mono {p : Pc} {c d : Nat} (h : PcOk p c) (l : c ≤ d) : PcOk p d := ⟨h.k, h.g, h.b.imp (fun z => by omega) id⟩
/-- nothing changes at column c -/
def still (p : Pc) (c : Nat) (t : Option Tg) : Prop := goes p c t ∧ ¬ trig p c t
/-! ### after three columns of one stretch nothing changes any more -/
/-! ### all columns -/
def cols : List Stt → List (Nat × Option Tg)
  | [] => []
  | [(b, td)] => (List.range 3).map fun i => (b + i, tv td i)
  | (b, td) :: (b', td') :: r => ((List.range (min 3 (b' - b))).map fun i => (b + i, tv td i)) ++ cols ((b', td') :: r)
def at_ : List Stt → Nat → Option Stt
  | [], _ => none
  | st :: r, c => match at_ r c with
    | some s => some s
    | none => if st.1 ≤ c then some st else none
def val (xs : List Stt) (c : Nat) : Option Tg := match at_ xs c with
  | none => none
  | some (b, td) => tv td (c - b)
def fold (xs : List (Nat × Option Tg)) (s : Ms) : Ms := xs.foldl step s
abbrev Asc (xs : List Stt) : Prop := (xs.map (·.1)).Pairwise (· < ·)
/-- the machine over the first N columns -/
def full (f : Nat → Option Tg) (N : Nat) : Ms := run ([], p0) f 0 N
def machine (xs : List Stt) : Ms := fold (cols xs) ([], p0)
/-- the pieces -/
def few (xs : List Stt) : List Pc := ((machine xs).1 ++ [(machine xs).2]).drop 1
end MP

/-! Pieces are longest, and fewest. -/
namespace MP
variable {f : Nat → Option Tg}
/-- one piece could tell the columns a .. b - 1 -/
def vld (f : Nat → Option Tg) (a b : Nat) : Prop := (∀ c, a ≤ c → c < b → f c = none) ∨ (∃ t, ∀ c, a ≤ c → c < b → f c = some (adv t (c - a))) ∨ ∃ t, ∀ c, a ≤ c → c < b → f c = some t
theorem vld.sub {a b a' b' : Nat} (h : vld f a b) (h1 : a ≤ a') (h2 : b' ≤ b) : vld f a' b' := by
  rcases h with h | ⟨t, h⟩ | ⟨t, h⟩
  · exact .inl fun c q1 q2 => h c (by omega) (by omega)
  · refine .inr (.inl ⟨adv t (a' - a), fun c q1 q2 => ?_⟩)
    rw [h c (by omega) (by omega), adv_adv, show a' - a + (c - a') = c - a by omega]
  · exact .inr (.inr ⟨t, fun c q1 q2 => h c (by omega) (by omega)⟩)
/-- what the piece p tells of the columns up to N -/
def desc (f : Nat → Option Tg) (p : Pc) (N : Nat) : Prop :=
  (p.k = 0 ∧ p.f = none ∧ ∀ c, p.b ≤ c → c < N → f c = none) ∨ (∃ t, p.k = 1 ∧ p.f = some t ∧ p.b < N ∧ ∀ c, p.b ≤ c → c < N → f c = some (adv t (c - p.b))) ∨ ∃ t, p.k = 2 ∧ p.f = some t ∧ p.b + 1 < N ∧ ∀ c, p.b ≤ c → c < N → f c = some t
theorem full_s (f : Nat → Option Tg) (N : Nat) : full f (N + 1) = step (full f N) (N, f N) := by
  unfold full; rw [run_last, Nat.zero_add]
def cnt (f : Nat → Option Tg) (N : Nat) : Nat := (full f N).1.length
/-- how the machine stands in front of column N -/
structure Inv (f : Nat → Option Tg) (N : Nat) : Prop where
  ds : desc f (full f N).2 N
  at_ : ((full f N).1 = [] ∧ (full f N).2 = p0) ∨ ((full f N).2.b < N ∧ (full f N).1.length = cnt f (full f N).2.b + 1 ∧ ((full f N).2.b = 0 → f 0 ≠ none) ∧ ∃ q, (full f N).1 = (full f (full f N).2.b).1 ++ [q] ∧ ((full f N).2.b = 0 → q = p0))
theorem step_cases (s : Ms) (c : Nat) (t : Option Tg) : (goes (tr s.2 c t) c t ∧ step s (c, t) = (s.1, tr s.2 c t)) ∨ (¬ goes (tr s.2 c t) c t ∧ step s (c, t) = (s.1 ++ [tr s.2 c t], ⟨c, if t = none then 0 else 1, t⟩)) := by
  unfold step
  by_cases h : goes (tr s.2 c t) c t
  · exact .inl ⟨h, if_pos h⟩
  · exact .inr ⟨h, if_neg h⟩
theorem desc_go {p : Pc} {N : Nat} (h : desc f p N) (hb : p.b ≤ N) (g : goes (tr p N (f N)) N (f N)) : desc f (tr p N (f N)) (N + 1) := by
  unfold tr at g ⊢
  by_cases ht : trig p N (f N)
  · rw [if_pos ht]
    obtain ⟨h1, h2, h3⟩ := ht
    cases q : f N with
    | none => exact absurd q h1
    | some t =>
      refine .inr (.inr ⟨t, rfl, rfl, by show p.b + 1 < N + 1; omega, fun c (q1 : p.b ≤ c) q2 => ?_⟩)
      by_cases e : c = N
      · rw [e, q]
      · have ec : c = p.b := by omega
        rw [q] at h2
        rcases h with ⟨z1, z2, z3⟩ | ⟨t', z1, z2, z3, z4⟩ | ⟨t', z1, z2, z3, z4⟩
        · rw [z2] at h2; cases h2
        · rw [z2] at h2; cases h2
          rw [z4 c q1 (by omega), ec, Nat.sub_self]; rfl
        · rw [z2] at h2; cases h2
          exact z4 c q1 (by omega)
  · rw [if_neg ht] at g ⊢
    unfold goes at g
    rcases h with ⟨z1, z2, z3⟩ | ⟨t', z1, z2, z3, z4⟩ | ⟨t', z1, z2, z3, z4⟩
    · rw [if_neg (by omega), z2] at g
      refine .inl ⟨z1, z2, fun c q1 q2 => ?_⟩
      by_cases e : c = N
      · rw [e]; exact g
      · exact z3 c q1 (by omega)
    · rw [if_pos z1, z2] at g
      refine .inr (.inl ⟨t', z1, z2, by omega, fun c q1 q2 => ?_⟩)
      by_cases e : c = N
      · rw [e]; exact g
      · exact z4 c q1 (by omega)
    · rw [if_neg (by omega), z2] at g
      refine .inr (.inr ⟨t', z1, z2, by omega, fun c q1 q2 => ?_⟩)
      by_cases e : c = N
      · rw [e]; exact g
      · exact z4 c q1 (by omega)
theorem tr_b (p : Pc) (c : Nat) (t : Option Tg) : (tr p c t).b = p.b := by unfold tr; split <;> rfl
theorem inv : ∀ N, Inv f N
  | 0 => ⟨.inl ⟨rfl, rfl, fun c _ h => absurd h (Nat.not_lt_zero _)⟩, .inl ⟨rfl, rfl⟩⟩
  | N + 1 => by
    have h := inv N
    have hb : (full f N).2.b ≤ N := by
      rcases h.at_ with ⟨_, z⟩ | ⟨z, _⟩
      · rw [z]; exact Nat.zero_le _
      · omega
    rcases step_cases (full f N) N (f N) with ⟨g, e⟩ | ⟨g, e⟩
    · have e' : full f (N + 1) = ((full f N).1, tr (full f N).2 N (f N)) := (full_s f N).trans e
      refine ⟨by rw [e']; exact desc_go h.ds hb g, ?_⟩
      rw [e']
      rcases h.at_ with ⟨z1, z2⟩ | ⟨z1, z2, z3, z4⟩
      · refine .inl ⟨z1, ?_⟩
        rw [z2]
        unfold tr
        rw [if_neg]
        intro ht
        exact ht.1 ht.2.1
      · refine .inr ?_
        simp only [tr_b]
        exact ⟨by omega, z2, z3, z4⟩
    · have e' : full f (N + 1) = ((full f N).1 ++ [tr (full f N).2 N (f N)], ⟨N, if f N = none then 0 else 1, f N⟩) := (full_s f N).trans e
      refine ⟨?_, ?_⟩
      · rw [e']
        cases q : f N with
        | none =>
          refine .inl ⟨by simp, rfl, fun c (q1 : N ≤ c) q2 => ?_⟩
          rw [show c = N by omega, q]
        | some t =>
          refine .inr (.inl ⟨t, by simp, rfl, Nat.lt_succ_self _, fun c (q1 : N ≤ c) q2 => ?_⟩)
          show f c = some (adv t (c - N))
          rw [show c = N by omega, q, Nat.sub_self]; rfl
      · rw [e']
        refine .inr ⟨Nat.lt_succ_self _, by simp [cnt], fun z => ?_, _, rfl, fun z => ?_⟩
        · have z' : N = 0 := z
          subst z'
          intro hf
          apply g
          rw [hf]
          show goes (tr p0 0 none) 0 none
          unfold tr goes
          simp [trig, p0]
        · have z' : N = 0 := z
          subst z'
          show tr p0 0 (f 0) = p0
          unfold tr
          rw [if_neg]
          intro ht
          have := ht.2.2
          simp [p0] at this
end MP

/-! Segments, stretches, pieces and maps as data. -/
namespace MP
open PySem L2 DL
def wD : Option Str → D
  | none => .non
  | some x => .str x
def wLs : Option Str → List D
  | none => []
  | some x => [.str x]
def kD (r : Bool) : Str := if r then Str.ofString "run" else Str.ofString "point"
def kN : Nat → Str
  | 0 => Str.ofString "gap"
  | 1 => Str.ofString "run"
  | _ => Str.ofString "point"
abbrev tgD (t : Tg) : D := .tup [.str t.s, .int (t.l : Nat), .int (t.c : Nat), wD t.w]
def tgO : Option Tg → D
  | none => .non
  | some t => tgD t
def tdD : Td → D
  | none => .non
  | some (r, t) => .tup [.str (kD r), .str t.s, .int (t.l : Nat), .int (t.c : Nat), wD t.w]
abbrev stD (x : Stt) : D := .tup [.int (x.1 : Nat), tdD x.2]
abbrev colD (x : Nat × Option Tg) : D := .tup [.int (x.1 : Nat), tgO x.2]
abbrev pcD (p : Pc) : D := .tup [.int (p.b : Nat), .str (kN p.k), tgO p.f]
structure Sg where
  ln : Nat
  b : Nat
  td : Td
  deriving DecidableEq
def sgL (g : Sg) : List D := match g.td with
  | none => [.str (Str.ofString "gap"), .int (g.ln : Nat), .int (g.b : Nat)]
  | some (r, t) => [.str (kD r), .int (g.ln : Nat), .int (g.b : Nat), .str t.s, .int (t.l : Nat), .int (t.c : Nat)] ++ wLs t.w
abbrev sgD (g : Sg) : D := .tup (sgL g)
def pcS (l : Nat) (p : Pc) : Sg := ⟨l, p.b, p.f.map fun t => (p.k == 1, t)⟩
/-! ### sorted, by lines -/
def lexB (g h : Sg) : Bool := decide (g.ln < h.ln ∨ (g.ln = h.ln ∧ g.b ≤ h.b))
def srt (gs : List Sg) : List Sg := gs.mergeSort lexB
abbrev KeyNd (gs : List Sg) : Prop := (gs.map fun g => (g.ln, g.b)).Nodup
abbrev stt (g : Sg) : Stt := (g.b, g.td)
/-- the stretches of a line -/
def rowSt (gs : List Sg) (l : Nat) : List Stt := ((srt gs).filter fun g => g.ln == l).map stt
/-! ### the groups of the sorted segments -/
def addN (g : Sg) : List (Nat × List Sg) → List (Nat × List Sg)
  | [] => [(g.ln, [g])]
  | (k, l) :: r => if k = g.ln then (k, l ++ [g]) :: r else (k, l) :: addN g r
def linesG (gs : List Sg) : List (Nat × List Sg) := gs.foldl (fun a g => addN g a) []
def enc (p : Nat × List Sg) : Int × List D := ((p.1 : Int), p.2.map sgD)
/-- lines of sorted segments: in order, each with its segments -/
structure Lines (gs : List Sg) (L : List (Nat × List Sg)) : Prop where
  asc : (L.map (·.1)).Pairwise (· < ·)
  row : ∀ p ∈ L, p.2 = gs.filter (fun g => g.ln == p.1) ∧ p.2 ≠ []
  all : ∀ g ∈ gs, ∃ p ∈ L, p.1 = g.ln
/-- the lines that have segments -/
def ks (gs : List Sg) : List Nat := (linesG (srt gs)).map (·.1)
/-! ### rows of pieces -/
abbrev Rows := List (Nat × List Pc)
def rowsOf (L : List (Nat × List Stt)) : Rows := (L.map fun p => (p.1, few p.2)).filter fun p => !p.2.isEmpty
def rowsG (gs : List Sg) : Rows := rowsOf ((ks gs).map fun l => (l, rowSt gs l))
abbrev rowD (p : Nat × List Pc) : Key × D := (Sum.inl (p.1 : Int), .tup (p.2.map fun q => sgD (pcS p.1 q)))
def allP (R : Rows) : List Sg := (R.map fun p => p.2.map (pcS p.1)).flatten
def rowAt (R : Rows) (l : Nat) : List Pc := ((R.find? fun p => p.1 == l).map (·.2)).getD []
def tot (R : Rows) : Nat := (R.map fun p => p.2.length).sum
abbrev mapF (R : Rows) : List (Str × D) := [("_rows", .fdc (R.map rowD)), ("_pieces", .tup ((allP R).map sgD))]
/-! ### values by the law's walk -/
def bet : Option Sg → Sg → Bool
  | none, _ => true
  | some h, g => decide (h.b < g.b)
def best (gs : List Sg) (l c : Nat) : Option Sg := gs.foldl (fun a g => if g.ln = l ∧ g.b ≤ c ∧ bet a g = true then some g else a) none
def tol (gs : List Sg) (l c : Nat) : Option Tg := match best gs l c with
  | none => none
  | some g => tv g.td (c - g.b)
def top (gs : List Sg) (l : Nat) : Nat := (gs.filter fun g => g.ln == l).foldl (fun a g => max a (g.b + 1)) 0
end MP

/-! Rules over typed data; comparisons of targets. -/
namespace DL
open PySem L2 StX
section
variable {K : PySem.W.Frag} [Tb K] {Z : ZX} {ds : DS} {n : Nat} {P : D → Nat → Prop} {g : TG} {tt : TT} {te tk tv : TE}
theorem Wi_imp {wi : TI} {ds : DS} {n : Nat} {P P' : List D → Nat → Prop} (h : Wi K Z wi ds n P) (i : ∀ xs m, P xs m → P' xs m) : Wi K Z wi ds n P' := fun b u σ R e S k => h b u σ R e S fun J xs u' G Y g s p w a c => k J xs u' G Y g s (i _ _ p) w a c
theorem Wgc_imp {g : TG} {js : List Nat} {x : D} {ds : DS} {P P' : DS → Prop} (h : Wgc K Z g js x ds P) (i : ∀ d, P d → P' d) : Wgc K Z g js x ds P' := fun b u σ v Q S r k => h b u σ v Q S r fun ds' σ' S' l f p => k ds' σ' S' l f (i _ p)
theorem Wt.imp {P P' : Bool → Nat → Prop} (h : Wt K Z tt ds n P) (i : ∀ c m, P c m → P' c m) : Wt K Z tt ds n P' := fun b u σ Q e S k => h b u σ Q e S fun c u' g s p => k c u' g s (i _ _ p)
/-- a comprehension over typed data -/
theorem lct_core {α : Type} {enc : α → D} {out : α → Option D} {l : List α} {m : Nat} {vs : List Nat} (hl : l.length ≤ 1000000)
    (hs : ∀ x, x ∈ l → Wgc K Z g vs (enc x) (wipeD ds vs) fun ds2 => Wt K Z tt ds2 m fun c j => j = m ∧ if c = true then We K Z te ds2 m (fun y k => k = m ∧ out x = some y) else out x = none) :
    ∃ Iv : Nat → List D → Nat → Prop, Iv 0 [] m ∧
    (∀ i x ys k, (l.map enc)[i]? = some x → Iv i ys k → Wgc K Z g vs x (wipeD ds vs) fun ds2 => Wt K Z tt ds2 k fun c j => if c = true then We K Z te ds2 j (fun y l => ys.length < 1000000 ∧ Iv (i + 1) (ys ++ [y]) l) else Iv (i + 1) ys j) ∧
    (∀ ys k, Iv (l.map enc).length ys k → k = m ∧ ys = l.filterMap out) := by
  refine ⟨fun i ys k => k = m ∧ ys = (l.take i).filterMap out ∧ i ≤ l.length, ⟨rfl, by simp, Nat.zero_le _⟩, fun i x ys k hx ⟨ek, ey, hi0⟩ => ?_, fun ys k ⟨ek, ey, _⟩ => ⟨ek, by rw [ey, List.length_map, List.take_length]⟩⟩
  subst ek ey
  rw [List.getElem?_map] at hx
  obtain ⟨x, hx', rfl⟩ := Option.map_eq_some_iff.mp hx
  clear hx
  have hx := hx'
  have hi : i < l.length := (List.getElem?_eq_some_iff.mp hx).1
  have et : l.take (i + 1) = l.take i ++ [x] := by rw [List.take_add_one, hx]; rfl
  refine Wgc_imp (hs x (List.mem_of_getElem? hx)) fun ds2 q => q.imp fun c j ⟨ej, q⟩ => ?_
  subst ej
  cases c with
  | false =>
    rw [if_neg Bool.false_ne_true] at q ⊢
    exact ⟨rfl, by rw [et, List.filterMap_append]; simp [q], by omega⟩
  | true =>
    rw [if_pos rfl] at q ⊢
    refine q.imp fun y k ⟨ek, ey⟩ => ?_
    subst ek
    refine ⟨?_, rfl, by rw [et, List.filterMap_append]; simp [ey], by omega⟩
    have := List.length_filterMap_le out (l.take i)
    rw [List.length_take] at this
    omega
theorem we_lct {α : Type} (enc : α → D) (out : α → Option D) (l : List α) {wi : TI} {vs : List Nat} (h : Wi K Z wi ds n fun xs m => xs = l.map enc ∧ l.length ≤ 1000000 ∧
    (∀ x, x ∈ l → Wgc K Z g vs (enc x) (wipeD ds vs) fun ds2 => Wt K Z tt ds2 m fun c j => j = m ∧ if c = true then We K Z te ds2 m (fun y k => k = m ∧ out x = some y) else out x = none) ∧ P (.lst (l.filterMap out)) m) : We K Z (tLc wi g tt te vs) ds n P :=
  we_lc (Wi_imp h fun xs m ⟨hx, hl, hs, hp⟩ => by
    subst hx
    obtain ⟨Iv, a, b, c⟩ := lct_core hl hs
    exact ⟨Iv, a, b, fun ys k q => by obtain ⟨rfl, rfl⟩ := c ys k q; exact hp⟩)
/-- a loop over typed data -/
theorem ws_fort {α : Type} (enc : α → D) (l : List α) {wi : TI} {tb : TS} {N : Nd} (h : Wi K Z wi ds n fun xs m => xs = l.map enc ∧ ∃ Iv : Nat → DS → Nat → Prop, Iv 0 ds m ∧
    (∀ i x ds' k, l[i]? = some x → Iv i ds' k → Wg K Z g (enc x) ds' fun ds2 => Ws K Z tb ds2 k { nx := Iv (i + 1), rt := N.rt, bk := N.nx, ct := Iv (i + 1) }) ∧ (∀ ds' k, Iv l.length ds' k → N.nx ds' k)) : Ws K Z (tFor wi g tb) ds n N :=
  ws_for (Wi_imp h fun xs m ⟨hx, Iv, a, b, c⟩ => by
    subst hx
    refine ⟨Iv, a, fun i x ds' k hx iv => ?_, fun ds' k iv => c ds' k (by rwa [List.length_map] at iv)⟩
    rw [List.getElem?_map] at hx
    obtain ⟨x, hx', rfl⟩ := Option.map_eq_some_iff.mp hx
    clear hx
    have hx := hx'
    exact b i x ds' k hx iv)
theorem rng0_map (n : Nat) : rng 0 n = (List.range n).map fun (i : Nat) => D.int (i : Int) := by
  unfold rng
  exact List.map_congr_left fun i _ => by simp
end
end DL
namespace MP
open PySem L2 DL
def lmD : Option Nat → D
  | none => .non
  | some l => .int (l : Nat)
theorem mut_lm (l : Option Nat) : isMut (lmD l) = false := by cases l <;> rfl
def wP : Option Str → PyData
  | none => .none
  | some x => .str x
def tgP : Option Tg → PyData
  | none => .none
  | some t => .tuple [.str t.s, .int (t.l : Nat), .int (t.c : Nat), wP t.w]
section
variable {K : PySem.W.Frag} [Tb K] {P : D → Prop}
end
end MP
namespace MP
open PySem L2 DL
/-- the columns of the first i stretches -/
def colsP (xs : List Stt) : Nat → List (Nat × Option Tg)
  | 0 => []
  | i + 1 => colsP xs i ++ (match xs[i]?, xs[i + 1]? with
    | some x, some y => (List.range (min 3 (y.1 - x.1))).map fun q => (x.1 + q, tv x.2 q)
    | some x, none => (List.range 3).map fun q => (x.1 + q, tv x.2 q)
    | none, _ => [])
end MP
namespace MP
open PySem L2 DL
end MP

/-! The mathematics of joined ranges: row, first column, column behind (none: no end). -/
namespace RG
abbrev Rn := Nat × Nat × Option Nat
def wf (r : Rn) : Prop := ∀ h, r.2.2 = some h → r.2.1 < h
def cv (r : Rn) (row c : Nat) : Prop := r.1 = row ∧ r.2.1 ≤ c ∧ ∀ h, r.2.2 = some h → c < h
instance (o : Option Nat) (c : Nat) : Decidable (∀ h, o = some h → c < h) := match o with
  | none => isTrue fun _ z => by cases z
  | some x => if q : c < x then isTrue fun h z => by cases z; exact q else isFalse fun z => q (z x rfl)
instance (r : Rn) (row c : Nat) : Decidable (cv r row c) := by unfold cv; exact inferInstance
def cov (L : List Rn) (row c : Nat) : Prop := ∃ r ∈ L, cv r row c
instance (L : List Rn) (row c : Nat) : Decidable (cov L row c) := by unfold cov; exact inferInstance
/-- in front of, and not touching -/
def sep (a b : Rn) : Prop := a.1 < b.1 ∨ (a.1 = b.1 ∧ ∃ h, a.2.2 = some h ∧ h < b.2.1)
structure Can (L : List Rn) : Prop where
  p : L.Pairwise sep
  w : ∀ r ∈ L, wf r
def lex (a b : Rn) : Prop := a.1 < b.1 ∨ (a.1 = b.1 ∧ a.2.1 ≤ b.2.1)
theorem lex_tr {a b c : Rn} (h : lex a b) (k : lex b c) : lex a c := by unfold lex at *; omega
theorem sep_lex {a b : Rn} (h : sep a b) (w : wf a) : lex a b ∧ ¬ (a.1 = b.1 ∧ a.2.1 = b.2.1) := by
  rcases h with h | ⟨h1, x, h2, h3⟩
  · exact ⟨.inl h, by omega⟩
  · have := w x h2
    exact ⟨.inr ⟨h1, by omega⟩, by omega⟩
theorem cv_low {r : Rn} (w : wf r) : cv r r.1 r.2.1 := ⟨rfl, Nat.le_refl _, fun h e => w h e⟩
theorem cov_nil (row c : Nat) : ¬ cov [] row c := fun ⟨_, h, _⟩ => by cases h
theorem cov_cons {a : Rn} {L : List Rn} {row c : Nat} : cov (a :: L) row c ↔ cv a row c ∨ cov L row c := by
  unfold cov
  constructor
  · rintro ⟨r, hr, h⟩
    rcases List.mem_cons.mp hr with rfl | z
    · exact .inl h
    · exact .inr ⟨r, z, h⟩
  · rintro (h | ⟨r, hr, h⟩)
    · exact ⟨a, List.mem_cons_self .., h⟩
    · exact ⟨r, List.mem_cons_of_mem _ hr, h⟩
theorem cov_app {L M : List Rn} {row c : Nat} : cov (L ++ M) row c ↔ cov L row c ∨ cov M row c := by
  unfold cov
  constructor
  · rintro ⟨r, hr, h⟩
    rcases List.mem_append.mp hr with z | z
    · exact .inl ⟨r, z, h⟩
    · exact .inr ⟨r, z, h⟩
  · rintro (⟨r, hr, h⟩ | ⟨r, hr, h⟩)
    · exact ⟨r, List.mem_append_left _ hr, h⟩
    · exact ⟨r, List.mem_append_right _ hr, h⟩
/-- all that a canonical list covers is from its first range on -/
theorem can_head {b : Rn} {M : List Rn} (h : Can (b :: M)) {row c : Nat} (hc : cov (b :: M) row c) : b.1 < row ∨ (b.1 = row ∧ b.2.1 ≤ c) := by
  obtain ⟨r, hr, h1, h2, h3⟩ := hc
  rcases List.mem_cons.mp hr with rfl | z
  · omega
  · have := (sep_lex ((List.pairwise_cons.mp h.p).1 r z) (h.w b (List.mem_cons_self ..))).1
    unfold lex at this
    omega
/-- in the row of the first range, the columns behind it are not covered up to where the next begins -/
theorem can_tail {b : Rn} {M : List Rn} (h : Can (b :: M)) {row c : Nat} (h1 : cv b row c) : ¬ cov M row c := fun ⟨r, hr, k1, k2, k3⟩ => by
  rcases (List.pairwise_cons.mp h.p).1 r hr with z | ⟨z1, x, z2, z3⟩
  · have := h1.1; omega
  · have := h1.2.2 x z2; omega
theorem can_end {b : Rn} {M : List Rn} (h : Can (b :: M)) {x : Nat} (e : b.2.2 = some x) : ¬ cov (b :: M) b.1 x := fun hc => by
  rcases cov_cons.mp hc with z | ⟨r, hr, k1, k2, k3⟩
  · have := z.2.2 x e; omega
  · rcases (List.pairwise_cons.mp h.p).1 r hr with z | ⟨z1, y, z2, z3⟩
    · omega
    · rw [e] at z2; cases z2; omega
theorem can_ext : ∀ {L M : List Rn}, Can L → Can M → (∀ row c, cov L row c ↔ cov M row c) → L = M
  | [], [], _, _, _ => rfl
  | [], b :: M, _, k, e => absurd ((e _ _).mpr (cov_cons.mpr (.inl (cv_low (k.w b (List.mem_cons_self ..)))))) (cov_nil _ _)
  | a :: L, [], h, _, e => absurd ((e _ _).mp (cov_cons.mpr (.inl (cv_low (h.w a (List.mem_cons_self ..)))))) (cov_nil _ _)
  | a :: L, b :: M, h, k, e => by
    have wa := h.w a (List.mem_cons_self ..)
    have wb := k.w b (List.mem_cons_self ..)
    have h1 := can_head k ((e _ _).mp (cov_cons.mpr (.inl (cv_low wa))))
    have h2 := can_head h ((e _ _).mpr (cov_cons.mpr (.inl (cv_low wb))))
    have er : a.1 = b.1 := by omega
    have el : a.2.1 = b.2.1 := by omega
    have eh : a.2.2 = b.2.2 := by
      have one : ∀ {a b : Rn} {L M : List Rn}, Can (a :: L) → Can (b :: M) → (∀ row c, cov (a :: L) row c ↔ cov (b :: M) row c) → a.1 = b.1 → a.2.1 = b.2.1 → ∀ x, a.2.2 = some x → ∃ y, b.2.2 = some y ∧ y ≤ x := fun {a b L M} h k e er el x hx => by
        cases q : b.2.2 with
        | none =>
          refine absurd ((e a.1 x).mpr (cov_cons.mpr (.inl ⟨er.symm, ?_, fun y z => by rw [q] at z; cases z⟩))) (can_end h hx)
          have := h.w a (List.mem_cons_self ..) x hx
          omega
        | some y =>
          refine ⟨y, rfl, ?_⟩
          rcases Nat.lt_or_ge x y with z | z
          · refine absurd ((e a.1 x).mpr (cov_cons.mpr (.inl ⟨er.symm, ?_, fun y' z' => by rw [q] at z'; cases z'; exact z⟩))) (can_end h hx)
            have := h.w a (List.mem_cons_self ..) x hx
            omega
          · exact z
      have o1 := one h k e er el
      have o2 := one k h (fun r c => (e r c).symm) er.symm el.symm
      cases p : a.2.2 with
      | none =>
        cases q : b.2.2 with
        | none => rfl
        | some y => obtain ⟨x, z, _⟩ := o2 y q; rw [p] at z; cases z
      | some x =>
        obtain ⟨y, z, z1⟩ := o1 x p
        obtain ⟨x', z', z2⟩ := o2 y z
        rw [p] at z'; cases z'
        rw [z]; congr 1; omega
    have eab : a = b := Prod.ext er (Prod.ext el eh)
    subst eab
    congr 1
    refine can_ext ⟨(List.pairwise_cons.mp h.p).2, fun r hr => h.w r (List.mem_cons_of_mem _ hr)⟩ ⟨(List.pairwise_cons.mp k.p).2, fun r hr => k.w r (List.mem_cons_of_mem _ hr)⟩ fun row c => ⟨fun z => ?_, fun z => ?_⟩
    · rcases cov_cons.mp ((e row c).mp (cov_cons.mpr (.inr z))) with y | y
      · exact absurd z (can_tail h y)
      · exact y
    · rcases cov_cons.mp ((e row c).mpr (cov_cons.mpr (.inr z))) with y | y
      · exact absurd z (can_tail k y)
      · exact y
/-! joining -/
def later : Option Nat → Option Nat → Option Nat
  | some a, some b => some (max a b)
  | _, _ => none
def jstep (acc : List Rn) (r : Rn) : List Rn := match acc.getLast? with
  | some b => if b.1 = r.1 ∧ (∀ h, b.2.2 = some h → r.2.1 ≤ h) then acc.dropLast ++ [(r.1, b.2.1, later b.2.2 r.2.2)] else acc ++ [r]
  | none => acc ++ [r]
def leR (a b : Rn) : Bool := decide (a.1 < b.1 ∨ (a.1 = b.1 ∧ a.2.1 ≤ b.2.1))
def jn (rs : List Rn) : List Rn := (rs.mergeSort leR).foldl jstep []
structure Inv (acc pre : List Rn) : Prop where
  can : Can acc
  cov : ∀ row c, RG.cov acc row c ↔ RG.cov pre row c
  low : ∀ a ∈ acc, ∃ p ∈ pre, a.1 = p.1 ∧ a.2.1 = p.2.1
  len : acc.length ≤ pre.length
theorem later_wf {b r : Rn} (wb : wf b) (wr : wf r) (hl : b.2.1 ≤ r.2.1) : wf (r.1, b.2.1, later b.2.2 r.2.2) := by
  intro h e
  have e : later b.2.2 r.2.2 = some h := e
  show b.2.1 < h
  cases p : b.2.2 with
  | none => rw [p] at e; cases e
  | some x =>
    cases q : r.2.2 with
    | none => rw [p, q] at e; cases e
    | some y =>
      rw [p, q] at e
      cases e
      have := wb x p
      omega
theorem later_cv {b r : Rn} (wb : wf b) (wr : wf r) (er : b.1 = r.1) (hl : b.2.1 ≤ r.2.1) (ht : ∀ h, b.2.2 = some h → r.2.1 ≤ h) (row c : Nat) : cv (r.1, b.2.1, later b.2.2 r.2.2) row c ↔ cv b row c ∨ cv r row c := by
  unfold cv
  simp only
  cases p : b.2.2 with
  | none =>
    show r.1 = row ∧ b.2.1 ≤ c ∧ (∀ h, none = some h → c < h) ↔ _
    constructor
    · rintro ⟨a1, a2, _⟩; exact .inl ⟨by omega, a2, fun _ z => by cases z⟩
    · rintro (⟨a1, a2, _⟩ | ⟨a1, a2, _⟩)
      · exact ⟨by omega, a2, fun _ z => by cases z⟩
      · exact ⟨a1, by omega, fun _ z => by cases z⟩
  | some x =>
    have hx := ht x p
    cases q : r.2.2 with
    | none =>
      show r.1 = row ∧ b.2.1 ≤ c ∧ (∀ h, none = some h → c < h) ↔ _
      constructor
      · rintro ⟨a1, a2, _⟩
        by_cases z : c < x
        · exact .inl ⟨by omega, a2, fun _ e => by cases e; exact z⟩
        · exact .inr ⟨a1, by omega, fun _ e => by cases e⟩
      · rintro (⟨a1, a2, _⟩ | ⟨a1, a2, _⟩)
        · exact ⟨by omega, a2, fun _ z => by cases z⟩
        · exact ⟨a1, by omega, fun _ z => by cases z⟩
    | some y =>
      show r.1 = row ∧ b.2.1 ≤ c ∧ (∀ h, some (max x y) = some h → c < h) ↔ _
      constructor
      · rintro ⟨a1, a2, a3⟩
        have a3 := a3 _ rfl
        by_cases z : c < x
        · exact .inl ⟨by omega, a2, fun _ e => by cases e; exact z⟩
        · exact .inr ⟨a1, by omega, fun _ e => by cases e; omega⟩
      · rintro (⟨a1, a2, a3⟩ | ⟨a1, a2, a3⟩)
        · have := a3 _ rfl
          exact ⟨by omega, a2, fun _ z => by cases z; omega⟩
        · have := a3 _ rfl
          exact ⟨a1, by omega, fun _ z => by cases z; omega⟩
theorem last_is {acc : List Rn} {b : Rn} (h : acc.getLast? = some b) : acc = acc.dropLast ++ [b] := by
  obtain ⟨ys, rfl⟩ := List.getLast?_eq_some_iff.mp h
  simp
theorem jstep_inv {acc pre : List Rn} {r : Rn} (I : Inv acc pre) (wr : wf r) (hp : ∀ p ∈ pre, lex p r) : Inv (jstep acc r) (pre ++ [r]) := by
  have lw : ∀ a ∈ acc, lex a r := fun a ha => by
    obtain ⟨p, hp', e1, e2⟩ := I.low a ha
    have := hp p hp'
    unfold lex at *
    omega
  have app : (∀ a ∈ acc, sep a r) → Inv (acc ++ [r]) (pre ++ [r]) := fun hs => by
    refine ⟨⟨List.pairwise_append.mpr ⟨I.can.p, List.pairwise_singleton .., fun a ha b hb => by rw [List.mem_singleton.mp hb]; exact hs a ha⟩, fun a ha => ?_⟩, fun row c => by rw [cov_app, cov_app, I.cov], fun a ha => ?_, by simp [I.len]⟩
    · rcases List.mem_append.mp ha with z | z
      · exact I.can.w a z
      · rw [List.mem_singleton.mp z]; exact wr
    · rcases List.mem_append.mp ha with z | z
      · obtain ⟨p, hp', e⟩ := I.low a z
        exact ⟨p, List.mem_append_left _ hp', e⟩
      · rw [List.mem_singleton.mp z]; exact ⟨r, List.mem_append_right _ (List.mem_singleton.mpr rfl), rfl, rfl⟩
  unfold jstep
  cases q : acc.getLast? with
  | none =>
    have : acc = [] := List.getLast?_eq_none_iff.mp q
    subst this
    exact app fun a ha => by cases ha
  | some b =>
    have ea := last_is q
    have hb : b ∈ acc := List.mem_of_getLast? q
    have wb := I.can.w b hb
    have lb := lw b hb
    have hP := I.can.p
    rw [ea] at hP
    obtain ⟨p1, _, p2⟩ := List.pairwise_append.mp hP
    show Inv (if b.1 = r.1 ∧ (∀ h, b.2.2 = some h → r.2.1 ≤ h) then _ else _) _
    by_cases z : b.1 = r.1 ∧ (∀ h, b.2.2 = some h → r.2.1 ≤ h)
    · rw [if_pos z]
      obtain ⟨er, ht⟩ := z
      have hl : b.2.1 ≤ r.2.1 := by unfold lex at lb; omega
      refine ⟨⟨List.pairwise_append.mpr ⟨p1, List.pairwise_singleton .., fun a ha c hc => ?_⟩, fun a ha => ?_⟩, fun row c => ?_, fun a ha => ?_, ?_⟩
      · rw [List.mem_singleton.mp hc]
        have := p2 a ha b (List.mem_singleton.mpr rfl)
        unfold sep at this ⊢
        simp only
        rw [← er]
        exact this
      · rcases List.mem_append.mp ha with y | y
        · exact I.can.w a (by rw [ea]; exact List.mem_append_left _ y)
        · rw [List.mem_singleton.mp y]; exact later_wf wb wr hl
      · rw [cov_app, cov_app, ← I.cov]
        have e1 : RG.cov acc row c ↔ RG.cov acc.dropLast row c ∨ RG.cov [b] row c := by rw [← cov_app, ← ea]
        rw [e1, cov_cons, cov_cons, cov_cons, later_cv wb wr er hl ht]
        have := cov_nil row c
        constructor
        · rintro (y | (y | y) | y)
          · exact .inl (.inl y)
          · exact .inl (.inr (.inl y))
          · exact .inr (.inl y)
          · exact absurd y this
        · rintro ((y | (y | y)) | (y | y))
          · exact .inl y
          · exact .inr (.inl (.inl y))
          · exact absurd y this
          · exact .inr (.inl (.inr y))
          · exact absurd y this
      · rcases List.mem_append.mp ha with y | y
        · obtain ⟨p, hp', e⟩ := I.low a (by rw [ea]; exact List.mem_append_left _ y)
          exact ⟨p, List.mem_append_left _ hp', e⟩
        · rw [List.mem_singleton.mp y]
          obtain ⟨p, hp', e1, e2⟩ := I.low b hb
          exact ⟨p, List.mem_append_left _ hp', by show r.1 = p.1; omega, e2⟩
      · have := I.len
        have h1 : acc.length = acc.dropLast.length + 1 := by
          have := congrArg List.length ea
          simpa using this
        rw [List.length_append, List.length_append]
        simp only [List.length_singleton]
        omega
    · rw [if_neg z]
      have sb : sep b r := by
        unfold lex at lb
        rcases lb with y | ⟨y, _⟩
        · exact .inl y
        · refine .inr ⟨y, ?_⟩
          cases e : b.2.2 with
          | none => exact absurd ⟨y, fun h k => by rw [e] at k; cases k⟩ z
          | some x =>
            refine ⟨x, rfl, ?_⟩
            rcases Nat.lt_or_ge x r.2.1 with k | k
            · exact k
            · exact absurd ⟨y, fun h e' => by rw [e] at e'; cases e'; exact k⟩ z
      refine app fun a ha => ?_
      rw [ea] at ha
      rcases List.mem_append.mp ha with y | y
      · have s1 := p2 a y b (List.mem_singleton.mpr rfl)
        unfold sep at s1 ⊢
        unfold lex at lb
        rcases s1 with k | ⟨k1, x, k2, k3⟩
        · omega
        · rcases lb with l | ⟨l1, l2⟩
          · exact .inl (by omega)
          · exact .inr ⟨by omega, x, k2, by omega⟩
      · rw [List.mem_singleton.mp y]; exact sb
theorem foldl_inv : ∀ (xs : List Rn) {acc pre : List Rn}, Inv acc pre → (∀ r ∈ xs, wf r) → xs.Pairwise lex → (∀ p ∈ pre, ∀ r ∈ xs, lex p r) → Inv (xs.foldl jstep acc) (pre ++ xs)
  | [], acc, pre, I, _, _, _ => by simpa using I
  | r :: xs, acc, pre, I, w, hs, hp => by
    obtain ⟨h1, h2⟩ := List.pairwise_cons.mp hs
    have := foldl_inv xs (jstep_inv I (w r (List.mem_cons_self ..)) fun p hp' => hp p hp' r (List.mem_cons_self ..)) (fun s hs' => w s (List.mem_cons_of_mem _ hs')) h2 fun p hp' s hs' => by
      rcases List.mem_append.mp hp' with y | y
      · exact hp p y s (List.mem_cons_of_mem _ hs')
      · rw [List.mem_singleton.mp y]; exact h1 s hs'
    simpa using this
theorem sorted (rs : List Rn) : (rs.mergeSort leR).Pairwise lex := by
  have := List.pairwise_mergeSort (le := leR) (fun a b c h1 h2 => by
    unfold leR at *
    simp only [decide_eq_true_eq] at *
    omega) (fun a b => by
    unfold leR
    simp only [Bool.or_eq_true, decide_eq_true_eq]
    omega) rs
  exact this.imp fun h => by
    unfold leR at h
    simpa [lex] using h
theorem jn_inv {rs : List Rn} (w : ∀ r ∈ rs, wf r) : Inv (jn rs) (rs.mergeSort leR) := by
  have := foldl_inv (rs.mergeSort leR) (acc := []) (pre := []) ⟨⟨List.Pairwise.nil, fun r hr => by cases hr⟩, fun _ _ => Iff.rfl, (fun a ha => by cases ha), Nat.le_refl _⟩ (fun r hr => w r ((List.mergeSort_perm ..).mem_iff.mp hr)) (sorted rs) fun p hp => by cases hp
  rw [List.nil_append] at this
  exact this
theorem jn_can {rs : List Rn} (w : ∀ r ∈ rs, wf r) : Can (jn rs) := (jn_inv w).can
theorem jn_cov {rs : List Rn} (w : ∀ r ∈ rs, wf r) (row c : Nat) : cov (jn rs) row c ↔ cov rs row c := by
  rw [(jn_inv w).cov]
  unfold cov
  exact ⟨fun ⟨r, hr, h⟩ => ⟨r, (List.mergeSort_perm ..).mem_iff.mp hr, h⟩, fun ⟨r, hr, h⟩ => ⟨r, (List.mergeSort_perm ..).mem_iff.mpr hr, h⟩⟩
theorem jn_len {rs : List Rn} (w : ∀ r ∈ rs, wf r) : (jn rs).length ≤ rs.length := by
  have := (jn_inv w).len
  rwa [(List.mergeSort_perm ..).length_eq] at this
theorem jn_low {rs : List Rn} (w : ∀ r ∈ rs, wf r) : ∀ a ∈ jn rs, ∃ p ∈ rs, a.1 = p.1 ∧ a.2.1 = p.2.1 := fun a ha => by
  obtain ⟨p, hp, e⟩ := (jn_inv w).low a ha
  exact ⟨p, (List.mergeSort_perm ..).mem_iff.mp hp, e⟩
theorem jn_is {rs L : List Rn} (w : ∀ r ∈ rs, wf r) (h : Can L) (e : ∀ row c, cov L row c ↔ cov rs row c) : jn rs = L := can_ext (jn_can w) h fun row c => by rw [jn_cov w, e]
theorem jn_ext {rs rs' : List Rn} (w : ∀ r ∈ rs, wf r) (h : ∀ r, r ∈ rs' ↔ r ∈ rs) : jn rs' = jn rs := by
  refine jn_is (fun r hr => w r ((h r).mp hr)) (jn_can w) fun row c => ?_
  rw [jn_cov w]
  unfold cov
  exact ⟨fun ⟨r, hr, k⟩ => ⟨r, (h r).mpr hr, k⟩, fun ⟨r, hr, k⟩ => ⟨r, (h r).mp hr, k⟩⟩
theorem jn_again {rs : List Rn} (w : ∀ r ∈ rs, wf r) : jn (jn rs) = jn rs := jn_is (jn_can w).w (jn_can w) fun _ _ => Iff.rfl
end RG

/-! Ranges joined column by column. -/
namespace RG
structure Du (rs acc : List Rn) (row t : Nat) : Prop where
  can : Can acc
  cov : ∀ r' c, RG.cov acc r' c ↔ (r' < row ∧ RG.cov rs r' c) ∨ (r' = row ∧ c < t ∧ RG.cov rs r' c)
  top : ∀ a ∈ acc, a.1 < row ∨ (a.1 = row ∧ ∃ h, a.2.2 = some h ∧ h ≤ t)
theorem du0 (rs : List Rn) : Du rs [] 0 0 := ⟨⟨List.Pairwise.nil, fun r hr => by cases hr⟩, fun r' c => ⟨fun z => absurd z (cov_nil _ _), fun z => by omega⟩, fun a ha => by cases ha⟩
def dstep (acc : List Rn) (row t : Nat) : List Rn := match acc.getLast? with
  | some b => if b.1 = row ∧ b.2.2 = some t then acc.dropLast ++ [(row, b.2.1, some (t + 1))] else acc ++ [(row, t, some (t + 1))]
  | none => acc ++ [(row, t, some (t + 1))]
theorem du_not {rs acc : List Rn} {row t : Nat} (h : Du rs acc row t) (hc : ¬ cov rs row t) : Du rs acc row (t + 1) := by
  refine ⟨h.can, fun r' c => ?_, fun a ha => ?_⟩
  · rw [h.cov]
    constructor
    · rintro (⟨a, b⟩ | ⟨a, b, c⟩)
      · exact .inl ⟨a, b⟩
      · exact .inr ⟨a, by omega, c⟩
    · rintro (⟨a, b⟩ | ⟨a, b, k⟩)
      · exact .inl ⟨a, b⟩
      · refine .inr ⟨a, ?_, k⟩
        rcases Nat.lt_or_ge c t with z | z
        · exact z
        · have e : c = t := by omega
          subst e a
          exact absurd k hc
  · rcases h.top a ha with z | ⟨z, x, e, l⟩
    · exact .inl z
    · exact .inr ⟨z, x, e, by omega⟩
theorem du_step {rs acc : List Rn} {row t : Nat} (h : Du rs acc row t) (hc : cov rs row t) : Du rs (dstep acc row t) row (t + 1) := by
  have goal : ∀ L : List Rn, Can L → (∀ r' c, cov L r' c ↔ cov acc r' c ∨ (r' = row ∧ c = t)) → (∀ a ∈ L, a ∈ acc ∨ (a.1 = row ∧ a.2.2 = some (t + 1))) → Du rs L row (t + 1) := fun L h1 h2 h3 => by
    refine ⟨h1, fun r' c => ?_, fun a ha => ?_⟩
    · rw [h2, h.cov]
      constructor
      · rintro ((⟨a, b⟩ | ⟨a, b, c⟩) | ⟨a, b⟩)
        · exact .inl ⟨a, b⟩
        · exact .inr ⟨a, by omega, c⟩
        · subst a b; exact .inr ⟨rfl, by omega, hc⟩
      · rintro (⟨a, b⟩ | ⟨a, b, k⟩)
        · exact .inl (.inl ⟨a, b⟩)
        · rcases Nat.lt_or_ge c t with z | z
          · exact .inl (.inr ⟨a, z, k⟩)
          · exact .inr ⟨a, by omega⟩
    · rcases h3 a ha with z | ⟨z1, z2⟩
      · rcases h.top a z with y | ⟨y, x, e, l⟩
        · exact .inl y
        · exact .inr ⟨y, x, e, by omega⟩
      · exact .inr ⟨z1, _, z2, Nat.le_refl _⟩
  have app : (∀ a ∈ acc, sep a (row, t, some (t + 1))) → Du rs (acc ++ [(row, t, some (t + 1))]) row (t + 1) := fun hs => by
    refine goal _ ⟨List.pairwise_append.mpr ⟨h.can.p, List.pairwise_singleton .., fun a ha b hb => by rw [List.mem_singleton.mp hb]; exact hs a ha⟩, fun a ha => ?_⟩ (fun r' c => ?_) fun a ha => ?_
    · rcases List.mem_append.mp ha with z | z
      · exact h.can.w a z
      · rw [List.mem_singleton.mp z]; intro x e; cases e; show t < t + 1; omega
    · rw [cov_app, cov_cons]
      have := cov_nil r' c
      constructor
      · rintro (a | (⟨a, b, d⟩ | a))
        · exact .inl a
        · have := d _ rfl
          exact .inr ⟨a.symm, by simp only at b; omega⟩
        · exact absurd a this
      · rintro (a | ⟨a, b⟩)
        · exact .inl a
        · subst a b
          exact .inr (.inl ⟨rfl, Nat.le_refl _, fun x e => by cases e; omega⟩)
    · rcases List.mem_append.mp ha with z | z
      · exact .inl z
      · rw [List.mem_singleton.mp z]; exact .inr ⟨rfl, rfl⟩
  unfold dstep
  cases q : acc.getLast? with
  | none =>
    have e : acc = [] := List.getLast?_eq_none_iff.mp q
    subst e
    exact app fun a ha => by cases ha
  | some b =>
    have ea := last_is q
    have hb : b ∈ acc := List.mem_of_getLast? q
    have wb := h.can.w b hb
    have hP := h.can.p
    rw [ea] at hP
    obtain ⟨p1, _, p2⟩ := List.pairwise_append.mp hP
    show Du rs (if b.1 = row ∧ b.2.2 = some t then _ else _) row (t + 1)
    by_cases z : b.1 = row ∧ b.2.2 = some t
    · rw [if_pos z]
      obtain ⟨z1, z2⟩ := z
      have wl := wb t z2
      refine goal _ ⟨List.pairwise_append.mpr ⟨p1, List.pairwise_singleton .., fun a ha c hc' => ?_⟩, fun a ha => ?_⟩ (fun r' c => ?_) fun a ha => ?_
      · rw [List.mem_singleton.mp hc']
        have := p2 a ha b (List.mem_singleton.mpr rfl)
        unfold sep at this ⊢
        simp only
        rw [← z1]
        exact this
      · rcases List.mem_append.mp ha with y | y
        · exact h.can.w a (by rw [ea]; exact List.mem_append_left _ y)
        · rw [List.mem_singleton.mp y]; intro x e; cases e; show b.2.1 < t + 1; omega
      · have e1 : RG.cov acc r' c ↔ RG.cov acc.dropLast r' c ∨ RG.cov [b] r' c := by rw [← cov_app, ← ea]
        rw [cov_app, e1, cov_cons, cov_cons]
        have := cov_nil r' c
        constructor
        · rintro (a | (⟨a, k, d⟩ | a))
          · exact .inl (.inl a)
          · have d := d _ rfl
            simp only at a k
            rcases Nat.lt_or_ge c t with y | y
            · exact .inl (.inr (.inl ⟨by omega, k, fun x e => by rw [z2] at e; cases e; exact y⟩))
            · exact .inr ⟨a.symm, by omega⟩
          · exact absurd a this
        · rintro ((a | (⟨a, k, d⟩ | a)) | ⟨a, k⟩)
          · exact .inl a
          · have := d _ z2
            exact .inr (.inl ⟨by simp only; omega, k, fun x e => by cases e; omega⟩)
          · exact absurd a this
          · subst a k
            exact .inr (.inl ⟨rfl, by simp only; omega, fun x e => by cases e; omega⟩)
      · rcases List.mem_append.mp ha with y | y
        · exact .inl (by rw [ea]; exact List.mem_append_left _ y)
        · rw [List.mem_singleton.mp y]; exact .inr ⟨rfl, rfl⟩
    · rw [if_neg z]
      refine app fun a ha => ?_
      rcases h.top a ha with y | ⟨y, x, e, l⟩
      · exact .inl y
      · refine .inr ⟨y, x, e, ?_⟩
        show x < t
        rw [ea] at ha
        rcases List.mem_append.mp ha with k | k
        · have s := p2 a k b (List.mem_singleton.mpr rfl)
          have hbt := h.top b hb
          rcases s with s | ⟨s1, x', s2, s3⟩
          · omega
          · rw [e] at s2; cases s2
            rcases hbt with u | ⟨u, v, u1, u2⟩
            · omega
            · have := wb v u1; omega
        · have k := List.mem_singleton.mp k
          subst k
          rcases Nat.lt_or_ge x t with u | u
          · exact u
          · have : x = t := by omega
            subst this
            exact absurd ⟨y, e⟩ z
/-- the row is done, and one of its ranges has no end -/
theorem du_open {rs acc : List Rn} {row : Nat} (h : Du rs acc row 17) (hl : ∀ r ∈ rs, r.2.1 < 10) (ho : ∃ r ∈ rs, r.1 = row ∧ r.2.2 = none) : ∃ b, acc.getLast? = some b ∧ Du rs (acc.dropLast ++ [(row, b.2.1, none)]) (row + 1) 0 := by
  obtain ⟨r, hr, r1, r2⟩ := ho
  have cr : ∀ c, 10 ≤ c → cov rs row c := fun c hc => ⟨r, hr, r1, by have := hl r hr; omega, fun x e => by rw [r2] at e; cases e⟩
  obtain ⟨a, ha, k1, k2, k3⟩ := (h.cov row 16).mpr (.inr ⟨rfl, by omega, cr 16 (by omega)⟩)
  cases q : acc.getLast? with
  | none =>
    have e : acc = [] := List.getLast?_eq_none_iff.mp q
    subst e
    cases ha
  | some b =>
    refine ⟨b, rfl, ?_⟩
    have ea := last_is q
    have hb : b ∈ acc := List.mem_of_getLast? q
    have wb := h.can.w b hb
    have hP := h.can.p
    rw [ea] at hP
    obtain ⟨p1, _, p2⟩ := List.pairwise_append.mp hP
    obtain ⟨ha17⟩ : Nonempty (a.2.2 = some 17) := by
      rcases h.top a ha with z | ⟨z, x, e, l⟩
      · omega
      · have := k3 x e
        have : x = 17 := by omega
        exact ⟨by rw [e, this]⟩
    have hbt := h.top b hb
    have eab : a = b := by
      rw [ea] at ha
      rcases List.mem_append.mp ha with k | k
      · exfalso
        rcases p2 a k b (List.mem_singleton.mpr rfl) with s | ⟨s1, x', s2, s3⟩
        · omega
        · rw [ha17] at s2; cases s2
          rcases hbt with u | ⟨u, v, u1, u2⟩
          · omega
          · have := wb v u1; omega
      · exact List.mem_singleton.mp k
    subst eab
    have wl := wb 17 ha17
    refine ⟨⟨List.pairwise_append.mpr ⟨p1, List.pairwise_singleton .., fun x hx c hc' => ?_⟩, fun x hx => ?_⟩, fun r' c => ?_, fun x hx => ?_⟩
    · rw [List.mem_singleton.mp hc']
      have := p2 x hx a (List.mem_singleton.mpr rfl)
      unfold sep at this ⊢
      simp only
      rw [← k1]
      exact this
    · rcases List.mem_append.mp hx with y | y
      · exact h.can.w x (by rw [ea]; exact List.mem_append_left _ y)
      · rw [List.mem_singleton.mp y]; intro x e; cases e
    · have e1 : RG.cov acc r' c ↔ RG.cov acc.dropLast r' c ∨ RG.cov [a] r' c := by rw [← cov_app, ← ea]
      have e2 := h.cov r' c
      rw [e1, cov_cons] at e2
      rw [cov_app, cov_cons]
      have := cov_nil r' c
      constructor
      · rintro (y | (⟨y, k, d⟩ | y))
        · rcases e2.mp (.inl y) with ⟨u, v⟩ | ⟨u, v, w⟩
          · exact .inl ⟨by omega, v⟩
          · exact .inl ⟨by omega, w⟩
        · simp only at y k
          subst y
          rcases Nat.lt_or_ge c 17 with z | z
          · rcases e2.mp (.inr (.inl ⟨k1, k, fun x e => by rw [ha17] at e; cases e; exact z⟩)) with ⟨u, v⟩ | ⟨u, v, w⟩
            · omega
            · exact .inl ⟨by omega, w⟩
          · exact .inl ⟨by omega, cr c (by omega)⟩
        · exact absurd y this
      · rintro (⟨y, k⟩ | ⟨y, k, d⟩)
        · rcases Nat.lt_or_ge r' row with z | z
          · rcases e2.mpr (.inl ⟨z, k⟩) with u | (u | u)
            · exact .inl u
            · have := u.1; omega
            · exact absurd u this
          · have er : r' = row := by omega
            subst er
            rcases Nat.lt_or_ge c 17 with z2 | z2
            · rcases e2.mpr (.inr ⟨rfl, z2, k⟩) with u | (u | u)
              · exact .inl u
              · exact .inr (.inl ⟨rfl, u.2.1, fun x e => by cases e⟩)
              · exact absurd u this
            · exact .inr (.inl ⟨rfl, by simp only; omega, fun x e => by cases e⟩)
        · omega
    · rcases List.mem_append.mp hx with y | y
      · rcases h.top x (by rw [ea]; exact List.mem_append_left _ y) with z | ⟨z, _⟩
        · exact .inl (by omega)
        · exact .inl (by omega)
      · rw [List.mem_singleton.mp y]; exact .inl (by show row < row + 1; omega)
theorem du_shut {rs acc : List Rn} {row : Nat} (h : Du rs acc row 17) (hh : ∀ r ∈ rs, ∀ x, r.2.2 = some x → x ≤ 14) (ho : ¬ ∃ r ∈ rs, r.1 = row ∧ r.2.2 = none) : Du rs acc (row + 1) 0 := by
  refine ⟨h.can, fun r' c => ?_, fun a ha => ?_⟩
  · rw [h.cov]
    constructor
    · rintro (⟨a, b⟩ | ⟨a, b, k⟩)
      · exact .inl ⟨by omega, b⟩
      · exact .inl ⟨by omega, k⟩
    · rintro (⟨a, b⟩ | ⟨a, b, k⟩)
      · rcases Nat.lt_or_ge r' row with z | z
        · exact .inl ⟨z, b⟩
        · refine .inr ⟨by omega, ?_, b⟩
          obtain ⟨r, hr, k1, k2, k3⟩ := b
          cases e : r.2.2 with
          | none => exact absurd ⟨r, hr, by omega, e⟩ ho
          | some x => have := hh r hr x e; have := k3 x e; omega
      · omega
  · rcases h.top a ha with z | ⟨z, _⟩
    · exact .inl (by omega)
    · exact .inl (by omega)
theorem du_end {rs acc : List Rn} (h : Du rs acc 2 0) (w : ∀ r ∈ rs, wf r) (hr : ∀ r ∈ rs, r.1 < 2) : jn rs = acc := by
  refine jn_is w h.can fun row c => ?_
  rw [h.cov]
  constructor
  · rintro (⟨_, b⟩ | ⟨_, _, b⟩) <;> exact b
  · intro b
    obtain ⟨r, hr', k1, _⟩ := id b
    have := hr r hr'
    exact .inl ⟨by omega, b⟩
end RG

namespace DL
open PySem L2 StX
theorem pdsm {α : Type} (f : α → D) (g : α → PyData) (h : ∀ a, pd (f a) = some (g a)) : ∀ l : List α, pds (l.map f) = some (l.map g)
  | [] => rfl
  | a :: l => by rw [List.map_cons, List.map_cons, pds, h, pdsm f g h l]; rfl
theorem plainm {α : Type} (g : α → PyData) (h : ∀ a, (g a).plain = true) : ∀ l : List α, PyData.plainAll (l.map g) = true
  | [] => rfl
  | a :: l => by rw [List.map_cons, PyData.plainAll, h, plainm g h l]; rfl
theorem depthm {α : Type} (g : α → PyData) (k : Nat) (h : ∀ a, (g a).depth ≤ k) : ∀ l : List α, PyData.depthAll (l.map g) ≤ k
  | [] => by simp [PyData.depthAll]
  | a :: l => by
    rw [List.map_cons, PyData.depthAll]
    exact Nat.max_le.mpr ⟨h a, depthm g k h l⟩
theorem eqvm {α β : Type} (f : α → PyData) (g : β → PyData) : ∀ (l : List α) (r : List β), PyData.eqvAll (l.map f) (r.map g) = true ↔ (l.length = r.length ∧ ∀ (i : Nat) x y, l[i]? = some x → r[i]? = some y → PyData.eqv (f x) (g y) = true)
  | [], [] => by simp [PyData.eqvAll]
  | [], b :: r => by simp [PyData.eqvAll]
  | a :: l, [] => by simp [PyData.eqvAll]
  | a :: l, b :: r => by
    rw [List.map_cons, List.map_cons, PyData.eqvAll, Bool.and_eq_true, eqvm f g l r]
    simp only [List.length_cons]
    constructor
    · rintro ⟨h1, h2, h3⟩
      refine ⟨by omega, fun i x y hx hy => ?_⟩
      cases i with
      | zero => cases hx; cases hy; exact h1
      | succ i => exact h3 i x y hx hy
    · rintro ⟨h2, h3⟩
      exact ⟨h3 0 a b rfl rfl, by omega, fun i x y hx hy => h3 (i + 1) x y hx hy⟩
section
variable {K : PySem.W.Frag} [Tb K] {P : D → Prop}
/-- lists of data of one kind, equal -/
theorem eq_lists {α β : Type} (f : α → D) (g : α → PyData) (f' : β → D) (g' : β → PyData) (h1 : ∀ a, pd (f a) = some (g a)) (h2 : ∀ a, pd (f' a) = some (g' a)) (p1 : ∀ a, (g a).plain = true) (p2 : ∀ a, (g' a).plain = true) (dp : ∀ a, (g a).depth ≤ 60) (l : List α) (r : List β)
    (h : ∀ c : Bool, (c = true ↔ l.length = r.length ∧ ∀ (i : Nat) x y, l[i]? = some x → r[i]? = some y → PyData.eqv (g x) (g' y) = true) → P (.bl c)) : Op K (rEqP K) (.lst (l.map f)) (.lst (r.map f')) P := by
  refine eqP (d := .list (l.map g)) (e := .list (r.map g')) (by rw [pd, pdsm f g h1]; rfl) (by rw [pd, pdsm f' g' h2]; rfl) (by rw [PyData.plain]; exact plainm g p1 l) (by rw [PyData.plain]; exact plainm g' p2 r) (by rw [PyData.depth]; have := depthm g 60 dp l; omega) (h _ ?_)
  rw [show PyData.eqv (.list (l.map g)) (.list (r.map g')) = PyData.eqvAll (l.map g) (r.map g') by simp [PyData.eqv], eqvm]
theorem ne_lists {α β : Type} (f : α → D) (g : α → PyData) (f' : β → D) (g' : β → PyData) (h1 : ∀ a, pd (f a) = some (g a)) (h2 : ∀ a, pd (f' a) = some (g' a)) (p1 : ∀ a, (g a).plain = true) (p2 : ∀ a, (g' a).plain = true) (dp : ∀ a, (g a).depth ≤ 60) (l : List α) (r : List β)
    (h : ∀ c : Bool, (c = true ↔ l.length = r.length ∧ ∀ (i : Nat) x y, l[i]? = some x → r[i]? = some y → PyData.eqv (g x) (g' y) = true) → P (.bl (!c))) : Op K (rNeP K) (.lst (l.map f)) (.lst (r.map f')) P := by
  refine neP (d := .list (l.map g)) (e := .list (r.map g')) (by rw [pd, pdsm f g h1]; rfl) (by rw [pd, pdsm f' g' h2]; rfl) (by rw [PyData.plain]; exact plainm g p1 l) (by rw [PyData.plain]; exact plainm g' p2 r) (by rw [PyData.depth]; have := depthm g 60 dp l; omega) (h _ ?_)
  rw [show PyData.eqv (.list (l.map g)) (.list (r.map g')) = PyData.eqvAll (l.map g) (r.map g') by simp [PyData.eqv], eqvm]
theorem ne_intsL {l r : List Int} (h : P (.bl (!decide (l = r)))) : Op K (rNeP K) (.lst (l.map .int)) (.lst (r.map .int)) P :=
  ne_lists D.int (fun q => .int q) D.int (fun q => .int q) (fun _ => rfl) (fun _ => rfl) (fun _ => rfl) (fun _ => rfl) (fun _ => by simp [PyData.depth]) l r fun c hc => by
    have : c = decide (l = r) := by
      rw [Bool.eq_iff_iff, hc, decide_eq_true_eq]
      constructor
      · rintro ⟨z1, z2⟩
        refine List.ext_getElem z1 fun i h1 h2 => ?_
        have := z2 i _ _ (List.getElem?_eq_getElem h1) (List.getElem?_eq_getElem h2)
        simpa [PyData.eqv] using this
      · rintro rfl
        exact ⟨rfl, fun i x y hx hy => by rw [hx] at hy; cases hy; simp [PyData.eqv]⟩
    rw [this]; exact h
end
section
variable {K : PySem.W.Frag} [Tb K] {Z : ZX} {ds : DS} {n : Nat} {g : TG}
/-- .. the data found on the way -/
theorem ws_fore {α : Type} (enc : α → D) {wi : TI} {tb : TS} {N : Nd} (h : Wi K Z wi ds n fun xs m => ∃ l : List α, xs = l.map enc ∧ ∃ Iv : Nat → DS → Nat → Prop, Iv 0 ds m ∧
    (∀ i x ds' k, l[i]? = some x → Iv i ds' k → Wg K Z g (enc x) ds' fun ds2 => Ws K Z tb ds2 k { nx := Iv (i + 1), rt := N.rt, bk := N.nx, ct := Iv (i + 1) }) ∧ (∀ ds' k, Iv l.length ds' k → N.nx ds' k)) : Ws K Z (tFor wi g tb) ds n N :=
  ws_for (Wi_imp h fun xs m ⟨l, hx, Iv, a, b, c⟩ => by
    subst hx
    refine ⟨Iv, a, fun i x ds' k hx iv => ?_, fun ds' k iv => c ds' k (by rwa [List.length_map] at iv)⟩
    rw [List.getElem?_map] at hx
    obtain ⟨x, hx', rfl⟩ := Option.map_eq_some_iff.mp hx
    clear hx
    have hx := hx'
    exact b i x ds' k hx iv)
theorem range_at {n i q : Nat} (h : (List.range n)[i]? = some q) : i < n ∧ q = i := by
  have h1 := (List.getElem?_eq_some_iff.mp h).1
  rw [List.length_range] at h1
  rw [List.getElem?_range h1] at h
  exact ⟨h1, (Option.some.inj h).symm⟩
end
end DL
namespace MP
open PySem L2 DL
def bD : Option Sg → D
  | none => .non
  | some g => sgD g
end MP

namespace Lw
open PySem L2 StX DL
open PyProof.Rows (envOfC)
structure Ad where
  c_BadPlace : Addr
  c_MapError : Addr
  a_BadPlace_init : Addr
  a_is_integer : Addr
  a__line_and_first : Addr
  a__later : Addr
  a__law_begin : Addr
  a__law_draw : Addr
  a__law_due : Addr
  a__law_told : Addr
  a_is_count : Addr
  a__law_pick : Addr
  a__law_ranges : Addr
  a__law_mixed : Addr
  a_is_place : Addr
  a_joined : Addr
  a__is_range : Addr
  a_joined_ranges : Addr
  a_law : Addr
  cd_law : Addr
  pt_law : Addr
abbrev q_law : Str := ("law" ++ ".<locals>." : Str) ++ ("<lambda>" : Str)
def RL : Rl := fun ds n P _ => ∃ ns : List Int, ds = [.lst (ns.map .int)] ∧ ns.length ≤ 63 ∧ n = 0 ∧ ∀ m, P (.bl true) m
abbrev spL (K : PySem.W.Frag) [Tb K] : Sp := spD K RL
theorem law_start {K : PySem.W.Frag} {tb : List (Addr × Str)} [i : Tb K] {H : Hp} {a : Addr} {ns : List Int} (hl : ns.length ≤ 63) (hS : SqL K H a (ns.map V.int)) (hi : Tb.tb K = tb) (hn : (tb.map (·.1)).Nodup) (hT : ∀ p ∈ tb, H p.1 = some (.tbl #[])) : spL K [.ref a] H (fun v _ => v = .bl true) fun _ _ _ => False :=
  law_begin 0 hS hi hn hT ⟨ns, rfl, hl, rfl, fun _ => rfl⟩
structure TxtC (K : PySem.W.Frag) (A : Ad) : Prop where
  ox_BadPlace : OexG K A.c_BadPlace [.type "ValueError", .type "Exception", .type "BaseException", .type "object"] "ValueError.__new__"
  na_BadPlace_given : PySem.W.findIn K (.ref A.c_BadPlace) "given" = some none
  xm_BadPlace__law_told : PySem.W.exmAny K (.ref A.c_BadPlace) [.ref A.c_BadPlace] = some true
  ki_BadPlace_MapError : PySem.W.kitOne K (.ref A.c_BadPlace) (.ref A.c_MapError) = some true
structure TxtT (K : PySem.W.Frag) [Tb K] (A : Ad) : Prop where
  tb_law : (A.pt_law, q_law) ∈ Tb.tb K
end Lw

namespace Lw
open PySem L2 StX DL
open PyProof.Rows (envOfC)
open RG MP
abbrev rgD (r : Rn) : D := .tup [.int (r.1 : Nat), .int (r.2.1 : Nat), lmD r.2.2]
def oddL : List D := [.non, .int 5, .tup [.int 0, .int 1], .lst [.int 0, .int 1, .int 2], .tup [.int 0, .int 2, .int 2], .tup [.int 0, .int 3, .int 1], .tup [.int 0, .int (0 - 1), .int 4], .tup [.bl true, .int 1, .int 2], .tup [.int 0, .int 1, .bl true], .tup [.int 0, .str (Str.ofString "1"), .int 2]]
def Ist : Nat → Hp → HO → Prop := fun _ _ o => ∃ x y z : Int, 0 ≤ x ∧ 0 ≤ y ∧ 0 ≤ z ∧ o = .dK [(ky "large", .int x), (ky "mixed", .int y), (ky "turn", .int z)]
structure Drawn (rs : List Rn) : Prop where
  len : rs.length ≤ 6
  r : ∀ r ∈ rs, r.1 < 2 ∧ r.2.1 < 10 ∧ wf r ∧ ∀ h, r.2.2 = some h → h ≤ 14
abbrev R_is_integer (A : Ad) : Rl := pr fun ds P => (∃ i, ds = [.int i] ∧ P (.bl true)) ∨ ∃ d T, ds = [d] ∧ isMut d = false ∧ tyD d = some T ∧ (kitB T "int" = some false ∨ T = "bool") ∧ P (.bl false)
abbrev R_is_count (A : Ad) : Rl := pr fun ds P => (∃ i, ds = [.int i] ∧ P (.bl (decide (0 ≤ i)))) ∨ ∃ d T, ds = [d] ∧ isMut d = false ∧ tyD d = some T ∧ (kitB T "int" = some false ∨ T = "bool") ∧ P (.bl false)
abbrev R_is_place (A : Ad) : Rl := pr fun ds P => (∃ p q : Int, ds = [.tup [.int p, .int q]] ∧ P (.bl (decide (0 ≤ p) && decide (0 ≤ q)))) ∨ (ds = [.tup [.bl true, .int 1]] ∧ P (.bl false)) ∨ (ds = [.tup [.int 0, .str (Str.ofString "1")]] ∧ P (.bl false))
abbrev R__is_range (A : Ad) : Rl := pr fun ds P => (∃ r, ds = [rgD r] ∧ wf r ∧ P (.bl true)) ∨ ∃ d, ds = [d] ∧ d ∈ oddL ∧ P (.bl false)
abbrev R__line_and_first (A : Ad) : Rl := pr fun ds P => ∃ r, ds = [rgD r] ∧ P (pos r.1 r.2.1)
abbrev R__later (A : Ad) : Rl := pr fun ds P => ∃ a b : Option Nat, ds = [lmD a, lmD b] ∧ P (lmD (later a b))
abbrev R_joined (A : Ad) : Rl := pr fun ds P => ∃ rs : List Rn, (ds = [.lst (rs.map rgD)] ∨ ds = [.tup (rs.map rgD)]) ∧ rs.length ≤ 1000 ∧ P (.tup ((jn rs).map rgD))
abbrev R_joined_ranges (A : Ad) : Rl := px fun ds P X => (∃ rs : List Rn, (ds = [.lst (rs.map rgD)] ∨ ds = [.tup (rs.map rgD)]) ∧ (∀ r ∈ rs, wf r) ∧ rs.length ≤ 1000 ∧ P (.tup ((jn rs).map rgD))) ∨
  (∃ (rs : List Rn) (d : D) (rest : List D), ds = [.lst (rs.map rgD ++ d :: rest)] ∧ (∀ r ∈ rs, wf r) ∧ d ∈ oddL ∧ X A.c_BadPlace [("given", d)]) ∨
  ∃ (d : D) (T : String), ds = [d] ∧ isMut d = false ∧ tyD d = some T ∧ kit2 T "list" "tuple" = some false ∧ X A.c_BadPlace [("given", .non)]
abbrev R__law_begin (A : Ad) : Rl := pr fun ds P => ∃ (ns : List Int) (k : Nat), ds = [.lst (ns.map .int), .int k] ∧ ns.length ≤ 1000 ∧ ∀ a, P (.strm a (.inv Ist))
abbrev R__law_draw (A : Ad) : Rl := pr fun ds P => ∃ (a : Addr) (t : Int), ds = [.strm a (.inv Ist), .int t] ∧ 0 < t ∧ t < 1073741824 ∧ ∀ r, 0 ≤ r → r < t → P (.int r)
abbrev R__law_pick (A : Ad) : Rl := pr fun ds P => ∃ (a : Addr) (xs : List D), ds = [.strm a (.inv Ist), .lst xs] ∧ xs ≠ [] ∧ xs.length < 1000000 ∧ ∀ x, x ∈ xs → P x
abbrev R__law_ranges (A : Ad) : Rl := pr fun ds P => ∃ a : Addr, ds = [.strm a (.inv Ist)] ∧ ∀ rs, Drawn rs → P (.lst (rs.map rgD))
abbrev R__law_due (A : Ad) : Rl := pr fun ds P => ∃ rs : List Rn, ds = [.lst (rs.map rgD)] ∧ Drawn rs ∧ P (.tup ((jn rs).map rgD))
abbrev R__law_mixed (A : Ad) : Rl := pr fun ds P => ∃ (a : Addr) (rs : List Rn), ds = [.strm a (.inv Ist), .lst (rs.map rgD)] ∧ rs.length ≤ 1000 ∧ ∀ rs' : List Rn, (∀ r, r ∈ rs' ↔ r ∈ rs) → rs'.length ≤ rs.length + 1 → P (.lst (rs'.map rgD))
def RG__law_told (A : Ad) : Rg := fun P0 X0 _ P => (∀ d m, P0 d m → P (.lst [d]) m) ∧ ∀ C fs m, X0 C fs m → ∃ g, isMut g = false ∧ C = A.c_BadPlace ∧ fs = ([("given", g)] : List (Str × D)) ∧ P (.tup [g, .bl true]) m
abbrev R_law (A : Ad) : Rl := RL
def t_is_integer (K : PySem.W.Frag) [Tb K] (A : Ad) : TS := (tRet (tAndV (tCB (rIsi K) (tCons (tVar 0) (tCons (tC (.ty "int")) tNil))) (tNotV (tCB (rIsi K) (tCons (tVar 0) (tCons (tC (.ty "bool")) tNil))))))
def t__line_and_first (K : PySem.W.Frag) [Tb K] (A : Ad) : TS := (tRet (tTup (tCons (tOp (rIx K) (tVar 0) (tC (.int 0))) (tCons (tOp (rIx K) (tVar 0) (tC (.int 1))) tNil))))
def t__later (K : PySem.W.Frag) [Tb K] (A : Ad) : TS := (tSeq (tIfS (tOr (tTest (tOp (rIsN') (tVar 0) (tC .non))) (tTest (tOp (rIsN') (tVar 1) (tC .non)))) (tRet (tC .non)) tNext)
    (tRet (tCB (rMax2) (tCons (tVar 0) (tCons (tVar 1) tNil)))))
def t__law_begin (K : PySem.W.Frag) [Tb K] (A : Ad) : TS := (tSeq (tAsg (tIf (tTest (tOp (rNeP K) (tVar 0) (tLst tNil))) (tOp (rIx K) (tVar 0) (tOp (rI (fun _ j => 0 < j) fun i j => .int (i % j)) (tCB (rInt1) (tCons (tVar 1) tNil)) (tCB (rLen' K) (tCons (tVar 0) tNil)))) (tC (.int 5))) (gName 2))
    (tRet (tDisp [((tC (.str (PySem.Str.ofString "large"))), (tIf (tTest (tOp (rGeP K) (tVar 2) (tOp (rI CPow fun i j => .int (i ^ j.toNat)) (tC (.int 10)) (tC (.int 18))))) (tVar 2) (tC (.int 0)))), ((tC (.str (PySem.Str.ofString "mixed"))), (tOp (rI (fun _ j => 0 < j) fun i j => .int (i % j)) (tCB (rInt1) (tCons (tOp (rAddU K) (tOp (rAddU K) (tOp (rI CMul fun i j => .int (i * j)) (tC (.int 3)) (tVar 2)) (tVar 1)) (tC (.int 1))) tNil)) (tC (.int 998244353)))), ((tC (.str (PySem.Str.ofString "turn"))), (tC (.int 0)))])))
def t__law_draw (K : PySem.W.Frag) [Tb K] (A : Ad) : TS := (tSeq (tIfS (tTest (tOp (rGtP K) (tDGet (tVar 0) (tC (.str (PySem.Str.ofString "large")))) (tC (.int 0)))) (tSeq (tAsg (tOp (rI (fun _ j => 0 < j) fun i j => .int (i % j)) (tCB (rInt1) (tCons (tDGet (tVar 0) (tC (.str (PySem.Str.ofString "large")))) tNil)) (tVar 1)) (gName 2))
    (tSeq (sDPut (tVar 0) (tC (.str (PySem.Str.ofString "large"))) (tOp (rI CDiv fun i j => .int (i / j)) (tDGet (tVar 0) (tC (.str (PySem.Str.ofString "large")))) (tVar 1)))
    (tRet (tVar 2)))) tNext)
    (tSeq (sDPut (tVar 0) (tC (.str (PySem.Str.ofString "turn"))) (tOp (rAddU K) (tDGet (tVar 0) (tC (.str (PySem.Str.ofString "turn")))) (tC (.int 1))))
    (tSeq (sDPut (tVar 0) (tC (.str (PySem.Str.ofString "mixed"))) (tOp (rI (fun _ j => 0 < j) fun i j => .int (i % j)) (tCB (rInt1) (tCons (tOp (rAddU K) (tOp (rAddU K) (tOp (rI CMul fun i j => .int (i * j)) (tDGet (tVar 0) (tC (.str (PySem.Str.ofString "mixed")))) (tC (.int 69621))) (tOp (rI CMul fun i j => .int (i * j)) (tC (.int 7)) (tDGet (tVar 0) (tC (.str (PySem.Str.ofString "turn")))))) (tC (.int 127))) tNil)) (tC (.int 2147483647))))
    (tRet (tOp (rI (fun _ j => 0 < j) fun i j => .int (i % j)) (tCB (rInt1) (tCons (tOp (rI CDiv fun i j => .int (i / j)) (tDGet (tVar 0) (tC (.str (PySem.Str.ofString "mixed")))) (tC (.int 37))) tNil)) (tVar 1))))))
def t__law_due (K : PySem.W.Frag) [Tb K] (A : Ad) : TS := (tSeq (tAsg (tLst tNil) (gName 1))
    (tSeq (tFor (iRng1 (tCons (tC (.int 2)) tNil)) (gName 2) (tSeq (tAsg (tOp (rNeP K) (tLc (iList K (tVar 0)) (gTup K 3 (gCons (gName 5) (gCons (gName 6) (gCons (gName 7) gNil)))) (tAnd (tTest (tOp (rEqP K) (tVar 5) (tVar 2))) (tTest (tOp (rIsN') (tVar 7) (tC .non)))) (tC (.int 1)) [5, 6, 7]) (tLst tNil)) (gName 3))
    (tSeq (tFor (iRng1 (tCons (tC (.int 17)) tNil)) (gName 4) (tIfS (tTest (tOp (rNeP K) (tLc (iList K (tVar 0)) (gTup K 3 (gCons (gName 5) (gCons (gName 6) (gCons (gName 7) gNil)))) (tAnd (tTest (tOp (rEqP K) (tVar 5) (tVar 2))) (tAnd (tTest (tOp (rLeP K) (tVar 6) (tVar 4))) (tOr (tTest (tOp (rIsN') (tVar 7) (tC .non))) (tTest (tOp (rLtP K) (tVar 4) (tVar 7)))))) (tC (.int 1)) [5, 6, 7]) (tLst tNil))) (tIfS (tAnd (tTest (tOp (rNeP K) (tVar 1) (tLst tNil))) (tAnd (tTest (tOp (rEqP K) (tOp (rIx K) (tOp (rIx K) (tVar 1) (tUn (rU fun i => .int (-i)) (tC (.int 1)))) (tC (.int 0))) (tVar 2))) (tTest (tOp (rEqP K) (tOp (rIx K) (tOp (rIx K) (tVar 1) (tUn (rU fun i => .int (-i)) (tC (.int 1)))) (tC (.int 2))) (tVar 4))))) (tAsg (tTup (tCons (tVar 2) (tCons (tOp (rIx K) (tOp (rIx K) (tVar 1) (tUn (rU fun i => .int (-i)) (tC (.int 1)))) (tC (.int 1))) (tCons (tOp (rAddU K) (tVar 4) (tC (.int 1))) tNil)))) (gSub (tVar 1) (tUn (rU fun i => .int (-i)) (tC (.int 1))) rSetL)) (tDrop (tBM K "list" rAppend (tVar 1) (tCons (tTup (tCons (tVar 2) (tCons (tVar 4) (tCons (tOp (rAddU K) (tVar 4) (tC (.int 1))) tNil)))) tNil)))) tNext))
    (tIfS (tTru K (tVar 3)) (tAsg (tTup (tCons (tVar 2) (tCons (tOp (rIx K) (tOp (rIx K) (tVar 1) (tUn (rU fun i => .int (-i)) (tC (.int 1)))) (tC (.int 1))) (tCons (tC .non) tNil)))) (gSub (tVar 1) (tUn (rU fun i => .int (-i)) (tC (.int 1))) rSetL)) tNext))))
    (tRet (tCB (rTupOf K) (tCons (tVar 1) tNil)))))
def t__law_told (K : PySem.W.Frag) [Tb K] (A : Ad) (f c' : Addr) (q : Str) (tl : XK → Hp → VK → Prop) : TS := (tSeq (tAsg (tTup (tCons (tC .non) (tCons (tC .non) tNil))) (gTup K 2 (gCons (gName 1) (gCons (gName 2) gNil))))
    (tSeq (tTryK K [.ref A.c_BadPlace] 3 (tAsg (tVar 3) (gName 1)) (tTryB 4 (fun E => (tAsg (tAct 0 f c' q (tl E)) (gName 2)))))
    (tRet (tIf (tTest (tOp (rIsN') (tVar 1) (tC .non))) (tLst (tCons (tVar 2) tNil)) (tTup (tCons (tExf K "given" (tVar 1)) (tCons (tCB (rIsX K) (tCons (tVar 1) (tCons (tC (.ref A.c_MapError)) tNil))) tNil)))))))
def t_is_count (K : PySem.W.Frag) [Tb K] (A : Ad) : TS := (tRet (tAndV (tCall (spD K (R_is_integer A)) [] E0 (tCons (tVar 0) tNil)) (tOp (rGeP K) (tVar 0) (tC (.int 0)))))
def t__law_pick (K : PySem.W.Frag) [Tb K] (A : Ad) : TS := (tRet (tOp (rIx K) (tVar 1) (tCall (spD K (R__law_draw A)) [] E0 (tCons (tVar 0) (tCons (tCB (rLen' K) (tCons (tVar 1) tNil)) tNil)))))
def t__law_ranges (K : PySem.W.Frag) [Tb K] (A : Ad) : TS := (tSeq (tAsg (tLst tNil) (gName 1))
    (tSeq (tFor (iRng1 (tCons (tCall (spD K (R__law_draw A)) [] E0 (tCons (tVar 0) (tCons (tC (.int 7)) tNil))) tNil)) (gName 2) (tSeq (tAsg (tCall (spD K (R__law_draw A)) [] E0 (tCons (tVar 0) (tCons (tC (.int 10)) tNil))) (gName 3))
    (tSeq (tAsg (tIf (tTest (tOp (rEqP K) (tCall (spD K (R__law_draw A)) [] E0 (tCons (tVar 0) (tCons (tC (.int 6)) tNil))) (tC (.int 0)))) (tC .non) (tOp (rAddU K) (tOp (rAddU K) (tVar 3) (tC (.int 1))) (tCall (spD K (R__law_draw A)) [] E0 (tCons (tVar 0) (tCons (tC (.int 4)) tNil))))) (gName 4))
    (tDrop (tBM K "list" rAppend (tVar 1) (tCons (tTup (tCons (tCall (spD K (R__law_draw A)) [] E0 (tCons (tVar 0) (tCons (tC (.int 2)) tNil))) (tCons (tVar 3) (tCons (tVar 4) tNil)))) tNil))))))
    (tRet (tVar 1))))
def t__law_mixed (K : PySem.W.Frag) [Tb K] (A : Ad) : TS := (tSeq (tPar 2 3 (tCons (tCB (rLstOf K) (tCons (tVar 1) tNil)) (tCons (tLst tNil) tNil)))
    (tSeq (tFor (iRng1 (tCons (tCB (rLen' K) (tCons (tVar 1) tNil)) tNil)) (gName 4) (tDrop (tBM K "list" rAppend (tVar 3) (tCons (tBM K "list" rPopAt (tVar 2) (tCons (tCall (spD K (R__law_draw A)) [] E0 (tCons (tVar 0) (tCons (tCB (rLen' K) (tCons (tVar 2) tNil)) tNil))) tNil)) tNil))))
    (tRet (tOp (rAddU K) (tVar 3) (tSl (rSlU K) (tVar 3) tNoPart (tPart (tC (.int 1))))))))
def t_is_place (K : PySem.W.Frag) [Tb K] (A : Ad) : TS := (tRet (tAndV (tCB (rIsi K) (tCons (tVar 0) (tCons (tC (.ty "tuple")) tNil))) (tAndV (tOp (rEqP K) (tCB (rLen' K) (tCons (tVar 0) tNil)) (tC (.int 2))) (tAndV (tCall (spD K (R_is_count A)) [] E0 (tCons (tOp (rIx K) (tVar 0) (tC (.int 0))) tNil)) (tCall (spD K (R_is_count A)) [] E0 (tCons (tOp (rIx K) (tVar 0) (tC (.int 1))) tNil))))))
def t_joined (K : PySem.W.Frag) [Tb K] (A : Ad) : TS := (tSeq (tAsg (tLst tNil) (gName 1))
    (tSeq (tFor (iList K (tCKw (rSortedKQ K A.a__line_and_first 0 1) (tCons (tVar 0) tNil) (tCons (tC (.ref A.a__line_and_first)) tNil))) (gTup K 3 (gCons (gName 2) (gCons (gName 3) (gCons (gName 4) gNil)))) (tSeq (tAsg (tIf (tTru K (tVar 1)) (tOp (rIx K) (tVar 1) (tUn (rU fun i => .int (-i)) (tC (.int 1)))) (tTup (tCons (tC .non) (tCons (tC (.int 0)) (tCons (tC (.int 0)) tNil))))) (gName 5))
    (tIfS (tAnd (tTest (tOp (rEqP K) (tOp (rIx K) (tVar 5) (tC (.int 0))) (tVar 2))) (tOr (tTest (tOp (rIsN') (tOp (rIx K) (tVar 5) (tC (.int 2))) (tC .non))) (tTest (tOp (rLeP K) (tVar 3) (tOp (rIx K) (tVar 5) (tC (.int 2))))))) (tAsg (tTup (tCons (tVar 2) (tCons (tOp (rIx K) (tVar 5) (tC (.int 1))) (tCons (tCall (spD K (R__later A)) [] E0 (tCons (tOp (rIx K) (tVar 5) (tC (.int 2))) (tCons (tVar 4) tNil))) tNil)))) (gSub (tVar 1) (tUn (rU fun i => .int (-i)) (tC (.int 1))) rSetL)) (tDrop (tBM K "list" rAppend (tVar 1) (tCons (tTup (tCons (tVar 2) (tCons (tVar 3) (tCons (tVar 4) tNil)))) tNil))))))
    (tRet (tCB (rTupOf K) (tCons (tVar 1) tNil)))))
def t__is_range (K : PySem.W.Frag) [Tb K] (A : Ad) : TS := (tSeq (tIfS (tOr (tNot (tB (tCB (rIsi K) (tCons (tVar 0) (tCons (tC (.ty "tuple")) tNil))))) (tOr (tTest (tOp (rNeP K) (tCB (rLen' K) (tCons (tVar 0) tNil)) (tC (.int 3)))) (tNot (tB (tCall (spD K (R_is_place A)) [] E0 (tCons (tSl (rSlU K) (tVar 0) tNoPart (tPart (tC (.int 2)))) tNil)))))) (tRet (tC (.bl false))) tNext)
    (tRet (tOrV (tOp (rIsN') (tOp (rIx K) (tVar 0) (tC (.int 2))) (tC .non)) (tAndV (tCall (spD K (R_is_count A)) [] E0 (tCons (tOp (rIx K) (tVar 0) (tC (.int 2))) tNil)) (tOp (rGtP K) (tOp (rIx K) (tVar 0) (tC (.int 2))) (tOp (rIx K) (tVar 0) (tC (.int 1))))))))
def t_joined_ranges (K : PySem.W.Frag) [Tb K] (A : Ad) (E : XK) : TS := (tSeq (tIfS (tNot (tB (tCB (rIsiT K) (tCons (tVar 0) (tCons (tTup (tCons (tC (.ty "list")) (tCons (tC (.ty "tuple")) tNil))) tNil))))) (tRaise E A.c_BadPlace (spX1 A.c_BadPlace "given") (tCons (tC .non) tNil)) tNext)
    (tSeq (tFor (iSeq K (tVar 0)) (gName 1) (tIfS (tNot (tB (tCall (spD K (R__is_range A)) [] E0 (tCons (tVar 1) tNil)))) (tRaise E A.c_BadPlace (spX1 A.c_BadPlace "given") (tCons (tVar 1) tNil)) tNext))
    (tRet (tCall (spD K (R_joined A)) [] E0 (tCons (tVar 0) tNil)))))
def t_law (K : PySem.W.Frag) [Tb K] (A : Ad) : TS := (tSeq (tFor (iRng1 (tCons (tOp (rAddU K) (tC (.int 1)) (tCB (rMin2) (tCons (tC (.int 3)) (tCons (tCB (rLen' K) (tCons (tVar 0) tNil)) tNil)))) tNil)) (gName 1) (tSeq (tAsg (tCall (spD K (R__law_begin A)) [] E0 (tCons (tVar 0) (tCons (tVar 1) tNil))) (gName 2))
    (tSeq (tFor (iRng1 (tCons (tC (.int 4)) tNil)) (gName 3) (tSeq (tAsg (tCall (spD K (R__law_ranges A)) [] E0 (tCons (tVar 2) tNil)) (gName 4))
    (tSeq (tPar 5 6 (tCons (tCB (rLstOf K) (tCons (tVar 4) tNil)) (tCons (tCall (spD K (R__law_due A)) [] E0 (tCons (tVar 4) tNil)) tNil)))
    (tSeq (tAsg (tLst (tCons (tCall (spD K (R_joined_ranges A)) [] E0 (tCons (tVar 4) tNil)) (tCons (tCall (spD K (R_joined_ranges A)) [] E0 (tCons (tCB (rTupOf K) (tCons (tVar 4) tNil)) tNil)) (tCons (tCallN 0 1 (spD K (R_joined_ranges A)) (perm [0]) E0 tNil (tCons (tCall (spD K (R__law_mixed A)) [] E0 (tCons (tVar 2) (tCons (tVar 4) tNil))) tNil)) tNil)))) (gName 7))
    (tIfS (tOr (tTest (tOp (rNeP K) (tCB (rReprW K) (tCons (tOp (rAddU K) (tVar 7) (tLst (tCons (tCall (spD K (R_joined_ranges A)) [] E0 (tCons (tVar 6) tNil)) tNil))) tNil)) (tCB (rReprW K) (tCons (tOp rRep (tLst (tCons (tVar 6) tNil)) (tC (.int 4))) tNil)))) (tTest (tOp (rNeP K) (tVar 4) (tVar 5)))) (tRet (tC (.bl false))) tNext)))))
    (tSeq (tAsg (tLst (tCons (tC .non) (tCons (tC (.int 5)) (tCons (tTup (tCons (tC (.int 0)) (tCons (tC (.int 1)) tNil))) (tCons (tLst (tCons (tC (.int 0)) (tCons (tC (.int 1)) (tCons (tC (.int 2)) tNil)))) (tCons (tTup (tCons (tC (.int 0)) (tCons (tC (.int 2)) (tCons (tC (.int 2)) tNil)))) (tCons (tTup (tCons (tC (.int 0)) (tCons (tC (.int 3)) (tCons (tC (.int 1)) tNil)))) (tCons (tTup (tCons (tC (.int 0)) (tCons (tOp (rI0 fun i j => .int (i - j)) (tC (.int 0)) (tC (.int 1))) (tCons (tC (.int 4)) tNil)))) (tCons (tTup (tCons (tC (.bl true)) (tCons (tC (.int 1)) (tCons (tC (.int 2)) tNil)))) (tCons (tTup (tCons (tC (.int 0)) (tCons (tC (.int 1)) (tCons (tC (.bl true)) tNil)))) (tCons (tTup (tCons (tC (.int 0)) (tCons (tC (.str (PySem.Str.ofString "1"))) (tCons (tC (.int 2)) tNil)))) tNil))))))))))) (gName 8))
    (tSeq (tAsg (tCall (spD K (R__law_pick A)) [] E0 (tCons (tVar 2) (tCons (tVar 8) tNil))) (gName 8))
    (tSeq (tAsg (tLamG A.pt_law q_law (TTd K q_law (RG__law_told A)) (fun E => (tCall (spD K (R_joined_ranges A)) [] E (tCons (tLst (tCons (tTup (tCons (tC (.int 0)) (tCons (tC (.int 1)) (tCons (tC (.int 2)) tNil)))) (tCons (tVar 8) (tCons (tC .non) tNil)))) tNil)))) (gName 7))
    (tSeq (tIfS (tTest (tOp (rNeP K) (tCB (rReprW K) (tCons (tVar 7) tNil)) (tCB (rReprW K) (tCons (tTup (tCons (tVar 8) (tCons (tC (.bl true)) tNil))) tNil)))) (tRet (tC (.bl false))) tNext)
    (tSeq (tAsg (tCall (spD K (R__law_pick A)) [] E0 (tCons (tVar 2) (tCons (tLst (tCons (tC .non) (tCons (tC (.int 5)) (tCons (tC (.str (PySem.Str.ofString "ab"))) (tCons tDNewK (tCons (tC (.bl true)) tNil)))))) tNil))) (gName 8))
    (tIfS (tTest (tOp (rNeP K) (tLamG A.pt_law q_law (TTd K q_law (RG__law_told A)) (fun E => (tCall (spD K (R_joined_ranges A)) [] E (tCons (tVar 8) tNil)))) (tTup (tCons (tC .non) (tCons (tC (.bl true)) tNil))))) (tRet (tC (.bl false))) tNext)))))))))
    (tSeq (tAsg (tOp (rI CPow fun i j => .int (i ^ j.toNat)) (tC (.int 10)) (tC (.int 30))) (gName 9))
    (tRet (tAndV (tOp (rEqP K) (tCall (spD K (R_joined_ranges A)) [] E0 (tCons (tLst (tCons (tTup (tCons (tVar 9) (tCons (tVar 9) (tCons (tC .non) tNil)))) (tCons (tTup (tCons (tVar 9) (tCons (tC (.int 0)) (tCons (tVar 9) tNil)))) tNil))) tNil)) (tTup (tCons (tTup (tCons (tVar 9) (tCons (tC (.int 0)) (tCons (tC .non) tNil)))) tNil))) (tOp (rEqP K) (tCall (spD K (R_joined_ranges A)) [] E0 (tCons (tTup tNil) tNil)) (tTup tNil))))))
end Lw

namespace Lw
open PySem L2 StX DL MP
section
variable {K : PySem.W.Frag} [Tb K] {Z : ZX} {A : Ad}
/-- one step -/
local macro_rules | `(tactic| walk_at "w1") => `(tactic| first
  | with_reducible refine ws_seq ?_
  | ((with_reducible show Ws _ _ (tAsg (tLst tNil) (gName _)) _ _ _); refine ws_setX (wx_lst (wa_nil ⟨Nat.zero_le _, ?_⟩)))
  | ((with_reducible show Ws _ _ (tAsg tDNewK (gName _)) _ _ _); refine ws_setX (wx_dnew ?_))
  | with_reducible refine ws_parX ?_
  | with_reducible refine ws_par3X ?_
  | ((with_reducible show Wx _ _ (tLst tNil) _ _ _); refine wx_lst (wa_nil ⟨Nat.zero_le _, ?_⟩))
  | ((with_reducible show Wx _ _ tDNewK _ _ _); refine wx_dnew ?_)
  | ((with_reducible show We _ _ tDNewK _ _ _); refine we_dnew ?_)
  | with_reducible refine wx_we ?_
  | with_reducible refine ws_break ?_
  | with_reducible refine ws_cont ?_
  | with_reducible refine ws_retN ?_
  | with_reducible refine ws_if ?_
  | with_reducible refine ws_ret ?_
  | ((fail_if_success (with_reducible show Ws _ _ (tDrop (tBM _ _ _ _ _)) _ _ _)); (with_reducible refine ws_drop ?_))
  | with_reducible refine ws_next ?_
  | with_reducible refine ws_par ?_
  | ((fail_if_success (with_reducible show Ws _ _ (tAsg _ (gSub _ _ _)) _ _ _)); (with_reducible refine ws_asg ?_))
  | with_reducible refine wg_name ?_
  | with_reducible refine we_int ?_
  | with_reducible refine we_bl ?_
  | with_reducible refine we_non ?_
  | with_reducible refine we_str ?_
  | with_reducible refine we_ty ?_
  | with_reducible refine we_cls ?_
  | with_reducible refine we_cmethX ?_
  | with_reducible refine we_cmeth ?_
  | with_reducible refine we_cmethN ?_
  | ((with_reducible show ∃ _, D.str _ = D.str _ ∧ _ ∧ _); refine ⟨_, rfl, ?_, ?_⟩; (focus (first | assumption | omega)))
  | ((with_reducible show We _ _ (tVar _) _ _ _); refine we_var rfl rfl ?_)
  | ((with_reducible show We _ _ (tVar _) _ _ _); refine we_var rfl (mut_td _) ?_)
  | ((with_reducible show We _ _ (tVar _) _ _ _); refine we_var rfl (mut_tg _) ?_)
  | ((with_reducible show We _ _ (tVar _) _ _ _); refine we_var rfl (mut_w _) ?_)
  | ((with_reducible show We _ _ (tVar _) _ _ _); refine we_var rfl (mut_lm _) ?_)
  | ((with_reducible show We _ _ (tVar _) _ _ _); refine we_var rfl (mut_b _) ?_)
  | ((fail_if_success (with_reducible show We _ _ (tOp (rInP _) _ (tVar _)) _ _ _)); with_reducible refine we_op ?_)
  | with_reducible refine we_un ?_
  | with_reducible refine we_lenO ?_
  | with_reducible refine we_cb ?_
  | with_reducible refine we_callX ?_
  | with_reducible refine we_call ?_
  | with_reducible refine we_callNX ?_
  | with_reducible refine we_callN ?_
  | with_reducible refine we_methN ?_
  | with_reducible refine we_callON ?_
  | with_reducible refine we_callOX ?_
  | with_reducible refine ws_raise ?_
  | with_reducible refine we_exf ?_
  | with_reducible refine we_tup ?_
  | with_reducible refine we_lst ?_
  | with_reducible refine we_sl ?_
  | with_reducible refine we_m1 ?_
  | with_reducible refine we_andV ?_
  | with_reducible refine we_orV ?_
  | with_reducible refine we_notV ?_
  | with_reducible refine we_if ?_
  | with_reducible refine we_chain ?_
  | with_reducible refine we_fld ?_
  | with_reducible refine we_methX ?_
  | with_reducible refine we_meth ?_
  | with_reducible refine we_prop ?_
  | with_reducible refine we_callO' ?_
  | with_reducible refine we_make ?_
  | with_reducible refine wt_test ?_
  | with_reducible refine wt_B ?_
  | with_reducible refine wt_yes ?_
  | with_reducible refine wt_and ?_
  | with_reducible refine wt_or ?_
  | with_reducible refine wt_not ?_
  | with_reducible refine wa_nil ?_
  | with_reducible refine wa_cons ?_
  | with_reducible refine wo_none ?_
  | with_reducible refine wo_some ?_
  | with_reducible refine add_int ?_
  | with_reducible refine sub_int ?_
  | with_reducible refine neg_int ?_
  | ((with_reducible refine mod_int ?_ ?_); (focus (first | assumption | omega)))
  | ((with_reducible refine mul_int ?_ ?_); (focus (first | exact Or.inl ⟨by omega, by omega⟩ | exact Or.inr ⟨by omega, by omega⟩)))
  | ((with_reducible refine fdiv_int ?_ ?_); (focus (exact ⟨by omega, by omega⟩)))
  | ((with_reducible refine pow_int ?_ ?_); (focus (exact ⟨by decide, by decide, by decide⟩)))
  | with_reducible refine is_non ?_
  | with_reducible refine not_non ?_
  | with_reducible refine eq_int ?_
  | with_reducible refine ne_int ?_
  | with_reducible refine eq_pos ?_
  | with_reducible refine ne_pos ?_
  | with_reducible refine ne_nn ?_
  | with_reducible refine ne_np ?_
  | with_reducible refine ne_pn ?_
  | with_reducible refine eq_str ?_
  | with_reducible refine ne_str ?_
  | with_reducible refine eq_bl ?_
  | with_reducible refine ne_bl ?_
  | with_reducible refine lt_int ?_
  | with_reducible refine gt_int ?_
  | with_reducible refine le_int ?_
  | with_reducible refine ge_int ?_
  | with_reducible refine lt_pos ?_
  | with_reducible refine gt_pos ?_
  | with_reducible refine le_pos ?_
  | with_reducible refine ge_pos ?_
  | with_reducible refine int_int ?_
  | with_reducible refine min_int ?_
  | with_reducible refine max_int ?_
  | with_reducible refine len_lst ?_
  | with_reducible refine len_tup ?_
  | ((with_reducible refine len_str ?_ ?_); (focus (first | assumption | omega)))
  | with_reducible refine tuple_lst ?_
  | with_reducible refine tuple_tup ?_
  | with_reducible refine sl_lst ?_
  | with_reducible refine sl_tup ?_
  | ((with_reducible refine sl_str ?_ ?_); (focus (first | assumption | omega)))
  | with_reducible refine mt_countD ?_
  | with_reducible refine mt_rfindD ?_
  | ((with_reducible refine mt_splitD ?_ ?_ ?_); (focus rfl); (focus (first | assumption | omega)))
  | ((with_reducible show Op _ (rIx _) (D.tup _) (D.int _) _); refine ix_tup (by decide) rfl ?_)
  | ((with_reducible show Op _ (rIx _) (D.lst _) (D.int _) _); refine ix_lst (by decide) rfl ?_)
  | ((with_reducible show Cb _ (rIsi _) [D.int _, D.ty _] _); first | refine isiI (r := true) (by decide +kernel) ?_ | refine isiI (r := false) (by decide +kernel) ?_)
  | ((with_reducible show Cb _ (rIsi _) [D.str _, D.ty _] _); first | refine isiS (r := true) (by decide +kernel) ?_ | refine isiS (r := false) (by decide +kernel) ?_)
  | ((with_reducible show Cb _ (rIsi _) [D.tup _, D.ty _] _); first | refine isiT (r := true) (by decide +kernel) ?_ | refine isiT (r := false) (by decide +kernel) ?_)
  | ((with_reducible show Wg _ _ (gTup _ _ _) _ _ _); refine wg_tup rfl rfl ?_)
  | ((with_reducible show Wgs _ _ gNil _ _ _); refine wgs_nil rfl ?_)
  | ((with_reducible show Wgs _ _ (gCons _ _) _ _ _); refine wgs_cons rfl ?_)
  | ((with_reducible show ∃ _, D.bl _ = D.bl _ ∧ _); refine ⟨_, rfl, ?_⟩)
  | ((with_reducible show ∃ _, D.int _ = D.int _ ∧ _); refine ⟨_, rfl, ?_⟩)
  | ((with_reducible show ∃ _, D.str _ = D.str _ ∧ _); refine ⟨_, rfl, ?_⟩)
  | ((with_reducible show ∃ _, D.tup _ = D.tup _ ∧ _); refine ⟨_, rfl, ?_⟩)
  | ((with_reducible show ∃ _, D.lst _ = D.lst _ ∧ _); refine ⟨_, rfl, ?_⟩)
  | with_reducible refine wt_tru ?_
  | with_reducible refine list_lst ?_
  | with_reducible refine list_tup ?_
  | with_reducible refine we_makeS ?_
  | with_reducible refine we_makeR ?_
  | with_reducible refine we_smethS ?_
  | with_reducible refine iteNT ?_
  | with_reducible refine iteNF ?_
  | ((with_reducible show if true = true then _ else _); rw [if_pos rfl])
  | ((with_reducible show if false = true then _ else _); rw [if_neg Bool.false_ne_true])
  | ((with_reducible show List.length _ ≤ 1000000 ∧ _); refine ⟨?_, ?_⟩; (focus (simp; done)))
  | fail "no step")
local macro_rules | `(tactic| walk_at "w") => `(tactic| repeat (walk_at "w1"))
local macro_rules | `(tactic| walk_at "ws") => `(tactic| repeat ((fail_if_success (with_reducible show We _ _ (tChain _ _ _ _ _) _ _ _)); (fail_if_success (with_reducible show Wt _ _ (tAnd _ _) _ _ _)); (fail_if_success (with_reducible show We _ _ (tOrT _ _ _) _ _ _)); walk_at "w1"))

theorem we_eq {ds : DS} {n : Nat} {te : TE} {x : D} {k : Nat} {P : D → Nat → Prop} (h : We K Z te ds n fun d m => d = x ∧ m = k) (h2 : P x k) : We K Z te ds n P := h.imp fun d m ⟨a, b⟩ => by subst a b; exact h2
/-! the draws with large, mixed and turn -/
theorem put1 {k1 k2 k3 : Key} {x y z v : V} (h : ¬ k2 = k1) (h' : ¬ k3 = k1) : putK [(k1, x), (k2, y), (k3, z)] k1 v = [(k1, v), (k2, y), (k3, z)] := by
  simp [putK, h, h']
theorem kv1 {x y z : V} : valV [(ky "large", x), (ky "mixed", y), (ky "turn", z)] (.inr (Str.ofString "large")) = some x := get1
theorem klm : ¬ ky "large" = ky "mixed" := by decide +kernel
theorem klt : ¬ ky "large" = ky "turn" := by decide +kernel
theorem kmt : ¬ ky "mixed" = ky "turn" := by decide +kernel
theorem kml : ¬ ky "mixed" = ky "large" := by decide +kernel
theorem ktl : ¬ ky "turn" = ky "large" := by decide +kernel
theorem ktm : ¬ ky "turn" = ky "mixed" := by decide +kernel
theorem kv2 {x y z : V} : valV [(ky "large", x), (ky "mixed", y), (ky "turn", z)] (.inr (Str.ofString "mixed")) = some y := get2 klm
theorem kv3 {x y z : V} : valV [(ky "large", x), (ky "mixed", y), (ky "turn", z)] (.inr (Str.ofString "turn")) = some z := get3 klt kmt
theorem kp1 {x y z v : V} : putK [(ky "large", x), (ky "mixed", y), (ky "turn", z)] (.inr (Str.ofString "large")) v = [(ky "large", v), (ky "mixed", y), (ky "turn", z)] := put1 kml ktl
theorem kp2 {x y z v : V} : putK [(ky "large", x), (ky "mixed", y), (ky "turn", z)] (.inr (Str.ofString "mixed")) v = [(ky "large", x), (ky "mixed", v), (ky "turn", z)] := put2 klm ktm
theorem kp3 {x y z v : V} : putK [(ky "large", x), (ky "mixed", y), (ky "turn", z)] (.inr (Str.ofString "turn")) v = [(ky "large", x), (ky "mixed", y), (ky "turn", v)] := put3 klt kmt
theorem we_d1 {ds : DS} {n : Nat} {P : D → Nat → Prop} {i : Nat} {a : Addr} (hd : ds[i]? = some (some (.strm a (.inv Ist)))) (h : ∀ x : Int, 0 ≤ x → P (.int x) n) : We K Z (tDGet (tVar i) (tC (.str (Str.ofString "large")))) ds n P :=
  we_iGet hd fun _ H o _ ⟨x, y, z, h1, h2, h3, e⟩ => ⟨_, _, .int x, e, kv1, pden_int H x, h x h1⟩
theorem we_d2 {ds : DS} {n : Nat} {P : D → Nat → Prop} {i : Nat} {a : Addr} (hd : ds[i]? = some (some (.strm a (.inv Ist)))) (h : ∀ x : Int, 0 ≤ x → P (.int x) n) : We K Z (tDGet (tVar i) (tC (.str (Str.ofString "mixed")))) ds n P :=
  we_iGet hd fun _ H o _ ⟨x, y, z, h1, h2, h3, e⟩ => ⟨_, _, .int y, e, kv2, pden_int H y, h y h2⟩
theorem we_d3 {ds : DS} {n : Nat} {P : D → Nat → Prop} {i : Nat} {a : Addr} (hd : ds[i]? = some (some (.strm a (.inv Ist)))) (h : ∀ x : Int, 0 ≤ x → P (.int x) n) : We K Z (tDGet (tVar i) (tC (.str (Str.ofString "turn")))) ds n P :=
  we_iGet hd fun _ H o _ ⟨x, y, z, h1, h2, h3, e⟩ => ⟨_, _, .int z, e, kv3, pden_int H z, h z h3⟩
theorem pden_is {H : Hp} {v : V} {i : Int} (h : PDen K H v (.int i)) : v = .int i := den_int (h ⟨fun _ => False, fun _ => .l3, 0, H, H⟩ (.refl _))
theorem ws_d1 {ds : DS} {n : Nat} {tv : TE} {N : Nd} {i : Nat} {a : Addr} (hd : ds[i]? = some (some (.strm a (.inv Ist)))) (h : We K Z tv ds n fun d m => ∃ x : Int, d = .int x ∧ 0 ≤ x ∧ N.nx ds m) : Ws K Z (sDPut (tVar i) (tC (.str (Str.ofString "large"))) tv) ds n N :=
  ws_iPut hd 0 (h.imp fun d m ⟨x, e, h0, p⟩ => ⟨by rw [e]; rfl, fun j H o _ ⟨x', y, z, h1, h2, h3, e'⟩ => ⟨_, e', by simp, 0, Nat.zero_le _, fun H' v _ hv => ⟨x, y, z, h0, h2, h3, by rw [kp1]; rw [e] at hv; rw [pden_is hv]⟩⟩, p⟩)
theorem ws_d2 {ds : DS} {n : Nat} {tv : TE} {N : Nd} {i : Nat} {a : Addr} (hd : ds[i]? = some (some (.strm a (.inv Ist)))) (h : We K Z tv ds n fun d m => ∃ x : Int, d = .int x ∧ 0 ≤ x ∧ N.nx ds m) : Ws K Z (sDPut (tVar i) (tC (.str (Str.ofString "mixed"))) tv) ds n N :=
  ws_iPut hd 0 (h.imp fun d m ⟨x, e, h0, p⟩ => ⟨by rw [e]; rfl, fun j H o _ ⟨x', y, z, h1, h2, h3, e'⟩ => ⟨_, e', by simp, 0, Nat.zero_le _, fun H' v _ hv => ⟨x', x, z, h1, h0, h3, by rw [kp2]; rw [e] at hv; rw [pden_is hv]⟩⟩, p⟩)
theorem ws_d3 {ds : DS} {n : Nat} {tv : TE} {N : Nd} {i : Nat} {a : Addr} (hd : ds[i]? = some (some (.strm a (.inv Ist)))) (h : We K Z tv ds n fun d m => ∃ x : Int, d = .int x ∧ 0 ≤ x ∧ N.nx ds m) : Ws K Z (sDPut (tVar i) (tC (.str (Str.ofString "turn"))) tv) ds n N :=
  ws_iPut hd 0 (h.imp fun d m ⟨x, e, h0, p⟩ => ⟨by rw [e]; rfl, fun j H o _ ⟨x', y, z, h1, h2, h3, e'⟩ => ⟨_, e', by simp, 0, Nat.zero_le _, fun H' v _ hv => ⟨x', y, x, h1, h2, h0, by rw [kp3]; rw [e] at hv; rw [pden_is hv]⟩⟩, p⟩)
local macro_rules | `(tactic| walk_at "w1") => `(tactic| first
  | with_reducible refine we_d1 rfl ?_
  | with_reducible refine we_d2 rfl ?_
  | with_reducible refine we_d3 rfl ?_
  | with_reducible refine ws_d1 rfl ?_
  | with_reducible refine ws_d2 rfl ?_
  | with_reducible refine ws_d3 rfl ?_)
theorem len__law_begin : ∀ ds n P X, R__law_begin A ds n P X → ds.length = 2 := by rintro ds n P X ⟨_, _, rfl, -⟩; rfl
theorem w__law_begin (T : TxtC K A) : ∀ Z ds n P, R__law_begin A ds n P Z.X → Ws K Z (t__law_begin K A) (startD 3 ds) n { nx := fun _ m => P .non m, rt := P } := by
  rintro Z ds n P ⟨ns, k, rfl, hn, h⟩
  unfold t__law_begin
  have rest : ∀ (x : Int) (Nd' : Nd) , (∀ a, Nd'.rt (.strm a (.inv Ist)) n) → Ws K Z (tRet (tDisp [((tC (.str (PySem.Str.ofString "large"))), (tIf (tTest (tOp (rGeP K) (tVar 2) (tOp (rI CPow fun i j => .int (i ^ j.toNat)) (tC (.int 10)) (tC (.int 18))))) (tVar 2) (tC (.int 0)))), ((tC (.str (PySem.Str.ofString "mixed"))), (tOp (rI (fun _ j => 0 < j) fun i j => .int (i % j)) (tCB (rInt1) (tCons (tOp (rAddU K) (tOp (rAddU K) (tOp (rI CMul fun i j => .int (i * j)) (tC (.int 3)) (tVar 2)) (tVar 1)) (tC (.int 1))) tNil)) (tC (.int 998244353)))), ((tC (.str (PySem.Str.ofString "turn"))), (tC (.int 0)))])) [some (.lst (ns.map .int)), some (.int (k : Nat)), some (.int x)] n Nd' := fun x Nd' hN => by
    refine ws_ret (we_iNew3 (I := Ist) klm klt kmt ?_)
    refine we_eq (x := .int (if x ≥ 10 ^ Int.toNat 18 then x else 0)) (k := n) ?_ ?_
    · walk_at "w"
      by_cases q : x ≥ 10 ^ Int.toNat 18
      · rw [decide_eq_true q, if_pos rfl, if_pos q]
        walk_at "w"
        exact ⟨rfl, rfl⟩
      · rw [decide_eq_false q, if_neg Bool.false_ne_true, if_neg q]
        walk_at "w"
        exact ⟨rfl, rfl⟩
    refine we_op ?_
    walk_at "w"
    refine ⟨rfl, rfl, rfl, fun H v1 v2 v3 h1 h2 h3 => ?_, hN⟩
    rw [pden_is h1, pden_is h2, pden_is h3]
    refine ⟨_, _, _, ?_, Int.emod_nonneg _ (by decide), Int.le_refl _, rfl⟩
    split
    · have : (0 : Int) ≤ 10 ^ Int.toNat 18 := by decide
      omega
    · exact Int.le_refl _
  refine ws_seq (ws_asg ?_)
  refine we_if (wt_test (we_op ?_))
  walk_at "w"
  refine ne_intsL (r := []) ?_
  by_cases q : ns = []
  · rw [decide_eq_true q]
    refine ⟨_, rfl, ?_⟩
    rw [if_neg (by decide)]
    refine we_int (wg_name ?_)
    exact rest _ _ h
  · rw [decide_eq_false q]
    refine ⟨_, rfl, ?_⟩
    rw [if_pos (by decide)]
    have hl : 0 < (((ns.map D.int).length : Nat) : Int) := by
      rw [List.length_map]
      have := List.length_pos_iff.mpr q
      omega
    have hl2 : 0 < ns.length := List.length_pos_iff.mpr q
    walk_at "w"
    have e1 := Int.emod_nonneg ((k : Nat) : Int) (show (((ns.map D.int).length : Nat) : Int) ≠ 0 by omega)
    have e2 := Int.emod_lt_of_pos ((k : Nat) : Int) hl
    rw [List.length_map] at e1 e2 ⊢
    have hi : (((k : Nat) : Int) % ((ns.length : Nat) : Int)).toNat < ns.length := by omega
    refine ix_lst (n := (((k : Nat) : Int) % ((ns.length : Nat) : Int)).toNat) (d := .int ns[(((k : Nat) : Int) % ((ns.length : Nat) : Int)).toNat]) (by omega) (by rw [List.getElem?_map, List.getElem?_eq_getElem hi]; rfl) ?_
    refine wg_name ?_
    exact rest _ _ h
theorem len__law_draw : ∀ ds n P X, R__law_draw A ds n P X → ds.length = 2 := by rintro ds n P X ⟨_, _, rfl, -⟩; rfl
theorem w__law_draw (T : TxtC K A) : ∀ Z ds n P, R__law_draw A ds n P Z.X → Ws K Z (t__law_draw K A) (startD 3 ds) n { nx := fun _ m => P .non m, rt := P } := by
  rintro Z ds n P ⟨a, t, rfl, t0, t1, h⟩
  unfold t__law_draw
  have res : ∀ x : Int, P (.int (x % t)) n := fun x => h _ (Int.emod_nonneg _ (by omega)) (Int.emod_lt_of_pos _ t0)
  walk_at "w"
  intro x hx
  walk_at "w"
  by_cases q : x > 0
  · rw [decide_eq_true q, if_pos rfl]
    walk_at "w"
    intro y hy
    walk_at "w"
    intro z hz
    walk_at "w"
    refine ⟨Int.ediv_nonneg hz (by omega), ?_⟩
    walk_at "w"
    exact res _
  · rw [decide_eq_false q, if_neg Bool.false_ne_true]
    walk_at "w"
    intro y hy
    walk_at "w"
    refine ⟨by omega, ?_⟩
    walk_at "w"
    intro z hz
    walk_at "w"
    intro z2 hz2
    walk_at "w"
    refine ⟨Int.emod_nonneg _ (by decide), ?_⟩
    walk_at "w"
    intro z3 hz3
    walk_at "w"
    exact res _
theorem len__law_pick : ∀ ds n P X, R__law_pick A ds n P X → ds.length = 2 := by rintro ds n P X ⟨_, _, rfl, -⟩; rfl
theorem w__law_pick (T : TxtC K A) : ∀ Z ds n P, R__law_pick A ds n P Z.X → Ws K Z (t__law_pick K A) (startD 2 ds) n { nx := fun _ m => P .non m, rt := P } := by
  rintro Z ds n P ⟨a, xs, rfl, hne, hl, h⟩
  unfold t__law_pick
  have h0 := List.length_pos_iff.mpr hne
  walk_at "w"
  refine ⟨a, _, rfl, by omega, by omega, fun r r0 r1 => ?_⟩
  have hi : r.toNat < xs.length := by omega
  refine ix_lst (n := r.toNat) (d := xs[r.toNat]) (by omega) (List.getElem?_eq_getElem hi) ?_
  exact h _ (List.getElem_mem hi)
end
end Lw

namespace Lw
open PySem L2 StX DL MP
section
variable {K : PySem.W.Frag} [Tb K] {Z : ZX} {A : Ad}
/-- one step -/
local macro_rules | `(tactic| walk_at "w1") => `(tactic| first
  | with_reducible refine ws_seq ?_
  | ((with_reducible show Ws _ _ (tAsg (tLst tNil) (gName _)) _ _ _); refine ws_setX (wx_lst (wa_nil ⟨Nat.zero_le _, ?_⟩)))
  | ((with_reducible show Ws _ _ (tAsg tDNewK (gName _)) _ _ _); refine ws_setX (wx_dnew ?_))
  | with_reducible refine ws_parX ?_
  | with_reducible refine ws_par3X ?_
  | ((with_reducible show Wx _ _ (tLst tNil) _ _ _); refine wx_lst (wa_nil ⟨Nat.zero_le _, ?_⟩))
  | ((with_reducible show Wx _ _ tDNewK _ _ _); refine wx_dnew ?_)
  | ((with_reducible show We _ _ tDNewK _ _ _); refine we_dnew ?_)
  | with_reducible refine wx_we ?_
  | with_reducible refine ws_break ?_
  | with_reducible refine ws_cont ?_
  | with_reducible refine ws_retN ?_
  | with_reducible refine ws_if ?_
  | with_reducible refine ws_ret ?_
  | ((fail_if_success (with_reducible show Ws _ _ (tDrop (tBM _ _ _ _ _)) _ _ _)); (with_reducible refine ws_drop ?_))
  | with_reducible refine ws_next ?_
  | with_reducible refine ws_par ?_
  | ((fail_if_success (with_reducible show Ws _ _ (tAsg _ (gSub _ _ _)) _ _ _)); (with_reducible refine ws_asg ?_))
  | with_reducible refine wg_name ?_
  | with_reducible refine we_int ?_
  | with_reducible refine we_bl ?_
  | with_reducible refine we_non ?_
  | with_reducible refine we_str ?_
  | with_reducible refine we_ty ?_
  | with_reducible refine we_cls ?_
  | with_reducible refine we_cmethX ?_
  | with_reducible refine we_cmeth ?_
  | with_reducible refine we_cmethN ?_
  | ((with_reducible show ∃ _, D.str _ = D.str _ ∧ _ ∧ _); refine ⟨_, rfl, ?_, ?_⟩; (focus (first | assumption | omega)))
  | ((with_reducible show We _ _ (tVar _) _ _ _); refine we_var rfl rfl ?_)
  | ((with_reducible show We _ _ (tVar _) _ _ _); refine we_var rfl (mut_td _) ?_)
  | ((with_reducible show We _ _ (tVar _) _ _ _); refine we_var rfl (mut_tg _) ?_)
  | ((with_reducible show We _ _ (tVar _) _ _ _); refine we_var rfl (mut_w _) ?_)
  | ((with_reducible show We _ _ (tVar _) _ _ _); refine we_var rfl (mut_lm _) ?_)
  | ((with_reducible show We _ _ (tVar _) _ _ _); refine we_var rfl (mut_b _) ?_)
  | ((fail_if_success (with_reducible show We _ _ (tOp (rInP _) _ (tVar _)) _ _ _)); with_reducible refine we_op ?_)
  | with_reducible refine we_un ?_
  | with_reducible refine we_lenO ?_
  | with_reducible refine we_cb ?_
  | with_reducible refine we_callX ?_
  | with_reducible refine we_call ?_
  | with_reducible refine we_callNX ?_
  | with_reducible refine we_callN ?_
  | with_reducible refine we_methN ?_
  | with_reducible refine we_callON ?_
  | with_reducible refine we_callOX ?_
  | with_reducible refine ws_raise ?_
  | with_reducible refine we_exf ?_
  | with_reducible refine we_tup ?_
  | with_reducible refine we_lst ?_
  | with_reducible refine we_sl ?_
  | with_reducible refine we_m1 ?_
  | with_reducible refine we_andV ?_
  | with_reducible refine we_orV ?_
  | with_reducible refine we_notV ?_
  | with_reducible refine we_if ?_
  | with_reducible refine we_chain ?_
  | with_reducible refine we_fld ?_
  | with_reducible refine we_methX ?_
  | with_reducible refine we_meth ?_
  | with_reducible refine we_prop ?_
  | with_reducible refine we_callO' ?_
  | with_reducible refine we_make ?_
  | with_reducible refine wt_test ?_
  | with_reducible refine wt_B ?_
  | with_reducible refine wt_yes ?_
  | with_reducible refine wt_and ?_
  | with_reducible refine wt_or ?_
  | with_reducible refine wt_not ?_
  | with_reducible refine wa_nil ?_
  | with_reducible refine wa_cons ?_
  | with_reducible refine wo_none ?_
  | with_reducible refine wo_some ?_
  | with_reducible refine add_int ?_
  | with_reducible refine sub_int ?_
  | with_reducible refine neg_int ?_
  | ((with_reducible refine mod_int ?_ ?_); (focus (first | assumption | omega)))
  | ((with_reducible refine mul_int ?_ ?_); (focus (first | exact Or.inl ⟨by omega, by omega⟩ | exact Or.inr ⟨by omega, by omega⟩)))
  | ((with_reducible refine fdiv_int ?_ ?_); (focus (exact ⟨by omega, by omega⟩)))
  | ((with_reducible refine pow_int ?_ ?_); (focus (exact ⟨by decide, by decide, by decide⟩)))
  | with_reducible refine is_non ?_
  | with_reducible refine not_non ?_
  | with_reducible refine eq_int ?_
  | with_reducible refine ne_int ?_
  | with_reducible refine eq_pos ?_
  | with_reducible refine ne_pos ?_
  | with_reducible refine ne_nn ?_
  | with_reducible refine ne_np ?_
  | with_reducible refine ne_pn ?_
  | with_reducible refine eq_str ?_
  | with_reducible refine ne_str ?_
  | with_reducible refine eq_bl ?_
  | with_reducible refine ne_bl ?_
  | with_reducible refine lt_int ?_
  | with_reducible refine gt_int ?_
  | with_reducible refine le_int ?_
  | with_reducible refine ge_int ?_
  | with_reducible refine lt_pos ?_
  | with_reducible refine gt_pos ?_
  | with_reducible refine le_pos ?_
  | with_reducible refine ge_pos ?_
  | with_reducible refine int_int ?_
  | with_reducible refine min_int ?_
  | with_reducible refine max_int ?_
  | with_reducible refine len_lst ?_
  | with_reducible refine len_tup ?_
  | ((with_reducible refine len_str ?_ ?_); (focus (first | assumption | omega)))
  | with_reducible refine tuple_lst ?_
  | with_reducible refine tuple_tup ?_
  | with_reducible refine sl_lst ?_
  | with_reducible refine sl_tup ?_
  | ((with_reducible refine sl_str ?_ ?_); (focus (first | assumption | omega)))
  | with_reducible refine mt_countD ?_
  | with_reducible refine mt_rfindD ?_
  | ((with_reducible refine mt_splitD ?_ ?_ ?_); (focus rfl); (focus (first | assumption | omega)))
  | ((with_reducible show Op _ (rIx _) (D.tup _) (D.int _) _); refine ix_tup (by decide) rfl ?_)
  | ((with_reducible show Op _ (rIx _) (D.lst _) (D.int _) _); refine ix_lst (by decide) rfl ?_)
  | ((with_reducible show Cb _ (rIsi _) [D.int _, D.ty _] _); first | refine isiI (r := true) (by decide +kernel) ?_ | refine isiI (r := false) (by decide +kernel) ?_)
  | ((with_reducible show Cb _ (rIsi _) [D.str _, D.ty _] _); first | refine isiS (r := true) (by decide +kernel) ?_ | refine isiS (r := false) (by decide +kernel) ?_)
  | ((with_reducible show Cb _ (rIsi _) [D.tup _, D.ty _] _); first | refine isiT (r := true) (by decide +kernel) ?_ | refine isiT (r := false) (by decide +kernel) ?_)
  | ((with_reducible show Wg _ _ (gTup _ _ _) _ _ _); refine wg_tup rfl rfl ?_)
  | ((with_reducible show Wgs _ _ gNil _ _ _); refine wgs_nil rfl ?_)
  | ((with_reducible show Wgs _ _ (gCons _ _) _ _ _); refine wgs_cons rfl ?_)
  | ((with_reducible show ∃ _, D.bl _ = D.bl _ ∧ _); refine ⟨_, rfl, ?_⟩)
  | ((with_reducible show ∃ _, D.int _ = D.int _ ∧ _); refine ⟨_, rfl, ?_⟩)
  | ((with_reducible show ∃ _, D.str _ = D.str _ ∧ _); refine ⟨_, rfl, ?_⟩)
  | ((with_reducible show ∃ _, D.tup _ = D.tup _ ∧ _); refine ⟨_, rfl, ?_⟩)
  | ((with_reducible show ∃ _, D.lst _ = D.lst _ ∧ _); refine ⟨_, rfl, ?_⟩)
  | with_reducible refine wt_tru ?_
  | with_reducible refine list_lst ?_
  | with_reducible refine list_tup ?_
  | with_reducible refine we_makeS ?_
  | with_reducible refine we_makeR ?_
  | with_reducible refine we_smethS ?_
  | with_reducible refine iteNT ?_
  | with_reducible refine iteNF ?_
  | ((with_reducible show if true = true then _ else _); rw [if_pos rfl])
  | ((with_reducible show if false = true then _ else _); rw [if_neg Bool.false_ne_true])
  | ((with_reducible show List.length _ ≤ 1000000 ∧ _); refine ⟨?_, ?_⟩; (focus (simp; done)))
  | fail "no step")
local macro_rules | `(tactic| walk_at "w") => `(tactic| repeat (walk_at "w1"))
local macro_rules | `(tactic| walk_at "ws") => `(tactic| repeat ((fail_if_success (with_reducible show We _ _ (tChain _ _ _ _ _) _ _ _)); (fail_if_success (with_reducible show Wt _ _ (tAnd _ _) _ _ _)); (fail_if_success (with_reducible show We _ _ (tOrT _ _ _) _ _ _)); walk_at "w1"))

open RG
theorem iteYesB {b : Bool} {x y : Prop} (h : b = true) (k : x) : if b = true then x else y := by rw [if_pos h]; exact k
theorem iteNoB {b : Bool} {x y : Prop} (h : b = false) (k : y) : if b = true then x else y := by rw [if_neg (by rw [h]; decide)]; exact k
local macro_rules | `(tactic| walk_at "w1") => `(tactic| first
  | ((with_reducible show if decide _ = true then _ else _); refine iteYesB rfl ?_)
  | ((with_reducible show if decide _ = true then _ else _); refine iteNoB rfl ?_)
  | ((with_reducible show if isNonD _ = true then _ else _); refine iteYesB rfl ?_)
  | ((with_reducible show if isNonD _ = true then _ else _); refine iteNoB rfl ?_)
  | ((with_reducible show if (!_) = true then _ else _); refine iteYesB rfl ?_)
  | ((with_reducible show if (!_) = true then _ else _); refine iteNoB rfl ?_))
theorem len_is_integer : ∀ ds n P X, R_is_integer A ds n P X → ds.length = 1 := by rintro ds n P X (⟨i, rfl, -⟩ | ⟨_, _, rfl, -⟩) <;> rfl
theorem w_is_integer (T : TxtC K A) : ∀ Z ds n P, R_is_integer A ds n P Z.X → Ws K Z (t_is_integer K A) (startD 1 ds) n {nx := fun _ m => P .non m, rt := P} := by
  rintro Z ds n P (⟨i, rfl, h⟩ | ⟨d, U, rfl, hm, ht, hk, h⟩)
  · unfold t_is_integer
    walk_at "w"
    exact h
  · unfold t_is_integer
    walk_at "w"
    refine we_var rfl hm ?_
    walk_at "w"
    rcases hk with hk | rfl
    · refine isi_ty ht hk ?_
      walk_at "w"
      exact h
    · refine isi_ty (r := true) ht (by decide +kernel) ?_
      walk_at "w"
      refine we_var rfl hm ?_
      walk_at "w"
      refine isi_ty (r := true) ht (by decide +kernel) ?_
      walk_at "w"
      exact h
theorem len_is_count : ∀ ds n P X, R_is_count A ds n P X → ds.length = 1 := by rintro ds n P X (⟨i, rfl, -⟩ | ⟨_, _, rfl, -⟩) <;> rfl
theorem w_is_count (T : TxtC K A) : ∀ Z ds n P, R_is_count A ds n P Z.X → Ws K Z (t_is_count K A) (startD 1 ds) n { nx := fun _ m => P .non m, rt := P } := by
  rintro Z ds n P (⟨i, rfl, h⟩ | ⟨d, U, rfl, hm, ht, hk, h⟩)
  · unfold t_is_count
    walk_at "w"
    refine .inl ⟨_, rfl, ?_⟩
    walk_at "w"
    exact h
  · unfold t_is_count
    walk_at "w"
    refine we_var rfl hm ?_
    walk_at "w"
    refine .inr ⟨d, U, rfl, hm, ht, hk, ?_⟩
    walk_at "w"
    exact h
theorem len_is_place : ∀ ds n P X, R_is_place A ds n P X → ds.length = 1 := by rintro ds n P X (⟨_, _, rfl, -⟩ | ⟨rfl, -⟩ | ⟨rfl, -⟩) <;> rfl
theorem w_is_place (T : TxtC K A) : ∀ Z ds n P, R_is_place A ds n P Z.X → Ws K Z (t_is_place K A) (startD 1 ds) n { nx := fun _ m => P .non m, rt := P } := by
  rintro Z ds n P (⟨p, q, rfl, h⟩ | ⟨rfl, h⟩ | ⟨rfl, h⟩)
  · unfold t_is_place
    walk_at "w"
    refine .inl ⟨_, rfl, ?_⟩
    walk_at "w"
    by_cases z : 0 ≤ p
    · rw [decide_eq_true z] at h ⊢
      walk_at "w"
      refine .inl ⟨_, rfl, ?_⟩
      rw [Bool.true_and] at h
      exact h
    · rw [decide_eq_false z] at h ⊢
      walk_at "w"
      exact h
  · unfold t_is_place
    walk_at "w"
    refine .inr ⟨_, "bool", rfl, rfl, rfl, .inr rfl, ?_⟩
    walk_at "w"
    exact h
  · unfold t_is_place
    walk_at "w"
    refine .inl ⟨_, rfl, ?_⟩
    walk_at "w"
    refine .inr ⟨_, "str", rfl, rfl, rfl, .inl (by decide +kernel), ?_⟩
    exact h
theorem odd_mut {d : D} (h : d ∈ oddL) : isMut d = false := by
  simp only [oddL, List.mem_cons, List.not_mem_nil, or_false] at h
  rcases h with rfl | rfl | rfl | rfl | rfl | rfl | rfl | rfl | rfl | rfl <;> rfl
theorem len__is_range : ∀ ds n P X, R__is_range A ds n P X → ds.length = 1 := by rintro ds n P X (⟨_, rfl, -⟩ | ⟨_, rfl, -⟩) <;> rfl
theorem w__is_range (T : TxtC K A) : ∀ Z ds n P, R__is_range A ds n P Z.X → Ws K Z (t__is_range K A) (startD 1 ds) n { nx := fun _ m => P .non m, rt := P } := by
  rintro Z ds n P (⟨⟨row, low, high⟩, rfl, w, h⟩ | ⟨d, rfl, hd, h⟩)
  · unfold t__is_range
    walk_at "w"
    refine .inl ⟨_, _, rfl, ?_⟩
    rw [decide_eq_true (show (0 : Int) ≤ ((row : Nat) : Int) by omega), decide_eq_true (show (0 : Int) ≤ ((low : Nat) : Int) by omega)]
    walk_at "w"
    cases high with
    | none =>
      walk_at "w"
      exact h
    | some x =>
      walk_at "w"
      refine .inl ⟨_, rfl, ?_⟩
      rw [decide_eq_true (show (0 : Int) ≤ ((x : Nat) : Int) by omega)]
      walk_at "w"
      have := w x rfl
      refine gt_int (i := ((x : Nat) : Int)) (j := ((low : Nat) : Int)) ?_
      rw [decide_eq_true (show ((x : Nat) : Int) > ((low : Nat) : Int) by simp only at this; omega)]
      exact h
  · simp only [oddL, List.mem_cons, List.not_mem_nil, or_false] at hd
    unfold t__is_range
    rcases hd with rfl | rfl | rfl | rfl | rfl | rfl | rfl | rfl | rfl | rfl
    · walk_at "w"
      refine isi_ty (T := "NoneType") (r := false) rfl (by decide +kernel) ?_
      walk_at "w"
      exact h
    · walk_at "w"
      exact h
    · walk_at "w"
      exact h
    · walk_at "w"
      refine isi_ty (T := "list") (r := false) rfl (by decide +kernel) ?_
      walk_at "w"
      exact h
    · walk_at "w"
      refine .inl ⟨_, _, rfl, ?_⟩
      walk_at "w"
      refine .inl ⟨_, rfl, ?_⟩
      walk_at "w"
      exact h
    · walk_at "w"
      refine .inl ⟨_, _, rfl, ?_⟩
      walk_at "w"
      refine .inl ⟨_, rfl, ?_⟩
      walk_at "w"
      exact h
    · walk_at "w"
      refine .inl ⟨_, _, rfl, ?_⟩
      walk_at "w"
      exact h
    · walk_at "w"
      refine .inr (.inl ⟨rfl, ?_⟩)
      walk_at "w"
      exact h
    · walk_at "w"
      refine .inl ⟨_, _, rfl, ?_⟩
      walk_at "w"
      refine .inr ⟨_, "bool", rfl, rfl, rfl, .inr rfl, ?_⟩
      walk_at "w"
      exact h
    · walk_at "w"
      refine .inr (.inr ⟨rfl, ?_⟩)
      walk_at "w"
      exact h
theorem len__line_and_first : ∀ ds n P X, R__line_and_first A ds n P X → ds.length = 1 := by rintro ds n P X ⟨_, rfl, -⟩; rfl
theorem w__line_and_first (T : TxtC K A) : ∀ Z ds n P, R__line_and_first A ds n P Z.X → Ws K Z (t__line_and_first K A) (startD 1 ds) n { nx := fun _ m => P .non m, rt := P } := by
  rintro Z ds n P ⟨r, rfl, h⟩
  unfold t__line_and_first
  walk_at "w"
  exact h
theorem len__later : ∀ ds n P X, R__later A ds n P X → ds.length = 2 := by rintro ds n P X ⟨_, _, rfl, -⟩; rfl
theorem w__later (T : TxtC K A) : ∀ Z ds n P, R__later A ds n P Z.X → Ws K Z (t__later K A) (startD 2 ds) n { nx := fun _ m => P .non m, rt := P } := by
  rintro Z ds n P ⟨a, b, rfl, h⟩
  unfold t__later
  cases a with
  | none =>
    walk_at "w"
    exact h
  | some x =>
    cases b with
    | none =>
      walk_at "w"
      exact h
    | some y =>
      walk_at "w"
      refine max_int (i := ((x : Nat) : Int)) (j := ((y : Nat) : Int)) ?_
      have e : (if ((y : Nat) : Int) > ((x : Nat) : Int) then ((y : Nat) : Int) else ((x : Nat) : Int)) = ((max x y : Nat) : Int) := by split <;> omega
      rw [e]
      exact h

theorem set_last {α : Type} {acc l : List α} {b x : α} (h : acc = l ++ [b]) : acc.set (acc.length - 1) x = l ++ [x] := by subst h; simp
theorem decEq' (a b : Nat) : decide (((a : Nat) : Int) = ((b : Nat) : Int)) = decide (a = b) := decide_eq_decide.mpr (by omega)
theorem sort_rg (rs : List Rn) : (((rs.map fun r => ((rgD r, ((r.1 : Nat) : Int), ((r.2.1 : Nat) : Int)) : D × (Int × Int))).mergeSort ordP).map (·.1)) = (rs.mergeSort leR).map rgD := by
  rw [← List.map_mergeSort (r := leR) (fun a _ b _ => ?_), List.map_map]
  · rfl
  · unfold leR ordP
    simp only
    refine decide_eq_decide.mpr ?_
    omega
theorem jstep_len (acc : List Rn) (r : Rn) : (jstep acc r).length ≤ acc.length + 1 := by
  unfold jstep
  cases q : acc.getLast? with
  | none => simp
  | some b =>
    show (if _ then _ else _ : List Rn).length ≤ _
    split
    · have := congrArg List.length (last_is q)
      simp at this ⊢
    · simp
theorem fold_len (rs : List Rn) (i : Nat) : ((rs.take i).foldl jstep []).length ≤ i := by
  have key : ∀ (xs : List Rn) (acc : List Rn), (xs.foldl jstep acc).length ≤ acc.length + xs.length := by
    intro xs
    induction xs with
    | nil => intro acc; simp
    | cons x xs ih =>
      intro acc
      have h1 := ih (jstep acc x)
      have h2 := jstep_len acc x
      rw [List.foldl_cons, List.length_cons]
      omega
  have := key (rs.take i) []
  rw [List.length_take] at this
  simp at this
  omega
theorem len_joined : ∀ ds n P X, R_joined A ds n P X → ds.length = 1 := by rintro ds n P X ⟨_, rfl | rfl, -⟩ <;> rfl
theorem w_joined (T : TxtC K A) : ∀ Z ds n P, R_joined A ds n P Z.X → Ws K Z (t_joined K A) (startD 6 ds) n { nx := fun _ m => P .non m, rt := P } := by
  rintro Z ds n P ⟨rs, hds, hl, h⟩
  have main : ∀ d : D, (d = .lst (rs.map rgD) ∨ d = .tup (rs.map rgD)) → Ws K Z (t_joined K A) (startD 6 [d]) n { nx := fun _ m => P .non m, rt := P } := fun d hd => by
    have hm : isMut d = false := by rcases hd with rfl | rfl <;> rfl
    unfold t_joined
    walk_at "w"
    refine ws_fort rgD (rs.mergeSort leR) (wi_list (we_sortKQ (we_var rfl hm ?_)))
    refine ⟨rs.map fun r => ((rgD r, ((r.1 : Nat) : Int), ((r.2.1 : Nat) : Int)) : D × (Int × Int)), by rw [List.map_map]; exact hd, fun p hp => ?_, ?_⟩
    · obtain ⟨r, hr, rfl⟩ := List.mem_map.mp hp
      exact ⟨_, rfl, rfl, rfl⟩
    rw [sort_rg]
    refine ⟨_, rfl, rfl, fun i ds' m => m = n ∧ ∃ d2 d3 d4 d5, ds' = [some d, some (.mls ((((rs.mergeSort leR).take i).foldl jstep []).map rgD)), d2, d3, d4, d5], ⟨rfl, _, _, _, _, rfl⟩, ?_, ?_⟩
    · rintro i ⟨row, low, high⟩ ds' m hx ⟨rfl, d2, d3, d4, d5, rfl⟩
      have il := (List.getElem?_eq_some_iff.mp hx).1
      rw [(List.mergeSort_perm ..).length_eq] at il
      have hlen := fold_len (rs.mergeSort leR) i
      have hstep : ((rs.mergeSort leR).take (i + 1)).foldl jstep [] = jstep (((rs.mergeSort leR).take i).foldl jstep []) (row, low, high) := by
        rw [List.take_add_one, hx, List.foldl_append]; rfl
      generalize ((rs.mergeSort leR).take i).foldl jstep [] = acc at hstep hlen ⊢
      have hal : acc.length < 1000000 := by omega
      have app : ∀ (N' : Nd) e2 e3 e4 e5, e2 = some (D.int (row : Nat)) → e3 = some (D.int (low : Nat)) → e4 = some (lmD high) → jstep acc (row, low, high) = acc ++ [(row, low, high)] → (∀ ds', ds' = [some d, some (.mls ((jstep acc (row, low, high)).map rgD)), e2, e3, e4, e5] → N'.nx ds' m) → Ws K Z (tDrop (tBM K "list" rAppend (tVar 1) (tCons (tTup (tCons (tVar 2) (tCons (tVar 3) (tCons (tVar 4) tNil)))) tNil))) [some d, some (.mls (acc.map rgD)), e2, e3, e4, e5] m N' := fun N' e2 e3 e4 e5 h2 h3 h4 hj hN => by
        subst h2 h3 h4
        refine ws_append rfl (by rw [List.length_map]; exact hal) ?_
        walk_at "w"
        refine hN _ ?_
        rw [hj, List.map_append]
        rfl
      refine wg_tup rfl rfl (wgs_cons rfl (wg_name (wgs_cons rfl (wg_name (wgs_cons rfl (wg_name (wgs_nil rfl ?_)))))))
      refine ws_seq (ws_asg (we_if (wt_truM rfl ?_)))
      cases q : acc.getLast? with
      | none =>
        have ea : acc = [] := List.getLast?_eq_none_iff.mp q
        subst ea
        refine iteNoB rfl ?_
        walk_at "w"
        refine eqP (d := .none) (e := .int (row : Nat)) rfl rfl rfl rfl (by simp [PyData.depth]) ?_
        rw [show PyData.eqv .none (.int (row : Nat)) = false by simp [PyData.eqv]]
        walk_at "w"
        refine app _ _ _ _ _ rfl rfl rfl rfl fun ds' e => ?_
        subst e
        exact ⟨rfl, _, _, _, _, by rw [hstep]⟩
      | some b =>
        have ea := last_is q
        have hne : acc.length = acc.dropLast.length + 1 := by
          have := congrArg List.length ea
          simpa using this
        have hix : ixN (acc.map rgD).length (-1) = some (acc.length - 1) := by
          unfold ixN
          rw [List.length_map, if_neg (by omega), if_pos (by omega)]
          congr 1
          omega
        have hb : (acc.map rgD)[acc.length - 1]? = some (rgD b) := by
          rw [List.getElem?_map]
          rw [List.getLast?_eq_getElem?] at q
          rw [q]; rfl
        have hj : jstep acc (row, low, high) = if b.1 = row ∧ (∀ h, b.2.2 = some h → low ≤ h) then acc.dropLast ++ [(row, b.2.1, later b.2.2 high)] else acc ++ [(row, low, high)] := by
          unfold jstep; rw [q]
        refine iteYesB (by rw [List.isEmpty_map]; cases acc with | nil => cases q | cons x y => rfl) ?_
        refine we_ixM rfl ?_
        walk_at "w"
        refine ⟨-1, _, _, rfl, hix, hb, ?_⟩
        walk_at "w"
        rw [decEq']
        by_cases z1 : b.1 = row
        · rw [decide_eq_true z1]
          have hset : ∀ x : Rn, (acc.map rgD).set (acc.length - 1) (rgD x) = (acc.dropLast ++ [x]).map rgD := fun x => by
            rw [← List.map_set, set_last ea]
          have put : ∀ (N' : Nd), jstep acc (row, low, high) = acc.dropLast ++ [(row, b.2.1, later b.2.2 high)] → (∀ ds', ds' = [some d, some (.mls ((jstep acc (row, low, high)).map rgD)), some (.int (row : Nat)), some (.int (low : Nat)), some (lmD high), some (rgD b)] → N'.nx ds' m) →
              Ws K Z (tAsg (tTup (tCons (tVar 2) (tCons (tOp (rIx K) (tVar 5) (tC (.int 1))) (tCons (tCall (spD K (R__later A)) [] E0 (tCons (tOp (rIx K) (tVar 5) (tC (.int 2))) (tCons (tVar 4) tNil))) tNil)))) (gSub (tVar 1) (tUn (rU fun i => .int (-i)) (tC (.int 1))) rSetL)) [some d, some (.mls (acc.map rgD)), some (.int (row : Nat)), some (.int (low : Nat)), some (lmD high), some (rgD b)] m N' := fun N' hj hN => by
            refine ws_setM rfl ?_
            walk_at "w"
            refine ⟨b.2.2, high, rfl, ?_⟩
            walk_at "w"
            refine ⟨-1, _, rfl, hix, ?_⟩
            refine hN _ ?_
            rw [hj, ← hset]
            rfl
          refine iteYesB rfl ?_
          walk_at "w"
          cases e : b.2.2 with
          | none =>
            refine iteYesB rfl ?_
            walk_at "w"
            refine put _ (by rw [hj, if_pos ⟨z1, fun h k => by rw [e] at k; cases k⟩]) fun ds' e => ?_
            subst e
            exact ⟨rfl, _, _, _, _, by rw [hstep]⟩
          | some x =>
            refine iteNoB rfl ?_
            walk_at "w"
            rw [show lmD b.2.2 = .int ((x : Nat) : Int) by rw [e]; rfl]
            refine le_int (i := ((low : Nat) : Int)) (j := ((x : Nat) : Int)) ?_
            by_cases z2 : low ≤ x
            · rw [decide_eq_true (show ((low : Nat) : Int) ≤ ((x : Nat) : Int) by omega)]
              walk_at "w"
              refine put _ (by rw [hj, if_pos ⟨z1, fun h k => by rw [e] at k; cases k; exact z2⟩]) fun ds' e => ?_
              subst e
              exact ⟨rfl, _, _, _, _, by rw [hstep]⟩
            · rw [decide_eq_false (show ¬ ((low : Nat) : Int) ≤ ((x : Nat) : Int) by omega)]
              walk_at "w"
              refine app _ _ _ _ _ rfl rfl rfl (by rw [hj, if_neg fun z => z2 (z.2 x e)]) fun ds' e => ?_
              subst e
              exact ⟨rfl, _, _, _, _, by rw [hstep]⟩
        · rw [decide_eq_false z1]
          walk_at "w"
          refine app _ _ _ _ _ rfl rfl rfl (by rw [hj, if_neg fun z => z1 z.1]) fun ds' e => ?_
          subst e
          exact ⟨rfl, _, _, _, _, by rw [hstep]⟩
    · rintro ds' m ⟨rfl, d2, d3, d4, d5, rfl⟩
      rw [List.take_length]
      refine ws_settle (i := 1) (xs := ((rs.mergeSort leR).foldl jstep []).map rgD) rfl ?_
      walk_at "w"
      exact h
  rcases hds with rfl | rfl
  · exact main _ (.inl rfl)
  · exact main _ (.inr rfl)

theorem len_joined_ranges : ∀ ds n P X, R_joined_ranges A ds n P X → ds.length = 1 := by rintro ds n P X (⟨_, rfl | rfl, -⟩ | ⟨_, _, _, rfl, -⟩ | ⟨_, _, rfl, -⟩) <;> rfl
theorem w_joined_ranges {E : XK} (T : TxtC K A) : ∀ X ds n P, R_joined_ranges A ds n P X → Ws K ⟨E, X⟩ (t_joined_ranges K A E) (startD 2 ds) n { nx := fun _ m => P .non m, rt := P } := by
  rintro X ds n P (⟨rs, hds, hw, hl, h⟩ | ⟨rs, d, rest, rfl, hw, hd, hx⟩ | ⟨d, U, rfl, hm, ht, hk, hx⟩)
  · have main : ∀ (d : D) (U : String), tyD d = some U → kit2 U "list" "tuple" = some true → (d = .lst (rs.map rgD) ∨ d = .tup (rs.map rgD)) → Ws K ⟨E, X⟩ (t_joined_ranges K A E) (startD 2 [d]) n { nx := fun _ m => P .non m, rt := P } := fun d U ht hk hd => by
      have hm : isMut d = false := by rcases hd with rfl | rfl <;> rfl
      unfold t_joined_ranges
      refine ws_seq (ws_if (wt_not (wt_B (we_isiT2 (we_var rfl hm ⟨U, true, ht, hk, true, rfl, ?_⟩)))))
      refine iteNoB rfl ?_
      walk_at "w"
      have seq : ∀ {Pl : List D → Nat → Prop}, Pl (rs.map rgD) n → Wi K ⟨E, X⟩ (iSeq K (tVar 0)) (startD 2 [d]) n Pl := fun {Pl} hp => by
        rcases hd with rfl | rfl
        · exact wi_seqL (we_var rfl rfl ⟨_, rfl, hp⟩)
        · exact wi_seqT (we_var rfl rfl ⟨_, rfl, hp⟩)
      refine ws_fort rgD rs (seq ⟨rfl, fun i ds' m => m = n ∧ ∃ d2, ds' = [some d, d2], ⟨rfl, _, rfl⟩, ?_, ?_⟩)
      · rintro i r ds' m hx ⟨rfl, d2, rfl⟩
        walk_at "w"
        refine .inl ⟨r, rfl, hw r (List.mem_of_getElem? hx), ?_⟩
        walk_at "w"
        exact ⟨rfl, _, rfl⟩
      · rintro ds' m ⟨rfl, d2, rfl⟩
        refine ws_ret (we_call (wa_cons (we_var rfl hm (wa_nil ?_))))
        exact ⟨rs, hd.imp (fun z => by rw [z]) (fun z => by rw [z]), hl, h⟩
    rcases hds with rfl | rfl
    · exact main _ "list" rfl (by decide +kernel) (.inl rfl)
    · exact main _ "tuple" rfl (by decide +kernel) (.inr rfl)
  · unfold t_joined_ranges
    have hdm := odd_mut hd
    refine ws_seq (ws_if (wt_not (wt_B (we_isiT2 (we_var rfl rfl ⟨"list", true, rfl, by decide +kernel, true, rfl, ?_⟩)))))
    refine iteNoB rfl ?_
    walk_at "w"
    refine ws_fore (fun x : D => x) (wi_seqL (we_var rfl rfl ⟨_, rfl, ?_⟩))
    refine ⟨_, by rw [List.map_id'], fun i ds' m => m = n ∧ i ≤ rs.length ∧ ∃ d2, ds' = [some (.lst (rs.map rgD ++ d :: rest)), d2], ⟨rfl, Nat.zero_le _, _, rfl⟩, ?_, ?_⟩
    · rintro i y ds' m hy ⟨rfl, hi, d2, rfl⟩
      by_cases q : i < rs.length
      · rw [List.getElem?_append_left (by rw [List.length_map]; exact q), List.getElem?_map, List.getElem?_eq_getElem q] at hy
        obtain rfl : rgD rs[i] = y := by simpa using hy
        walk_at "w"
        refine .inl ⟨rs[i], rfl, hw _ (List.getElem_mem q), ?_⟩
        walk_at "w"
        exact ⟨rfl, q, _, rfl⟩
      · have hi2 : i = rs.length := by omega
        rw [List.getElem?_append_right (by rw [List.length_map]; omega), List.length_map, hi2, Nat.sub_self] at hy
        obtain rfl : d = y := by simpa using hy
        walk_at "w"
        refine we_var rfl hdm ?_
        walk_at "w"
        refine .inr ⟨d, rfl, hd, ?_⟩
        walk_at "w"
        refine we_var rfl hdm ?_
        walk_at "w"
        exact ⟨_, rfl, hx⟩
    · rintro ds' m ⟨rfl, hi, _⟩
      simp at hi
      omega
  · unfold t_joined_ranges
    refine ws_seq (ws_if (wt_not (wt_B (we_isiT2 (we_var rfl hm ⟨U, false, ht, hk, false, rfl, ?_⟩)))))
    refine iteYesB rfl ?_
    walk_at "w"
    exact ⟨_, rfl, hx⟩

theorem len__law_ranges : ∀ ds n P X, R__law_ranges A ds n P X → ds.length = 1 := by rintro ds n P X ⟨_, rfl, -⟩; rfl
theorem w__law_ranges (T : TxtC K A) : ∀ Z ds n P, R__law_ranges A ds n P Z.X → Ws K Z (t__law_ranges K A) (startD 5 ds) n { nx := fun _ m => P .non m, rt := P } := by
  rintro Z ds n P ⟨a, rfl, h⟩
  unfold t__law_ranges
  walk_at "w"
  refine ws_fore (fun q : Nat => D.int (q : Nat)) (wi_range1 ?_)
  walk_at "w"
  refine ⟨a, 7, rfl, by decide, by decide, fun r r0 r1 => ?_⟩
  walk_at "w"
  refine ⟨r, rfl, ⟨by omega, by omega⟩, List.range r.toNat, by rw [rng0_map], fun i ds' m => m = n ∧ i ≤ 6 ∧ ∃ (rs : List Rn) (d2 d3 d4 : Option D), ds' = [some (.strm a (.inv Ist)), some (.mls (rs.map rgD)), d2, d3, d4] ∧ rs.length = i ∧ ∀ r ∈ rs, r.1 < 2 ∧ r.2.1 < 10 ∧ wf r ∧ ∀ h, r.2.2 = some h → h ≤ 14, ⟨rfl, Nat.zero_le _, [], _, _, _, rfl, rfl, fun r hr => by cases hr⟩, ?_, ?_⟩
  · rintro i q ds' m hq ⟨rfl, h6, rs, d2, d3, d4, rfl, hi, hr⟩
    obtain ⟨hq1, rfl⟩ := range_at hq
    walk_at "w"
    refine ⟨a, 10, rfl, by decide, by decide, fun low l0 l1 => ?_⟩
    obtain ⟨low, rfl⟩ := Int.eq_ofNat_of_zero_le l0
    have app : ∀ (N' : Nd) (high : Option Nat) e2, wf (0, low, high) → (∀ h, high = some h → h ≤ 14) → (∀ ds' (row : Nat), row < 2 → ds' = [some (.strm a (.inv Ist)), some (.mls ((rs ++ [(row, low, high)]).map rgD)), e2, some (.int (low : Nat)), some (lmD high)] → N'.nx ds' m) →
        Ws K Z (tDrop (tBM K "list" rAppend (tVar 1) (tCons (tTup (tCons (tCall (spD K (R__law_draw A)) [] E0 (tCons (tVar 0) (tCons (tC (.int 2)) tNil))) (tCons (tVar 3) (tCons (tVar 4) tNil)))) tNil))) [some (.strm a (.inv Ist)), some (.mls (rs.map rgD)), e2, some (.int (low : Nat)), some (lmD high)] m N' := fun N' high e2 w h14 hN => by
      refine ws_append rfl (by rw [List.length_map]; omega) ?_
      walk_at "w"
      refine ⟨a, 2, rfl, by decide, by decide, fun row w0 w1 => ?_⟩
      obtain ⟨row, rfl⟩ := Int.eq_ofNat_of_zero_le w0
      walk_at "w"
      refine hN _ row (by omega) ?_
      rw [List.map_append]
      rfl
    walk_at "w"
    refine ⟨a, 6, rfl, by decide, by decide, fun k k0 k1 => ?_⟩
    walk_at "w"
    by_cases z : k = 0
    · rw [decide_eq_true z, if_pos rfl]
      walk_at "w"
      refine app _ none _ (fun h e => by cases e) (fun h e => by cases e) fun ds' row hrow e => ?_
      subst e
      refine ⟨rfl, by omega, _, _, _, _, rfl, by simp [hi], fun r hr' => ?_⟩
      rcases List.mem_append.mp hr' with y | y
      · exact hr r y
      · rw [List.mem_singleton.mp y]
        exact ⟨hrow, by show low < 10; omega, (fun h e => by cases e), (fun h e => by cases e)⟩
    · rw [decide_eq_false z, if_neg Bool.false_ne_true]
      walk_at "w"
      refine ⟨a, 4, rfl, by decide, by decide, fun j j0 j1 => ?_⟩
      obtain ⟨j, rfl⟩ := Int.eq_ofNat_of_zero_le j0
      walk_at "w"
      refine app _ (some (low + 1 + j)) _ (fun h e => by cases e; show low < _; omega) (fun h e => by cases e; omega) fun ds' row hrow e => ?_
      subst e
      refine ⟨rfl, by omega, _, _, _, _, rfl, by simp [hi], fun r hr' => ?_⟩
      rcases List.mem_append.mp hr' with y | y
      · exact hr r y
      · rw [List.mem_singleton.mp y]
        exact ⟨hrow, by show low < 10; omega, (fun h e => by cases e; show low < _; omega), (fun h e => by cases e; omega)⟩
  · rintro ds' m ⟨rfl, h6, rs, d2, d3, d4, rfl, hi, hr⟩
    refine ws_settle (i := 1) (xs := rs.map rgD) rfl ?_
    walk_at "w"
    exact h rs ⟨by rw [hi]; exact h6, hr⟩

theorem er_map {α β : Type} (f : α → β) : ∀ (ys : List α) (r : Nat), (ys.map f).eraseIdx r = (ys.eraseIdx r).map f
  | [], _ => rfl
  | y :: ys, 0 => rfl
  | y :: ys, r + 1 => by
    show f y :: (ys.map f).eraseIdx r = f y :: (ys.eraseIdx r).map f
    rw [er_map f ys r]
theorem er_perm {α : Type} : ∀ (ys : List α) (r : Nat) (h : r < ys.length), (ys[r] :: ys.eraseIdx r).Perm ys
  | y :: ys, 0, _ => .refl _
  | y :: ys, r + 1, h => by
    have ih := er_perm ys r (by simpa using h)
    show ((ys[r]'(by simpa using h)) :: y :: ys.eraseIdx r).Perm (y :: ys)
    exact (List.Perm.swap _ _ _).trans (ih.cons y)
theorem cutD_toL {xs : List D} {k : Nat} : cutD xs none (some (k : Int)) = xs.take k := by
  unfold cutD
  rw [HT.sIx_nat, HT.sIx_none]
  show (xs.drop 0).take (min k xs.length - 0) = _
  rw [List.drop_zero, Nat.sub_zero, ← List.take_eq_take_min]
theorem len__law_mixed : ∀ ds n P X, R__law_mixed A ds n P X → ds.length = 2 := by rintro ds n P X ⟨_, _, rfl, -⟩; rfl
theorem w__law_mixed (T : TxtC K A) : ∀ Z ds n P, R__law_mixed A ds n P Z.X → Ws K Z (t__law_mixed K A) (startD 5 ds) n { nx := fun _ m => P .non m, rt := P } := by
  rintro Z ds n P ⟨a, rs, rfl, hx, h⟩
  unfold t__law_mixed
  refine ws_seq (ws_parX (wx_list (we_var rfl rfl ?_)))
  refine ⟨rs.map rgD, .inl rfl, wx_lst (wa_nil ⟨Nat.zero_le _, ?_⟩)⟩
  refine ws_seq (ws_fore (fun q : Nat => D.int (q : Nat)) (wi_range1 (wa_cons (we_cb (wa_cons (we_var rfl rfl (wa_nil (len_lst (wa_nil ?_)))))))))
  rw [List.length_map]
  refine ⟨(rs.length : Nat), rfl, ⟨by omega, by omega⟩, List.range rs.length, by rw [rng0_map]; rfl, fun i ds' m => ∃ (ys zs : List Rn) (d4 : Option D), m = n ∧ ds' = [some (.strm a (.inv Ist)), some (.lst (rs.map rgD)), some (.mls (ys.map rgD)), some (.mls (zs.map rgD)), d4] ∧ (ys ++ zs).Perm rs ∧ zs.length = i, ⟨rs, [], _, rfl, rfl, by simp, rfl⟩, ?_, ?_⟩
  · rintro i q ds' m hq ⟨ys, zs, d4, rfl, rfl, hp, hz⟩
    obtain ⟨hi, rfl⟩ := range_at hq
    have hl := hp.length_eq
    rw [List.length_append] at hl
    refine wg_name ?_
    refine ws_appendP rfl (wp_popAt rfl ?_)
    refine we_call (wa_cons (we_var rfl rfl (wa_cons (we_lenM rfl (wa_nil ?_)))))
    refine ⟨a, (ys.length : Nat), by rw [List.length_map], by omega, by omega, fun r r0 r1 => ?_⟩
    obtain ⟨r, rfl⟩ := Int.eq_ofNat_of_zero_le r0
    have hr : r < ys.length := by omega
    refine ⟨r, rgD ys[r], rfl, by rw [List.getElem?_map, List.getElem?_eq_getElem hr]; rfl, by omega, rfl, by rw [List.length_map]; omega, ys.eraseIdx r, zs ++ [ys[r]], some (.int (q : Nat)), rfl, ?_, ?_, by simp [hz]⟩
    · rw [List.map_append]
      have e : (ys.map rgD).eraseIdx r = (ys.eraseIdx r).map rgD := er_map ..
      rw [e]
      rfl
    have p1 := er_perm ys r hr
    have p2 : (ys.eraseIdx r ++ (zs ++ [ys[r]])).Perm ((ys[r] :: ys.eraseIdx r) ++ zs) := by
      rw [← List.append_assoc]
      exact (List.perm_append_singleton _ _).trans (List.Perm.refl _)
    exact p2.trans ((p1.append_right zs).trans hp)
  · rintro ds' m ⟨ys, zs, d4, rfl, rfl, hp, hz⟩
    have hl := hp.length_eq
    rw [List.length_append, hz, List.length_range] at hl
    have e : ys = [] := List.length_eq_zero_iff.mp (by omega)
    subst e
    refine ws_settle (i := 3) (xs := zs.map rgD) rfl ?_
    walk_at "w"
    have hp' : zs.Perm rs := by simpa using hp
    have e2 : cutD (zs.map rgD) none (some 1) = (zs.take 1).map rgD := by
      have : cutD (zs.map rgD) none (some ((1 : Nat) : Int)) = (zs.map rgD).take 1 := cutD_toL
      rw [List.map_take]; exact this
    rw [e2]
    have hle := hp'.length_eq
    refine add_lst (by simp only [List.length_map, List.length_take]; omega) ?_
    rw [← List.map_append]
    refine h _ (fun r => ?_) ?_
    · rw [List.mem_append]
      constructor
      · rintro (z | z)
        · exact hp'.mem_iff.mp z
        · exact hp'.mem_iff.mp (List.mem_of_mem_take z)
      · exact fun z => .inl (hp'.mem_iff.mpr z)
    · rw [List.length_append, List.length_take, hp'.length_eq]; omega
end
end Lw

namespace Lw
open PySem L2 StX DL MP
section
variable {K : PySem.W.Frag} [Tb K] {Z : ZX} {A : Ad}
/-- one step -/
local macro_rules | `(tactic| walk_at "w1") => `(tactic| first
  | with_reducible refine ws_seq ?_
  | ((with_reducible show Ws _ _ (tAsg (tLst tNil) (gName _)) _ _ _); refine ws_setX (wx_lst (wa_nil ⟨Nat.zero_le _, ?_⟩)))
  | ((with_reducible show Ws _ _ (tAsg tDNewK (gName _)) _ _ _); refine ws_setX (wx_dnew ?_))
  | with_reducible refine ws_parX ?_
  | with_reducible refine ws_par3X ?_
  | ((with_reducible show Wx _ _ (tLst tNil) _ _ _); refine wx_lst (wa_nil ⟨Nat.zero_le _, ?_⟩))
  | ((with_reducible show Wx _ _ tDNewK _ _ _); refine wx_dnew ?_)
  | ((with_reducible show We _ _ tDNewK _ _ _); refine we_dnew ?_)
  | with_reducible refine wx_we ?_
  | with_reducible refine ws_break ?_
  | with_reducible refine ws_cont ?_
  | with_reducible refine ws_retN ?_
  | with_reducible refine ws_if ?_
  | with_reducible refine ws_ret ?_
  | ((fail_if_success (with_reducible show Ws _ _ (tDrop (tBM _ _ _ _ _)) _ _ _)); (with_reducible refine ws_drop ?_))
  | with_reducible refine ws_next ?_
  | with_reducible refine ws_par ?_
  | ((fail_if_success (with_reducible show Ws _ _ (tAsg _ (gSub _ _ _)) _ _ _)); (with_reducible refine ws_asg ?_))
  | with_reducible refine wg_name ?_
  | with_reducible refine we_int ?_
  | with_reducible refine we_bl ?_
  | with_reducible refine we_non ?_
  | with_reducible refine we_str ?_
  | with_reducible refine we_ty ?_
  | with_reducible refine we_cls ?_
  | with_reducible refine we_cmethX ?_
  | with_reducible refine we_cmeth ?_
  | with_reducible refine we_cmethN ?_
  | ((with_reducible show ∃ _, D.str _ = D.str _ ∧ _ ∧ _); refine ⟨_, rfl, ?_, ?_⟩; (focus (first | assumption | omega)))
  | ((with_reducible show We _ _ (tVar _) _ _ _); refine we_var rfl rfl ?_)
  | ((with_reducible show We _ _ (tVar _) _ _ _); refine we_var rfl (mut_td _) ?_)
  | ((with_reducible show We _ _ (tVar _) _ _ _); refine we_var rfl (mut_tg _) ?_)
  | ((with_reducible show We _ _ (tVar _) _ _ _); refine we_var rfl (mut_w _) ?_)
  | ((with_reducible show We _ _ (tVar _) _ _ _); refine we_var rfl (mut_lm _) ?_)
  | ((with_reducible show We _ _ (tVar _) _ _ _); refine we_var rfl (mut_b _) ?_)
  | ((fail_if_success (with_reducible show We _ _ (tOp (rInP _) _ (tVar _)) _ _ _)); with_reducible refine we_op ?_)
  | with_reducible refine we_un ?_
  | with_reducible refine we_lenO ?_
  | with_reducible refine we_cb ?_
  | with_reducible refine we_callX ?_
  | with_reducible refine we_call ?_
  | with_reducible refine we_callNX ?_
  | with_reducible refine we_callN ?_
  | with_reducible refine we_methN ?_
  | with_reducible refine we_callON ?_
  | with_reducible refine we_callOX ?_
  | with_reducible refine ws_raise ?_
  | with_reducible refine we_exf ?_
  | with_reducible refine we_tup ?_
  | with_reducible refine we_lst ?_
  | with_reducible refine we_sl ?_
  | with_reducible refine we_m1 ?_
  | with_reducible refine we_andV ?_
  | with_reducible refine we_orV ?_
  | with_reducible refine we_notV ?_
  | with_reducible refine we_if ?_
  | with_reducible refine we_chain ?_
  | with_reducible refine we_fld ?_
  | with_reducible refine we_methX ?_
  | with_reducible refine we_meth ?_
  | with_reducible refine we_prop ?_
  | with_reducible refine we_callO' ?_
  | with_reducible refine we_make ?_
  | with_reducible refine wt_test ?_
  | with_reducible refine wt_B ?_
  | with_reducible refine wt_yes ?_
  | with_reducible refine wt_and ?_
  | with_reducible refine wt_or ?_
  | with_reducible refine wt_not ?_
  | with_reducible refine wa_nil ?_
  | with_reducible refine wa_cons ?_
  | with_reducible refine wo_none ?_
  | with_reducible refine wo_some ?_
  | with_reducible refine add_int ?_
  | with_reducible refine sub_int ?_
  | with_reducible refine neg_int ?_
  | ((with_reducible refine mod_int ?_ ?_); (focus (first | assumption | omega)))
  | ((with_reducible refine mul_int ?_ ?_); (focus (first | exact Or.inl ⟨by omega, by omega⟩ | exact Or.inr ⟨by omega, by omega⟩)))
  | ((with_reducible refine fdiv_int ?_ ?_); (focus (exact ⟨by omega, by omega⟩)))
  | ((with_reducible refine pow_int ?_ ?_); (focus (exact ⟨by decide, by decide, by decide⟩)))
  | with_reducible refine is_non ?_
  | with_reducible refine not_non ?_
  | with_reducible refine eq_int ?_
  | with_reducible refine ne_int ?_
  | with_reducible refine eq_pos ?_
  | with_reducible refine ne_pos ?_
  | with_reducible refine ne_nn ?_
  | with_reducible refine ne_np ?_
  | with_reducible refine ne_pn ?_
  | with_reducible refine eq_str ?_
  | with_reducible refine ne_str ?_
  | with_reducible refine eq_bl ?_
  | with_reducible refine ne_bl ?_
  | with_reducible refine lt_int ?_
  | with_reducible refine gt_int ?_
  | with_reducible refine le_int ?_
  | with_reducible refine ge_int ?_
  | with_reducible refine lt_pos ?_
  | with_reducible refine gt_pos ?_
  | with_reducible refine le_pos ?_
  | with_reducible refine ge_pos ?_
  | with_reducible refine int_int ?_
  | with_reducible refine min_int ?_
  | with_reducible refine max_int ?_
  | with_reducible refine len_lst ?_
  | with_reducible refine len_tup ?_
  | ((with_reducible refine len_str ?_ ?_); (focus (first | assumption | omega)))
  | with_reducible refine tuple_lst ?_
  | with_reducible refine tuple_tup ?_
  | with_reducible refine sl_lst ?_
  | with_reducible refine sl_tup ?_
  | ((with_reducible refine sl_str ?_ ?_); (focus (first | assumption | omega)))
  | with_reducible refine mt_countD ?_
  | with_reducible refine mt_rfindD ?_
  | ((with_reducible refine mt_splitD ?_ ?_ ?_); (focus rfl); (focus (first | assumption | omega)))
  | ((with_reducible show Op _ (rIx _) (D.tup _) (D.int _) _); refine ix_tup (by decide) rfl ?_)
  | ((with_reducible show Op _ (rIx _) (D.lst _) (D.int _) _); refine ix_lst (by decide) rfl ?_)
  | ((with_reducible show Cb _ (rIsi _) [D.int _, D.ty _] _); first | refine isiI (r := true) (by decide +kernel) ?_ | refine isiI (r := false) (by decide +kernel) ?_)
  | ((with_reducible show Cb _ (rIsi _) [D.str _, D.ty _] _); first | refine isiS (r := true) (by decide +kernel) ?_ | refine isiS (r := false) (by decide +kernel) ?_)
  | ((with_reducible show Cb _ (rIsi _) [D.tup _, D.ty _] _); first | refine isiT (r := true) (by decide +kernel) ?_ | refine isiT (r := false) (by decide +kernel) ?_)
  | ((with_reducible show Wg _ _ (gTup _ _ _) _ _ _); refine wg_tup rfl rfl ?_)
  | ((with_reducible show Wgs _ _ gNil _ _ _); refine wgs_nil rfl ?_)
  | ((with_reducible show Wgs _ _ (gCons _ _) _ _ _); refine wgs_cons rfl ?_)
  | ((with_reducible show ∃ _, D.bl _ = D.bl _ ∧ _); refine ⟨_, rfl, ?_⟩)
  | ((with_reducible show ∃ _, D.int _ = D.int _ ∧ _); refine ⟨_, rfl, ?_⟩)
  | ((with_reducible show ∃ _, D.str _ = D.str _ ∧ _); refine ⟨_, rfl, ?_⟩)
  | ((with_reducible show ∃ _, D.tup _ = D.tup _ ∧ _); refine ⟨_, rfl, ?_⟩)
  | ((with_reducible show ∃ _, D.lst _ = D.lst _ ∧ _); refine ⟨_, rfl, ?_⟩)
  | with_reducible refine wt_tru ?_
  | with_reducible refine list_lst ?_
  | with_reducible refine list_tup ?_
  | with_reducible refine we_makeS ?_
  | with_reducible refine we_makeR ?_
  | with_reducible refine we_smethS ?_
  | with_reducible refine iteNT ?_
  | with_reducible refine iteNF ?_
  | ((with_reducible show if true = true then _ else _); rw [if_pos rfl])
  | ((with_reducible show if false = true then _ else _); rw [if_neg Bool.false_ne_true])
  | ((with_reducible show List.length _ ≤ 1000000 ∧ _); refine ⟨?_, ?_⟩; (focus (simp; done)))
  | fail "no step")
local macro_rules | `(tactic| walk_at "w") => `(tactic| repeat (walk_at "w1"))
local macro_rules | `(tactic| walk_at "ws") => `(tactic| repeat ((fail_if_success (with_reducible show We _ _ (tChain _ _ _ _ _) _ _ _)); (fail_if_success (with_reducible show Wt _ _ (tAnd _ _) _ _ _)); (fail_if_success (with_reducible show We _ _ (tOrT _ _ _) _ _ _)); walk_at "w1"))

open RG
local macro_rules | `(tactic| walk_at "w1") => `(tactic| first
  | ((with_reducible show if decide _ = true then _ else _); refine iteYesB rfl ?_)
  | ((with_reducible show if decide _ = true then _ else _); refine iteNoB rfl ?_)
  | ((with_reducible show if isNonD _ = true then _ else _); refine iteYesB rfl ?_)
  | ((with_reducible show if isNonD _ = true then _ else _); refine iteNoB rfl ?_)
  | ((with_reducible show if (!_) = true then _ else _); refine iteYesB rfl ?_)
  | ((with_reducible show if (!_) = true then _ else _); refine iteNoB rfl ?_))
local macro_rules | `(tactic| walk_at "wn") => `(tactic| repeat ((fail_if_success (with_reducible show We _ _ (tOp (rNeP _) (tVar _) (tLst tNil)) _ _ _)); (fail_if_success (with_reducible show We _ _ (tOp (rIx _) (tVar _) (tUn _ _)) _ _ _)); walk_at "w1"))
def hiP : Option Nat → PyData
  | none => .none
  | some x => .int (x : Nat)
def rgP (r : Rn) : PyData := .tuple [.int (r.1 : Nat), .int (r.2.1 : Nat), hiP r.2.2]
theorem pd_rg (r : Rn) : pd (rgD r) = some (rgP r) := by
  obtain ⟨a, b, c⟩ := r
  cases c <;> rfl
theorem plain_rg (r : Rn) : (rgP r).plain = true := by
  obtain ⟨a, b, c⟩ := r
  cases c <;> rfl
theorem depth_rg (r : Rn) : (rgP r).depth ≤ 1 := by
  obtain ⟨a, b, c⟩ := r
  cases c <;> simp [rgP, hiP, PyData.depth, PyData.depthAll]
theorem eq_lm {P : D → Prop} {o : Option Nat} {t : Nat} (h : P (.bl (decide (o = some t)))) : Op K (rEqP K) (lmD o) (.int (t : Nat)) P := by
  cases o with
  | none =>
    refine eqP (d := .none) (e := .int (t : Nat)) rfl rfl rfl rfl (by simp [PyData.depth]) ?_
    rw [show PyData.eqv .none (.int (t : Nat)) = false by simp [PyData.eqv]]
    exact h
  | some x =>
    refine eq_int (i := ((x : Nat) : Int)) (j := ((t : Nat) : Int)) ?_
    rw [decEq', show decide (x = t) = decide (some x = some t) from decide_eq_decide.mpr (by simp)]
    exact h
theorem ne_ones {P : D → Prop} {rs : List Rn} (p : Rn → Prop) [DecidablePred p] (h : P (.bl (decide (∃ r ∈ rs, p r)))) : Op K (rNeP K) (.lst (rs.filterMap fun r => if p r then some (D.int 1) else none)) (.lst []) P := by
  have e : (rs.filterMap fun r => if p r then some (D.int 1) else none) = (rs.filterMap fun r => if p r then some (1 : Int) else none).map D.int := by
    rw [List.map_filterMap]
    congr 1
    funext r
    split <;> rfl
  rw [e]
  refine ne_intsL (r := []) ?_
  have e2 : (!decide ((rs.filterMap fun r => if p r then some (1 : Int) else none) = [])) = decide (∃ r ∈ rs, p r) := by
    rw [Bool.eq_iff_iff]
    simp only [Bool.not_eq_true', decide_eq_false_iff_not, decide_eq_true_eq, List.filterMap_eq_nil_iff]
    constructor
    · intro z
      refine Classical.byContradiction fun y => z fun r hr => ?_
      rw [if_neg fun k => y ⟨r, hr, k⟩]
    · rintro ⟨r, hr, k⟩ z
      have := z r hr
      rw [if_pos k] at this
      cases this
  rw [e2]; exact h
theorem ix_last {acc : List Rn} {b : Rn} (q : acc.getLast? = some b) : ixN (acc.map rgD).length (-1) = some (acc.length - 1) ∧ (acc.map rgD)[acc.length - 1]? = some (rgD b) := by
  have ea := last_is q
  have hne : acc.length = acc.dropLast.length + 1 := by
    have := congrArg List.length ea
    simpa using this
  constructor
  · unfold ixN
    rw [List.length_map, if_neg (by omega), if_pos (by omega)]
    congr 1
    omega
  · rw [List.getElem?_map]
    rw [List.getLast?_eq_getElem?] at q
    rw [q]; rfl
theorem set_lastD {acc : List Rn} {b : Rn} (q : acc.getLast? = some b) (x : Rn) : (acc.map rgD).set (acc.length - 1) (rgD x) = (acc.dropLast ++ [x]).map rgD := by
  rw [← List.map_set, set_last (last_is q)]
theorem dstep_len (acc : List Rn) (row t : Nat) : (dstep acc row t).length ≤ acc.length + 1 := by
  unfold dstep
  cases q : acc.getLast? with
  | none => simp
  | some b =>
    show (if _ then _ else _ : List Rn).length ≤ _
    split
    · have := congrArg List.length (last_is q)
      simp at this ⊢
    · simp
theorem len__law_due : ∀ ds n P X, R__law_due A ds n P X → ds.length = 1 := by rintro ds n P X ⟨_, rfl, -⟩; rfl
theorem w__law_due (T : TxtC K A) : ∀ Z ds n P, R__law_due A ds n P Z.X → Ws K Z (t__law_due K A) (startD 8 ds) n { nx := fun _ m => P .non m, rt := P } := by
  rintro Z ds n P ⟨rs, rfl, hD, h⟩
  unfold t__law_due
  have hl := hD.len
  walk_at "wn"
  refine ws_fort (fun q : Nat => D.int (q : Nat)) (List.range 2) (wi_range1 ?_)
  walk_at "wn"
  refine ⟨2, rfl, by decide, by rw [rng0_map]; rfl, fun i ds' m => m = n ∧ i ≤ 2 ∧ ∃ (acc : List Rn) (d2 d3 d4 d5 d6 d7 : Option D), ds' = [some (.lst (rs.map rgD)), some (.mls (acc.map rgD)), d2, d3, d4, d5, d6, d7] ∧ Du rs acc i 0 ∧ acc.length ≤ 17 * i, ⟨rfl, Nat.zero_le _, [], _, _, _, _, _, _, rfl, du0 rs, Nat.zero_le _⟩, ?_, ?_⟩
  · rintro i row ds' m hq ⟨rfl, hi2, acc, d2, d3, d4, d5, d6, d7, rfl, hdu, hal⟩
    obtain ⟨hrow, rfl⟩ := range_at hq
    walk_at "wn"
    refine we_lct rgD (fun r : Rn => if r.1 = row ∧ r.2.2 = none then some (D.int 1) else none) rs (wi_list ?_)
    walk_at "wn"
    refine ⟨rfl, by omega, fun r hr => wgc_tup rfl rfl (wgsc_cons rfl (wgc_name (by simp) (wgsc_cons rfl (wgc_name (by simp) (wgsc_cons rfl (wgc_name (by simp) (wgsc_nil rfl ?_))))))), ?_⟩
    · walk_at "wn"
      rw [decEq']
      by_cases z : r.1 = row
      · rw [decide_eq_true z]
        walk_at "wn"
        cases e : r.2.2 with
        | none =>
          refine ⟨rfl, ?_⟩
          refine iteYesB rfl ?_
          walk_at "wn"
          exact ⟨rfl, if_pos ⟨z, rfl⟩⟩
        | some x =>
          refine ⟨rfl, ?_⟩
          refine iteNoB rfl ?_
          exact if_neg fun k => by cases k.2
      · rw [decide_eq_false z]
        walk_at "wn"
        refine ⟨rfl, ?_⟩
        rw [if_neg Bool.false_ne_true]
        exact if_neg fun k => z k.1
    walk_at "wn"
    refine ne_ones (fun r : Rn => r.1 = row ∧ r.2.2 = none) ?_
    walk_at "wn"
    refine ws_fort (fun q : Nat => D.int (q : Nat)) (List.range 17) (wi_range1 ?_)
    walk_at "wn"
    refine ⟨17, rfl, by decide, by rw [rng0_map]; rfl, fun i ds' m' => m' = m ∧ i ≤ 17 ∧ ∃ (acc' : List Rn) (d4 d5 d6 d7 : Option D), ds' = [some (.lst (rs.map rgD)), some (.mls (acc'.map rgD)), some (.int (row : Nat)), some (.bl (decide (∃ r ∈ rs, r.1 = row ∧ r.2.2 = none))), d4, d5, d6, d7] ∧ Du rs acc' row i ∧ acc'.length ≤ 17 * row + i, ⟨rfl, Nat.zero_le _, acc, _, _, _, _, rfl, hdu, hal⟩, ?_, ?_⟩
    · clear hdu hal acc
      rintro i t ds' m' hq' ⟨rfl, hi17, acc, d4, d5, d6, d7, rfl, hdu, hal⟩
      obtain ⟨ht, rfl⟩ := range_at hq'
      walk_at "wn"
      refine we_lct rgD (fun r : Rn => if cv r row t then some (D.int 1) else none) rs (wi_list ?_)
      walk_at "wn"
      refine ⟨rfl, by omega, fun r hr => wgc_tup rfl rfl (wgsc_cons rfl (wgc_name (by simp) (wgsc_cons rfl (wgc_name (by simp) (wgsc_cons rfl (wgc_name (by simp) (wgsc_nil rfl ?_))))))), ?_⟩
      · walk_at "wn"
        rw [decEq']
        by_cases z : r.1 = row
        · rw [decide_eq_true z]
          walk_at "wn"
          by_cases z2 : r.2.1 ≤ t
          · rw [decide_eq_true (show ((r.2.1 : Nat) : Int) ≤ ((t : Nat) : Int) by omega)]
            walk_at "wn"
            cases e : r.2.2 with
            | none =>
              refine iteYesB rfl ?_
              refine ⟨rfl, ?_⟩
              rw [if_pos rfl]
              walk_at "wn"
              exact ⟨rfl, if_pos ⟨z, z2, fun h k => by rw [e] at k; cases k⟩⟩
            | some x =>
              refine iteNoB rfl ?_
              walk_at "wn"
              refine lt_int (i := ((t : Nat) : Int)) (j := ((x : Nat) : Int)) ?_
              by_cases z3 : t < x
              · rw [decide_eq_true (show ((t : Nat) : Int) < ((x : Nat) : Int) by omega)]
                walk_at "wn"
                refine ⟨rfl, ?_⟩
                rw [if_pos rfl]
                walk_at "wn"
                exact ⟨rfl, if_pos ⟨z, z2, fun h k => by rw [e] at k; cases k; exact z3⟩⟩
              · rw [decide_eq_false (show ¬ ((t : Nat) : Int) < ((x : Nat) : Int) by omega)]
                walk_at "wn"
                refine ⟨rfl, ?_⟩
                rw [if_neg Bool.false_ne_true]
                exact if_neg fun k => z3 (k.2.2 x e)
          · rw [decide_eq_false (show ¬ ((r.2.1 : Nat) : Int) ≤ ((t : Nat) : Int) by omega)]
            walk_at "wn"
            refine ⟨rfl, ?_⟩
            rw [if_neg Bool.false_ne_true]
            exact if_neg fun k => z2 k.2.1
        · rw [decide_eq_false z]
          walk_at "wn"
          refine ⟨rfl, ?_⟩
          rw [if_neg Bool.false_ne_true]
          exact if_neg fun k => z k.1
      walk_at "wn"
      refine ne_ones (fun r : Rn => cv r row t) ?_
      by_cases hc : ∃ r ∈ rs, cv r row t
      · rw [decide_eq_true hc]
        have hst := du_step hdu hc
        have hsl := dstep_len acc row t
        have app : ∀ (N' : Nd) e5 e6 e7, dstep acc row t = acc ++ [(row, t, some (t + 1))] → (∀ ds', ds' = [some (.lst (rs.map rgD)), some (.mls ((dstep acc row t).map rgD)), some (.int (row : Nat)), some (.bl (decide (∃ r ∈ rs, r.1 = row ∧ r.2.2 = none))), some (.int (t : Nat)), e5, e6, e7] → N'.nx ds' m') →
            Ws K Z (tDrop (tBM K "list" rAppend (tVar 1) (tCons (tTup (tCons (tVar 2) (tCons (tVar 4) (tCons (tOp (rAddU K) (tVar 4) (tC (.int 1))) tNil)))) tNil))) [some (.lst (rs.map rgD)), some (.mls (acc.map rgD)), some (.int (row : Nat)), some (.bl (decide (∃ r ∈ rs, r.1 = row ∧ r.2.2 = none))), some (.int (t : Nat)), e5, e6, e7] m' N' := fun N' e5 e6 e7 hd hN => by
          refine ws_append rfl (by rw [List.length_map]; omega) ?_
          walk_at "wn"
          refine hN _ ?_
          rw [hd, List.map_append]
          rfl
        walk_at "wn"
        refine we_neM0 rfl (pdsm rgD rgP pd_rg acc) (plainm rgP plain_rg acc) (Nat.le_trans (depthm rgP 1 depth_rg acc) (by decide)) ?_
        cases q : acc.getLast? with
        | none =>
          have ea : acc = [] := List.getLast?_eq_none_iff.mp q
          subst ea
          walk_at "wn"
          refine app _ _ _ _ rfl fun ds' e => ?_
          subst e
          exact ⟨rfl, ht, _, _, _, _, _, rfl, hst, by omega⟩
        | some b =>
          obtain ⟨hix, hb⟩ := ix_last q
          have hne : acc ≠ [] := fun z => by rw [z] at q; cases q
          have hj : dstep acc row t = if b.1 = row ∧ b.2.2 = some t then acc.dropLast ++ [(row, b.2.1, some (t + 1))] else acc ++ [(row, t, some (t + 1))] := by
            unfold dstep; rw [q]
          rw [decide_eq_true (show acc.map rgD ≠ [] from fun z => hne (List.map_eq_nil_iff.mp z))]
          walk_at "wn"
          refine we_ixM rfl ?_
          walk_at "wn"
          refine ⟨-1, _, _, rfl, hix, hb, ?_⟩
          walk_at "wn"
          rw [decEq']
          by_cases z1 : b.1 = row
          · rw [decide_eq_true z1]
            walk_at "wn"
            refine we_ixM rfl ?_
            walk_at "wn"
            refine ⟨-1, _, _, rfl, hix, hb, ?_⟩
            walk_at "wn"
            refine eq_lm ?_
            by_cases z2 : b.2.2 = some t
            · rw [decide_eq_true z2]
              walk_at "wn"
              refine ws_setM rfl ?_
              walk_at "wn"
              refine we_ixM rfl ?_
              walk_at "wn"
              refine ⟨-1, _, _, rfl, hix, hb, ?_⟩
              walk_at "wn"
              refine ⟨-1, _, rfl, hix, ?_⟩
              refine ⟨rfl, ht, dstep acc row t, some (.int (t : Nat)), d5, d6, d7, ?_, hst, by omega⟩
              rw [hj, if_pos ⟨z1, z2⟩, ← set_lastD q]
              rfl
            · rw [decide_eq_false z2]
              walk_at "wn"
              refine app _ _ _ _ (by rw [hj, if_neg fun z => z2 z.2]) fun ds' e => ?_
              subst e
              exact ⟨rfl, ht, _, _, _, _, _, rfl, hst, by omega⟩
          · rw [decide_eq_false z1]
            walk_at "wn"
            refine app _ _ _ _ (by rw [hj, if_neg fun z => z1 z.1]) fun ds' e => ?_
            subst e
            exact ⟨rfl, ht, _, _, _, _, _, rfl, hst, by omega⟩
      · rw [decide_eq_false hc]
        walk_at "wn"
        exact ⟨rfl, ht, acc, _, _, _, _, rfl, du_not hdu hc, by omega⟩
    · clear hdu hal acc
      rintro ds' m' ⟨rfl, _, acc, d4, d5, d6, d7, rfl, hdu, hal⟩
      rw [List.length_range] at hdu hal
      walk_at "wn"
      refine ⟨_, rfl, ?_⟩
      by_cases ho : ∃ r ∈ rs, r.1 = row ∧ r.2.2 = none
      · rw [decide_eq_true ho, if_pos rfl]
        obtain ⟨b, q, hdu'⟩ := du_open hdu (fun r hr => (hD.r r hr).2.1) ho
        obtain ⟨hix, hb⟩ := ix_last q
        refine ws_setM rfl ?_
        walk_at "wn"
        refine we_ixM rfl ?_
        walk_at "wn"
        refine ⟨-1, _, _, rfl, hix, hb, ?_⟩
        walk_at "wn"
        refine ⟨-1, _, rfl, hix, ?_⟩
        refine ⟨rfl, hrow, acc.dropLast ++ [(row, b.2.1, none)], some (.int (row : Nat)), some (.bl true), d4, d5, d6, d7, ?_, hdu', ?_⟩
        · rw [← set_lastD q]
          rfl
        · rw [List.length_append, List.length_dropLast]
          simp only [List.length_singleton]
          have : acc ≠ [] := fun z => by rw [z] at q; cases q
          have := List.length_pos_iff.mpr this
          omega
      · rw [decide_eq_false ho, if_neg Bool.false_ne_true]
        walk_at "wn"
        exact ⟨rfl, hrow, acc, _, _, _, _, _, _, rfl, du_shut hdu (fun r hr => (hD.r r hr).2.2.2) ho, by omega⟩
  · rintro ds' m ⟨rfl, _, acc, d2, d3, d4, d5, d6, d7, rfl, hdu, hal⟩
    refine ws_settle (i := 1) (xs := acc.map rgD) rfl ?_
    walk_at "wn"
    rw [du_end hdu (fun r hr => (hD.r r hr).2.2.1) (fun r hr => (hD.r r hr).1)] at h
    exact h
end
end Lw

namespace Lw
open PySem L2 StX DL MP
section
variable {K : PySem.W.Frag} [Tb K] {Z : ZX} {A : Ad}
/-- one step -/
local macro_rules | `(tactic| walk_at "w1") => `(tactic| first
  | with_reducible refine ws_seq ?_
  | ((with_reducible show Ws _ _ (tAsg (tLst tNil) (gName _)) _ _ _); refine ws_setX (wx_lst (wa_nil ⟨Nat.zero_le _, ?_⟩)))
  | ((with_reducible show Ws _ _ (tAsg tDNewK (gName _)) _ _ _); refine ws_setX (wx_dnew ?_))
  | with_reducible refine ws_parX ?_
  | with_reducible refine ws_par3X ?_
  | ((with_reducible show Wx _ _ (tLst tNil) _ _ _); refine wx_lst (wa_nil ⟨Nat.zero_le _, ?_⟩))
  | ((with_reducible show Wx _ _ tDNewK _ _ _); refine wx_dnew ?_)
  | ((with_reducible show We _ _ tDNewK _ _ _); refine we_dnew ?_)
  | with_reducible refine wx_we ?_
  | with_reducible refine ws_break ?_
  | with_reducible refine ws_cont ?_
  | with_reducible refine ws_retN ?_
  | with_reducible refine ws_if ?_
  | with_reducible refine ws_ret ?_
  | ((fail_if_success (with_reducible show Ws _ _ (tDrop (tBM _ _ _ _ _)) _ _ _)); (with_reducible refine ws_drop ?_))
  | with_reducible refine ws_next ?_
  | with_reducible refine ws_par ?_
  | ((fail_if_success (with_reducible show Ws _ _ (tAsg _ (gSub _ _ _)) _ _ _)); (with_reducible refine ws_asg ?_))
  | with_reducible refine wg_name ?_
  | with_reducible refine we_int ?_
  | with_reducible refine we_bl ?_
  | with_reducible refine we_non ?_
  | with_reducible refine we_str ?_
  | with_reducible refine we_ty ?_
  | with_reducible refine we_cls ?_
  | with_reducible refine we_cmethX ?_
  | with_reducible refine we_cmeth ?_
  | with_reducible refine we_cmethN ?_
  | ((with_reducible show ∃ _, D.str _ = D.str _ ∧ _ ∧ _); refine ⟨_, rfl, ?_, ?_⟩; (focus (first | assumption | omega)))
  | ((with_reducible show We _ _ (tVar _) _ _ _); refine we_var rfl rfl ?_)
  | ((with_reducible show We _ _ (tVar _) _ _ _); refine we_var rfl (mut_td _) ?_)
  | ((with_reducible show We _ _ (tVar _) _ _ _); refine we_var rfl (mut_tg _) ?_)
  | ((with_reducible show We _ _ (tVar _) _ _ _); refine we_var rfl (mut_w _) ?_)
  | ((with_reducible show We _ _ (tVar _) _ _ _); refine we_var rfl (mut_lm _) ?_)
  | ((with_reducible show We _ _ (tVar _) _ _ _); refine we_var rfl (mut_b _) ?_)
  | ((fail_if_success (with_reducible show We _ _ (tOp (rInP _) _ (tVar _)) _ _ _)); with_reducible refine we_op ?_)
  | with_reducible refine we_un ?_
  | with_reducible refine we_lenO ?_
  | with_reducible refine we_cb ?_
  | with_reducible refine we_callX ?_
  | with_reducible refine we_call ?_
  | with_reducible refine we_callNX ?_
  | with_reducible refine we_callN ?_
  | with_reducible refine we_methN ?_
  | with_reducible refine we_callON ?_
  | with_reducible refine we_callOX ?_
  | with_reducible refine ws_raise ?_
  | with_reducible refine we_exf ?_
  | with_reducible refine we_tup ?_
  | with_reducible refine we_lst ?_
  | with_reducible refine we_sl ?_
  | with_reducible refine we_m1 ?_
  | with_reducible refine we_andV ?_
  | with_reducible refine we_orV ?_
  | with_reducible refine we_notV ?_
  | with_reducible refine we_if ?_
  | with_reducible refine we_chain ?_
  | with_reducible refine we_fld ?_
  | with_reducible refine we_methX ?_
  | with_reducible refine we_meth ?_
  | with_reducible refine we_prop ?_
  | with_reducible refine we_callO' ?_
  | with_reducible refine we_make ?_
  | with_reducible refine wt_test ?_
  | with_reducible refine wt_B ?_
  | with_reducible refine wt_yes ?_
  | with_reducible refine wt_and ?_
  | with_reducible refine wt_or ?_
  | with_reducible refine wt_not ?_
  | with_reducible refine wa_nil ?_
  | with_reducible refine wa_cons ?_
  | with_reducible refine wo_none ?_
  | with_reducible refine wo_some ?_
  | with_reducible refine add_int ?_
  | with_reducible refine sub_int ?_
  | with_reducible refine neg_int ?_
  | ((with_reducible refine mod_int ?_ ?_); (focus (first | assumption | omega)))
  | ((with_reducible refine mul_int ?_ ?_); (focus (first | exact Or.inl ⟨by omega, by omega⟩ | exact Or.inr ⟨by omega, by omega⟩)))
  | ((with_reducible refine fdiv_int ?_ ?_); (focus (exact ⟨by omega, by omega⟩)))
  | ((with_reducible refine pow_int ?_ ?_); (focus (exact ⟨by decide, by decide, by decide⟩)))
  | with_reducible refine is_non ?_
  | with_reducible refine not_non ?_
  | with_reducible refine eq_int ?_
  | with_reducible refine ne_int ?_
  | with_reducible refine eq_pos ?_
  | with_reducible refine ne_pos ?_
  | with_reducible refine ne_nn ?_
  | with_reducible refine ne_np ?_
  | with_reducible refine ne_pn ?_
  | with_reducible refine eq_str ?_
  | with_reducible refine ne_str ?_
  | with_reducible refine eq_bl ?_
  | with_reducible refine ne_bl ?_
  | with_reducible refine lt_int ?_
  | with_reducible refine gt_int ?_
  | with_reducible refine le_int ?_
  | with_reducible refine ge_int ?_
  | with_reducible refine lt_pos ?_
  | with_reducible refine gt_pos ?_
  | with_reducible refine le_pos ?_
  | with_reducible refine ge_pos ?_
  | with_reducible refine int_int ?_
  | with_reducible refine min_int ?_
  | with_reducible refine max_int ?_
  | with_reducible refine len_lst ?_
  | with_reducible refine len_tup ?_
  | ((with_reducible refine len_str ?_ ?_); (focus (first | assumption | omega)))
  | with_reducible refine tuple_lst ?_
  | with_reducible refine tuple_tup ?_
  | with_reducible refine sl_lst ?_
  | with_reducible refine sl_tup ?_
  | ((with_reducible refine sl_str ?_ ?_); (focus (first | assumption | omega)))
  | with_reducible refine mt_countD ?_
  | with_reducible refine mt_rfindD ?_
  | ((with_reducible refine mt_splitD ?_ ?_ ?_); (focus rfl); (focus (first | assumption | omega)))
  | ((with_reducible show Op _ (rIx _) (D.tup _) (D.int _) _); refine ix_tup (by decide) rfl ?_)
  | ((with_reducible show Op _ (rIx _) (D.lst _) (D.int _) _); refine ix_lst (by decide) rfl ?_)
  | ((with_reducible show Cb _ (rIsi _) [D.int _, D.ty _] _); first | refine isiI (r := true) (by decide +kernel) ?_ | refine isiI (r := false) (by decide +kernel) ?_)
  | ((with_reducible show Cb _ (rIsi _) [D.str _, D.ty _] _); first | refine isiS (r := true) (by decide +kernel) ?_ | refine isiS (r := false) (by decide +kernel) ?_)
  | ((with_reducible show Cb _ (rIsi _) [D.tup _, D.ty _] _); first | refine isiT (r := true) (by decide +kernel) ?_ | refine isiT (r := false) (by decide +kernel) ?_)
  | ((with_reducible show Wg _ _ (gTup _ _ _) _ _ _); refine wg_tup rfl rfl ?_)
  | ((with_reducible show Wgs _ _ gNil _ _ _); refine wgs_nil rfl ?_)
  | ((with_reducible show Wgs _ _ (gCons _ _) _ _ _); refine wgs_cons rfl ?_)
  | ((with_reducible show ∃ _, D.bl _ = D.bl _ ∧ _); refine ⟨_, rfl, ?_⟩)
  | ((with_reducible show ∃ _, D.int _ = D.int _ ∧ _); refine ⟨_, rfl, ?_⟩)
  | ((with_reducible show ∃ _, D.str _ = D.str _ ∧ _); refine ⟨_, rfl, ?_⟩)
  | ((with_reducible show ∃ _, D.tup _ = D.tup _ ∧ _); refine ⟨_, rfl, ?_⟩)
  | ((with_reducible show ∃ _, D.lst _ = D.lst _ ∧ _); refine ⟨_, rfl, ?_⟩)
  | with_reducible refine wt_tru ?_
  | with_reducible refine list_lst ?_
  | with_reducible refine list_tup ?_
  | with_reducible refine we_makeS ?_
  | with_reducible refine we_makeR ?_
  | with_reducible refine we_smethS ?_
  | with_reducible refine iteNT ?_
  | with_reducible refine iteNF ?_
  | ((with_reducible show if true = true then _ else _); rw [if_pos rfl])
  | ((with_reducible show if false = true then _ else _); rw [if_neg Bool.false_ne_true])
  | ((with_reducible show List.length _ ≤ 1000000 ∧ _); refine ⟨?_, ?_⟩; (focus (simp; done)))
  | fail "no step")
local macro_rules | `(tactic| walk_at "w") => `(tactic| repeat (walk_at "w1"))
local macro_rules | `(tactic| walk_at "ws") => `(tactic| repeat ((fail_if_success (with_reducible show We _ _ (tChain _ _ _ _ _) _ _ _)); (fail_if_success (with_reducible show Wt _ _ (tAnd _ _) _ _ _)); (fail_if_success (with_reducible show We _ _ (tOrT _ _ _) _ _ _)); walk_at "w1"))

open RG
local macro_rules | `(tactic| walk_at "w1") => `(tactic| first
  | ((with_reducible show if decide _ = true then _ else _); refine iteYesB rfl ?_)
  | ((with_reducible show if decide _ = true then _ else _); refine iteNoB rfl ?_)
  | ((with_reducible show if isNonD _ = true then _ else _); refine iteYesB rfl ?_)
  | ((with_reducible show if isNonD _ = true then _ else _); refine iteNoB rfl ?_)
  | ((with_reducible show if (!_) = true then _ else _); refine iteYesB rfl ?_)
  | ((with_reducible show if (!_) = true then _ else _); refine iteNoB rfl ?_))
theorem we_dnew {ds : DS} {n : Nat} {P : D → Nat → Prop} (h : P (.dct []) n) : We K Z tDNewK ds n P := fun b u σ Q e S k => fun p hp => k _ _ (u.put p (.dK [])) (.put S.ex hp) (S.st.put S.ex hp) (.dct (.inl upd_same) .nil) (e ▸ h)
theorem den_immD {u : Wd} {v : V} {d : D} (h : Den K u v d) : isMut d = false := by cases h <;> rfl
theorem we_immut {ds : DS} {n : Nat} {P : D → Nat → Prop} {te : TE} (h : We K Z te ds n fun d m => isMut d = false → P d m) : We K Z te ds n P := fun b u σ Q e S k => h b u σ Q e S fun v d u1 g s r p => k v d u1 g s r (p (den_immD r))
theorem immo_at {ds : DS} {i : Nat} {d : D} (h : ds[i]? = some (some d)) (m : isMut d = false) : (immDS ds)[i]? = some (some d) := by
  unfold immDS
  rw [List.getElem?_map, h]
  simp [immO, m]
theorem w__law_told (T : TxtC K A) (Z : ZX) (f c' : Addr) (tl : XK → Hp → VK → Prop) (u0 : Wd) (n : Nat) (P0 : D → Nat → Prop) (X0 : Xp) (P : D → Nat → Prop) {q : Str} : TlOk K tl u0 n P0 X0 → RG__law_told A P0 X0 n P → Ws K Z (t__law_told K A f c' q tl) (startD 4 [.lam f c' q u0]) n { nx := fun _ m => P .non m, rt := P } := by
  rintro hT ⟨hP, hX⟩
  unfold t__law_told
  walk_at "w"
  refine ws_try (Z := Z) rfl X0 (fun E => ?_) (fun C fs m hx => ?_)
  · refine ws_asg (we_immut ((we_act rfl hT).imp fun d m hd => ?_))
    intro hm
    walk_at "w"
    refine we_var rfl hm ?_
    walk_at "w"
    exact hP _ _ hd
  · obtain ⟨g, hg, rfl, rfl, p⟩ := hX C fs m hx
    refine ⟨T.xm_BadPlace__law_told, ?_⟩
    walk_at "w"
    refine ⟨_, _, g, rfl, T.ox_BadPlace.xf, T.na_BadPlace_given, rfl, ?_⟩
    walk_at "w"
    refine isX T.ox_BadPlace.xc T.ki_BadPlace_MapError ?_
    walk_at "w"
    exact p
theorem told_is {ds : DS} {n : Nat} {P : D → Nat → Prop} {t : XK → TE} (T' : TxtT K A) {g : D} (hm : isMut g = false) (h : ∀ E, We K ⟨E, fun C fs m => C = A.c_BadPlace ∧ fs = ([("given", g)] : List (Str × D)) ∧ m = n⟩ (t E) (immDS ds) n fun _ _ => False) (p : P (.tup [g, .bl true]) n) :
    We K Z (tLamG A.pt_law q_law (TTd K q_law (RG__law_told A)) t) ds n P :=
  we_lam T'.tb_law ⟨_, _, h, fun _ _ z => z.elim, fun C fs m ⟨h1, h2, h3⟩ => ⟨g, hm, h1, h2, h3 ▸ p⟩⟩
def hiOk (r : Rn) : Prop := ∀ h, r.2.2 = some h → h ≤ 14
theorem jstep_hi {acc : List Rn} {r : Rn} (ha : ∀ a ∈ acc, hiOk a) (hr : hiOk r) : ∀ a ∈ jstep acc r, hiOk a := by
  unfold jstep
  have app : ∀ a ∈ acc ++ [r], hiOk a := fun a h => by
    rcases List.mem_append.mp h with z | z
    · exact ha a z
    · rw [List.mem_singleton.mp z]; exact hr
  cases q : acc.getLast? with
  | none => exact app
  | some b =>
    show ∀ a ∈ (if b.1 = r.1 ∧ (∀ h, b.2.2 = some h → r.2.1 ≤ h) then acc.dropLast ++ [(r.1, b.2.1, later b.2.2 r.2.2)] else acc ++ [r]), hiOk a
    split
    · intro a h
      rcases List.mem_append.mp h with z | z
      · exact ha a (List.dropLast_sublist _ |>.mem z)
      · rw [List.mem_singleton.mp z]
        intro x e
        have hb := ha b (List.mem_of_getLast? q)
        have e : later b.2.2 r.2.2 = some x := e
        cases p : b.2.2 with
        | none => rw [p] at e; cases e
        | some u =>
          cases p2 : r.2.2 with
          | none => rw [p, p2] at e; cases e
          | some v =>
            rw [p, p2] at e
            cases e
            have := hb u p
            have := hr v p2
            omega
    · exact app
theorem jn_hi {rs : List Rn} (h : ∀ r ∈ rs, hiOk r) : ∀ a ∈ jn rs, hiOk a := by
  have key : ∀ (xs acc : List Rn), (∀ a ∈ acc, hiOk a) → (∀ r ∈ xs, hiOk r) → ∀ a ∈ xs.foldl jstep acc, hiOk a := by
    intro xs
    induction xs with
    | nil => intro acc ha _; exact ha
    | cons x xs ih =>
      intro acc ha hx
      exact ih _ (jstep_hi ha (hx x (List.mem_cons_self ..))) fun r hr => hx r (List.mem_cons_of_mem _ hr)
  exact key _ [] (fun a ha => by cases ha) fun r hr => h r ((List.mergeSort_perm ..).mem_iff.mp hr)
theorem short20 : ∀ n : Fin 20, (PyData.shown (.int (n.val : Nat))).length ≤ 8 := by decide +kernel
theorem short_rg {r : Rn} (h1 : r.1 < 20) (h2 : r.2.1 < 20) (h3 : hiOk r) : PyData.leavesShort 8 (rgP r) = true := by
  obtain ⟨a, b, c⟩ := r
  simp only at h1 h2
  have e1 := short20 ⟨a, h1⟩
  have e2 := short20 ⟨b, h2⟩
  cases c with
  | none => simp only [rgP, hiP, PyData.leavesShort, PyData.leavesShortAll, Bool.and_true, Bool.and_eq_true, decide_eq_true_eq]; exact ⟨e1, e2⟩
  | some x =>
    have e3 := short20 ⟨x, by have := h3 x rfl; omega⟩
    simp only [rgP, hiP, PyData.leavesShort, PyData.leavesShortAll, Bool.and_true, Bool.and_eq_true, decide_eq_true_eq]; exact ⟨e1, e2, e3⟩
theorem short_all : ∀ {rs : List Rn}, (∀ r ∈ rs, PyData.leavesShort 8 (rgP r) = true) → PyData.leavesShortAll 8 (rs.map rgP) = true
  | [], _ => rfl
  | r :: rs, h => by
    rw [List.map_cons]
    simp only [PyData.leavesShortAll, Bool.and_eq_true]
    exact ⟨h r (List.mem_cons_self ..), short_all fun x hx => h x (List.mem_cons_of_mem _ hx)⟩
theorem bulk_all : ∀ rs : List Rn, PyData.bulkAll (rs.map rgP) = 4 * rs.length
  | [] => rfl
  | r :: rs => by
    obtain ⟨a, b, c⟩ := r
    rw [List.map_cons, List.length_cons]
    have := bulk_all rs
    cases c <;> (simp only [PyData.bulkAll, rgP, hiP, PyData.bulk]; omega)
theorem log20 {n : Nat} (h : n < 20) : n.log2 < 1920 := Nat.lt_of_le_of_lt (Nat.log2_le_self n) (by omega)
theorem show_all : ∀ {rs : List Rn}, (∀ r ∈ rs, r.1 < 20 ∧ r.2.1 < 20 ∧ hiOk r) → PyData.showableAll (rs.map rgP) = true
  | [], _ => rfl
  | r :: rs, h => by
    obtain ⟨a, b, c⟩ := r
    rw [List.map_cons]
    have := show_all (rs := rs) fun r hr => h r (List.mem_cons_of_mem _ hr)
    obtain ⟨h1, h2, h3⟩ := h (a, b, c) (List.mem_cons_self ..)
    have l1 := log20 h1
    have l2 := log20 h2
    cases c with
    | none => simp [PyData.showableAll, rgP, hiP, PyData.showable, this, l1, l2]
    | some x =>
      have l3 := log20 (n := x) (by have := h3 x rfl; omega)
      simp [PyData.showableAll, rgP, hiP, PyData.showable, this, l1, l2, l3]
theorem dict_all : ∀ rs : List Rn, PyData.hasDictAll (rs.map rgP) = false
  | [] => rfl
  | r :: rs => by
    obtain ⟨a, b, c⟩ := r
    rw [List.map_cons]
    have := dict_all rs
    cases c <;> simp [PyData.hasDictAll, rgP, hiP, PyData.hasDict, this]
theorem repr_jn {rs : List Rn} (h : Drawn rs) : ∃ s : Str, ∀ P : D → Prop, P (.str s) → Cb K (rReprW K) [.lst (List.replicate 4 (.tup ((jn rs).map rgD)))] P := by
  have w : ∀ r ∈ rs, wf r := fun r hr => (h.r r hr).2.2.1
  have bd : ∀ r ∈ jn rs, r.1 < 20 ∧ r.2.1 < 20 ∧ hiOk r := fun a ha => by
    obtain ⟨p, hp, e1, e2⟩ := jn_low w a ha
    have := h.r p hp
    exact ⟨by omega, by omega, jn_hi (fun r hr => (h.r r hr).2.2.2) a ha⟩
  refine repr_reps (e := .tuple ((jn rs).map rgP)) (by decide) (by rw [pd, pdsm rgD rgP pd_rg]; rfl) (by rw [PyData.showable]; exact show_all bd) (by rw [PyData.hasDict]; exact dict_all _) (by rw [PyData.depth]; have := depthm rgP 1 depth_rg (jn rs); omega) ?_
  have hs : PyData.leavesShort 8 (.tuple ((jn rs).map rgP)) = true := by
    rw [PyData.leavesShort]
    exact short_all fun a ha => let ⟨b1, b2, b3⟩ := bd a ha; short_rg b1 b2 b3
  have := PyData.shown_le_bulk 8 (by decide) _ hs
  rw [PyData.bulk, bulk_all] at this
  have h1 := jn_len w
  have h2 := h.len
  omega
theorem eqv_rgs : ∀ rs : List Rn, PyData.eqvAll (rs.map rgP) (rs.map rgP) = true
  | [] => rfl
  | r :: rs => by
    obtain ⟨a, b, c⟩ := r
    rw [List.map_cons]
    have := eqv_rgs rs
    cases c <;> simp [PyData.eqvAll, rgP, hiP, PyData.eqv, this]
theorem ne_rgs {P : D → Prop} {rs : List Rn} (h : P (.bl false)) : Op K (rNeP K) (.lst (rs.map rgD)) (.lst (rs.map rgD)) P := by
  refine neP (d := .list (rs.map rgP)) (e := .list (rs.map rgP)) (by rw [pd, pdsm rgD rgP pd_rg]; rfl) (by rw [pd, pdsm rgD rgP pd_rg]; rfl) (by rw [PyData.plain]; exact plainm rgP plain_rg rs) (by rw [PyData.plain]; exact plainm rgP plain_rg rs) (by rw [PyData.depth]; have := depthm rgP 1 depth_rg rs; omega) ?_
  rw [show PyData.eqv (.list (rs.map rgP)) (.list (rs.map rgP)) = PyData.eqvAll (rs.map rgP) (rs.map rgP) by simp [PyData.eqv], eqv_rgs]
  exact h
theorem eq_rgsT {P : D → Prop} {rs : List Rn} (h : P (.bl true)) : Op K (rEqP K) (.tup (rs.map rgD)) (.tup (rs.map rgD)) P := by
  refine eqP (d := .tuple (rs.map rgP)) (e := .tuple (rs.map rgP)) (by rw [pd, pdsm rgD rgP pd_rg]; rfl) (by rw [pd, pdsm rgD rgP pd_rg]; rfl) (by rw [PyData.plain]; exact plainm rgP plain_rg rs) (by rw [PyData.plain]; exact plainm rgP plain_rg rs) (by rw [PyData.depth]; have := depthm rgP 1 depth_rg rs; omega) ?_
  rw [show PyData.eqv (.tuple (rs.map rgP)) (.tuple (rs.map rgP)) = PyData.eqvAll (rs.map rgP) (rs.map rgP) by simp [PyData.eqv], eqv_rgs]
  exact h
theorem odd_repr {d : D} (h : d ∈ oddL) : ∃ s : Str, ∀ P : D → Prop, P (.str s) → Cb K (rReprW K) [.tup [d, .bl true]] P := by
  have key : ∀ (d : D) (e : PyData), pd d = some e → (PyData.tuple [e, .bool true]).showable = true → (PyData.tuple [e, .bool true]).hasDict = false → (PyData.tuple [e, .bool true]).depth ≤ 60 → (PyData.tuple [e, .bool true]).shown.length ≤ sizeLine → ∃ s : Str, ∀ P : D → Prop, P (.str s) → Cb K (rReprW K) [.tup [d, .bl true]] P := fun d e h1 h2 h3 h4 h5 =>
    ⟨_, fun P hp u vs Q ex r k => .inl (reprV_of (e := .tuple [e, .bool true]) ⟨_, .inr rfl⟩ (by simp [pd, pds, h1]) h2 h3 h4 h5 hp u vs Q ex r k)⟩
  simp only [oddL, List.mem_cons, List.not_mem_nil, or_false] at h
  rcases h with rfl | rfl | rfl | rfl | rfl | rfl | rfl | rfl | rfl | rfl
  · exact key _ .none rfl (by decide +kernel) rfl (by simp [PyData.depth, PyData.depthAll]) (by decide +kernel)
  · exact key _ (.int 5) rfl (by decide +kernel) rfl (by simp [PyData.depth, PyData.depthAll]) (by decide +kernel)
  · exact key _ (.tuple [.int 0, .int 1]) rfl (by decide +kernel) rfl (by simp [PyData.depth, PyData.depthAll]) (by decide +kernel)
  · exact key _ (.list [.int 0, .int 1, .int 2]) rfl (by decide +kernel) rfl (by simp [PyData.depth, PyData.depthAll]) (by decide +kernel)
  · exact key _ (.tuple [.int 0, .int 2, .int 2]) rfl (by decide +kernel) rfl (by simp [PyData.depth, PyData.depthAll]) (by decide +kernel)
  · exact key _ (.tuple [.int 0, .int 3, .int 1]) rfl (by decide +kernel) rfl (by simp [PyData.depth, PyData.depthAll]) (by decide +kernel)
  · exact key _ (.tuple [.int 0, .int (0 - 1), .int 4]) rfl (by decide +kernel) rfl (by simp [PyData.depth, PyData.depthAll]) (by decide +kernel)
  · exact key _ (.tuple [.bool true, .int 1, .int 2]) rfl (by decide +kernel) rfl (by simp [PyData.depth, PyData.depthAll]) (by decide +kernel)
  · exact key _ (.tuple [.int 0, .int 1, .bool true]) rfl (by decide +kernel) rfl (by simp [PyData.depth, PyData.depthAll]) (by decide +kernel)
  · exact key _ (.tuple [.int 0, .str (Str.ofString "1"), .int 2]) rfl (by decide +kernel) rfl (by simp [PyData.depth, PyData.depthAll]) (by decide +kernel)
theorem jn_far (F : Nat) (hF : 0 < F) : jn [(F, F, none), (F, 0, some F)] = [(F, 0, none)] := by
  refine jn_is (fun r hr => ?_) ⟨List.pairwise_singleton .., fun r hr => ?_⟩ fun row c => ?_
  · rcases List.mem_cons.mp hr with z | z
    · subst z; intro h e; cases e
    · rw [List.mem_singleton.mp z]; intro h e; cases e; exact hF
  · rw [List.mem_singleton.mp hr]; intro h e; cases e
  · rw [cov_cons, cov_cons, cov_cons]
    have := cov_nil row c
    unfold cv
    simp only
    constructor
    · rintro (⟨a, b, d⟩ | a)
      · rcases Nat.lt_or_ge c F with z | z
        · exact .inr (.inl ⟨a, b, fun h e => by cases e; exact z⟩)
        · exact .inl ⟨a, z, fun h e => by cases e⟩
      · exact absurd a this
    · rintro (⟨a, b, d⟩ | (⟨a, b, d⟩ | a))
      · exact .inl ⟨a, Nat.zero_le _, fun h e => by cases e⟩
      · exact .inl ⟨a, Nat.zero_le _, fun h e => by cases e⟩
      · exact absurd a this
theorem jn_nil : jn [] = [] := jn_is (fun r hr => by cases hr) ⟨List.Pairwise.nil, fun r hr => by cases hr⟩ fun _ _ => Iff.rfl
def wrongs : List D := [.non, .int 5, .str (Str.ofString "ab"), .dct [], .bl true]
theorem wrong_is {d : D} (h : d ∈ wrongs) : isMut d = false ∧ ∃ U, tyD d = some U ∧ kit2 U "list" "tuple" = some false := by
  simp only [wrongs, List.mem_cons, List.not_mem_nil, or_false] at h
  rcases h with rfl | rfl | rfl | rfl | rfl
  · exact ⟨rfl, _, rfl, by decide +kernel⟩
  · exact ⟨rfl, _, rfl, by decide +kernel⟩
  · exact ⟨rfl, _, rfl, by decide +kernel⟩
  · exact ⟨rfl, _, rfl, by decide +kernel⟩
  · exact ⟨rfl, _, rfl, by decide +kernel⟩
end
end Lw

namespace Lw
open PySem L2 StX DL MP
section
variable {K : PySem.W.Frag} [Tb K] {Z : ZX} {A : Ad}
/-- one step -/
local macro_rules | `(tactic| walk_at "w1") => `(tactic| first
  | with_reducible refine ws_seq ?_
  | ((with_reducible show Ws _ _ (tAsg (tLst tNil) (gName _)) _ _ _); refine ws_setX (wx_lst (wa_nil ⟨Nat.zero_le _, ?_⟩)))
  | ((with_reducible show Ws _ _ (tAsg tDNewK (gName _)) _ _ _); refine ws_setX (wx_dnew ?_))
  | with_reducible refine ws_parX ?_
  | with_reducible refine ws_par3X ?_
  | ((with_reducible show Wx _ _ (tLst tNil) _ _ _); refine wx_lst (wa_nil ⟨Nat.zero_le _, ?_⟩))
  | ((with_reducible show Wx _ _ tDNewK _ _ _); refine wx_dnew ?_)
  | ((with_reducible show We _ _ tDNewK _ _ _); refine we_dnew ?_)
  | with_reducible refine wx_we ?_
  | with_reducible refine ws_break ?_
  | with_reducible refine ws_cont ?_
  | with_reducible refine ws_retN ?_
  | with_reducible refine ws_if ?_
  | with_reducible refine ws_ret ?_
  | ((fail_if_success (with_reducible show Ws _ _ (tDrop (tBM _ _ _ _ _)) _ _ _)); (with_reducible refine ws_drop ?_))
  | with_reducible refine ws_next ?_
  | with_reducible refine ws_par ?_
  | ((fail_if_success (with_reducible show Ws _ _ (tAsg _ (gSub _ _ _)) _ _ _)); (with_reducible refine ws_asg ?_))
  | with_reducible refine wg_name ?_
  | with_reducible refine we_int ?_
  | with_reducible refine we_bl ?_
  | with_reducible refine we_non ?_
  | with_reducible refine we_str ?_
  | with_reducible refine we_ty ?_
  | with_reducible refine we_cls ?_
  | with_reducible refine we_cmethX ?_
  | with_reducible refine we_cmeth ?_
  | with_reducible refine we_cmethN ?_
  | ((with_reducible show ∃ _, D.str _ = D.str _ ∧ _ ∧ _); refine ⟨_, rfl, ?_, ?_⟩; (focus (first | assumption | omega)))
  | ((with_reducible show We _ _ (tVar _) _ _ _); refine we_var rfl rfl ?_)
  | ((with_reducible show We _ _ (tVar _) _ _ _); refine we_var rfl (mut_td _) ?_)
  | ((with_reducible show We _ _ (tVar _) _ _ _); refine we_var rfl (mut_tg _) ?_)
  | ((with_reducible show We _ _ (tVar _) _ _ _); refine we_var rfl (mut_w _) ?_)
  | ((with_reducible show We _ _ (tVar _) _ _ _); refine we_var rfl (mut_lm _) ?_)
  | ((with_reducible show We _ _ (tVar _) _ _ _); refine we_var rfl (mut_b _) ?_)
  | ((fail_if_success (with_reducible show We _ _ (tOp (rInP _) _ (tVar _)) _ _ _)); with_reducible refine we_op ?_)
  | with_reducible refine we_un ?_
  | with_reducible refine we_lenO ?_
  | with_reducible refine we_cb ?_
  | with_reducible refine we_callX ?_
  | with_reducible refine we_call ?_
  | with_reducible refine we_callNX ?_
  | with_reducible refine we_callN ?_
  | with_reducible refine we_methN ?_
  | with_reducible refine we_callON ?_
  | with_reducible refine we_callOX ?_
  | with_reducible refine ws_raise ?_
  | with_reducible refine we_exf ?_
  | with_reducible refine we_tup ?_
  | with_reducible refine we_lst ?_
  | with_reducible refine we_sl ?_
  | with_reducible refine we_m1 ?_
  | with_reducible refine we_andV ?_
  | with_reducible refine we_orV ?_
  | with_reducible refine we_notV ?_
  | with_reducible refine we_if ?_
  | with_reducible refine we_chain ?_
  | with_reducible refine we_fld ?_
  | with_reducible refine we_methX ?_
  | with_reducible refine we_meth ?_
  | with_reducible refine we_prop ?_
  | with_reducible refine we_callO' ?_
  | with_reducible refine we_make ?_
  | with_reducible refine wt_test ?_
  | with_reducible refine wt_B ?_
  | with_reducible refine wt_yes ?_
  | with_reducible refine wt_and ?_
  | with_reducible refine wt_or ?_
  | with_reducible refine wt_not ?_
  | with_reducible refine wa_nil ?_
  | with_reducible refine wa_cons ?_
  | with_reducible refine wo_none ?_
  | with_reducible refine wo_some ?_
  | with_reducible refine add_int ?_
  | with_reducible refine sub_int ?_
  | with_reducible refine neg_int ?_
  | ((with_reducible refine mod_int ?_ ?_); (focus (first | assumption | omega)))
  | ((with_reducible refine mul_int ?_ ?_); (focus (first | exact Or.inl ⟨by omega, by omega⟩ | exact Or.inr ⟨by omega, by omega⟩)))
  | ((with_reducible refine fdiv_int ?_ ?_); (focus (exact ⟨by omega, by omega⟩)))
  | ((with_reducible refine pow_int ?_ ?_); (focus (exact ⟨by decide, by decide, by decide⟩)))
  | with_reducible refine is_non ?_
  | with_reducible refine not_non ?_
  | with_reducible refine eq_int ?_
  | with_reducible refine ne_int ?_
  | with_reducible refine eq_pos ?_
  | with_reducible refine ne_pos ?_
  | with_reducible refine ne_nn ?_
  | with_reducible refine ne_np ?_
  | with_reducible refine ne_pn ?_
  | with_reducible refine eq_str ?_
  | with_reducible refine ne_str ?_
  | with_reducible refine eq_bl ?_
  | with_reducible refine ne_bl ?_
  | with_reducible refine lt_int ?_
  | with_reducible refine gt_int ?_
  | with_reducible refine le_int ?_
  | with_reducible refine ge_int ?_
  | with_reducible refine lt_pos ?_
  | with_reducible refine gt_pos ?_
  | with_reducible refine le_pos ?_
  | with_reducible refine ge_pos ?_
  | with_reducible refine int_int ?_
  | with_reducible refine min_int ?_
  | with_reducible refine max_int ?_
  | with_reducible refine len_lst ?_
  | with_reducible refine len_tup ?_
  | ((with_reducible refine len_str ?_ ?_); (focus (first | assumption | omega)))
  | with_reducible refine tuple_lst ?_
  | with_reducible refine tuple_tup ?_
  | with_reducible refine sl_lst ?_
  | with_reducible refine sl_tup ?_
  | ((with_reducible refine sl_str ?_ ?_); (focus (first | assumption | omega)))
  | with_reducible refine mt_countD ?_
  | with_reducible refine mt_rfindD ?_
  | ((with_reducible refine mt_splitD ?_ ?_ ?_); (focus rfl); (focus (first | assumption | omega)))
  | ((with_reducible show Op _ (rIx _) (D.tup _) (D.int _) _); refine ix_tup (by decide) rfl ?_)
  | ((with_reducible show Op _ (rIx _) (D.lst _) (D.int _) _); refine ix_lst (by decide) rfl ?_)
  | ((with_reducible show Cb _ (rIsi _) [D.int _, D.ty _] _); first | refine isiI (r := true) (by decide +kernel) ?_ | refine isiI (r := false) (by decide +kernel) ?_)
  | ((with_reducible show Cb _ (rIsi _) [D.str _, D.ty _] _); first | refine isiS (r := true) (by decide +kernel) ?_ | refine isiS (r := false) (by decide +kernel) ?_)
  | ((with_reducible show Cb _ (rIsi _) [D.tup _, D.ty _] _); first | refine isiT (r := true) (by decide +kernel) ?_ | refine isiT (r := false) (by decide +kernel) ?_)
  | ((with_reducible show Wg _ _ (gTup _ _ _) _ _ _); refine wg_tup rfl rfl ?_)
  | ((with_reducible show Wgs _ _ gNil _ _ _); refine wgs_nil rfl ?_)
  | ((with_reducible show Wgs _ _ (gCons _ _) _ _ _); refine wgs_cons rfl ?_)
  | ((with_reducible show ∃ _, D.bl _ = D.bl _ ∧ _); refine ⟨_, rfl, ?_⟩)
  | ((with_reducible show ∃ _, D.int _ = D.int _ ∧ _); refine ⟨_, rfl, ?_⟩)
  | ((with_reducible show ∃ _, D.str _ = D.str _ ∧ _); refine ⟨_, rfl, ?_⟩)
  | ((with_reducible show ∃ _, D.tup _ = D.tup _ ∧ _); refine ⟨_, rfl, ?_⟩)
  | ((with_reducible show ∃ _, D.lst _ = D.lst _ ∧ _); refine ⟨_, rfl, ?_⟩)
  | with_reducible refine wt_tru ?_
  | with_reducible refine list_lst ?_
  | with_reducible refine list_tup ?_
  | with_reducible refine we_makeS ?_
  | with_reducible refine we_makeR ?_
  | with_reducible refine we_smethS ?_
  | with_reducible refine iteNT ?_
  | with_reducible refine iteNF ?_
  | ((with_reducible show if true = true then _ else _); rw [if_pos rfl])
  | ((with_reducible show if false = true then _ else _); rw [if_neg Bool.false_ne_true])
  | ((with_reducible show List.length _ ≤ 1000000 ∧ _); refine ⟨?_, ?_⟩; (focus (simp; done)))
  | fail "no step")
local macro_rules | `(tactic| walk_at "w") => `(tactic| repeat (walk_at "w1"))
local macro_rules | `(tactic| walk_at "ws") => `(tactic| repeat ((fail_if_success (with_reducible show We _ _ (tChain _ _ _ _ _) _ _ _)); (fail_if_success (with_reducible show Wt _ _ (tAnd _ _) _ _ _)); (fail_if_success (with_reducible show We _ _ (tOrT _ _ _) _ _ _)); walk_at "w1"))

open RG
local macro_rules | `(tactic| walk_at "w1") => `(tactic| first
  | ((with_reducible show if decide _ = true then _ else _); refine iteYesB rfl ?_)
  | ((with_reducible show if decide _ = true then _ else _); refine iteNoB rfl ?_)
  | ((with_reducible show if isNonD _ = true then _ else _); refine iteYesB rfl ?_)
  | ((with_reducible show if isNonD _ = true then _ else _); refine iteNoB rfl ?_)
  | ((with_reducible show if (!_) = true then _ else _); refine iteYesB rfl ?_)
  | ((with_reducible show if (!_) = true then _ else _); refine iteNoB rfl ?_))
local macro_rules | `(tactic| walk_at "w1") => `(tactic| with_reducible refine we_rep ?_)
theorem len_law : ∀ ds n P X, R_law A ds n P X → ds.length = 1 := by rintro ds n P X ⟨_, rfl, -⟩; rfl
theorem w_law (T : TxtC K A) (T' : TxtT K A) : ∀ Z ds n P, R_law A ds n P Z.X → Ws K Z (t_law K A) (startD 10 ds) n { nx := fun _ m => P .non m, rt := P } := by
  rintro Z ds n P ⟨ns, rfl, hn, rfl, h⟩
  unfold t_law
  walk_at "w"
  refine ws_fore (fun q : Nat => D.int (q : Nat)) (wi_range1 ?_)
  walk_at "w"
  rw [List.length_map]
  refine ⟨_, rfl, ⟨by split <;> omega, by split <;> omega⟩, List.range (1 + if ((ns.length : Nat) : Int) < 3 then ((ns.length : Nat) : Int) else 3).toNat, by rw [rng0_map], fun i ds' m => m = 0 ∧ ∃ d1 d2 d3 d4 d5 d6 d7 d8 d9, ds' = [some (.lst (ns.map .int)), d1, d2, d3, d4, d5, d6, d7, d8, d9], ⟨rfl, _, _, _, _, _, _, _, _, _, rfl⟩, ?_, ?_⟩
  · rintro i spot ds' m hq ⟨rfl, d1, d2, d3, d4, d5, d6, d7, d8, d9, rfl⟩
    walk_at "w"
    refine ⟨ns, spot, rfl, by omega, fun a => ?_⟩
    walk_at "w"
    refine ws_fort (fun q : Nat => D.int (q : Nat)) (List.range 4) (wi_range1 ?_)
    walk_at "w"
    refine ⟨4, rfl, by decide, by rw [rng0_map]; rfl, fun i ds' m => m = 0 ∧ ∃ d3 d4 d5 d6 d7 d8 d9, ds' = [some (.lst (ns.map .int)), some (.int (spot : Nat)), some (.strm a (.inv Ist)), d3, d4, d5, d6, d7, d8, d9], ⟨rfl, _, _, _, _, _, _, _, rfl⟩, ?_, ?_⟩
    · clear d3 d4 d5 d6 d7 d8 d9 d1 d2
      rintro i turn ds' m hq ⟨rfl, d3, d4, d5, d6, d7, d8, d9, rfl⟩
      walk_at "w"
      refine ⟨a, rfl, fun rs hD => ?_⟩
      have w : ∀ r ∈ rs, wf r := fun r hr => (hD.r r hr).2.2.1
      have hl := hD.len
      walk_at "w"
      refine ⟨rs, rfl, hD, ?_⟩
      walk_at "w"
      refine .inl ⟨rs, .inl rfl, w, by omega, ?_⟩
      walk_at "w"
      refine .inl ⟨rs, .inr rfl, w, by omega, ?_⟩
      walk_at "w"
      refine ⟨a, rs, rfl, by omega, fun rs' hm hl' => ?_⟩
      walk_at "w"
      refine ⟨rfl, rfl, .inl ⟨rs', .inl rfl, fun r hr => w r ((hm r).mp hr), by omega, ?_⟩⟩
      rw [jn_ext w hm]
      walk_at "w"
      have hj := jn_len w
      refine .inl ⟨jn rs, .inr rfl, (jn_can w).w, by omega, ?_⟩
      rw [jn_again w]
      obtain ⟨st, hst⟩ := repr_jn (K := K) hD
      walk_at "w"
      refine add_lst (by simp) ?_
      walk_at "w"
      refine hst _ ?_
      walk_at "w"
      refine ⟨by simp, ?_⟩
      walk_at "w"
      refine ⟨by decide, by decide, ?_⟩
      walk_at "w"
      refine hst _ ?_
      walk_at "w"
      rw [decide_eq_true rfl]
      walk_at "w"
      refine ne_rgs ?_
      walk_at "w"
      exact ⟨rfl, _, _, _, _, _, _, _, rfl⟩
    · clear d3 d4 d5 d6 d7 d8 d9 d1 d2
      rintro ds' m ⟨rfl, d3, d4, d5, d6, d7, d8, d9, rfl⟩
      walk_at "w"
      refine ⟨a, oddL, rfl, by simp [oddL], by simp [oddL], fun od hod => ?_⟩
      have hm := odd_mut hod
      walk_at "w"
      refine told_is T' hm (fun E => ?_) ?_
      · walk_at "w"
        refine we_var (immo_at rfl hm) hm ?_
        walk_at "w"
        refine .inr (.inl ⟨[(0, 1, some 2)], od, [.non], rfl, fun r hr => ?_, hod, rfl, rfl, rfl⟩)
        rw [List.mem_singleton.mp hr]
        intro x e
        cases e
        decide
      obtain ⟨st, hst⟩ := odd_repr (K := K) hod
      walk_at "w"
      refine hst _ ?_
      walk_at "w"
      refine we_var rfl hm ?_
      walk_at "w"
      refine hst _ ?_
      walk_at "w"
      rw [decide_eq_true rfl]
      walk_at "w"
      refine ⟨a, wrongs, rfl, by simp [wrongs], by simp [wrongs], fun wr hw => ?_⟩
      obtain ⟨wm, U, wt, wk⟩ := wrong_is hw
      walk_at "w"
      refine told_is T' (g := .non) rfl (fun E => ?_) ?_
      · walk_at "w"
        refine we_var (immo_at rfl wm) wm ?_
        walk_at "w"
        exact .inr (.inr ⟨wr, U, rfl, wm, wt, wk, rfl, rfl, rfl⟩)
      walk_at "w"
      refine neP (d := .tuple [.none, .bool true]) (e := .tuple [.none, .bool true]) rfl rfl rfl rfl (by simp [PyData.depth, PyData.depthAll]) ?_
      rw [show PyData.eqv (.tuple [.none, .bool true]) (.tuple [.none, .bool true]) = true by simp [PyData.eqv, PyData.eqvAll]]
      walk_at "w"
      exact ⟨rfl, _, _, _, _, _, _, _, _, _, rfl⟩
  · rintro ds' m ⟨rfl, d1, d2, d3, d4, d5, d6, d7, d8, d9, rfl⟩
    walk_at "w"
    refine .inl ⟨[(1000000000000000000000000000000, 1000000000000000000000000000000, none), (1000000000000000000000000000000, 0, some 1000000000000000000000000000000)], .inl rfl, fun r hr => ?_, by simp, ?_⟩
    · rcases List.mem_cons.mp hr with z | z
      · subst z; intro h e; cases e
      · rw [List.mem_singleton.mp z]; intro h e; cases e; decide
    rw [jn_far 1000000000000000000000000000000 (by decide)]
    walk_at "w"
    refine eq_rgsT (rs := [(1000000000000000000000000000000, 0, none)]) ?_
    walk_at "w"
    refine .inl ⟨[], .inr rfl, (fun r hr => by cases hr), by simp, ?_⟩
    rw [jn_nil]
    walk_at "w"
    refine eq_rgsT (rs := []) ?_
    exact h _
end
end Lw

namespace Lw
open PySem L2 StX DL
open PyProof.Rows (envOfC)
def top (i : Nat) : Stmt := PySem.Challenge.pw_mapstack_k52_joined_ranges.main.body.getD i (.Pass ⟨0, 0, 0, 0⟩)
abbrev s_BadPlace_init : Stmt := inClass (top 2) 0
abbrev s_is_integer : Stmt := top 4
abbrev s__line_and_first : Stmt := top 8
abbrev s__later : Stmt := top 9
abbrev s__law_begin : Stmt := top 15
abbrev s__law_draw : Stmt := top 16
abbrev s__law_due : Stmt := top 19
abbrev s__law_told : Stmt := top 20
abbrev s_is_count : Stmt := top 5
abbrev s__law_pick : Stmt := top 17
abbrev s__law_ranges : Stmt := top 18
abbrev s__law_mixed : Stmt := top 21
abbrev s_is_place : Stmt := top 6
abbrev s_joined : Stmt := top 10
abbrev s__is_range : Stmt := top 12
abbrev s_joined_ranges : Stmt := top 13
abbrev s_law : Stmt := top 22
structure Fd where
  d_BadPlace_init : FuncData
  d_is_integer : FuncData
  d__line_and_first : FuncData
  d__later : FuncData
  d__law_begin : FuncData
  d__law_draw : FuncData
  d__law_due : FuncData
  d__law_told : FuncData
  d_is_count : FuncData
  d__law_pick : FuncData
  d__law_ranges : FuncData
  d__law_mixed : FuncData
  d_is_place : FuncData
  d_joined : FuncData
  d__is_range : FuncData
  d_joined_ranges : FuncData
  d_law : FuncData
abbrev N_BadPlace_init : List Str := ["self", "given"]
theorem sc_BadPlace_init : FnScope N_BadPlace_init ["self", "given"] (defScope s_BadPlace_init) := ⟨rfl, rfl, rfl, by decide +kernel, rfl, by decide +kernel, by decide +kernel⟩
abbrev N_is_integer : List Str := ["value"]
theorem sc_is_integer : FnScope N_is_integer ["value"] (defScope s_is_integer) := ⟨rfl, rfl, rfl, by decide +kernel, rfl, by decide +kernel, by decide +kernel⟩
abbrev N__line_and_first : List Str := ["columns"]
theorem sc__line_and_first : FnScope N__line_and_first ["columns"] (defScope s__line_and_first) := ⟨rfl, rfl, rfl, by decide +kernel, rfl, by decide +kernel, by decide +kernel⟩
abbrev N__later : List Str := ["one", "other"]
theorem sc__later : FnScope N__later ["one", "other"] (defScope s__later) := ⟨rfl, rfl, rfl, by decide +kernel, rfl, by decide +kernel, by decide +kernel⟩
abbrev N__law_begin : List Str := ["script", "spot", "own"]
theorem sc__law_begin : FnScope N__law_begin ["script", "spot"] (defScope s__law_begin) := ⟨rfl, rfl, rfl, by decide +kernel, rfl, by decide +kernel, by decide +kernel⟩
abbrev N__law_draw : List Str := ["state", "size", "found"]
theorem sc__law_draw : FnScope N__law_draw ["state", "size"] (defScope s__law_draw) := ⟨rfl, rfl, rfl, by decide +kernel, rfl, by decide +kernel, by decide +kernel⟩
abbrev N__law_due : List Str := ["some", "found", "row", "is_open", "at", "here", "low", "high"]
theorem sc__law_due : FnScope N__law_due ["some"] (defScope s__law_due) := ⟨rfl, rfl, rfl, by decide +kernel, rfl, by decide +kernel, by decide +kernel⟩
abbrev N__law_told : List Str := ["call", "caught", "found", "e"]
theorem sc__law_told : FnScope N__law_told ["call"] (defScope s__law_told) := ⟨rfl, rfl, rfl, by decide +kernel, rfl, by decide +kernel, by decide +kernel⟩
abbrev N_is_count : List Str := ["value"]
theorem sc_is_count : FnScope N_is_count ["value"] (defScope s_is_count) := ⟨rfl, rfl, rfl, by decide +kernel, rfl, by decide +kernel, by decide +kernel⟩
abbrev N__law_pick : List Str := ["m", "items"]
theorem sc__law_pick : FnScope N__law_pick ["m", "items"] (defScope s__law_pick) := ⟨rfl, rfl, rfl, by decide +kernel, rfl, by decide +kernel, by decide +kernel⟩
abbrev N__law_ranges : List Str := ["m", "found", "turn", "low", "high"]
theorem sc__law_ranges : FnScope N__law_ranges ["m"] (defScope s__law_ranges) := ⟨rfl, rfl, rfl, by decide +kernel, rfl, by decide +kernel, by decide +kernel⟩
abbrev N__law_mixed : List Str := ["m", "some", "stock", "found", "turn"]
theorem sc__law_mixed : FnScope N__law_mixed ["m", "some"] (defScope s__law_mixed) := ⟨rfl, rfl, rfl, by decide +kernel, rfl, by decide +kernel, by decide +kernel⟩
abbrev N_is_place : List Str := ["value"]
theorem sc_is_place : FnScope N_is_place ["value"] (defScope s_is_place) := ⟨rfl, rfl, rfl, by decide +kernel, rfl, by decide +kernel, by decide +kernel⟩
abbrev N_joined : List Str := ["ranges", "found", "line", "first", "after", "before"]
theorem sc_joined : FnScope N_joined ["ranges"] (defScope s_joined) := ⟨rfl, rfl, rfl, by decide +kernel, rfl, by decide +kernel, by decide +kernel⟩
abbrev N__is_range : List Str := ["value"]
theorem sc__is_range : FnScope N__is_range ["value"] (defScope s__is_range) := ⟨rfl, rfl, rfl, by decide +kernel, rfl, by decide +kernel, by decide +kernel⟩
abbrev N_joined_ranges : List Str := ["ranges", "columns"]
theorem sc_joined_ranges : FnScope N_joined_ranges ["ranges"] (defScope s_joined_ranges) := ⟨rfl, rfl, rfl, by decide +kernel, rfl, by decide +kernel, by decide +kernel⟩
abbrev N_law : List Str := ["script", "spot", "m", "turn", "some", "kept", "due", "told", "odd", "far"]
theorem sc_law : FnScope N_law ["script"] (defScope s_law) := ⟨rfl, rfl, rfl, by decide +kernel, rfl, by decide +kernel, by decide +kernel⟩
structure Txt (K : PySem.W.Frag) (mg : Str → Option Value) (A : Ad) (B : Fd) : Prop where
  f_BadPlace_init : Fun K "__init__" "BadPlace.__init__" s_BadPlace_init A.a_BadPlace_init B.d_BadPlace_init
  b_BadPlace_init : L2.Binds K B.d_BadPlace_init ["self", "given"] []
  f_is_integer : Fun K "is_integer" "is_integer" s_is_integer A.a_is_integer B.d_is_integer
  b_is_integer : L2.Binds K B.d_is_integer ["value"] []
  f__line_and_first : Fun K "_line_and_first" "_line_and_first" s__line_and_first A.a__line_and_first B.d__line_and_first
  b__line_and_first : L2.Binds K B.d__line_and_first ["columns"] []
  f__later : Fun K "_later" "_later" s__later A.a__later B.d__later
  b__later : L2.Binds K B.d__later ["one", "other"] []
  f__law_begin : Fun K "_law_begin" "_law_begin" s__law_begin A.a__law_begin B.d__law_begin
  b__law_begin : L2.Binds K B.d__law_begin ["script", "spot"] []
  f__law_draw : Fun K "_law_draw" "_law_draw" s__law_draw A.a__law_draw B.d__law_draw
  b__law_draw : L2.Binds K B.d__law_draw ["state", "size"] []
  f__law_due : Fun K "_law_due" "_law_due" s__law_due A.a__law_due B.d__law_due
  b__law_due : L2.Binds K B.d__law_due ["some"] []
  f__law_told : Fun K "_law_told" "_law_told" s__law_told A.a__law_told B.d__law_told
  b__law_told : L2.Binds K B.d__law_told ["call"] []
  f_is_count : Fun K "is_count" "is_count" s_is_count A.a_is_count B.d_is_count
  b_is_count : L2.Binds K B.d_is_count ["value"] []
  f__law_pick : Fun K "_law_pick" "_law_pick" s__law_pick A.a__law_pick B.d__law_pick
  b__law_pick : L2.Binds K B.d__law_pick ["m", "items"] []
  f__law_ranges : Fun K "_law_ranges" "_law_ranges" s__law_ranges A.a__law_ranges B.d__law_ranges
  b__law_ranges : L2.Binds K B.d__law_ranges ["m"] []
  f__law_mixed : Fun K "_law_mixed" "_law_mixed" s__law_mixed A.a__law_mixed B.d__law_mixed
  b__law_mixed : L2.Binds K B.d__law_mixed ["m", "some"] []
  f_is_place : Fun K "is_place" "is_place" s_is_place A.a_is_place B.d_is_place
  b_is_place : L2.Binds K B.d_is_place ["value"] []
  f_joined : Fun K "joined" "joined" s_joined A.a_joined B.d_joined
  b_joined : L2.Binds K B.d_joined ["ranges"] []
  f__is_range : Fun K "_is_range" "_is_range" s__is_range A.a__is_range B.d__is_range
  b__is_range : L2.Binds K B.d__is_range ["value"] []
  f_joined_ranges : Fun K "joined_ranges" "joined_ranges" s_joined_ranges A.a_joined_ranges B.d_joined_ranges
  b_joined_ranges : L2.Binds K B.d_joined_ranges ["ranges"] []
  f_law : Fun K "law" "law" s_law A.a_law B.d_law
  b_law : L2.Binds K B.d_law ["script"] []
  hc_law : B.d_law.code = .ref A.cd_law
  kb_joined_ranges_ranges : KBn K B.d_joined_ranges ["ranges"] 0 ["ranges"] (perm [0]) (perm [0])
  g__is_range : mg "_is_range" = some (.ref A.a__is_range)
  g__later : mg "_later" = some (.ref A.a__later)
  g__law_begin : mg "_law_begin" = some (.ref A.a__law_begin)
  g__law_draw : mg "_law_draw" = some (.ref A.a__law_draw)
  g__law_due : mg "_law_due" = some (.ref A.a__law_due)
  g__law_mixed : mg "_law_mixed" = some (.ref A.a__law_mixed)
  g__law_pick : mg "_law_pick" = some (.ref A.a__law_pick)
  g__law_ranges : mg "_law_ranges" = some (.ref A.a__law_ranges)
  g__law_told : mg "_law_told" = some (.ref A.a__law_told)
  g__line_and_first : mg "_line_and_first" = some (.ref A.a__line_and_first)
  g_is_count : mg "is_count" = some (.ref A.a_is_count)
  g_is_integer : mg "is_integer" = some (.ref A.a_is_integer)
  g_is_place : mg "is_place" = some (.ref A.a_is_place)
  g_joined : mg "joined" = some (.ref A.a_joined)
  g_joined_ranges : mg "joined_ranges" = some (.ref A.a_joined_ranges)
  gc_BadPlace : mg "BadPlace" = some (.ref A.c_BadPlace)
  gc_MapError : mg "MapError" = some (.ref A.c_MapError)
  n_bool : mg "bool" = none
  n_int : mg "int" = none
  n_isinstance : mg "isinstance" = none
  n_len : mg "len" = none
  n_list : mg "list" = none
  n_max : mg "max" = none
  n_min : mg "min" = none
  n_range : mg "range" = none
  n_repr : mg "repr" = none
  n_sorted : mg "sorted" = none
  n_tuple : mg "tuple" = none
  ii_BadPlace : PySem.W.findIn K (.ref A.c_BadPlace) "__init__" = some (some (.ref A.a_BadPlace_init))
  ti_BadPlace : PySem.W.typeIn K (.ref A.a_BadPlace_init) = some (.type "function")
  tc : TxtC K A
theorem kf__line_and_first {K : PySem.W.Frag} {mg : Str → Option Value} {A : Ad} {B : Fd} (T : Txt K mg A B) : KeyFn K A.a__line_and_first 0 1 := by
  obtain ⟨oc, od, kV, doc, pm, an, cdv, ct, osl, hfd, lk, hc⟩ := T.f__line_and_first.ex
  exact ⟨oc, od, B.d__line_and_first, osl, "columns", ⟨17, 12, 17, 19⟩, ⟨17, 20, 17, 21⟩, ⟨17, 12, 17, 22⟩, ⟨17, 24, 17, 31⟩, ⟨17, 32, 17, 33⟩, ⟨17, 24, 17, 34⟩, ⟨17, 11, 17, 35⟩, ⟨17, 4, 17, 35⟩, 0, lk, by rw [hfd]; exact hc, by rw [hfd]; rfl, fun t => by rw [hfd]; rfl, by rw [hfd]; rfl, by rw [hfd]; rfl, by rw [hfd]; rfl, by rw [hfd]; rfl, by decide +kernel, by decide, by decide⟩
section
variable {Pr : Program} {w : World} {K : PySem.W.Frag} [Tb K] {mg : Str → Option Value} {base : Heap} {A : Ad} {B : Fd}
theorem tm_BadPlace_init (T : Txt K mg A B)  {f : Addr} {cdv : Value} {Ar : Around} {outer : List Env} {s : Shared} {H : Hp} {E : XK} (hr : Room 0 (Ar.deeper (envOfC "BadPlace.__init__" (defScope s_BadPlace_init) s.heap.objs.size f cdv))) :
    PSs (cxOf CX0 Pr w K mg base N_BadPlace_init "BadPlace.__init__" (defScope s_BadPlace_init) f cdv Ar outer s H E).nox (defBody s_BadPlace_init) (tOsx K A.c_BadPlace "given" (tVar 0) (tVar 1)) :=
  (pss_one (ps_osx PySem.XG.bx_VE T.tc.ox_BadPlace T.tc.na_BadPlace_given (pv 0) (pv 1)))
theorem tm_is_integer (T : Txt K mg A B)  {f : Addr} {cdv : Value} {Ar : Around} {outer : List Env} {s : Shared} {H : Hp} {E : XK} (hr : Room 0 (Ar.deeper (envOfC "is_integer" (defScope s_is_integer) s.heap.objs.size f cdv))) :
    PSs (cxOf CX0 Pr w K mg base N_is_integer "is_integer" (defScope s_is_integer) f cdv Ar outer s H E).nox (defBody s_is_integer) (t_is_integer K A) :=
  (pss_one (ps_ret (pe_and (pe_callB call_isi (by rfl) T.n_isinstance (by decide +kernel) (pa_cons (pv 0) (pa_cons (pe_bltn (v := .ty "int") (by rfl) T.n_int (by decide +kernel) rfl) pa_nil))) (pe_one (pe_not (pe_callB call_isi (by rfl) T.n_isinstance (by decide +kernel) (pa_cons (pv 0) (pa_cons (pe_bltn (v := .ty "bool") (by rfl) T.n_bool (by decide +kernel) rfl) pa_nil))))))))
theorem tm__line_and_first (T : Txt K mg A B)  {f : Addr} {cdv : Value} {Ar : Around} {outer : List Env} {s : Shared} {H : Hp} {E : XK} (hr : Room 0 (Ar.deeper (envOfC "_line_and_first" (defScope s__line_and_first) s.heap.objs.size f cdv))) :
    PSs (cxOf CX0 Pr w K mg base N__line_and_first "_line_and_first" (defScope s__line_and_first) f cdv Ar outer s H E).nox (defBody s__line_and_first) (t__line_and_first K A) :=
  (pss_one (ps_ret (pe_tup (pa_cons (pe_ix ix_seq (pv 0) pe_int (fun _ _ => rfl)) (pa_cons (pe_ix ix_seq (pv 0) pe_int (fun _ _ => rfl)) pa_nil)))))
theorem tm__later (T : Txt K mg A B)  {f : Addr} {cdv : Value} {Ar : Around} {outer : List Env} {s : Shared} {H : Hp} {E : XK} (hr : Room 0 (Ar.deeper (envOfC "_later" (defScope s__later) s.heap.objs.size f cdv))) :
    PSs (cxOf CX0 Pr w K mg base N__later "_later" (defScope s__later) f cdv Ar outer s H E).nox (defBody s__later) (t__later K A) :=
  (pss_cons (ps_if (PW.pt (pw_or (pt_cmpR op_isN (pv 0) pe_non (nomark _)) (pw_or1 (pt_cmpR op_isN (pv 1) pe_non (nomark _))))) (pss_one (ps_ret pe_non)) pss_nil)
      (pss_one (ps_ret (pe_callB (call_max2 rfl) (by rfl) T.n_max (by decide +kernel) (pa_cons (pv 0) (pa_cons (pv 1) pa_nil))))))
theorem tm__law_begin (T : Txt K mg A B)  {f : Addr} {cdv : Value} {Ar : Around} {outer : List Env} {s : Shared} {H : Hp} {E : XK} (hr : Room 0 (Ar.deeper (envOfC "_law_begin" (defScope s__law_begin) s.heap.objs.size f cdv))) :
    PSs (cxOf CX0 Pr w K mg base N__law_begin "_law_begin" (defScope s__law_begin) f cdv Ar outer s H E).nox (defBody s__law_begin) (t__law_begin K A) :=
  (pss_cons (ps_set (i := 2) sc__law_begin.nd rfl (Or.inl rfl) (pe_ifExp (pt_cmpR (op_neP hr.units) (pv 0) (pe_lst pa_nil) (nomark _)) (pe_ix ix_seq (pv 0) (pe_op op_mod (pe_callTy call_int1 (by rfl) T.n_int (by decide +kernel) (pa_cons (pv 1) pa_nil)) (pe_callB call_len (by rfl) T.n_len (by decide +kernel) (pa_cons (pv 0) pa_nil))) (fun _ _ => rfl)) pe_int))
      (pss_one (ps_ret (pe_disp (pps_cons pe_str (pe_ifExp (pt_cmpR (op_geP hr.units) (pv 2) (pe_op op_pow pe_int pe_int) (nomark _)) (pv 2) pe_int) (pps_cons pe_str (pe_op op_mod (pe_callTy call_int1 (by rfl) T.n_int (by decide +kernel) (pa_cons (pe_op op_addU (pe_op op_addU (pe_op op_mul pe_int (pv 2)) (pv 1)) pe_int) pa_nil)) pe_int) (pps_cons pe_str pe_int pps_nil))) rfl rfl (fun z => by cases z) (by decide)))))
theorem tm__law_draw (T : Txt K mg A B)  {f : Addr} {cdv : Value} {Ar : Around} {outer : List Env} {s : Shared} {H : Hp} {E : XK} (hr : Room 0 (Ar.deeper (envOfC "_law_draw" (defScope s__law_draw) s.heap.objs.size f cdv))) :
    PSs (cxOf CX0 Pr w K mg base N__law_draw "_law_draw" (defScope s__law_draw) f cdv Ar outer s H E).nox (defBody s__law_draw) (t__law_draw K A) :=
  (pss_cons (ps_if (pt_cmpR (op_gtP hr.units) (pe_dget (Nat.lt_of_le_of_lt (Nat.add_le_add_left (by decide) _) hr.units) (pv 0) pe_str (fun _ _ => rfl)) pe_int (nomark _)) (pss_cons (ps_set (i := 2) sc__law_draw.nd rfl (Or.inl rfl) (pe_op op_mod (pe_callTy call_int1 (by rfl) T.n_int (by decide +kernel) (pa_cons (pe_dget (Nat.lt_of_le_of_lt (Nat.add_le_add_left (by decide) _) hr.units) (pv 0) pe_str (fun _ _ => rfl)) pa_nil)) (pv 1)))
      (pss_cons (ps_dput (Nat.lt_of_le_of_lt (Nat.add_le_add_left (by decide) _) hr.units) (pv 0) pe_str (pe_op op_fdiv (pe_dget (Nat.lt_of_le_of_lt (Nat.add_le_add_left (by decide) _) hr.units) (pv 0) pe_str (fun _ _ => rfl)) (pv 1)) rfl)
      (pss_one (ps_ret (pv 2))))) pss_nil)
      (pss_cons (ps_dput (Nat.lt_of_le_of_lt (Nat.add_le_add_left (by decide) _) hr.units) (pv 0) pe_str (pe_op op_addU (pe_dget (Nat.lt_of_le_of_lt (Nat.add_le_add_left (by decide) _) hr.units) (pv 0) pe_str (fun _ _ => rfl)) pe_int) rfl)
      (pss_cons (ps_dput (Nat.lt_of_le_of_lt (Nat.add_le_add_left (by decide) _) hr.units) (pv 0) pe_str (pe_op op_mod (pe_callTy call_int1 (by rfl) T.n_int (by decide +kernel) (pa_cons (pe_op op_addU (pe_op op_addU (pe_op op_mul (pe_dget (Nat.lt_of_le_of_lt (Nat.add_le_add_left (by decide) _) hr.units) (pv 0) pe_str (fun _ _ => rfl)) pe_int) (pe_op op_mul pe_int (pe_dget (Nat.lt_of_le_of_lt (Nat.add_le_add_left (by decide) _) hr.units) (pv 0) pe_str (fun _ _ => rfl)))) pe_int) pa_nil)) pe_int) rfl)
      (pss_one (ps_ret (pe_op op_mod (pe_callTy call_int1 (by rfl) T.n_int (by decide +kernel) (pa_cons (pe_op op_fdiv (pe_dget (Nat.lt_of_le_of_lt (Nat.add_le_add_left (by decide) _) hr.units) (pv 0) pe_str (fun _ _ => rfl)) pe_int) pa_nil)) (pv 1)))))))
theorem tm__law_due (T : Txt K mg A B)  {f : Addr} {cdv : Value} {Ar : Around} {outer : List Env} {s : Shared} {H : Hp} {E : XK} (hr : Room 0 (Ar.deeper (envOfC "_law_due" (defScope s__law_due) s.heap.objs.size f cdv))) :
    PSs (cxOf CX0 Pr w K mg base N__law_due "_law_due" (defScope s__law_due) f cdv Ar outer s H E).nox (defBody s__law_due) (t__law_due K A) :=
  (pss_cons (ps_set (i := 1) sc__law_due.nd rfl (Or.inl rfl) (pe_lst pa_nil))
      (pss_cons (ps_for PassesOwn.never rfl (pi_range1 rfl T.n_range (pa_cons pe_int pa_nil)) (pg_name (i := 2) sc__law_due.nd rfl (Or.inr rfl)) (pss_cons (ps_set (i := 3) sc__law_due.nd rfl (Or.inl rfl) (pe_cmpR (op_neP hr.units) (pe_lc (own := [("here", 5), ("low", 6), ("high", 7)]) rfl sc__law_due.nd (pi_list (pv 0)) (blkOk_by (own := [("here", 5), ("low", 6), ("high", 7)]) (N := N__law_due) (sc := defScope s__law_due) (by decide +kernel)) (fun _ _ _ _ _ => (pg_tup rfl (pgs_cons (pg_name (i := 5) sc__law_due.nd rfl (Or.inl rfl)) (pgs_cons (pg_name (i := 6) sc__law_due.nd rfl (Or.inl rfl)) (pgs_cons (pg_name (i := 7) sc__law_due.nd rfl (Or.inl rfl)) pgs_nil))))) (fun _ _ _ _ _ => pts_one (PW.pt (pw_and (pt_cmpR (op_eqP hr.units) (pv 5) (pv 2) (nomark _)) (pw_and1 (pt_cmpR op_isN (pv 7) pe_non (nomark _)))))) (fun _ _ _ _ _ => pe_int)) (pe_lst pa_nil) (nomark _)))
      (pss_cons (ps_for PassesOwn.never rfl (pi_range1 rfl T.n_range (pa_cons pe_int pa_nil)) (pg_name (i := 4) sc__law_due.nd rfl (Or.inr rfl)) (pss_one (ps_if (pt_cmpR (op_neP hr.units) (pe_lc (own := [("here", 5), ("low", 6), ("high", 7)]) rfl sc__law_due.nd (pi_list (pv 0)) (blkOk_by (own := [("here", 5), ("low", 6), ("high", 7)]) (N := N__law_due) (sc := defScope s__law_due) (by decide +kernel)) (fun _ _ _ _ _ => (pg_tup rfl (pgs_cons (pg_name (i := 5) sc__law_due.nd rfl (Or.inl rfl)) (pgs_cons (pg_name (i := 6) sc__law_due.nd rfl (Or.inl rfl)) (pgs_cons (pg_name (i := 7) sc__law_due.nd rfl (Or.inl rfl)) pgs_nil))))) (fun _ _ _ _ _ => pts_one (PW.pt (pw_and (pt_cmpR (op_eqP hr.units) (pv 5) (pv 2) (nomark _)) (pw_and (pt_cmpR (op_leP hr.units) (pv 6) (pv 4) (nomark _)) (pw_and1 (PW.pt (pw_or (pt_cmpR op_isN (pv 7) pe_non (nomark _)) (pw_or1 (pt_cmpR (op_ltP hr.units) (pv 4) (pv 7) (nomark _)))))))))) (fun _ _ _ _ _ => pe_int)) (pe_lst pa_nil) (nomark _)) (pss_one (ps_if (PW.pt (pw_and (pt_cmpR (op_neP hr.units) (pv 1) (pe_lst pa_nil) (nomark _)) (pw_and (pt_cmpR (op_eqP hr.units) (pe_ix ix_seq (pe_ix ix_seq (pv 1) (pe_un un_neg pe_int) (fun _ _ => rfl)) pe_int (fun _ _ => rfl)) (pv 2) (nomark _)) (pw_and1 (pt_cmpR (op_eqP hr.units) (pe_ix ix_seq (pe_ix ix_seq (pv 1) (pe_un un_neg pe_int) (fun _ _ => rfl)) pe_int (fun _ _ => rfl)) (pv 4) (nomark _)))))) (pss_one (ps_asg (pe_tup (pa_cons (pv 2) (pa_cons (pe_ix ix_seq (pe_ix ix_seq (pv 1) (pe_un un_neg pe_int) (fun _ _ => rfl)) pe_int (fun _ _ => rfl)) (pa_cons (pe_op op_addU (pv 4) pe_int) pa_nil)))) (pg_sub (pv 1) (pe_un un_neg pe_int) set_list))) (pss_one (ps_expr (pe_bm PySem.F.plainAttrs_list PySem.F.slot_list_append PySem.F.type_list_append mt_append (pv 1) (pa_cons (pe_tup (pa_cons (pv 2) (pa_cons (pv 4) (pa_cons (pe_op op_addU (pv 4) pe_int) pa_nil)))) pa_nil)))))) pss_nil)))
      (pss_one (ps_if (pt_truth (pv 3) (by intro _; rfl)) (pss_one (ps_asg (pe_tup (pa_cons (pv 2) (pa_cons (pe_ix ix_seq (pe_ix ix_seq (pv 1) (pe_un un_neg pe_int) (fun _ _ => rfl)) pe_int (fun _ _ => rfl)) (pa_cons pe_non pa_nil)))) (pg_sub (pv 1) (pe_un un_neg pe_int) set_list))) pss_nil)))))
      (pss_one (ps_ret (pe_callTy call_tuple_of (by rfl) T.n_tuple (by decide +kernel) (pa_cons (pv 1) pa_nil))))))
theorem tm__law_told (T : Txt K mg A B)  {g : Addr} {cdv : Value} {Ar : Around} {outer : List Env} {s : Shared} {H : Hp} {f c' : Addr} {q : Str} {tl : XK → Hp → VK → Prop}
    (act : ∀ (W : WX) (pn : List (Addr × Obj)) (xe : Value → Shared → Prop) (E : XK) (p1 p2 : Pos), Takes ((cxOf C8.CX0 Pr w K mg base N__law_told "_law_told" (defScope s__law_told) g cdv Ar outer s H C8.E0).tr pn xe) W → (∀ cls d σ' H', E cls d H' → σ'.length = N__law_told.length → W cls d σ' H') → PE ((cxOf C8.CX0 Pr w K mg base N__law_told "_law_told" (defScope s__law_told) g cdv Ar outer s H C8.E0).tr pn xe) (.Call (.Name "call" p1) [] [] p2) (tAct 0 f c' q (tl E))) :
    PSs (cxOf C8.CX0 Pr w K mg base N__law_told "_law_told" (defScope s__law_told) g cdv Ar outer s H C8.E0).nox (defBody s__law_told) (t__law_told K A f c' q tl) :=
  (pss_cons (ps_asg (pe_tup (pa_cons pe_non (pa_cons pe_non pa_nil))) (pg_tup rfl (pgs_cons (pg_name (i := 1) sc__law_told.nd rfl (Or.inl rfl)) (pgs_cons (pg_name (i := 2) sc__law_told.nd rfl (Or.inl rfl)) pgs_nil))))
      (pss_cons (ps_try_keep (i := 3) rfl rfl rfl sc__law_told.nd rfl rfl (clause1 ⟨rfl, by decide, .inl T.gc_BadPlace⟩) (fun W pn xe tk _ => ps_tryB fun E hE => (pss_one (ps_set (i := 2) sc__law_told.nd rfl (Or.inl rfl) (act W pn xe E _ _ tk hE)))) (fun a pn => (pss_one (ps_set (i := 1) sc__law_told.nd rfl (Or.inl rfl) (pv 3)))))
      (pss_one (ps_ret (pe_ifExp (pt_cmpR op_isN (pv 1) pe_non (nomark _)) (pe_lst (pa_cons (pv 2) pa_nil)) (pe_tup (pa_cons (pe_exf (pv 1)) (pa_cons (pe_callB call_isX (by rfl) T.n_isinstance (by decide +kernel) (pa_cons (pv 1) (pa_cons (pe_glob (v := .ref A.c_MapError) rfl T.gc_MapError rfl) pa_nil))) pa_nil))))))))
theorem gv__law_told (T : Txt K mg A B) {N : List Str} {qual : Str} {sc : Scope} {fa : Addr} {cd cdv : Value} {Ar : Around} {outer : List Env} {s : Shared} {H : Hp} {E : XK} {q : Str} :
    GivesG (cxOf CX0 Pr w K mg base N qual sc fa cd Ar outer s H E).nox N__law_told "_law_told" (defScope s__law_told) A.a__law_told cdv (defBody s__law_told) "call" q (TTd K q (RG__law_told A)) :=
  @gives_of (cxOf CX0 Pr w K mg base N qual sc fa cd Ar outer s H E).nox (inferInstanceAs (Tb K)) N__law_told "_law_told" "call" q (defScope s__law_told) A.a__law_told cdv (defBody s__law_told) (RG__law_told A) (fun f c' tl => t__law_told K A f c' q tl) (by decide) (fun f c' s H tl act => tm__law_told T act) (fun Z f c' tl u0 n P0 X0 P => w__law_told T.tc Z f c' tl u0 n P0 X0 P)
theorem tm_is_count (T : Txt K mg A B) (G_is_integer : FnOk Pr w K mg base CX0 1 A.a_is_integer B.d_is_integer ["value"] (spD K (R_is_integer A))) {f : Addr} {cdv : Value} {Ar : Around} {outer : List Env} {s : Shared} {H : Hp} {E : XK} (hr : Room 1 (Ar.deeper (envOfC "is_count" (defScope s_is_count) s.heap.objs.size f cdv))) :
    PSs (cxOf CX0 Pr w K mg base N_is_count "is_count" (defScope s_is_count) f cdv Ar outer s H E).nox (defBody s_is_count) (t_is_count K A) :=
  (pss_one (ps_ret (pe_and (pe_call G_is_integer (hr.mono (by decide)) (by rfl) T.g_is_integer T.f_is_integer.kp T.b_is_integer .nil pass0 (pa_cons (pv 0) pa_nil)) (pe_one (pe_cmpR (op_geP hr.units) (pv 0) pe_int (nomark _))))))
theorem tm__law_pick (T : Txt K mg A B) (G__law_draw : FnOk Pr w K mg base CX0 1 A.a__law_draw B.d__law_draw ["state", "size"] (spD K (R__law_draw A))) {f : Addr} {cdv : Value} {Ar : Around} {outer : List Env} {s : Shared} {H : Hp} {E : XK} (hr : Room 1 (Ar.deeper (envOfC "_law_pick" (defScope s__law_pick) s.heap.objs.size f cdv))) :
    PSs (cxOf CX0 Pr w K mg base N__law_pick "_law_pick" (defScope s__law_pick) f cdv Ar outer s H E).nox (defBody s__law_pick) (t__law_pick K A) :=
  (pss_one (ps_ret (pe_ix ix_seq (pv 1) (pe_call G__law_draw (hr.mono (by decide)) (by rfl) T.g__law_draw T.f__law_draw.kp T.b__law_draw .nil pass0 (pa_cons (pv 0) (pa_cons (pe_callB call_len (by rfl) T.n_len (by decide +kernel) (pa_cons (pv 1) pa_nil)) pa_nil))) (fun _ _ => rfl))))
theorem tm__law_ranges (T : Txt K mg A B) (G__law_draw : FnOk Pr w K mg base CX0 1 A.a__law_draw B.d__law_draw ["state", "size"] (spD K (R__law_draw A))) {f : Addr} {cdv : Value} {Ar : Around} {outer : List Env} {s : Shared} {H : Hp} {E : XK} (hr : Room 1 (Ar.deeper (envOfC "_law_ranges" (defScope s__law_ranges) s.heap.objs.size f cdv))) :
    PSs (cxOf CX0 Pr w K mg base N__law_ranges "_law_ranges" (defScope s__law_ranges) f cdv Ar outer s H E).nox (defBody s__law_ranges) (t__law_ranges K A) :=
  (pss_cons (ps_set (i := 1) sc__law_ranges.nd rfl (Or.inl rfl) (pe_lst pa_nil))
      (pss_cons (ps_for PassesOwn.never rfl (pi_range1 rfl T.n_range (pa_cons (pe_call G__law_draw (hr.mono (by decide)) (by rfl) T.g__law_draw T.f__law_draw.kp T.b__law_draw .nil pass0 (pa_cons (pv 0) (pa_cons pe_int pa_nil))) pa_nil)) (pg_name (i := 2) sc__law_ranges.nd rfl (Or.inl rfl)) (pss_cons (ps_set (i := 3) sc__law_ranges.nd rfl (Or.inl rfl) (pe_call G__law_draw (hr.mono (by decide)) (by rfl) T.g__law_draw T.f__law_draw.kp T.b__law_draw .nil pass0 (pa_cons (pv 0) (pa_cons pe_int pa_nil))))
      (pss_cons (ps_set (i := 4) sc__law_ranges.nd rfl (Or.inl rfl) (pe_ifExp (pt_cmpR (op_eqP hr.units) (pe_call G__law_draw (hr.mono (by decide)) (by rfl) T.g__law_draw T.f__law_draw.kp T.b__law_draw .nil pass0 (pa_cons (pv 0) (pa_cons pe_int pa_nil))) pe_int (nomark _)) pe_non (pe_op op_addU (pe_op op_addU (pv 3) pe_int) (pe_call G__law_draw (hr.mono (by decide)) (by rfl) T.g__law_draw T.f__law_draw.kp T.b__law_draw .nil pass0 (pa_cons (pv 0) (pa_cons pe_int pa_nil))))))
      (pss_one (ps_expr (pe_bm PySem.F.plainAttrs_list PySem.F.slot_list_append PySem.F.type_list_append mt_append (pv 1) (pa_cons (pe_tup (pa_cons (pe_call G__law_draw (hr.mono (by decide)) (by rfl) T.g__law_draw T.f__law_draw.kp T.b__law_draw .nil pass0 (pa_cons (pv 0) (pa_cons pe_int pa_nil))) (pa_cons (pv 3) (pa_cons (pv 4) pa_nil)))) pa_nil)))))))
      (pss_one (ps_ret (pv 1)))))
theorem tm__law_mixed (T : Txt K mg A B) (G__law_draw : FnOk Pr w K mg base CX0 1 A.a__law_draw B.d__law_draw ["state", "size"] (spD K (R__law_draw A))) {f : Addr} {cdv : Value} {Ar : Around} {outer : List Env} {s : Shared} {H : Hp} {E : XK} (hr : Room 1 (Ar.deeper (envOfC "_law_mixed" (defScope s__law_mixed) s.heap.objs.size f cdv))) :
    PSs (cxOf CX0 Pr w K mg base N__law_mixed "_law_mixed" (defScope s__law_mixed) f cdv Ar outer s H E).nox (defBody s__law_mixed) (t__law_mixed K A) :=
  (pss_cons (ps_par (i := 2) (j := 3) (by rfl) sc__law_mixed.nd rfl rfl (by decide) rfl rfl (pa_cons (pe_callTy call_list_of (by rfl) T.n_list (by decide +kernel) (pa_cons (pv 1) pa_nil)) (pa_cons (pe_lst pa_nil) pa_nil)) (by rfl))
      (pss_cons (ps_for PassesOwn.never rfl (pi_range1 rfl T.n_range (pa_cons (pe_callB call_len (by rfl) T.n_len (by decide +kernel) (pa_cons (pv 1) pa_nil)) pa_nil)) (pg_name (i := 4) sc__law_mixed.nd rfl (Or.inl rfl)) (pss_one (ps_expr (pe_bm PySem.F.plainAttrs_list PySem.F.slot_list_append PySem.F.type_list_append mt_append (pv 3) (pa_cons (pe_bm PySem.F.plainAttrs_list PySem.F.slot_list_pop PySem.F.type_list_pop mt_popAt (pv 2) (pa_cons (pe_call G__law_draw (hr.mono (by decide)) (by rfl) T.g__law_draw T.f__law_draw.kp T.b__law_draw .nil pass0 (pa_cons (pv 0) (pa_cons (pe_callB call_len (by rfl) T.n_len (by decide +kernel) (pa_cons (pv 2) pa_nil)) pa_nil))) pa_nil)) pa_nil)))))
      (pss_one (ps_ret (pe_op op_addU (pv 3) (pe_slice sl_U (pv 3) po_none (po_some pe_int)))))))
theorem tm_is_place (T : Txt K mg A B) (G_is_count : FnOk Pr w K mg base CX0 2 A.a_is_count B.d_is_count ["value"] (spD K (R_is_count A))) {f : Addr} {cdv : Value} {Ar : Around} {outer : List Env} {s : Shared} {H : Hp} {E : XK} (hr : Room 2 (Ar.deeper (envOfC "is_place" (defScope s_is_place) s.heap.objs.size f cdv))) :
    PSs (cxOf CX0 Pr w K mg base N_is_place "is_place" (defScope s_is_place) f cdv Ar outer s H E).nox (defBody s_is_place) (t_is_place K A) :=
  (pss_one (ps_ret (pe_and (pe_callB call_isi (by rfl) T.n_isinstance (by decide +kernel) (pa_cons (pv 0) (pa_cons (pe_bltn (v := .ty "tuple") (by rfl) T.n_tuple (by decide +kernel) rfl) pa_nil))) (pe_and (pe_cmpR (op_eqP hr.units) (pe_callB call_len (by rfl) T.n_len (by decide +kernel) (pa_cons (pv 0) pa_nil)) pe_int (nomark _)) (pe_and (pe_call G_is_count (hr.mono (by decide)) (by rfl) T.g_is_count T.f_is_count.kp T.b_is_count .nil pass0 (pa_cons (pe_ix ix_seq (pv 0) pe_int (fun _ _ => rfl)) pa_nil)) (pe_one (pe_call G_is_count (hr.mono (by decide)) (by rfl) T.g_is_count T.f_is_count.kp T.b_is_count .nil pass0 (pa_cons (pe_ix ix_seq (pv 0) pe_int (fun _ _ => rfl)) pa_nil))))))))
theorem tm_joined (T : Txt K mg A B) (G__later : FnOk Pr w K mg base CX0 1 A.a__later B.d__later ["one", "other"] (spD K (R__later A))) {f : Addr} {cdv : Value} {Ar : Around} {outer : List Env} {s : Shared} {H : Hp} {E : XK} (hr : Room 3 (Ar.deeper (envOfC "joined" (defScope s_joined) s.heap.objs.size f cdv))) :
    PSs (cxOf CX0 Pr w K mg base N_joined "joined" (defScope s_joined) f cdv Ar outer s H E).nox (defBody s_joined) (t_joined K A) :=
  (pss_cons (ps_set (i := 1) sc_joined.nd rfl (Or.inl rfl) (pe_lst pa_nil))
      (pss_cons (ps_for PassesOwn.never rfl (pi_list (pe_callBK (cr_sortedKQ (hr.mono (by decide)) (kf__line_and_first T)) (by rfl) T.n_sorted (by decide +kernel) (pa_cons (pv 0) pa_nil) (pk_cons (pe_glob (v := .ref A.a__line_and_first) (by rfl) T.g__line_and_first (by rfl)) pk_nil))) (pg_tup rfl (pgs_cons (pg_name (i := 2) sc_joined.nd rfl (Or.inl rfl)) (pgs_cons (pg_name (i := 3) sc_joined.nd rfl (Or.inl rfl)) (pgs_cons (pg_name (i := 4) sc_joined.nd rfl (Or.inl rfl)) pgs_nil)))) (pss_cons (ps_set (i := 5) sc_joined.nd rfl (Or.inl rfl) (pe_ifExp (pt_truth (pv 1) (by intro _; rfl)) (pe_ix ix_seq (pv 1) (pe_un un_neg pe_int) (fun _ _ => rfl)) (pe_tup (pa_cons pe_non (pa_cons pe_int (pa_cons pe_int pa_nil))))))
      (pss_one (ps_if (PW.pt (pw_and (pt_cmpR (op_eqP hr.units) (pe_ix ix_seq (pv 5) pe_int (fun _ _ => rfl)) (pv 2) (nomark _)) (pw_and1 (PW.pt (pw_or (pt_cmpR op_isN (pe_ix ix_seq (pv 5) pe_int (fun _ _ => rfl)) pe_non (nomark _)) (pw_or1 (pt_cmpR (op_leP hr.units) (pv 3) (pe_ix ix_seq (pv 5) pe_int (fun _ _ => rfl)) (nomark _)))))))) (pss_one (ps_asg (pe_tup (pa_cons (pv 2) (pa_cons (pe_ix ix_seq (pv 5) pe_int (fun _ _ => rfl)) (pa_cons (pe_call G__later (hr.mono (by decide)) (by rfl) T.g__later T.f__later.kp T.b__later .nil pass0 (pa_cons (pe_ix ix_seq (pv 5) pe_int (fun _ _ => rfl)) (pa_cons (pv 4) pa_nil))) pa_nil)))) (pg_sub (pv 1) (pe_un un_neg pe_int) set_list))) (pss_one (ps_expr (pe_bm PySem.F.plainAttrs_list PySem.F.slot_list_append PySem.F.type_list_append mt_append (pv 1) (pa_cons (pe_tup (pa_cons (pv 2) (pa_cons (pv 3) (pa_cons (pv 4) pa_nil)))) pa_nil))))))))
      (pss_one (ps_ret (pe_callTy call_tuple_of (by rfl) T.n_tuple (by decide +kernel) (pa_cons (pv 1) pa_nil))))))
theorem tm__is_range (T : Txt K mg A B) (G_is_count : FnOk Pr w K mg base CX0 2 A.a_is_count B.d_is_count ["value"] (spD K (R_is_count A))) (G_is_place : FnOk Pr w K mg base CX0 3 A.a_is_place B.d_is_place ["value"] (spD K (R_is_place A))) {f : Addr} {cdv : Value} {Ar : Around} {outer : List Env} {s : Shared} {H : Hp} {E : XK} (hr : Room 3 (Ar.deeper (envOfC "_is_range" (defScope s__is_range) s.heap.objs.size f cdv))) :
    PSs (cxOf CX0 Pr w K mg base N__is_range "_is_range" (defScope s__is_range) f cdv Ar outer s H E).nox (defBody s__is_range) (t__is_range K A) :=
  (pss_cons (ps_if (PW.pt (pw_or (pt_not (pt_val (pe_callB call_isi (by rfl) T.n_isinstance (by decide +kernel) (pa_cons (pv 0) (pa_cons (pe_bltn (v := .ty "tuple") (by rfl) T.n_tuple (by decide +kernel) rfl) pa_nil))))) (pw_or (pt_cmpR (op_neP hr.units) (pe_callB call_len (by rfl) T.n_len (by decide +kernel) (pa_cons (pv 0) pa_nil)) pe_int (nomark _)) (pw_or1 (pt_not (pt_val (pe_call G_is_place (hr.mono (by decide)) (by rfl) T.g_is_place T.f_is_place.kp T.b_is_place .nil pass0 (pa_cons (pe_slice sl_U (pv 0) po_none (po_some pe_int)) pa_nil)))))))) (pss_one (ps_ret pe_bl)) pss_nil)
      (pss_one (ps_ret (pe_or (pe_cmpR op_isN (pe_ix ix_seq (pv 0) pe_int (fun _ _ => rfl)) pe_non (nomark _)) (pe_one (pe_and (pe_call G_is_count (hr.mono (by decide)) (by rfl) T.g_is_count T.f_is_count.kp T.b_is_count .nil pass0 (pa_cons (pe_ix ix_seq (pv 0) pe_int (fun _ _ => rfl)) pa_nil)) (pe_one (pe_cmpR (op_gtP hr.units) (pe_ix ix_seq (pv 0) pe_int (fun _ _ => rfl)) (pe_ix ix_seq (pv 0) pe_int (fun _ _ => rfl)) (nomark _)))))))))
theorem tm_joined_ranges (T : Txt K mg A B) (G_BadPlace_init : FnOk Pr w K mg base CX0 1 A.a_BadPlace_init B.d_BadPlace_init ["self", "given"] (spX1 A.c_BadPlace "given")) (G__is_range : FnOk Pr w K mg base CX0 4 A.a__is_range B.d__is_range ["value"] (spD K (R__is_range A))) (G_joined : FnOk Pr w K mg base CX0 4 A.a_joined B.d_joined ["ranges"] (spD K (R_joined A))) {f : Addr} {cdv : Value} {Ar : Around} {outer : List Env} {s : Shared} {H : Hp} {E : XK} (hr : Room 4 (Ar.deeper (envOfC "joined_ranges" (defScope s_joined_ranges) s.heap.objs.size f cdv))) :
    PSs (cxOf (L2.CX Pr w) Pr w K mg base N_joined_ranges "joined_ranges" (defScope s_joined_ranges) f cdv Ar outer s H E) (defBody s_joined_ranges) (t_joined_ranges K A E) :=
  (pss_cons (ps_if (pt_not (pt_val (pe_callB call_isiT (by rfl) T.n_isinstance (by decide +kernel) (pa_cons (pv 0) (pa_cons (pe_tup (pa_cons (pe_bltn (v := .ty "list") (by rfl) T.n_list (by decide +kernel) rfl) (pa_cons (pe_bltn (v := .ty "tuple") (by rfl) T.n_tuple (by decide +kernel) rfl) pa_nil))) pa_nil))))) (pss_one (ps_raiseG rfl (takes_of rfl rfl rfl rfl) PySem.XG.bx_VE T.tc.ox_BadPlace T.ii_BadPlace T.ti_BadPlace G_BadPlace_init (hr.mono (by decide)) T.b_BadPlace_init pass0 rfl T.gc_BadPlace (pa_cons pe_non pa_nil))) pss_nil)
      (pss_cons (ps_for (passes_of rfl) rfl (pi_seq (pv 0)) (pg_name (i := 1) sc_joined_ranges.nd rfl (Or.inl rfl)) (pss_one (ps_if (pt_not (pt_val (pe_call G__is_range (hr.mono (by decide)) (by rfl) T.g__is_range T.f__is_range.kp T.b__is_range .nil pass0 (pa_cons (pv 1) pa_nil)))) (pss_one (ps_raiseG rfl (takes_of rfl rfl rfl rfl) PySem.XG.bx_VE T.tc.ox_BadPlace T.ii_BadPlace T.ti_BadPlace G_BadPlace_init (hr.mono (by decide)) T.b_BadPlace_init pass0 rfl T.gc_BadPlace (pa_cons (pv 1) pa_nil))) pss_nil)))
      (pss_one (ps_ret (pe_call G_joined (hr.mono (by decide)) (by rfl) T.g_joined T.f_joined.kp T.b_joined .nil pass0 (pa_cons (pv 0) pa_nil))))))
theorem tm_law (T : Txt K mg A B) (TB : LamX.TabB base mg A.cd_law A.pt_law) (G__law_begin : FnOk Pr w K mg base CX0 1 A.a__law_begin B.d__law_begin ["script", "spot"] (spD K (R__law_begin A))) (G__law_due : FnOk Pr w K mg base CX0 1 A.a__law_due B.d__law_due ["some"] (spD K (R__law_due A))) (G__law_mixed : FnOk Pr w K mg base CX0 2 A.a__law_mixed B.d__law_mixed ["m", "some"] (spD K (R__law_mixed A))) (G__law_pick : FnOk Pr w K mg base CX0 2 A.a__law_pick B.d__law_pick ["m", "items"] (spD K (R__law_pick A))) (G__law_ranges : FnOk Pr w K mg base CX0 2 A.a__law_ranges B.d__law_ranges ["m"] (spD K (R__law_ranges A))) (G_joined_ranges : FnOk Pr w K mg base (L2.CX Pr w) 5 A.a_joined_ranges B.d_joined_ranges ["ranges"] (spD K (R_joined_ranges A))) {f : Addr} {Ar : Around} {outer : List Env} {s : Shared} {H : Hp} {E : XK} (hgu : (Ar.deeper (envOfC "law" (defScope s_law) s.heap.objs.size f (.ref A.cd_law))).guards = some []) (hr : Room 14 (Ar.deeper (envOfC "law" (defScope s_law) s.heap.objs.size f (.ref A.cd_law)))) :
    PSs (cxOf CX0 Pr w K mg base N_law "law" (defScope s_law) f (.ref A.cd_law) Ar outer s H E).nox (defBody s_law) (t_law K A) :=
  (pss_cons (ps_for PassesOwn.never rfl (pi_range1 rfl T.n_range (pa_cons (pe_op op_addU pe_int (pe_callB (call_min2 rfl) (by rfl) T.n_min (by decide +kernel) (pa_cons pe_int (pa_cons (pe_callB call_len (by rfl) T.n_len (by decide +kernel) (pa_cons (pv 0) pa_nil)) pa_nil)))) pa_nil)) (pg_name (i := 1) sc_law.nd rfl (Or.inl rfl)) (pss_cons (ps_set (i := 2) sc_law.nd rfl (Or.inl rfl) (pe_call G__law_begin (hr.mono (by decide)) (by rfl) T.g__law_begin T.f__law_begin.kp T.b__law_begin .nil pass0 (pa_cons (pv 0) (pa_cons (pv 1) pa_nil))))
      (pss_cons (ps_for PassesOwn.never rfl (pi_range1 rfl T.n_range (pa_cons pe_int pa_nil)) (pg_name (i := 3) sc_law.nd rfl (Or.inl rfl)) (pss_cons (ps_set (i := 4) sc_law.nd rfl (Or.inl rfl) (pe_call G__law_ranges (hr.mono (by decide)) (by rfl) T.g__law_ranges T.f__law_ranges.kp T.b__law_ranges .nil pass0 (pa_cons (pv 2) pa_nil)))
      (pss_cons (ps_par (i := 5) (j := 6) (by rfl) sc_law.nd rfl rfl (by decide) rfl rfl (pa_cons (pe_callTy call_list_of (by rfl) T.n_list (by decide +kernel) (pa_cons (pv 4) pa_nil)) (pa_cons (pe_call G__law_due (hr.mono (by decide)) (by rfl) T.g__law_due T.f__law_due.kp T.b__law_due .nil pass0 (pa_cons (pv 4) pa_nil)) pa_nil)) (by rfl))
      (pss_cons (ps_set (i := 7) sc_law.nd rfl (Or.inl rfl) (pe_lst (pa_cons (pe_call G_joined_ranges (hr.mono (by decide)) (by rfl) T.g_joined_ranges T.f_joined_ranges.kp T.b_joined_ranges .nil passN (pa_cons (pv 4) pa_nil)) (pa_cons (pe_call G_joined_ranges (hr.mono (by decide)) (by rfl) T.g_joined_ranges T.f_joined_ranges.kp T.b_joined_ranges .nil passN (pa_cons (pe_callTy call_tuple_of (by rfl) T.n_tuple (by decide +kernel) (pa_cons (pv 4) pa_nil)) pa_nil)) (pa_cons (pe_callN0 G_joined_ranges (hr.mono (by decide)) rfl T.g_joined_ranges T.f_joined_ranges.kp T.kb_joined_ranges_ranges passN (pk_cons (pe_call G__law_mixed (hr.mono (by decide)) (by rfl) T.g__law_mixed T.f__law_mixed.kp T.b__law_mixed .nil pass0 (pa_cons (pv 2) (pa_cons (pv 4) pa_nil))) pk_nil)) pa_nil)))))
      (pss_one (ps_if (PW.pt (pw_or (pt_cmpR (op_neP hr.units) (pe_callB (call_reprW hgu hr.units) (by rfl) T.n_repr (by decide +kernel) (pa_cons (pe_op op_addU (pv 7) (pe_lst (pa_cons (pe_call G_joined_ranges (hr.mono (by decide)) (by rfl) T.g_joined_ranges T.f_joined_ranges.kp T.b_joined_ranges .nil passN (pa_cons (pv 6) pa_nil)) pa_nil))) pa_nil)) (pe_callB (call_reprW hgu hr.units) (by rfl) T.n_repr (by decide +kernel) (pa_cons (pe_op op_rep (pe_lst (pa_cons (pv 6) pa_nil)) pe_int) pa_nil)) (nomark _)) (pw_or1 (pt_cmpR (op_neP hr.units) (pv 4) (pv 5) (nomark _))))) (pss_one (ps_ret pe_bl)) pss_nil))))))
      (pss_cons (ps_set (i := 8) sc_law.nd rfl (Or.inr rfl) (pe_lst (pa_cons pe_non (pa_cons pe_int (pa_cons (pe_tup (pa_cons pe_int (pa_cons pe_int pa_nil))) (pa_cons (pe_lst (pa_cons pe_int (pa_cons pe_int (pa_cons pe_int pa_nil)))) (pa_cons (pe_tup (pa_cons pe_int (pa_cons pe_int (pa_cons pe_int pa_nil)))) (pa_cons (pe_tup (pa_cons pe_int (pa_cons pe_int (pa_cons pe_int pa_nil)))) (pa_cons (pe_tup (pa_cons pe_int (pa_cons (pe_op op_sub pe_int pe_int) (pa_cons pe_int pa_nil)))) (pa_cons (pe_tup (pa_cons pe_bl (pa_cons pe_int (pa_cons pe_int pa_nil)))) (pa_cons (pe_tup (pa_cons pe_int (pa_cons pe_int (pa_cons pe_bl pa_nil)))) (pa_cons (pe_tup (pa_cons pe_int (pa_cons pe_str (pa_cons pe_int pa_nil)))) pa_nil))))))))))))
      (pss_cons (ps_set (i := 8) sc_law.nd rfl (Or.inr rfl) (pe_call G__law_pick (hr.mono (by decide)) (by rfl) T.g__law_pick T.f__law_pick.kp T.b__law_pick .nil pass0 (pa_cons (pv 2) (pa_cons (pv 8) pa_nil))))
      (pss_cons (ps_set (i := 7) sc_law.nd rfl (Or.inl rfl) (pe_lamF (k := 12) (one := none) T.f__law_told T.b__law_told sc__law_told rfl (Or.inl rfl) (fun cdv => gv__law_told (q := _) T) TB rfl (hr.mono (by decide)) (lamN_by (show lamNB N_law (defScope s_law) _ _ = true from (by decide +kernel))) ⟨rfl, fun _ => ⟨rfl, fun _ _ _ _ _ _ _ _ => rfl⟩, fun x e => (by cases e)⟩ rfl T.g__law_told (fun A' outer' s' H' E f c' hr2 => (pe_call G_joined_ranges (hr2.mono (by decide)) (by rfl) T.g_joined_ranges T.f_joined_ranges.kp T.b_joined_ranges .nil (passes_call (takes_of rfl rfl rfl rfl) fun _ _ _ _ h => h) (pa_cons (pe_lst (pa_cons (pe_tup (pa_cons pe_int (pa_cons pe_int (pa_cons pe_int pa_nil)))) (pa_cons (pv 8) (pa_cons pe_non pa_nil)))) pa_nil)))))
      (pss_cons (ps_if (pt_cmpR (op_neP hr.units) (pe_callB (call_reprW hgu hr.units) (by rfl) T.n_repr (by decide +kernel) (pa_cons (pv 7) pa_nil)) (pe_callB (call_reprW hgu hr.units) (by rfl) T.n_repr (by decide +kernel) (pa_cons (pe_tup (pa_cons (pv 8) (pa_cons pe_bl pa_nil))) pa_nil)) (nomark _)) (pss_one (ps_ret pe_bl)) pss_nil)
      (pss_cons (ps_set (i := 8) sc_law.nd rfl (Or.inr rfl) (pe_call G__law_pick (hr.mono (by decide)) (by rfl) T.g__law_pick T.f__law_pick.kp T.b__law_pick .nil pass0 (pa_cons (pv 2) (pa_cons (pe_lst (pa_cons pe_non (pa_cons pe_int (pa_cons pe_str (pa_cons pe_dnewK (pa_cons pe_bl pa_nil)))))) pa_nil))))
      (pss_one (ps_if (pt_cmpR (op_neP hr.units) (pe_lamF (k := 12) (one := none) T.f__law_told T.b__law_told sc__law_told rfl (Or.inl rfl) (fun cdv => gv__law_told (q := _) T) TB rfl (hr.mono (by decide)) (lamN_by (show lamNB N_law (defScope s_law) _ _ = true from (by decide +kernel))) ⟨rfl, fun _ => ⟨rfl, fun _ _ _ _ _ _ _ _ => rfl⟩, fun x e => (by cases e)⟩ rfl T.g__law_told (fun A' outer' s' H' E f c' hr2 => (pe_call G_joined_ranges (hr2.mono (by decide)) (by rfl) T.g_joined_ranges T.f_joined_ranges.kp T.b_joined_ranges .nil (passes_call (takes_of rfl rfl rfl rfl) fun _ _ _ _ h => h) (pa_cons (pv 8) pa_nil)))) (pe_tup (pa_cons pe_non (pa_cons pe_bl pa_nil))) (nomark _)) (pss_one (ps_ret pe_bl)) pss_nil))))))))))
      (pss_cons (ps_set (i := 9) sc_law.nd rfl (Or.inl rfl) (pe_op op_pow pe_int pe_int))
      (pss_one (ps_ret (pe_and (pe_cmpR (op_eqP hr.units) (pe_call G_joined_ranges (hr.mono (by decide)) (by rfl) T.g_joined_ranges T.f_joined_ranges.kp T.b_joined_ranges .nil passN (pa_cons (pe_lst (pa_cons (pe_tup (pa_cons (pv 9) (pa_cons (pv 9) (pa_cons pe_non pa_nil)))) (pa_cons (pe_tup (pa_cons (pv 9) (pa_cons pe_int (pa_cons (pv 9) pa_nil)))) pa_nil))) pa_nil)) (pe_tup (pa_cons (pe_tup (pa_cons (pv 9) (pa_cons pe_int (pa_cons pe_non pa_nil)))) pa_nil)) (nomark _)) (pe_one (pe_cmpR (op_eqP hr.units) (pe_call G_joined_ranges (hr.mono (by decide)) (by rfl) T.g_joined_ranges T.f_joined_ranges.kp T.b_joined_ranges .nil passN (pa_cons (pe_tup pa_nil) pa_nil)) (pe_tup pa_nil) (nomark _))))))))
end
section
variable {Pr : Program} {w : World} {K : PySem.W.Frag} [Tb K] {mg : Str → Option Value} {base : Heap} {A : Ad} {B : Fd}
theorem ok_BadPlace_init (T : Txt K mg A B)  : FnOk Pr w K mg base CX0 1 A.a_BadPlace_init B.d_BadPlace_init ["self", "given"] (spX1 A.c_BadPlace "given") :=
  ok_excG T.f_BadPlace_init sc_BadPlace_init rfl fun cdv Ar outer s H E => (pss_one (ps_osx PySem.XG.bx_VE T.tc.ox_BadPlace T.tc.na_BadPlace_given (pv 0) (pv 1)))
theorem ok_is_integer (T : Txt K mg A B)  : FnOk Pr w K mg base CX0 1 A.a_is_integer B.d_is_integer ["value"] (spD K (R_is_integer A)) :=
  dok T.f_is_integer sc_is_integer len_is_integer (by decide) fun cdv Ar outer s H E hr => ⟨t_is_integer K A, tm_is_integer T  hr, w_is_integer T.tc⟩
theorem ok__line_and_first (T : Txt K mg A B)  : FnOk Pr w K mg base CX0 1 A.a__line_and_first B.d__line_and_first ["columns"] (spD K (R__line_and_first A)) :=
  dok T.f__line_and_first sc__line_and_first len__line_and_first (by decide) fun cdv Ar outer s H E hr => ⟨t__line_and_first K A, tm__line_and_first T  hr, w__line_and_first T.tc⟩
theorem ok__later (T : Txt K mg A B)  : FnOk Pr w K mg base CX0 1 A.a__later B.d__later ["one", "other"] (spD K (R__later A)) :=
  dok T.f__later sc__later len__later (by decide) fun cdv Ar outer s H E hr => ⟨t__later K A, tm__later T  hr, w__later T.tc⟩
theorem ok__law_begin (T : Txt K mg A B)  : FnOk Pr w K mg base CX0 1 A.a__law_begin B.d__law_begin ["script", "spot"] (spD K (R__law_begin A)) :=
  dok T.f__law_begin sc__law_begin len__law_begin (by decide) fun cdv Ar outer s H E hr => ⟨t__law_begin K A, tm__law_begin T  hr, w__law_begin T.tc⟩
theorem ok__law_draw (T : Txt K mg A B)  : FnOk Pr w K mg base CX0 1 A.a__law_draw B.d__law_draw ["state", "size"] (spD K (R__law_draw A)) :=
  dok T.f__law_draw sc__law_draw len__law_draw (by decide) fun cdv Ar outer s H E hr => ⟨t__law_draw K A, tm__law_draw T  hr, w__law_draw T.tc⟩
theorem ok__law_due (T : Txt K mg A B)  : FnOk Pr w K mg base CX0 1 A.a__law_due B.d__law_due ["some"] (spD K (R__law_due A)) :=
  dok T.f__law_due sc__law_due len__law_due (by decide) fun cdv Ar outer s H E hr => ⟨t__law_due K A, tm__law_due T  hr, w__law_due T.tc⟩
theorem ok_is_count (T : Txt K mg A B) (G_is_integer : FnOk Pr w K mg base CX0 1 A.a_is_integer B.d_is_integer ["value"] (spD K (R_is_integer A))) : FnOk Pr w K mg base CX0 2 A.a_is_count B.d_is_count ["value"] (spD K (R_is_count A)) :=
  dok T.f_is_count sc_is_count len_is_count (by decide) fun cdv Ar outer s H E hr => ⟨t_is_count K A, tm_is_count T G_is_integer hr, w_is_count T.tc⟩
theorem ok__law_pick (T : Txt K mg A B) (G__law_draw : FnOk Pr w K mg base CX0 1 A.a__law_draw B.d__law_draw ["state", "size"] (spD K (R__law_draw A))) : FnOk Pr w K mg base CX0 2 A.a__law_pick B.d__law_pick ["m", "items"] (spD K (R__law_pick A)) :=
  dok T.f__law_pick sc__law_pick len__law_pick (by decide) fun cdv Ar outer s H E hr => ⟨t__law_pick K A, tm__law_pick T G__law_draw hr, w__law_pick T.tc⟩
theorem ok__law_ranges (T : Txt K mg A B) (G__law_draw : FnOk Pr w K mg base CX0 1 A.a__law_draw B.d__law_draw ["state", "size"] (spD K (R__law_draw A))) : FnOk Pr w K mg base CX0 2 A.a__law_ranges B.d__law_ranges ["m"] (spD K (R__law_ranges A)) :=
  dok T.f__law_ranges sc__law_ranges len__law_ranges (by decide) fun cdv Ar outer s H E hr => ⟨t__law_ranges K A, tm__law_ranges T G__law_draw hr, w__law_ranges T.tc⟩
theorem ok__law_mixed (T : Txt K mg A B) (G__law_draw : FnOk Pr w K mg base CX0 1 A.a__law_draw B.d__law_draw ["state", "size"] (spD K (R__law_draw A))) : FnOk Pr w K mg base CX0 2 A.a__law_mixed B.d__law_mixed ["m", "some"] (spD K (R__law_mixed A)) :=
  dok T.f__law_mixed sc__law_mixed len__law_mixed (by decide) fun cdv Ar outer s H E hr => ⟨t__law_mixed K A, tm__law_mixed T G__law_draw hr, w__law_mixed T.tc⟩
theorem ok_is_place (T : Txt K mg A B) (G_is_count : FnOk Pr w K mg base CX0 2 A.a_is_count B.d_is_count ["value"] (spD K (R_is_count A))) : FnOk Pr w K mg base CX0 3 A.a_is_place B.d_is_place ["value"] (spD K (R_is_place A)) :=
  dok T.f_is_place sc_is_place len_is_place (by decide) fun cdv Ar outer s H E hr => ⟨t_is_place K A, tm_is_place T G_is_count hr, w_is_place T.tc⟩
theorem ok_joined (T : Txt K mg A B) (G__later : FnOk Pr w K mg base CX0 1 A.a__later B.d__later ["one", "other"] (spD K (R__later A))) : FnOk Pr w K mg base CX0 4 A.a_joined B.d_joined ["ranges"] (spD K (R_joined A)) :=
  dok T.f_joined sc_joined len_joined (by decide) fun cdv Ar outer s H E hr => ⟨t_joined K A, tm_joined T G__later hr, w_joined T.tc⟩
theorem ok__is_range (T : Txt K mg A B) (G_is_count : FnOk Pr w K mg base CX0 2 A.a_is_count B.d_is_count ["value"] (spD K (R_is_count A))) (G_is_place : FnOk Pr w K mg base CX0 3 A.a_is_place B.d_is_place ["value"] (spD K (R_is_place A))) : FnOk Pr w K mg base CX0 4 A.a__is_range B.d__is_range ["value"] (spD K (R__is_range A)) :=
  dok T.f__is_range sc__is_range len__is_range (by decide) fun cdv Ar outer s H E hr => ⟨t__is_range K A, tm__is_range T G_is_count G_is_place hr, w__is_range T.tc⟩
theorem ok_joined_ranges (T : Txt K mg A B) (G_BadPlace_init : FnOk Pr w K mg base CX0 1 A.a_BadPlace_init B.d_BadPlace_init ["self", "given"] (spX1 A.c_BadPlace "given")) (G__is_range : FnOk Pr w K mg base CX0 4 A.a__is_range B.d__is_range ["value"] (spD K (R__is_range A))) (G_joined : FnOk Pr w K mg base CX0 4 A.a_joined B.d_joined ["ranges"] (spD K (R_joined A))) : FnOk Pr w K mg base (L2.CX Pr w) 5 A.a_joined_ranges B.d_joined_ranges ["ranges"] (spD K (R_joined_ranges A)) :=
  dokX T.f_joined_ranges sc_joined_ranges len_joined_ranges (by decide) fun cdv Ar outer s H E hr => ⟨t_joined_ranges K A E, tm_joined_ranges T G_BadPlace_init G__is_range G_joined hr, w_joined_ranges T.tc⟩
theorem ok_law (T : Txt K mg A B) (T' : TxtT K A) (TB : LamX.TabB base mg A.cd_law A.pt_law) (G__law_begin : FnOk Pr w K mg base CX0 1 A.a__law_begin B.d__law_begin ["script", "spot"] (spD K (R__law_begin A))) (G__law_due : FnOk Pr w K mg base CX0 1 A.a__law_due B.d__law_due ["some"] (spD K (R__law_due A))) (G__law_mixed : FnOk Pr w K mg base CX0 2 A.a__law_mixed B.d__law_mixed ["m", "some"] (spD K (R__law_mixed A))) (G__law_pick : FnOk Pr w K mg base CX0 2 A.a__law_pick B.d__law_pick ["m", "items"] (spD K (R__law_pick A))) (G__law_ranges : FnOk Pr w K mg base CX0 2 A.a__law_ranges B.d__law_ranges ["m"] (spD K (R__law_ranges A))) (G_joined_ranges : FnOk Pr w K mg base (L2.CX Pr w) 5 A.a_joined_ranges B.d_joined_ranges ["ranges"] (spD K (R_joined_ranges A))) : FnG Pr w K mg base CX0 15 A.a_law B.d_law ["script"] (spD K (R_law A)) :=
  dokG T.f_law sc_law len_law (by decide) fun cdv Ar outer s H E hcd hgu hr => by
    obtain rfl := T.hc_law.symm.trans hcd
    exact ⟨t_law K A, tm_law T TB G__law_begin G__law_due G__law_mixed G__law_pick G__law_ranges G_joined_ranges hgu hr, w_law T.tc T'⟩
theorem ok_all (T : Txt K mg A B) (T' : TxtT K A) (TB_law : LamX.TabB base mg A.cd_law A.pt_law) : FnG Pr w K mg base CX0 15 A.a_law B.d_law ["script"] (spD K (R_law A)) := by
  have h_BadPlace_init := ok_BadPlace_init (Pr := Pr) (w := w) (base := base) T 
  have h_is_integer := ok_is_integer (Pr := Pr) (w := w) (base := base) T 
  have h__line_and_first := ok__line_and_first (Pr := Pr) (w := w) (base := base) T 
  have h__later := ok__later (Pr := Pr) (w := w) (base := base) T 
  have h__law_begin := ok__law_begin (Pr := Pr) (w := w) (base := base) T 
  have h__law_draw := ok__law_draw (Pr := Pr) (w := w) (base := base) T 
  have h__law_due := ok__law_due (Pr := Pr) (w := w) (base := base) T 
  have h_is_count := ok_is_count (Pr := Pr) (w := w) (base := base) T h_is_integer
  have h__law_pick := ok__law_pick (Pr := Pr) (w := w) (base := base) T h__law_draw
  have h__law_ranges := ok__law_ranges (Pr := Pr) (w := w) (base := base) T h__law_draw
  have h__law_mixed := ok__law_mixed (Pr := Pr) (w := w) (base := base) T h__law_draw
  have h_is_place := ok_is_place (Pr := Pr) (w := w) (base := base) T h_is_count
  have h_joined := ok_joined (Pr := Pr) (w := w) (base := base) T h__later
  have h__is_range := ok__is_range (Pr := Pr) (w := w) (base := base) T h_is_count h_is_place
  have h_joined_ranges := ok_joined_ranges (Pr := Pr) (w := w) (base := base) T h_BadPlace_init h__is_range h_joined
  have h_law := ok_law (Pr := Pr) (w := w) (base := base) T T' TB_law h__law_begin h__law_due h__law_mixed h__law_pick h__law_ranges h_joined_ranges
  exact h_law
end
theorem all_mk {l : PySem.W.OpenLaw} {w : World} {K : PySem.W.Frag} {h : Heap} {mg : Str → Option Value} {fa : Addr} (X : K.In h) (G : h.Ns mainGlobals mg) (hfa : mg "law" = some (.ref fa))
    {c_BadPlace c_MapError a_BadPlace_init a_is_integer a__line_and_first a__later a__law_begin a__law_draw a__law_due a__law_told a_is_count a__law_pick a__law_ranges a__law_mixed a_is_place a_joined a__is_range a_joined_ranges a_law cd_law pt_law : Addr}
    {od0 an0 : Option Addr} {sl0 : Array (Option Value)} {oc0 kV0 dc0 pm0 cd0 ct0 : Value}
    {od1 an1 : Option Addr} {sl1 : Array (Option Value)} {oc1 kV1 dc1 pm1 cd1 ct1 : Value}
    {od2 an2 : Option Addr} {sl2 : Array (Option Value)} {oc2 kV2 dc2 pm2 cd2 ct2 : Value}
    {od3 an3 : Option Addr} {sl3 : Array (Option Value)} {oc3 kV3 dc3 pm3 cd3 ct3 : Value}
    {od4 an4 : Option Addr} {sl4 : Array (Option Value)} {oc4 kV4 dc4 pm4 cd4 ct4 : Value}
    {od5 an5 : Option Addr} {sl5 : Array (Option Value)} {oc5 kV5 dc5 pm5 cd5 ct5 : Value}
    {od6 an6 : Option Addr} {sl6 : Array (Option Value)} {oc6 kV6 dc6 pm6 cd6 ct6 : Value}
    {od7 an7 : Option Addr} {sl7 : Array (Option Value)} {oc7 kV7 dc7 pm7 cd7 ct7 : Value}
    {od8 an8 : Option Addr} {sl8 : Array (Option Value)} {oc8 kV8 dc8 pm8 cd8 ct8 : Value}
    {od9 an9 : Option Addr} {sl9 : Array (Option Value)} {oc9 kV9 dc9 pm9 cd9 ct9 : Value}
    {od10 an10 : Option Addr} {sl10 : Array (Option Value)} {oc10 kV10 dc10 pm10 cd10 ct10 : Value}
    {od11 an11 : Option Addr} {sl11 : Array (Option Value)} {oc11 kV11 dc11 pm11 cd11 ct11 : Value}
    {od12 an12 : Option Addr} {sl12 : Array (Option Value)} {oc12 kV12 dc12 pm12 cd12 ct12 : Value}
    {od13 an13 : Option Addr} {sl13 : Array (Option Value)} {oc13 kV13 dc13 pm13 cd13 ct13 : Value}
    {od14 an14 : Option Addr} {sl14 : Array (Option Value)} {oc14 kV14 dc14 pm14 cd14 ct14 : Value}
    {od15 an15 : Option Addr} {sl15 : Array (Option Value)} {oc15 kV15 dc15 pm15 cd15 ct15 : Value}
    {od16 an16 : Option Addr} {sl16 : Array (Option Value)} {oc16 kV16 dc16 pm16 ct16 : Value}
    {ld_law : Option Addr} {lv_law : Array Value} {ls_law : Array (Option Value)}
    (zg__is_range : PySem.W.nsIn K mainGlobals "_is_range" = some (some (.ref a__is_range)))
    (zg__later : PySem.W.nsIn K mainGlobals "_later" = some (some (.ref a__later)))
    (zg__law_begin : PySem.W.nsIn K mainGlobals "_law_begin" = some (some (.ref a__law_begin)))
    (zg__law_draw : PySem.W.nsIn K mainGlobals "_law_draw" = some (some (.ref a__law_draw)))
    (zg__law_due : PySem.W.nsIn K mainGlobals "_law_due" = some (some (.ref a__law_due)))
    (zg__law_mixed : PySem.W.nsIn K mainGlobals "_law_mixed" = some (some (.ref a__law_mixed)))
    (zg__law_pick : PySem.W.nsIn K mainGlobals "_law_pick" = some (some (.ref a__law_pick)))
    (zg__law_ranges : PySem.W.nsIn K mainGlobals "_law_ranges" = some (some (.ref a__law_ranges)))
    (zg__law_told : PySem.W.nsIn K mainGlobals "_law_told" = some (some (.ref a__law_told)))
    (zg__line_and_first : PySem.W.nsIn K mainGlobals "_line_and_first" = some (some (.ref a__line_and_first)))
    (zg_is_count : PySem.W.nsIn K mainGlobals "is_count" = some (some (.ref a_is_count)))
    (zg_is_integer : PySem.W.nsIn K mainGlobals "is_integer" = some (some (.ref a_is_integer)))
    (zg_is_place : PySem.W.nsIn K mainGlobals "is_place" = some (some (.ref a_is_place)))
    (zg_joined : PySem.W.nsIn K mainGlobals "joined" = some (some (.ref a_joined)))
    (zg_joined_ranges : PySem.W.nsIn K mainGlobals "joined_ranges" = some (some (.ref a_joined_ranges)))
    (zc_BadPlace : PySem.W.nsIn K mainGlobals "BadPlace" = some (some (.ref c_BadPlace)))
    (zc_MapError : PySem.W.nsIn K mainGlobals "MapError" = some (some (.ref c_MapError)))
    (zn_bool : PySem.W.nsIn K mainGlobals "bool" = some none)
    (zn_int : PySem.W.nsIn K mainGlobals "int" = some none)
    (zn_isinstance : PySem.W.nsIn K mainGlobals "isinstance" = some none)
    (zn_len : PySem.W.nsIn K mainGlobals "len" = some none)
    (zn_list : PySem.W.nsIn K mainGlobals "list" = some none)
    (zn_max : PySem.W.nsIn K mainGlobals "max" = some none)
    (zn_min : PySem.W.nsIn K mainGlobals "min" = some none)
    (zn_range : PySem.W.nsIn K mainGlobals "range" = some none)
    (zn_repr : PySem.W.nsIn K mainGlobals "repr" = some none)
    (zn_sorted : PySem.W.nsIn K mainGlobals "sorted" = some none)
    (zn_tuple : PySem.W.nsIn K mainGlobals "tuple" = some none)
    (zxi_BadPlace : PySem.W.findIn K (.ref c_BadPlace) "__init__" = some (some (.ref a_BadPlace_init)))
    (zxt_BadPlace : PySem.W.typeIn K (.ref a_BadPlace_init) = some (.type "function"))
    (zg_law : PySem.W.nsIn K mainGlobals "law" = some (some (.ref a_law)))
    (zob_BadPlace : oexB K c_BadPlace [.type "ValueError", .type "Exception", .type "BaseException", .type "object"] "ValueError.__new__" = true)
    (zos_BadPlace : PySem.W.findIn K (.ref c_BadPlace) "__setattr__" = some (some (.builtin "object.__setattr__")))
    (zot_BadPlace : PySem.W.typeIn K (.ref c_BadPlace) = some (.type "type"))
    (zok_BadPlace : PySem.W.keepIn K (.ref c_BadPlace) = true)
    (zog_BadPlace : PySem.W.findIn K (.ref c_BadPlace) "__getattribute__" = some (some (.builtin "BaseException.__getattribute__")))
    (zoh_BadPlace : PySem.W.findIn K (.ref c_BadPlace) "__getattr__" = some none)
    (zox_BadPlace : PySem.W.subIn K (.ref c_BadPlace) (.type "BaseException") = some true)
    (zod_BadPlace : PySem.W.hasDictIn K c_BadPlace = true)
    (zoc_BadPlace : PySem.W.findIn K (.ref c_BadPlace) "__class__" = some (some (.builtin "object.__class__")))
    (zon_BadPlace : PySem.W.specialIn K (.builtin "object.__class__") "__get__" = some (some (.builtin "getset_descriptor.__get__")))
    (zop_BadPlace : PySem.W.takesIn K (.builtin "object.__class__") = some true)
    (zom_BadPlace : PySem.W.mroIn K c_BadPlace (.type "object") = some true)
    (yna_BadPlace_given : PySem.W.findIn K (.ref c_BadPlace) "given" = some none)
    (yxm_BadPlace__law_told : PySem.W.exmAny K (.ref c_BadPlace) [.ref c_BadPlace] = some true)
    (yki_BadPlace_MapError : PySem.W.kitOne K (.ref c_BadPlace) (.ref c_MapError) = some true)
    (zl_BadPlace_init : K.lookup a_BadPlace_init = some ⟨oc0, od0, .func (PySem.W.fnOf "__init__" "BadPlace.__init__" (defArgs s_BadPlace_init) (defBody s_BadPlace_init) (defScope s_BadPlace_init) .none kV0 dc0 pm0 an0 cd0 ct0), sl0⟩)
    (zd_BadPlace_init : PySem.W.codeIn K cd0 "BadPlace.__init__" = true)
    (ze_BadPlace_init : PySem.W.keepIn K (.ref a_BadPlace_init) = true)
    (zl_is_integer : K.lookup a_is_integer = some ⟨oc1, od1, .func (PySem.W.fnOf "is_integer" "is_integer" (defArgs s_is_integer) (defBody s_is_integer) (defScope s_is_integer) .none kV1 dc1 pm1 an1 cd1 ct1), sl1⟩)
    (zd_is_integer : PySem.W.codeIn K cd1 "is_integer" = true)
    (ze_is_integer : PySem.W.keepIn K (.ref a_is_integer) = true)
    (zl__line_and_first : K.lookup a__line_and_first = some ⟨oc2, od2, .func (PySem.W.fnOf "_line_and_first" "_line_and_first" (defArgs s__line_and_first) (defBody s__line_and_first) (defScope s__line_and_first) .none kV2 dc2 pm2 an2 cd2 ct2), sl2⟩)
    (zd__line_and_first : PySem.W.codeIn K cd2 "_line_and_first" = true)
    (ze__line_and_first : PySem.W.keepIn K (.ref a__line_and_first) = true)
    (zl__later : K.lookup a__later = some ⟨oc3, od3, .func (PySem.W.fnOf "_later" "_later" (defArgs s__later) (defBody s__later) (defScope s__later) .none kV3 dc3 pm3 an3 cd3 ct3), sl3⟩)
    (zd__later : PySem.W.codeIn K cd3 "_later" = true)
    (ze__later : PySem.W.keepIn K (.ref a__later) = true)
    (zl__law_begin : K.lookup a__law_begin = some ⟨oc4, od4, .func (PySem.W.fnOf "_law_begin" "_law_begin" (defArgs s__law_begin) (defBody s__law_begin) (defScope s__law_begin) .none kV4 dc4 pm4 an4 cd4 ct4), sl4⟩)
    (zd__law_begin : PySem.W.codeIn K cd4 "_law_begin" = true)
    (ze__law_begin : PySem.W.keepIn K (.ref a__law_begin) = true)
    (zl__law_draw : K.lookup a__law_draw = some ⟨oc5, od5, .func (PySem.W.fnOf "_law_draw" "_law_draw" (defArgs s__law_draw) (defBody s__law_draw) (defScope s__law_draw) .none kV5 dc5 pm5 an5 cd5 ct5), sl5⟩)
    (zd__law_draw : PySem.W.codeIn K cd5 "_law_draw" = true)
    (ze__law_draw : PySem.W.keepIn K (.ref a__law_draw) = true)
    (zl__law_due : K.lookup a__law_due = some ⟨oc6, od6, .func (PySem.W.fnOf "_law_due" "_law_due" (defArgs s__law_due) (defBody s__law_due) (defScope s__law_due) .none kV6 dc6 pm6 an6 cd6 ct6), sl6⟩)
    (zd__law_due : PySem.W.codeIn K cd6 "_law_due" = true)
    (ze__law_due : PySem.W.keepIn K (.ref a__law_due) = true)
    (zl__law_told : K.lookup a__law_told = some ⟨oc7, od7, .func (PySem.W.fnOf "_law_told" "_law_told" (defArgs s__law_told) (defBody s__law_told) (defScope s__law_told) .none kV7 dc7 pm7 an7 cd7 ct7), sl7⟩)
    (zd__law_told : PySem.W.codeIn K cd7 "_law_told" = true)
    (ze__law_told : PySem.W.keepIn K (.ref a__law_told) = true)
    (zl_is_count : K.lookup a_is_count = some ⟨oc8, od8, .func (PySem.W.fnOf "is_count" "is_count" (defArgs s_is_count) (defBody s_is_count) (defScope s_is_count) .none kV8 dc8 pm8 an8 cd8 ct8), sl8⟩)
    (zd_is_count : PySem.W.codeIn K cd8 "is_count" = true)
    (ze_is_count : PySem.W.keepIn K (.ref a_is_count) = true)
    (zl__law_pick : K.lookup a__law_pick = some ⟨oc9, od9, .func (PySem.W.fnOf "_law_pick" "_law_pick" (defArgs s__law_pick) (defBody s__law_pick) (defScope s__law_pick) .none kV9 dc9 pm9 an9 cd9 ct9), sl9⟩)
    (zd__law_pick : PySem.W.codeIn K cd9 "_law_pick" = true)
    (ze__law_pick : PySem.W.keepIn K (.ref a__law_pick) = true)
    (zl__law_ranges : K.lookup a__law_ranges = some ⟨oc10, od10, .func (PySem.W.fnOf "_law_ranges" "_law_ranges" (defArgs s__law_ranges) (defBody s__law_ranges) (defScope s__law_ranges) .none kV10 dc10 pm10 an10 cd10 ct10), sl10⟩)
    (zd__law_ranges : PySem.W.codeIn K cd10 "_law_ranges" = true)
    (ze__law_ranges : PySem.W.keepIn K (.ref a__law_ranges) = true)
    (zl__law_mixed : K.lookup a__law_mixed = some ⟨oc11, od11, .func (PySem.W.fnOf "_law_mixed" "_law_mixed" (defArgs s__law_mixed) (defBody s__law_mixed) (defScope s__law_mixed) .none kV11 dc11 pm11 an11 cd11 ct11), sl11⟩)
    (zd__law_mixed : PySem.W.codeIn K cd11 "_law_mixed" = true)
    (ze__law_mixed : PySem.W.keepIn K (.ref a__law_mixed) = true)
    (zl_is_place : K.lookup a_is_place = some ⟨oc12, od12, .func (PySem.W.fnOf "is_place" "is_place" (defArgs s_is_place) (defBody s_is_place) (defScope s_is_place) .none kV12 dc12 pm12 an12 cd12 ct12), sl12⟩)
    (zd_is_place : PySem.W.codeIn K cd12 "is_place" = true)
    (ze_is_place : PySem.W.keepIn K (.ref a_is_place) = true)
    (zl_joined : K.lookup a_joined = some ⟨oc13, od13, .func (PySem.W.fnOf "joined" "joined" (defArgs s_joined) (defBody s_joined) (defScope s_joined) .none kV13 dc13 pm13 an13 cd13 ct13), sl13⟩)
    (zd_joined : PySem.W.codeIn K cd13 "joined" = true)
    (ze_joined : PySem.W.keepIn K (.ref a_joined) = true)
    (zl__is_range : K.lookup a__is_range = some ⟨oc14, od14, .func (PySem.W.fnOf "_is_range" "_is_range" (defArgs s__is_range) (defBody s__is_range) (defScope s__is_range) .none kV14 dc14 pm14 an14 cd14 ct14), sl14⟩)
    (zd__is_range : PySem.W.codeIn K cd14 "_is_range" = true)
    (ze__is_range : PySem.W.keepIn K (.ref a__is_range) = true)
    (zl_joined_ranges : K.lookup a_joined_ranges = some ⟨oc15, od15, .func (PySem.W.fnOf "joined_ranges" "joined_ranges" (defArgs s_joined_ranges) (defBody s_joined_ranges) (defScope s_joined_ranges) .none kV15 dc15 pm15 an15 cd15 ct15), sl15⟩)
    (zd_joined_ranges : PySem.W.codeIn K cd15 "joined_ranges" = true)
    (ze_joined_ranges : PySem.W.keepIn K (.ref a_joined_ranges) = true)
    (zl_law : K.lookup a_law = some ⟨oc16, od16, .func (PySem.W.fnOf "law" "law" (defArgs s_law) (defBody s_law) (defScope s_law) .none kV16 dc16 pm16 an16 (.ref cd_law) ct16), sl16⟩)
    (zd_law : PySem.W.codeIn K (.ref cd_law) "law" = true)
    (ze_law : PySem.W.keepIn K (.ref a_law) = true)
    (zlc_law : K.lookup cd_law = some ⟨.type "code", ld_law, .fields lv_law, ls_law⟩)
    (zlp_law : lv_law[11]? = some (.ref pt_law))
    (zlh_law : PySem.W.codeHdIn K cd_law pt_law = true)
    (zln_law : K.lookup pt_law = none)
    (zdn : [pt_law].Nodup)
    (tz_law : h.get? pt_law = some { cls := .none, data := .fields #[] }) :
    LamX.LawAtG l w K CX0 15 63 "script" mg fa h := by
  have e := hfa.symm.trans (PySem.W.mg_of X G zg_law)
  cases e
  have F_BadPlace_init := fun_mk (st := s_BadPlace_init) zl_BadPlace_init zd_BadPlace_init ze_BadPlace_init
  have B_BadPlace_init := F_BadPlace_init.binds (ps := ["self", "given"]) fun _ _ _ _ _ _ us hl => match us, hl with | [_, _], _ => rfl
  have F_is_integer := fun_mk (st := s_is_integer) zl_is_integer zd_is_integer ze_is_integer
  have B_is_integer := F_is_integer.binds (ps := ["value"]) fun _ _ _ _ _ _ us hl => match us, hl with | [_], _ => rfl
  have F__line_and_first := fun_mk (st := s__line_and_first) zl__line_and_first zd__line_and_first ze__line_and_first
  have B__line_and_first := F__line_and_first.binds (ps := ["columns"]) fun _ _ _ _ _ _ us hl => match us, hl with | [_], _ => rfl
  have F__later := fun_mk (st := s__later) zl__later zd__later ze__later
  have B__later := F__later.binds (ps := ["one", "other"]) fun _ _ _ _ _ _ us hl => match us, hl with | [_, _], _ => rfl
  have F__law_begin := fun_mk (st := s__law_begin) zl__law_begin zd__law_begin ze__law_begin
  have B__law_begin := F__law_begin.binds (ps := ["script", "spot"]) fun _ _ _ _ _ _ us hl => match us, hl with | [_, _], _ => rfl
  have F__law_draw := fun_mk (st := s__law_draw) zl__law_draw zd__law_draw ze__law_draw
  have B__law_draw := F__law_draw.binds (ps := ["state", "size"]) fun _ _ _ _ _ _ us hl => match us, hl with | [_, _], _ => rfl
  have F__law_due := fun_mk (st := s__law_due) zl__law_due zd__law_due ze__law_due
  have B__law_due := F__law_due.binds (ps := ["some"]) fun _ _ _ _ _ _ us hl => match us, hl with | [_], _ => rfl
  have F__law_told := fun_mk (st := s__law_told) zl__law_told zd__law_told ze__law_told
  have B__law_told := F__law_told.binds (ps := ["call"]) fun _ _ _ _ _ _ us hl => match us, hl with | [_], _ => rfl
  have F_is_count := fun_mk (st := s_is_count) zl_is_count zd_is_count ze_is_count
  have B_is_count := F_is_count.binds (ps := ["value"]) fun _ _ _ _ _ _ us hl => match us, hl with | [_], _ => rfl
  have F__law_pick := fun_mk (st := s__law_pick) zl__law_pick zd__law_pick ze__law_pick
  have B__law_pick := F__law_pick.binds (ps := ["m", "items"]) fun _ _ _ _ _ _ us hl => match us, hl with | [_, _], _ => rfl
  have F__law_ranges := fun_mk (st := s__law_ranges) zl__law_ranges zd__law_ranges ze__law_ranges
  have B__law_ranges := F__law_ranges.binds (ps := ["m"]) fun _ _ _ _ _ _ us hl => match us, hl with | [_], _ => rfl
  have F__law_mixed := fun_mk (st := s__law_mixed) zl__law_mixed zd__law_mixed ze__law_mixed
  have B__law_mixed := F__law_mixed.binds (ps := ["m", "some"]) fun _ _ _ _ _ _ us hl => match us, hl with | [_, _], _ => rfl
  have F_is_place := fun_mk (st := s_is_place) zl_is_place zd_is_place ze_is_place
  have B_is_place := F_is_place.binds (ps := ["value"]) fun _ _ _ _ _ _ us hl => match us, hl with | [_], _ => rfl
  have F_joined := fun_mk (st := s_joined) zl_joined zd_joined ze_joined
  have B_joined := F_joined.binds (ps := ["ranges"]) fun _ _ _ _ _ _ us hl => match us, hl with | [_], _ => rfl
  have F__is_range := fun_mk (st := s__is_range) zl__is_range zd__is_range ze__is_range
  have B__is_range := F__is_range.binds (ps := ["value"]) fun _ _ _ _ _ _ us hl => match us, hl with | [_], _ => rfl
  have F_joined_ranges := fun_mk (st := s_joined_ranges) zl_joined_ranges zd_joined_ranges ze_joined_ranges
  have B_joined_ranges := F_joined_ranges.binds (ps := ["ranges"]) fun _ _ _ _ _ _ us hl => match us, hl with | [_], _ => rfl
  have F_law := fun_mk (st := s_law) zl_law zd_law ze_law
  have B_law := F_law.binds (ps := ["script"]) fun _ _ _ _ _ _ us hl => match us, hl with | [_], _ => rfl
  have KB_joined_ranges_ranges := F_joined_ranges.kbn (ps := ["ranges"]) (ks := ["ranges"]) (n := 0) [0] fun _ _ _ _ _ _ us ws h1 h2 => match us, ws, h1, h2 with | [], [_], _, _ => rfl
  letI : Tb K := ⟨[(pt_law, q_law)]⟩
  have T : Txt K mg ⟨c_BadPlace, c_MapError, a_BadPlace_init, a_is_integer, a__line_and_first, a__later, a__law_begin, a__law_draw, a__law_due, a__law_told, a_is_count, a__law_pick, a__law_ranges, a__law_mixed, a_is_place, a_joined, a__is_range, a_joined_ranges, fa, cd_law, pt_law⟩ ⟨_, _, _, _, _, _, _, _, _, _, _, _, _, _, _, _, _⟩ := {
    f_BadPlace_init := F_BadPlace_init,
    b_BadPlace_init := B_BadPlace_init,
    f_is_integer := F_is_integer,
    b_is_integer := B_is_integer,
    f__line_and_first := F__line_and_first,
    b__line_and_first := B__line_and_first,
    f__later := F__later,
    b__later := B__later,
    f__law_begin := F__law_begin,
    b__law_begin := B__law_begin,
    f__law_draw := F__law_draw,
    b__law_draw := B__law_draw,
    f__law_due := F__law_due,
    b__law_due := B__law_due,
    f__law_told := F__law_told,
    b__law_told := B__law_told,
    f_is_count := F_is_count,
    b_is_count := B_is_count,
    f__law_pick := F__law_pick,
    b__law_pick := B__law_pick,
    f__law_ranges := F__law_ranges,
    b__law_ranges := B__law_ranges,
    f__law_mixed := F__law_mixed,
    b__law_mixed := B__law_mixed,
    f_is_place := F_is_place,
    b_is_place := B_is_place,
    f_joined := F_joined,
    b_joined := B_joined,
    f__is_range := F__is_range,
    b__is_range := B__is_range,
    f_joined_ranges := F_joined_ranges,
    b_joined_ranges := B_joined_ranges,
    f_law := F_law,
    b_law := B_law,
    hc_law := rfl,
    kb_joined_ranges_ranges := KB_joined_ranges_ranges,
    g__is_range := PySem.W.mg_of X G zg__is_range,
    g__later := PySem.W.mg_of X G zg__later,
    g__law_begin := PySem.W.mg_of X G zg__law_begin,
    g__law_draw := PySem.W.mg_of X G zg__law_draw,
    g__law_due := PySem.W.mg_of X G zg__law_due,
    g__law_mixed := PySem.W.mg_of X G zg__law_mixed,
    g__law_pick := PySem.W.mg_of X G zg__law_pick,
    g__law_ranges := PySem.W.mg_of X G zg__law_ranges,
    g__law_told := PySem.W.mg_of X G zg__law_told,
    g__line_and_first := PySem.W.mg_of X G zg__line_and_first,
    g_is_count := PySem.W.mg_of X G zg_is_count,
    g_is_integer := PySem.W.mg_of X G zg_is_integer,
    g_is_place := PySem.W.mg_of X G zg_is_place,
    g_joined := PySem.W.mg_of X G zg_joined,
    g_joined_ranges := PySem.W.mg_of X G zg_joined_ranges,
    gc_BadPlace := PySem.W.mg_of X G zc_BadPlace,
    gc_MapError := PySem.W.mg_of X G zc_MapError,
    n_bool := PySem.W.mg_none_of X G zn_bool,
    n_int := PySem.W.mg_none_of X G zn_int,
    n_isinstance := PySem.W.mg_none_of X G zn_isinstance,
    n_len := PySem.W.mg_none_of X G zn_len,
    n_list := PySem.W.mg_none_of X G zn_list,
    n_max := PySem.W.mg_none_of X G zn_max,
    n_min := PySem.W.mg_none_of X G zn_min,
    n_range := PySem.W.mg_none_of X G zn_range,
    n_repr := PySem.W.mg_none_of X G zn_repr,
    n_sorted := PySem.W.mg_none_of X G zn_sorted,
    n_tuple := PySem.W.mg_none_of X G zn_tuple,
    ii_BadPlace := zxi_BadPlace,
    ti_BadPlace := zxt_BadPlace,
    tc := { ox_BadPlace := ⟨oexB_ok zob_BadPlace, zos_BadPlace, zot_BadPlace, zok_BadPlace, zog_BadPlace, zoh_BadPlace, zox_BadPlace, zod_BadPlace, zoc_BadPlace, zon_BadPlace, zop_BadPlace, zom_BadPlace⟩, na_BadPlace_given := yna_BadPlace_given, xm_BadPlace__law_told := yxm_BadPlace__law_told, ki_BadPlace_MapError := yki_BadPlace_MapError } }
  have T' : TxtT K ⟨c_BadPlace, c_MapError, a_BadPlace_init, a_is_integer, a__line_and_first, a__later, a__law_begin, a__law_draw, a__law_due, a__law_told, a_is_count, a__law_pick, a__law_ranges, a__law_mixed, a_is_place, a_joined, a__is_range, a_joined_ranges, fa, cd_law, pt_law⟩ := { tb_law := (show (pt_law, q_law) ∈ [(pt_law, q_law)] by simp) }
  have m1 : ∀ p ∈ [(cd_law, pt_law)], h.get? p.2 = some { cls := .none, data := .fields #[] } := fun p hp => by
    simp only [List.mem_cons, List.not_mem_nil, or_false] at hp
    rcases hp with rfl
    · exact tz_law
  have m2 : ∀ p ∈ [(cd_law, pt_law)], K.lookup p.2 = none := fun p hp => by
    simp only [List.mem_cons, List.not_mem_nil, or_false] at hp
    rcases hp with rfl
    · exact zln_law
  have m3 : ∀ p ∈ [(cd_law, pt_law)], PySem.W.CodeHd h p.1 p.2 := fun p hp => by
    simp only [List.mem_cons, List.not_mem_nil, or_false] at hp
    rcases hp with rfl
    · exact PySem.W.codeHd_of_K X zlh_law
  refine ⟨_, [(cd_law, pt_law)], spL K, fun p hp => ⟨m1 p hp, m2 p hp, m3 p hp⟩, fun s v => .of_eq rfl, fun H a ns hl hT hS => law_start hl hS (tb := [(pt_law, q_law)]) rfl zdn ?_, fun base _ _ hTB => ok_all T T' (hTB (cd_law, pt_law) (by simp))⟩
  intro p hp
  simp only [List.mem_cons, List.not_mem_nil, or_false] at hp
  rcases hp with rfl
  · exact hT (cd_law, pt_law) (by simp)
end Lw
open PySem PySem.W PyProof.Rows in
set_option maxRecDepth 100000 in
set_option maxHeartbeats 0 in
theorem PySem.Challenge.cw_mapstack_k52_joined_ranges_holds : PySem.Challenge.rw_mapstack_k52_joined_ranges.Holds := by
  refine Lw.hd ?_
  k_fill
  refine LamX.walkG (l := PySem.Challenge.rw_mapstack_k52_joined_ranges) (n := 63) (k := 15) (x := "script") (CX := fun _ => L2.CX0) rfl (by decide) rfl ⟨rfl, by decide, by decide⟩ (fun w h Y => PySem.W.km_in_of Y) ?F fun _ _ _ _ _ z => z
  case F =>
    intro w mg fa h Y KX G hmg
    have TS := PySem.W.km_tabs_of Y
    refine' Lw.all_mk KX G hmg ?zg__is_range ?zg__later ?zg__law_begin ?zg__law_draw ?zg__law_due ?zg__law_mixed ?zg__law_pick ?zg__law_ranges ?zg__law_told ?zg__line_and_first ?zg_is_count ?zg_is_integer ?zg_is_place ?zg_joined ?zg_joined_ranges ?zc_BadPlace ?zc_MapError ?zn_bool ?zn_int ?zn_isinstance ?zn_len ?zn_list ?zn_max ?zn_min ?zn_range ?zn_repr ?zn_sorted ?zn_tuple ?zxi_BadPlace ?zxt_BadPlace ?zg_law ?zob_BadPlace ?zos_BadPlace ?zot_BadPlace ?zok_BadPlace ?zog_BadPlace ?zoh_BadPlace ?zox_BadPlace ?zod_BadPlace ?zoc_BadPlace ?zon_BadPlace ?zop_BadPlace ?zom_BadPlace ?yna_BadPlace_given ?yxm_BadPlace__law_told ?yki_BadPlace_MapError ?zl_BadPlace_init ?zd_BadPlace_init ?ze_BadPlace_init ?zl_is_integer ?zd_is_integer ?ze_is_integer ?zl__line_and_first ?zd__line_and_first ?ze__line_and_first ?zl__later ?zd__later ?ze__later ?zl__law_begin ?zd__law_begin ?ze__law_begin ?zl__law_draw ?zd__law_draw ?ze__law_draw ?zl__law_due ?zd__law_due ?ze__law_due ?zl__law_told ?zd__law_told ?ze__law_told ?zl_is_count ?zd_is_count ?ze_is_count ?zl__law_pick ?zd__law_pick ?ze__law_pick ?zl__law_ranges ?zd__law_ranges ?ze__law_ranges ?zl__law_mixed ?zd__law_mixed ?ze__law_mixed ?zl_is_place ?zd_is_place ?ze_is_place ?zl_joined ?zd_joined ?ze_joined ?zl__is_range ?zd__is_range ?ze__is_range ?zl_joined_ranges ?zd_joined_ranges ?ze_joined_ranges ?zl_law ?zd_law ?ze_law ?zlc_law ?zlp_law ?zlh_law ?zln_law ?zdn ?tz_law
    (case zg__is_range => k_is)
    (case zg__later => k_is)
    (case zg__law_begin => k_is)
    (case zg__law_draw => k_is)
    (case zg__law_due => k_is)
    (case zg__law_mixed => k_is)
    (case zg__law_pick => k_is)
    (case zg__law_ranges => k_is)
    (case zg__law_told => k_is)
    (case zg__line_and_first => k_is)
    (case zg_is_count => k_is)
    (case zg_is_integer => k_is)
    (case zg_is_place => k_is)
    (case zg_joined => k_is)
    (case zg_joined_ranges => k_is)
    (case zc_BadPlace => k_is)
    (case zc_MapError => k_is)
    (case zn_bool => k_is)
    (case zn_int => k_is)
    (case zn_isinstance => k_is)
    (case zn_len => k_is)
    (case zn_list => k_is)
    (case zn_max => k_is)
    (case zn_min => k_is)
    (case zn_range => k_is)
    (case zn_repr => k_is)
    (case zn_sorted => k_is)
    (case zn_tuple => k_is)
    (case zg_law => k_is)
    (case zxi_BadPlace => k_is)
    (case zl_BadPlace_init => k_is)
    (case zl_is_integer => k_is)
    (case zl__line_and_first => k_is)
    (case zl__later => k_is)
    (case zl__law_begin => k_is)
    (case zl__law_draw => k_is)
    (case zl__law_due => k_is)
    (case zl__law_told => k_is)
    (case zl_is_count => k_is)
    (case zl__law_pick => k_is)
    (case zl__law_ranges => k_is)
    (case zl__law_mixed => k_is)
    (case zl_is_place => k_is)
    (case zl_joined => k_is)
    (case zl__is_range => k_is)
    (case zl_joined_ranges => k_is)
    (case zl_law => k_is)
    (case zlc_law => k_is)
    (case zlp_law => exact rfl)
    (case zxt_BadPlace => k_is)
    (case zob_BadPlace => kernel_rfl)
    (case zos_BadPlace => k_is)
    (case zot_BadPlace => k_is)
    (case zok_BadPlace => k_is)
    (case zog_BadPlace => k_is)
    (case zoh_BadPlace => k_is)
    (case zox_BadPlace => k_is)
    (case zod_BadPlace => k_is)
    (case zoc_BadPlace => k_is)
    (case zon_BadPlace => k_is)
    (case zop_BadPlace => k_is)
    (case zom_BadPlace => k_is)
    (case yna_BadPlace_given => k_is)
    (case yxm_BadPlace__law_told => kernel_rfl)
    (case yki_BadPlace_MapError => kernel_rfl)
    (case zd_BadPlace_init => k_is)
    (case ze_BadPlace_init => k_is)
    (case zd_is_integer => k_is)
    (case ze_is_integer => k_is)
    (case zd__line_and_first => k_is)
    (case ze__line_and_first => k_is)
    (case zd__later => k_is)
    (case ze__later => k_is)
    (case zd__law_begin => k_is)
    (case ze__law_begin => k_is)
    (case zd__law_draw => k_is)
    (case ze__law_draw => k_is)
    (case zd__law_due => k_is)
    (case ze__law_due => k_is)
    (case zd__law_told => k_is)
    (case ze__law_told => k_is)
    (case zd_is_count => k_is)
    (case ze_is_count => k_is)
    (case zd__law_pick => k_is)
    (case ze__law_pick => k_is)
    (case zd__law_ranges => k_is)
    (case ze__law_ranges => k_is)
    (case zd__law_mixed => k_is)
    (case ze__law_mixed => k_is)
    (case zd_is_place => k_is)
    (case ze_is_place => k_is)
    (case zd_joined => k_is)
    (case ze_joined => k_is)
    (case zd__is_range => k_is)
    (case ze__is_range => k_is)
    (case zd_joined_ranges => k_is)
    (case ze_joined_ranges => k_is)
    (case zd_law => k_is)
    (case ze_law => k_is)
    (case zlh_law => kernel_rfl)
    (case zln_law => kernel_rfl)
    (case zdn => decide)
    (case tz_law => exact TS _ (by decide))
