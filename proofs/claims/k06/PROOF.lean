import PyProof.Rows.All
import Wide.All
import OpenK.AllK
import Wide.FinOn
import HandS.ForMost
import HandS.Evl
import HandS.Walk
import HandS.IsInst
import HandS.Flow
import HandS.TupLe
import HandS.TupAny
import HandS.Property
import HandS.StrMore
import HandS.Conv
import HandS.Star
import HandS.Style
import HandS.Steps
import PyProof.Rows.SeqMore
import KE.DataEq
import KE.DataCmp
import KE.DatumOrd
import KE.DataMinMax
import PySem.Challenge.RW_mapstack_k06_whole_there_and_back
set_option Elab.async false
set_option linter.all false
set_option maxRecDepth 100000
set_option maxHeartbeats 2000000
/-! A calculus over data: what a reading gives, told by plain data; the heap stays out of sight.
    Streams: objects of the law's own that draws change; all that is told of them is SO. -/
namespace DL
open PySem L2
abbrev Ex := Evl.Ex
/-- data: what a value stands for; the last three are things that a def is still making (they stand in a slot alone) -/
inductive D where
  | non | bl (b : Bool) | int (i : Int) | str (x : Str)
  | lst (xs : List D) | tup (xs : List D)
  | obj (C : Addr) (fs : List (Str × D))
  | dct (kvs : List (Key × D))
  | ty (n : String) | cls (a : Addr)
  | strm (a : Addr)
  | mls (xs : List D) | mob (a dx C : Addr) (fs : List (Str × D)) | mdk (kvs : List (Key × D))
/-- what is known: the streams and a bound of their counters; what is settled, all that is tracked -/
structure Wd where
  S : Addr → Prop
  n : Nat
  H0 : Hp
  H1 : Hp
mutual
inductive Den (K : PySem.W.Frag) (u : Wd) : V → D → Prop
  | non : Den K u .non .non
  | bl (b : Bool) : Den K u (.bl b) (.bl b)
  | int (i : Int) : Den K u (.int i) (.int i)
  | str (x : Str) : Den K u (.str x) (.str x)
  | ty (n : String) : Den K u (.ty n) (.ty n)
  | cls (a : Addr) : Den K u (.ref a) (.cls a)
  | strm {a : Addr} : u.S a → Den K u (.ref a) (.strm a)
  | lst {a : Addr} {xs : List V} {ds : List D} : SqL K u.H0 a xs → Dens K u xs ds → Den K u (.ref a) (.lst ds)
  | tup {a : Addr} {xs : List V} {ds : List D} : SqT K u.H0 a xs → Dens K u xs ds → Den K u (.ref a) (.tup ds)
  | obj {a C dx : Addr} {fs : List (Str × V)} {gs : List (Str × D)} : u.H0 a = some (.ins C dx fs) → DenF K u fs gs → Den K u (.ref a) (.obj C gs)
  | dct {a : Addr} {kvs : List (Key × V)} {gs : List (Key × D)} : Rd u.H0 a (.dK kvs) → DenK K u kvs gs → Den K u (.ref a) (.dct gs)
inductive Dens (K : PySem.W.Frag) (u : Wd) : List V → List D → Prop
  | nil : Dens K u [] []
  | cons {v : V} {d : D} {vs : List V} {ds : List D} : Den K u v d → Dens K u vs ds → Dens K u (v :: vs) (d :: ds)
inductive DenF (K : PySem.W.Frag) (u : Wd) : List (Str × V) → List (Str × D) → Prop
  | nil : DenF K u [] []
  | cons {f : Str} {v : V} {d : D} {vs : List (Str × V)} {ds : List (Str × D)} : Den K u v d → DenF K u vs ds → DenF K u ((f, v) :: vs) ((f, d) :: ds)
inductive DenK (K : PySem.W.Frag) (u : Wd) : List (Key × V) → List (Key × D) → Prop
  | nil : DenK K u [] []
  | cons {f : Key} {v : V} {d : D} {vs : List (Key × V)} {ds : List (Key × D)} : Den K u v d → DenK K u vs ds → DenK K u ((f, v) :: vs) ((f, d) :: ds)
end
/-- nothing that is known is lost -/
structure Le (u v : Wd) : Prop where
  s : ∀ a, u.S a → v.S a
  h : Ex u.H0 v.H0
section
variable {K : PySem.W.Frag} {H H' : Hp} {u u' u'' v' : Wd}
theorem Le.refl : Le u u := ⟨fun _ h => h, .refl _⟩
theorem Le.trans (a : Le u u') (b : Le u' u'') : Le u u'' := ⟨fun x h => b.s x (a.s x h), a.h.trans b.h⟩
theorem ex_new {p : Addr} {o : HO} (h : H p = none) : Ex H (upd H p o) := Evl.Ex.new h
mutual
theorem Den.mono (e : Le u u') : ∀ {v : V} {d : D}, Den K u v d → Den K u' v d
  | _, _, .non => .non
  | _, _, .bl b => .bl b
  | _, _, .int i => .int i
  | _, _, .str x => .str x
  | _, _, .ty x => .ty x
  | _, _, .cls x => .cls x
  | _, _, .strm h => .strm (e.s _ h)
  | _, _, .lst h r => .lst (Evl.ex_l e.h h) (Dens.mono e r)
  | _, _, .tup h r => .tup (Evl.ex_t e.h h) (Dens.mono e r)
  | _, _, .obj h r => .obj (e.h _ _ h) (DenF.mono e r)
  | _, _, .dct h r => .dct (Evl.ex_rd e.h h) (DenK.mono e r)
theorem Dens.mono (e : Le u u') : ∀ {v : List V} {d : List D}, Dens K u v d → Dens K u' v d
  | _, _, .nil => .nil
  | _, _, .cons h r => .cons (Den.mono e h) (Dens.mono e r)
theorem DenF.mono (e : Le u u') : ∀ {v : List (Str × V)} {d : List (Str × D)}, DenF K u v d → DenF K u' v d
  | _, _, .nil => .nil
  | _, _, .cons h r => .cons (Den.mono e h) (DenF.mono e r)
theorem DenK.mono (e : Le u u') : ∀ {v : List (Key × V)} {d : List (Key × D)}, DenK K u v d → DenK K u' v d
  | _, _, .nil => .nil
  | _, _, .cons h r => .cons (Den.mono e h) (DenK.mono e r)
end
theorem Dens.len : ∀ {v : List V} {d : List D}, Dens K u v d → v.length = d.length
  | _, _, .nil => rfl
  | _, _, .cons _ r => by simp [Dens.len r]
theorem Dens.get : ∀ {v : List V} {d : List D} {i : Nat} {x : V}, Dens K u v d → v[i]? = some x → ∃ y, d[i]? = some y ∧ Den K u x y
  | _, _, _, _, .nil, e => by simp at e
  | _, _, 0, _, .cons r _, e => by simp at e; subst e; exact ⟨_, rfl, r⟩
  | _, _, i + 1, x, .cons _ t, e => by
    obtain ⟨u, h1, h2⟩ := Dens.get (i := i) (x := x) t (by simpa using e)
    exact ⟨u, by simpa using h1, h2⟩
theorem Dens.getD : ∀ {v : List V} {d : List D} {i : Nat} {y : D}, Dens K u v d → d[i]? = some y → ∃ x, v[i]? = some x ∧ Den K u x y
  | _, _, _, _, .nil, e => by simp at e
  | _, _, 0, _, .cons r _, e => by simp at e; subst e; exact ⟨_, rfl, r⟩
  | _, _, i + 1, x, .cons _ t, e => by
    obtain ⟨u, h1, h2⟩ := Dens.getD (i := i) (y := x) t (by simpa using e)
    exact ⟨u, by simpa using h1, h2⟩
theorem Dens.app : ∀ {v v' : List V} {d d' : List D}, Dens K u v d → Dens K u v' d' → Dens K u (v ++ v') (d ++ d')
  | _, _, _, _, .nil, s => s
  | _, _, _, _, .cons r t, s => .cons r (Dens.app t s)
theorem Dens.take : ∀ {v : List V} {d : List D} (n : Nat), Dens K u v d → Dens K u (v.take n) (d.take n)
  | _, _, 0, _ => .nil
  | _, _, _ + 1, .nil => .nil
  | _, _, n + 1, .cons r t => .cons r (Dens.take n t)
theorem Dens.drop : ∀ {v : List V} {d : List D} (n : Nat), Dens K u v d → Dens K u (v.drop n) (d.drop n)
  | _, _, 0, r => r
  | _, _, _ + 1, .nil => .nil
  | _, _, n + 1, .cons _ t => Dens.drop n t
theorem DenF.keys : ∀ {v : List (Str × V)} {d : List (Str × D)}, DenF K u v d → v.map (·.1) = d.map (·.1)
  | _, _, .nil => rfl
  | _, _, .cons _ r => by simp [DenF.keys r]
theorem DenF.len {v : List (Str × V)} {d : List (Str × D)} (h : DenF K u v d) : v.length = d.length := by
  have := congrArg List.length h.keys
  simpa using this
theorem DenF.look : ∀ {v : List (Str × V)} {d : List (Str × D)} {f : Str} {y : D}, DenF K u v d → d.lookup f = some y → ∃ x, v.lookup f = some x ∧ Den K u x y
  | _, _, _, _, .nil, e => by simp at e
  | _, _, f, y, .cons (f := g) (v := v) (d := d) r t, e => by
    rw [List.lookup_cons] at e ⊢
    cases hq : f == g with
    | true => rw [hq] at e; cases e; exact ⟨v, rfl, r⟩
    | false => rw [hq] at e; exact DenF.look t e
theorem DenF.miss : ∀ {v : List (Str × V)} {d : List (Str × D)} {f : Str}, DenF K u v d → d.lookup f = none → v.lookup f = none
  | _, _, _, .nil, _ => rfl
  | _, _, f, .cons (f := g) r t, e => by
    rw [List.lookup_cons] at e ⊢
    cases hq : f == g with
    | true => rw [hq] at e; cases e
    | false => rw [hq] at e; exact DenF.miss t e
theorem den_int {v : V} {i : Int} (h : Den K u v (.int i)) : v = .int i := by cases h; rfl
theorem den_bl {v : V} {i : Bool} (h : Den K u v (.bl i)) : v = .bl i := by cases h; rfl
theorem den_str {v : V} {i : Str} (h : Den K u v (.str i)) : v = .str i := by cases h; rfl
theorem den_non {v : V} (h : Den K u v .non) : v = .non := by cases h; rfl
theorem den_strm {v : V} {a : Addr} (h : Den K u v (.strm a)) : v = .ref a ∧ u.S a := by cases h with | strm h => exact ⟨rfl, h⟩
theorem den_lst {v : V} {xs : List D} (h : Den K u v (.lst xs)) : ∃ a vs, v = .ref a ∧ SqL K u.H0 a vs ∧ Dens K u vs xs := by cases h with | lst q r => exact ⟨_, _, rfl, q, r⟩
theorem den_tup {v : V} {xs : List D} (h : Den K u v (.tup xs)) : ∃ a vs, v = .ref a ∧ SqT K u.H0 a vs ∧ Dens K u vs xs := by cases h with | tup q r => exact ⟨_, _, rfl, q, r⟩
theorem den_obj {v : V} {C : Addr} {gs : List (Str × D)} (h : Den K u v (.obj C gs)) : ∃ a dx fs, v = .ref a ∧ u.H0 a = some (.ins C dx fs) ∧ DenF K u fs gs := by cases h with | obj q r => exact ⟨_, _, _, rfl, q, r⟩
theorem den_dct {v : V} {gs : List (Key × D)} (h : Den K u v (.dct gs)) : ∃ a kvs, v = .ref a ∧ Rd u.H0 a (.dK kvs) ∧ DenK K u kvs gs := by cases h with | dct q r => exact ⟨_, _, rfl, q, r⟩
theorem dens0 {vs : List V} (h : Dens K u vs []) : vs = [] := by cases h; rfl
theorem dens1 {vs : List V} {x : D} (h : Dens K u vs [x]) : ∃ v, vs = [v] ∧ Den K u v x := by cases h with | cons a r => cases r; exact ⟨_, rfl, a⟩
theorem dens2 {vs : List V} {x y : D} (h : Dens K u vs [x, y]) : ∃ v w, vs = [v, w] ∧ Den K u v x ∧ Den K u w y := by cases h with | cons a r => obtain ⟨w, rfl, b⟩ := dens1 r; exact ⟨_, _, rfl, a, b⟩
theorem dens3 {vs : List V} {x y z : D} (h : Dens K u vs [x, y, z]) : ∃ v w t, vs = [v, w, t] ∧ Den K u v x ∧ Den K u w y ∧ Den K u t z := by cases h with | cons a r => obtain ⟨w, t, rfl, b, c⟩ := dens2 r; exact ⟨_, _, _, rfl, a, b, c⟩
/-- a field stored -/
def putD (f : Str) (d : D) : List (Str × D) → List (Str × D)
  | [] => [(f, d)]
  | (g, e) :: r => if g = f then (f, d) :: r else (g, e) :: putD f d r
theorem DenF.put {f : Str} {v : V} {d : D} (r : Den K u v d) : ∀ {fs : List (Str × V)} {gs : List (Str × D)}, DenF K u fs gs → DenF K u (putF f v fs) (putD f d gs)
  | _, _, .nil => .cons r .nil
  | _, _, .cons (f := f') (v := v') (d := d') (vs := vs') (ds := ds') h1 h2 => by
    show DenF K u (if f' = f then (f', v) :: vs' else (f', v') :: putF f v vs') (if f' = f then (f, d) :: ds' else (f', d') :: putD f d ds')
    by_cases e : f' = f
    · rw [if_pos e, if_pos e, e]; exact .cons r h2
    · rw [if_neg e, if_neg e]; exact .cons h1 (DenF.put r h2)
theorem ex_none (e : Ex H H') {x : Addr} (h : H' x = none) : H x = none := Evl.fresh_back e h
/-- what is told of a stream of the law: a list of the digits that are left, a counter, a mixed value -/
def SO (n : Nat) (o : HO) : Prop := ∃ x c m : Int, o = .lst [.int x, .int c, .int m] ∧ 0 ≤ x ∧ 0 ≤ c ∧ c ≤ n ∧ 0 ≤ m ∧ m < 2147483648
theorem SO.mono {n n' : Nat} {o : HO} (h : SO n o) (l : n ≤ n') : SO n' o := by
  obtain ⟨x, c, m, e, h1, h2, h3, h4⟩ := h
  exact ⟨x, c, m, e, h1, h2, by omega, h4⟩
/-- one step on: all that is tracked stands, but streams may change; what is settled now was settled or is new -/
structure Gs (u v : Wd) : Prop where
  a : Ex u.H0 v.H0
  b : ∀ x o, ¬ u.S x → u.H1 x = some o → v.H1 x = some o
  b' : ∀ x, u.H1 x ≠ none → v.H1 x ≠ none
  c : Ex v.H0 v.H1
  n : ∀ x, u.H0 x = none → v.H0 x ≠ none → u.H1 x = none
  sub : ∀ x, u.S x → v.S x
  new : ∀ x, v.S x → u.S x ∨ u.H1 x = none
  le : u.n ≤ v.n
theorem Gs.ls (g : Gs u v') : Le u v' := ⟨g.sub, g.a⟩
theorem Gs.refl (e : Ex u.H0 u.H1) : Gs u u := ⟨.refl _, fun _ _ _ h => h, fun _ h => h, e, fun _ h h' => absurd h h', fun _ h => h, fun _ h => .inl h, Nat.le_refl _⟩
theorem Gs.trans (g : Gs u u') (k : Gs u' u'') : Gs u u'' :=
  ⟨g.a.trans k.a, fun x o s h => k.b x o (fun s' => (g.new x s').elim s (fun z => by rw [z] at h; cases h)) (g.b x o s h), fun x h => k.b' x (g.b' x h), k.c, fun x h h' => by
    cases e : u'.H0 x with
    | none =>
      have z := k.n x e h'
      cases q : u.H1 x with
      | none => rfl
      | some o => exact absurd z (g.b' x (by rw [q]; simp))
    | some o => exact g.n x h (by rw [e]; simp), fun x h => k.sub x (g.sub x h), fun x h => by
    rcases k.new x h with h | h
    · exact g.new x h
    · refine .inr ?_
      cases q : u.H1 x with
      | none => rfl
      | some o => exact absurd h (g.b' x (by rw [q]; simp)), Nat.le_trans g.le k.le⟩
/-- the same world with a new object p, settled -/
abbrev Wd.put (u : Wd) (p : Addr) (o : HO) : Wd := ⟨u.S, u.n, upd u.H0 p o, upd u.H1 p o⟩
/-- streams stand as told -/
def StOk (u : Wd) : Prop := ∀ a, u.S a → u.H0 a = none ∧ ∃ o, u.H1 a = some o ∧ SO u.n o
theorem Gs.put (e : Ex u.H0 u.H1) {p : Addr} {o : HO} (h : u.H1 p = none) : Gs u (u.put p o) :=
  ⟨ex_new (ex_none e h), fun x w _ hx => (ex_new h) x w hx, fun x hx => by
      show upd u.H1 p o x ≠ none
      by_cases q : x = p
      · subst q; rw [upd_same]; simp
      · rw [upd_ne q]; exact hx, fun x w (hx : upd u.H0 p o x = some w) => by
      show upd u.H1 p o x = some w
      by_cases q : x = p
      · subst q; rw [upd_same] at hx ⊢; exact hx
      · rw [upd_ne q] at hx ⊢; exact e x w hx, fun x h0 (h1 : upd u.H0 p o x ≠ none) => by
      by_cases q : x = p
      · subst q; exact h
      · rw [upd_ne q] at h1; exact absurd h0 h1, fun _ h => h, fun _ h => .inl h, Nat.le_refl _⟩
theorem StOk.put (s : StOk u) {p : Addr} {o : HO} (h : u.H1 p = none) : StOk (u.put p o) := fun a ha => by
  obtain ⟨h0, w, h1, hs⟩ := s a ha
  have q : a ≠ p := fun q => by rw [q, h] at h1; cases h1
  exact ⟨(upd_ne q).trans h0, w, (upd_ne q).trans h1, hs⟩
/-- more settled: an object that was not, and is no stream -/
theorem Gs.settle {b : Wd} (g : Gs b u) {p : Addr} {o : HO} (hb : b.H1 p = none) (h0 : u.H0 p = none) (h1 : u.H1 p = some o) : Gs b ⟨u.S, u.n, upd u.H0 p o, u.H1⟩ :=
  ⟨g.a.trans (ex_new h0), g.b, g.b', fun x w (hx : upd u.H0 p o x = some w) => by
      show u.H1 x = some w
      by_cases q : x = p
      · subst q; rw [upd_same] at hx; rw [h1]; exact hx
      · rw [upd_ne q] at hx; exact g.c x w hx, fun x h (h' : upd u.H0 p o x ≠ none) => by
      by_cases q : x = p
      · subst q; exact hb
      · rw [upd_ne q] at h'; exact g.n x h h', g.sub, g.new, g.le⟩
theorem StOk.settle (s : StOk u) {p : Addr} {o : HO} (n : ¬ u.S p) : StOk ⟨u.S, u.n, upd u.H0 p o, u.H1⟩ := fun a ha => by
  obtain ⟨h0, w, h1, hs⟩ := s a ha
  have q : a ≠ p := fun q => n (q ▸ ha)
  exact ⟨(upd_ne q).trans h0, w, h1, hs⟩
/-- an object that is not settled changes -/
theorem Gs.write {b : Wd} (g : Gs b u) {p : Addr} {o : HO} (hb : b.H1 p = none) (h0 : u.H0 p = none) : Gs b ⟨u.S, u.n, u.H0, upd u.H1 p o⟩ :=
  ⟨g.a, fun x w s hx => by
      show upd u.H1 p o x = some w
      have q : x ≠ p := fun q => by rw [q, hb] at hx; cases hx
      rw [upd_ne q]; exact g.b x w s hx, fun x hx => by
      show upd u.H1 p o x ≠ none
      by_cases q : x = p
      · subst q; rw [upd_same]; simp
      · rw [upd_ne q]; exact g.b' x hx, fun x w hx => by
      show upd u.H1 p o x = some w
      have q : x ≠ p := fun q => by rw [q, h0] at hx; cases hx
      rw [upd_ne q]; exact g.c x w hx, g.n, g.sub, g.new, g.le⟩
theorem StOk.write (s : StOk u) {p : Addr} {o : HO} (n : ¬ u.S p) : StOk ⟨u.S, u.n, u.H0, upd u.H1 p o⟩ := fun a ha => by
  obtain ⟨h0, w, h1, hs⟩ := s a ha
  have q : a ≠ p := fun q => n (q ▸ ha)
  exact ⟨h0, w, (upd_ne q).trans h1, hs⟩
end
end DL

namespace DL
open PySem L2
section
variable {K : PySem.W.Frag} {b u u' u'' : Wd}
/-- whether a thing stands in a slot alone, still being made -/
def isMut : D → Bool
  | .mls _ | .mob _ _ _ _ | .mdk _ => true
  | _ => false
/-- what a slot holds -/
inductive DenS (K : PySem.W.Frag) (b u : Wd) : V → D → Prop
  | den {v : V} {d : D} : Den K u v d → DenS K b u v d
  | mls {a : Addr} {xs : List V} {ds : List D} : b.H1 a = none → u.H0 a = none → ¬ u.S a → u.H1 a = some (.lst xs) → Dens K u xs ds → DenS K b u (.ref a) (.mls ds)
  | mob {a C dx : Addr} {fs : List (Str × V)} {gs : List (Str × D)} : b.H1 a = none → u.H0 a = none → ¬ u.S a → u.H1 a = some (.ins C dx fs) → u.H1 dx = some (.own a) → ¬ u.S dx → DenF K u fs gs → DenS K b u (.ref a) (.mob a dx C gs)
  | mdk {a : Addr} {kvs : List (Key × V)} {gs : List (Key × D)} : b.H1 a = none → u.H0 a = none → ¬ u.S a → u.H1 a = some (.dK kvs) → DenK K u kvs gs → DenS K b u (.ref a) (.mdk gs)
theorem Den.notMut {v : V} {d : D} (h : Den K u v d) : isMut d = false := by
  cases h <;> rfl
theorem DenS.imm {v : V} {d : D} (h : DenS K b u v d) (i : isMut d = false) : Den K u v d := by
  cases h with
  | den h => exact h
  | mls => cases i
  | mob => cases i
  | mdk => cases i
theorem Gs.nn (g : Gs u u') {a : Addr} {o : HO} (e0 : u.H0 a = none) (e1 : u.H1 a = some o) : u'.H0 a = none := by
  cases q : u'.H0 a with
  | none => rfl
  | some w =>
    have z := g.n a e0 (by rw [q]; simp)
    rw [z] at e1; cases e1
theorem Gs.ns (g : Gs u u') {a : Addr} {o : HO} (e0 : ¬ u.S a) (e1 : u.H1 a = some o) : ¬ u'.S a := fun h => by
  rcases g.new a h with h | h
  · exact e0 h
  · rw [h] at e1; cases e1
theorem DenS.mono {v : V} {d : D} (g : Gs u u') (h : DenS K b u v d) : DenS K b u' v d := by
  cases h with
  | den h => exact .den (h.mono g.ls)
  | mls hb h0 hs h1 r => exact .mls hb (g.nn h0 h1) (g.ns hs h1) (g.b _ _ hs h1) (r.mono g.ls)
  | mob hb h0 hs h1 h2 hx r => exact .mob hb (g.nn h0 h1) (g.ns hs h1) (g.b _ _ hs h1) (g.b _ _ hx h2) (g.ns hx h2) (r.mono g.ls)
  | mdk hb h0 hs h1 r => exact .mdk hb (g.nn h0 h1) (g.ns hs h1) (g.b _ _ hs h1) (r.mono g.ls)
abbrev DS := List (Option D)
/-- the slots, told by data; b: the world that the def was handed -/
structure Sd (K : PySem.W.Frag) (b u : Wd) (σ : St) (ds : DS) : Prop where
  gr : Gs b u
  st : StOk u
  len : σ.length = ds.length
  sl : ∀ (i : Nat) (d : D), ds[i]? = some (some d) → ∃ v, σ[i]? = some (some v) ∧ DenS K b u v d
  ap : ∀ (i j : Nat) (d e : D) (a c : Addr), ds[i]? = some (some d) → ds[j]? = some (some e) → isMut d = true → isMut e = true → i ≠ j → σ[i]? = some (some (.ref a)) → σ[j]? = some (some (.ref c)) → a ≠ c
variable {σ : St} {ds : DS}
theorem Sd.ex (S : Sd K b u σ ds) : Ex u.H0 u.H1 := S.gr.c
theorem Sd.go (S : Sd K b u σ ds) (g : Gs u u') (s : StOk u') : Sd K b u' σ ds :=
  ⟨S.gr.trans g, s, S.len, fun i d e => let ⟨v, h1, h2⟩ := S.sl i d e; ⟨v, h1, h2.mono g⟩, S.ap⟩
theorem get_set {α : Type} (l : List α) (i j : Nat) (x : α) : (l.set i x)[j]? = if i = j then (if i < l.length then some x else none) else l[j]? := by
  rw [List.getElem?_set]
/-- a value stored -/
theorem Sd.set {i : Nat} {v : V} {d : D} (S : Sd K b u σ ds) (h : Den K u v d) : Sd K b u (σ.set i (some v)) (ds.set i (some d)) := by
  refine ⟨S.gr, S.st, by simp [S.len], fun j e q => ?_, fun j k e f a b h1 h2 m1 m2 ne q1 q2 => ?_⟩
  · by_cases q' : i = j
    · subst q'
      rw [get_set] at q
      by_cases hl : i < ds.length
      · simp [hl] at q
        subst q
        exact ⟨v, by simp [get_set, S.len, hl], .den h⟩
      · simp [hl] at q
    · rw [get_set, if_neg q'] at q
      obtain ⟨w, h1, h2⟩ := S.sl j e q
      exact ⟨w, by rw [get_set, if_neg q']; exact h1, h2⟩
  · have nd := h.notMut
    have k1 : i ≠ j := fun z => by
      subst z
      rw [get_set] at h1
      by_cases hl : i < ds.length
      · simp [hl] at h1; subst h1; rw [nd] at m1; cases m1
      · simp [hl] at h1
    have k2 : i ≠ k := fun z => by
      subst z
      rw [get_set] at h2
      by_cases hl : i < ds.length
      · simp [hl] at h2; subst h2; rw [nd] at m2; cases m2
      · simp [hl] at h2
    rw [get_set, if_neg k1] at h1 q1
    rw [get_set, if_neg k2] at h2 q2
    exact S.ap j k e f a b h1 h2 m1 m2 ne q1 q2

/-! ### judgements: P of what comes out, and of the bound of the streams behind -/
def We (K : PySem.W.Frag) (te : TE) (ds : DS) (n : Nat) (P : D → Nat → Prop) : Prop :=
  ∀ (b u : Wd) (σ : St) (Q : VK), u.n = n → Sd K b u σ ds → (∀ v d u', Gs u u' → StOk u' → Den K u' v d → P d u'.n → Q v u'.H1) → te σ u.H1 Q
def Wt (K : PySem.W.Frag) (tt : TT) (ds : DS) (n : Nat) (P : Bool → Nat → Prop) : Prop :=
  ∀ (b u : Wd) (σ : St) (Q : Bool → Hp → Prop), u.n = n → Sd K b u σ ds → (∀ c u', Gs u u' → StOk u' → P c u'.n → Q c u'.H1) → tt σ u.H1 Q
def Wa (K : PySem.W.Frag) (ta : TA) (ds : DS) (n : Nat) (P : List D → Nat → Prop) : Prop :=
  ∀ (b u : Wd) (σ : St) (Q : List V → Hp → Prop), u.n = n → Sd K b u σ ds → (∀ vs xs u', Gs u u' → StOk u' → Dens K u' vs xs → P xs u'.n → Q vs u'.H1) → ta σ u.H1 Q
def Wo (K : PySem.W.Frag) (to : TO) (ds : DS) (n : Nat) (P : Option Int → Nat → Prop) : Prop :=
  ∀ (b u : Wd) (σ : St) (Q : Option Int → Hp → Prop), u.n = n → Sd K b u σ ds → (∀ c u', Gs u u' → StOk u' → P c u'.n → Q c u'.H1) → to σ u.H1 Q
structure Nd where
  nx : DS → Nat → Prop
  rt : D → Nat → Prop
  bk : DS → Nat → Prop := fun _ _ => False
  ct : DS → Nat → Prop := fun _ _ => False
/-- the ends of a statement at the heaps, where the ends at the data are N; s: where it began -/
structure EndsOk (K : PySem.W.Frag) (b s : Wd) (De : Ends) (N : Nd) : Prop where
  nx : ∀ ds u σ, Le s u → Sd K b u σ ds → N.nx ds u.n → De.nx σ u.H1
  rt : ∀ d v u, Gs b u → StOk u → Den K u v d → N.rt d u.n → De.rt v u.H1
  bk : ∀ ds u σ, Le s u → Sd K b u σ ds → N.bk ds u.n → De.bk σ u.H1
  ct : ∀ ds u σ, Le s u → Sd K b u σ ds → N.ct ds u.n → De.ct σ u.H1
theorem EndsOk.mono {s s' : Wd} {De : Ends} {N : Nd} (O : EndsOk K b s De N) (e : Le s s') : EndsOk K b s' De N :=
  ⟨fun ds u σ x => O.nx ds u σ (e.trans x), O.rt, fun ds u σ x => O.bk ds u σ (e.trans x), fun ds u σ x => O.ct ds u σ (e.trans x)⟩
def Ws (K : PySem.W.Frag) (ts : TS) (ds : DS) (n : Nat) (N : Nd) : Prop :=
  ∀ (b u : Wd) (σ : St) (De : Ends), u.n = n → Sd K b u σ ds → EndsOk K b u De N → ts De σ u.H1
/-- a target: x is stored -/
def Wg (K : PySem.W.Frag) (g : TG) (x : D) (ds : DS) (P : DS → Prop) : Prop :=
  ∀ (b u : Wd) (σ : St) (v : V) (Q : St → Hp → Prop), Sd K b u σ ds → Den K u v x → (∀ ds' σ', Sd K b u σ' ds' → P ds' → Q σ' u.H1) → g v σ u.H1 Q
def Wgs (K : PySem.W.Frag) (g : TGs) (xs : List D) (ds : DS) (P : DS → Prop) : Prop :=
  ∀ (b u : Wd) (σ : St) (vs : List V) (Q : St → Hp → Prop), Sd K b u σ ds → Dens K u vs xs → (∀ ds' σ', Sd K b u σ' ds' → P ds' → Q σ' u.H1) → g vs σ u.H1 Q

/-! ### expressions -/
variable {n : Nat} {P : D → Nat → Prop} {te ta tb tc : TE} {N : Nd}
theorem We.imp {P' : D → Nat → Prop} (h : We K te ds n P) (i : ∀ d m, P d m → P' d m) : We K te ds n P' := fun b u σ Q e S k => h b u σ Q e S fun v d u' g s r p => k v d u' g s r (i d _ p)
theorem we_here {v : V} {d : D} (hd : ∀ u, Den K u v d) (p : P d n) : We K (tC v) ds n P := fun b u σ Q e S k => k _ d u (.refl S.ex) S.st (hd u) (e ▸ p)
theorem we_var {i : Nat} {d : D} (h : ds[i]? = some (some d)) (m : isMut d = false) (p : P d n) : We K (tVar i) ds n P := fun b u σ Q e S k => by
  obtain ⟨v, h1, h2⟩ := S.sl i d h
  exact ⟨v, h1, k v d u (.refl S.ex) S.st (h2.imm m) (e ▸ p)⟩
theorem we_int {i : Int} (p : P (.int i) n) : We K (tC (.int i)) ds n P := we_here (fun _ => .int i) p
theorem we_bl {i : Bool} (p : P (.bl i) n) : We K (tC (.bl i)) ds n P := we_here (fun _ => .bl i) p
theorem we_non (p : P .non n) : We K (tC .non) ds n P := we_here (fun _ => .non) p
theorem we_str {x : Str} (p : P (.str x) n) : We K (tC (.str x)) ds n P := we_here (fun _ => .str x) p
theorem we_ty {x : String} (p : P (.ty x) n) : We K (tC (.ty x)) ds n P := we_here (fun _ => .ty x) p
theorem we_cls {x : Addr} (p : P (.cls x) n) : We K (tC (.ref x)) ds n P := we_here (fun _ => .cls x) p
/-- pure growth -/
structure Gp (u v : Wd) : Prop where
  g : Gs u v
  st : StOk u → StOk v
  n : v.n = u.n
theorem Gp.refl (e : Ex u.H0 u.H1) : Gp u u := ⟨.refl e, fun h => h, rfl⟩
theorem Gp.put (e : Ex u.H0 u.H1) {p : Addr} {o : HO} (h : u.H1 p = none) : Gp u (u.put p o) := ⟨.put e h, fun s => s.put h, rfl⟩
theorem Gp.trans (g : Gp u u') (k : Gp u' u'') : Gp u u'' := ⟨g.g.trans k.g, fun s => k.st (g.st s), k.n.trans g.n⟩
/-- an operator on data -/
def Op (K : PySem.W.Frag) (r : R2) (x y : D) (P : D → Prop) : Prop :=
  ∀ (u : Wd) (v w : V) (Q : VK), Ex u.H0 u.H1 → StOk u → Den K u v x → Den K u w y → (∀ z d u', Gp u u' → Den K u' z d → P d → Q z u'.H1) → r v w u.H1 Q
theorem we_op {r : R2} (h : We K ta ds n fun x m => We K tb ds m fun y k => Op K r x y fun z => P z k) : We K (tOp r ta tb) ds n P := fun b u σ Q e S k =>
  h b u σ _ e S fun v x u1 g1 s1 d1 h2 => h2 b u1 σ _ rfl (S.go g1 s1) fun w y u2 g2 s2 d2 h3 => h3 u2 v w Q g2.c s2 (d1.mono g2.ls) d2 fun z d u3 g3 d3 p => k z d u3 ((g1.trans g2).trans g3.g) (g3.st s2) d3 (g3.n ▸ p)
def Un (K : PySem.W.Frag) (r : V → Hp → VK → Prop) (x : D) (P : D → Prop) : Prop :=
  ∀ (u : Wd) (v : V) (Q : VK), Ex u.H0 u.H1 → Den K u v x → (∀ z d u', Gp u u' → Den K u' z d → P d → Q z u'.H1) → r v u.H1 Q
theorem we_un {r : V → Hp → VK → Prop} (h : We K ta ds n fun x m => Un K r x fun z => P z m) : We K (tUn r ta) ds n P := fun b u σ Q e S k =>
  h b u σ _ e S fun v x u1 g1 s1 d1 h2 => h2 u1 v Q g1.c d1 fun z d u3 g3 d3 p => k z d u3 (g1.trans g3.g) (g3.st s1) d3 (g3.n ▸ p)
theorem wa_nil {P : List D → Nat → Prop} (p : P [] n) : Wa K tNil ds n P := fun b u σ Q e S k => k _ [] u (.refl S.ex) S.st .nil (e ▸ p)
theorem wa_cons {P : List D → Nat → Prop} {tr : TA} (h : We K ta ds n fun x m => Wa K tr ds m fun xs k => P (x :: xs) k) : Wa K (tCons ta tr) ds n P := fun b u σ Q e S k =>
  h b u σ _ e S fun v x u1 g1 s1 d1 h2 => h2 b u1 σ _ rfl (S.go g1 s1) fun vs xs u2 g2 s2 d2 p => k (v :: vs) (x :: xs) u2 (g1.trans g2) s2 (.cons (d1.mono g2.ls) d2) p
/-- what a call of a built-in gives -/
def Cb (K : PySem.W.Frag) (r : List V → Hp → VK → Prop) (xs : List D) (P : D → Prop) : Prop :=
  ∀ (u : Wd) (vs : List V) (Q : VK), Ex u.H0 u.H1 → Dens K u vs xs → (∀ z d u', Gp u u' → Den K u' z d → P d → Q z u'.H1) → r vs u.H1 Q
theorem we_cb {r : List V → Hp → VK → Prop} {t : TA} (h : Wa K t ds n fun xs m => Cb K r xs fun z => P z m) : We K (tCB r t) ds n P := fun b u σ Q e S k =>
  h b u σ _ e S fun vs xs u1 g1 s1 d1 h2 => h2 u1 vs Q g1.c d1 fun z d u3 g3 d3 p => k z d u3 (g1.trans g3.g) (g3.st s1) d3 (g3.n ▸ p)
theorem sz100 {n : Nat} (h : n ≤ 1000000) : n ≤ sizeLine := Nat.le_trans h (by decide)
theorem we_tup {t : TA} (h : Wa K t ds n fun xs m => xs.length ≤ 1000000 ∧ P (.tup xs) m) : We K (tTup t) ds n P := fun b u σ Q e S k =>
  h b u σ _ e S fun vs xs u1 g1 s1 d1 h2 => ⟨by rw [d1.len]; exact sz100 h2.1, fun p hp => k _ _ (u1.put p _) (g1.trans (.put g1.c hp)) (s1.put hp) (.tup (SqT.of upd_same) (d1.mono (Gs.put g1.c hp).ls)) h2.2⟩
theorem we_lst {t : TA} (h : Wa K t ds n fun xs m => xs.length ≤ 1000000 ∧ P (.lst xs) m) : We K (tLst t) ds n P := fun b u σ Q e S k =>
  h b u σ _ e S fun vs xs u1 g1 s1 d1 h2 => ⟨by rw [d1.len]; exact sz100 h2.1, fun p hp => k _ _ (u1.put p _) (g1.trans (.put g1.c hp)) (s1.put hp) (.lst (SqL.of upd_same) (d1.mono (Gs.put g1.c hp).ls)) h2.2⟩
/-! ### tests -/
theorem wt_test {P : Bool → Nat → Prop} (h : We K te ds n fun d m => ∃ c, d = .bl c ∧ P c m) : Wt K (tTest te) ds n P := fun b u σ Q e S k =>
  h b u σ _ e S fun v d u1 g1 s1 d1 ⟨c, q, p⟩ => by
    subst q
    cases den_bl d1
    exact ⟨c, rfl, k c u1 g1 s1 p⟩
theorem wt_B {P : Bool → Nat → Prop} (h : We K te ds n fun d m => ∃ c, d = .bl c ∧ P c m) : Wt K (tB te) ds n P := fun b u σ Q e S k =>
  h b u σ _ e S fun v d u1 g1 s1 d1 ⟨c, q, p⟩ => by
    subst q
    cases den_bl d1
    exact ⟨c, rfl, k c u1 g1 s1 p⟩
theorem wt_yes {P : Bool → Nat → Prop} (p : P true n) : Wt K tYes ds n P := fun b u σ Q e S k => k true u (.refl S.ex) S.st (e ▸ p)
variable {tt tu : TT}
theorem wt_and {P : Bool → Nat → Prop} (h : Wt K tt ds n fun c m => if c = true then Wt K tu ds m P else P false m) : Wt K (tAnd tt tu) ds n P := fun b u σ Q e S k =>
  h b u σ _ e S fun c u1 g1 s1 q => by
    cases c with
    | true => exact q b u1 σ Q rfl (S.go g1 s1) fun c u2 g2 s2 p => k c u2 (g1.trans g2) s2 p
    | false => exact k false u1 g1 s1 q
theorem wt_or {P : Bool → Nat → Prop} (h : Wt K tt ds n fun c m => if c = true then P true m else Wt K tu ds m P) : Wt K (tOr tt tu) ds n P := fun b u σ Q e S k =>
  h b u σ _ e S fun c u1 g1 s1 q => by
    cases c with
    | true => exact k true u1 g1 s1 q
    | false => exact q b u1 σ Q rfl (S.go g1 s1) fun c u2 g2 s2 p => k c u2 (g1.trans g2) s2 p
theorem wt_not {P : Bool → Nat → Prop} (h : Wt K tt ds n fun c m => P (!c) m) : Wt K (tNot tt) ds n P := fun b u σ Q e S k =>
  h b u σ _ e S fun c u1 g1 s1 q => k (!c) u1 g1 s1 q
theorem we_andV (h : We K ta ds n fun d m => ∃ c, d = .bl c ∧ if c = true then We K tb ds m P else P (.bl false) m) : We K (tAndV ta tb) ds n P := fun b u σ Q e S k =>
  h b u σ _ e S fun v d u1 g1 s1 d1 ⟨c, z, q⟩ => by
    subst z
    cases den_bl d1
    refine ⟨c, rfl, ?_⟩
    cases c with
    | true => exact q b u1 σ Q rfl (S.go g1 s1) fun v d u2 g2 s2 r p => k v d u2 (g1.trans g2) s2 r p
    | false => exact k _ _ u1 g1 s1 (.bl false) q
theorem we_orV (h : We K ta ds n fun d m => ∃ c, d = .bl c ∧ if c = true then P (.bl true) m else We K tb ds m P) : We K (tOrV ta tb) ds n P := fun b u σ Q e S k =>
  h b u σ _ e S fun v d u1 g1 s1 d1 ⟨c, z, q⟩ => by
    subst z
    cases den_bl d1
    refine ⟨c, rfl, ?_⟩
    cases c with
    | true => exact k _ _ u1 g1 s1 (.bl true) q
    | false => exact q b u1 σ Q rfl (S.go g1 s1) fun v d u2 g2 s2 r p => k v d u2 (g1.trans g2) s2 r p
theorem we_notV (h : We K ta ds n fun d m => ∃ c, d = .bl c ∧ P (.bl (!c)) m) : We K (tNotV ta) ds n P := fun b u σ Q e S k =>
  h b u σ _ e S fun v d u1 g1 s1 d1 ⟨c, z, q⟩ => by
    subst z
    cases den_bl d1
    exact ⟨c, rfl, k _ _ u1 g1 s1 (.bl (!c)) q⟩
theorem we_if (h : Wt K tt ds n fun c m => if c = true then We K ta ds m P else We K tb ds m P) : We K (tIf tt ta tb) ds n P := fun b u σ Q e S k =>
  h b u σ _ e S fun c u1 g1 s1 q => by
    cases c with
    | true => exact q b u1 σ Q rfl (S.go g1 s1) fun v d u2 g2 s2 r p => k v d u2 (g1.trans g2) s2 r p
    | false => exact q b u1 σ Q rfl (S.go g1 s1) fun v d u2 g2 s2 r p => k v d u2 (g1.trans g2) s2 r p
theorem wo_none {P : Option Int → Nat → Prop} (p : P none n) : Wo K tNoPart ds n P := fun b u σ Q e S k => k _ u (.refl S.ex) S.st (e ▸ p)
theorem wo_some {P : Option Int → Nat → Prop} (h : We K te ds n fun d m => ∃ i, d = .int i ∧ P (some i) m) : Wo K (tPart te) ds n P := fun b u σ Q e S k =>
  h b u σ _ e S fun v d u1 g1 s1 d1 ⟨i, z, q⟩ => by
    subst z
    cases den_int d1
    exact ⟨i, rfl, k _ u1 g1 s1 q⟩
def Sl (K : PySem.W.Frag) (r : V → Option Int → Option Int → Hp → VK → Prop) (x : D) (lo hi : Option Int) (P : D → Prop) : Prop :=
  ∀ (u : Wd) (v : V) (Q : VK), Ex u.H0 u.H1 → Den K u v x → (∀ z d u', Gp u u' → Den K u' z d → P d → Q z u'.H1) → r v lo hi u.H1 Q
theorem we_sl {r : V → Option Int → Option Int → Hp → VK → Prop} {tl th : TO} (h : We K te ds n fun x m => Wo K tl ds m fun lo k => Wo K th ds k fun hi j => Sl K r x lo hi fun z => P z j) : We K (tSl r te tl th) ds n P := fun b u σ Q e S k =>
  h b u σ _ e S fun v x u1 g1 s1 d1 h1 => h1 b u1 σ _ rfl (S.go g1 s1) fun lo u2 g2 s2 h2 => h2 b u2 σ _ rfl ((S.go g1 s1).go g2 s2) fun hi u3 g3 s3 h3 =>
    h3 u3 v Q g3.c (d1.mono (g2.ls.trans g3.ls)) fun z d u4 g4 r p => k z d u4 (((g1.trans g2).trans g3).trans g4.g) (g4.st s3) r (g4.n ▸ p)
theorem we_fld {f : Str} (h : We K te ds n fun x m => ∃ C fs d, x = .obj C fs ∧ Cls K C ∧ NoAttr K C f ∧ fs.lookup f = some d ∧ P d m) : We K (tFld K te f) ds n P := fun b u σ Q e S k =>
  h b u σ _ e S fun v x u1 g1 s1 d1 ⟨C, fs, d, z, hc, hn, hl, p⟩ => by
    subst z
    obtain ⟨a, dx, fv, rfl, ha, hf⟩ := den_obj d1
    obtain ⟨w, h1, h2⟩ := hf.look hl
    exact ⟨_, _, _, _, w, rfl, g1.c _ _ ha, hc, hn, h1, k w d u1 g1 s1 h2 p⟩
theorem we_chain {r r' : R2} (h : We K ta ds n fun x m => We K tb ds m fun y k => Op K r x y fun z => ∃ c, z = .bl c ∧ if c = true then We K tc ds k fun w j => Op K r' y w fun z => P z j else P (.bl false) k) : We K (tChain r r' ta tb tc) ds n P := fun b u σ Q e S k =>
  h b u σ _ e S fun v x u1 g1 s1 d1 h1 => h1 b u1 σ _ rfl (S.go g1 s1) fun w y u2 g2 s2 d2 h2 => h2 u2 v w _ g2.c s2 (d1.mono g2.ls) d2 fun t z u3 g3 d3 ⟨c, q, p⟩ => by
    subst q
    cases den_bl d3
    refine ⟨c, rfl, ?_⟩
    cases c with
    | false => exact k _ _ u3 ((g1.trans g2).trans g3.g) (g3.st s2) (.bl false) (g3.n ▸ p)
    | true => exact p b u3 σ _ g3.n (((S.go g1 s1).go g2 s2).go g3.g (g3.st s2)) fun w' y' u4 g4 s4 d4 h4 => h4 u4 w w' Q g4.c s4 ((d2.mono g3.g.ls).mono g4.ls) d4 fun t d u5 g5 d5 p => k t d u5 ((((g1.trans g2).trans g3.g).trans g4).trans g5.g) (g5.st s4) d5 (g5.n ▸ p)
/-! ### statements -/
variable {ts t1 t2 : TS} {g : TG} {De : Ends}
theorem ws_next (p : N.nx ds n) : Ws K tNext ds n N := fun b u σ De e S O => O.nx _ u σ .refl S (e ▸ p)
theorem ws_seq (h : Ws K t1 ds n { N with nx := fun ds' m => Ws K t2 ds' m N }) : Ws K (tSeq t1 t2) ds n N := fun b u σ De e S O =>
  h b u σ _ e S ⟨fun ds' u' σ' x S' q => q b u' σ' De rfl S' (O.mono x), O.rt, O.bk, O.ct⟩
theorem ws_break (p : N.bk ds n) : Ws K tBreak ds n N := fun b u σ De e S O => O.bk _ u σ .refl S (e ▸ p)
theorem ws_cont (p : N.ct ds n) : Ws K tCont ds n N := fun b u σ De e S O => O.ct _ u σ .refl S (e ▸ p)
theorem ws_drop (h : We K te ds n fun _ m => N.nx ds m) : Ws K (tDrop te) ds n N := fun b u σ De e S O =>
  h b u σ _ e S fun v d u1 g1 s1 r p => O.nx _ u1 _ g1.ls (S.go g1 s1) p
theorem ws_ret (h : We K te ds n N.rt) : Ws K (tRet te) ds n N := fun b u σ De e S O =>
  h b u σ _ e S fun v d u1 g1 s1 r p => O.rt d v u1 (S.gr.trans g1) s1 r p
theorem ws_retN (h : N.rt .non n) : Ws K tRetN ds n N := fun b u σ De e S O => O.rt .non .non u S.gr S.st .non (e ▸ h)
theorem ws_if (h : Wt K tt ds n fun c m => if c = true then Ws K t1 ds m N else Ws K t2 ds m N) : Ws K (tIfS tt t1 t2) ds n N := fun b u σ De e S O =>
  h b u σ _ e S fun c u1 g1 s1 q => by
    cases c with
    | true => exact q b u1 σ De rfl (S.go g1 s1) (O.mono g1.ls)
    | false => exact q b u1 σ De rfl (S.go g1 s1) (O.mono g1.ls)
theorem ws_asg (h : We K te ds n fun d m => Wg K g d ds fun ds' => N.nx ds' m) : Ws K (tAsg te g) ds n N := fun b u σ De e S O =>
  h b u σ _ e S fun v d u1 g1 s1 r p => p b u1 σ v _ (S.go g1 s1) r fun ds' σ' S' q => O.nx _ u1 _ g1.ls S' q
theorem wg_name {i : Nat} {x : D} {P : DS → Prop} (p : P (ds.set i (some x))) : Wg K (gName i) x ds P := fun b u σ v Q S r k => k _ _ (S.set r) p
theorem wgs_nil {P : DS → Prop} {xs : List D} (e : xs = []) (p : P ds) : Wgs K gNil xs ds P := fun b u σ v Q S r k => by
  subst e
  cases r
  exact ⟨rfl, k _ _ S p⟩
theorem wgs_cons {P : DS → Prop} {x : D} {xs ys : List D} {gs : TGs} (e : ys = x :: xs) (h : Wg K g x ds fun ds' => Wgs K gs xs ds' P) : Wgs K (gCons g gs) ys ds P := fun b u σ v Q S r k => by
  subst e
  cases r with
  | cons r1 r2 =>
    rename_i v vs
    exact ⟨v, vs, rfl, h b u σ v _ S r1 fun ds' σ' S' q => q b u σ' vs _ S' r2 k⟩
theorem wg_tup {P : DS → Prop} {j : Nat} {x : D} {xs : List D} {gs : TGs} (e : x = .tup xs) (hn : xs.length = j) (h : Wgs K gs xs ds P) : Wg K (gTup K j gs) x ds P := fun b u σ v Q S r k => by
  subst e
  obtain ⟨a, vs, rfl, q, r2⟩ := den_tup r
  exact ⟨_, _, rfl, Evl.ex_t S.ex q, r2.len.trans hn, h b u σ _ Q S r2 k⟩
theorem ws_par {i j : Nat} {t : TA} (h : Wa K t ds n fun xs m => ∃ a c, xs = [a, c] ∧ N.nx ((ds.set i (some a)).set j (some c)) m) : Ws K (tPar i j t) ds n N := fun b u σ De e S O =>
  h b u σ _ e S fun vs xs u1 g1 s1 r ⟨a, c, z, p⟩ => by
    subst z
    obtain ⟨v, w, rfl, r1, r2⟩ := dens2 r
    exact ⟨v, w, rfl, O.nx _ u1 _ g1.ls (((S.go g1 s1).set r1).set r2) p⟩
theorem ws_par3 {i j l : Nat} {t : TA} (h : Wa K t ds n fun xs m => ∃ a c d, xs = [a, c, d] ∧ N.nx (((ds.set i (some a)).set j (some c)).set l (some d)) m) : Ws K (tPar3 i j l t) ds n N := fun b u σ De e S O =>
  h b u σ _ e S fun vs xs u1 g1 s1 r ⟨a, c, d, z, p⟩ => by
    subst z
    obtain ⟨v, w, y, rfl, r1, r2, r3⟩ := dens3 r
    exact ⟨v, w, y, rfl, O.nx _ u1 _ g1.ls ((((S.go g1 s1).set r1).set r2).set r3) p⟩
/-- a slot forgotten -/
theorem Sd.drop {i : Nat} {y : Option V} (S : Sd K b u σ ds) : Sd K b u (σ.set i y) (ds.set i none) := by
  refine ⟨S.gr, S.st, by simp [S.len], fun j e q => ?_, fun j k e f a b h1 h2 m1 m2 ne q1 q2 => ?_⟩
  · by_cases q' : i = j
    · subst q'
      rw [get_set] at q
      by_cases hl : i < ds.length <;> simp [hl] at q
    · rw [get_set, if_neg q'] at q
      obtain ⟨w, h1, h2⟩ := S.sl j e q
      exact ⟨w, by rw [get_set, if_neg q']; exact h1, h2⟩
  · have k1 : i ≠ j := fun z => by
      subst z
      rw [get_set] at h1
      by_cases hl : i < ds.length <;> simp [hl] at h1
    have k2 : i ≠ k := fun z => by
      subst z
      rw [get_set] at h2
      by_cases hl : i < ds.length <;> simp [hl] at h2
    rw [get_set, if_neg k1] at h1 q1
    rw [get_set, if_neg k2] at h2 q2
    exact S.ap j k e f a b h1 h2 m1 m2 ne q1 q2
/-- a new list that the def goes on with -/
theorem Sd.setMls {i p : Nat} {vs : List V} {xs : List D} (S : Sd K b u σ ds) (hp : u.H1 p = none) (h : Dens K u vs xs) : Sd K b ⟨u.S, u.n, u.H0, upd u.H1 p (.lst vs)⟩ (σ.set i (some (.ref p))) (ds.set i (some (.mls xs))) := by
  have n0 : u.H0 p = none := ex_none S.ex hp
  have nb : b.H1 p = none := by
    cases q : b.H1 p with
    | none => rfl
    | some o => exact absurd hp (S.gr.b' p (by rw [q]; simp))
  have nS : ¬ u.S p := fun h => by
    obtain ⟨_, o, h1, _⟩ := S.st p h
    rw [hp] at h1; cases h1
  have l1 : Le u ⟨u.S, u.n, u.H0, upd u.H1 p (.lst vs)⟩ := ⟨fun _ h => h, .refl _⟩
  have G1 : Gs u ⟨u.S, u.n, u.H0, upd u.H1 p (.lst vs)⟩ := ⟨.refl _, fun x w _ hx => ex_new hp x w hx, fun x hx => by
      show upd u.H1 p _ x ≠ none
      by_cases q : x = p
      · subst q; rw [upd_same]; simp
      · rw [upd_ne q]; exact hx, S.ex.trans (ex_new hp), fun _ a b => absurd a b, fun _ h => h, fun _ h => .inl h, Nat.le_refl _⟩
  have T := S.go G1 (S.st.write nS)
  refine ⟨T.gr, T.st, by simp [S.len], fun j e q => ?_, fun j k e f a b h1 h2 m1 m2 ne q1 q2 => ?_⟩
  · by_cases q' : i = j
    · subst q'
      rw [get_set] at q
      by_cases hl : i < ds.length
      · simp [hl] at q
        subst q
        exact ⟨.ref p, by simp [get_set, S.len, hl], .mls nb n0 nS upd_same (h.mono l1)⟩
      · simp [hl] at q
    · rw [get_set, if_neg q'] at q
      obtain ⟨w, h1, h2⟩ := T.sl j e q
      exact ⟨w, by rw [get_set, if_neg q']; exact h1, h2⟩
  · -- a place that was told before is not the new one
    have old : ∀ (j : Nat) (e : D) (a : Addr), ds[j]? = some (some e) → isMut e = true → σ[j]? = some (some (.ref a)) → a ≠ p := fun j e a h m q z => by
      subst z
      obtain ⟨w, h1, h2⟩ := S.sl j e h
      rw [q] at h1
      cases h1
      cases h2 with
      | den hh => rw [hh.notMut] at m; cases m
      | mls _ _ _ hh _ => rw [hp] at hh; cases hh
      | mob _ _ _ hh _ _ _ => rw [hp] at hh; cases hh
      | mdk _ _ _ hh _ => rw [hp] at hh; cases hh
    by_cases k1 : i = j
    · subst k1
      rw [get_set] at q1
      by_cases hl : i < σ.length
      · simp [hl] at q1
        subst q1
        rw [get_set, if_neg ne] at h2 q2
        exact fun z => old k f b h2 m2 q2 z.symm
      · simp [hl] at q1
    · rw [get_set, if_neg k1] at h1 q1
      by_cases k2 : i = k
      · subst k2
        rw [get_set] at q2
        by_cases hl : i < σ.length
        · simp [hl] at q2
          subst q2
          exact old j e a h1 m1 q1
        · simp [hl] at q2
      · rw [get_set, if_neg k2] at h2 q2
        exact S.ap j k e f a b h1 h2 m1 m2 ne q1 q2
theorem ws_newlist {i : Nat} {t : TA} (h : Wa K t ds n fun xs m => xs.length ≤ 1000000 ∧ N.nx (ds.set i (some (.mls xs))) m) : Ws K (tAsg (tLst t) (gName i)) ds n N := fun b u σ De e S O =>
  h b u σ _ e S fun vs xs u1 g1 s1 r h2 => ⟨by rw [r.len]; exact sz100 h2.1, fun p hp => O.nx _ ⟨u1.S, u1.n, u1.H0, _⟩ _ ⟨g1.sub, g1.a⟩ ((S.go g1 s1).setMls hp r) h2.2⟩
/-- what a slot is making changes -/
theorem Sd.change {i : Nat} {a : Addr} {o : HO} {d d' : D} (S : Sd K b u σ ds) (hd : ds[i]? = some (some d)) (m : isMut d = true) (hs : σ[i]? = some (some (.ref a))) (m' : isMut d' = true) (hb : b.H1 a = none) (h0 : u.H0 a = none) (hS : ¬ u.S a)
    (hx' : ∀ x, u.H1 a ≠ some (.own x)) (new : DenS K b ⟨u.S, u.n, u.H0, upd u.H1 a o⟩ (.ref a) d') : Sd K b ⟨u.S, u.n, u.H0, upd u.H1 a o⟩ σ (ds.set i (some d')) := by
  have l1 : Le u ⟨u.S, u.n, u.H0, upd u.H1 a o⟩ := ⟨fun _ h => h, .refl _⟩
  refine ⟨S.gr.write hb h0, S.st.write hS, by simp [S.len], fun j e q => ?_, fun j k e f b c h1 h2 m1 m2 ne q1 q2 => ?_⟩
  · by_cases q' : i = j
    · subst q'
      have hl : i < ds.length := (List.getElem?_eq_some_iff.mp hd).1
      rw [get_set] at q
      simp [hl] at q
      subst q
      exact ⟨.ref a, hs, new⟩
    · rw [get_set, if_neg q'] at q
      obtain ⟨w, h1, h2⟩ := S.sl j e q
      refine ⟨w, h1, ?_⟩
      cases h2 with
      | den h => exact .den (h.mono l1)
      | mls b0 b1 b5 b2 b3 =>
        have z := S.ap i j _ _ _ _ hd q m rfl q' hs h1
        exact .mls b0 b1 b5 ((upd_ne z.symm).trans b2) (b3.mono l1)
      | mob b0 b1 b5 b2 b4 b6 b3 =>
        have z := S.ap i j _ _ _ _ hd q m rfl q' hs h1
        exact .mob b0 b1 b5 ((upd_ne z.symm).trans b2) ((upd_ne (fun z : _ = a => by rw [z] at b4; exact hx' _ b4)).trans b4) b6 (b3.mono l1)
      | mdk b0 b1 b5 b2 b3 =>
        have z := S.ap i j _ _ _ _ hd q m rfl q' hs h1
        exact .mdk b0 b1 b5 ((upd_ne z.symm).trans b2) (b3.mono l1)
  · have hl : i < ds.length := (List.getElem?_eq_some_iff.mp hd).1
    have at_ : ∀ (j : Nat) (e : D), (ds.set i (some d'))[j]? = some (some e) → isMut e = true → ∃ e', ds[j]? = some (some e') ∧ isMut e' = true := fun j e h m1 => by
      by_cases q : i = j
      · subst q; exact ⟨d, hd, m⟩
      · rw [get_set, if_neg q] at h; exact ⟨e, h, m1⟩
    obtain ⟨e', h1', m1'⟩ := at_ j e h1 m1
    obtain ⟨f', h2', m2'⟩ := at_ k f h2 m2
    exact S.ap j k e' f' b c h1' h2' m1' m2' ne q1 q2
/-- xs.append(e) -/
theorem ws_append {i : Nat} {xs : List D} (hd : ds[i]? = some (some (.mls xs))) (hz : xs.length < 1000000) (h : We K te ds n fun d m => N.nx (ds.set i (some (.mls (xs ++ [d])))) m) : Ws K (tDrop (tBM K "list" rAppend (tVar i) (tCons te tNil))) ds n N := fun b u σ De e S O => by
  obtain ⟨v, hv, hS⟩ := S.sl i _ hd
  cases hS with
  | den h => cases h
  | mls b0 b1 b5 b2 b3 =>
    rename_i a vs
    refine ⟨.ref a, hv, ⟨Or.inl ⟨rfl, vs, SqL.of b2⟩, h b u σ _ e S fun w d u1 g1 s1 r p => ?_⟩⟩
    have S' := S.go g1 s1
    obtain ⟨v', hv', hS'⟩ := S'.sl i _ hd
    rw [hv] at hv'
    cases hv'
    cases hS' with
    | den h => cases h
    | mls c0 c1 c5 c2 c3 =>
      have z : vs = _ := HO.lst.inj (Option.some.inj ((g1.b _ _ b5 b2).symm.trans c2))
      subst z
      have l1 : Le u1 ⟨u1.S, u1.n, u1.H0, upd u1.H1 a (.lst (vs ++ [w]))⟩ := ⟨fun _ h => h, .refl _⟩
      exact ⟨a, vs, w, rfl, rfl, c2, by rw [c3.len]; exact Nat.lt_of_lt_of_le hz (by decide), O.nx _ ⟨u1.S, u1.n, u1.H0, _⟩ _ ⟨g1.sub, g1.a⟩ (S'.change hd rfl hv rfl c0 c1 c5 (fun _ z => by rw [c2] at z; cases z) (.mls c0 c1 c5 upd_same ((c3.app (.cons r .nil)).mono l1))) p⟩
/-- what a slot is making is done -/
theorem Sd.settle {i : Nat} {xs : List D} (S : Sd K b u σ ds) (hd : ds[i]? = some (some (.mls xs))) : ∃ u', Le u u' ∧ u'.n = u.n ∧ u'.H1 = u.H1 ∧ Sd K b u' σ (ds.set i (some (.lst xs))) := by
  obtain ⟨v, hv, hS⟩ := S.sl i _ hd
  cases hS with
  | den h => cases h
  | mls b0 b1 b5 b2 b3 =>
    rename_i a vs
    have l1 : Le u ⟨u.S, u.n, upd u.H0 a (.lst vs), u.H1⟩ := ⟨fun _ h => h, ex_new b1⟩
    refine ⟨⟨u.S, u.n, upd u.H0 a (.lst vs), u.H1⟩, l1, rfl, rfl, S.gr.settle b0 b1 b2, S.st.settle b5, by simp [S.len], fun j e q => ?_, fun j k e f b c h1 h2 m1 m2 ne q1 q2 => ?_⟩
    · by_cases q' : i = j
      · subst q'
        have hl : i < ds.length := (List.getElem?_eq_some_iff.mp hd).1
        rw [get_set] at q
        simp [hl] at q
        subst q
        exact ⟨.ref a, hv, .den (.lst (SqL.of upd_same) (b3.mono l1))⟩
      · rw [get_set, if_neg q'] at q
        obtain ⟨w, h1, h2⟩ := S.sl j e q
        refine ⟨w, h1, ?_⟩
        cases h2 with
        | den h => exact .den (h.mono l1)
        | mls c0 c1 c5 c2 c3 => exact .mls c0 ((upd_ne (S.ap i j _ _ _ _ hd q rfl rfl q' hv h1).symm).trans c1) c5 c2 (c3.mono l1)
        | mob c0 c1 c5 c2 c4 c6 c3 => exact .mob c0 ((upd_ne (S.ap i j _ _ _ _ hd q rfl rfl q' hv h1).symm).trans c1) c5 c2 c4 c6 (c3.mono l1)
        | mdk c0 c1 c5 c2 c3 => exact .mdk c0 ((upd_ne (S.ap i j _ _ _ _ hd q rfl rfl q' hv h1).symm).trans c1) c5 c2 (c3.mono l1)
    · have hl : i < ds.length := (List.getElem?_eq_some_iff.mp hd).1
      have ni : ∀ (j : Nat) (e : D), (ds.set i (some (D.lst xs)))[j]? = some (some e) → isMut e = true → ds[j]? = some (some e) := fun j e h m => by
        by_cases q : i = j
        · subst q
          rw [get_set] at h
          simp [hl] at h
          subst h
          cases m
        · rw [get_set, if_neg q] at h; exact h
      exact S.ap j k e f b c (ni _ _ h1 m1) (ni _ _ h2 m2) m1 m2 ne q1 q2
theorem ws_settle {i : Nat} {xs : List D} (hd : ds[i]? = some (some (.mls xs))) (h : Ws K ts (ds.set i (some (.lst xs))) n N) : Ws K ts ds n N := fun b u σ De e S O => by
  obtain ⟨u', x, en, eh, S'⟩ := S.settle hd
  have := h b u' σ De (en.trans e) S' (O.mono x)
  rw [eh] at this
  exact this
theorem Ws.imp {N' : Nd} (h : Ws K ts ds n N) (h1 : ∀ d m, N.nx d m → N'.nx d m) (h2 : ∀ d m, N.rt d m → N'.rt d m) (h3 : ∀ d m, N.bk d m → N'.bk d m) (h4 : ∀ d m, N.ct d m → N'.ct d m) : Ws K ts ds n N' := fun b u σ De e S O =>
  h b u σ De e S ⟨fun ds u σ x S p => O.nx ds u σ x S (h1 _ _ p), fun d v u g s r p => O.rt d v u g s r (h2 _ _ p), fun ds u σ x S p => O.bk ds u σ x S (h3 _ _ p), fun ds u σ x S p => O.ct ds u σ x S (h4 _ _ p)⟩
end
end DL

namespace DL
open PySem L2 StX
open PyProof.Rows (envOfC)
section
variable {K : PySem.W.Frag} {b u u' u'' : Wd} {σ : L2.St} {ds : DS} {n : Nat} {P : D → Nat → Prop} {te ta tb tc : TE} {tt tu : TT} {N : Nd} {ts t1 t2 : TS} {g : TG} {De : Ends} {Pl : List D → Nat → Prop}
theorem ws_while (Iv : Nat → DS → Nat → Prop) (h0 : ∃ m, Iv m ds n) (hs : ∀ m ds' n', Iv m ds' n' → Wt K tt ds' n' fun c k => if c = true then Ws K ts ds' k { nx := fun d j => ∃ m', m' < m ∧ Iv m' d j, rt := N.rt, bk := N.nx, ct := fun d j => ∃ m', m' < m ∧ Iv m' d j } else N.nx ds' k) :
    Ws K (tWhile tt ts) ds n N := fun b u σ De e S O => by
  obtain ⟨m0, h0⟩ := h0
  refine ⟨fun m σ' H' => ∃ w ds', w.H1 = H' ∧ Le u w ∧ Sd K b w σ' ds' ∧ Iv m ds' w.n, ⟨m0, u, ds, rfl, .refl, S, e ▸ h0⟩, ?_⟩
  rintro m σ' H' ⟨w, ds', rfl, l, S', iv⟩
  refine hs m ds' w.n iv b w σ' _ rfl S' fun c u1 g1 s1 q => ?_
  cases c with
  | false => exact O.nx _ u1 _ (l.trans g1.ls) (S'.go g1 s1) q
  | true =>
    refine ⟨fun σ2 H2 => ∃ m', m' < m ∧ ∃ w ds', w.H1 = H2 ∧ Le u w ∧ Sd K b w σ2 ds' ∧ Iv m' ds' w.n, fun σ2 H2 q => q, ?_⟩
    refine q b u1 σ' _ rfl (S'.go g1 s1) ⟨?_, O.rt, ?_, ?_⟩
    · rintro ds3 u3 σ3 x S3 ⟨m', hm, q3⟩
      exact ⟨m', hm, u3, ds3, rfl, (l.trans g1.ls).trans x, S3, q3⟩
    · exact fun ds3 u3 σ3 x S3 q3 => O.nx _ u3 _ ((l.trans g1.ls).trans x) S3 q3
    · rintro ds3 u3 σ3 x S3 ⟨m', hm, q3⟩
      exact ⟨m', hm, u3, ds3, rfl, (l.trans g1.ls).trans x, S3, q3⟩
/-! ### what is walked gives the data xs -/
def Wi (K : PySem.W.Frag) (wi : TI) (ds : DS) (n : Nat) (P : List D → Nat → Prop) : Prop :=
  ∀ (b u : Wd) (σ : St) (R : It → Hp → Prop), u.n = n → Sd K b u σ ds → (∀ J xs u' G Y, Gs u u' → StOk u' → P xs u'.n → Walk J xs.length G Y → (∀ w, Le u' w → Ex w.H0 w.H1 → G w.H1) →
    (∀ w i v A, Le u' w → Ex w.H0 w.H1 → StOk w → i < xs.length → Y i w.H1 v A → ∃ x w', w'.H1 = A ∧ xs[i]? = some x ∧ Gp w w' ∧ Den K w' v x) → R J u'.H1) → wi σ u.H1 R
theorem ws_for {wi : TI} {g : TG} {tb : TS} (h : Wi K wi ds n fun xs m => ∃ Iv : Nat → DS → Nat → Prop, Iv 0 ds m ∧
    (∀ i x ds' k, xs[i]? = some x → Iv i ds' k → Wg K g x ds' fun ds2 => Ws K tb ds2 k { nx := Iv (i + 1), rt := N.rt, bk := N.nx, ct := Iv (i + 1) }) ∧ (∀ ds' k, Iv xs.length ds' k → N.nx ds' k)) : Ws K (tFor wi g tb) ds n N := fun b u σ De e S O =>
  h b u σ _ e S fun J xs u1 G Y g1 s1 ⟨Iv, i0, is, idn⟩ w hG hY => by
    refine for_it w (fun i σ' H' => ∃ w ds', w.H1 = H' ∧ Le u1 w ∧ Sd K b w σ' ds' ∧ Iv i ds' w.n) ⟨u1, ds, rfl, .refl, S.go g1 s1, i0⟩ (fun i σ' H' _ ⟨w, ds', eh, l, S', _⟩ => eh ▸ hG w l S'.ex) ?_ ?_
    · rintro i v σ' H' H'' hi ⟨w, ds', rfl, l, S', iv⟩ y
      obtain ⟨x, w', rfl, hx, g2, r⟩ := hY w i v H'' l S'.ex S'.st hi y
      have q := is i x ds' w.n hx iv
      rw [← g2.n] at q
      refine q b w' σ' v _ (S'.go g2.g (g2.st S'.st)) r fun ds2 σ2 S2 q => q b w' σ2 _ rfl S2 ⟨fun ds3 u3 σ3 x S3 q3 => ⟨u3, ds3, rfl, (l.trans g2.g.ls).trans x, S3, q3⟩, O.rt, fun ds3 u3 σ3 x S3 q3 => O.nx _ u3 _ (g1.ls.trans ((l.trans g2.g.ls).trans x)) S3 q3, fun ds3 u3 σ3 x S3 q3 => ⟨u3, ds3, rfl, (l.trans g2.g.ls).trans x, S3, q3⟩⟩
    · rintro σ' H' ⟨w, ds', rfl, l, S', iv⟩
      exact O.nx _ w _ (g1.ls.trans l) S' (idn ds' _ iv)
theorem wi_list (h : We K te ds n fun d m => ∃ xs, d = .lst xs ∧ Pl xs m) : Wi K (iList K te) ds n Pl := fun b u σ R e S k =>
  h b u σ _ e S fun v d u1 g1 s1 r ⟨xs, z, p⟩ => by
    subst z
    obtain ⟨a, vs, rfl, q, r⟩ := den_lst r
    refine ⟨a, rfl, ⟨vs, Evl.ex_l g1.c q⟩, k _ xs u1 _ _ g1 s1 p (r.len ▸ walk_list (K := K) (a := a) (xs := vs)) (fun w l e => Evl.ex_l e (Evl.ex_l l.h q)) fun w i v A l e1 _ hi y => ?_⟩
    obtain ⟨rfl, y⟩ := y
    obtain ⟨z, hz, hd⟩ := r.get y
    exact ⟨z, w, rfl, hz, .refl e1, hd.mono l⟩
theorem wi_tup (h : We K te ds n fun d m => ∃ xs, d = .tup xs ∧ Pl xs m) : Wi K (iTup K te) ds n Pl := fun b u σ R e S k =>
  h b u σ _ e S fun v d u1 g1 s1 r ⟨xs, z, p⟩ => by
    subst z
    obtain ⟨a, vs, rfl, q, r⟩ := den_tup r
    refine ⟨a, rfl, ⟨vs, Evl.ex_t g1.c q⟩, k _ xs u1 _ _ g1 s1 p (r.len ▸ walk_tup (K := K) (a := a) (xs := vs)) (fun w l e => Evl.ex_t e (Evl.ex_t l.h q)) fun w i v A l e1 _ hi y => ?_⟩
    obtain ⟨rfl, y⟩ := y
    obtain ⟨z, hz, hd⟩ := r.get y
    exact ⟨z, w, rfl, hz, .refl e1, hd.mono l⟩
def rng (lo : Int) (n : Nat) : List D := (List.range n).map fun (i : Nat) => D.int (lo + (i : Int))
theorem rng_len (lo : Int) (n : Nat) : (rng lo n).length = n := by simp [rng]
theorem rng_get {lo : Int} {n i : Nat} (h : i < n) : (rng lo n)[i]? = some (.int (lo + i)) := by simp [rng, h]
theorem rng_get' {lo : Int} {n i : Nat} {x : D} (h : (rng lo n)[i]? = some x) : i < n ∧ x = .int (lo + i) := by
  have hl : i < n := by
    have := (List.getElem?_eq_some_iff.mp h).1
    simpa [rng_len] using this
  rw [rng_get hl] at h
  exact ⟨hl, (Option.some.inj h).symm⟩
theorem wi_rng {lo : Int} {n : Nat} {R : It → Hp → Prop} (g : Gs u u') (s : StOk u') (p : Pl (rng lo n) u'.n) (k : ∀ J xs u' G Y, Gs u u' → StOk u' → Pl xs u'.n → Walk J xs.length G Y → (∀ w, Le u' w → Ex w.H0 w.H1 → G w.H1) →
    (∀ w i v A, Le u' w → Ex w.H0 w.H1 → StOk w → i < xs.length → Y i w.H1 v A → ∃ x w', w'.H1 = A ∧ xs[i]? = some x ∧ Gp w w' ∧ Den K w' v x) → R J u'.H1) : R (Itr lo n) u'.H1 := by
  refine k _ (rng lo n) u' _ _ g s p (by rw [rng_len]; exact walk_range (lo := lo) (n := n)) (fun _ _ _ => trivial) fun w i v A l e1 _ hi y => ?_
  obtain ⟨rfl, rfl⟩ := y
  exact ⟨.int (lo + i), w, rfl, rng_get (by simpa [rng_len] using hi), .refl e1, .int _⟩
theorem wi_range1 {t : TA} (h : Wa K t ds n fun xs m => ∃ j : Int, xs = [.int j] ∧ (-(2 ^ 62) ≤ j ∧ j < 2 ^ 62) ∧ Pl (rng 0 j.toNat) m) : Wi K (iRng1 t) ds n Pl := fun b u σ R e S k =>
  h b u σ _ e S fun vs d u1 g1 s1 r ⟨j, z, ⟨b1, b2⟩, p⟩ => by
    subst z
    obtain ⟨v, rfl, r1⟩ := dens1 r
    cases den_int r1
    exact ⟨j, rfl, b1, b2, wi_rng g1 s1 p k⟩
theorem wi_range2 {t : TA} (h : Wa K t ds n fun xs m => ∃ i j : Int, xs = [.int i, .int j] ∧ (-(2 ^ 62) ≤ i ∧ i < 2 ^ 62 ∧ -(2 ^ 62) ≤ j ∧ j < 2 ^ 62) ∧ Pl (rng i (j - i).toNat) m) : Wi K (iRng2 t) ds n Pl := fun b u σ R e S k =>
  h b u σ _ e S fun vs d u1 g1 s1 r ⟨i, j, z, hb, p⟩ => by
    subst z
    obtain ⟨v, w, rfl, r1, r2⟩ := dens2 r
    cases den_int r1
    cases den_int r2
    exact ⟨i, j, rfl, hb, wi_rng g1 s1 p k⟩
def signs (z : Str) : List D := z.cps.toList.map fun c => D.str ⟨#[c]⟩
theorem signs_len (z : Str) : (signs z).length = z.cps.size := by simp [signs]
theorem wi_str (h : We K te ds n fun d m => ∃ z, d = .str z ∧ Pl (signs z) m) : Wi K (iStr te) ds n Pl := fun b u σ R e S k =>
  h b u σ _ e S fun v d u1 g1 s1 r ⟨z, hz, p⟩ => by
    subst hz
    cases den_str r
    refine ⟨z, rfl, k _ (signs z) u1 _ _ g1 s1 p ((signs_len z).symm ▸ walk_str (z := z)) (fun _ _ _ => trivial) fun w i v A l e1 _ hi y => ?_⟩
    obtain ⟨rfl, c, hc, rfl⟩ := y
    exact ⟨.str ⟨#[c]⟩, w, rfl, by simp [signs, hc], .refl e1, .str _⟩
def enumD (xs : List D) : List D := (List.range xs.length).zipWith (fun (i : Nat) x => D.tup [.int (i : Int), x]) xs
theorem enumD_len (xs : List D) : (enumD xs).length = xs.length := by simp [enumD]
theorem enumD_get {xs : List D} {i : Nat} {x : D} (h : xs[i]? = some x) : (enumD xs)[i]? = some (.tup [.int (i : Nat), x]) := by
  have hl := (List.getElem?_eq_some_iff.mp h).1
  simp only [enumD, List.getElem?_zipWith, h, List.getElem?_range hl]
/-- a new pair -/
theorem gp_pair {w : Wd} {T : Addr} {x y : V} {d e : D} (e1 : Ex w.H0 w.H1) (hT : w.H1 T = none) (hx : Den K w x d) (hy : Den K w y e) : Gp w (w.put T (.tup [x, y])) ∧ Den K (w.put T (.tup [x, y])) (.ref T) (.tup [d, e]) :=
  ⟨.put e1 hT, .tup (SqT.of upd_same) (.cons (hx.mono (Gs.put e1 hT).ls) (.cons (hy.mono (Gs.put e1 hT).ls) .nil))⟩
theorem wi_enum {t : TA} (h : Wa K t ds n fun ys m => ∃ xs, ys = [.lst xs] ∧ Pl (enumD xs) m) : Wi K (iEnum K t) ds n Pl := fun b u σ R e S k =>
  h b u σ _ e S fun vs d u1 g1 s1 r ⟨xs, z, p⟩ => by
    subst z
    obtain ⟨v, rfl, r1⟩ := dens1 r
    clear r
    obtain ⟨a, ws, rfl, q, r⟩ := den_lst r1
    refine ⟨a, ws, rfl, Evl.ex_l g1.c q, k _ (enumD xs) u1 _ _ g1 s1 p (by rw [enumD_len, ← r.len]; exact walk_enum (K := K) (a := a) (xs := ws)) (fun w l e => Evl.ex_l e (Evl.ex_l l.h q)) fun w i v A l e1 _ hi y => ?_⟩
    obtain ⟨T, x, y, rfl, hT, rfl, hx, hy⟩ := y
    cases hx
    obtain ⟨z, hz, hd⟩ := r.get hy
    obtain ⟨g2, d2⟩ := gp_pair e1 hT (.int (i : Nat)) (hd.mono l)
    exact ⟨_, _, rfl, enumD_get hz, g2, d2⟩
def zipD (xs ys : List D) : List D := xs.zipWith (fun x y => D.tup [x, y]) ys
theorem wi_zip {t : TA} (h : Wa K t ds n fun zs m => ∃ xs ys, zs = [.lst xs, .lst ys] ∧ Pl (zipD xs ys) m) : Wi K (iZip K t) ds n Pl := fun b u σ R e S k =>
  h b u σ _ e S fun vs d u1 g1 s1 r ⟨xs, ys, z, p⟩ => by
    subst z
    obtain ⟨v, w, rfl, r1, r2⟩ := dens2 r
    clear r
    obtain ⟨a, ws, rfl, q, r⟩ := den_lst r1
    obtain ⟨a', ws', rfl, q', r'⟩ := den_lst r2
    refine ⟨a, a', ws, ws', rfl, Evl.ex_l g1.c q, Evl.ex_l g1.c q', k _ (zipD xs ys) u1 _ _ g1 s1 p (walk_zip (K := K) (a := a) (b := a') (xs := ws) (ys := ws') (by simp [zipD, r.len, r'.len])) (fun w l e => ⟨Evl.ex_l e (Evl.ex_l l.h q), Evl.ex_l e (Evl.ex_l l.h q')⟩) fun w i v A l e1 _ hi y => ?_⟩
    obtain ⟨T, x, y, rfl, hT, rfl, hx, hy⟩ := y
    obtain ⟨z, hz, hd⟩ := r.get hx
    obtain ⟨z', hz', hd'⟩ := r'.get hy
    obtain ⟨g2, d2⟩ := gp_pair e1 hT (hd.mono l) (hd'.mono l)
    exact ⟨_, _, rfl, by simp [zipD, List.getElem?_zipWith, hz, hz'], g2, d2⟩
/-! ### comprehensions -/
def wipeD (ds : DS) : List Nat → DS
  | [] => ds
  | v :: vs => (wipeD ds vs).set v none
theorem Sd.wipe (S : Sd K b u σ ds) : ∀ vs : List Nat, Sd K b u (L2.wipe σ vs) (wipeD ds vs)
  | [] => S
  | v :: vs => (Sd.wipe S vs).drop
theorem wipe_get (σ : St) (i : Nat) : ∀ vs : List Nat, (L2.wipe σ vs)[i]? = if i ∈ vs then (if i < σ.length then some none else none) else σ[i]?
  | [] => by simp [L2.wipe]
  | v :: vs => by
    show ((L2.wipe σ vs).set v none)[i]? = _
    rw [get_set, wipe_length, wipe_get σ i vs]
    by_cases h : v = i
    · subst h; simp
    · have h' : i ≠ v := fun z => h z.symm
      simp [h, h']
theorem wipe_of {σ σ' : St} {vs : List Nat} (hl : σ'.length = σ.length) (h : ∀ j, j ∉ vs → σ'[j]? = (L2.wipe σ vs)[j]?) : L2.wipe σ' vs = L2.wipe σ vs := by
  apply List.ext_getElem?
  intro i
  rw [wipe_get]
  by_cases q : i ∈ vs
  · rw [if_pos q, wipe_get, if_pos q, hl]
  · rw [if_neg q, h i q]
def Wgc (K : PySem.W.Frag) (g : TG) (js : List Nat) (x : D) (ds : DS) (P : DS → Prop) : Prop :=
  ∀ (b u : Wd) (σ : St) (v : V) (Q : St → Hp → Prop), Sd K b u σ ds → Den K u v x → (∀ ds' σ', Sd K b u σ' ds' → σ'.length = σ.length → (∀ j, j ∉ js → σ'[j]? = σ[j]?) → P ds' → Q σ' u.H1) → g v σ u.H1 Q
def Wgsc (K : PySem.W.Frag) (g : TGs) (js : List Nat) (xs : List D) (ds : DS) (P : DS → Prop) : Prop :=
  ∀ (b u : Wd) (σ : St) (vs : List V) (Q : St → Hp → Prop), Sd K b u σ ds → Dens K u vs xs → (∀ ds' σ', Sd K b u σ' ds' → σ'.length = σ.length → (∀ j, j ∉ js → σ'[j]? = σ[j]?) → P ds' → Q σ' u.H1) → g vs σ u.H1 Q
theorem wgc_name {i : Nat} {js : List Nat} {x : D} {P : DS → Prop} (hi : i ∈ js) (p : P (ds.set i (some x))) : Wgc K (gName i) js x ds P := fun b u σ v Q S r k =>
  k _ _ (S.set r) (by simp) (fun j hj => by rw [get_set, if_neg (fun z : i = j => hj (by rw [← z]; exact hi))]) p
theorem wgsc_nil {P : DS → Prop} {js : List Nat} {xs : List D} (e : xs = []) (p : P ds) : Wgsc K gNil js xs ds P := fun b u σ v Q S r k => by
  subst e
  cases r
  exact ⟨rfl, k _ _ S rfl (fun _ _ => rfl) p⟩
theorem wgsc_cons {P : DS → Prop} {js : List Nat} {x : D} {xs ys : List D} {gs : TGs} (e : ys = x :: xs) (h : Wgc K g js x ds fun ds' => Wgsc K gs js xs ds' P) : Wgsc K (gCons g gs) js ys ds P := fun b u σ v Q S r k => by
  subst e
  cases r with
  | cons r1 r2 =>
    rename_i v vs
    exact ⟨v, vs, rfl, h b u σ v _ S r1 fun ds' σ' S' l1 f1 q => q b u σ' vs _ S' r2 fun ds2 σ2 S2 l2 f2 p => k ds2 σ2 S2 (l2.trans l1) (fun j hj => (f2 j hj).trans (f1 j hj)) p⟩
theorem wgc_tup {P : DS → Prop} {js : List Nat} {j : Nat} {x : D} {xs : List D} {gs : TGs} (e : x = .tup xs) (hn : xs.length = j) (h : Wgsc K gs js xs ds P) : Wgc K (gTup K j gs) js x ds P := fun b u σ v Q S r k => by
  subst e
  obtain ⟨a, vs, rfl, q, r2⟩ := den_tup r
  exact ⟨_, _, rfl, Evl.ex_t S.ex q, r2.len.trans hn, h b u σ _ Q S r2 k⟩
theorem we_lc {wi : TI} {vs : List Nat} (h : Wi K wi ds n fun xs m => ∃ Iv : Nat → List D → Nat → Prop, Iv 0 [] m ∧
    (∀ i x ys k, xs[i]? = some x → Iv i ys k → Wgc K g vs x (wipeD ds vs) fun ds2 => Wt K tt ds2 k fun c j => if c = true then We K te ds2 j (fun y l => ys.length < 1000000 ∧ Iv (i + 1) (ys ++ [y]) l) else Iv (i + 1) ys j) ∧
    (∀ ys k, Iv xs.length ys k → P (.lst ys) k)) : We K (tLc wi g tt te vs) ds n P := fun b u σ Q e S k =>
  h b u σ _ e S fun J xs u1 G Y g1 s1 ⟨Iv, i0, is, idn⟩ w hG hY => fun Dl hD => by
    have n0 : u1.H0 Dl = none := ex_none g1.c hD
    have nS : ¬ u1.S Dl := fun h => by
      obtain ⟨_, o, h1, _⟩ := s1 Dl h
      rw [hD] at h1; cases h1
    refine lc_it w (fun i H' => ∃ w ys acc, w.H1 = H' ∧ Gs u1 w ∧ StOk w ∧ w.H0 Dl = none ∧ ¬ w.S Dl ∧ H' Dl = some (.lst acc) ∧ Dens K w acc ys ∧ Iv i ys w.n)
      ⟨⟨u1.S, u1.n, u1.H0, upd u1.H1 Dl (.lst [])⟩, [], [], rfl, (Gs.refl g1.c).write hD n0, s1.write nS, n0, nS, upd_same, .nil, i0⟩ (fun i H' _ ⟨w, ys, acc, eh, g', _⟩ => eh ▸ hG w g'.ls g'.c) ?_ ?_
    · rintro i v H' H'' hi ⟨w, ys, acc, rfl, g', sw, c0, cS, hc, hr, iv⟩ y
      obtain ⟨x, w', rfl, hx, g2, r⟩ := hY w i v H'' g'.ls g'.c sw hi y
      have c1 := g2.g.nn c0 hc
      have cS1 := g2.g.ns cS hc
      have hc1 := g2.g.b _ _ cS hc
      have S1 := ((S.go g1 s1).go (g'.trans g2.g) (g2.st sw)).wipe vs
      have q := is i x ys w.n hx iv
      rw [← g2.n] at q
      refine q b w' (L2.wipe σ vs) v _ S1 r fun ds2 σ2 S2 l2 f2 q => ⟨wipe_of (l2.trans (wipe_length _ _)) f2, q b w' σ2 _ rfl S2 fun c u3 g3 s3 q3 => ?_⟩
      have c2 := g3.nn c1 hc1
      have cS2 := g3.ns cS1 hc1
      have hc2 := g3.b _ _ cS1 hc1
      cases c with
      | false => exact ⟨u3, ys, acc, rfl, (g'.trans g2.g).trans g3, s3, c2, cS2, hc2, hr.mono (g2.g.ls.trans g3.ls), q3⟩
      | true =>
        refine q3 b u3 σ2 _ rfl (S2.go g3 s3) fun y d u4 g4 s4 r4 ⟨hl, p4⟩ => ?_
        have c3 := g4.nn c2 hc2
        have cS3 := g4.ns cS2 hc2
        have hc3 := g4.b _ _ cS2 hc2
        have l4 : Le u4 ⟨u4.S, u4.n, u4.H0, upd u4.H1 Dl (.lst (acc ++ [y]))⟩ := ⟨fun _ h => h, .refl _⟩
        exact ⟨acc, hc3, by rw [hr.len]; exact Nat.lt_of_lt_of_le hl (by decide), ⟨u4.S, u4.n, u4.H0, upd u4.H1 Dl (.lst (acc ++ [y]))⟩, ys ++ [d], acc ++ [y], rfl, (((g'.trans g2.g).trans g3).trans g4).write hD c3, s4.write cS3, c3, cS3, upd_same, ((hr.mono ((g2.g.ls.trans g3.ls).trans g4.ls)).app (.cons r4 .nil)).mono l4, p4⟩
    · rintro H' ⟨w, ys, acc, rfl, g', sw, c0, cS, hc, hr, iv⟩
      have l1 : Le w ⟨w.S, w.n, upd w.H0 Dl (.lst acc), w.H1⟩ := ⟨fun _ h => h, ex_new c0⟩
      exact k _ _ ⟨w.S, w.n, upd w.H0 Dl (.lst acc), w.H1⟩ (g1.trans (g'.settle hD c0 hc)) (sw.settle cS) (.lst (SqL.of upd_same) (hr.mono l1)) (idn ys _ iv)
end
/-! ### defs -/
abbrev Rl := List D → Nat → (D → Nat → Prop) → Prop
/-- a def that draws nothing -/
abbrev pr (R : List D → (D → Prop) → Prop) : Rl := fun ds n P => R ds fun d => P d n
def spD (K : PySem.W.Frag) (R : Rl) : Sp := fun vs H Q _ => ∃ (u : Wd) (ds : List D) (P : D → Nat → Prop), u.H1 = H ∧ Ex u.H0 u.H1 ∧ StOk u ∧ Dens K u vs ds ∧ R ds u.n P ∧ ∀ v d u', Gs u u' → StOk u' → Den K u' v d → P d u'.n → Q v u'.H1
/-- of an __init__: the fields that the new object has -/
abbrev Ri := List D → (List (Str × D) → Prop) → Prop
def spI (K : PySem.W.Frag) (C : Addr) (R : Ri) : Sp := fun vs H Q _ => ∃ (x dx : Addr) (ws : List V) (u : Wd) (ds : List D) (P : List (Str × D) → Prop), vs = .ref x :: ws ∧ u.H1 x = none ∧ u.H1 dx = none ∧ dx ≠ x ∧ H = upd (upd u.H1 dx (.own x)) x (.ins C dx []) ∧ Ex u.H0 u.H1 ∧ StOk u ∧ Dens K u ws ds ∧ R ds P ∧
  ∀ fs gs u', Gs u u' → StOk u' → u'.n = u.n → u'.H0 x = none → ¬ u'.S x → u'.H1 x = some (.ins C dx fs) → u'.H1 dx = some (.own x) → DenF K u' fs gs → P gs → Q .non u'.H1
section
variable {K : PySem.W.Frag} {b u u' u'' : Wd} {σ : L2.St} {ds : DS} {n : Nat} {P : D → Nat → Prop} {te ta tb tc : TE} {tt tu : TT} {N : Nd} {ts t1 t2 : TS} {g : TG} {De : Ends} {E : XK} {C : Addr} {R : Rl}
theorem we_call {t : TA} (h : Wa K t ds n fun xs m => R xs m P) : We K (tCall (spD K R) [] E t) ds n P := fun b u σ Q e S k =>
  h b u σ _ e S fun vs xs u1 g1 s1 r p => ⟨u1, xs, P, rfl, g1.c, s1, by rw [List.append_nil]; exact r, p, fun v d u2 g2 s2 r' p' => k v d u2 (g1.trans g2) s2 r' p'⟩
theorem we_call0 (h : R [] n P) : We K (tCall (spD K R) [] E tNil) ds n P := we_call (wa_nil h)
theorem we_meth {m : Str} {t : TA} (h : We K ta ds n fun o j => ∃ fs, o = .obj C fs ∧ fs.lookup m = none ∧ Wa K t ds j fun xs k => R (o :: xs) k P) : We K (tMeth C m (spD K R) [] E ta t) ds n P := fun b u σ Q e S k =>
  h b u σ _ e S fun v o u1 g1 s1 r ⟨fs, z, hl, q⟩ => by
    subst z
    obtain ⟨a, dx, fv, rfl, ha, hf⟩ := den_obj r
    refine ⟨a, dx, fv, rfl, g1.c _ _ ha, hf.miss hl, q b u1 σ _ rfl (S.go g1 s1) fun vs xs u2 g2 s2 r2 p2 => ?_⟩
    exact ⟨u2, _ :: xs, P, rfl, g2.c, s2, by rw [List.append_nil]; exact .cons (r.mono g2.ls) r2, p2, fun v d u3 g3 s3 r' p' => k v d u3 ((g1.trans g2).trans g3) s3 r' p'⟩
theorem we_prop (h : We K ta ds n fun o j => ∃ fs, o = .obj C fs ∧ R [o] j P) : We K (tProp C (spD K R) [] E ta) ds n P := fun b u σ Q e S k =>
  h b u σ _ e S fun v o u1 g1 s1 r ⟨fs, z, p⟩ => by
    subst z
    obtain ⟨a, dx, fv, rfl, ha, hf⟩ := den_obj r
    exact ⟨a, dx, fv, rfl, g1.c _ _ ha, u1, _, P, rfl, g1.c, s1, .cons r .nil, p, fun v d u3 g3 s3 r' p' => k v d u3 (g1.trans g3) s3 r' p'⟩
theorem we_make {t : TA} {R : Ri} (h : Wa K t ds n fun xs m => R xs fun gs => P (.obj C gs) m) : We K (tMake C (spI K C R) [] E t) ds n P := fun b u σ Q e S k =>
  h b u σ _ e S fun vs xs u1 g1 s1 r p => fun x dx hx hdx ne => ⟨x, dx, vs, u1, xs, _, by rw [List.append_nil], hx, hdx, ne, rfl, g1.c, s1, r, p, fun fs gs u2 g2 s2 en n0 nS h1 h2 hf pg => ⟨rfl, by
    have l1 : Le u2 ⟨u2.S, u2.n, upd u2.H0 x (.ins C dx fs), u2.H1⟩ := ⟨fun _ h => h, ex_new n0⟩
    exact k _ _ ⟨u2.S, u2.n, upd u2.H0 x (.ins C dx fs), u2.H1⟩ (g1.trans (g2.settle hx n0 h1)) (s2.settle nS) (.obj upd_same (hf.mono l1)) (en ▸ pg)⟩⟩
/-- self.f = e, in an __init__ -/
theorem ws_fld {i : Nat} {f : Str} {a dx : Addr} {fs : List (Str × D)} (hd : ds[i]? = some (some (.mob a dx C fs))) (hc : Cls K C) (hn : NoAttr K C f) (hz : fs.length < 1000) (h : We K te ds n fun d m => N.nx (ds.set i (some (.mob a dx C (putD f d fs)))) m) : Ws K (sFld K (tVar i) te f) ds n N := fun b u σ De e S O =>
  h b u σ _ e S fun w d u1 g1 s1 r p => by
    have S' := S.go g1 s1
    obtain ⟨v, hv, hS⟩ := S'.sl i _ hd
    cases hS with
    | den h => cases h
    | mob c0 c1 c5 c2 c4 c6 c3 =>
      rename_i fv
      have na : dx ≠ a := fun z => by rw [z, c2] at c4; cases c4
      have l1 : Le u1 ⟨u1.S, u1.n, u1.H0, upd u1.H1 a (.ins C dx (putF f w fv))⟩ := ⟨fun _ h => h, .refl _⟩
      exact ⟨.ref a, hv, a, C, dx, fv, rfl, c2, hc, hn, by rw [c3.len]; exact hz, O.nx _ ⟨u1.S, u1.n, u1.H0, _⟩ _ ⟨g1.sub, g1.a⟩ (S'.change hd rfl hv rfl c0 c1 c5 (fun _ z => by rw [c2] at z; cases z) (.mob c0 c1 c5 upd_same ((upd_ne na).trans c4) c6 ((DenF.put r c3).mono l1))) p⟩
variable {Pr : Program} {w : World} {mg : Str → Option Value} {base : Heap}
theorem start_get {N : List Str} {vs : List V} (h : vs.length ≤ N.length) : (L2.start N vs).length = N.length := by simp [L2.start]; omega
def startD (n : Nat) (ds : List D) : DS := ds.map some ++ List.replicate (n - ds.length) none
theorem sd_start {N : List Str} {vs : List V} {xs : List D} (e : Ex u.H0 u.H1) (st : StOk u) (r : Dens K u vs xs) (hl : vs.length ≤ N.length) : Sd K u u (L2.start N vs) (startD N.length xs) := by
  have get : ∀ (i : Nat) (d : D), (startD N.length xs)[i]? = some (some d) → xs[i]? = some d := fun i d h => by
    unfold startD at h
    rw [List.getElem?_append] at h
    by_cases q : i < (xs.map some).length
    · rw [if_pos q] at h
      simpa using h
    · rw [if_neg q, List.getElem?_replicate] at h
      split at h <;> cases h
  refine ⟨.refl e, st, by rw [start_get hl]; simp [startD, r.len.symm]; omega, fun i d h => ?_, fun i j d e a b h1 h2 m1 m2 => ?_⟩
  · obtain ⟨v, hv, hd⟩ := r.getD (get i d h)
    refine ⟨v, ?_, .den hd⟩
    unfold L2.start
    rw [List.getElem?_append_left (by simpa using (List.getElem?_eq_some_iff.mp hv).1)]
    simp [hv]
  · obtain ⟨v, hv, hd⟩ := r.getD (get i d h1)
    rw [hd.notMut] at m1
    cases m1
/-- a def keeps its promise: its body, told by data -/
theorem dok {x qual : Str} {st : Stmt} {f : Addr} {fd : FuncData} {N ps : List Str} {k : Nat} (F : Fun K x qual st f fd) (S : FnScope N ps (defScope st)) (len : ∀ ds n P, R ds n P → ds.length = ps.length) (hNp : ps.length ≤ N.length)
    (hbody : ∀ (cdv : Value) (A : Around) (outer : List Env) (s : Shared) (H : Hp) (E : XK), Room k (A.deeper (envOfC qual (defScope st) s.heap.objs.size f cdv)) →
      ∃ t, PSs (cxOf CX0 Pr w K mg base N qual (defScope st) f cdv A outer s H E).nox (defBody st) t ∧ ∀ ds n P, R ds n P → Ws K t (startD N.length ds) n { nx := fun _ m => P .non m, rt := P }) : FnOk Pr w K mg base CX0 (k + 1) f fd ps (spD K R) := by
  refine F.ok S (fun vs H Q E ⟨u, ds, P, _, e, _, r, h, _⟩ => by rw [r.len]; exact len ds _ P h) (fun cdv A outer s H vs Q E hr ⟨u, ds, P, eh, e, st, r, h, q⟩ => ?_)
  obtain ⟨t, ht, hW⟩ := hbody cdv A outer s H E hr
  subst eh
  refine ⟨t, ht, hW ds u.n P h u u _ _ rfl (sd_start e st r (by rw [r.len, len ds _ P h]; exact hNp)) ⟨fun ds' v σ' _ S' p => q _ _ _ S'.gr S'.st .non p, fun d v v' g s r p => q v d v' g s r p, fun _ _ _ _ _ z => z.elim, fun _ _ _ _ _ z => z.elim⟩⟩
theorem dokI {x qual : Str} {st : Stmt} {f : Addr} {fd : FuncData} {N ps : List Str} {k : Nat} {R : Ri} (F : Fun K x qual st f fd) (S : FnScope N ps (defScope st)) (len : ∀ ds P, R ds P → ds.length + 1 = ps.length) (hNp : ps.length ≤ N.length)
    (hbody : ∀ (cdv : Value) (A : Around) (outer : List Env) (s : Shared) (H : Hp) (E : XK), Room k (A.deeper (envOfC qual (defScope st) s.heap.objs.size f cdv)) →
      ∃ t, PSs (cxOf CX0 Pr w K mg base N qual (defScope st) f cdv A outer s H E).nox (defBody st) t ∧ ∀ x dx ds n P, R ds P → Ws K t (some (.mob x dx C []) :: startD (N.length - 1) ds) n { nx := fun ds' m => m = n ∧ ∃ gs, ds'[0]? = some (some (.mob x dx C gs)) ∧ P gs, rt := fun _ _ => False }) : FnOk Pr w K mg base CX0 (k + 1) f fd ps (spI K C R) := by
  refine F.ok S (fun vs H Q E ⟨x, dx, ws, u, ds, P, e, _, _, _, _, _, _, r, h, _⟩ => by subst e; rw [List.length_cons, r.len]; exact len ds P h) (fun cdv A outer s H vs Q E hr ⟨x, dx, ws, u, ds, P, e, hx, hdx, ne, eH, ex, st, r, h, q⟩ => ?_)
  obtain ⟨t, ht, hW⟩ := hbody cdv A outer s H E hr
  subst e
  subst eH
  have hl := len ds P h
  obtain ⟨j, hn⟩ : ∃ j, N.length = j + 1 := ⟨N.length - 1, by omega⟩
  have x0 : u.H0 x = none := ex_none ex hx
  have dx0 : u.H0 dx = none := ex_none ex hdx
  have xS : ¬ u.S x := fun h => by
    obtain ⟨_, o, h1, _⟩ := st x h
    rw [hx] at h1; cases h1
  have dxS : ¬ u.S dx := fun h => by
    obtain ⟨_, o, h1, _⟩ := st dx h
    rw [hdx] at h1; cases h1
  have g : Gs u ⟨u.S, u.n, u.H0, upd (upd u.H1 dx (.own x)) x (.ins C dx [])⟩ := ((Gs.refl ex).write (o := .own x) hdx dx0).write (o := .ins C dx []) hx x0
  have s2 : StOk ⟨u.S, u.n, u.H0, upd (upd u.H1 dx (.own x)) x (.ins C dx [])⟩ := (st.write (o := .own x) dxS).write (o := .ins C dx []) xS
  have S0 : Sd K u ⟨u.S, u.n, u.H0, upd (upd u.H1 dx (.own x)) x (.ins C dx [])⟩ (L2.start N (.ref x :: ws)) (some (.mob x dx C []) :: startD (N.length - 1) ds) := by
    cases hN : N with
    | nil => rw [hN] at hn; cases hn
    | cons y N' =>
      have T := (sd_start (N := N') (vs := ws) ex st r (by rw [hN] at hNp; simp at hNp; rw [r.len]; omega)).go g s2
      have es : L2.start (y :: N') (V.ref x :: ws) = some (V.ref x) :: L2.start N' ws := by simp [L2.start]
      rw [es]
      have nm : ∀ (i : Nat) (d : D), (some (D.mob x dx C []) :: startD ((y :: N').length - 1) ds)[i]? = some (some d) → isMut d = true → i = 0 := fun i d h m => by
        cases i with
        | zero => rfl
        | succ i =>
          have h' : (startD N'.length ds)[i]? = some (some d) := by simpa using h
          unfold startD at h'
          rw [List.getElem?_append] at h'
          by_cases q : i < (ds.map some).length
          · rw [if_pos q] at h'
            have h3 : ds[i]? = some d := by simpa using h'
            obtain ⟨v, _, hd⟩ := r.getD h3
            rw [hd.notMut] at m
            cases m
          · rw [if_neg q, List.getElem?_replicate] at h'
            split at h' <;> cases h'
      refine ⟨g, s2, by simpa using T.len, fun i d hi => ?_, fun i j d e a b h1 h2 m1 m2 nij => absurd ((nm i d h1 m1).trans (nm j e h2 m2).symm) nij⟩
      cases i with
      | zero =>
        simp at hi
        subst hi
        exact ⟨.ref x, by simp, .mob hx x0 xS upd_same ((upd_ne ne).trans upd_same) dxS .nil⟩
      | succ i =>
        obtain ⟨v, hv, hd⟩ := T.sl i d (by simpa using hi)
        exact ⟨v, by simpa using hv, hd⟩
  refine ⟨t, ht, hW x dx ds u.n P h u ⟨u.S, u.n, u.H0, _⟩ _ _ rfl S0 ⟨fun ds' u2 σ' _ S' ⟨en, gs, hg, p⟩ => ?_, fun d v _ _ _ _ p => p.elim, fun _ _ _ _ _ z => z.elim, fun _ _ _ _ _ z => z.elim⟩⟩
  obtain ⟨v, _, hS⟩ := S'.sl 0 _ hg
  cases hS with
  | den z => cases z
  | mob c0 c1 c5 c2 c4 c6 c3 => exact q _ gs u2 S'.gr S'.st en c1 c5 c2 c4 c3 p
end
end DL

namespace L2
open PySem PySem.Spec PyProof.Rows
section
variable {X : Cx}
/-- list + list, whatever the lists are -/
def rCatL (K : PySem.W.Frag) : R2 := fun x y H Q => ∃ l b xs zs, x = .ref l ∧ y = .ref b ∧ SqL K H l xs ∧ SqL K H b zs ∧ xs.length + zs.length ≤ sizeLine ∧ ∀ p, H p = none → Q (.ref p) (upd H p (.lst (xs ++ zs)))
theorem op_catL : OpR X (binaryOp .Add) (rCatL X.K) := by
  intro pins s σ H x y v u Q I rx ry h
  obtain ⟨l, b, xs, zs, rfl, rfl, hH, hB, hz, q⟩ := h
  cases rx
  cases ry
  obtain ⟨its, r, pl, hl⟩ := I.list hH
  obtain ⟨its2, r2, pl2, hl2⟩ := I.list hB
  obtain ⟨⟨cls, dd, data, sl⟩, ho, hc, n, hd⟩ := pl.isList
  obtain ⟨⟨cls2, dd2, data2, sl2⟩, ho2, hc2, n2, hd2⟩ := pl2.isList
  simp only at hc hd hc2 hd2
  subst hc hd hc2 hd2
  have ea : its.toArray ++ its2.toArray = (its ++ its2).toArray := by simp
  have l1 := r.length
  have l2 := r2.length
  refine concat_meets ⟨_, ho, rfl⟩ ⟨_, ho2, rfl⟩ noFill_list_add seq_list_add PySem.F.slot_list_add PySem.F.entry_list_add (PySem.F.args_list_add_2 _ _) (list_addW l b its.toArray its2.toArray n n2 dd dd2 sl sl2 (by simp; omega)) ⟨ho, ho2, ?_⟩
  rw [ea]
  exact ⟨.ref _, _, I.lnew (t' := s.toks) (r.append r2) (by rw [List.length_append]; omega), rfl, q _ I.fresh⟩
/-- a + b: ints, texts, lists, tuples -/
def rAddI : R2 := rI0 fun i j => .int (i + j)
def rAddT : R2 := fun x y H Q => ∃ i j, x = .str i ∧ y = .str j ∧ i.length + j.length ≤ sizeLine ∧ Q (.str (i ++ j)) H
def rAddU (K : PySem.W.Frag) : R2 := fun x y H Q => rAddI x y H Q ∨ rAddT x y H Q ∨ rCatL K x y H Q ∨ rCatA K x y H Q
theorem op_addU : OpR X (binaryOp .Add) (rAddU X.K) := (show OpR X (binaryOp .Add) rAddI from op_add).or ((show OpR X (binaryOp .Add) rAddT from op_add_str).or (op_catL.or op_catA))
end
end L2
namespace DL
open PySem L2 StX
section
variable {K : PySem.W.Frag} {u u' : Wd} {σ : L2.St} {ds : DS} {P : D → Prop} {te ta tb tc : TE} {tt tu : TT} {i j : Int} {x y : Str} {xs ys : List D} {C : Addr} {a b : D} {p q : Bool}
theorem Op.or {r r' : R2} (h : Op K r a b P) : Op K (fun x y H Q => r x y H Q ∨ r' x y H Q) a b P := fun u v w Q e s d1 d2 k => .inl (h u v w Q e s d1 d2 k)
theorem Op.or' {r r' : R2} (h : Op K r' a b P) : Op K (fun x y H Q => r x y H Q ∨ r' x y H Q) a b P := fun u v w Q e s d1 d2 k => .inr (h u v w Q e s d1 d2 k)
theorem op_I0 {g : Int → Int → V} {d : D} (hd : ∀ u, Den K u (g i j) d) (h : P d) : Op K (rI0 g) (.int i) (.int j) P := fun u v w Q e _ d1 d2 k => by
  cases den_int d1
  cases den_int d2
  exact ⟨i, j, rfl, rfl, k _ _ u (.refl e) (hd _) h⟩
theorem op_I {c : Int → Int → Prop} {g : Int → Int → V} {d : D} (hd : ∀ u, Den K u (g i j) d) (hc : c i j) (h : P d) : Op K (rI c g) (.int i) (.int j) P := fun u v w Q e _ d1 d2 k => by
  cases den_int d1
  cases den_int d2
  exact ⟨i, j, rfl, rfl, hc, k _ _ u (.refl e) (hd _) h⟩
/-! ### + -/
theorem add_int (h : P (.int (i + j))) : Op K (rAddU K) (.int i) (.int j) P := Op.or (op_I0 (fun _ => .int _) h)
theorem add_str (hz : x.length + y.length ≤ 1000000) (h : P (.str (x ++ y))) : Op K (rAddU K) (.str x) (.str y) P := fun u v w Q e _ d1 d2 k => by
  cases den_str d1
  cases den_str d2
  exact .inr (.inl ⟨x, y, rfl, rfl, sz100 hz, k _ _ u (.refl e) (.str _) h⟩)
theorem add_lst (hz : xs.length + ys.length ≤ 1000000) (h : P (.lst (xs ++ ys))) : Op K (rAddU K) (.lst xs) (.lst ys) P := fun u v w Q e _ d1 d2 k => by
  obtain ⟨a, vs, rfl, q, r⟩ := den_lst d1
  obtain ⟨a', vs', rfl, q', r'⟩ := den_lst d2
  refine .inr (.inr (.inl ⟨a, a', vs, vs', rfl, rfl, Evl.ex_l e q, Evl.ex_l e q', by rw [r.len, r'.len]; exact sz100 hz, fun p hp => k _ _ (u.put p _) (.put e hp) (.lst (SqL.of upd_same) ((r.app r').mono (Gs.put e hp).ls)) h⟩))
theorem add_tup (hz : xs.length + ys.length ≤ 1000000) (h : P (.tup (xs ++ ys))) : Op K (rAddU K) (.tup xs) (.tup ys) P := fun u v w Q e _ d1 d2 k => by
  obtain ⟨a, vs, rfl, q, r⟩ := den_tup d1
  obtain ⟨a', vs', rfl, q', r'⟩ := den_tup d2
  refine .inr (.inr (.inr ⟨a, a', vs, vs', rfl, rfl, Evl.ex_t e q, Evl.ex_t e q', by rw [r.len, r'.len]; exact sz100 hz, fun e0 => ?_, fun _ e0 => ?_, fun _ _ p hp => k _ _ (u.put p _) (.put e hp) (.tup (SqT.of upd_same) ((r.app r').mono (Gs.put e hp).ls)) h⟩))
  · subst e0
    cases r
    exact k _ _ u (.refl e) (.tup q' r') h
  · subst e0
    cases r'
    rw [List.append_nil] at h
    exact k _ _ u (.refl e) (.tup q r) h
/-! ### other operators on ints -/
theorem sub_int (h : P (.int (i - j))) : Op K (rI0 fun i j => .int (i - j)) (.int i) (.int j) P := op_I0 (fun _ => .int _) h
theorem mul_int (hc : CMul i j) (h : P (.int (i * j))) : Op K (rI CMul fun i j => .int (i * j)) (.int i) (.int j) P := op_I (fun _ => .int _) hc h
theorem fdiv_int (hc : 0 < j ∧ j < 1073741824) (h : P (.int (i / j))) : Op K (rI CDiv fun i j => .int (i / j)) (.int i) (.int j) P := op_I (fun _ => .int _) hc h
theorem mod_int (hc : 0 < j) (h : P (.int (i % j))) : Op K (rI (fun _ j => 0 < j) fun i j => .int (i % j)) (.int i) (.int j) P := op_I (fun _ => .int _) hc h
theorem pow_int (hc : CPow i j) (h : P (.int (i ^ j.toNat))) : Op K (rI CPow fun i j => .int (i ^ j.toNat)) (.int i) (.int j) P := op_I (fun _ => .int _) hc h
theorem neg_int (h : P (.int (-i))) : Un K (rU fun i => .int (-i)) (.int i) P := fun u v Q e d1 k => by
  cases den_int d1
  exact ⟨i, rfl, k _ _ u (.refl e) (.int _) h⟩
/-! ### is None -/
abbrev rIsN' : R2 := fun x y H Q => y = .non ∧ Q (.bl (decide (x = .non))) H
abbrev rNotN' : R2 := fun x y H Q => y = .non ∧ Q (.bl (!decide (x = .non))) H
def isNonD : D → Bool
  | .non => true
  | _ => false
theorem den_isNon {v : V} {d : D} (h : Den K u v d) : decide (v = .non) = isNonD d := by cases h <;> rfl
theorem is_non (h : P (.bl (isNonD a))) : Op K rIsN' a .non P := fun u v w Q e _ d1 d2 k => by
  cases den_non d2
  exact ⟨rfl, by rw [den_isNon d1]; exact k _ _ u (.refl e) (.bl _) h⟩
theorem not_non (h : P (.bl (!isNonD a))) : Op K rNotN' a .non P := fun u v w Q e _ d1 d2 k => by
  cases den_non d2
  exact ⟨rfl, by rw [den_isNon d1]; exact k _ _ u (.refl e) (.bl _) h⟩
end
/-! ### plain data: ==, !=, <, <=, >, >=, in -/
mutual
def pd : D → Option PyData
  | .non => some .none
  | .bl b => some (.bool b)
  | .int i => some (.int i)
  | .str x => some (.str x)
  | .lst xs => (pds xs).map .list
  | .tup xs => (pds xs).map .tuple
  | _ => none
def pds : List D → Option (List PyData)
  | [] => some []
  | x :: xs => (pd x).bind fun y => (pds xs).map fun ys => y :: ys
end
section
variable {K : PySem.W.Frag} {H : Hp} {u : Wd}
mutual
theorem den_dp (x : Ex u.H0 H) : ∀ {v : V} {d : D} {e : PyData}, Den K u v d → pd d = some e → Dp K H v e
  | _, _, e, .non, h => by simp only [pd] at h; cases h; exact .non
  | _, _, e, .bl b, h => by simp only [pd] at h; cases h; exact .bl b
  | _, _, e, .int i, h => by simp only [pd] at h; cases h; exact .int i
  | _, _, e, .str y, h => by simp only [pd] at h; cases h; exact .str y
  | _, _, e, .lst (ds := ds) q r, h => by
    simp only [pd] at h
    cases hp : pds ds with
    | none => rw [hp] at h; cases h
    | some es => rw [hp] at h; cases h; exact .lst (Evl.ex_l x q) (dens_dp x r hp)
  | _, _, e, .tup (ds := ds) q r, h => by
    simp only [pd] at h
    cases hp : pds ds with
    | none => rw [hp] at h; cases h
    | some es => rw [hp] at h; cases h; exact .tup (Evl.ex_t x q) (dens_dp x r hp)
  | _, _, e, .ty _, h => by simp only [pd] at h; cases h
  | _, _, e, .cls _, h => by simp only [pd] at h; cases h
  | _, _, e, .strm _, h => by simp only [pd] at h; cases h
  | _, _, e, .obj _ _, h => by simp only [pd] at h; cases h
  | _, _, e, .dct _ _, h => by simp only [pd] at h; cases h
theorem dens_dp (x : Ex u.H0 H) : ∀ {v : List V} {d : List D} {e : List PyData}, Dens K u v d → pds d = some e → DpAll K H v e
  | _, _, e, .nil, h => by simp only [pds] at h; cases h; exact .nil
  | _, _, e, .cons (d := d) (ds := ds) r rs, h => by
    simp only [pds] at h
    cases hp : pd d with
    | none => rw [hp] at h; cases h
    | some y =>
      rw [hp] at h
      cases hq : pds ds with
      | none => rw [hq] at h; cases h
      | some ys => rw [hq] at h; cases h; exact .cons (den_dp x r hp) (dens_dp x rs hq)
end
end
end DL
namespace L2
open PySem PySem.Spec PyProof.Rows
section
variable {X : Cx}
def rEqP (K : PySem.W.Frag) : R2 := fun x y H Q => ∃ d e, Dp K H x d ∧ Dp K H y e ∧ d.plain = true ∧ e.plain = true ∧ d.depth ≤ 64 ∧ Q (.bl (PyData.eqv d e)) H
def rNeP (K : PySem.W.Frag) : R2 := fun x y H Q => ∃ d e, Dp K H x d ∧ Dp K H y e ∧ d.plain = true ∧ e.plain = true ∧ d.depth ≤ 64 ∧ Q (.bl (!PyData.eqv d e)) H
def rLtP (K : PySem.W.Frag) : R2 := fun x y H Q => ∃ d e, Dp K H x d ∧ Dp K H y e ∧ PySem.W.alike d e = true ∧ d ≠ .none ∧ d.depth ≤ 64 ∧ Q (.bl (PySem.W.dataLt d e)) H
def rGtP (K : PySem.W.Frag) : R2 := fun x y H Q => ∃ d e, Dp K H x d ∧ Dp K H y e ∧ PySem.W.alike d e = true ∧ d ≠ .none ∧ d.depth ≤ 64 ∧ Q (.bl (PySem.W.dataLt e d)) H
def rLeP (K : PySem.W.Frag) : R2 := fun x y H Q => ∃ d e, Dp K H x d ∧ Dp K H y e ∧ PySem.W.alike d e = true ∧ d ≠ .none ∧ d.depth ≤ 64 ∧ Q (.bl (!PySem.W.dataLt e d)) H
def rGeP (K : PySem.W.Frag) : R2 := fun x y H Q => ∃ d e, Dp K H x d ∧ Dp K H y e ∧ PySem.W.alike d e = true ∧ d ≠ .none ∧ d.depth ≤ 64 ∧ Q (.bl (!PySem.W.dataLt d e)) H
theorem room_min {u a b : Nat} (hu : u + 64 < cLine) (h : a ≤ 64) : u + min a b < cLine := by have := Nat.min_le_left a b; omega
theorem op_eqP (hu : X.A.units + 64 < cLine) : OpR X (compareOp .Eq) (rEqP X.K) := by
  intro pins s σ H x y v u Q I rx ry ⟨d, e, hd, he, pd, pe, dd, q⟩
  obtain ⟨as, r1⟩ := Dp.reads I d x v hd rx
  obtain ⟨bs, r2⟩ := Dp.reads I e y u he ry
  exact PySem.SeqAt.eq_plain r1 r2 pd pe (room_min hu dd) ⟨.bl _, H, I, rfl, q⟩
theorem op_neP (hu : X.A.units + 64 < cLine) : OpR X (compareOp .NotEq) (rNeP X.K) := by
  intro pins s σ H x y v u Q I rx ry ⟨d, e, hd, he, pd, pe, dd, q⟩
  obtain ⟨as, r1⟩ := Dp.reads I d x v hd rx
  obtain ⟨bs, r2⟩ := Dp.reads I e y u he ry
  exact PySem.SeqAt.ne_plain r1 r2 pd pe (room_min hu dd) ⟨.bl _, H, I, rfl, q⟩
theorem op_ltP (hu : X.A.units + 64 < cLine) : OpR X (compareOp .Lt) (rLtP X.K) := by
  intro pins s σ H x y v u Q I rx ry ⟨d, e, hd, he, al, nn, dd, q⟩
  obtain ⟨as, r1⟩ := Dp.reads I d x v hd rx
  obtain ⟨bs, r2⟩ := Dp.reads I e y u he ry
  exact PySem.W.lt_data r1 r2 al nn (room_min hu dd) ⟨.bl _, H, I, rfl, q⟩
theorem op_gtP (hu : X.A.units + 64 < cLine) : OpR X (compareOp .Gt) (rGtP X.K) := by
  intro pins s σ H x y v u Q I rx ry ⟨d, e, hd, he, al, nn, dd, q⟩
  obtain ⟨as, r1⟩ := Dp.reads I d x v hd rx
  obtain ⟨bs, r2⟩ := Dp.reads I e y u he ry
  exact PySem.W.gt_data r1 r2 al nn (room_min hu dd) ⟨.bl _, H, I, rfl, q⟩
theorem op_leP (hu : X.A.units + 64 < cLine) : OpR X (compareOp .LtE) (rLeP X.K) := by
  intro pins s σ H x y v u Q I rx ry ⟨d, e, hd, he, al, nn, dd, q⟩
  obtain ⟨as, r1⟩ := Dp.reads I d x v hd rx
  obtain ⟨bs, r2⟩ := Dp.reads I e y u he ry
  exact PySem.W.le_data r1 r2 al nn (room_min hu dd) ⟨.bl _, H, I, rfl, q⟩
theorem op_geP (hu : X.A.units + 64 < cLine) : OpR X (compareOp .GtE) (rGeP X.K) := by
  intro pins s σ H x y v u Q I rx ry ⟨d, e, hd, he, al, nn, dd, q⟩
  obtain ⟨as, r1⟩ := Dp.reads I d x v hd rx
  obtain ⟨bs, r2⟩ := Dp.reads I e y u he ry
  exact PySem.W.ge_data r1 r2 al nn (room_min hu dd) ⟨.bl _, H, I, rfl, q⟩
/-- x in a list or a tuple of data; c in a text -/
def rInP (K : PySem.W.Frag) : R2 := fun x y H Q => ∃ d xs, Dp K H x d ∧ (Dp K H y (.list xs) ∨ Dp K H y (.tuple xs)) ∧ d.plain = true ∧ PyData.plainAll xs = true ∧ d.depth ≤ 60 ∧ Q (.bl (xs.any fun z => PyData.eqv z d)) H
def rNiP (K : PySem.W.Frag) : R2 := fun x y H Q => ∃ d xs, Dp K H x d ∧ (Dp K H y (.list xs) ∨ Dp K H y (.tuple xs)) ∧ d.plain = true ∧ PyData.plainAll xs = true ∧ d.depth ≤ 60 ∧ Q (.bl (!xs.any fun z => PyData.eqv z d)) H
theorem room_in {u a b : Nat} (hu : u + 64 < cLine) (h : b ≤ 60) : u + 1 + min a b < cLine := by have := Nat.min_le_right a b; omega
theorem op_inP (hu : X.A.units + 64 < cLine) : OpR X (compareOp .In) (rInP X.K) := by
  intro pins s σ H x y v u Q I rx ry ⟨d, xs, hd, he, pd, pe, dd, q⟩
  obtain ⟨as, r1⟩ := Dp.reads I d x v hd rx
  rcases he with he | he
  · obtain ⟨bs, r2⟩ := Dp.reads I _ y u he ry
    exact PySem.SeqAt.in_list_data r2 r1 pe pd (room_in hu dd) ⟨.bl _, H, I, rfl, q⟩
  · obtain ⟨bs, r2⟩ := Dp.reads I _ y u he ry
    exact PySem.SeqAt.in_tuple_data r2 r1 pe pd (room_in hu dd) ⟨.bl _, H, I, rfl, q⟩
theorem op_niP (hu : X.A.units + 64 < cLine) : OpR X (compareOp .NotIn) (rNiP X.K) := by
  intro pins s σ H x y v u Q I rx ry ⟨d, xs, hd, he, pd, pe, dd, q⟩
  obtain ⟨as, r1⟩ := Dp.reads I d x v hd rx
  rcases he with he | he
  · obtain ⟨bs, r2⟩ := Dp.reads I _ y u he ry
    exact PySem.SeqAt.notIn_list_data r2 r1 pe pd (room_in hu dd) ⟨.bl _, H, I, rfl, q⟩
  · obtain ⟨bs, r2⟩ := Dp.reads I _ y u he ry
    exact PySem.SeqAt.notIn_tuple_data r2 r1 pe pd (room_in hu dd) ⟨.bl _, H, I, rfl, q⟩
end
end L2
namespace DL
open PySem L2 StX
section
variable {K : PySem.W.Frag} {u u' : Wd} {P : D → Prop} {a b : D} {d e : PyData} {xs : List PyData} {ys : List D}
theorem eqP (h1 : pd a = some d) (h2 : pd b = some e) (p1 : d.plain = true) (p2 : e.plain = true) (hd : d.depth ≤ 64) (h : P (.bl (PyData.eqv d e))) : Op K (rEqP K) a b P := fun u v w Q ex _ d1 d2 k =>
  ⟨d, e, den_dp ex d1 h1, den_dp ex d2 h2, p1, p2, hd, k _ _ u (.refl ex) (.bl _) h⟩
theorem neP (h1 : pd a = some d) (h2 : pd b = some e) (p1 : d.plain = true) (p2 : e.plain = true) (hd : d.depth ≤ 64) (h : P (.bl (!PyData.eqv d e))) : Op K (rNeP K) a b P := fun u v w Q ex _ d1 d2 k =>
  ⟨d, e, den_dp ex d1 h1, den_dp ex d2 h2, p1, p2, hd, k _ _ u (.refl ex) (.bl _) h⟩
theorem ltP (h1 : pd a = some d) (h2 : pd b = some e) (p1 : PySem.W.alike d e = true) (p2 : d ≠ .none) (hd : d.depth ≤ 64) (h : P (.bl (PySem.W.dataLt d e))) : Op K (rLtP K) a b P := fun u v w Q ex _ d1 d2 k =>
  ⟨d, e, den_dp ex d1 h1, den_dp ex d2 h2, p1, p2, hd, k _ _ u (.refl ex) (.bl _) h⟩
theorem gtP (h1 : pd a = some d) (h2 : pd b = some e) (p1 : PySem.W.alike d e = true) (p2 : d ≠ .none) (hd : d.depth ≤ 64) (h : P (.bl (PySem.W.dataLt e d))) : Op K (rGtP K) a b P := fun u v w Q ex _ d1 d2 k =>
  ⟨d, e, den_dp ex d1 h1, den_dp ex d2 h2, p1, p2, hd, k _ _ u (.refl ex) (.bl _) h⟩
theorem leP (h1 : pd a = some d) (h2 : pd b = some e) (p1 : PySem.W.alike d e = true) (p2 : d ≠ .none) (hd : d.depth ≤ 64) (h : P (.bl (!PySem.W.dataLt e d))) : Op K (rLeP K) a b P := fun u v w Q ex _ d1 d2 k =>
  ⟨d, e, den_dp ex d1 h1, den_dp ex d2 h2, p1, p2, hd, k _ _ u (.refl ex) (.bl _) h⟩
theorem geP (h1 : pd a = some d) (h2 : pd b = some e) (p1 : PySem.W.alike d e = true) (p2 : d ≠ .none) (hd : d.depth ≤ 64) (h : P (.bl (!PySem.W.dataLt d e))) : Op K (rGeP K) a b P := fun u v w Q ex _ d1 d2 k =>
  ⟨d, e, den_dp ex d1 h1, den_dp ex d2 h2, p1, p2, hd, k _ _ u (.refl ex) (.bl _) h⟩
theorem inPl (h1 : pd a = some d) (h2 : pds ys = some xs) (p1 : d.plain = true) (p2 : PyData.plainAll xs = true) (hd : d.depth ≤ 60) (h : P (.bl (xs.any fun z => PyData.eqv z d))) : Op K (rInP K) a (.lst ys) P := fun u v w Q ex _ d1 d2 k =>
  ⟨d, xs, den_dp ex d1 h1, .inl (den_dp ex d2 (by simp only [pd, h2]; rfl)), p1, p2, hd, k _ _ u (.refl ex) (.bl _) h⟩
theorem niPl (h1 : pd a = some d) (h2 : pds ys = some xs) (p1 : d.plain = true) (p2 : PyData.plainAll xs = true) (hd : d.depth ≤ 60) (h : P (.bl (!xs.any fun z => PyData.eqv z d))) : Op K (rNiP K) a (.lst ys) P := fun u v w Q ex _ d1 d2 k =>
  ⟨d, xs, den_dp ex d1 h1, .inl (den_dp ex d2 (by simp only [pd, h2]; rfl)), p1, p2, hd, k _ _ u (.refl ex) (.bl _) h⟩
theorem inPt (h1 : pd a = some d) (h2 : pds ys = some xs) (p1 : d.plain = true) (p2 : PyData.plainAll xs = true) (hd : d.depth ≤ 60) (h : P (.bl (xs.any fun z => PyData.eqv z d))) : Op K (rInP K) a (.tup ys) P := fun u v w Q ex _ d1 d2 k =>
  ⟨d, xs, den_dp ex d1 h1, .inr (den_dp ex d2 (by simp only [pd, h2]; rfl)), p1, p2, hd, k _ _ u (.refl ex) (.bl _) h⟩
theorem niPt (h1 : pd a = some d) (h2 : pds ys = some xs) (p1 : d.plain = true) (p2 : PyData.plainAll xs = true) (hd : d.depth ≤ 60) (h : P (.bl (!xs.any fun z => PyData.eqv z d))) : Op K (rNiP K) a (.tup ys) P := fun u v w Q ex _ d1 d2 k =>
  ⟨d, xs, den_dp ex d1 h1, .inr (den_dp ex d2 (by simp only [pd, h2]; rfl)), p1, p2, hd, k _ _ u (.refl ex) (.bl _) h⟩
end
end DL
namespace L2
open PySem PySem.Spec PyProof.Rows
section
variable {X : Cx}
def rSlU (K : PySem.W.Frag) : V → Option Int → Option Int → Hp → VK → Prop := fun x lo hi H Q => rSlS x lo hi H Q ∨ (rSlL K x lo hi H Q ∨ rSlA K x lo hi H Q)
theorem sl_U : SlR X (rSlU X.K) := sl_str.or (sl_list.or sl_tupA)
/-- min, max of a list of data -/
def rMinP (K : PySem.W.Frag) : List V → Hp → VK → Prop := fun xs H Q => ∃ p vs d ds, xs = [.ref p] ∧ SqL K H p vs ∧ DpAll K H vs (d :: ds) ∧ PySem.W.AlikeAll (d :: ds) ∧ PyData.depthAll (d :: ds) ≤ 60 ∧ ∀ (i : Nat) v, vs[i]? = some v → Dp K H v (PySem.W.minD d ds) → Q v H
def rMaxP (K : PySem.W.Frag) : List V → Hp → VK → Prop := fun xs H Q => ∃ p vs d ds, xs = [.ref p] ∧ SqL K H p vs ∧ DpAll K H vs (d :: ds) ∧ PySem.W.AlikeAll (d :: ds) ∧ PyData.depthAll (d :: ds) ≤ 60 ∧ ∀ (i : Nat) v, vs[i]? = some v → Dp K H v (PySem.W.maxD d ds) → Q v H
end
end L2
namespace DL
open PySem L2 StX
section
variable {K : PySem.W.Frag} {u u' : Wd} {σ : L2.St} {ds : DS} {P : D → Prop} {te ta tb tc : TE} {tt tu : TT} {i j : Int} {x y : Str} {xs ys : List D} {C : Addr} {a b : D} {p q : Bool}
/-! ### subscripts -/
theorem atI_of {α : Type} {xs : List α} {i : Int} {n : Nat} (h : (0 ≤ i ∧ i.toNat = n ∨ i < 0 ∧ (i + xs.length).toNat = n ∧ -(xs.length : Int) ≤ i)) (hn : n < xs.length) : atI xs i = xs[n]? := by
  unfold atI ixN
  rcases h with ⟨h1, h2⟩ | ⟨h1, h2, h3⟩
  · rw [if_pos h1, if_pos (by omega)]; simp [h2]
  · rw [if_neg (by omega), if_pos h3]; simp [h2]
theorem ix_lst {n : Nat} {d : D} (h0 : 0 ≤ i) (hn : xs[i.toNat]? = some d) (h : P d) : Op K (rIx K) (.lst xs) (.int i) P := fun u v w Q e _ d1 d2 k => by
  obtain ⟨a, vs, rfl, q, r⟩ := den_lst d1
  cases den_int d2
  obtain ⟨z, hz, hd⟩ := r.getD hn
  refine .inl ⟨a, vs, i, z, rfl, rfl, Evl.ex_l e q, ?_, k _ _ u (.refl e) hd h⟩
  rw [atI_of (.inl ⟨h0, rfl⟩) (List.getElem?_eq_some_iff.mp hz).1, hz]
theorem ix_tup {d : D} (h0 : 0 ≤ i) (hn : xs[i.toNat]? = some d) (h : P d) : Op K (rIx K) (.tup xs) (.int i) P := fun u v w Q e _ d1 d2 k => by
  obtain ⟨a, vs, rfl, q, r⟩ := den_tup d1
  cases den_int d2
  obtain ⟨z, hz, hd⟩ := r.getD hn
  refine .inr (.inl ⟨a, vs, i, z, rfl, rfl, Evl.ex_t e q, ?_, k _ _ u (.refl e) hd h⟩)
  rw [atI_of (.inl ⟨h0, rfl⟩) (List.getElem?_eq_some_iff.mp hz).1, hz]
theorem ix_str {c : Nat} (hz : x.length ≤ 1000000) (h0 : 0 ≤ i) (hn : x.cps.toList[i.toNat]? = some c) (h : P (.str ⟨#[c]⟩)) : Op K (rIx K) (.str x) (.int i) P := fun u v w Q e _ d1 d2 k => by
  cases den_str d1
  cases den_int d2
  refine .inr (.inr ⟨x, i, c, rfl, rfl, sz100 hz, ?_, k _ _ u (.refl e) (.str _) h⟩)
  rw [atI_of (.inl ⟨h0, rfl⟩) (List.getElem?_eq_some_iff.mp hn).1, hn]
/-- from behind -/
theorem ix_lstN {d : D} {n : Nat} (h0 : i < 0) (h1 : (i + xs.length).toNat = n) (h2 : -(xs.length : Int) ≤ i) (hn : xs[n]? = some d) (h : P d) : Op K (rIx K) (.lst xs) (.int i) P := fun u v w Q e _ d1 d2 k => by
  obtain ⟨a, vs, rfl, q, r⟩ := den_lst d1
  cases den_int d2
  obtain ⟨z, hz, hd⟩ := r.getD hn
  refine .inl ⟨a, vs, i, z, rfl, rfl, Evl.ex_l e q, ?_, k _ _ u (.refl e) hd h⟩
  rw [atI_of (.inr ⟨h0, by rw [r.len]; exact h1, by rw [r.len]; exact h2⟩) (List.getElem?_eq_some_iff.mp hz).1, hz]
/-! ### slices -/
def cutD (xs : List D) (lo hi : Option Int) : List D := (xs.drop (HT.sIx xs.length 0 lo)).take (HT.sIx xs.length xs.length hi - HT.sIx xs.length 0 lo)
theorem Dens.cut {vs : List V} (r : Dens K u vs xs) (lo hi : Option Int) : Dens K u (cutV vs lo hi) (cutD xs lo hi) := by
  unfold cutV cutD
  rw [r.len]
  exact (r.drop _).take _
theorem sl_lst {lo hi : Option Int} (h : P (.lst (cutD xs lo hi))) : Sl K (rSlU K) (.lst xs) lo hi P := fun u v Q e d1 k => by
  obtain ⟨a, vs, rfl, q, r⟩ := den_lst d1
  exact .inr (.inl ⟨a, vs, rfl, Evl.ex_l e q, fun p hp => k _ _ (u.put p _) (.put e hp) (.lst (SqL.of upd_same) ((r.cut lo hi).mono (Gs.put e hp).ls)) h⟩)
theorem sl_tup {lo hi : Option Int} (h : P (.tup (cutD xs lo hi))) : Sl K (rSlU K) (.tup xs) lo hi P := fun u v Q e d1 k => by
  obtain ⟨a, vs, rfl, q, r⟩ := den_tup d1
  refine .inr (.inr ⟨a, vs, rfl, Evl.ex_t e q, fun ⟨h1, h2⟩ => ?_, fun _ p hp => k _ _ (u.put p _) (.put e hp) (.tup (SqT.of upd_same) ((r.cut lo hi).mono (Gs.put e hp).ls)) h⟩)
  have z : cutD xs lo hi = xs := by
    unfold cutD
    rw [r.len] at h1 h2
    rw [h1, h2]
    simp
  rw [z] at h
  exact k _ _ u (.refl e) (.tup q r) h
theorem sl_str {lo hi : Option Int} (hz : x.length ≤ 1000000) (h : P (.str (cutS x lo hi))) : Sl K (rSlU K) (.str x) lo hi P := fun u v Q e d1 k => by
  cases den_str d1
  exact .inl ⟨x, rfl, sz100 hz, k _ _ u (.refl e) (.str _) h⟩
/-! ### built-ins -/
abbrev rLen' (K : PySem.W.Frag) : List V → Hp → VK → Prop := fun xs H Q => ∃ x n, xs = [x] ∧ LenV K x H n ∧ Q (.int n) H
theorem len_lst (h : P (.int xs.length)) : Cb K (rLen' K) [.lst xs] P := fun u vs Q e r k => by
  obtain ⟨v, rfl, r1⟩ := dens1 r
  obtain ⟨a, ws, rfl, q, r2⟩ := den_lst r1
  exact ⟨_, ws.length, rfl, .inl ⟨ws, Evl.ex_l e q, rfl⟩, by rw [r2.len]; exact k _ _ u (.refl e) (.int _) h⟩
theorem len_tup (h : P (.int xs.length)) : Cb K (rLen' K) [.tup xs] P := fun u vs Q e r k => by
  obtain ⟨v, rfl, r1⟩ := dens1 r
  obtain ⟨a, ws, rfl, q, r2⟩ := den_tup r1
  exact ⟨_, ws.length, rfl, .inr ⟨ws, Evl.ex_t e q, rfl⟩, by rw [r2.len]; exact k _ _ u (.refl e) (.int _) h⟩
theorem len_str (hz : x.length ≤ 1000000) (h : P (.int x.length)) : Cb K (rLen' K) [.str x] P := fun u vs Q e r k => by
  obtain ⟨v, rfl, r1⟩ := dens1 r
  cases den_str r1
  exact ⟨_, x.length, rfl, ⟨sz100 hz, rfl⟩, k _ _ u (.refl e) (.int _) h⟩
abbrev rInt1 : List V → Hp → VK → Prop := fun xs H Q => (∃ i, xs = [.int i] ∧ Q (.int i) H) ∨ ∃ k, xs = [.bl k] ∧ Q (.int (if k then 1 else 0)) H
theorem int_int (h : P (.int i)) : Cb K rInt1 [.int i] P := fun u vs Q e r k => by
  obtain ⟨v, rfl, r1⟩ := dens1 r
  cases den_int r1
  exact .inl ⟨i, rfl, k _ _ u (.refl e) (.int _) h⟩
abbrev rMin2 : List V → Hp → VK → Prop := fun xs H Q => ∃ i j, xs = [.int i, .int j] ∧ Q (.int (if j < i then j else i)) H
abbrev rMax2 : List V → Hp → VK → Prop := fun xs H Q => ∃ i j, xs = [.int i, .int j] ∧ Q (.int (if j > i then j else i)) H
theorem min_int (h : P (.int (if j < i then j else i))) : Cb K rMin2 [.int i, .int j] P := fun u vs Q e r k => by
  obtain ⟨v, w, rfl, r1, r2⟩ := dens2 r
  cases den_int r1
  cases den_int r2
  exact ⟨i, j, rfl, k _ _ u (.refl e) (.int _) h⟩
theorem max_int (h : P (.int (if j > i then j else i))) : Cb K rMax2 [.int i, .int j] P := fun u vs Q e r k => by
  obtain ⟨v, w, rfl, r1, r2⟩ := dens2 r
  cases den_int r1
  cases den_int r2
  exact ⟨i, j, rfl, k _ _ u (.refl e) (.int _) h⟩
theorem dens_ints {vs : List V} {ns : List Int} (r : Dens K u vs (ns.map D.int)) : vs = ns.map V.int := by
  induction ns generalizing vs with
  | nil => exact dens0 r
  | cons n ns ih =>
    cases r with
    | cons a b => rw [den_int a, ih b]; rfl
theorem dens_strs {vs : List V} {ns : List Str} (r : Dens K u vs (ns.map D.str)) : vs = ns.map V.str := by
  induction ns generalizing vs with
  | nil => exact dens0 r
  | cons n ns ih =>
    cases r with
    | cons a b => rw [den_str a, ih b]; rfl
theorem ints_dens (ns : List Int) : Dens K u (ns.map V.int) (ns.map D.int) := by
  induction ns with
  | nil => exact .nil
  | cons n ns ih => exact .cons (.int n) ih
theorem strs_dens (ns : List Str) : Dens K u (ns.map V.str) (ns.map D.str) := by
  induction ns with
  | nil => exact .nil
  | cons n ns ih => exact .cons (.str n) ih
theorem sum_ints {ns : List Int} (h : P (.int ns.sum)) : Cb K (rSum K) [.lst (ns.map D.int)] P := fun u vs Q e r k => by
  obtain ⟨v, rfl, r1⟩ := dens1 r
  obtain ⟨a, ws, rfl, q, r2⟩ := den_lst r1
  have ew := dens_ints r2
  subst ew
  exact ⟨a, ns, rfl, Evl.ex_l e q, k _ _ u (.refl e) (.int _) h⟩
abbrev rTupOf (K : PySem.W.Frag) : List V → Hp → VK → Prop := fun xs H Q => ∃ p ys, xs = [.ref p] ∧ ((SqL K H p ys ∧ ∀ l, H l = none → Q (.ref l) (upd H l (.tup ys))) ∨ (SqT K H p ys ∧ Q (.ref p) H))
theorem tuple_lst (h : P (.tup xs)) : Cb K (rTupOf K) [.lst xs] P := fun u vs Q e r k => by
  obtain ⟨v, rfl, r1⟩ := dens1 r
  obtain ⟨a, ws, rfl, q, r2⟩ := den_lst r1
  exact ⟨a, ws, rfl, .inl ⟨Evl.ex_l e q, fun p hp => k _ _ (u.put p _) (.put e hp) (.tup (SqT.of upd_same) (r2.mono (Gs.put e hp).ls)) h⟩⟩
theorem tuple_tup (h : P (.tup xs)) : Cb K (rTupOf K) [.tup xs] P := fun u vs Q e r k => by
  obtain ⟨v, rfl, r1⟩ := dens1 r
  obtain ⟨a, ws, rfl, q, r2⟩ := den_tup r1
  exact ⟨a, ws, rfl, .inr ⟨Evl.ex_t e q, k _ _ u (.refl e) r1 h⟩⟩
abbrev rLstOf (K : PySem.W.Frag) : List V → Hp → VK → Prop := fun xs H Q => ∃ p ys, xs = [.ref p] ∧ (SqL K H p ys ∨ SqT K H p ys) ∧ ∀ l, H l = none → Q (.ref l) (upd H l (.lst ys))
theorem list_lst (h : P (.lst xs)) : Cb K (rLstOf K) [.lst xs] P := fun u vs Q e r k => by
  obtain ⟨v, rfl, r1⟩ := dens1 r
  obtain ⟨a, ws, rfl, q, r2⟩ := den_lst r1
  exact ⟨a, ws, rfl, .inl (Evl.ex_l e q), fun p hp => k _ _ (u.put p _) (.put e hp) (.lst (SqL.of upd_same) (r2.mono (Gs.put e hp).ls)) h⟩
theorem list_tup (h : P (.lst xs)) : Cb K (rLstOf K) [.tup xs] P := fun u vs Q e r k => by
  obtain ⟨v, rfl, r1⟩ := dens1 r
  obtain ⟨a, ws, rfl, q, r2⟩ := den_tup r1
  exact ⟨a, ws, rfl, .inr (Evl.ex_t e q), fun p hp => k _ _ (u.put p _) (.put e hp) (.lst (SqL.of upd_same) (r2.mono (Gs.put e hp).ls)) h⟩
theorem rgV_den (i j : Int) : Dens K u (rgV i j) (rng i (j - i).toNat) := by
  unfold rgV rng
  induction List.range (j - i).toNat with
  | nil => exact .nil
  | cons n ns ih => exact .cons (.int _) ih
theorem we_listRg1 {ds : DS} {n : Nat} {P : D → Nat → Prop} (h : We K ta ds n fun d m => ∃ j : Int, d = .int j ∧ 0 ≤ j ∧ j ≤ 1000000 ∧ P (.lst (rng 0 j.toNat)) m) : We K (tLstRg (tRg1 ta)) ds n P := fun b u σ Q e S k =>
  h b u σ _ e S fun v d u1 g1 s1 r ⟨j, z, h0, h1, p⟩ => by
    subst z
    cases den_int r
    refine ⟨j, rfl, .of_le (by omega) (by omega) (by omega) h0, fun l hl => ?_⟩
    have z := rgV_den (K := K) (u := u1) 0 j
    rw [Int.sub_zero] at z
    exact k _ _ (u1.put l _) (g1.trans (.put g1.c hl)) (s1.put hl) (.lst (SqL.of upd_same) (z.mono (Gs.put g1.c hl).ls)) p
theorem we_listRg2 {ds : DS} {n : Nat} {P : D → Nat → Prop} (h : We K ta ds n fun d m => We K tb ds m fun e k => ∃ i j : Int, d = .int i ∧ e = .int j ∧ (-1000000 ≤ i ∧ i ≤ 1000000 ∧ -1000000 ≤ j ∧ j ≤ 1000000) ∧ P (.lst (rng i (j - i).toNat)) k) : We K (tLstRg (tRg2 ta tb)) ds n P := fun b u σ Q e S k =>
  h b u σ _ e S fun v d u1 g1 s1 r q => q b u1 σ _ rfl (S.go g1 s1) fun v2 d2 u2 g2 s2 r2 ⟨i, j, e1, e2, hb, p⟩ => by
    subst e1 e2
    cases den_int r
    cases den_int r2
    refine ⟨i, j, rfl, rfl, ⟨by omega, by omega, by omega, by omega, by omega⟩, fun l hl => ?_⟩
    exact k _ _ (u2.put l _) ((g1.trans g2).trans (.put g2.c hl)) (s2.put hl) (.lst (SqL.of upd_same) ((rgV_den i j).mono (Gs.put g2.c hl).ls)) p
/-! ### isinstance -/
def tyD : D → Option String
  | .non => some "NoneType"
  | .bl _ => some "bool"
  | .int _ => some "int"
  | .str _ => some "str"
  | .lst _ => some "list"
  | .tup _ => some "tuple"
  | .dct _ => some "dict"
  | _ => none
theorem den_ty {v : V} {d : D} {T : String} (h : Den K u v d) (ht : tyD d = some T) : TyX K u.H0 v (.type T) := by
  cases h with
  | non => cases ht; exact .base .non
  | bl => cases ht; exact .base (.bl _)
  | int => cases ht; exact .base (.int _)
  | str => cases ht; exact .base (.str _)
  | lst q r =>
    cases ht
    rcases q with (q | ⟨o, q⟩) | ⟨o, its, n, hk, hc, _⟩
    · exact .base (.lst q)
    · exact .base (.frz q)
    · exact .kList hk hc
  | tup q r =>
    cases ht
    rcases q with (q | ⟨o, q⟩) | ⟨o, its, n, hk, hc, _⟩
    · exact .base (.tup q)
    · exact .fTuple q
    · exact .kTuple hk hc
  | dct q r =>
    cases ht
    rcases q with q | ⟨o, q⟩
    · exact .base (.dK q)
    · exact .fDict q
  | _ => cases ht
theorem isi_ty {T T' : String} {r : Bool} (ht : tyD a = some T) (hk : kitB T T' = some r) (h : P (.bl r)) : Cb K (rIsi K) [a, .ty T'] P := fun u vs Q e rs k => by
  obtain ⟨v, w, rfl, r1, r2⟩ := dens2 rs
  cases r2
  exact ⟨v, .ty T', .type T, .type T', r, rfl, .ty _, den_ty (u := ⟨u.S, u.n, u.H1, u.H1⟩) (Den.mono (show Le u ⟨u.S, u.n, u.H1, u.H1⟩ from ⟨fun _ h => h, e⟩) r1) ht, kit_ty hk, k _ _ u (.refl e) (.bl _) h⟩
/-! ### truth -/
def truD : D → Option Bool
  | .non => some false
  | .bl b => some b
  | .int i => some (i != 0)
  | .lst xs => some (!xs.isEmpty)
  | .tup xs => some (!xs.isEmpty)
  | _ => none
theorem isEmpty_den {vs : List V} (r : Dens K u vs xs) : vs.isEmpty = xs.isEmpty := by cases r <;> rfl
theorem den_tru {v : V} {d : D} {b : Bool} (h : Den K u v d) (ht : truD d = some b) : TruV K v u.H0 b := by
  cases h with
  | non => cases ht; rfl
  | bl => cases ht; rfl
  | int => cases ht; rfl
  | lst q r => cases ht; exact .inl ⟨_, q, by rw [isEmpty_den r]⟩
  | tup q r => cases ht; exact .inr (.inl ⟨_, q, by rw [isEmpty_den r]⟩)
  | _ => cases ht
theorem den_truE {H : Hp} {v : V} {d : D} {b : Bool} (x : Ex u.H0 H) (h : Den K u v d) (ht : truD d = some b) : TruV K v H b := den_tru (u := ⟨u.S, u.n, H, H⟩) (Den.mono (show Le u ⟨u.S, u.n, H, H⟩ from ⟨fun _ h => h, x⟩) h) ht
theorem we_orT {ds : DS} {n : Nat} {P : D → Nat → Prop} (h : We K ta ds n fun d m => ∃ k, truD d = some k ∧ if k = true then P d m else We K tb ds m P) : We K (tOrT K ta tb) ds n P := fun b u σ Q e S k =>
  h b u σ _ e S fun v d u1 g1 s1 r ⟨c, ht, q⟩ => by
    refine ⟨c, den_truE g1.c r ht, ?_⟩
    cases c with
    | true => exact k _ _ u1 g1 s1 r q
    | false => exact q b u1 σ Q rfl (S.go g1 s1) fun v d u2 g2 s2 r p => k v d u2 (g1.trans g2) s2 r p
theorem wt_tru {ds : DS} {n : Nat} {P : Bool → Nat → Prop} (h : We K ta ds n fun d m => ∃ k, truD d = some k ∧ P k m) : Wt K (L2.tTru K ta) ds n P := fun b u σ Q e S k =>
  h b u σ _ e S fun v d u1 g1 s1 r ⟨c, ht, q⟩ => ⟨c, den_truE g1.c r ht, k _ u1 g1 s1 q⟩
/-! ### methods of texts -/
/-- s.m(e), s a text -/
def Mt (K : PySem.W.Frag) (r : V → List V → Hp → VK → Prop) (a : Str) (y : D) (P : D → Prop) : Prop :=
  ∀ (u : Wd) (w : V) (Q : VK), Ex u.H0 u.H1 → Den K u w y → (∀ z d u', Gp u u' → Den K u' z d → P d → Q z u'.H1) → r (.str a) [w] u.H1 Q
theorem we_m1 {ds : DS} {n : Nat} {P : D → Nat → Prop} {r : V → List V → Hp → VK → Prop} (h : We K ta ds n fun d m => ∃ a, d = .str a ∧ We K tb ds m fun y k => Mt K r a y fun z => P z k) : We K (tM1 r ta tb) ds n P := fun b u σ Q e S k =>
  h b u σ _ e S fun v d u1 g1 s1 rr ⟨a, z, q⟩ => by
    subst z
    cases den_str rr
    exact ⟨⟨a, rfl⟩, q b u1 σ _ rfl (S.go g1 s1) fun w y u2 g2 s2 r2 hm => hm u2 w Q g2.c r2 fun t d u3 g3 r p => k t d u3 ((g1.trans g2).trans g3.g) (g3.st s2) r (g3.n ▸ p)⟩
theorem mt_countD (h : P (.int (Txt.count x y))) : Mt K (fun x xs H Q => ∃ a b, x = .str a ∧ xs = [.str b] ∧ Q (.int (Txt.count a b)) H) x (.str y) P := fun u w Q e d1 k => by
  cases den_str d1
  exact ⟨x, y, rfl, rfl, k _ _ u (.refl e) (.int _) h⟩
theorem mt_rfindD (h : P (.int (Txt.rfind x y))) : Mt K (fun x xs H Q => ∃ a b, x = .str a ∧ xs = [.str b] ∧ Q (.int (Txt.rfind a b)) H) x (.str y) P := fun u w Q e d1 k => by
  cases den_str d1
  exact ⟨x, y, rfl, rfl, k _ _ u (.refl e) (.int _) h⟩
theorem mt_splitD (h1 : (y.length == 0) = false) (h2 : x.length ≤ 1000000) (h : P (.lst ((Txt.split x y).map D.str))) : Mt K (fun x xs H Q => ∃ a b, x = .str a ∧ xs = [.str b] ∧ (b.length == 0) = false ∧ a.length + 2 ≤ sizeLine ∧ rNewStrs (Txt.split a b) H Q) x (.str y) P := fun u w Q e d1 k => by
  cases den_str d1
  exact ⟨x, y, rfl, rfl, h1, Nat.le_trans (Nat.add_le_add_right h2 2) (by decide), fun p hp => k _ _ (u.put p _) (.put e hp) (.lst (SqL.of upd_same) (strs_dens _)) h⟩
theorem mt_joinD {zs : List Str} (h1 : (zs.map (·.length)).sum + zs.length * x.length ≤ 1000000) (h : P (.str (Txt.join x zs))) :
    Mt K (fun x xs H Q => ∃ a p, ∃ ys : List Str, x = .str a ∧ xs = [.ref p] ∧ (SqL K H p (ys.map V.str) ∨ SqT K H p (ys.map V.str)) ∧ (ys.map (·.length)).sum + ys.length * a.length ≤ 16777216 ∧ Q (.str (Txt.join a ys)) H) x (.lst (zs.map D.str)) P := fun u w Q e d1 k => by
  obtain ⟨a, ws, rfl, q, r2⟩ := den_lst d1
  have ew := dens_strs r2
  subst ew
  exact ⟨x, a, zs, rfl, rfl, .inl (Evl.ex_l e q), Nat.le_trans h1 (by decide), k _ _ u (.refl e) (.str _) h⟩
end
end DL
namespace L2
open PySem PySem.Spec PyProof.Rows StX
section
variable {X : Cx}
theorem min_at {σ : L2.St} {pins : List (Addr × Obj)} {H : Hp} {s : Shared} {vs : List V} {its : List Value} {ds : List PyData} {h' : Heap} {m : PyData} {i : Nat} {v : Value} {bs : List Addr} (I : Inv X pins σ H s) (r : Vals vs its) (hd : DpAll X.K H vs ds) (hp : PyData.plainAll ds = true)
    (k : ∀ b o, s.heap.get? b = some o → h'.get? b = some o) (hv : its.toArray[i]? = some v) (hr : Reads h' v m bs) : ∃ w, vs[i]? = some w ∧ RelV w v ∧ ds[i]? = some m := by
  have hv' : its[i]? = some v := by simpa using hv
  obtain ⟨w, hw, rw_, d, hdi, hdd⟩ : ∃ w, vs[i]? = some w ∧ RelV w v ∧ ∃ d, ds[i]? = some d ∧ Dp X.K H w d := by
    clear hv hr hp
    induction ds generalizing vs its i with
    | nil => cases hd; cases r; simp at hv'
    | cons d0 ds ih =>
      cases hd with
      | cons h1 h2 =>
        cases r with
        | cons r1 r2 =>
          cases i with
          | zero => simp at hv'; subst hv'; exact ⟨_, rfl, r1, _, rfl, h1⟩
          | succ i =>
            obtain ⟨w, a, b, d, c, e⟩ := ih r2 h2 (by simpa using hv')
            exact ⟨w, by simpa using a, b, d, by simpa using c, e⟩
  obtain ⟨as, q⟩ := Dp.reads I d w v hdd rw_
  have pl : d.plain = true := by
    clear hdd q hd r hv' hv rw_ hw hr
    induction ds generalizing i with
    | nil => simp at hdi
    | cons x xs ih =>
      rw [PyData.plainAll, Bool.and_eq_true] at hp
      cases i with
      | zero => simp at hdi; subst hdi; exact hp.1
      | succ i => exact ih hp.2 (by simpa using hdi)
  have e : d = m := PySem.SeqAt.plain_unique d m v _ _ pl (Reads.keeps k q) hr
  subst e
  exact ⟨w, hw, rw_, hdi⟩
def rMinQ (K : PySem.W.Frag) : List V → Hp → VK → Prop := fun xs H Q => ∃ p vs d ds, xs = [.ref p] ∧ SqL K H p vs ∧ DpAll K H vs (d :: ds) ∧ PySem.W.AlikeAll (d :: ds) ∧ PyData.plainAll (d :: ds) = true ∧ PyData.depthAll (d :: ds) ≤ 60 ∧ ∀ (i : Nat) v, vs[i]? = some v → (d :: ds)[i]? = some (PySem.W.minD d ds) → Q v H
def rMaxQ (K : PySem.W.Frag) : List V → Hp → VK → Prop := fun xs H Q => ∃ p vs d ds, xs = [.ref p] ∧ SqL K H p vs ∧ DpAll K H vs (d :: ds) ∧ PySem.W.AlikeAll (d :: ds) ∧ PyData.plainAll (d :: ds) = true ∧ PyData.depthAll (d :: ds) ≤ 60 ∧ ∀ (i : Nat) v, vs[i]? = some v → (d :: ds)[i]? = some (PySem.W.maxD d ds) → Q v H
theorem call_minP (hc : X.calm = true) (hu : X.A.units + 64 < cLine) : CallR X (.builtin "min") (rMinQ X.K) := by
  intro pins s σ H xs us Q I r ⟨p, vs, d, ds, e, hq, hd, ha, hp, hz, q⟩
  subst e
  obtain ⟨u1, rfl, r1⟩ := vals1 r
  cases r1
  obtain ⟨its, rv, pl, _⟩ := I.list hq
  obtain ⟨as, hr⟩ := Dp.readsAll I (d :: ds) vs its hd rv
  refine PySem.W.min_list_data (I.ok.hd hc) pl.isList (by simpa using hr) ha (by have := hz; omega) fun i v h' tk bs hv hr' hk => ?_
  obtain ⟨w, hw, rw_, hdw⟩ := min_at I rv hd hp hk hv hr'
  exact ⟨w, H, I.kept hk, rw_, q i w hw hdw⟩
theorem call_maxP (hc : X.calm = true) (hu : X.A.units + 64 < cLine) : CallR X (.builtin "max") (rMaxQ X.K) := by
  intro pins s σ H xs us Q I r ⟨p, vs, d, ds, e, hq, hd, ha, hp, hz, q⟩
  subst e
  obtain ⟨u1, rfl, r1⟩ := vals1 r
  cases r1
  obtain ⟨its, rv, pl, _⟩ := I.list hq
  obtain ⟨as, hr⟩ := Dp.readsAll I (d :: ds) vs its hd rv
  refine PySem.W.max_list_data (I.ok.hd hc) pl.isList (by simpa using hr) ha (by have := hz; omega) fun i v h' tk bs hv hr' hk => ?_
  obtain ⟨w, hw, rw_, hdw⟩ := min_at I rv hd hp hk hv hr'
  exact ⟨w, H, I.kept hk, rw_, q i w hw hdw⟩
/-- x(e, ..), x an instance -/
def tCallO' (C : Addr) (sp : Sp) (E : XK) (tf : TE) (t : TA) : TE := fun σ H Q => tf σ H fun y H1 => ∃ a, y = V.ref a ∧ t σ H1 fun vs H2 => (∃ dx fs, H2 a = some (.ins C dx fs)) ∧ sp (V.ref a :: vs) H2 Q E
variable {CX : CXT} {k : Nat} {C : Addr} {sp : Sp} {E : XK} {e fe : Expr} {es : List Expr} {tf : TE} {t : TA} {pos : Pos} {g : Addr}
theorem pe_callO' (hf : PE X fe tf) (c : CallO X.K C g) (F : FnR X.prog X.w X.K X.mg X.base CX k g sp) (hr : Room k X.A) (hx : Passes CX X E) (ha : PA X (e :: es) t)
    (ht : eval (.Call fe (e :: es) [] pos) X.env = (do callWith pos (← eval fe X.env) [] (backTo pos (starEach (e :: es) X.env)) (backToKw pos (keywordEach [] X.env))) := by rfl)
    (he : starEach (e :: es) X.env = (false, eval e X.env) :: starEach es X.env := by rfl) (hpl : (backTo pos (starEach es X.env)).any (·.1) = false := by rfl) : PE X (.Call fe (e :: es) [] pos) (tCallO' C sp E tf t) := by
  refine ⟨fun pins s σ H Q I h => ?_⟩
  refine Call_ (thn (hf.run pins s σ H _ I h) fun u s1 ⟨y, H1, I1, ry, a, ey, q⟩ => ?_) ht
  subst ey
  obtain rfl : u = Value.ref a := ry
  refine callO_with (thn (ha.run pos pins s1 σ H1 _ I1 q) fun us s2 ⟨vs, H2, I2, r, hi, q2⟩ => ?_) he hpl
  obtain ⟨ox, od, J, hd⟩ := insC_at I2 (.inr hi)
  exact ⟨⟨C, ox, od, J, hd⟩, run_callO c F hr hx I2 (.inr hi) r q2⟩
theorem FnOk.raw0 {P : Program} {w : World} {K : PySem.W.Frag} {mg : Str → Option Value} {base : Heap} {f : Addr} {fd : FuncData} {ps : List Str} (F : FnOk P w K mg base CX k f fd ps sp) (hb : Binds K fd ps []) : FnR P w K mg base CX k f sp :=
  (F.raw hb .nil).imp fun vs H Q E h => by rw [List.append_nil]; exact h
end
abbrev rCount : V → List V → Hp → VK → Prop := fun x xs H Q => ∃ a b, x = .str a ∧ xs = [.str b] ∧ Q (.int (Txt.count a b)) H
abbrev rRfind : V → List V → Hp → VK → Prop := fun x xs H Q => ∃ a b, x = .str a ∧ xs = [.str b] ∧ Q (.int (Txt.rfind a b)) H
abbrev rSplit : V → List V → Hp → VK → Prop := fun x xs H Q => ∃ a b, x = .str a ∧ xs = [.str b] ∧ (b.length == 0) = false ∧ a.length + 2 ≤ sizeLine ∧ rNewStrs (Txt.split a b) H Q
abbrev rJoin (K : PySem.W.Frag) : V → List V → Hp → VK → Prop := fun x xs H Q => ∃ a p, ∃ ys : List Str, x = .str a ∧ xs = [.ref p] ∧ (SqL K H p (ys.map V.str) ∨ SqT K H p (ys.map V.str)) ∧ (ys.map (·.length)).sum + ys.length * a.length ≤ 16777216 ∧ Q (.str (Txt.join a ys)) H
abbrev rOrd' : List V → Hp → VK → Prop := fun xs H Q => ∃ x, xs = [.str x] ∧ x.length = 1 ∧ Q (.int (x.cps.getD 0 0 : Nat)) H
end L2
namespace DL
open PySem L2 StX
section
variable {K : PySem.W.Frag} {u u' : Wd} {σ : L2.St} {ds : DS} {P : D → Prop} {te ta tb tc : TE} {tt tu : TT} {C : Addr} {E : XK} {R : Rl} {N : Nd}
theorem pds_get : ∀ {xs : List D} {es : List PyData} {i : Nat} {x : D} {e : PyData}, pds xs = some es → xs[i]? = some x → es[i]? = some e → pd x = some e
  | [], _, _, _, _, _, h, _ => by simp at h
  | y :: ys, es, i, x, e, h, hx, he => by
    simp only [pds] at h
    cases hp : pd y with
    | none => rw [hp] at h; cases h
    | some d =>
      rw [hp] at h
      cases hq : pds ys with
      | none => rw [hq] at h; cases h
      | some ds =>
        rw [hq] at h
        cases h
        cases i with
        | zero => simp at hx he; subst hx he; exact hp
        | succ i => exact pds_get hq (by simpa using hx) (by simpa using he)
/-- min(l), max(l): one of the items, that holds the data -/
theorem min_lst {xs : List D} {d : PyData} {es : List PyData} (h1 : pds xs = some (d :: es)) (ha : PySem.W.AlikeAll (d :: es)) (hp : PyData.plainAll (d :: es) = true) (hz : PyData.depthAll (d :: es) ≤ 60) (h : ∀ x, x ∈ xs → pd x = some (PySem.W.minD d es) → P x) : Cb K (rMinQ K) [.lst xs] P := fun u vs Q e r k => by
  obtain ⟨v, rfl, r1⟩ := dens1 r
  obtain ⟨a, ws, rfl, q, r2⟩ := den_lst r1
  refine ⟨a, ws, d, es, rfl, Evl.ex_l e q, dens_dp e r2 h1, ha, hp, hz, fun i v hv hd => ?_⟩
  obtain ⟨x, hx, hdx⟩ := r2.get hv
  exact k v x u (.refl e) hdx (h x (List.mem_of_getElem? hx) (pds_get h1 hx hd))
theorem max_lst {xs : List D} {d : PyData} {es : List PyData} (h1 : pds xs = some (d :: es)) (ha : PySem.W.AlikeAll (d :: es)) (hp : PyData.plainAll (d :: es) = true) (hz : PyData.depthAll (d :: es) ≤ 60) (h : ∀ x, x ∈ xs → pd x = some (PySem.W.maxD d es) → P x) : Cb K (rMaxQ K) [.lst xs] P := fun u vs Q e r k => by
  obtain ⟨v, rfl, r1⟩ := dens1 r
  obtain ⟨a, ws, rfl, q, r2⟩ := den_lst r1
  refine ⟨a, ws, d, es, rfl, Evl.ex_l e q, dens_dp e r2 h1, ha, hp, hz, fun i v hv hd => ?_⟩
  obtain ⟨x, hx, hdx⟩ := r2.get hv
  exact k v x u (.refl e) hdx (h x (List.mem_of_getElem? hx) (pds_get h1 hx hd))
/-- x(..) of an instance -/
theorem we_callO' {ds : DS} {n : Nat} {P : D → Nat → Prop} {t : TA} (h : We K ta ds n fun o m => ∃ fs, o = .obj C fs ∧ Wa K t ds m fun xs k => R (o :: xs) k P) : We K (tCallO' C (spD K R) E ta t) ds n P := fun b u σ Q e S k =>
  h b u σ _ e S fun v o u1 g1 s1 r ⟨fs, z, q⟩ => by
    subst z
    obtain ⟨a, dx, fv, rfl, ha, hf⟩ := den_obj r
    refine ⟨a, rfl, q b u1 σ _ rfl (S.go g1 s1) fun vs xs u2 g2 s2 r2 p2 => ⟨⟨dx, fv, g2.c _ _ (g2.a _ _ ha)⟩, ?_⟩⟩
    exact ⟨u2, _ :: xs, P, rfl, g2.c, s2, .cons (r.mono g2.ls) r2, p2, fun v d u3 g3 s3 r' p' => k v d u3 ((g1.trans g2).trans g3) s3 r' p'⟩
end
end DL

namespace DL
open PySem L2 StX
section
variable {K : PySem.W.Frag} {b u u' u'' : Wd} {σ : L2.St} {ds : DS} {n : Nat} {P : D → Nat → Prop} {te ta tb tc : TE} {tt tu : TT} {N : Nd} {ts t1 t2 : TS} {g : TG} {De : Ends}
/-! ### streams -/
theorem ixN0 : ixN 3 0 = some 0 := by decide
theorem ixN1 : ixN 3 1 = some 1 := by decide
theorem we_strm {i : Nat} {a : Addr} (hd : ds[i]? = some (some (.strm a))) (j : Int) (k : Nat) (hj : j = k) (h : ∀ x c m : Int, 0 ≤ x → 0 ≤ c → c ≤ n → 0 ≤ m → m < 2147483648 → ∃ z, [x, c, m][k]? = some z ∧ P (.int z) n) : We K (tOp (rIx K) (tVar i) (tC (.int j))) ds n P := fun b u σ Q e S kk => by
  subst e hj
  obtain ⟨v, hv, hS⟩ := S.sl i _ hd
  obtain ⟨rfl, hs⟩ := den_strm (hS.imm rfl)
  obtain ⟨h0, o, h1, x, c, m, rfl, x0, c0, cn, m0, mb⟩ := S.st a hs
  obtain ⟨z, hz, p⟩ := h x c m x0 c0 cn m0 mb
  refine ⟨.ref a, hv, .inl ⟨a, _, (k : Int), .int z, rfl, rfl, SqL.of h1, ?_, kk _ _ u (.refl S.ex) S.st (.int z) p⟩⟩
  have hk : k < 3 := by
    have := (List.getElem?_eq_some_iff.mp hz).1
    simpa using this
  have hz' : [V.int x, V.int c, V.int m][k]? = some (V.int z) := by
    match k, hk with
    | 0, _ => simp at hz ⊢; exact hz
    | 1, _ => simp at hz ⊢; exact hz
    | 2, _ => simp at hz ⊢; exact hz
  exact (atI_of (xs := [V.int x, V.int c, V.int m]) (n := k) (.inl ⟨by omega, by omega⟩) hk).trans hz'
theorem gs_strm {a : Addr} {o : HO} {k : Nat} (e : Ex u.H0 u.H1) (s : StOk u) (hs : u.S a) (ho : SO k o) (hk : u.n ≤ k) : Gs u ⟨u.S, k, u.H0, upd u.H1 a o⟩ ∧ StOk ⟨u.S, k, u.H0, upd u.H1 a o⟩ := by
  obtain ⟨a0, o1, a1, _⟩ := s a hs
  refine ⟨⟨.refl _, fun x w ns hx => ?_, fun x hx => ?_, fun x w hx => ?_, fun x h h' => absurd h h', fun _ h => h, fun _ h => .inl h, hk⟩, fun x hx => ?_⟩
  · exact (upd_ne (fun q : x = a => ns (by rw [q]; exact hs))).trans hx
  · show upd u.H1 a o x ≠ none
    by_cases q : x = a
    · rw [q, upd_same]; simp
    · rw [upd_ne q]; exact hx
  · exact (upd_ne (fun q => by rw [q, a0] at hx; cases hx)).trans (e x w hx)
  · obtain ⟨x0, w, x1, xs⟩ := s x hx
    by_cases q : x = a
    · subst q
      exact ⟨x0, o, upd_same, ho⟩
    · exact ⟨x0, w, (upd_ne q).trans x1, xs.mono hk⟩
theorem ws_setS1 {i : Nat} {a : Addr} (hd : ds[i]? = some (some (.strm a))) (h : We K te ds n fun d m => ∃ x : Int, d = .int x ∧ 0 ≤ x ∧ x ≤ m + 1 ∧ N.nx ds (m + 1)) : Ws K (tAsg te (gSub (tVar i) (tC (.int 1)) rSetL)) ds n N := fun b u σ De e S O =>
  h b u σ _ e S fun v d u1 g1 s1 r ⟨x, z, x0, xn, p⟩ => by
    subst z
    cases den_int r
    have S1 := S.go g1 s1
    obtain ⟨v, hv, hS⟩ := S1.sl i _ hd
    obtain ⟨rfl, hs⟩ := den_strm (hS.imm rfl)
    obtain ⟨h0, o, h1, x', c, m, rfl, x0', c0, cn, m0, mb⟩ := s1 a hs
    obtain ⟨gg, ss⟩ := gs_strm (o := .lst [.int x', .int x, .int m]) (k := u1.n + 1) g1.c s1 hs ⟨x', x, m, rfl, x0', x0, by omega, m0, mb⟩ (by omega)
    exact ⟨.ref a, hv, a, _, 1, 1, rfl, rfl, h1, ixN1, O.nx _ ⟨u1.S, u1.n + 1, u1.H0, upd u1.H1 a (.lst [.int x', .int x, .int m])⟩ _ (g1.trans gg).ls (S1.go gg ss) p⟩
theorem ws_setS0 {i : Nat} {a : Addr} (hd : ds[i]? = some (some (.strm a))) (h : We K te ds n fun d m => ∃ x : Int, d = .int x ∧ 0 ≤ x ∧ N.nx ds m) : Ws K (tAsg te (gSub (tVar i) (tC (.int 0)) rSetL)) ds n N := fun b u σ De e S O =>
  h b u σ _ e S fun v d u1 g1 s1 r ⟨x, z, x0, p⟩ => by
    subst z
    cases den_int r
    have S1 := S.go g1 s1
    obtain ⟨v, hv, hS⟩ := S1.sl i _ hd
    obtain ⟨rfl, hs⟩ := den_strm (hS.imm rfl)
    obtain ⟨h0, o, h1, x', c, m, rfl, x0', c0, cn, m0, mb⟩ := s1 a hs
    obtain ⟨gg, ss⟩ := gs_strm (o := .lst [.int x, .int c, .int m]) (k := u1.n) g1.c s1 hs ⟨x, c, m, rfl, x0, c0, cn, m0, mb⟩ (by omega)
    exact ⟨.ref a, hv, a, _, 0, 0, rfl, rfl, h1, ixN0, O.nx _ ⟨u1.S, u1.n, u1.H0, upd u1.H1 a (.lst [.int x, .int c, .int m])⟩ _ (g1.trans gg).ls (S1.go gg ss) p⟩
theorem ws_retS {t : TA} (h : Wa K t ds n fun xs m => ∃ x c y : Int, xs = [.int x, .int c, .int y] ∧ 0 ≤ x ∧ 0 ≤ c ∧ c ≤ m ∧ 0 ≤ y ∧ y < 2147483648 ∧ ∀ p, N.rt (.strm p) m) : Ws K (tRet (tLst t)) ds n N := fun b u σ De e S O =>
  h b u σ _ e S fun vs xs u1 g1 s1 r ⟨x, c, y, z, x0, c0, cm, y0, yb, p⟩ => by
    subst z
    obtain ⟨v1, v2, v3, rfl, r1, r2, r3⟩ := dens3 r
    cases den_int r1
    cases den_int r2
    cases den_int r3
    refine ⟨by show 3 ≤ sizeLine; decide, fun q hq => ?_⟩
    have q0 : u1.H0 q = none := ex_none g1.c hq
    refine O.rt (.strm q) _ ⟨fun a => u1.S a ∨ a = q, u1.n, u1.H0, upd u1.H1 q (.lst [.int x, .int c, .int y])⟩ ((S.gr.trans g1).trans ⟨.refl _, fun x w _ hx => ex_new hq x w hx, fun x hx => ?_, fun x w hx => ex_new hq x w (g1.c x w hx), fun x h h' => absurd h h', fun _ h => .inl h, fun x h => h.elim .inl fun z => .inr (by rw [z]; exact hq), Nat.le_refl _⟩) ?_ (.strm (.inr rfl)) (p q)
    · show upd u1.H1 q _ x ≠ none
      by_cases z : x = q
      · rw [z, upd_same]; simp
      · rw [upd_ne z]; exact hx
    · rintro a (ha | rfl)
      · obtain ⟨a0, w, a1, as⟩ := s1 a ha
        exact ⟨a0, w, (upd_ne (fun z => by rw [z, hq] at a1; cases a1)).trans a1, as⟩
      · exact ⟨q0, _, upd_same, x, c, y, rfl, x0, c0, cm, y0, yb⟩
end
/-! ### comparisons of known forms -/
section
variable {K : PySem.W.Frag} {P : D → Prop} {i j k l : Int} {p q : Bool} {x y : Str}
theorem b_eq {α : Type} [DecidableEq α] (a b : α) : (a == b) = decide (a = b) := by
  by_cases h : a = b
  · subst h; simp
  · simp [h]
theorem eq_int (h : P (.bl (decide (i = j)))) : Op K (rEqP K) (.int i) (.int j) P := eqP (d := .int i) (e := .int j) rfl rfl rfl rfl (by simp [PyData.depth, PyData.depthAll]) (by simpa [PyData.eqv, b_eq] using h)
theorem ne_int (h : P (.bl (!decide (i = j)))) : Op K (rNeP K) (.int i) (.int j) P := neP (d := .int i) (e := .int j) rfl rfl rfl rfl (by simp [PyData.depth, PyData.depthAll]) (by simpa [PyData.eqv, b_eq] using h)
theorem eq_bl (h : P (.bl (decide (p = q)))) : Op K (rEqP K) (.bl p) (.bl q) P := eqP (d := .bool p) (e := .bool q) rfl rfl rfl rfl (by simp [PyData.depth, PyData.depthAll]) (by simpa [PyData.eqv, b_eq] using h)
theorem ne_bl (h : P (.bl (!decide (p = q)))) : Op K (rNeP K) (.bl p) (.bl q) P := neP (d := .bool p) (e := .bool q) rfl rfl rfl rfl (by simp [PyData.depth, PyData.depthAll]) (by simpa [PyData.eqv, b_eq] using h)
theorem eq_str (h : P (.bl (decide (x = y)))) : Op K (rEqP K) (.str x) (.str y) P := eqP (d := .str x) (e := .str y) rfl rfl rfl rfl (by simp [PyData.depth, PyData.depthAll]) (by simpa [PyData.eqv, b_eq] using h)
theorem ne_str (h : P (.bl (!decide (x = y)))) : Op K (rNeP K) (.str x) (.str y) P := neP (d := .str x) (e := .str y) rfl rfl rfl rfl (by simp [PyData.depth, PyData.depthAll]) (by simpa [PyData.eqv, b_eq] using h)
abbrev pos (a b : Int) : D := .tup [.int a, .int b]
abbrev ppos (a b : Int) : PyData := .tuple [.int a, .int b]
theorem pd_pos (a b : Int) : pd (pos a b) = some (ppos a b) := rfl
theorem eqv_pos : PyData.eqv (ppos i j) (ppos k l) = decide (i = k ∧ j = l) := by
  simp [PyData.eqv, PyData.eqvAll, b_eq]
theorem eq_pos (h : P (.bl (decide (i = k ∧ j = l)))) : Op K (rEqP K) (pos i j) (pos k l) P := eqP (pd_pos i j) (pd_pos k l) rfl rfl (by simp [PyData.depth, PyData.depthAll]) (by rw [eqv_pos]; exact h)
theorem ne_pos (h : P (.bl (!decide (i = k ∧ j = l)))) : Op K (rNeP K) (pos i j) (pos k l) P := neP (pd_pos i j) (pd_pos k l) rfl rfl (by simp [PyData.depth, PyData.depthAll]) (by rw [eqv_pos]; exact h)
theorem ne_nn (h : P (.bl false)) : Op K (rNeP K) .non .non P := neP (d := .none) (e := .none) rfl rfl rfl rfl (by simp [PyData.depth, PyData.depthAll]) (by simpa [PyData.eqv] using h)
theorem ne_np (h : P (.bl true)) : Op K (rNeP K) .non (pos k l) P := neP (d := .none) rfl (pd_pos k l) rfl rfl (by simp [PyData.depth, PyData.depthAll]) (by simpa [PyData.eqv] using h)
theorem ne_pn (h : P (.bl true)) : Op K (rNeP K) (pos i j) .non P := neP (pd_pos i j) (e := .none) rfl rfl rfl (by simp [PyData.depth, PyData.depthAll]) (by simpa [PyData.eqv] using h)
theorem lt_int (h : P (.bl (decide (i < j)))) : Op K (rLtP K) (.int i) (.int j) P := ltP (d := .int i) (e := .int j) rfl rfl rfl (fun z => by cases z) (by simp [PyData.depth, PyData.depthAll]) (by rw [PySem.W.dataLt_int]; exact h)
theorem gt_int (h : P (.bl (decide (j < i)))) : Op K (rGtP K) (.int i) (.int j) P := gtP (d := .int i) (e := .int j) rfl rfl rfl (fun z => by cases z) (by simp [PyData.depth, PyData.depthAll]) (by rw [PySem.W.dataLt_int]; exact h)
theorem le_int (h : P (.bl (decide (i ≤ j)))) : Op K (rLeP K) (.int i) (.int j) P := leP (d := .int i) (e := .int j) rfl rfl rfl (fun z => by cases z) (by simp [PyData.depth, PyData.depthAll]) (by
  rw [PySem.W.dataLt_int]
  have e : (!decide (j < i)) = decide (i ≤ j) := by by_cases q : i ≤ j <;> simp [q] <;> omega
  rw [e]; exact h)
theorem ge_int (h : P (.bl (decide (j ≤ i)))) : Op K (rGeP K) (.int i) (.int j) P := geP (d := .int i) (e := .int j) rfl rfl rfl (fun z => by cases z) (by simp [PyData.depth, PyData.depthAll]) (by
  rw [PySem.W.dataLt_int]
  have e : (!decide (i < j)) = decide (j ≤ i) := by by_cases q : j ≤ i <;> simp [q] <;> omega
  rw [e]; exact h)
/-- positions in order -/
abbrev plt (i j k l : Int) : Prop := i < k ∨ i = k ∧ j < l
theorem lt_posv : PySem.W.dataLt (ppos i j) (ppos k l) = decide (plt i j k l) := by
  have h := PySem.W.DatumOrd.lt_eq ((i, j) : Int × Int) ((k, l) : Int × Int)
  refine (show PySem.W.dataLt (ppos i j) (ppos k l) = _ from h).trans ?_
  show (if i = k then decide (j < l) else decide (i < k)) = _
  by_cases q : i = k
  · subst q; simp [plt]
  · simp [plt, q]
theorem lt_pos (h : P (.bl (decide (plt i j k l)))) : Op K (rLtP K) (pos i j) (pos k l) P := ltP (pd_pos i j) (pd_pos k l) rfl (fun z => by cases z) (by simp [PyData.depth, PyData.depthAll]) (by rw [lt_posv]; exact h)
theorem gt_pos (h : P (.bl (decide (plt k l i j)))) : Op K (rGtP K) (pos i j) (pos k l) P := gtP (pd_pos i j) (pd_pos k l) rfl (fun z => by cases z) (by simp [PyData.depth, PyData.depthAll]) (by rw [lt_posv]; exact h)
theorem le_pos (h : P (.bl (!decide (plt k l i j)))) : Op K (rLeP K) (pos i j) (pos k l) P := leP (pd_pos i j) (pd_pos k l) rfl (fun z => by cases z) (by simp [PyData.depth, PyData.depthAll]) (by rw [lt_posv]; exact h)
theorem ge_pos (h : P (.bl (!decide (plt i j k l)))) : Op K (rGeP K) (pos i j) (pos k l) P := geP (pd_pos i j) (pd_pos k l) rfl (fun z => by cases z) (by simp [PyData.depth, PyData.depthAll]) (by rw [lt_posv]; exact h)
theorem isiI {T' : String} {r : Bool} (hk : kitB "int" T' = some r) (h : P (.bl r)) : Cb K (rIsi K) [.int i, .ty T'] P := isi_ty (a := .int i) rfl hk h
theorem isiS {T' : String} {r : Bool} (hk : kitB "str" T' = some r) (h : P (.bl r)) : Cb K (rIsi K) [.str x, .ty T'] P := isi_ty (a := .str x) rfl hk h
theorem isiT {xs : List D} {T' : String} {r : Bool} (hk : kitB "tuple" T' = some r) (h : P (.bl r)) : Cb K (rIsi K) [.tup xs, .ty T'] P := isi_ty (a := .tup xs) rfl hk h
theorem iteD {c A B : Prop} [Decidable c] (h1 : c → A) (h2 : ¬ c → B) : if decide c = true then A else B := by
  by_cases h : c
  · rw [if_pos (decide_eq_true h)]; exact h1 h
  · rw [if_neg (by simp [h])]; exact h2 h
theorem iteND {c A B : Prop} [Decidable c] (h1 : ¬ c → A) (h2 : c → B) : if (!decide c) = true then A else B := by
  by_cases h : c
  · rw [if_neg (by simp [h])]; exact h2 h
  · rw [if_pos (by simp [h])]; exact h1 h
theorem iteNT {A B : Prop} (h : B) : if (!true) = true then A else B := by simpa using h
theorem iteNF {A B : Prop} (h : A) : if (!false) = true then A else B := by simpa using h
end
end DL

namespace DL
open PySem L2 StX
section
variable {K : PySem.W.Frag} {b u u' u'' : Wd} {σ : L2.St} {ds : DS} {n : Nat} {P : D → Nat → Prop} {te ta tb tc : TE} {tt tu : TT} {N : Nd} {ts t1 t2 : TS} {g : TG} {De : Ends}
/-- an object that nothing tells of -/
theorem Gs.junk (e : Ex u.H0 u.H1) {p : Addr} {o : HO} (hp : u.H1 p = none) : Gs u ⟨u.S, u.n, u.H0, upd u.H1 p o⟩ :=
  ⟨.refl _, fun x w _ hx => ex_new hp x w hx, fun x hx => by
      show upd u.H1 p o x ≠ none
      by_cases q : x = p
      · subst q; rw [upd_same]; simp
      · rw [upd_ne q]; exact hx, e.trans (ex_new hp), fun _ a b => absurd a b, fun _ h => h, fun _ h => .inl h, Nat.le_refl _⟩
theorem StOk.not (s : StOk u) {p : Addr} (hp : u.H1 p = none) : ¬ u.S p := fun h => by
  obtain ⟨_, o, h1, _⟩ := s p h
  rw [hp] at h1; cases h1
/-- a, b = e, [] where b is gone on with -/
theorem ws_tupnew {i j : Nat} (h : We K te ds n fun d m => N.nx ((ds.set i (some d)).set j (some (.mls []))) m) : Ws K (tAsg (tTup (tCons te (tCons (tLst tNil) tNil))) (gTup K 2 (gCons (gName i) (gCons (gName j) gNil)))) ds n N := fun b u σ De e S O =>
  h b u σ _ e S fun v d u1 g1 s1 r hN => ⟨(by show 0 ≤ sizeLine; decide), fun p hp => ⟨(by show 2 ≤ sizeLine; decide), fun q hq => by
    have S2 := ((S.go g1 s1).set (i := i) r).setMls (i := j) (vs := []) hp .nil
    have S3 := S2.go (Gs.junk S2.ex (o := .tup [v, .ref p]) hq) (S2.st.write (S2.st.not hq))
    exact ⟨q, [v, .ref p], rfl, SqT.of upd_same, rfl, v, _, rfl, _, _, rfl, rfl, O.nx _ ⟨u1.S, u1.n, u1.H0, _⟩ _ ⟨g1.sub, g1.a⟩ S3 hN⟩⟩⟩
end
end DL

/-! Positions, lines and edits of texts, told of lists of signs. -/
namespace Mx
abbrev Pt := Int × Int
def step (p : Pt) (c : Nat) : Pt := if c = 10 then (p.1 + 1, 0) else (p.1, p.2 + 1)
def beh (p : Pt) (l : List Nat) : Pt := l.foldl step p
theorem beh_nil (p : Pt) : beh p [] = p := rfl
theorem beh_cons (p : Pt) (c : Nat) (l : List Nat) : beh p (c :: l) = beh (step p c) l := rfl
theorem beh_app (p : Pt) (a b : List Nat) : beh p (a ++ b) = beh (beh p a) b := by unfold beh; rw [List.foldl_append]
def addP (p q : Pt) : Pt := if q.1 = 0 then (p.1, p.2 + q.2) else (p.1 + q.1, q.2)
def nn (p : Pt) : Prop := 0 ≤ p.1 ∧ 0 ≤ p.2
theorem nn_step {p : Pt} {c : Nat} (h : nn p) : nn (step p c) := by
  unfold step nn at *; split <;> simp <;> omega
theorem nn_beh {p : Pt} : ∀ (l : List Nat), nn p → nn (beh p l) := by
  intro l
  induction l generalizing p with
  | nil => exact fun h => h
  | cons c l ih => exact fun h => ih (nn_step h)
theorem step_add {p e : Pt} {c : Nat} (h : nn e) : step (addP p e) c = addP p (step e c) := by
  obtain ⟨a, b⟩ := e
  obtain ⟨x, y⟩ := p
  unfold nn at h
  simp only [step, addP] at *
  by_cases hc : c = 10
  · simp only [hc, if_true]
    have h1 : ¬ (a + 1 = 0) := by omega
    simp only [h1, if_false]
    by_cases ha : a = 0
    · simp [ha]
    · simp [ha]; omega
  · simp only [hc, if_false]
    by_cases ha : a = 0
    · simp [ha]; omega
    · simp [ha]
theorem beh_add (p : Pt) : ∀ (l : List Nat) {e : Pt}, nn e → beh (addP p e) l = addP p (beh e l) := by
  intro l
  induction l with
  | nil => intro e _; rfl
  | cons c l ih =>
    intro e h
    rw [beh_cons, beh_cons, step_add h, ih (nn_step h)]
theorem add_zero (p : Pt) : addP p (0, 0) = p := by simp [addP]
theorem zero_nn : nn (0, 0) := ⟨Int.le_refl _, Int.le_refl _⟩
/-- the position behind a text is the sum with its extent -/
theorem beh_ext (p : Pt) (l : List Nat) : addP p (beh (0, 0) l) = beh p l := by
  rw [← beh_add p l zero_nn, add_zero]
theorem beh_none {l : List Nat} (p : Pt) (h : 10 ∉ l) : beh p l = (p.1, p.2 + l.length) := by
  induction l generalizing p with
  | nil => simp [beh]
  | cons c l ih =>
    have hc : c ≠ 10 := fun z => h (by simp [z])
    rw [beh_cons, ih _ (fun z => h (by simp [z]))]
    simp [step, hc]
    omega
theorem beh_cnt (p : Pt) (l : List Nat) : (beh p l).1 = p.1 + l.count 10 := by
  induction l generalizing p with
  | nil => simp [beh]
  | cons c l ih =>
    rw [beh_cons, ih]
    by_cases hc : c = 10
    · simp [step, hc]; omega
    · simp [step, hc, List.count_cons]
theorem beh_last {a b : List Nat} (p : Pt) (h : 10 ∉ b) : (beh p (a ++ 10 :: b)).2 = b.length := by
  rw [beh_app, beh_cons, beh_none _ h]
  simp [step]
/-! order -/
def lt (p q : Pt) : Prop := p.1 < q.1 ∨ p.1 = q.1 ∧ p.2 < q.2
instance (p q : Pt) : Decidable (lt p q) := by unfold lt; exact inferInstance
def mv (p o w : Pt) : Pt := if p.1 = o.1 then (w.1, p.2 - o.2 + w.2) else (p.1 - o.1 + w.1, p.2)
theorem mv_ge {p o w : Pt} (h : ¬ lt p o) : ¬ lt (mv p o w) w := by
  unfold lt mv at *; split <;> simp at * <;> omega
theorem mv_inv {p o w : Pt} (h : ¬ lt p o) : mv (mv p o w) w o = p := by
  obtain ⟨a, b⟩ := p
  unfold lt mv at *
  simp at *
  by_cases q : a = o.1
  · simp [q]
    try omega
  · have : ¬ (a - o.1 + w.1 = w.1) := by omega
    simp [q, this]
    try omega
theorem mv_lt {p q o w : Pt} (h : ¬ lt p o) (h' : lt p q) : lt (mv p o w) (mv q o w) := by
  unfold lt mv at *; split <;> split <;> simp at * <;> omega
theorem mv_nn {p o w : Pt} (h : ¬ lt p o) (hp : nn p) (hw : nn w) : nn (mv p o w) := by
  unfold lt nn mv at *; split <;> simp at * <;> omega
theorem mv_step {p o w : Pt} (h : ¬ lt p o) (c : Nat) : mv (step p c) o w = step (mv p o w) c := by
  obtain ⟨a, b⟩ := p
  obtain ⟨x, y⟩ := o
  obtain ⟨z, t⟩ := w
  unfold lt at h
  simp only at h
  unfold mv step
  by_cases hc : c = 10
  · by_cases q : a = x
    · have q2 : ¬ (a + 1 = x) := by omega
      simp only [hc, q, q2, if_true, if_false]
      have q3 : ¬ (x + 1 = x) := by omega
      simp only [q3, if_false, Prod.mk.injEq, and_true, true_and]
      omega
    · have q2 : ¬ (a + 1 = x) := by omega
      simp only [hc, q, q2, if_true, if_false, Prod.mk.injEq, and_true, true_and]
      omega
  · by_cases q : a = x
    · simp only [hc, q, if_true, if_false, Prod.mk.injEq, and_true, true_and]
      omega
    · simp only [hc, q, if_true, if_false]
theorem lt_trans {p q r : Pt} (h : lt p q) (h' : lt q r) : lt p r := by unfold lt at *; omega
theorem lt_step {p : Pt} {c : Nat} (hp : nn p) : lt p (step p c) := by unfold lt step; split <;> simp <;> omega
theorem nlt_trans {p q r : Pt} (h : ¬ lt p q) (h' : ¬ lt q r) : ¬ lt p r := by unfold lt at *; omega
theorem nlt_of {p q : Pt} (h : lt p q) : ¬ lt q p := by unfold lt at *; omega
theorem nlt_self (p : Pt) : ¬ lt p p := by unfold lt; omega
theorem lt_nlt {p q r : Pt} (h : lt p q) (h' : ¬ lt r q) : lt p r := by unfold lt at *; omega
theorem nlt_step {p o : Pt} {c : Nat} (hp : nn p) (h : ¬ lt p o) : ¬ lt (step p c) o := nlt_trans (nlt_of (lt_step hp)) h
theorem nlt_beh {p : Pt} (hp : nn p) (l : List Nat) : ¬ lt (beh p l) p := by
  induction l generalizing p with
  | nil => exact nlt_self p
  | cons c l ih => exact nlt_trans (ih (nn_step hp)) (nlt_of (lt_step hp))
theorem lt_beh {p : Pt} (hp : nn p) {l : List Nat} (h : l ≠ []) : lt p (beh p l) := by
  cases l with
  | nil => exact absurd rfl h
  | cons c l => exact lt_nlt (lt_step hp) (nlt_beh (nn_step hp) l)
theorem mv_beh {o w : Pt} : ∀ (l : List Nat) {p : Pt}, nn p → ¬ lt p o → mv (beh p l) o w = beh (mv p o w) l := by
  intro l
  induction l with
  | nil => intro p _ _; rfl
  | cons c l ih => intro p hp h; rw [beh_cons, beh_cons, ih (nn_step hp) (nlt_step hp h), mv_step h]
theorem mv_self (o w : Pt) : mv o o w = w := by simp [mv]
/-! lines -/
def lns : List Nat → List (List Nat)
  | [] => [[]]
  | c :: r => if c = 10 then [] :: lns r else (c :: (lns r).headD []) :: (lns r).tail
theorem lns_ne (l : List Nat) : lns l ≠ [] := by cases l <;> simp [lns]; split <;> simp
/-- the place of a position -/
def sm (rows : List (List Nat)) : Int := (rows.map fun r => ((r.length : Nat) : Int) + 1).sum
theorem place_ok : ∀ (l : List Nat) (at_ : Nat), at_ ≤ l.length → ∃ (i : Nat) (row : List Nat), (beh (0, 0) (l.take at_)).1 = i ∧ (lns l)[i]? = some row ∧ (beh (0, 0) (l.take at_)).2 ≤ row.length ∧
    sm ((lns l).take i) + (beh (0, 0) (l.take at_)).2 = at_ := by
  intro l
  induction l with
  | nil =>
    intro k hk
    simp at hk
    subst hk
    exact ⟨0, [], rfl, rfl, by simp [beh], by simp [beh, sm]⟩
  | cons c r ih =>
    intro k hk
    cases k with
    | zero =>
      cases e : lns (c :: r) with
      | nil => exact absurd e (lns_ne _)
      | cons row rows => exact ⟨0, row, rfl, rfl, by simp [beh], by simp [beh, sm]⟩
    | succ k =>
      obtain ⟨i, row, h1, h2, h3, h4⟩ := ih k (by simpa using hk)
      have hn : nn (beh (0, 0) (r.take k)) := nn_beh _ zero_nn
      have e : beh (0, 0) ((c :: r).take (k + 1)) = addP (step (0, 0) c) (beh (0, 0) (r.take k)) := by
        rw [List.take_succ_cons, beh_cons, beh_ext]
      rw [e]
      generalize beh (0, 0) (r.take k) = q at *
      obtain ⟨a, b⟩ := q
      simp only at h1 h3 h4
      by_cases hc : c = 10
      · refine ⟨i + 1, row, ?_, ?_, ?_, ?_⟩
        · simp only [step, hc, addP, if_true]; split <;> simp <;> omega
        · simp [lns, hc, h2]
        · simp only [step, hc, addP, if_true]; split <;> simp <;> omega
        · have : sm ((lns (c :: r)).take (i + 1)) = 1 + sm ((lns r).take i) := by simp [lns, hc, sm]
          rw [this]
          simp only [step, hc, addP, if_true]; split <;> simp <;> omega
      · cases e2 : lns r with
        | nil => exact absurd e2 (lns_ne _)
        | cons row0 rows =>
          rw [e2] at h2 h4
          have el : lns (c :: r) = (c :: row0) :: rows := by simp [lns, hc, e2]
          rw [el]
          by_cases hi : i = 0
          · subst hi
            simp at h2
            subst h2
            have ha : a = 0 := by omega
            subst ha
            refine ⟨0, c :: row0, ?_, rfl, ?_, ?_⟩
            · simp [step, hc, addP]
            · simp [step, hc, addP]; omega
            · simp [step, hc, addP, sm] at *; omega
          · obtain ⟨j, rfl⟩ : ∃ j, i = j + 1 := ⟨i - 1, by omega⟩
            have ha : ¬ (a = 0) := by omega
            refine ⟨j + 1, row, ?_, by simpa using h2, ?_, ?_⟩
            · simp [step, hc, addP, ha]; omega
            · simp [step, hc, addP, ha]; omega
            · simp [step, hc, addP, ha, sm] at *; omega
end Mx

namespace Lw
open PySem L2 StX DL
open PyProof.Rows (envOfC)
structure Ad where
  c_Edit : Addr
  a_is_integer : Addr
  a_check_text : Addr
  a_added : Addr
  a_moved : Addr
  a_Edit_low : Addr
  a_Edit_high : Addr
  a_Edit_fresh : Addr
  a_Edit_new_high : Addr
  a__law_mixed : Addr
  a__law_place : Addr
  a__law_grid : Addr
  a_is_count : Addr
  a_lines_of : Addr
  a_extent_of : Addr
  a__led : Addr
  a__law_stream : Addr
  a__law_draw : Addr
  a_is_up_to : Addr
  a_is_place : Addr
  a_check_count : Addr
  a__law_pick : Addr
  a_check_up_to : Addr
  a_check_span : Addr
  a_behind : Addr
  a_has_place : Addr
  a_Edit_forward : Addr
  a_Edit_back : Addr
  a__law_signs : Addr
  a_index_of : Addr
  a_place_of : Addr
  a_Edit_init : Addr
  a__law_cut : Addr
  a__law_moves_right : Addr
  a_part_of : Addr
  a_Edit_call : Addr
  a_Edit_opposite : Addr
  a__law_signs_right : Addr
  a__law_opposite_right : Addr
  a_law : Addr
  p_Edit_fresh : Addr
  p_Edit_high : Addr
  p_Edit_low : Addr
  p_Edit_new_high : Addr
def RL : Rl := fun ds n P => ∃ ns : List Int, ds = [.lst (ns.map .int)] ∧ ns.length ≤ 63 ∧ n = 0 ∧ ∀ m, P (.bl true) m
abbrev spL (K : PySem.W.Frag) : Sp := spD K RL
abbrev mk (l : List Nat) : Str := ⟨l.toArray⟩
abbrev tl (x : Str) : List Nat := x.cps.toList
abbrev P2 (p : Mx.Pt) : D := pos p.1 p.2
/-- an edit as an object -/
abbrev edD (A : Ad) (low high : Mx.Pt) (x : Str) (nh : Mx.Pt) : D := .obj A.c_Edit [("_low", P2 low), ("_high", P2 high), ("_fresh", .str x), ("_new_high", P2 nh)]
/-- low and high and the new high of an edit -/
def okE (low high nh : Mx.Pt) : Prop := Mx.nn low ∧ Mx.nn high ∧ Mx.nn nh ∧ ¬ Mx.lt high low ∧ ¬ Mx.lt nh low
def fw (low high nh p : Mx.Pt) : Option Mx.Pt := if Mx.lt p low then some p else if Mx.lt p high then none else some (Mx.mv p high nh)
def oP : Option Mx.Pt → D
  | none => .non
  | some p => P2 p
abbrev bb (p : Mx.Pt) (x : Str) : Mx.Pt := Mx.beh p (tl x)
def grid (rows size : List Int) : List Mx.Pt := rows.flatMap fun r => size.map fun c => (r, c)
def upto (n : Nat) : List Int := (List.range n).map fun (i : Nat) => (i : Int)
abbrev R_is_integer (A : Ad) : Rl := pr fun ds P => ∃ i, ds = [.int i] ∧ P (.bl true)
abbrev R_is_count (A : Ad) : Rl := pr fun ds P => ∃ i, ds = [.int i] ∧ P (.bl (decide (0 ≤ i)))
abbrev R_is_up_to (A : Ad) : Rl := pr fun ds P => ∃ i l, ds = [.int i, .int l] ∧ 0 ≤ i ∧ i ≤ l ∧ P (.bl true)
abbrev R_is_place (A : Ad) : Rl := pr fun ds P => ∃ p : Mx.Pt, ds = [P2 p] ∧ Mx.nn p ∧ P (.bl true)
abbrev R_check_count (A : Ad) : Rl := pr fun ds P => ∃ i, ds = [.int i] ∧ 0 ≤ i ∧ P .non
abbrev R_check_up_to (A : Ad) : Rl := pr fun ds P => ∃ i l, ds = [.int i, .int l] ∧ 0 ≤ i ∧ i ≤ l ∧ P .non
abbrev R_check_text (A : Ad) : Rl := pr fun ds P => ∃ x, ds = [.str x] ∧ P .non
abbrev R_check_span (A : Ad) : Rl := pr fun ds P => ∃ p q : Mx.Pt, ds = [P2 p, P2 q] ∧ Mx.nn p ∧ Mx.nn q ∧ ¬ Mx.lt q p ∧ P .non
abbrev R_lines_of (A : Ad) : Rl := pr fun ds P => ∃ x, ds = [.str x] ∧ x.length ≤ 100000 ∧ P (.tup ((Mx.lns (tl x)).map fun l => .str (mk l)))
abbrev R_extent_of (A : Ad) : Rl := pr fun ds P => ∃ x, ds = [.str x] ∧ x.length ≤ 100000 ∧ P (P2 (bb (0, 0) x))
abbrev R_added (A : Ad) : Rl := pr fun ds P => ∃ p q : Mx.Pt, ds = [P2 p, P2 q] ∧ P (P2 (Mx.addP p q))
abbrev R_behind (A : Ad) : Rl := pr fun ds P => ∃ (p : Mx.Pt) (x : Str), ds = [.int p.1, .int p.2, .str x] ∧ Mx.nn p ∧ x.length ≤ 100000 ∧ P (P2 (bb p x))
/-- of a position of a text -/
abbrev R_has_place (A : Ad) : Rl := pr fun ds P => ∃ (x : Str) (k : Nat), ds = [.str x, .int (Mx.beh (0, 0) ((tl x).take k)).1, .int (Mx.beh (0, 0) ((tl x).take k)).2] ∧ k ≤ x.length ∧ x.length ≤ 100000 ∧ P (.bl true)
abbrev R_index_of (A : Ad) : Rl := pr fun ds P => ∃ (x : Str) (k : Nat), ds = [.str x, .int (Mx.beh (0, 0) ((tl x).take k)).1, .int (Mx.beh (0, 0) ((tl x).take k)).2] ∧ k ≤ x.length ∧ x.length ≤ 100000 ∧ P (.int k)
abbrev R_place_of (A : Ad) : Rl := pr fun ds P => ∃ (x : Str) (k : Nat), ds = [.str x, .int k] ∧ k ≤ x.length ∧ x.length ≤ 100000 ∧ P (P2 (Mx.beh (0, 0) ((tl x).take k)))
abbrev R_part_of (A : Ad) : Rl := pr fun ds P => ∃ (x : Str) (i j : Nat), ds = [.str x, P2 (Mx.beh (0, 0) ((tl x).take i)), P2 (Mx.beh (0, 0) ((tl x).take j))] ∧ i ≤ j ∧ j ≤ x.length ∧ x.length ≤ 100000 ∧ P (.str (mk (((tl x).drop i).take (j - i))))
abbrev R_moved (A : Ad) : Rl := pr fun ds P => ∃ p o w : Mx.Pt, ds = [P2 p, P2 o, P2 w] ∧ P (P2 (Mx.mv p o w))
abbrev R__led (A : Ad) : Rl := pr fun ds P => ∃ p low high nh : Mx.Pt, ds = [P2 p, P2 low, P2 high, P2 nh] ∧ P (oP (fw low high nh p))
abbrev R_Edit_init (A : Ad) : Ri := fun ds P => ∃ (low high : Mx.Pt) (x : Str), ds = [P2 low, P2 high, .str x] ∧ Mx.nn low ∧ Mx.nn high ∧ ¬ Mx.lt high low ∧ x.length ≤ 100000 ∧ P [("_low", P2 low), ("_high", P2 high), ("_fresh", .str x), ("_new_high", P2 (bb low x))]
abbrev R_Edit_low (A : Ad) : Rl := pr fun ds P => ∃ low high x nh, ds = [edD A low high x nh] ∧ P (P2 low)
abbrev R_Edit_high (A : Ad) : Rl := pr fun ds P => ∃ low high x nh, ds = [edD A low high x nh] ∧ P (P2 high)
abbrev R_Edit_fresh (A : Ad) : Rl := pr fun ds P => ∃ low high x nh, ds = [edD A low high x nh] ∧ P (.str x)
abbrev R_Edit_new_high (A : Ad) : Rl := pr fun ds P => ∃ low high x nh, ds = [edD A low high x nh] ∧ P (P2 nh)
abbrev R_Edit_forward (A : Ad) : Rl := pr fun ds P => ∃ low high x nh, ∃ p : Mx.Pt, ds = [edD A low high x nh, .int p.1, .int p.2] ∧ Mx.nn p ∧ P (oP (fw low high nh p))
abbrev R_Edit_back (A : Ad) : Rl := pr fun ds P => ∃ low high x nh, ∃ p : Mx.Pt, ds = [edD A low high x nh, .int p.1, .int p.2] ∧ Mx.nn p ∧ P (oP (fw low nh high p))
abbrev R_Edit_call (A : Ad) : Rl := pr fun ds P => ∃ (x y : Str) (i j : Nat) (nh : Mx.Pt), ds = [edD A (Mx.beh (0, 0) ((tl x).take i)) (Mx.beh (0, 0) ((tl x).take j)) y nh, .str x] ∧ i ≤ j ∧ j ≤ x.length ∧ x.length ≤ 100000 ∧ y.length ≤ 100000 ∧
  P (.str (mk ((tl x).take i ++ (tl y) ++ (tl x).drop j)))
abbrev R_Edit_opposite (A : Ad) : Rl := pr fun ds P => ∃ (x y : Str) (i j : Nat), ds = [edD A (Mx.beh (0, 0) ((tl x).take i)) (Mx.beh (0, 0) ((tl x).take j)) y (Mx.beh (Mx.beh (0, 0) ((tl x).take i)) (tl y)), .str x] ∧ i ≤ j ∧ j ≤ x.length ∧ x.length ≤ 100000 ∧ y.length ≤ 100000 ∧
  P (edD A (Mx.beh (0, 0) ((tl x).take i)) (Mx.beh (Mx.beh (0, 0) ((tl x).take i)) (tl y)) (mk (((tl x).drop i).take (j - i))) (Mx.beh (0, 0) ((tl x).take j)))
/-! the law's own defs -/
abbrev R__law_mixed (A : Ad) : Rl := pr fun ds P => ∃ i k : Int, ds = [.int i, .int k] ∧ 0 ≤ k ∧ k ≤ 1000000000000 ∧ ∀ r, 0 ≤ r → r < 2147483629 → P (.int r)
abbrev R__law_stream (A : Ad) : Rl := fun ds n P => ∃ i k : Int, ds = [.int i, .int k] ∧ 0 ≤ k ∧ k ≤ 1000000000000 ∧ ∀ a, P (.strm a) n
abbrev R__law_draw (A : Ad) : Rl := fun ds n P => ∃ (a : Addr) (t : Int), ds = [.strm a, .int t] ∧ 0 < t ∧ t < 1000000000 ∧ n ≤ 1000000 ∧ ∀ r, 0 ≤ r → r < t → P (.int r) (n + 1)
abbrev R__law_pick (A : Ad) : Rl := fun ds n P => ∃ (a : Addr) (xs : List D), ds = [.strm a, .lst xs] ∧ xs ≠ [] ∧ xs.length < 1000000 ∧ n ≤ 1000000 ∧ ∀ x, x ∈ xs → P x (n + 1)
abbrev R__law_signs (A : Ad) : Rl := fun ds n P => ∃ (a : Addr) (t : Int), ds = [.strm a, .int t] ∧ 0 ≤ t ∧ t ≤ 1000 ∧ n ≤ 900000 ∧ ∀ (x : Str) m, x.length ≤ t.toNat → m ≤ n + 1 + t.toNat → P (.str x) m
abbrev R__law_place (A : Ad) : Rl := pr fun ds P => ∃ (x : Str) (k : Nat), ds = [.str x, .int k] ∧ k ≤ x.length ∧ x.length ≤ 100000 ∧ P (P2 (Mx.beh (0, 0) ((tl x).take k)))
abbrev R__law_grid (A : Ad) : Rl := pr fun ds P => ∃ r s : Nat, ds = [.int r, .int s] ∧ r ≤ 100 ∧ s ≤ 100 ∧ P (.lst ((grid (upto r ++ [1000000]) (upto s ++ [1000, 1000000000])).map P2))
abbrev R__law_cut (A : Ad) : Rl := fun ds n P => ∃ (a : Addr) (x : Str), ds = [.strm a, .str x] ∧ x.length ≤ 1000 ∧ n ≤ 800000 ∧ ∀ (i j : Nat) (y : Str) m, i ≤ j → j ≤ x.length → y.length ≤ 4 → m ≤ n + 10 → P (.tup [.int i, .int j, .str y]) m
abbrev R__law_moves_right (A : Ad) : Rl := pr fun ds P => ∃ low high x nh, ds = [edD A low high x nh] ∧ okE low high nh ∧ P (.bl true)
abbrev R__law_signs_right (A : Ad) : Rl := pr fun ds P => ∃ (x y : Str) (i j : Nat), ds = [.str x, edD A (Mx.beh (0, 0) ((tl x).take i)) (Mx.beh (0, 0) ((tl x).take j)) y (Mx.beh (Mx.beh (0, 0) ((tl x).take i)) (tl y))] ∧ i ≤ j ∧ j ≤ x.length ∧ x.length ≤ 1000 ∧ y.length ≤ 1000 ∧
  P (.str (mk ((tl x).take i ++ (tl y) ++ (tl x).drop j)))
abbrev R__law_opposite_right (A : Ad) : Rl := pr fun ds P => ∃ (x y : Str) (i j : Nat), ds = [.str x, edD A (Mx.beh (0, 0) ((tl x).take i)) (Mx.beh (0, 0) ((tl x).take j)) y (Mx.beh (Mx.beh (0, 0) ((tl x).take i)) (tl y))] ∧ i ≤ j ∧ j ≤ x.length ∧ x.length ≤ 1000 ∧ y.length ≤ 1000 ∧ P (.bl true)
abbrev R_law (A : Ad) : Rl := RL
structure TxtC (K : PySem.W.Frag) (A : Ad) : Prop where
  cl_Edit : Cls K A.c_Edit
  na_Edit__low : NoAttr K A.c_Edit "_low"
  na_Edit__high : NoAttr K A.c_Edit "_high"
  na_Edit__fresh : NoAttr K A.c_Edit "_fresh"
  na_Edit__new_high : NoAttr K A.c_Edit "_new_high"
def t_is_integer (K : PySem.W.Frag) (A : Ad) : TS := (tRet (tAndV (tCB (rIsi K) (tCons (tVar 0) (tCons (tC (.ty "int")) tNil))) (tNotV (tCB (rIsi K) (tCons (tVar 0) (tCons (tC (.ty "bool")) tNil))))))
def t_check_text (K : PySem.W.Frag) (A : Ad) : TS := (tIfS (tNot (tB (tCB (rIsi K) (tCons (tVar 0) (tCons (tC (.ty "str")) tNil))))) tNever tNext)
def t_added (K : PySem.W.Frag) (A : Ad) : TS := (tSeq (tIfS (tTest (tOp (rEqP K) (tOp (rIx K) (tVar 1) (tC (.int 0))) (tC (.int 0)))) (tRet (tTup (tCons (tOp (rIx K) (tVar 0) (tC (.int 0))) (tCons (tOp (rAddU K) (tOp (rIx K) (tVar 0) (tC (.int 1))) (tOp (rIx K) (tVar 1) (tC (.int 1)))) tNil)))) tNext)
    (tRet (tTup (tCons (tOp (rAddU K) (tOp (rIx K) (tVar 0) (tC (.int 0))) (tOp (rIx K) (tVar 1) (tC (.int 0)))) (tCons (tOp (rIx K) (tVar 1) (tC (.int 1))) tNil)))))
def t_moved (K : PySem.W.Frag) (A : Ad) : TS := (tSeq (tAsg (tVar 0) (gTup K 2 (gCons (gName 3) (gCons (gName 4) gNil))))
    (tSeq (tIfS (tTest (tOp (rEqP K) (tVar 3) (tOp (rIx K) (tVar 1) (tC (.int 0))))) (tRet (tTup (tCons (tOp (rIx K) (tVar 2) (tC (.int 0))) (tCons (tOp (rAddU K) (tOp (rI0 fun i j => .int (i - j)) (tVar 4) (tOp (rIx K) (tVar 1) (tC (.int 1)))) (tOp (rIx K) (tVar 2) (tC (.int 1)))) tNil)))) tNext)
    (tRet (tTup (tCons (tOp (rAddU K) (tOp (rI0 fun i j => .int (i - j)) (tVar 3) (tOp (rIx K) (tVar 1) (tC (.int 0)))) (tOp (rIx K) (tVar 2) (tC (.int 0)))) (tCons (tVar 4) tNil))))))
def t_Edit_low (K : PySem.W.Frag) (A : Ad) : TS := (tRet (tFld K (tVar 0) "_low"))
def t_Edit_high (K : PySem.W.Frag) (A : Ad) : TS := (tRet (tFld K (tVar 0) "_high"))
def t_Edit_fresh (K : PySem.W.Frag) (A : Ad) : TS := (tRet (tFld K (tVar 0) "_fresh"))
def t_Edit_new_high (K : PySem.W.Frag) (A : Ad) : TS := (tRet (tFld K (tVar 0) "_new_high"))
def t__law_mixed (K : PySem.W.Frag) (A : Ad) : TS := (tSeq (tAsg (tOp (rI (fun _ j => 0 < j) fun i j => .int (i % j)) (tCB (rInt1) (tCons (tOp (rI CMul fun i j => .int (i * j)) (tOp (rAddU K) (tOp (rAddU K) (tOp (rI (fun _ j => 0 < j) fun i j => .int (i % j)) (tCB (rInt1) (tCons (tVar 0) tNil)) (tC (.int 2147483647))) (tOp (rI CMul fun i j => .int (i * j)) (tOp (rI CMul fun i j => .int (i * j)) (tC (.int 7919)) (tVar 1)) (tVar 1))) (tOp (rI CMul fun i j => .int (i * j)) (tC (.int 31)) (tVar 1))) (tC (.int 48271))) tNil)) (tC (.int 2147483647))) (gName 0))
    (tRet (tOp (rI (fun _ j => 0 < j) fun i j => .int (i % j)) (tCB (rInt1) (tCons (tOp (rI CMul fun i j => .int (i * j)) (tVar 0) (tOp (rAddU K) (tC (.int 69621)) (tOp (rI CMul fun i j => .int (i * j)) (tC (.int 2)) (tVar 1)))) tNil)) (tC (.int 2147483629)))))
def t__law_place (K : PySem.W.Frag) (A : Ad) : TS := (tSeq (tAsg (tSl (rSlU K) (tVar 0) tNoPart (tPart (tVar 1))) (gName 2))
    (tRet (tTup (tCons (tM1 (rCount) (tVar 2) (tC (.str (PySem.Str.ofString "\n")))) (tCons (tOp (rI0 fun i j => .int (i - j)) (tOp (rI0 fun i j => .int (i - j)) (tCB (rLen' K) (tCons (tVar 2) tNil)) (tC (.int 1))) (tM1 (rRfind) (tVar 2) (tC (.str (PySem.Str.ofString "\n"))))) tNil)))))
def t__law_grid (K : PySem.W.Frag) (A : Ad) : TS := (tSeq (tAsg (tLst tNil) (gName 2))
    (tSeq (tFor (iList K (tOp (rAddU K) (tLstRg (tRg1 (tVar 0))) (tLst (tCons (tOp (rI CPow fun i j => .int (i ^ j.toNat)) (tC (.int 10)) (tC (.int 6))) tNil)))) (gName 3) (tAsg (tOp (rAddU K) (tVar 2) (tLc (iList K (tOp (rAddU K) (tLstRg (tRg1 (tVar 1))) (tLst (tCons (tC (.int 1000)) (tCons (tOp (rI CPow fun i j => .int (i ^ j.toNat)) (tC (.int 10)) (tC (.int 9))) tNil))))) (gName 4) tYes (tTup (tCons (tVar 3) (tCons (tVar 4) tNil))) [4])) (gName 2)))
    (tRet (tVar 2))))
def t_is_count (K : PySem.W.Frag) (A : Ad) : TS := (tRet (tAndV (tCall (spD K (R_is_integer A)) [] E0 (tCons (tVar 0) tNil)) (tOp (rGeP K) (tVar 0) (tC (.int 0)))))
def t_lines_of (K : PySem.W.Frag) (A : Ad) : TS := (tSeq (tDrop (tCall (spD K (R_check_text A)) [] E0 (tCons (tVar 0) tNil)))
    (tRet (tCB (rTupOf K) (tCons (tM1 (rSplit) (tVar 0) (tC (.str (PySem.Str.ofString "\n")))) tNil))))
def t_extent_of (K : PySem.W.Frag) (A : Ad) : TS := (tSeq (tDrop (tCall (spD K (R_check_text A)) [] E0 (tCons (tVar 0) tNil)))
    (tRet (tTup (tCons (tM1 (rCount) (tVar 0) (tC (.str (PySem.Str.ofString "\n")))) (tCons (tOp (rI0 fun i j => .int (i - j)) (tOp (rI0 fun i j => .int (i - j)) (tCB (rLen' K) (tCons (tVar 0) tNil)) (tM1 (rRfind) (tVar 0) (tC (.str (PySem.Str.ofString "\n"))))) (tC (.int 1))) tNil)))))
def t__led (K : PySem.W.Frag) (A : Ad) : TS := (tSeq (tIfS (tTest (tOp (rLtP K) (tVar 0) (tVar 1))) (tRet (tVar 0)) tNext)
    (tSeq (tIfS (tTest (tOp (rLtP K) (tVar 0) (tVar 2))) (tRet (tC .non)) tNext)
    (tRet (tCall (spD K (R_moved A)) [] E0 (tCons (tVar 0) (tCons (tVar 2) (tCons (tVar 3) tNil)))))))
def t__law_stream (K : PySem.W.Frag) (A : Ad) : TS := (tRet (tLst (tCons (tIf (tTest (tOp (rGeP K) (tVar 0) (tOp (rI CPow fun i j => .int (i ^ j.toNat)) (tC (.int 10)) (tC (.int 18))))) (tVar 0) (tC (.int 0))) (tCons (tC (.int 0)) (tCons (tCall (spD K (R__law_mixed A)) [] E0 (tCons (tVar 0) (tCons (tVar 1) tNil))) tNil)))))
def t__law_draw (K : PySem.W.Frag) (A : Ad) : TS := (tSeq (tAsg (tOp (rAddU K) (tOp (rIx K) (tVar 0) (tC (.int 1))) (tC (.int 1))) (gSub (tVar 0) (tC (.int 1)) rSetL))
    (tSeq (tIfS (tTest (tOp (rEqP K) (tOp (rIx K) (tVar 0) (tC (.int 0))) (tC (.int 0)))) (tRet (tOp (rI (fun _ j => 0 < j) fun i j => .int (i % j)) (tCB (rInt1) (tCons (tCall (spD K (R__law_mixed A)) [] E0 (tCons (tCall (spD K (R__law_mixed A)) [] E0 (tCons (tOp (rIx K) (tVar 0) (tC (.int 2))) (tCons (tOp (rIx K) (tVar 0) (tC (.int 1))) tNil))) (tCons (tC (.int 7)) tNil))) tNil)) (tVar 1))) tNext)
    (tSeq (tAsg (tOp (rI (fun _ j => 0 < j) fun i j => .int (i % j)) (tCB (rInt1) (tCons (tOp (rIx K) (tVar 0) (tC (.int 0))) tNil)) (tVar 1)) (gName 2))
    (tSeq (tAsg (tOp (rI CDiv fun i j => .int (i / j)) (tOp (rIx K) (tVar 0) (tC (.int 0))) (tVar 1)) (gSub (tVar 0) (tC (.int 0)) rSetL))
    (tRet (tVar 2))))))
def t_is_up_to (K : PySem.W.Frag) (A : Ad) : TS := (tRet (tAndV (tCall (spD K (R_is_count A)) [] E0 (tCons (tVar 0) tNil)) (tOrV (tOp (rIsN') (tVar 1) (tC .non)) (tOp (rLeP K) (tVar 0) (tVar 1)))))
def t_is_place (K : PySem.W.Frag) (A : Ad) : TS := (tRet (tAndV (tCB (rIsi K) (tCons (tVar 0) (tCons (tC (.ty "tuple")) tNil))) (tAndV (tOp (rEqP K) (tCB (rLen' K) (tCons (tVar 0) tNil)) (tC (.int 2))) (tAndV (tCall (spD K (R_is_count A)) [] E0 (tCons (tOp (rIx K) (tVar 0) (tC (.int 0))) tNil)) (tCall (spD K (R_is_count A)) [] E0 (tCons (tOp (rIx K) (tVar 0) (tC (.int 1))) tNil))))))
def t_check_count (K : PySem.W.Frag) (A : Ad) : TS := (tIfS (tNot (tB (tCall (spD K (R_is_count A)) [] E0 (tCons (tVar 0) tNil)))) tNever tNext)
def t__law_pick (K : PySem.W.Frag) (A : Ad) : TS := (tRet (tOp (rIx K) (tVar 1) (tCall (spD K (R__law_draw A)) [] E0 (tCons (tVar 0) (tCons (tCB (rLen' K) (tCons (tVar 1) tNil)) tNil)))))
def t_check_up_to (K : PySem.W.Frag) (A : Ad) : TS := (tIfS (tNot (tB (tCall (spD K (R_is_up_to A)) [] E0 (tCons (tVar 0) (tCons (tVar 1) tNil))))) tNever tNext)
def t_check_span (K : PySem.W.Frag) (A : Ad) : TS := (tSeq (tIfS (tNot (tB (tCall (spD K (R_is_place A)) [] E0 (tCons (tVar 0) tNil)))) tNever tNext)
    (tIfS (tOr (tNot (tB (tCall (spD K (R_is_place A)) [] E0 (tCons (tVar 1) tNil)))) (tTest (tOp (rLtP K) (tVar 1) (tVar 0)))) tNever tNext))
def t_behind (K : PySem.W.Frag) (A : Ad) : TS := (tSeq (tDrop (tCall (spD K (R_check_count A)) [] E0 (tCons (tVar 0) tNil)))
    (tSeq (tDrop (tCall (spD K (R_check_count A)) [] E0 (tCons (tVar 1) tNil)))
    (tRet (tCall (spD K (R_added A)) [] E0 (tCons (tTup (tCons (tVar 0) (tCons (tVar 1) tNil))) (tCons (tCall (spD K (R_extent_of A)) [] E0 (tCons (tVar 2) tNil)) tNil))))))
def t_has_place (K : PySem.W.Frag) (A : Ad) : TS := (tSeq (tAsg (tCall (spD K (R_lines_of A)) [] E0 (tCons (tVar 0) tNil)) (gName 3))
    (tSeq (tDrop (tCall (spD K (R_check_count A)) [] E0 (tCons (tVar 1) tNil)))
    (tSeq (tDrop (tCall (spD K (R_check_count A)) [] E0 (tCons (tVar 2) tNil)))
    (tRet (tAndV (tOp (rLtP K) (tVar 1) (tCB (rLen' K) (tCons (tVar 3) tNil))) (tOp (rLeP K) (tVar 2) (tCB (rLen' K) (tCons (tOp (rIx K) (tVar 3) (tVar 1)) tNil))))))))
def t_Edit_forward (K : PySem.W.Frag) (A : Ad) : TS := (tSeq (tDrop (tCall (spD K (R_check_count A)) [] E0 (tCons (tVar 1) tNil)))
    (tSeq (tDrop (tCall (spD K (R_check_count A)) [] E0 (tCons (tVar 2) tNil)))
    (tRet (tCall (spD K (R__led A)) [] E0 (tCons (tTup (tCons (tVar 1) (tCons (tVar 2) tNil))) (tCons (tFld K (tVar 0) "_low") (tCons (tFld K (tVar 0) "_high") (tCons (tFld K (tVar 0) "_new_high") tNil))))))))
def t_Edit_back (K : PySem.W.Frag) (A : Ad) : TS := (tSeq (tDrop (tCall (spD K (R_check_count A)) [] E0 (tCons (tVar 1) tNil)))
    (tSeq (tDrop (tCall (spD K (R_check_count A)) [] E0 (tCons (tVar 2) tNil)))
    (tRet (tCall (spD K (R__led A)) [] E0 (tCons (tTup (tCons (tVar 1) (tCons (tVar 2) tNil))) (tCons (tFld K (tVar 0) "_low") (tCons (tFld K (tVar 0) "_new_high") (tCons (tFld K (tVar 0) "_high") tNil))))))))
def t__law_signs (K : PySem.W.Frag) (A : Ad) : TS := (tSeq (tAsg (tCall (spD K (R__law_draw A)) [] E0 (tCons (tVar 0) (tCons (tOp (rAddU K) (tVar 1) (tC (.int 1))) tNil))) (gName 2))
    (tRet (tM1 (rJoin K) (tC (.str (PySem.Str.ofString ""))) (tLc (iRng1 (tCons (tVar 2) tNil)) (gName 3) tYes (tCall (spD K (R__law_pick A)) [] E0 (tCons (tVar 0) (tCons (tLst (tCons (tC (.str (PySem.Str.ofString "a"))) (tCons (tC (.str (PySem.Str.ofString "b"))) (tCons (tC (.str (PySem.Str.ofString "\n"))) (tCons (tC (.str (PySem.Str.ofString " "))) (tCons (tC (.str (PySem.Str.ofString "a"))) (tCons (tC (.str (PySem.Str.ofString "c"))) tNil))))))) tNil))) [3]))))
def t_index_of (K : PySem.W.Frag) (A : Ad) : TS := (tSeq (tIfS (tNot (tB (tCall (spD K (R_has_place A)) [] E0 (tCons (tVar 0) (tCons (tVar 1) (tCons (tVar 2) tNil)))))) tNever tNext)
    (tSeq (tAsg (tCall (spD K (R_lines_of A)) [] E0 (tCons (tVar 0) tNil)) (gName 3))
    (tRet (tOp (rAddU K) (tCB (rSum K) (tCons (tLc (iTup K (tSl (rSlU K) (tVar 3) tNoPart (tPart (tVar 1)))) (gName 4) tYes (tOp (rAddU K) (tCB (rLen' K) (tCons (tVar 4) tNil)) (tC (.int 1))) [4]) tNil)) (tVar 2)))))
def t_place_of (K : PySem.W.Frag) (A : Ad) : TS := (tSeq (tDrop (tCall (spD K (R_check_text A)) [] E0 (tCons (tVar 0) tNil)))
    (tSeq (tDrop (tCall (spD K (R_check_up_to A)) [] E0 (tCons (tVar 1) (tCons (tCB (rLen' K) (tCons (tVar 0) tNil)) tNil))))
    (tRet (tCall (spD K (R_extent_of A)) [] E0 (tCons (tSl (rSlU K) (tVar 0) tNoPart (tPart (tVar 1))) tNil)))))
def t_Edit_init (K : PySem.W.Frag) (A : Ad) : TS := (tSeq (tDrop (tCall (spD K (R_check_span A)) [] E0 (tCons (tVar 1) (tCons (tVar 2) tNil))))
    (tSeq (tDrop (tCall (spD K (R_check_text A)) [] E0 (tCons (tVar 3) tNil)))
    (tSeq (sFld K (tVar 0) (tVar 1) "_low")
    (tSeq (sFld K (tVar 0) (tVar 2) "_high")
    (tSeq (sFld K (tVar 0) (tVar 3) "_fresh")
    (sFld K (tVar 0) (tCall (spD K (R_behind A)) [] E0 (tCons (tOp (rIx K) (tVar 1) (tC (.int 0))) (tCons (tOp (rIx K) (tVar 1) (tC (.int 1))) (tCons (tVar 3) tNil)))) "_new_high"))))))
def t__law_cut (K : PySem.W.Frag) (A : Ad) : TS := (tSeq (tAsg (tCall (spD K (R__law_draw A)) [] E0 (tCons (tVar 0) (tCons (tOp (rAddU K) (tCB (rLen' K) (tCons (tVar 1) tNil)) (tC (.int 1))) tNil))) (gName 2))
    (tSeq (tAsg (tCB (rMin2) (tCons (tCB (rLen' K) (tCons (tVar 1) tNil)) (tCons (tOp (rAddU K) (tVar 2) (tCall (spD K (R__law_pick A)) [] E0 (tCons (tVar 0) (tCons (tLst (tCons (tC (.int 0)) (tCons (tC (.int 0)) (tCons (tC (.int 1)) (tCons (tC (.int 2)) (tCons (tC (.int 4)) (tCons (tC (.int 50)) tNil))))))) tNil)))) tNil))) (gName 3))
    (tRet (tTup (tCons (tVar 2) (tCons (tVar 3) (tCons (tCall (spD K (R__law_signs A)) [] E0 (tCons (tVar 0) (tCons (tC (.int 4)) tNil))) tNil)))))))
def t__law_moves_right (K : PySem.W.Frag) (A : Ad) : TS := (tSeq (tAsg (tTup (tCons (tTup (tCons (tUn (rU fun i => .int (-i)) (tC (.int 1))) (tCons (tC (.int 0)) tNil))) (tCons (tTup (tCons (tUn (rU fun i => .int (-i)) (tC (.int 1))) (tCons (tC (.int 0)) tNil))) tNil))) (gTup K 2 (gCons (gName 1) (gCons (gName 2) gNil))))
    (tSeq (tFor (iList K (tCall (spD K (R__law_grid A)) [] E0 (tCons (tC (.int 5)) (tCons (tC (.int 11)) tNil)))) (gName 3) (tSeq (tPar 4 5 (tCons (tMeth A.c_Edit "forward" (spD K (R_Edit_forward A)) [] E0 (tVar 0) (tCons (tOp (rIx K) (tVar 3) (tC (.int 0))) (tCons (tOp (rIx K) (tVar 3) (tC (.int 1))) tNil))) (tCons (tMeth A.c_Edit "back" (spD K (R_Edit_back A)) [] E0 (tVar 0) (tCons (tOp (rIx K) (tVar 3) (tC (.int 0))) (tCons (tOp (rIx K) (tVar 3) (tC (.int 1))) tNil))) tNil)))
    (tSeq (tIfS (tOr (tTest (tOp (rNeP K) (tOp (rIsN') (tVar 4) (tC .non)) (tChain (rLeP K) (rLtP K) (tProp A.c_Edit (spD K (R_Edit_low A)) [] E0 (tVar 0)) (tVar 3) (tProp A.c_Edit (spD K (R_Edit_high A)) [] E0 (tVar 0))))) (tTest (tOp (rNeP K) (tOp (rIsN') (tVar 5) (tC .non)) (tChain (rLeP K) (rLtP K) (tProp A.c_Edit (spD K (R_Edit_low A)) [] E0 (tVar 0)) (tVar 3) (tProp A.c_Edit (spD K (R_Edit_new_high A)) [] E0 (tVar 0)))))) (tRet (tC (.bl false))) tNext)
    (tSeq (tIfS (tAnd (tTest (tOp (rNotN') (tVar 4) (tC .non))) (tOr (tNot (tTest (tOp (rGtP K) (tVar 4) (tVar 1)))) (tTest (tOp (rNeP K) (tMeth A.c_Edit "back" (spD K (R_Edit_back A)) [] E0 (tVar 0) (tCons (tOp (rIx K) (tVar 4) (tC (.int 0))) (tCons (tOp (rIx K) (tVar 4) (tC (.int 1))) tNil))) (tVar 3))))) (tRet (tC (.bl false))) tNext)
    (tSeq (tIfS (tAnd (tTest (tOp (rNotN') (tVar 5) (tC .non))) (tOr (tNot (tTest (tOp (rGtP K) (tVar 5) (tVar 2)))) (tTest (tOp (rNeP K) (tMeth A.c_Edit "forward" (spD K (R_Edit_forward A)) [] E0 (tVar 0) (tCons (tOp (rIx K) (tVar 5) (tC (.int 0))) (tCons (tOp (rIx K) (tVar 5) (tC (.int 1))) tNil))) (tVar 3))))) (tRet (tC (.bl false))) tNext)
    (tPar 1 2 (tCons (tOrT K (tVar 4) (tVar 1)) (tCons (tOrT K (tVar 5) (tVar 2)) tNil))))))))
    (tRet (tC (.bl true)))))
def t_part_of (K : PySem.W.Frag) (A : Ad) : TS := (tSeq (tDrop (tCall (spD K (R_check_text A)) [] E0 (tCons (tVar 0) tNil)))
    (tSeq (tDrop (tCall (spD K (R_check_span A)) [] E0 (tCons (tVar 1) (tCons (tVar 2) tNil))))
    (tSeq (tAsg (tCall (spD K (R_index_of A)) [] E0 (tCons (tVar 0) (tCons (tOp (rIx K) (tVar 1) (tC (.int 0))) (tCons (tOp (rIx K) (tVar 1) (tC (.int 1))) tNil)))) (gName 3))
    (tRet (tSl (rSlU K) (tVar 0) (tPart (tVar 3)) (tPart (tCall (spD K (R_index_of A)) [] E0 (tCons (tVar 0) (tCons (tOp (rIx K) (tVar 2) (tC (.int 0))) (tCons (tOp (rIx K) (tVar 2) (tC (.int 1))) tNil))))))))))
def t_Edit_call (K : PySem.W.Frag) (A : Ad) : TS := (tSeq (tAsg (tCall (spD K (R_index_of A)) [] E0 (tCons (tVar 1) (tCons (tOp (rIx K) (tFld K (tVar 0) "_low") (tC (.int 0))) (tCons (tOp (rIx K) (tFld K (tVar 0) "_low") (tC (.int 1))) tNil)))) (gName 2))
    (tSeq (tAsg (tCall (spD K (R_index_of A)) [] E0 (tCons (tVar 1) (tCons (tOp (rIx K) (tFld K (tVar 0) "_high") (tC (.int 0))) (tCons (tOp (rIx K) (tFld K (tVar 0) "_high") (tC (.int 1))) tNil)))) (gName 3))
    (tRet (tOp (rAddU K) (tOp (rAddU K) (tSl (rSlU K) (tVar 1) tNoPart (tPart (tVar 2))) (tFld K (tVar 0) "_fresh")) (tSl (rSlU K) (tVar 1) (tPart (tVar 3)) tNoPart)))))
def t_Edit_opposite (K : PySem.W.Frag) (A : Ad) : TS := (tRet (tMake A.c_Edit (spI K A.c_Edit (R_Edit_init A)) [] E0 (tCons (tFld K (tVar 0) "_low") (tCons (tFld K (tVar 0) "_new_high") (tCons (tCall (spD K (R_part_of A)) [] E0 (tCons (tVar 1) (tCons (tFld K (tVar 0) "_low") (tCons (tFld K (tVar 0) "_high") tNil)))) tNil)))))
def t__law_signs_right (K : PySem.W.Frag) (A : Ad) : TS := (tSeq (tAsg (tTup (tCons (tCallO' A.c_Edit (spD K (R_Edit_call A)) E0 (tVar 1) (tCons (tVar 0) tNil)) (tCons (tLst tNil) tNil))) (gTup K 2 (gCons (gName 2) (gCons (gName 3) gNil))))
    (tSeq (tFor (iRng1 (tCons (tOp (rAddU K) (tCB (rLen' K) (tCons (tVar 0) tNil)) (tC (.int 1))) tNil)) (gName 4) (tSeq (tAsg (tCall (spD K (R_place_of A)) [] E0 (tCons (tVar 0) (tCons (tVar 4) tNil))) (gName 5))
    (tSeq (tAsg (tMeth A.c_Edit "forward" (spD K (R_Edit_forward A)) [] E0 (tVar 1) (tCons (tOp (rIx K) (tVar 5) (tC (.int 0))) (tCons (tOp (rIx K) (tVar 5) (tC (.int 1))) tNil))) (gName 6))
    (tIfS (tTest (tOp (rNotN') (tVar 6) (tC .non))) (tSeq (tAsg (tCall (spD K (R_index_of A)) [] E0 (tCons (tVar 2) (tCons (tOp (rIx K) (tVar 6) (tC (.int 0))) (tCons (tOp (rIx K) (tVar 6) (tC (.int 1))) tNil)))) (gName 7))
    (tSeq (tDrop (tBM K "list" rAppend (tVar 3) (tCons (tVar 7) tNil)))
    (tIfS (tTest (tOp (rNeP K) (tSl (rSlU K) (tVar 2) (tPart (tVar 7)) (tPart (tOp (rAddU K) (tVar 7) (tC (.int 1))))) (tSl (rSlU K) (tVar 0) (tPart (tVar 4)) (tPart (tOp (rAddU K) (tVar 4) (tC (.int 1))))))) (tRet (tC .non)) tNext))) tNext))))
    (tSeq (tAsg (tLc (iRng1 (tCons (tCB (rLen' K) (tCons (tVar 2) tNil)) tNil)) (gName 4) (tTest (tOp (rNiP K) (tVar 4) (tVar 3))) (tVar 4) [4]) (gName 8))
    (tRet (tIf (tTest (tOp (rEqP K) (tM1 (rJoin K) (tC (.str (PySem.Str.ofString ""))) (tLc (iList K (tVar 8)) (gName 4) tYes (tOp (rIx K) (tVar 2) (tVar 4)) [4])) (tProp A.c_Edit (spD K (R_Edit_fresh A)) [] E0 (tVar 1)))) (tVar 2) (tC .non))))))
def t__law_opposite_right (K : PySem.W.Frag) (A : Ad) : TS := (tSeq (tAsg (tMeth A.c_Edit "opposite" (spD K (R_Edit_opposite A)) [] E0 (tVar 1) (tCons (tVar 0) tNil)) (gName 2))
    (tSeq (tFor (iList K (tCall (spD K (R__law_grid A)) [] E0 (tCons (tC (.int 4)) (tCons (tC (.int 8)) tNil)))) (gName 3) (tSeq (tIfS (tTest (tOp (rNeP K) (tMeth A.c_Edit "forward" (spD K (R_Edit_forward A)) [] E0 (tVar 2) (tCons (tOp (rIx K) (tVar 3) (tC (.int 0))) (tCons (tOp (rIx K) (tVar 3) (tC (.int 1))) tNil))) (tMeth A.c_Edit "back" (spD K (R_Edit_back A)) [] E0 (tVar 1) (tCons (tOp (rIx K) (tVar 3) (tC (.int 0))) (tCons (tOp (rIx K) (tVar 3) (tC (.int 1))) tNil))))) (tRet (tC (.bl false))) tNext)
    (tIfS (tTest (tOp (rNeP K) (tMeth A.c_Edit "back" (spD K (R_Edit_back A)) [] E0 (tVar 2) (tCons (tOp (rIx K) (tVar 3) (tC (.int 0))) (tCons (tOp (rIx K) (tVar 3) (tC (.int 1))) tNil))) (tMeth A.c_Edit "forward" (spD K (R_Edit_forward A)) [] E0 (tVar 1) (tCons (tOp (rIx K) (tVar 3) (tC (.int 0))) (tCons (tOp (rIx K) (tVar 3) (tC (.int 1))) tNil))))) (tRet (tC (.bl false))) tNext)))
    (tRet (tC (.bl true)))))
def t_law (K : PySem.W.Frag) (A : Ad) : TS := (tSeq (tFor (iEnum K (tCons (tSl (rSlU K) (tOp (rAddU K) (tVar 0) (tLst (tCons (tC (.int 0)) tNil))) tNoPart (tPart (tC (.int 8)))) tNil)) (gTup K 2 (gCons (gName 1) (gCons (gName 2) gNil))) (tSeq (tAsg (tCall (spD K (R__law_stream A)) [] E0 (tCons (tVar 2) (tCons (tVar 1) tNil))) (gName 3))
    (tSeq (tFor (iRng1 (tCons (tC (.int 2)) tNil)) (gName 4) (tSeq (tAsg (tCall (spD K (R__law_signs A)) [] E0 (tCons (tVar 3) (tCons (tC (.int 12)) tNil))) (gName 5))
    (tFor (iRng1 (tCons (tC (.int 2)) tNil)) (gName 6) (tSeq (tAsg (tCall (spD K (R__law_cut A)) [] E0 (tCons (tVar 3) (tCons (tVar 5) tNil))) (gTup K 3 (gCons (gName 7) (gCons (gName 8) (gCons (gName 9) gNil)))))
    (tSeq (tAsg (tMake A.c_Edit (spI K A.c_Edit (R_Edit_init A)) [] E0 (tCons (tCall (spD K (R__law_place A)) [] E0 (tCons (tVar 5) (tCons (tVar 7) tNil))) (tCons (tCall (spD K (R__law_place A)) [] E0 (tCons (tVar 5) (tCons (tVar 8) tNil))) (tCons (tVar 9) tNil)))) (gName 10))
    (tSeq (tIfS (tOr (tNot (tB (tCall (spD K (R__law_moves_right A)) [] E0 (tCons (tVar 10) tNil)))) (tNot (tB (tCall (spD K (R__law_opposite_right A)) [] E0 (tCons (tVar 5) (tCons (tVar 10) tNil)))))) (tRet (tC (.bl false))) tNext)
    (tSeq (tAsg (tCall (spD K (R__law_signs_right A)) [] E0 (tCons (tVar 5) (tCons (tVar 10) tNil))) (gName 5))
    (tIfS (tTest (tOp (rIsN') (tVar 5) (tC .non))) (tRet (tC (.bl false))) tNext))))))))
    (tSeq (tAsg (tLc (iRng1 (tCons (tC (.int 2)) tNil)) (gName 6) tYes (tTup (tCons (tCall (spD K (R__law_draw A)) [] E0 (tCons (tVar 3) (tCons (tC (.int 3)) tNil))) (tCons (tCall (spD K (R__law_draw A)) [] E0 (tCons (tVar 3) (tCons (tC (.int 12)) tNil))) tNil))) [6]) (gName 11))
    (tIfS (tNot (tB (tCall (spD K (R__law_moves_right A)) [] E0 (tCons (tMake A.c_Edit (spI K A.c_Edit (R_Edit_init A)) [] E0 (tCons (tCB (rMinQ K) (tCons (tVar 11) tNil)) (tCons (tCB (rMaxQ K) (tCons (tVar 11) tNil)) (tCons (tCall (spD K (R__law_signs A)) [] E0 (tCons (tVar 3) (tCons (tC (.int 4)) tNil))) tNil)))) tNil)))) (tRet (tC (.bl false))) tNext)))))
    (tRet (tC (.bl true))))
end Lw

namespace Lw
open PySem L2 StX DL
theorem len_tl (x : Str) : x.length = (tl x).length := TL.len_tl x
theorem nl_is : Str.ofString "\n" = ⟨#[10]⟩ := TL.ext_tl ((TL.tl_ofString "\n").trans (by rfl))
theorem tl_nl : tl (Str.ofString "\n") = [10] := by rw [nl_is]
theorem em_is : Str.ofString "" = ⟨#[]⟩ := TL.ext_tl ((TL.tl_ofString "").trans (by rfl))
theorem tl_mk (l : List Nat) : tl (mk l) = l := rfl
theorem mk_tl (x : Str) : mk (tl x) = x := TL.mk_tl x
theorem mk_len (l : List Nat) : (mk l).length = l.length := by rw [len_tl, tl_mk]
theorem cut_to (x : Str) (k : Nat) (h : k ≤ x.length) : cutS x none (some (k : Int)) = mk ((tl x).take k) := by
  apply TL.ext_tl
  show (((tl x).drop (HT.sIx x.length 0 none)).take (HT.sIx x.length x.length (some (k : Int)) - HT.sIx x.length 0 none)) = _
  rw [HT.sIx_nat, HT.sIx_none, Nat.min_eq_left h]; rfl
theorem cut_from (x : Str) (k : Nat) (h : k ≤ x.length) : cutS x (some (k : Int)) none = mk ((tl x).drop k) := by
  apply TL.ext_tl
  show (((tl x).drop (HT.sIx x.length 0 (some (k : Int)))).take (HT.sIx x.length x.length none - HT.sIx x.length 0 (some (k : Int)))) = _
  rw [HT.sIx_nat, HT.sIx_none, Nat.min_eq_left h]
  exact List.take_of_length_le (by rw [List.length_drop, len_tl]; omega)
theorem cut_mid (x : Str) (i j : Nat) (h : i ≤ x.length) (h' : j ≤ x.length) : cutS x (some (i : Int)) (some (j : Int)) = mk (((tl x).drop i).take (j - i)) := by
  apply TL.ext_tl
  show (((tl x).drop (HT.sIx x.length 0 (some (i : Int)))).take (HT.sIx x.length x.length (some (j : Int)) - HT.sIx x.length 0 (some (i : Int)))) = _
  rw [HT.sIx_nat, HT.sIx_nat, Nat.min_eq_left h, Nat.min_eq_left h']
theorem cnt_count (c : Nat) (l : List Nat) : PyProof.Rows.cnt c l = (l.count c : Nat) := by
  induction l with
  | nil => rfl
  | cons a l ih =>
    rw [PyProof.Rows.cnt_cons, ih, List.count_cons]
    by_cases h : a = c <;> simp [h] <;> omega
theorem count_nl (x : Str) : Txt.count x (Str.ofString "\n") = (Mx.beh (0, 0) (tl x)).1 := by
  rw [nl_is, PyProof.Rows.count_cnt, cnt_count, Mx.beh_cnt]; simp
theorem pre_one (c : Nat) (l : List Nat) : TL.pre [c] l = true ↔ ∃ r, l = c :: r := by
  cases l with
  | nil => simp [TL.pre]
  | cons a l => simp [TL.pre]
theorem nlx : tl (⟨#[10]⟩ : Str) ≠ [] := by decide
theorem rfind_nl (x : Str) : (x.length : Int) - Txt.rfind x (Str.ofString "\n") - 1 = (Mx.beh (0, 0) (tl x)).2 := by
  rw [nl_is, len_tl]
  rcases PyProof.Rows.rfind_whole x ⟨#[10]⟩ with ⟨e, h⟩ | ⟨i, e, h1, h2⟩
  · rw [e, Mx.beh_none]
    · simp
    · intro hm
      obtain ⟨a, b, hab⟩ := List.append_of_mem hm
      refine h a.length ((TL.at_iff nlx _).mpr ((pre_one 10 _).mpr ⟨b, ?_⟩))
      show (tl x).drop a.length = _
      rw [show tl x = a ++ 10 :: b from hab]; simp
  · rw [e]
    obtain ⟨r, hr⟩ := (pre_one 10 _).mp ((TL.at_iff nlx i).mp h1)
    have hx : tl x = (tl x).take i ++ 10 :: r := by
      rw [← hr]; exact (List.take_append_drop i _).symm
    have hi : i < (tl x).length := by
      rcases Nat.lt_or_ge i (tl x).length with q | q
      · exact q
      · rw [show (TL.tl x).drop i = [] from List.drop_of_length_le q] at hr; cases hr
    have hn : 10 ∉ r := by
      intro hm
      obtain ⟨a, b, hab⟩ := List.append_of_mem hm
      refine h2 (i + 1 + a.length) (by omega) ((TL.at_iff nlx _).mpr ((pre_one 10 _).mpr ⟨b, ?_⟩))
      have e1 : (TL.tl x).drop (i + 1 + a.length) = (((TL.tl x).drop i).drop 1).drop a.length := by rw [List.drop_drop, List.drop_drop]; congr 1; omega
      rw [e1, hr, List.drop_succ_cons, List.drop_zero, hab]; simp
    rw [hx, Mx.beh_last _ hn, List.length_append, List.length_take, Nat.min_eq_left (Nat.le_of_lt hi), List.length_cons]
    omega
theorem spl_lns (acc l : List Nat) : TL.spl [10] 0 acc l = (acc ++ (Mx.lns l).headD []) :: (Mx.lns l).tail := by
  induction l generalizing acc with
  | nil => rw [TL.spl_nil]; simp [Mx.lns]
  | cons c l ih =>
    by_cases h : c = 10
    · subst h
      rw [TL.spl_hit ((pre_one 10 _).mpr ⟨l, rfl⟩)]
      show acc :: TL.spl [10] 0 [] l = _
      rw [ih]
      have := Mx.lns_ne l
      cases e : Mx.lns l with
      | nil => exact absurd e this
      | cons a b => simp [Mx.lns, e]
    · have hp : TL.pre [10] (c :: l) = false := TL.pre_of_head [] l h
      rw [TL.spl_miss hp, ih]
      simp [Mx.lns, h]
theorem split_nl (x : Str) : Txt.split x (Str.ofString "\n") = (Mx.lns (tl x)).map mk := by
  apply TL.map_tl_inj
  rw [nl_is, TL.split_spl x ⟨#[10]⟩ nlx (TL.kind_ok (by simp)), show TL.tl (⟨#[10]⟩ : Str) = [10] from rfl, spl_lns, List.map_map]
  have := Mx.lns_ne (tl x)
  cases e : Mx.lns (TL.tl x) with
  | nil => exact absurd e this
  | cons a b =>
    have z : TL.tl ∘ mk = id := rfl
    rw [z]; simp
theorem ne_oPs {K : PySem.W.Frag} {P : D → Prop} {o : Option Mx.Pt} (h : P (.bl false)) : Op K (rNeP K) (oP o) (oP o) P := by
  cases o with
  | none => exact ne_nn h
  | some p => exact ne_pos (by simpa using h)
theorem mut_oP (o : Option Mx.Pt) : isMut (oP o) = false := by cases o <;> rfl
theorem non_oP (o : Option Mx.Pt) : isNonD (oP o) = o.isNone := by cases o <;> rfl
end Lw

namespace Lw
open PySem L2 StX DL
section
variable {K : PySem.W.Frag} {A : Ad}
theorem sl_to {x : Str} {k : Nat} {P : D → Prop} (hz : x.length ≤ 1000000) (hk : k ≤ x.length) (h : P (.str (mk ((tl x).take k)))) : Sl K (rSlU K) (.str x) none (some (k : Int)) P := sl_str hz (by rw [cut_to x k hk]; exact h)
theorem sl_from {x : Str} {k : Nat} {P : D → Prop} (hz : x.length ≤ 1000000) (hk : k ≤ x.length) (h : P (.str (mk ((tl x).drop k)))) : Sl K (rSlU K) (.str x) (some (k : Int)) none P := sl_str hz (by rw [cut_from x k hk]; exact h)
theorem sl_mid {x : Str} {i j : Nat} {P : D → Prop} (hz : x.length ≤ 1000000) (hi : i ≤ x.length) (hj : j ≤ x.length) (h : P (.str (mk (((tl x).drop i).take (j - i))))) : Sl K (rSlU K) (.str x) (some (i : Int)) (some (j : Int)) P := sl_str hz (by rw [cut_mid x i j hi hj]; exact h)
theorem mt_nl {x : Str} {P : D → Prop} (h : P (.int (Mx.beh (0, 0) (tl x)).1)) : Mt K rCount x (.str (Str.ofString "\n")) P := mt_countD (by rw [count_nl]; exact h)
theorem mt_splitnl {x : Str} {P : D → Prop} (hz : x.length ≤ 1000000) (h : P (.lst ((Mx.lns (tl x)).map fun l => .str (mk l)))) : Mt K rSplit x (.str (Str.ofString "\n")) P := mt_splitD (by rw [nl_is]; rfl) hz (by rw [split_nl, List.map_map]; exact h)
theorem take_len {x : Str} {k : Nat} (h : k ≤ x.length) : (mk ((tl x).take k)).length = k := by rw [mk_len, List.length_take, ← len_tl]; omega
theorem len_take {x : Str} {k : Nat} {P : D → Prop} (hk : k ≤ x.length) (hz : x.length ≤ 1000000) (h : P (.int (k : Nat))) : Cb K (rLen' K) [.str (mk ((tl x).take k))] P := len_str (by rw [take_len hk]; omega) (by rw [take_len hk]; exact h)
/-- one step -/
local macro_rules | `(tactic| walk_at "w1") => `(tactic| first
  | with_reducible refine ws_seq ?_
  | with_reducible refine ws_if ?_
  | with_reducible refine ws_ret ?_
  | ((fail_if_success (with_reducible show Ws _ (tDrop (tBM _ _ _ _ _)) _ _ _)); (with_reducible refine ws_drop ?_))
  | with_reducible refine ws_next ?_
  | with_reducible refine ws_par ?_
  | with_reducible refine ws_asg ?_
  | with_reducible refine wg_name ?_
  | with_reducible refine we_int ?_
  | with_reducible refine we_bl ?_
  | with_reducible refine we_non ?_
  | with_reducible refine we_str ?_
  | with_reducible refine we_ty ?_
  | ((with_reducible show We _ (tVar _) _ _ _); refine we_var rfl rfl ?_)
  | ((with_reducible show We _ (tVar _) _ _ _); refine we_var rfl (mut_oP _) ?_)
  | with_reducible refine we_op ?_
  | with_reducible refine we_un ?_
  | with_reducible refine we_cb ?_
  | with_reducible refine we_call ?_
  | with_reducible refine we_tup ?_
  | with_reducible refine we_lst ?_
  | with_reducible refine we_sl ?_
  | with_reducible refine we_m1 ?_
  | with_reducible refine we_andV ?_
  | with_reducible refine we_orV ?_
  | with_reducible refine we_notV ?_
  | with_reducible refine we_if ?_
  | with_reducible refine we_chain ?_
  | with_reducible refine we_fld ?_
  | with_reducible refine we_meth ?_
  | with_reducible refine we_prop ?_
  | with_reducible refine we_callO' ?_
  | with_reducible refine we_make ?_
  | with_reducible refine wt_test ?_
  | with_reducible refine wt_B ?_
  | with_reducible refine wt_yes ?_
  | with_reducible refine wt_and ?_
  | with_reducible refine wt_or ?_
  | with_reducible refine wt_not ?_
  | with_reducible refine wa_nil ?_
  | with_reducible refine wa_cons ?_
  | with_reducible refine wo_none ?_
  | with_reducible refine wo_some ?_
  | with_reducible refine add_int ?_
  | with_reducible refine sub_int ?_
  | with_reducible refine neg_int ?_
  | ((with_reducible refine mod_int ?_ ?_); (focus (first | assumption | omega)))
  | ((with_reducible refine mul_int ?_ ?_); (focus (first | exact Or.inl ⟨by omega, by omega⟩ | exact Or.inr ⟨by omega, by omega⟩)))
  | ((with_reducible refine fdiv_int ?_ ?_); (focus (exact ⟨by omega, by omega⟩)))
  | ((with_reducible refine pow_int ?_ ?_); (focus (exact ⟨by decide, by decide, by decide⟩)))
  | with_reducible refine is_non ?_
  | with_reducible refine not_non ?_
  | with_reducible refine eq_int ?_
  | with_reducible refine ne_int ?_
  | with_reducible refine eq_pos ?_
  | with_reducible refine ne_pos ?_
  | with_reducible refine ne_oPs ?_
  | with_reducible refine ne_nn ?_
  | with_reducible refine ne_np ?_
  | with_reducible refine ne_pn ?_
  | with_reducible refine eq_str ?_
  | with_reducible refine ne_str ?_
  | with_reducible refine eq_bl ?_
  | with_reducible refine ne_bl ?_
  | with_reducible refine lt_int ?_
  | with_reducible refine gt_int ?_
  | with_reducible refine le_int ?_
  | with_reducible refine ge_int ?_
  | with_reducible refine lt_pos ?_
  | with_reducible refine gt_pos ?_
  | with_reducible refine le_pos ?_
  | with_reducible refine ge_pos ?_
  | with_reducible refine int_int ?_
  | with_reducible refine min_int ?_
  | with_reducible refine max_int ?_
  | with_reducible refine len_lst ?_
  | with_reducible refine len_tup ?_
  | ((with_reducible refine len_take ?_ ?_ ?_); (focus (first | assumption | omega)); (focus (first | assumption | omega)))
  | ((with_reducible refine len_str ?_ ?_); (focus (first | assumption | omega)))
  | with_reducible refine tuple_lst ?_
  | with_reducible refine tuple_tup ?_
  | ((with_reducible refine sl_to ?_ ?_ ?_); (focus (first | assumption | omega)); (focus (first | assumption | omega)))
  | ((with_reducible refine sl_from ?_ ?_ ?_); (focus (first | assumption | omega)); (focus (first | assumption | omega)))
  | ((with_reducible refine sl_mid ?_ ?_ ?_ ?_); (focus (first | assumption | omega)); (focus (first | assumption | omega)); (focus (first | assumption | omega)))
  | with_reducible refine sl_lst ?_
  | with_reducible refine sl_tup ?_
  | ((with_reducible refine sl_str ?_ ?_); (focus (first | assumption | omega)))
  | with_reducible refine mt_nl ?_
  | with_reducible refine mt_countD ?_
  | with_reducible refine mt_rfindD ?_
  | ((with_reducible refine mt_splitnl ?_ ?_); (focus (first | assumption | omega)))
  | ((with_reducible refine mt_splitD ?_ ?_ ?_); (focus rfl); (focus (first | assumption | omega)))
  | ((with_reducible show Op _ (rIx _) (D.tup _) (D.int _) _); refine ix_tup (by decide) rfl ?_)
  | ((with_reducible show Op _ (rIx _) (D.lst _) (D.int _) _); refine ix_lst (by decide) rfl ?_)
  | ((with_reducible show Cb _ (rIsi _) [D.int _, D.ty _] _); first | refine isiI (r := true) (by decide +kernel) ?_ | refine isiI (r := false) (by decide +kernel) ?_)
  | ((with_reducible show Cb _ (rIsi _) [D.str _, D.ty _] _); first | refine isiS (r := true) (by decide +kernel) ?_ | refine isiS (r := false) (by decide +kernel) ?_)
  | ((with_reducible show Cb _ (rIsi _) [D.tup _, D.ty _] _); first | refine isiT (r := true) (by decide +kernel) ?_ | refine isiT (r := false) (by decide +kernel) ?_)
  | ((with_reducible show Wg _ (gTup _ _ _) _ _ _); refine wg_tup rfl rfl ?_)
  | ((with_reducible show Wgs _ gNil _ _ _); refine wgs_nil rfl ?_)
  | ((with_reducible show Wgs _ (gCons _ _) _ _ _); refine wgs_cons rfl ?_)
  | ((with_reducible show ∃ _, D.bl _ = D.bl _ ∧ _); refine ⟨_, rfl, ?_⟩)
  | ((with_reducible show ∃ _, D.int _ = D.int _ ∧ _); refine ⟨_, rfl, ?_⟩)
  | ((with_reducible show ∃ _, D.str _ = D.str _ ∧ _); refine ⟨_, rfl, ?_⟩)
  | with_reducible refine iteNT ?_
  | with_reducible refine iteNF ?_
  | ((with_reducible show if true = true then _ else _); rw [if_pos rfl])
  | ((with_reducible show if false = true then _ else _); rw [if_neg Bool.false_ne_true])
  | ((with_reducible show List.length _ ≤ 1000000 ∧ _); refine ⟨?_, ?_⟩; (focus (simp; done)))
  | fail "no step")
local macro_rules | `(tactic| walk_at "w") => `(tactic| repeat (walk_at "w1"))
theorem len_is_integer : ∀ ds n P, R_is_integer A ds n P → ds.length = 1 := by rintro ds n P ⟨i, rfl, -⟩; rfl
theorem w_is_integer (T : TxtC K A) : ∀ ds n P, R_is_integer A ds n P → Ws K (t_is_integer K A) (startD 1 ds) n {nx := fun _ m => P .non m, rt := P} := by
  rintro ds n P ⟨i, rfl, h⟩
  unfold t_is_integer
  walk_at "w"
  exact h
theorem len_check_text : ∀ ds n P, R_check_text A ds n P → ds.length = 1 := by rintro ds n P ⟨i, rfl, -⟩; rfl
theorem w_check_text (T : TxtC K A) : ∀ ds n P, R_check_text A ds n P → Ws K (t_check_text K A) (startD 1 ds) n {nx := fun _ m => P .non m, rt := P} := by
  rintro ds n P ⟨i, rfl, h⟩
  unfold t_check_text
  walk_at "w"
  exact h
theorem len_added : ∀ ds n P, R_added A ds n P → ds.length = 2 := by rintro ds n P ⟨p, q, rfl, -⟩; rfl
theorem w_added (T : TxtC K A) : ∀ ds n P, R_added A ds n P → Ws K (t_added K A) (startD 2 ds) n {nx := fun _ m => P .non m, rt := P} := by
  rintro ds n P ⟨⟨a, b⟩, ⟨c, d⟩, rfl, h⟩
  unfold t_added
  walk_at "w"
  refine iteD (fun z => ?_) (fun z => ?_)
  · walk_at "w"
    have e : Mx.addP (a, b) (c, d) = (a, b + d) := by simp only [Mx.addP, if_pos z]
    rw [e] at h; exact h
  · walk_at "w"
    have e : Mx.addP (a, b) (c, d) = (a + c, d) := by simp only [Mx.addP, if_neg z]
    rw [e] at h; exact h
theorem len_moved : ∀ ds n P, R_moved A ds n P → ds.length = 3 := by rintro ds n P ⟨p, q, o, rfl, -⟩; rfl
theorem w_moved (T : TxtC K A) : ∀ ds n P, R_moved A ds n P → Ws K (t_moved K A) (startD 5 ds) n {nx := fun _ m => P .non m, rt := P} := by
  rintro ds n P ⟨⟨a, b⟩, ⟨c, d⟩, ⟨e, f⟩, rfl, h⟩
  unfold t_moved
  walk_at "w"
  refine iteD (fun z => ?_) (fun z => ?_)
  · walk_at "w"
    have e : Mx.mv (a, b) (c, d) (e, f) = (e, b - d + f) := by simp only [Mx.mv, if_pos z]
    rw [e] at h; exact h
  · walk_at "w"
    have e : Mx.mv (a, b) (c, d) (e, f) = (a - c + e, b) := by simp only [Mx.mv, if_neg z]
    rw [e] at h; exact h
theorem len_Edit_low : ∀ ds n P, R_Edit_low A ds n P → ds.length = 1 := by rintro ds n P ⟨_, _, _, _, rfl, -⟩; rfl
theorem w_Edit_low (T : TxtC K A) : ∀ ds n P, R_Edit_low A ds n P → Ws K (t_Edit_low K A) (startD 1 ds) n {nx := fun _ m => P .non m, rt := P} := by
  rintro ds n P ⟨low, high, x, nh, rfl, h⟩
  unfold t_Edit_low
  walk_at "w"
  exact ⟨_, _, _, rfl, T.cl_Edit, T.na_Edit__low, rfl, h⟩
theorem len_Edit_high : ∀ ds n P, R_Edit_high A ds n P → ds.length = 1 := by rintro ds n P ⟨_, _, _, _, rfl, -⟩; rfl
theorem w_Edit_high (T : TxtC K A) : ∀ ds n P, R_Edit_high A ds n P → Ws K (t_Edit_high K A) (startD 1 ds) n {nx := fun _ m => P .non m, rt := P} := by
  rintro ds n P ⟨low, high, x, nh, rfl, h⟩
  unfold t_Edit_high
  walk_at "w"
  exact ⟨_, _, _, rfl, T.cl_Edit, T.na_Edit__high, rfl, h⟩
theorem len_Edit_fresh : ∀ ds n P, R_Edit_fresh A ds n P → ds.length = 1 := by rintro ds n P ⟨_, _, _, _, rfl, -⟩; rfl
theorem w_Edit_fresh (T : TxtC K A) : ∀ ds n P, R_Edit_fresh A ds n P → Ws K (t_Edit_fresh K A) (startD 1 ds) n {nx := fun _ m => P .non m, rt := P} := by
  rintro ds n P ⟨low, high, x, nh, rfl, h⟩
  unfold t_Edit_fresh
  walk_at "w"
  exact ⟨_, _, _, rfl, T.cl_Edit, T.na_Edit__fresh, rfl, h⟩
theorem len_Edit_new_high : ∀ ds n P, R_Edit_new_high A ds n P → ds.length = 1 := by rintro ds n P ⟨_, _, _, _, rfl, -⟩; rfl
theorem w_Edit_new_high (T : TxtC K A) : ∀ ds n P, R_Edit_new_high A ds n P → Ws K (t_Edit_new_high K A) (startD 1 ds) n {nx := fun _ m => P .non m, rt := P} := by
  rintro ds n P ⟨low, high, x, nh, rfl, h⟩
  unfold t_Edit_new_high
  walk_at "w"
  exact ⟨_, _, _, rfl, T.cl_Edit, T.na_Edit__new_high, rfl, h⟩
theorem len__law_mixed : ∀ ds n P, R__law_mixed A ds n P → ds.length = 2 := by rintro ds n P ⟨_, _, rfl, -⟩; rfl
theorem w__law_mixed (T : TxtC K A) : ∀ ds n P, R__law_mixed A ds n P → Ws K (t__law_mixed K A) (startD 2 ds) n {nx := fun _ m => P .non m, rt := P} := by
  rintro ds n P ⟨i, k, rfl, h0, h1, h⟩
  unfold t__law_mixed
  walk_at "w"
  exact h _ (Int.emod_nonneg _ (by decide)) (Int.emod_lt_of_pos _ (by decide))
theorem len__law_place : ∀ ds n P, R__law_place A ds n P → ds.length = 2 := by rintro ds n P ⟨_, _, rfl, -⟩; rfl
theorem w__law_place (T : TxtC K A) : ∀ ds n P, R__law_place A ds n P → Ws K (t__law_place K A) (startD 3 ds) n {nx := fun _ m => P .non m, rt := P} := by
  rintro ds n P ⟨x, k, rfl, h0, h1, h⟩
  unfold t__law_place
  walk_at "w"
  have e := rfind_nl (mk ((tl x).take k))
  have e2 : ((k : Int) - 1 - Txt.rfind (mk ((tl x).take k)) (Str.ofString "\n")) = (Mx.beh (0, 0) ((tl x).take k)).2 := by
    refine Eq.trans ?_ e
    rw [take_len h0]
    omega
  rw [e2]
  exact h
theorem len_is_count : ∀ ds n P, R_is_count A ds n P → ds.length = 1 := by rintro ds n P ⟨_, rfl, -⟩; rfl
theorem w_is_count (T : TxtC K A) : ∀ ds n P, R_is_count A ds n P → Ws K (t_is_count K A) (startD 1 ds) n {nx := fun _ m => P .non m, rt := P} := by
  rintro ds n P ⟨i, rfl, h⟩
  unfold t_is_count
  walk_at "w"
  refine ⟨_, rfl, ?_⟩
  walk_at "w"
  exact h
theorem len_lines_of : ∀ ds n P, R_lines_of A ds n P → ds.length = 1 := by rintro ds n P ⟨_, rfl, -⟩; rfl
theorem w_lines_of (T : TxtC K A) : ∀ ds n P, R_lines_of A ds n P → Ws K (t_lines_of K A) (startD 1 ds) n {nx := fun _ m => P .non m, rt := P} := by
  rintro ds n P ⟨x, rfl, h0, h⟩
  unfold t_lines_of
  walk_at "w"
  refine ⟨_, rfl, ?_⟩
  walk_at "w"
  exact h
theorem len_extent_of : ∀ ds n P, R_extent_of A ds n P → ds.length = 1 := by rintro ds n P ⟨_, rfl, -⟩; rfl
theorem w_extent_of (T : TxtC K A) : ∀ ds n P, R_extent_of A ds n P → Ws K (t_extent_of K A) (startD 1 ds) n {nx := fun _ m => P .non m, rt := P} := by
  rintro ds n P ⟨x, rfl, h0, h⟩
  unfold t_extent_of
  walk_at "w"
  refine ⟨_, rfl, ?_⟩
  walk_at "w"
  rw [rfind_nl]
  exact h
theorem len__led : ∀ ds n P, R__led A ds n P → ds.length = 4 := by rintro ds n P ⟨_, _, _, _, rfl, -⟩; rfl
theorem w__led (T : TxtC K A) : ∀ ds n P, R__led A ds n P → Ws K (t__led K A) (startD 4 ds) n {nx := fun _ m => P .non m, rt := P} := by
  rintro ds n P ⟨⟨a, b⟩, ⟨c, d⟩, ⟨e, f⟩, ⟨g, k⟩, rfl, h⟩
  unfold t__led
  walk_at "w"
  refine iteD (fun z => ?_) (fun z => ?_)
  · walk_at "w"
    have z' : Mx.lt (a, b) (c, d) := z
    rw [fw, if_pos z'] at h; exact h
  have z' : ¬ Mx.lt (a, b) (c, d) := z
  walk_at "w"
  refine iteD (fun y => ?_) (fun y => ?_)
  · walk_at "w"
    have y' : Mx.lt (a, b) (e, f) := y
    rw [fw, if_neg z', if_pos y'] at h; exact h
  have y' : ¬ Mx.lt (a, b) (e, f) := y
  walk_at "w"
  refine ⟨(a, b), (e, f), (g, k), rfl, ?_⟩
  rw [fw, if_neg z', if_neg y'] at h; exact h
theorem len__law_stream : ∀ ds n P, R__law_stream A ds n P → ds.length = 2 := by rintro ds n P ⟨_, _, rfl, -⟩; rfl
theorem w__law_stream (T : TxtC K A) : ∀ ds n P, R__law_stream A ds n P → Ws K (t__law_stream K A) (startD 2 ds) n {nx := fun _ m => P .non m, rt := P} := by
  rintro ds n P ⟨i, k, rfl, h0, h1, h⟩
  unfold t__law_stream
  refine ws_retS ?_
  walk_at "w"
  refine iteD (fun z => ?_) (fun _ => ?_)
  · walk_at "w"
    refine ⟨i, k, rfl, h0, h1, fun r r0 r1 => ?_⟩
    walk_at "w"
    have z' : (0 : Int) ≤ i := Int.le_trans (by decide) z
    exact ⟨_, _, _, rfl, z', by omega, by omega, r0, by omega, h⟩
  · walk_at "w"
    refine ⟨i, k, rfl, h0, h1, fun r r0 r1 => ?_⟩
    walk_at "w"
    exact ⟨_, _, _, rfl, by omega, by omega, by omega, r0, by omega, h⟩
theorem len__law_draw : ∀ ds n P, R__law_draw A ds n P → ds.length = 2 := by rintro ds n P ⟨_, _, rfl, -⟩; rfl
theorem w__law_draw (T : TxtC K A) : ∀ ds n P, R__law_draw A ds n P → Ws K (t__law_draw K A) (startD 3 ds) n {nx := fun _ m => P .non m, rt := P} := by
  rintro ds n P ⟨a, t, rfl, h0, h1, h2, h⟩
  unfold t__law_draw
  walk_at "w1"
  refine ws_setS1 rfl ?_
  walk_at "w1"
  refine we_strm rfl 1 1 rfl fun x c m x0 c0 cn m0 mb => ⟨c, rfl, ?_⟩
  walk_at "w"
  refine ⟨by omega, by omega, ?_⟩
  walk_at "w1"
  walk_at "w1"
  walk_at "w1"
  walk_at "w1"
  refine we_strm rfl 0 0 rfl fun x c m x0 c0 cn m0 mb => ⟨x, rfl, ?_⟩
  walk_at "w"
  refine iteD (fun z => ?_) (fun z => ?_)
  · walk_at "w1"
    walk_at "w1"
    walk_at "w1"
    walk_at "w1"
    walk_at "w1"
    walk_at "w1"
    walk_at "w1"
    walk_at "w1"
    refine we_strm rfl 2 2 rfl fun x c m x0 c0 cn m0 mb => ⟨m, rfl, ?_⟩
    walk_at "w1"
    refine we_strm rfl 1 1 rfl fun x c m' x0 c0 cn m0' mb' => ⟨c, rfl, ?_⟩
    walk_at "w"
    refine ⟨m, c, rfl, c0, by omega, fun r r0 r1 => ?_⟩
    walk_at "w"
    refine ⟨r, 7, rfl, by omega, by omega, fun r' r0' r1' => ?_⟩
    walk_at "w"
    exact h _ (Int.emod_nonneg _ (by omega)) (Int.emod_lt_of_pos _ h0)
  · walk_at "w1"
    walk_at "w1"
    walk_at "w1"
    walk_at "w1"
    walk_at "w1"
    walk_at "w1"
    refine we_strm rfl 0 0 rfl fun x c m x0 c0 cn m0 mb => ⟨x, rfl, ?_⟩
    walk_at "w1"
    walk_at "w1"
    walk_at "w1"
    walk_at "w1"
    walk_at "w1"
    walk_at "w1"
    refine ws_setS0 rfl ?_
    walk_at "w1"
    refine we_strm rfl 0 0 rfl fun x' c m x0' c0 cn m0 mb => ⟨x', rfl, ?_⟩
    walk_at "w"
    refine ⟨Int.ediv_nonneg x0' (by omega), ?_⟩
    walk_at "w"
    exact h _ (Int.emod_nonneg _ (by omega)) (Int.emod_lt_of_pos _ h0)
theorem len_is_up_to : ∀ ds n P, R_is_up_to A ds n P → ds.length = 2 := by rintro ds n P ⟨_, _, rfl, -⟩; rfl
theorem w_is_up_to (T : TxtC K A) : ∀ ds n P, R_is_up_to A ds n P → Ws K (t_is_up_to K A) (startD 2 ds) n {nx := fun _ m => P .non m, rt := P} := by
  rintro ds n P ⟨i, l, rfl, h0, h1, h⟩
  unfold t_is_up_to
  walk_at "w"
  refine ⟨_, rfl, ?_⟩
  walk_at "w"
  refine iteD (fun _ => ?_) (fun z => absurd h0 z)
  walk_at "w"
  rw [if_neg (by simp [isNonD])]
  walk_at "w"
  rw [decide_eq_true h1]
  exact h
theorem len_is_place : ∀ ds n P, R_is_place A ds n P → ds.length = 1 := by rintro ds n P ⟨_, rfl, -⟩; rfl
theorem w_is_place (T : TxtC K A) : ∀ ds n P, R_is_place A ds n P → Ws K (t_is_place K A) (startD 1 ds) n {nx := fun _ m => P .non m, rt := P} := by
  rintro ds n P ⟨⟨a, b⟩, rfl, hn, h⟩
  unfold t_is_place
  walk_at "w"
  refine iteD (fun _ => ?_) (fun z => absurd rfl z)
  walk_at "w"
  refine ⟨_, rfl, ?_⟩
  walk_at "w"
  refine iteD (fun _ => ?_) (fun z => absurd hn.1 z)
  walk_at "w"
  refine ⟨_, rfl, ?_⟩
  rw [decide_eq_true hn.2]
  exact h
theorem len_check_count : ∀ ds n P, R_check_count A ds n P → ds.length = 1 := by rintro ds n P ⟨_, rfl, -⟩; rfl
theorem w_check_count (T : TxtC K A) : ∀ ds n P, R_check_count A ds n P → Ws K (t_check_count K A) (startD 1 ds) n {nx := fun _ m => P .non m, rt := P} := by
  rintro ds n P ⟨i, rfl, h0, h⟩
  unfold t_check_count
  walk_at "w"
  refine ⟨_, rfl, ?_⟩
  walk_at "w"
  refine iteND (fun z => absurd h0 z) (fun _ => ?_)
  walk_at "w"
  exact h
theorem len__law_pick : ∀ ds n P, R__law_pick A ds n P → ds.length = 2 := by rintro ds n P ⟨_, _, rfl, -⟩; rfl
theorem w__law_pick (T : TxtC K A) : ∀ ds n P, R__law_pick A ds n P → Ws K (t__law_pick K A) (startD 2 ds) n {nx := fun _ m => P .non m, rt := P} := by
  rintro ds n P ⟨a, xs, rfl, h0, h1, h2, h⟩
  unfold t__law_pick
  walk_at "w"
  have hp : 0 < xs.length := List.length_pos_iff.mpr h0
  refine ⟨a, _, rfl, by omega, by omega, h2, fun r r0 r1 => ?_⟩
  walk_at "w"
  have hr : r.toNat < xs.length := by omega
  refine ix_lst (n := 0) r0 (List.getElem?_eq_getElem hr) ?_
  exact h _ (List.getElem_mem hr)
theorem len_check_up_to : ∀ ds n P, R_check_up_to A ds n P → ds.length = 2 := by rintro ds n P ⟨_, _, rfl, -⟩; rfl
theorem w_check_up_to (T : TxtC K A) : ∀ ds n P, R_check_up_to A ds n P → Ws K (t_check_up_to K A) (startD 2 ds) n {nx := fun _ m => P .non m, rt := P} := by
  rintro ds n P ⟨i, l, rfl, h0, h1, h⟩
  unfold t_check_up_to
  walk_at "w"
  refine ⟨i, l, rfl, h0, h1, ?_⟩
  walk_at "w"
  exact h
theorem len_check_span : ∀ ds n P, R_check_span A ds n P → ds.length = 2 := by rintro ds n P ⟨_, _, rfl, -⟩; rfl
theorem w_check_span (T : TxtC K A) : ∀ ds n P, R_check_span A ds n P → Ws K (t_check_span K A) (startD 2 ds) n {nx := fun _ m => P .non m, rt := P} := by
  rintro ds n P ⟨p, q, rfl, h0, h1, h2, h⟩
  unfold t_check_span
  walk_at "w"
  refine ⟨p, rfl, h0, ?_⟩
  walk_at "w"
  refine ⟨q, rfl, h1, ?_⟩
  walk_at "w"
  refine iteD (fun z => absurd z h2) (fun _ => ?_)
  walk_at "w"
  exact h
theorem len_behind : ∀ ds n P, R_behind A ds n P → ds.length = 3 := by rintro ds n P ⟨_, _, rfl, -⟩; rfl
theorem w_behind (T : TxtC K A) : ∀ ds n P, R_behind A ds n P → Ws K (t_behind K A) (startD 3 ds) n {nx := fun _ m => P .non m, rt := P} := by
  rintro ds n P ⟨p, x, rfl, h0, h1, h⟩
  unfold t_behind
  walk_at "w"
  refine ⟨_, rfl, h0.1, ?_⟩
  walk_at "w"
  refine ⟨_, rfl, h0.2, ?_⟩
  walk_at "w"
  refine ⟨x, rfl, h1, ?_⟩
  walk_at "w"
  refine ⟨p, _, rfl, ?_⟩
  rw [Mx.beh_ext]
  exact h
end
end Lw

namespace Lw
open PySem L2 StX DL
section
variable {K : PySem.W.Frag} {A : Ad}
theorem Wi_imp {wi : TI} {ds : DS} {n : Nat} {P P' : List D → Nat → Prop} (h : Wi K wi ds n P) (i : ∀ xs m, P xs m → P' xs m) : Wi K wi ds n P' := fun b u σ R e S k => h b u σ R e S fun J xs u' G Y g s p w a c => k J xs u' G Y g s (i _ _ p) w a c
theorem Wgc_imp {g : TG} {js : List Nat} {x : D} {ds : DS} {P P' : DS → Prop} (h : Wgc K g js x ds P) (i : ∀ d, P d → P' d) : Wgc K g js x ds P' := fun b u σ v Q S r k => h b u σ v Q S r fun ds' σ' S' l f p => k ds' σ' S' l f (i _ p)
theorem we_lcmap {wi : TI} {g : TG} {te : TE} {ds : DS} {n : Nat} {P : D → Nat → Prop} {vs : List Nat} (f : D → D) (h : Wi K wi ds n fun xs m => xs.length ≤ 1000000 ∧ (∀ x, x ∈ xs → Wgc K g vs x (wipeD ds vs) fun ds2 => We K te ds2 m (fun y l => l = m ∧ y = f x)) ∧ P (.lst (xs.map f)) m) : We K (tLc wi g tYes te vs) ds n P :=
  we_lc (Wi_imp h fun xs m ⟨hl, hs, hp⟩ => ⟨fun i ys k => k = m ∧ ys = (xs.take i).map f, ⟨rfl, by simp⟩, fun i x ys k hx ⟨ek, ey⟩ => by
    subst ek ey
    have hi : i < xs.length := (List.getElem?_eq_some_iff.mp hx).1
    refine Wgc_imp (hs x (List.mem_of_getElem? hx)) fun ds2 q => wt_yes ?_
    rw [if_pos rfl]
    refine q.imp fun y l ⟨el, ey⟩ => ?_
    subst el ey
    refine ⟨by rw [List.length_map, List.length_take]; omega, rfl, ?_⟩
    rw [List.take_add_one, hx]
    simp, fun ys k ⟨ek, ey⟩ => by
    subst ek ey
    rw [List.take_length]
    exact hp⟩)
theorem cutD_to {xs : List D} {k : Nat} (h : k ≤ xs.length) : cutD xs none (some (k : Int)) = xs.take k := by
  unfold cutD
  rw [HT.sIx_nat, HT.sIx_none, Nat.min_eq_left h]; rfl
theorem lns_cnt : ∀ {l : List Nat}, (Mx.lns l).length ≤ l.length + 1
  | [] => by simp [Mx.lns]
  | c :: l => by
    have ih := @lns_cnt l
    have := Mx.lns_ne l
    by_cases hc : c = 10
    · simp [Mx.lns, hc]; omega
    · cases e : Mx.lns l with
      | nil => exact absurd e this
      | cons a b => rw [e] at ih; simp [Mx.lns, hc, e] at *; omega
theorem bt_split {p : Mx.Pt} {l : List Nat} {i j : Nat} (h : i ≤ j) : Mx.beh p (l.take j) = Mx.beh (Mx.beh p (l.take i)) ((l.drop i).take (j - i)) := by
  rw [← Mx.beh_app]
  congr 1
  have : j = i + (j - i) := by omega
  conv => lhs; rw [this]
  rw [List.take_add]
theorem tl_app (x y : Str) : tl (x ++ y) = tl x ++ tl y := TL.tl_append x y
theorem bt_nn (l : List Nat) (i : Nat) : Mx.nn (Mx.beh (0, 0) (l.take i)) := Mx.nn_beh _ Mx.zero_nn
theorem bt_nlt {l : List Nat} {i j : Nat} (h : i ≤ j) : ¬ Mx.lt (Mx.beh (0, 0) (l.take j)) (Mx.beh (0, 0) (l.take i)) := by
  rw [bt_split h]
  exact Mx.nlt_beh (bt_nn l i) _
theorem bt_lt {l : List Nat} {i j : Nat} (h : i < j) (hj : j ≤ l.length) : Mx.lt (Mx.beh (0, 0) (l.take i)) (Mx.beh (0, 0) (l.take j)) := by
  rw [bt_split (Nat.le_of_lt h)]
  refine Mx.lt_beh (bt_nn l i) fun z => ?_
  have := congrArg List.length z
  rw [List.length_take, List.length_drop] at this
  simp at this
  omega
theorem lns_len : ∀ {l : List Nat} {r : List Nat}, r ∈ Mx.lns l → r.length ≤ l.length
  | [], r, h => by simp [Mx.lns] at h; simp [h]
  | c :: l, r, h => by
    have ih := @lns_len l
    by_cases hc : c = 10
    · simp [Mx.lns, hc] at h
      rcases h with rfl | h
      · simp
      · have := ih h; simp; omega
    · simp [Mx.lns, hc] at h
      cases e : Mx.lns l with
      | nil => exact absurd e (Mx.lns_ne l)
      | cons a b =>
        rw [e] at h ih
        simp at h
        rcases h with rfl | h
        · have := ih (List.mem_cons_self ..); simp; omega
        · have := ih (List.mem_cons_of_mem _ h); simp; omega
theorem putD_len (f : Str) (d : D) : ∀ fs : List (Str × D), (putD f d fs).length ≤ fs.length + 1
  | [] => by simp [putD]
  | (g, e) :: r => by
    have := putD_len f d r
    unfold putD
    split <;> simp <;> omega
theorem sgn_len {x : D} (h : x ∈ [D.str (Str.ofString "a"), D.str (Str.ofString "b"), D.str (Str.ofString "\n"), D.str (Str.ofString " "), D.str (Str.ofString "a"), D.str (Str.ofString "c")]) : ∃ z : Str, x = .str z ∧ z.length = 1 := by
  simp only [List.mem_cons, List.not_mem_nil, or_false] at h
  rcases h with rfl | rfl | rfl | rfl | rfl | rfl <;> exact ⟨_, rfl, by decide +kernel⟩
theorem joinL_nil : ∀ zs : List (List Nat), TL.joinL [] zs = zs.flatten
  | [] => rfl
  | [p] => by simp [TL.joinL]
  | p :: q :: r => by
    show p ++ ([] ++ TL.joinL [] (q :: r)) = _
    rw [joinL_nil (q :: r)]; simp
theorem tl_join0 (zs : List Str) : tl (Txt.join (Str.ofString "") zs) = (zs.map tl).flatten := by
  rw [TL.join_eq]
  refine (TL.tl_join _ zs).trans ?_
  rw [em_is]
  exact joinL_nil _
theorem ones_sum : ∀ {zs : List Str}, (∀ z ∈ zs, z.length = 1) → (zs.map (·.length)).sum = zs.length
  | [], _ => rfl
  | z :: zs, h => by
    have := ones_sum fun y hy => h y (List.mem_cons_of_mem _ hy)
    simp [this, h z (List.mem_cons_self ..)]; omega
theorem join0_len (zs : List Str) : (Txt.join (Str.ofString "") zs).length = (zs.map (·.length)).sum := by
  rw [len_tl, tl_join0, List.length_flatten, List.map_map]
  rfl
/-- one step -/
local macro_rules | `(tactic| walk_at "w1") => `(tactic| first
  | with_reducible refine ws_seq ?_
  | with_reducible refine ws_if ?_
  | with_reducible refine ws_ret ?_
  | ((fail_if_success (with_reducible show Ws _ (tDrop (tBM _ _ _ _ _)) _ _ _)); (with_reducible refine ws_drop ?_))
  | with_reducible refine ws_next ?_
  | with_reducible refine ws_par ?_
  | with_reducible refine ws_asg ?_
  | with_reducible refine wg_name ?_
  | with_reducible refine we_int ?_
  | with_reducible refine we_bl ?_
  | with_reducible refine we_non ?_
  | with_reducible refine we_str ?_
  | with_reducible refine we_ty ?_
  | ((with_reducible show We _ (tVar _) _ _ _); refine we_var rfl rfl ?_)
  | ((with_reducible show We _ (tVar _) _ _ _); refine we_var rfl (mut_oP _) ?_)
  | with_reducible refine we_op ?_
  | with_reducible refine we_un ?_
  | with_reducible refine we_cb ?_
  | with_reducible refine we_call ?_
  | with_reducible refine we_tup ?_
  | with_reducible refine we_lst ?_
  | with_reducible refine we_sl ?_
  | with_reducible refine we_m1 ?_
  | with_reducible refine we_andV ?_
  | with_reducible refine we_orV ?_
  | with_reducible refine we_notV ?_
  | with_reducible refine we_if ?_
  | with_reducible refine we_chain ?_
  | with_reducible refine we_fld ?_
  | with_reducible refine we_meth ?_
  | with_reducible refine we_prop ?_
  | with_reducible refine we_callO' ?_
  | with_reducible refine we_make ?_
  | with_reducible refine wt_test ?_
  | with_reducible refine wt_B ?_
  | with_reducible refine wt_yes ?_
  | with_reducible refine wt_and ?_
  | with_reducible refine wt_or ?_
  | with_reducible refine wt_not ?_
  | with_reducible refine wa_nil ?_
  | with_reducible refine wa_cons ?_
  | with_reducible refine wo_none ?_
  | with_reducible refine wo_some ?_
  | with_reducible refine add_int ?_
  | with_reducible refine sub_int ?_
  | with_reducible refine neg_int ?_
  | ((with_reducible refine mod_int ?_ ?_); (focus (first | assumption | omega)))
  | ((with_reducible refine mul_int ?_ ?_); (focus (first | exact Or.inl ⟨by omega, by omega⟩ | exact Or.inr ⟨by omega, by omega⟩)))
  | ((with_reducible refine fdiv_int ?_ ?_); (focus (exact ⟨by omega, by omega⟩)))
  | ((with_reducible refine pow_int ?_ ?_); (focus (exact ⟨by decide, by decide, by decide⟩)))
  | with_reducible refine is_non ?_
  | with_reducible refine not_non ?_
  | with_reducible refine eq_int ?_
  | with_reducible refine ne_int ?_
  | with_reducible refine eq_pos ?_
  | with_reducible refine ne_pos ?_
  | with_reducible refine ne_oPs ?_
  | with_reducible refine ne_nn ?_
  | with_reducible refine ne_np ?_
  | with_reducible refine ne_pn ?_
  | with_reducible refine eq_str ?_
  | with_reducible refine ne_str ?_
  | with_reducible refine eq_bl ?_
  | with_reducible refine ne_bl ?_
  | with_reducible refine lt_int ?_
  | with_reducible refine gt_int ?_
  | with_reducible refine le_int ?_
  | with_reducible refine ge_int ?_
  | with_reducible refine lt_pos ?_
  | with_reducible refine gt_pos ?_
  | with_reducible refine le_pos ?_
  | with_reducible refine ge_pos ?_
  | with_reducible refine int_int ?_
  | with_reducible refine min_int ?_
  | with_reducible refine max_int ?_
  | with_reducible refine len_lst ?_
  | with_reducible refine len_tup ?_
  | ((with_reducible refine len_take ?_ ?_ ?_); (focus (first | assumption | omega)); (focus (first | assumption | omega)))
  | ((with_reducible refine len_str ?_ ?_); (focus (first | assumption | omega)))
  | with_reducible refine tuple_lst ?_
  | with_reducible refine tuple_tup ?_
  | ((with_reducible refine sl_to ?_ ?_ ?_); (focus (first | assumption | omega)); (focus (first | assumption | omega)))
  | ((with_reducible refine sl_from ?_ ?_ ?_); (focus (first | assumption | omega)); (focus (first | assumption | omega)))
  | ((with_reducible refine sl_mid ?_ ?_ ?_ ?_); (focus (first | assumption | omega)); (focus (first | assumption | omega)); (focus (first | assumption | omega)))
  | with_reducible refine sl_lst ?_
  | with_reducible refine sl_tup ?_
  | ((with_reducible refine sl_str ?_ ?_); (focus (first | assumption | omega)))
  | with_reducible refine mt_nl ?_
  | with_reducible refine mt_countD ?_
  | with_reducible refine mt_rfindD ?_
  | ((with_reducible refine mt_splitnl ?_ ?_); (focus (first | assumption | omega)))
  | ((with_reducible refine mt_splitD ?_ ?_ ?_); (focus rfl); (focus (first | assumption | omega)))
  | ((with_reducible show Op _ (rIx _) (D.tup _) (D.int _) _); refine ix_tup (by decide) rfl ?_)
  | ((with_reducible show Op _ (rIx _) (D.lst _) (D.int _) _); refine ix_lst (by decide) rfl ?_)
  | ((with_reducible show Cb _ (rIsi _) [D.int _, D.ty _] _); first | refine isiI (r := true) (by decide +kernel) ?_ | refine isiI (r := false) (by decide +kernel) ?_)
  | ((with_reducible show Cb _ (rIsi _) [D.str _, D.ty _] _); first | refine isiS (r := true) (by decide +kernel) ?_ | refine isiS (r := false) (by decide +kernel) ?_)
  | ((with_reducible show Cb _ (rIsi _) [D.tup _, D.ty _] _); first | refine isiT (r := true) (by decide +kernel) ?_ | refine isiT (r := false) (by decide +kernel) ?_)
  | ((with_reducible show Wg _ (gTup _ _ _) _ _ _); refine wg_tup rfl rfl ?_)
  | ((with_reducible show Wgs _ gNil _ _ _); refine wgs_nil rfl ?_)
  | ((with_reducible show Wgs _ (gCons _ _) _ _ _); refine wgs_cons rfl ?_)
  | ((with_reducible show ∃ _, D.bl _ = D.bl _ ∧ _); refine ⟨_, rfl, ?_⟩)
  | ((with_reducible show ∃ _, D.int _ = D.int _ ∧ _); refine ⟨_, rfl, ?_⟩)
  | ((with_reducible show ∃ _, D.str _ = D.str _ ∧ _); refine ⟨_, rfl, ?_⟩)
  | ((with_reducible show ∃ _, D.tup _ = D.tup _ ∧ _); refine ⟨_, rfl, ?_⟩)
  | ((with_reducible show ∃ _, D.lst _ = D.lst _ ∧ _); refine ⟨_, rfl, ?_⟩)
  | with_reducible refine iteNT ?_
  | with_reducible refine iteNF ?_
  | ((with_reducible show if true = true then _ else _); rw [if_pos rfl])
  | ((with_reducible show if false = true then _ else _); rw [if_neg Bool.false_ne_true])
  | ((with_reducible show List.length _ ≤ 1000000 ∧ _); refine ⟨?_, ?_⟩; (focus (simp; done)))
  | fail "no step")
local macro_rules | `(tactic| walk_at "w") => `(tactic| repeat (walk_at "w1"))

theorem len_has_place : ∀ ds n P, R_has_place A ds n P → ds.length = 3 := by rintro ds n P ⟨_, _, rfl, -⟩; rfl
theorem w_has_place (T : TxtC K A) : ∀ ds n P, R_has_place A ds n P → Ws K (t_has_place K A) (startD 4 ds) n {nx := fun _ m => P .non m, rt := P} := by
  rintro ds n P ⟨x, k, rfl, h0, h1, h⟩
  unfold t_has_place
  walk_at "w"
  obtain ⟨i, row, e1, e2, e3, e4⟩ := Mx.place_ok (tl x) k (by rw [← len_tl]; exact h0)
  have hn : Mx.nn (Mx.beh (0, 0) ((tl x).take k)) := Mx.nn_beh _ Mx.zero_nn
  generalize Mx.beh (0, 0) ((tl x).take k) = q at *
  obtain ⟨a, b⟩ := q
  simp only at e1 e3 e4
  subst e1
  refine ⟨x, rfl, h1, ?_⟩
  walk_at "w"
  refine ⟨_, rfl, hn.1, ?_⟩
  walk_at "w"
  refine ⟨_, rfl, hn.2, ?_⟩
  walk_at "w"
  have hi : i < (Mx.lns (tl x)).length := (List.getElem?_eq_some_iff.mp e2).1
  refine iteD (fun _ => ?_) (fun z => absurd (by rw [List.length_map]; omega) z)
  walk_at "w"
  refine ix_tup (d := .str (mk row)) hn.1 (by simp [e2]) ?_
  walk_at "w"
  have hr : row.length ≤ x.length := by rw [len_tl]; exact lns_len (List.mem_of_getElem? e2)
  refine len_str (by rw [mk_len]; omega) ?_
  walk_at "w"
  rw [mk_len, decide_eq_true e3]
  exact h
theorem len_Edit_forward : ∀ ds n P, R_Edit_forward A ds n P → ds.length = 3 := by rintro ds n P ⟨_, _, _, _, _, rfl, -⟩; rfl
theorem w_Edit_forward (T : TxtC K A) : ∀ ds n P, R_Edit_forward A ds n P → Ws K (t_Edit_forward K A) (startD 3 ds) n {nx := fun _ m => P .non m, rt := P} := by
  rintro ds n P ⟨low, high, x, nh, ⟨a, b⟩, rfl, hn, h⟩
  unfold t_Edit_forward
  walk_at "w"
  refine ⟨_, rfl, hn.1, ?_⟩
  walk_at "w"
  refine ⟨_, rfl, hn.2, ?_⟩
  walk_at "w"
  refine ⟨_, _, _, rfl, T.cl_Edit, T.na_Edit__low, rfl, ?_⟩
  walk_at "w"
  refine ⟨_, _, _, rfl, T.cl_Edit, T.na_Edit__high, rfl, ?_⟩
  walk_at "w"
  refine ⟨_, _, _, rfl, T.cl_Edit, T.na_Edit__new_high, rfl, ?_⟩
  walk_at "w"
  exact ⟨(a, b), low, high, nh, rfl, h⟩
theorem len_Edit_back : ∀ ds n P, R_Edit_back A ds n P → ds.length = 3 := by rintro ds n P ⟨_, _, _, _, _, rfl, -⟩; rfl
theorem w_Edit_back (T : TxtC K A) : ∀ ds n P, R_Edit_back A ds n P → Ws K (t_Edit_back K A) (startD 3 ds) n {nx := fun _ m => P .non m, rt := P} := by
  rintro ds n P ⟨low, high, x, nh, ⟨a, b⟩, rfl, hn, h⟩
  unfold t_Edit_back
  walk_at "w"
  refine ⟨_, rfl, hn.1, ?_⟩
  walk_at "w"
  refine ⟨_, rfl, hn.2, ?_⟩
  walk_at "w"
  refine ⟨_, _, _, rfl, T.cl_Edit, T.na_Edit__low, rfl, ?_⟩
  walk_at "w"
  refine ⟨_, _, _, rfl, T.cl_Edit, T.na_Edit__new_high, rfl, ?_⟩
  walk_at "w"
  refine ⟨_, _, _, rfl, T.cl_Edit, T.na_Edit__high, rfl, ?_⟩
  walk_at "w"
  exact ⟨(a, b), low, nh, high, rfl, h⟩
theorem len_index_of : ∀ ds n P, R_index_of A ds n P → ds.length = 3 := by rintro ds n P ⟨_, _, rfl, -⟩; rfl
theorem w_index_of (T : TxtC K A) : ∀ ds n P, R_index_of A ds n P → Ws K (t_index_of K A) (startD 5 ds) n {nx := fun _ m => P .non m, rt := P} := by
  rintro ds n P ⟨x, k, rfl, h0, h1, h⟩
  unfold t_index_of
  walk_at "w"
  obtain ⟨i, row, e1, e2, e3, e4⟩ := Mx.place_ok (tl x) k (by rw [← len_tl]; exact h0)
  refine ⟨x, k, rfl, h0, h1, ?_⟩
  walk_at "w"
  refine ⟨x, rfl, h1, ?_⟩
  walk_at "w"
  refine we_lcmap (fun d => match d with | .str r => .int ((r.length : Nat) + 1 : Int) | _ => .non) (wi_tup ?_)
  walk_at "w"
  have hi : i < (Mx.lns (tl x)).length := (List.getElem?_eq_some_iff.mp e2).1
  have hc := @lns_cnt (tl x)
  rw [e1, cutD_to (by rw [List.length_map]; omega)]
  refine ⟨by rw [List.length_take, List.length_map, len_tl] at *; omega, fun d hd => ?_, ?_⟩
  · obtain ⟨r, hr, rfl⟩ := List.mem_map.mp (List.mem_of_mem_take hd)
    have hl := lns_len hr
    refine wgc_name (by simp) ?_
    walk_at "w"
    refine len_str (by rw [mk_len, ← len_tl] at *; omega) ?_
    walk_at "w"
    exact ⟨rfl, rfl⟩
  · walk_at "w"
    rw [show (List.map (fun d => match d with | .str r => D.int ((r.length : Nat) + 1 : Int) | _ => .non) (List.take i (List.map (fun l => D.str (mk l)) (Mx.lns (tl x))))) = (((Mx.lns (tl x)).take i).map fun r => ((r.length : Nat) : Int) + 1).map D.int by
      rw [← List.map_take, List.map_map, List.map_map]
      refine List.map_congr_left fun r _ => ?_
      simp [mk_len]]
    refine sum_ints ?_
    walk_at "w"
    rw [show (((Mx.lns (tl x)).take i).map fun r => ((r.length : Nat) : Int) + 1).sum = Mx.sm ((Mx.lns (tl x)).take i) from rfl, e4]
    exact h
theorem len_place_of : ∀ ds n P, R_place_of A ds n P → ds.length = 2 := by rintro ds n P ⟨_, _, rfl, -⟩; rfl
theorem w_place_of (T : TxtC K A) : ∀ ds n P, R_place_of A ds n P → Ws K (t_place_of K A) (startD 2 ds) n {nx := fun _ m => P .non m, rt := P} := by
  rintro ds n P ⟨x, k, rfl, h0, h1, h⟩
  unfold t_place_of
  walk_at "w"
  refine ⟨_, rfl, ?_⟩
  walk_at "w"
  refine ⟨_, _, rfl, by omega, by omega, ?_⟩
  walk_at "w"
  refine ⟨_, rfl, by rw [take_len h0]; omega, ?_⟩
  exact h
theorem len__law_signs : ∀ ds n P, R__law_signs A ds n P → ds.length = 2 := by rintro ds n P ⟨_, _, rfl, -⟩; rfl
theorem w__law_signs (T : TxtC K A) : ∀ ds n P, R__law_signs A ds n P → Ws K (t__law_signs K A) (startD 4 ds) n {nx := fun _ m => P .non m, rt := P} := by
  rintro ds n P ⟨a, t, rfl, h0, h1, h2, h⟩
  unfold t__law_signs
  walk_at "w"
  refine ⟨a, _, rfl, by omega, by omega, by omega, fun r r0 r1 => ?_⟩
  walk_at "w"
  refine we_lc (wi_range1 ?_)
  walk_at "w"
  refine ⟨r, rfl, ⟨by omega, by omega⟩, fun i ys k => k = n + 1 + i ∧ ∃ zs : List Str, ys = zs.map D.str ∧ zs.length = i ∧ ∀ z ∈ zs, z.length = 1, ⟨rfl, [], rfl, rfl, by simp⟩, ?_, ?_⟩
  · rintro i x ys k hx ⟨rfl, zs, rfl, rfl, hz⟩
    obtain ⟨hi, rfl⟩ := rng_get' hx
    refine wgc_name (by simp) ?_
    walk_at "w"
    refine ⟨a, _, rfl, by simp, by simp, by omega, fun x hx => ?_⟩
    obtain ⟨z, rfl, hz1⟩ := sgn_len hx
    refine ⟨by rw [List.length_map]; omega, by omega, zs ++ [z], by simp, by simp, fun y hy => ?_⟩
    rcases List.mem_append.mp hy with q | q
    · exact hz y q
    · rw [List.mem_singleton.mp q]; exact hz1
  · rintro ys k ⟨rfl, zs, rfl, hl, hz⟩
    rw [rng_len] at hl
    have hs := ones_sum hz
    refine mt_joinD (by rw [em_is]; show _ + zs.length * 0 ≤ _; omega) ?_
    refine h _ _ (by rw [join0_len]; omega) (by rw [rng_len]; omega)
theorem len__law_cut : ∀ ds n P, R__law_cut A ds n P → ds.length = 2 := by rintro ds n P ⟨_, _, rfl, -⟩; rfl
theorem w__law_cut (T : TxtC K A) : ∀ ds n P, R__law_cut A ds n P → Ws K (t__law_cut K A) (startD 4 ds) n {nx := fun _ m => P .non m, rt := P} := by
  rintro ds n P ⟨a, x, rfl, h0, h1, h⟩
  unfold t__law_cut
  walk_at "w"
  refine ⟨a, _, rfl, by omega, by omega, by omega, fun r r0 r1 => ?_⟩
  walk_at "w"
  refine ⟨a, _, rfl, by simp, by simp, by omega, fun y hy => ?_⟩
  obtain ⟨c, rfl, c0, c1⟩ : ∃ c : Int, y = .int c ∧ 0 ≤ c ∧ c ≤ 50 := by
    simp only [List.mem_cons, List.not_mem_nil, or_false] at hy
    rcases hy with rfl | rfl | rfl | rfl | rfl | rfl <;> exact ⟨_, rfl, by decide, by decide⟩
  obtain ⟨i, rfl⟩ := Int.eq_ofNat_of_zero_le r0
  obtain ⟨j, hj⟩ : ∃ j : Nat, (if (i : Int) + c < (x.length : Int) then (i : Int) + c else (x.length : Int)) = (j : Int) := Int.eq_ofNat_of_zero_le (by split <;> omega)
  have hj2 : i ≤ j ∧ j ≤ x.length := by split at hj <;> omega
  walk_at "w"
  refine ⟨a, 4, rfl, by omega, by omega, by omega, fun y m hy hm => ?_⟩
  walk_at "w"
  rw [hj]
  exact h i j y m hj2.1 hj2.2 hy (by simp at hm; omega)
theorem len_part_of : ∀ ds n P, R_part_of A ds n P → ds.length = 3 := by rintro ds n P ⟨_, _, _, rfl, -⟩; rfl
theorem w_part_of (T : TxtC K A) : ∀ ds n P, R_part_of A ds n P → Ws K (t_part_of K A) (startD 4 ds) n {nx := fun _ m => P .non m, rt := P} := by
  rintro ds n P ⟨x, i, j, rfl, h0, h1, h2, h⟩
  unfold t_part_of
  walk_at "w"
  refine ⟨_, rfl, ?_⟩
  walk_at "w"
  refine ⟨_, _, rfl, bt_nn _ _, bt_nn _ _, bt_nlt h0, ?_⟩
  walk_at "w"
  refine ⟨x, i, rfl, by omega, h2, ?_⟩
  walk_at "w"
  refine ⟨x, j, rfl, by omega, h2, ?_⟩
  walk_at "w"
  exact h
theorem len_Edit_call : ∀ ds n P, R_Edit_call A ds n P → ds.length = 2 := by rintro ds n P ⟨_, _, _, _, _, rfl, -⟩; rfl
theorem w_Edit_call (T : TxtC K A) : ∀ ds n P, R_Edit_call A ds n P → Ws K (t_Edit_call K A) (startD 4 ds) n {nx := fun _ m => P .non m, rt := P} := by
  rintro ds n P ⟨x, y, i, j, nh, rfl, h0, h1, h2, h3, h⟩
  unfold t_Edit_call
  walk_at "w"
  refine ⟨_, _, _, rfl, T.cl_Edit, T.na_Edit__low, rfl, ?_⟩
  walk_at "w"
  refine ⟨_, _, _, rfl, T.cl_Edit, T.na_Edit__low, rfl, ?_⟩
  walk_at "w"
  refine ⟨x, i, rfl, by omega, h2, ?_⟩
  walk_at "w"
  refine ⟨_, _, _, rfl, T.cl_Edit, T.na_Edit__high, rfl, ?_⟩
  walk_at "w"
  refine ⟨_, _, _, rfl, T.cl_Edit, T.na_Edit__high, rfl, ?_⟩
  walk_at "w"
  refine ⟨x, j, rfl, by omega, h2, ?_⟩
  walk_at "w"
  refine ⟨_, _, _, rfl, T.cl_Edit, T.na_Edit__fresh, rfl, ?_⟩
  refine add_str (by rw [take_len (by omega)]; omega) ?_
  walk_at "w"
  refine add_str ?_ ?_
  · rw [len_tl, tl_app, List.length_append, len_tl (mk _), tl_mk, tl_mk, List.length_take, List.length_drop, ← len_tl, ← len_tl]; omega
  · rw [show mk ((tl x).take i) ++ y ++ mk ((tl x).drop j) = mk ((tl x).take i ++ tl y ++ (tl x).drop j) from TL.ext_tl (by rw [TL.tl_append, TL.tl_append])]
    exact h
theorem len_Edit_opposite : ∀ ds n P, R_Edit_opposite A ds n P → ds.length = 2 := by rintro ds n P ⟨_, _, _, _, rfl, -⟩; rfl
theorem w_Edit_opposite (T : TxtC K A) : ∀ ds n P, R_Edit_opposite A ds n P → Ws K (t_Edit_opposite K A) (startD 2 ds) n {nx := fun _ m => P .non m, rt := P} := by
  rintro ds n P ⟨x, y, i, j, rfl, h0, h1, h2, h3, h⟩
  unfold t_Edit_opposite
  walk_at "w"
  refine ⟨_, _, _, rfl, T.cl_Edit, T.na_Edit__low, rfl, ?_⟩
  walk_at "w"
  refine ⟨_, _, _, rfl, T.cl_Edit, T.na_Edit__new_high, rfl, ?_⟩
  walk_at "w"
  refine ⟨_, _, _, rfl, T.cl_Edit, T.na_Edit__low, rfl, ?_⟩
  walk_at "w"
  refine ⟨_, _, _, rfl, T.cl_Edit, T.na_Edit__high, rfl, ?_⟩
  walk_at "w"
  refine ⟨x, i, j, rfl, h0, h1, h2, ?_⟩
  walk_at "w"
  refine ⟨_, _, _, rfl, bt_nn _ _, Mx.nn_beh _ (bt_nn _ _), Mx.nlt_beh (bt_nn _ _) _, by rw [mk_len, List.length_take, List.length_drop, ← len_tl]; omega, ?_⟩
  rw [show bb (Mx.beh (0, 0) ((tl x).take i)) (mk (((tl x).drop i).take (j - i))) = Mx.beh (0, 0) ((tl x).take j) from (bt_split h0).symm]
  exact h
theorem len_Edit_init : ∀ ds P, R_Edit_init A ds P → ds.length + 1 = 4 := by rintro ds P ⟨_, _, _, rfl, -⟩; rfl
theorem w_Edit_init (T : TxtC K A) : ∀ x dx ds n P, R_Edit_init A ds P → Ws K (t_Edit_init K A) (some (.mob x dx A.c_Edit []) :: startD (4 - 1) ds) n {nx := fun ds' m => m = n ∧ ∃ gs, ds'[0]? = some (some (.mob x dx A.c_Edit gs)) ∧ P gs, rt := fun _ _ => False} := by
  rintro x dx ds n P ⟨low, high, y, rfl, h0, h1, h2, h3, h⟩
  unfold t_Edit_init
  walk_at "w"
  refine ⟨_, _, rfl, h0, h1, h2, ?_⟩
  walk_at "w"
  refine ⟨_, rfl, ?_⟩
  walk_at "w"
  refine ws_fld rfl T.cl_Edit T.na_Edit__low (by decide) ?_
  walk_at "w"
  refine ws_fld rfl T.cl_Edit T.na_Edit__high (Nat.lt_of_le_of_lt (putD_len _ _ _) (by decide)) ?_
  walk_at "w"
  refine ws_fld rfl T.cl_Edit T.na_Edit__fresh (Nat.lt_of_le_of_lt (putD_len _ _ _) (Nat.lt_of_le_of_lt (Nat.succ_le_succ (putD_len _ _ _)) (by decide))) ?_
  walk_at "w"
  refine ws_fld rfl T.cl_Edit T.na_Edit__new_high (Nat.lt_of_le_of_lt (putD_len _ _ _) (Nat.lt_of_le_of_lt (Nat.succ_le_succ (Nat.le_trans (putD_len _ _ _) (Nat.succ_le_succ (putD_len _ _ _)))) (by decide))) ?_
  walk_at "w"
  refine ⟨_, _, rfl, h0, h3, ?_⟩
  exact ⟨rfl, _, rfl, h⟩
end
end Lw

namespace Lw
open PySem L2 StX DL
section
variable {K : PySem.W.Frag} {A : Ad}
theorem fw_inv {low high nh p g : Mx.Pt} (h1 : ¬ Mx.lt high low) (h2 : ¬ Mx.lt nh low) (h : fw low high nh p = some g) : fw low nh high g = some p := by
  unfold fw at *
  by_cases a : Mx.lt p low
  · rw [if_pos a] at h; cases h; rw [if_pos a]
  · rw [if_neg a] at h
    by_cases b : Mx.lt p high
    · rw [if_pos b] at h; cases h
    · rw [if_neg b] at h
      cases h
      rw [if_neg (Mx.nlt_trans (Mx.mv_ge b) h2), if_neg (Mx.mv_ge b), Mx.mv_inv b]
theorem fw_mono {low high nh p q g g' : Mx.Pt} (h1 : ¬ Mx.lt high low) (h2 : ¬ Mx.lt nh low) (hpq : Mx.lt p q) (h : fw low high nh p = some g) (h' : fw low high nh q = some g') : Mx.lt g g' := by
  unfold fw at *
  by_cases a : Mx.lt p low
  · rw [if_pos a] at h; cases h
    by_cases c : Mx.lt q low
    · rw [if_pos c] at h'; cases h'; exact hpq
    · rw [if_neg c] at h'
      by_cases d : Mx.lt q high
      · rw [if_pos d] at h'; cases h'
      · rw [if_neg d] at h'; cases h'
        exact Mx.lt_nlt a (Mx.nlt_trans (Mx.mv_ge d) h2)
  · rw [if_neg a] at h
    by_cases b : Mx.lt p high
    · rw [if_pos b] at h; cases h
    · rw [if_neg b] at h; cases h
      have c : ¬ Mx.lt q low := fun z => Mx.nlt_trans b h1 (Mx.lt_trans hpq z)
      have d : ¬ Mx.lt q high := fun z => b (Mx.lt_trans hpq z)
      rw [if_neg c, if_neg d] at h'; cases h'
      exact Mx.mv_lt b hpq
theorem fw_nn {low high nh p g : Mx.Pt} (hn : Mx.nn nh) (hp : Mx.nn p) (h : fw low high nh p = some g) : Mx.nn g := by
  unfold fw at *
  by_cases a : Mx.lt p low
  · rw [if_pos a] at h; cases h; exact hp
  · rw [if_neg a] at h
    by_cases b : Mx.lt p high
    · rw [if_pos b] at h; cases h
    · rw [if_neg b] at h; cases h; exact Mx.mv_nn b hp hn
theorem fw_none {low high nh p : Mx.Pt} (h : fw low high nh p = none) : ¬ Mx.lt p low ∧ Mx.lt p high := by
  unfold fw at *
  by_cases a : Mx.lt p low
  · rw [if_pos a] at h; cases h
  · rw [if_neg a] at h
    by_cases b : Mx.lt p high
    · exact ⟨a, b⟩
    · rw [if_neg b] at h; cases h
theorem fw_some {low high nh p g : Mx.Pt} (h : fw low high nh p = some g) : Mx.lt p low ∨ ¬ Mx.lt p high := by
  unfold fw at *
  by_cases a : Mx.lt p low
  · exact .inl a
  · rw [if_neg a] at h
    by_cases b : Mx.lt p high
    · rw [if_pos b] at h; cases h
    · exact .inr b
def G5 : List Mx.Pt := grid (upto 5 ++ [1000000]) (upto 11 ++ [1000, 1000000000])
def G4 : List Mx.Pt := grid (upto 4 ++ [1000000]) (upto 8 ++ [1000, 1000000000])
theorem G5_ok : G5.Pairwise Mx.lt ∧ ∀ p ∈ G5, Mx.nn p := by
  unfold Mx.nn
  decide +kernel
theorem G4_ok : ∀ p ∈ G4, Mx.nn p := by
  unfold Mx.nn
  decide +kernel
theorem minus_lt {g : Mx.Pt} (h : Mx.nn g) : Mx.lt (-1, 0) g := by unfold Mx.lt Mx.nn at *; omega
theorem pw_get : ∀ {l : List Mx.Pt} {i j : Nat} {p q : Mx.Pt}, l.Pairwise Mx.lt → l[i]? = some p → l[j]? = some q → i < j → Mx.lt p q
  | [], _, _, _, _, _, h, _, _ => by simp at h
  | a :: l, 0, j + 1, p, q, hp, h1, h2, _ => by
    simp at h1 h2; subst h1
    exact (List.pairwise_cons.mp hp).1 _ (List.mem_of_getElem? h2)
  | a :: l, i + 1, j + 1, p, q, hp, h1, h2, h3 => pw_get (List.pairwise_cons.mp hp).2 (by simpa using h1) (by simpa using h2) (by omega)
theorem grid_len (sz : List Int) : ∀ rows : List Int, (grid rows sz).length = rows.length * sz.length
  | [] => by simp [grid]
  | r :: rs => by
    have := grid_len sz rs
    unfold grid at *
    rw [List.flatMap_cons, List.length_append, this, List.length_map, List.length_cons, Nat.add_mul]; omega
theorem upto_len (n : Nat) : (upto n).length = n := by simp [upto]
theorem rng_upto (n : Nat) : rng 0 n = (upto n).map D.int := by
  unfold rng upto
  rw [List.map_map]
  exact List.map_congr_left fun i _ => by simp
theorem fw_non (low high nh p : Mx.Pt) : isNonD (oP (fw low high nh p)) = decide (¬ Mx.lt p low ∧ Mx.lt p high) := by
  rw [non_oP]
  cases h : fw low high nh p with
  | none =>
    have := fw_none h
    simp [this.1, this.2]
  | some g =>
    have := fw_some h
    have q : ¬ (¬ Mx.lt p low ∧ Mx.lt p high) := fun z => this.elim z.1 (fun w => w z.2)
    rw [decide_eq_false q]; rfl
/-- one step -/
local macro_rules | `(tactic| walk_at "w1") => `(tactic| first
  | with_reducible refine ws_seq ?_
  | with_reducible refine ws_if ?_
  | with_reducible refine ws_ret ?_
  | ((fail_if_success (with_reducible show Ws _ (tDrop (tBM _ _ _ _ _)) _ _ _)); (with_reducible refine ws_drop ?_))
  | with_reducible refine ws_next ?_
  | with_reducible refine ws_par ?_
  | with_reducible refine ws_asg ?_
  | with_reducible refine wg_name ?_
  | with_reducible refine we_int ?_
  | with_reducible refine we_bl ?_
  | with_reducible refine we_non ?_
  | with_reducible refine we_str ?_
  | with_reducible refine we_ty ?_
  | ((with_reducible show We _ (tVar _) _ _ _); refine we_var rfl rfl ?_)
  | ((with_reducible show We _ (tVar _) _ _ _); refine we_var rfl (mut_oP _) ?_)
  | with_reducible refine we_op ?_
  | with_reducible refine we_un ?_
  | with_reducible refine we_cb ?_
  | with_reducible refine we_call ?_
  | with_reducible refine we_tup ?_
  | with_reducible refine we_lst ?_
  | with_reducible refine we_sl ?_
  | with_reducible refine we_m1 ?_
  | with_reducible refine we_andV ?_
  | with_reducible refine we_orV ?_
  | with_reducible refine we_notV ?_
  | with_reducible refine we_if ?_
  | with_reducible refine we_chain ?_
  | with_reducible refine we_fld ?_
  | with_reducible refine we_meth ?_
  | with_reducible refine we_prop ?_
  | with_reducible refine we_callO' ?_
  | with_reducible refine we_make ?_
  | with_reducible refine wt_test ?_
  | with_reducible refine wt_B ?_
  | with_reducible refine wt_yes ?_
  | with_reducible refine wt_and ?_
  | with_reducible refine wt_or ?_
  | with_reducible refine wt_not ?_
  | with_reducible refine wa_nil ?_
  | with_reducible refine wa_cons ?_
  | with_reducible refine wo_none ?_
  | with_reducible refine wo_some ?_
  | with_reducible refine add_int ?_
  | with_reducible refine sub_int ?_
  | with_reducible refine neg_int ?_
  | ((with_reducible refine mod_int ?_ ?_); (focus (first | assumption | omega)))
  | ((with_reducible refine mul_int ?_ ?_); (focus (first | exact Or.inl ⟨by omega, by omega⟩ | exact Or.inr ⟨by omega, by omega⟩)))
  | ((with_reducible refine fdiv_int ?_ ?_); (focus (exact ⟨by omega, by omega⟩)))
  | ((with_reducible refine pow_int ?_ ?_); (focus (exact ⟨by decide, by decide, by decide⟩)))
  | with_reducible refine is_non ?_
  | with_reducible refine not_non ?_
  | with_reducible refine eq_int ?_
  | with_reducible refine ne_int ?_
  | with_reducible refine eq_pos ?_
  | with_reducible refine ne_pos ?_
  | with_reducible refine ne_oPs ?_
  | with_reducible refine ne_nn ?_
  | with_reducible refine ne_np ?_
  | with_reducible refine ne_pn ?_
  | with_reducible refine eq_str ?_
  | with_reducible refine ne_str ?_
  | with_reducible refine eq_bl ?_
  | with_reducible refine ne_bl ?_
  | with_reducible refine lt_int ?_
  | with_reducible refine gt_int ?_
  | with_reducible refine le_int ?_
  | with_reducible refine ge_int ?_
  | with_reducible refine lt_pos ?_
  | with_reducible refine gt_pos ?_
  | with_reducible refine le_pos ?_
  | with_reducible refine ge_pos ?_
  | with_reducible refine int_int ?_
  | with_reducible refine min_int ?_
  | with_reducible refine max_int ?_
  | with_reducible refine len_lst ?_
  | with_reducible refine len_tup ?_
  | ((with_reducible refine len_take ?_ ?_ ?_); (focus (first | assumption | omega)); (focus (first | assumption | omega)))
  | ((with_reducible refine len_str ?_ ?_); (focus (first | assumption | omega)))
  | with_reducible refine tuple_lst ?_
  | with_reducible refine tuple_tup ?_
  | ((with_reducible refine sl_to ?_ ?_ ?_); (focus (first | assumption | omega)); (focus (first | assumption | omega)))
  | ((with_reducible refine sl_from ?_ ?_ ?_); (focus (first | assumption | omega)); (focus (first | assumption | omega)))
  | ((with_reducible refine sl_mid ?_ ?_ ?_ ?_); (focus (first | assumption | omega)); (focus (first | assumption | omega)); (focus (first | assumption | omega)))
  | with_reducible refine sl_lst ?_
  | with_reducible refine sl_tup ?_
  | ((with_reducible refine sl_str ?_ ?_); (focus (first | assumption | omega)))
  | with_reducible refine mt_nl ?_
  | with_reducible refine mt_countD ?_
  | with_reducible refine mt_rfindD ?_
  | ((with_reducible refine mt_splitnl ?_ ?_); (focus (first | assumption | omega)))
  | ((with_reducible refine mt_splitD ?_ ?_ ?_); (focus rfl); (focus (first | assumption | omega)))
  | ((with_reducible show Op _ (rIx _) (D.tup _) (D.int _) _); refine ix_tup (by decide) rfl ?_)
  | ((with_reducible show Op _ (rIx _) (D.lst _) (D.int _) _); refine ix_lst (by decide) rfl ?_)
  | ((with_reducible show Cb _ (rIsi _) [D.int _, D.ty _] _); first | refine isiI (r := true) (by decide +kernel) ?_ | refine isiI (r := false) (by decide +kernel) ?_)
  | ((with_reducible show Cb _ (rIsi _) [D.str _, D.ty _] _); first | refine isiS (r := true) (by decide +kernel) ?_ | refine isiS (r := false) (by decide +kernel) ?_)
  | ((with_reducible show Cb _ (rIsi _) [D.tup _, D.ty _] _); first | refine isiT (r := true) (by decide +kernel) ?_ | refine isiT (r := false) (by decide +kernel) ?_)
  | ((with_reducible show Wg _ (gTup _ _ _) _ _ _); refine wg_tup rfl rfl ?_)
  | ((with_reducible show Wgs _ gNil _ _ _); refine wgs_nil rfl ?_)
  | ((with_reducible show Wgs _ (gCons _ _) _ _ _); refine wgs_cons rfl ?_)
  | ((with_reducible show ∃ _, D.bl _ = D.bl _ ∧ _); refine ⟨_, rfl, ?_⟩)
  | ((with_reducible show ∃ _, D.int _ = D.int _ ∧ _); refine ⟨_, rfl, ?_⟩)
  | ((with_reducible show ∃ _, D.str _ = D.str _ ∧ _); refine ⟨_, rfl, ?_⟩)
  | ((with_reducible show ∃ _, D.tup _ = D.tup _ ∧ _); refine ⟨_, rfl, ?_⟩)
  | ((with_reducible show ∃ _, D.lst _ = D.lst _ ∧ _); refine ⟨_, rfl, ?_⟩)
  | with_reducible refine iteNT ?_
  | with_reducible refine iteNF ?_
  | ((with_reducible show if true = true then _ else _); rw [if_pos rfl])
  | ((with_reducible show if false = true then _ else _); rw [if_neg Bool.false_ne_true])
  | ((with_reducible show List.length _ ≤ 1000000 ∧ _); refine ⟨?_, ?_⟩; (focus (simp; done)))
  | fail "no step")
local macro_rules | `(tactic| walk_at "w") => `(tactic| repeat (walk_at "w1"))
local macro_rules | `(tactic| walk_at "ws") => `(tactic| repeat ((fail_if_success (with_reducible show We _ (tChain _ _ _ _ _) _ _ _)); (fail_if_success (with_reducible show Wt _ (tAnd _ _) _ _ _)); (fail_if_success (with_reducible show We _ (tOrT _ _ _) _ _ _)); walk_at "w1"))
theorem len__law_grid : ∀ ds n P, R__law_grid A ds n P → ds.length = 2 := by rintro ds n P ⟨_, _, rfl, -⟩; rfl
theorem w__law_grid (T : TxtC K A) : ∀ ds n P, R__law_grid A ds n P → Ws K (t__law_grid K A) (startD 5 ds) n {nx := fun _ m => P .non m, rt := P} := by
  rintro ds n P ⟨r, s, rfl, h0, h1, h⟩
  unfold t__law_grid
  walk_at "w"
  refine ws_for (wi_list ?_)
  walk_at "w1"
  refine we_listRg1 ?_
  walk_at "w"
  refine ⟨by omega, by omega, ?_⟩
  walk_at "w"
  refine add_lst (by rw [rng_len]; simp; omega) ?_
  walk_at "w"
  have er : (rng 0 (Int.toNat ((r : Nat) : Int)) ++ [D.int (10 ^ Int.toNat 6)]) = (upto r ++ [1000000]).map D.int := by
    rw [rng_upto, List.map_append]; rfl
  rw [er]
  refine ⟨fun i ds' k => k = n ∧ ∃ a b, ds' = [some (.int r), some (.int s), some (.lst ((grid ((upto r ++ [1000000]).take i) (upto s ++ [1000, 1000000000])).map P2)), a, b], ⟨rfl, _, _, rfl⟩, ?_, ?_⟩
  · rintro i x ds' k hx ⟨rfl, a, b, rfl⟩
    rw [List.getElem?_map] at hx
    obtain ⟨c, hc, rfl⟩ := Option.map_eq_some_iff.mp hx
    walk_at "w"
    refine we_lcmap (fun d => .tup [.int c, d]) (wi_list ?_)
    walk_at "w1"
    refine we_listRg1 ?_
    walk_at "w"
    refine ⟨by omega, by omega, ?_⟩
    walk_at "w"
    refine add_lst (by rw [rng_len]; simp; omega) ?_
    walk_at "w"
    have es : (rng 0 (Int.toNat ((s : Nat) : Int)) ++ [D.int 1000, D.int (10 ^ Int.toNat 9)]) = (upto s ++ [1000, 1000000000]).map D.int := by
      rw [rng_upto, List.map_append]; rfl
    rw [es]
    have hz : ((upto s ++ [1000, 1000000000]).map D.int).length = s + 2 := by simp [upto_len]
    have hr : ((upto r ++ [1000000])).length = r + 1 := by simp [upto_len]
    have hi : i < (upto r ++ [1000000]).length := (List.getElem?_eq_some_iff.mp hc).1
    refine ⟨by rw [hz]; omega, fun x hx => ?_, ?_⟩
    · obtain ⟨d, hd, rfl⟩ := List.mem_map.mp hx
      refine wgc_name (by simp) ?_
      walk_at "w"
      exact ⟨rfl, rfl⟩
    · refine add_lst ?_ ?_
      · have hs : (upto s ++ [1000, 1000000000]).length = s + 2 := by simp [upto_len]
        rw [List.length_map, List.length_map, hz, grid_len, List.length_take, hr, hs]
        have : min i (r + 1) * (s + 2) ≤ 101 * 102 := Nat.mul_le_mul (by omega) (by omega)
        omega
      · walk_at "w"
        have eg : (grid ((upto r ++ [1000000]).take (i + 1)) (upto s ++ [1000, 1000000000])).map P2 = (grid ((upto r ++ [1000000]).take i) (upto s ++ [1000, 1000000000])).map P2 ++ List.map (fun d => D.tup [D.int c, d]) ((upto s ++ [1000, 1000000000]).map D.int) := by
          rw [List.take_add_one, hc]
          unfold grid
          rw [List.flatMap_append, List.map_append]
          congr 1
          simp
        exact ⟨rfl, some (.int c), b, by rw [eg]; rfl⟩
  · rintro ds' k ⟨rfl, a, b, rfl⟩
    rw [List.length_map, List.take_length]
    walk_at "w"
    exact h
theorem len__law_opposite_right : ∀ ds n P, R__law_opposite_right A ds n P → ds.length = 2 := by rintro ds n P ⟨_, _, _, _, rfl, -⟩; rfl
theorem w__law_opposite_right (T : TxtC K A) : ∀ ds n P, R__law_opposite_right A ds n P → Ws K (t__law_opposite_right K A) (startD 4 ds) n {nx := fun _ m => P .non m, rt := P} := by
  rintro ds n P ⟨x, y, i, j, rfl, h0, h1, h2, h3, h⟩
  unfold t__law_opposite_right
  walk_at "w"
  refine ⟨_, rfl, rfl, ?_⟩
  walk_at "w"
  refine ⟨x, y, i, j, rfl, h0, h1, by omega, by omega, ?_⟩
  walk_at "w"
  refine ws_for (wi_list ?_)
  walk_at "w"
  refine ⟨4, 8, rfl, by decide, by decide, ?_⟩
  walk_at "w"
  generalize hq : Mx.beh (0, 0) ((tl x).take i) = low
  generalize hq2 : Mx.beh (0, 0) ((tl x).take j) = high
  generalize hq3 : Mx.beh low (tl y) = nh
  refine ⟨fun i' ds' k => k = n ∧ ∃ a, ds' = [some (.str x), some (edD A low high y nh), some (edD A low nh (mk (((tl x).drop i).take (j - i))) high), a], ⟨rfl, _, rfl⟩, ?_, ?_⟩
  · rintro i' z ds' k hx ⟨rfl, a, rfl⟩
    obtain ⟨p, hp, rfl⟩ := List.mem_map.mp (List.mem_of_getElem? hx)
    have hn : Mx.nn p := G4_ok p hp
    walk_at "w"
    refine ⟨_, rfl, rfl, ?_⟩
    walk_at "w"
    refine ⟨_, _, _, _, p, rfl, hn, ?_⟩
    walk_at "w"
    refine ⟨_, rfl, rfl, ?_⟩
    walk_at "w"
    refine ⟨_, _, _, _, p, rfl, hn, ?_⟩
    walk_at "w"
    refine ⟨_, rfl, rfl, ?_⟩
    walk_at "w"
    refine ⟨_, _, _, _, p, rfl, hn, ?_⟩
    walk_at "w"
    refine ⟨_, rfl, rfl, ?_⟩
    walk_at "w"
    refine ⟨_, _, _, _, p, rfl, hn, ?_⟩
    walk_at "w"
    exact ⟨rfl, _, rfl⟩
  · rintro ds' k ⟨rfl, a, rfl⟩
    walk_at "w"
    exact h
theorem chain_low_high {ds : DS} {n : Nat} {P : D → Nat → Prop} {low high nh p : Mx.Pt} {x : Str} (h0 : ds[0]? = some (some (edD A low high x nh))) (h3 : ds[3]? = some (some (P2 p))) (h : P (.bl (decide (¬ Mx.lt p low ∧ Mx.lt p high))) n) :
    We K (tChain (rLeP K) (rLtP K) (tProp A.c_Edit (spD K (R_Edit_low A)) [] E0 (tVar 0)) (tVar 3) (tProp A.c_Edit (spD K (R_Edit_high A)) [] E0 (tVar 0))) ds n P := by
  walk_at "w1"
  walk_at "w1"
  refine we_var h0 rfl ⟨_, rfl, _, _, _, _, rfl, ?_⟩
  refine we_var h3 rfl ?_
  walk_at "w"
  refine iteND (fun z => ?_) (fun z => ?_)
  · walk_at "w1"
    refine we_var h0 rfl ⟨_, rfl, _, _, _, _, rfl, ?_⟩
    walk_at "w"
    have z' : ¬ Mx.lt p low := z
    rw [show decide (plt p.1 p.2 high.1 high.2) = decide (¬ Mx.lt p low ∧ Mx.lt p high) by
      by_cases q : Mx.lt p high
      · rw [decide_eq_true (show ¬ Mx.lt p low ∧ Mx.lt p high from ⟨z', q⟩)]; exact decide_eq_true q
      · rw [decide_eq_false (fun w : ¬ Mx.lt p low ∧ Mx.lt p high => q w.2)]; exact decide_eq_false q]
    exact h
  · have z' : Mx.lt p low := z
    rw [decide_eq_false (fun w : ¬ Mx.lt p low ∧ Mx.lt p high => w.1 z')] at h
    exact h
theorem chain_low_new {ds : DS} {n : Nat} {P : D → Nat → Prop} {low high nh p : Mx.Pt} {x : Str} (h0 : ds[0]? = some (some (edD A low high x nh))) (h3 : ds[3]? = some (some (P2 p))) (h : P (.bl (decide (¬ Mx.lt p low ∧ Mx.lt p nh))) n) :
    We K (tChain (rLeP K) (rLtP K) (tProp A.c_Edit (spD K (R_Edit_low A)) [] E0 (tVar 0)) (tVar 3) (tProp A.c_Edit (spD K (R_Edit_new_high A)) [] E0 (tVar 0))) ds n P := by
  walk_at "w1"
  walk_at "w1"
  refine we_var h0 rfl ⟨_, rfl, _, _, _, _, rfl, ?_⟩
  refine we_var h3 rfl ?_
  walk_at "w"
  refine iteND (fun z => ?_) (fun z => ?_)
  · walk_at "w1"
    refine we_var h0 rfl ⟨_, rfl, _, _, _, _, rfl, ?_⟩
    walk_at "w"
    have z' : ¬ Mx.lt p low := z
    rw [show decide (plt p.1 p.2 nh.1 nh.2) = decide (¬ Mx.lt p low ∧ Mx.lt p nh) by
      by_cases q : Mx.lt p nh
      · rw [decide_eq_true (show ¬ Mx.lt p low ∧ Mx.lt p nh from ⟨z', q⟩)]; exact decide_eq_true q
      · rw [decide_eq_false (fun w : ¬ Mx.lt p low ∧ Mx.lt p nh => q w.2)]; exact decide_eq_false q]
    exact h
  · have z' : Mx.lt p low := z
    rw [decide_eq_false (fun w : ¬ Mx.lt p low ∧ Mx.lt p nh => w.1 z')] at h
    exact h
theorem orT_oP {ds : DS} {n i j : Nat} {P : D → Nat → Prop} {o : Option Mx.Pt} {la : Mx.Pt} (h4 : ds[i]? = some (some (oP o))) (h1 : ds[j]? = some (some (P2 la))) (h : P (P2 (o.getD la)) n) : We K (tOrT K (tVar i) (tVar j)) ds n P := by
  refine we_orT (we_var h4 (mut_oP o) ?_)
  cases o with
  | none => exact ⟨false, rfl, by rw [if_neg Bool.false_ne_true]; exact we_var h1 rfl h⟩
  | some g => exact ⟨true, rfl, by rw [if_pos rfl]; exact h⟩
theorem back_test {ds : DS} {n : Nat} {P : Bool → Nat → Prop} {low high nh p la : Mx.Pt} {x : Str} (o : Option Mx.Pt) (h0 : ds[0]? = some (some (edD A low high x nh))) (h1 : ds[1]? = some (some (P2 la))) (h3 : ds[3]? = some (some (P2 p))) (h4 : ds[4]? = some (some (oP o)))
    (hs : ∀ g, o = some g → Mx.nn g ∧ Mx.lt la g ∧ fw low nh high g = some p) (h : P false n) :
    Wt K (tAnd (tTest (tOp (rNotN') (tVar 4) (tC .non))) (tOr (tNot (tTest (tOp (rGtP K) (tVar 4) (tVar 1)))) (tTest (tOp (rNeP K) (tMeth A.c_Edit "back" (spD K (R_Edit_back A)) [] E0 (tVar 0) (tCons (tOp (rIx K) (tVar 4) (tC (.int 0))) (tCons (tOp (rIx K) (tVar 4) (tC (.int 1))) tNil))) (tVar 3))))) ds n P := by
  walk_at "w1"
  walk_at "w1"
  walk_at "w1"
  refine we_var h4 (mut_oP o) ?_
  cases o with
  | none =>
    walk_at "w"
    exact h
  | some g =>
    obtain ⟨gn, gl, gb⟩ := hs g rfl
    have h4' : ds[4]? = some (some (P2 g)) := h4
    walk_at "w"
    refine iteNF ?_
    walk_at "w"
    refine we_var h4' rfl ?_
    refine we_var h1 rfl ?_
    walk_at "w"
    refine iteND (fun z => absurd gl z) (fun z => ?_)
    walk_at "w"
    refine we_var h0 rfl ⟨_, rfl, rfl, ?_⟩
    walk_at "w"
    refine we_var h4' rfl ?_
    walk_at "w"
    refine we_var h4' rfl ?_
    walk_at "w"
    refine ⟨_, _, _, _, g, rfl, gn, ?_⟩
    rw [gb]
    refine we_var h3 rfl ?_
    walk_at "w"
    refine ne_oPs (o := some p) ?_
    walk_at "w"
    exact h
theorem forward_test {ds : DS} {n : Nat} {P : Bool → Nat → Prop} {low high nh p la : Mx.Pt} {x : Str} (o : Option Mx.Pt) (h0 : ds[0]? = some (some (edD A low high x nh))) (h1 : ds[2]? = some (some (P2 la))) (h3 : ds[3]? = some (some (P2 p))) (h4 : ds[5]? = some (some (oP o)))
    (hs : ∀ g, o = some g → Mx.nn g ∧ Mx.lt la g ∧ fw low high nh g = some p) (h : P false n) :
    Wt K (tAnd (tTest (tOp (rNotN') (tVar 5) (tC .non))) (tOr (tNot (tTest (tOp (rGtP K) (tVar 5) (tVar 2)))) (tTest (tOp (rNeP K) (tMeth A.c_Edit "forward" (spD K (R_Edit_forward A)) [] E0 (tVar 0) (tCons (tOp (rIx K) (tVar 5) (tC (.int 0))) (tCons (tOp (rIx K) (tVar 5) (tC (.int 1))) tNil))) (tVar 3))))) ds n P := by
  walk_at "w1"
  walk_at "w1"
  walk_at "w1"
  refine we_var h4 (mut_oP o) ?_
  cases o with
  | none =>
    walk_at "w"
    exact h
  | some g =>
    obtain ⟨gn, gl, gb⟩ := hs g rfl
    have h4' : ds[5]? = some (some (P2 g)) := h4
    walk_at "w"
    refine iteNF ?_
    walk_at "w"
    refine we_var h4' rfl ?_
    refine we_var h1 rfl ?_
    walk_at "w"
    refine iteND (fun z => absurd gl z) (fun z => ?_)
    walk_at "w"
    refine we_var h0 rfl ⟨_, rfl, rfl, ?_⟩
    walk_at "w"
    refine we_var h4' rfl ?_
    walk_at "w"
    refine we_var h4' rfl ?_
    walk_at "w"
    refine ⟨_, _, _, _, g, rfl, gn, ?_⟩
    rw [gb]
    refine we_var h3 rfl ?_
    walk_at "w"
    refine ne_oPs (o := some p) ?_
    walk_at "w"
    exact h
theorem len__law_moves_right : ∀ ds n P, R__law_moves_right A ds n P → ds.length = 1 := by rintro ds n P ⟨_, _, _, _, rfl, -⟩; rfl
theorem w__law_moves_right (T : TxtC K A) : ∀ ds n P, R__law_moves_right A ds n P → Ws K (t__law_moves_right K A) (startD 6 ds) n {nx := fun _ m => P .non m, rt := P} := by
  rintro ds n P ⟨low, high, x, nh, rfl, ⟨n1, n2, n3, o1, o2⟩, h⟩
  unfold t__law_moves_right
  walk_at "ws"
  refine ws_for (wi_list ?_)
  walk_at "ws"
  refine ⟨5, 11, rfl, by decide, by decide, ?_⟩
  walk_at "ws"
  refine ⟨fun i' ds' k => k = n ∧ ∃ (la bl : Mx.Pt) (a b c : Option D), ds' = [some (edD A low high x nh), some (P2 la), some (P2 bl), a, b, c] ∧ (∀ j p g, i' ≤ j → G5[j]? = some p → fw low high nh p = some g → Mx.lt la g) ∧ (∀ j p g, i' ≤ j → G5[j]? = some p → fw low nh high p = some g → Mx.lt bl g), ⟨rfl, (-1, 0), (-1, 0), _, _, _, rfl, ?_, ?_⟩, ?_, ?_⟩
  · exact fun j p g _ hp hg => minus_lt (fw_nn n3 (G5_ok.2 p (List.mem_of_getElem? hp)) hg)
  · exact fun j p g _ hp hg => minus_lt (fw_nn n2 (G5_ok.2 p (List.mem_of_getElem? hp)) hg)
  · rintro i' z ds' k hx ⟨rfl, la, bl, a, b, c, rfl, hla, hbl⟩
    rw [List.getElem?_map] at hx
    obtain ⟨p, hp, rfl⟩ := Option.map_eq_some_iff.mp hx
    have hn : Mx.nn p := G5_ok.2 p (List.mem_of_getElem? hp)
    walk_at "ws"
    refine ⟨_, rfl, rfl, ?_⟩
    walk_at "ws"
    refine ⟨_, _, _, _, p, rfl, hn, ?_⟩
    walk_at "ws"
    refine ⟨_, rfl, rfl, ?_⟩
    walk_at "ws"
    refine ⟨_, _, _, _, p, rfl, hn, ?_⟩
    walk_at "ws"
    refine ⟨_, _, rfl, ?_⟩
    walk_at "ws"
    refine chain_low_high rfl rfl ?_
    rw [fw_non]
    walk_at "ws"
    rw [decide_eq_true rfl]
    walk_at "ws"
    refine chain_low_new rfl rfl ?_
    rw [fw_non]
    walk_at "ws"
    rw [decide_eq_true rfl]
    walk_at "ws"
    refine back_test (fw low high nh p) rfl rfl rfl rfl (fun g hg => ⟨fw_nn n3 hn hg, hla _ _ _ (Nat.le_refl _) hp hg, fw_inv o1 o2 hg⟩) ?_
    walk_at "ws"
    refine forward_test (fw low nh high p) rfl rfl rfl rfl (fun g hg => ⟨fw_nn n2 hn hg, hbl _ _ _ (Nat.le_refl _) hp hg, fw_inv o2 o1 hg⟩) ?_
    walk_at "ws"
    refine orT_oP rfl rfl ?_
    walk_at "ws"
    refine orT_oP rfl rfl ?_
    walk_at "ws"
    refine ⟨_, _, rfl, rfl, (fw low high nh p).getD la, (fw low nh high p).getD bl, _, _, _, rfl, ?_, ?_⟩
    · intro j q g hj hq hg
      cases hf : fw low high nh p with
      | none => exact hla j q g (by omega) hq hg
      | some g0 => exact fw_mono o1 o2 (pw_get G5_ok.1 hp hq (by omega)) hf hg
    · intro j q g hj hq hg
      cases hf : fw low nh high p with
      | none => exact hbl j q g (by omega) hq hg
      | some g0 => exact fw_mono o2 o1 (pw_get G5_ok.1 hp hq (by omega)) hf hg
  · rintro ds' k ⟨rfl, la, bl, a, b, c, rfl, -⟩
    walk_at "ws"
    exact h
end
end Lw

namespace Lw
open PySem L2 StX DL
section
variable {K : PySem.W.Frag} {A : Ad}
/-- where the sign k goes: i, j the cut, c the length of what comes in -/
def gn (i j c k : Nat) : Option Nat := if k < i then some k else if k < j then none else some (i + c + (k - j))
def kl (i j c m : Nat) : List Nat := (List.range m).filterMap (gn i j c)
theorem kl_succ (i j c m : Nat) : kl i j c (m + 1) = kl i j c m ++ (gn i j c m).toList := by
  unfold kl
  rw [List.range_succ, List.filterMap_append]
  cases h : gn i j c m <;> simp [h]
theorem kl_len (i j c m : Nat) : (kl i j c m).length ≤ m := by
  refine Nat.le_trans (List.length_filterMap_le _ _) ?_
  rw [List.length_range]; exact Nat.le_refl _
theorem kl_mem {i j c m t : Nat} (hij : i ≤ j) (hm : j ≤ m) : t ∈ kl i j c m ↔ t < i ∨ (i + c ≤ t ∧ t < i + c + (m - j)) := by
  unfold kl gn
  rw [List.mem_filterMap]
  constructor
  · rintro ⟨k, hk, e⟩
    rw [List.mem_range] at hk
    split at e
    · cases e; left; assumption
    · split at e
      · cases e
      · cases e; right; omega
  · rintro (h | ⟨h1, h2⟩)
    · exact ⟨t, List.mem_range.mpr (by omega), by rw [if_pos h]⟩
    · refine ⟨t - (i + c) + j, List.mem_range.mpr (by omega), ?_⟩
      rw [if_neg (by omega), if_neg (by omega)]
      congr 1; omega
abbrev NN (l y : List Nat) (i j : Nat) : List Nat := l.take i ++ y ++ l.drop j
theorem NN_len {l y : List Nat} {i j : Nat} (hij : i ≤ j) (hj : j ≤ l.length) : (NN l y i j).length = i + y.length + (l.length - j) := by
  simp [NN]; omega
theorem NN_low {l y : List Nat} {i j k : Nat} (hk : k ≤ i) (hj : i ≤ l.length) : (NN l y i j).take k = l.take k := by
  unfold NN
  rw [List.append_assoc, List.take_append_of_le_length (by rw [List.length_take]; omega), List.take_take, Nat.min_eq_left hk]
theorem NN_high {l y : List Nat} {i j k : Nat} (hi : i ≤ l.length) : (NN l y i j).take (i + y.length + k) = l.take i ++ y ++ (l.drop j).take k := by
  unfold NN
  have : (l.take i ++ y).length = i + y.length := by rw [List.length_append, List.length_take]; omega
  rw [List.take_append, this, show i + y.length + k - (i + y.length) = k by omega, List.take_of_length_le (by rw [this]; omega)]
theorem NN_dlow {l y : List Nat} {i j k : Nat} (hk : k < i) (hj : i ≤ l.length) : ((NN l y i j).drop k).take 1 = (l.drop k).take 1 := by
  have e1 : ((NN l y i j).drop k).take 1 = ((NN l y i j).take (k + 1)).drop k := by rw [List.drop_take]; congr 1; omega
  have e2 : (l.drop k).take 1 = (l.take (k + 1)).drop k := by rw [List.drop_take]; congr 1; omega
  rw [e1, e2, NN_low (by omega) hj]
theorem NN_dhigh {l y : List Nat} {i j k : Nat} (hk : j ≤ k) (hi : i ≤ l.length) : (NN l y i j).drop (i + y.length + (k - j)) = l.drop k := by
  unfold NN
  have : (l.take i ++ y).length = i + y.length := by rw [List.length_append, List.length_take]; omega
  rw [List.drop_append, this, show i + y.length + (k - j) - (i + y.length) = k - j by omega, List.drop_of_length_le (by rw [this]; omega), List.drop_drop, List.nil_append]
  congr 1; omega
/-- where a position of the text goes -/
theorem fw_gn {l y : List Nat} {i j k : Nat} (hij : i ≤ j) (hj : j ≤ l.length) (hk : k ≤ l.length) :
    fw (Mx.beh (0, 0) (l.take i)) (Mx.beh (0, 0) (l.take j)) (Mx.beh (Mx.beh (0, 0) (l.take i)) y) (Mx.beh (0, 0) (l.take k)) = (gn i j y.length k).map fun t => Mx.beh (0, 0) ((NN l y i j).take t) := by
  unfold fw gn
  by_cases h1 : k < i
  · rw [if_pos (bt_lt h1 (by omega)), if_pos h1, Option.map_some, NN_low (by omega) (by omega)]
  · rw [if_neg (bt_nlt (by omega)), if_neg h1]
    by_cases h2 : k < j
    · rw [if_pos (bt_lt h2 hj), if_pos h2]; rfl
    · rw [if_neg (bt_nlt (by omega)), if_neg h2, Option.map_some, NN_high (by omega), bt_split (i := j) (j := k) (by omega), Mx.mv_beh _ (bt_nn l j) (Mx.nlt_self _), Mx.mv_self, Mx.beh_app, Mx.beh_app]
theorem gn_some {l y : List Nat} {i j k t : Nat} (hij : i ≤ j) (hj : j ≤ l.length) (hk : k ≤ l.length) (h : gn i j y.length k = some t) : t ≤ (NN l y i j).length ∧ ((NN l y i j).drop t).take 1 = (l.drop k).take 1 := by
  rw [NN_len hij hj]
  unfold gn at h
  split at h
  · cases h; exact ⟨by omega, NN_dlow (by assumption) (by omega)⟩
  · split at h
    · cases h
    · cases h
      exact ⟨by omega, by rw [NN_dhigh (by omega) (by omega)]⟩
theorem cut_one (x : Str) (t : Nat) (h : t ≤ x.length) : cutS x (some (t : Int)) (some ((t : Int) + 1)) = mk (((tl x).drop t).take 1) := by
  apply TL.ext_tl
  show (((tl x).drop (HT.sIx x.length 0 (some (t : Int)))).take (HT.sIx x.length x.length (some ((t : Int) + 1)) - HT.sIx x.length 0 (some (t : Int)))) = _
  rw [show ((t : Int) + 1) = ((t + 1 : Nat) : Int) by omega, HT.sIx_nat, HT.sIx_nat, Nat.min_eq_left h]
  show _ = ((tl x).drop t).take 1
  by_cases q : t < x.length
  · rw [Nat.min_eq_left (by omega), show t + 1 - t = 1 by omega]
  · rw [List.drop_of_length_le (by rw [← len_tl]; omega), List.take_nil, List.take_nil]
theorem rest_is {i j c n : Nat} (hij : i ≤ j) (hj : j ≤ n) : (List.range (i + c + (n - j))).filter (fun t => !(kl i j c (n + 1)).any fun z => z == t) = (List.range c).map (i + ·) := by
  have key : ∀ t, (kl i j c (n + 1)).any (fun z => z == t) = decide (t < i ∨ (i + c ≤ t ∧ t < i + c + (n + 1 - j))) := fun t => by
    rw [Bool.eq_iff_iff, List.any_eq_true, decide_eq_true_iff, ← kl_mem (c := c) (m := n + 1) (t := t) hij (by omega)]
    simp
  simp only [key]
  rw [List.range_add, List.range_add, List.filter_append, List.filter_append]
  have f1 : (List.range i).filter (fun t => !decide (t < i ∨ i + c ≤ t ∧ t < i + c + (n + 1 - j))) = [] := by
    rw [List.filter_eq_nil_iff]
    intro t ht
    rw [List.mem_range] at ht
    simp [ht]
  have f2 : ((List.range c).map (i + ·)).filter (fun t => !decide (t < i ∨ i + c ≤ t ∧ t < i + c + (n + 1 - j))) = (List.range c).map (i + ·) := by
    rw [List.filter_eq_self]
    intro t ht
    obtain ⟨s, hs, rfl⟩ := List.mem_map.mp ht
    rw [List.mem_range] at hs
    simp; omega
  have f3 : ((List.range (n - j)).map (i + c + ·)).filter (fun t => !decide (t < i ∨ i + c ≤ t ∧ t < i + c + (n + 1 - j))) = [] := by
    rw [List.filter_eq_nil_iff]
    intro t ht
    obtain ⟨s, hs, rfl⟩ := List.mem_map.mp ht
    rw [List.mem_range] at hs
    simp; omega
  rw [f1, f2, f3]; simp
/-- one step -/
local macro_rules | `(tactic| walk_at "w1") => `(tactic| first
  | with_reducible refine ws_seq ?_
  | with_reducible refine ws_if ?_
  | with_reducible refine ws_ret ?_
  | ((fail_if_success (with_reducible show Ws _ (tDrop (tBM _ _ _ _ _)) _ _ _)); (with_reducible refine ws_drop ?_))
  | with_reducible refine ws_next ?_
  | with_reducible refine ws_par ?_
  | with_reducible refine ws_asg ?_
  | with_reducible refine wg_name ?_
  | with_reducible refine we_int ?_
  | with_reducible refine we_bl ?_
  | with_reducible refine we_non ?_
  | with_reducible refine we_str ?_
  | with_reducible refine we_ty ?_
  | ((with_reducible show We _ (tVar _) _ _ _); refine we_var rfl rfl ?_)
  | ((with_reducible show We _ (tVar _) _ _ _); refine we_var rfl (mut_oP _) ?_)
  | with_reducible refine we_op ?_
  | with_reducible refine we_un ?_
  | with_reducible refine we_cb ?_
  | with_reducible refine we_call ?_
  | with_reducible refine we_tup ?_
  | with_reducible refine we_lst ?_
  | with_reducible refine we_sl ?_
  | with_reducible refine we_m1 ?_
  | with_reducible refine we_andV ?_
  | with_reducible refine we_orV ?_
  | with_reducible refine we_notV ?_
  | with_reducible refine we_if ?_
  | with_reducible refine we_chain ?_
  | with_reducible refine we_fld ?_
  | with_reducible refine we_meth ?_
  | with_reducible refine we_prop ?_
  | with_reducible refine we_callO' ?_
  | with_reducible refine we_make ?_
  | with_reducible refine wt_test ?_
  | with_reducible refine wt_B ?_
  | with_reducible refine wt_yes ?_
  | with_reducible refine wt_and ?_
  | with_reducible refine wt_or ?_
  | with_reducible refine wt_not ?_
  | with_reducible refine wa_nil ?_
  | with_reducible refine wa_cons ?_
  | with_reducible refine wo_none ?_
  | with_reducible refine wo_some ?_
  | with_reducible refine add_int ?_
  | with_reducible refine sub_int ?_
  | with_reducible refine neg_int ?_
  | ((with_reducible refine mod_int ?_ ?_); (focus (first | assumption | omega)))
  | ((with_reducible refine mul_int ?_ ?_); (focus (first | exact Or.inl ⟨by omega, by omega⟩ | exact Or.inr ⟨by omega, by omega⟩)))
  | ((with_reducible refine fdiv_int ?_ ?_); (focus (exact ⟨by omega, by omega⟩)))
  | ((with_reducible refine pow_int ?_ ?_); (focus (exact ⟨by decide, by decide, by decide⟩)))
  | with_reducible refine is_non ?_
  | with_reducible refine not_non ?_
  | with_reducible refine eq_int ?_
  | with_reducible refine ne_int ?_
  | with_reducible refine eq_pos ?_
  | with_reducible refine ne_pos ?_
  | with_reducible refine ne_oPs ?_
  | with_reducible refine ne_nn ?_
  | with_reducible refine ne_np ?_
  | with_reducible refine ne_pn ?_
  | with_reducible refine eq_str ?_
  | with_reducible refine ne_str ?_
  | with_reducible refine eq_bl ?_
  | with_reducible refine ne_bl ?_
  | with_reducible refine lt_int ?_
  | with_reducible refine gt_int ?_
  | with_reducible refine le_int ?_
  | with_reducible refine ge_int ?_
  | with_reducible refine lt_pos ?_
  | with_reducible refine gt_pos ?_
  | with_reducible refine le_pos ?_
  | with_reducible refine ge_pos ?_
  | with_reducible refine int_int ?_
  | with_reducible refine min_int ?_
  | with_reducible refine max_int ?_
  | with_reducible refine len_lst ?_
  | with_reducible refine len_tup ?_
  | ((with_reducible refine len_take ?_ ?_ ?_); (focus (first | assumption | omega)); (focus (first | assumption | omega)))
  | ((with_reducible refine len_str ?_ ?_); (focus (first | assumption | omega)))
  | with_reducible refine tuple_lst ?_
  | with_reducible refine tuple_tup ?_
  | ((with_reducible refine sl_to ?_ ?_ ?_); (focus (first | assumption | omega)); (focus (first | assumption | omega)))
  | ((with_reducible refine sl_from ?_ ?_ ?_); (focus (first | assumption | omega)); (focus (first | assumption | omega)))
  | ((with_reducible refine sl_mid ?_ ?_ ?_ ?_); (focus (first | assumption | omega)); (focus (first | assumption | omega)); (focus (first | assumption | omega)))
  | with_reducible refine sl_lst ?_
  | with_reducible refine sl_tup ?_
  | ((with_reducible refine sl_str ?_ ?_); (focus (first | assumption | omega)))
  | with_reducible refine mt_nl ?_
  | with_reducible refine mt_countD ?_
  | with_reducible refine mt_rfindD ?_
  | ((with_reducible refine mt_splitnl ?_ ?_); (focus (first | assumption | omega)))
  | ((with_reducible refine mt_splitD ?_ ?_ ?_); (focus rfl); (focus (first | assumption | omega)))
  | ((with_reducible show Op _ (rIx _) (D.tup _) (D.int _) _); refine ix_tup (by decide) rfl ?_)
  | ((with_reducible show Op _ (rIx _) (D.lst _) (D.int _) _); refine ix_lst (by decide) rfl ?_)
  | ((with_reducible show Cb _ (rIsi _) [D.int _, D.ty _] _); first | refine isiI (r := true) (by decide +kernel) ?_ | refine isiI (r := false) (by decide +kernel) ?_)
  | ((with_reducible show Cb _ (rIsi _) [D.str _, D.ty _] _); first | refine isiS (r := true) (by decide +kernel) ?_ | refine isiS (r := false) (by decide +kernel) ?_)
  | ((with_reducible show Cb _ (rIsi _) [D.tup _, D.ty _] _); first | refine isiT (r := true) (by decide +kernel) ?_ | refine isiT (r := false) (by decide +kernel) ?_)
  | ((with_reducible show Wg _ (gTup _ _ _) _ _ _); refine wg_tup rfl rfl ?_)
  | ((with_reducible show Wgs _ gNil _ _ _); refine wgs_nil rfl ?_)
  | ((with_reducible show Wgs _ (gCons _ _) _ _ _); refine wgs_cons rfl ?_)
  | ((with_reducible show ∃ _, D.bl _ = D.bl _ ∧ _); refine ⟨_, rfl, ?_⟩)
  | ((with_reducible show ∃ _, D.int _ = D.int _ ∧ _); refine ⟨_, rfl, ?_⟩)
  | ((with_reducible show ∃ _, D.str _ = D.str _ ∧ _); refine ⟨_, rfl, ?_⟩)
  | ((with_reducible show ∃ _, D.tup _ = D.tup _ ∧ _); refine ⟨_, rfl, ?_⟩)
  | ((with_reducible show ∃ _, D.lst _ = D.lst _ ∧ _); refine ⟨_, rfl, ?_⟩)
  | with_reducible refine iteNT ?_
  | with_reducible refine iteNF ?_
  | ((with_reducible show if true = true then _ else _); rw [if_pos rfl])
  | ((with_reducible show if false = true then _ else _); rw [if_neg Bool.false_ne_true])
  | ((with_reducible show List.length _ ≤ 1000000 ∧ _); refine ⟨?_, ?_⟩; (focus (simp; done)))
  | fail "no step")
local macro_rules | `(tactic| walk_at "w") => `(tactic| repeat (walk_at "w1"))
local macro_rules | `(tactic| walk_at "ws") => `(tactic| repeat ((fail_if_success (with_reducible show We _ (tChain _ _ _ _ _) _ _ _)); (fail_if_success (with_reducible show Wt _ (tAnd _ _) _ _ _)); (fail_if_success (with_reducible show We _ (tOrT _ _ _) _ _ _)); walk_at "w1"))
theorem flat_one : ∀ l : List Nat, (l.map fun c => [c]).flatten = l
  | [] => rfl
  | c :: l => by rw [List.map_cons, List.flatten_cons, flat_one l]; rfl
theorem pds_ints : ∀ l : List Nat, pds (l.map fun t => D.int (t : Nat)) = some (l.map fun t => PyData.int (t : Nat))
  | [] => rfl
  | t :: l => by
    simp only [List.map_cons, pds, pd, pds_ints l]; rfl
theorem plain_ints : ∀ l : List Nat, PyData.plainAll (l.map fun t => PyData.int (t : Nat)) = true
  | [] => rfl
  | t :: l => by
    simp only [List.map_cons, PyData.plainAll, plain_ints l]; rfl
theorem any_ints (l : List Nat) (k : Nat) : ((l.map fun t => PyData.int (t : Nat)).any fun z => PyData.eqv z (.int (k : Nat))) = l.any fun z => z == k := by
  rw [List.any_map]
  congr 1
  funext t
  simp only [Function.comp, PyData.eqv]
  rw [Bool.eq_iff_iff]
  simp
  omega
theorem len__law_signs_right : ∀ ds n P, R__law_signs_right A ds n P → ds.length = 2 := by rintro ds n P ⟨_, _, _, _, rfl, -⟩; rfl
theorem w__law_signs_right (T : TxtC K A) : ∀ ds n P, R__law_signs_right A ds n P → Ws K (t__law_signs_right K A) (startD 9 ds) n {nx := fun _ m => P .non m, rt := P} := by
  rintro ds n P ⟨x, y, i, j, rfl, h0, h1, h2, h3, h⟩
  have hx := len_tl x
  have hy := len_tl y
  have hN := NN_len (l := tl x) (y := tl y) h0 (by omega)
  have hM : (mk (NN (tl x) (tl y) i j)).length = (NN (tl x) (tl y) i j).length := mk_len _
  have F : ∀ k, k ≤ (tl x).length → _ := fun k hk => fw_gn (y := tl y) (k := k) h0 (by omega) hk
  have Gg : ∀ k t, k ≤ (tl x).length → gn i j (tl y).length k = some t → _ := fun k t hk ht => gn_some (l := tl x) (y := tl y) h0 (by omega) hk ht
  unfold t__law_signs_right
  walk_at "w1"
  refine ws_tupnew ?_
  refine we_callO' ?_
  walk_at "w"
  refine ⟨_, rfl, ?_⟩
  walk_at "w"
  refine ⟨x, y, i, j, _, rfl, h0, h1, by omega, by omega, ?_⟩
  generalize Mx.beh (Mx.beh (0, 0) ((tl x).take i)) (tl y) = nh at *
  generalize Mx.beh (0, 0) ((tl x).take i) = low at *
  generalize Mx.beh (0, 0) ((tl x).take j) = high at *
  unfold NN at hN hM F Gg
  generalize hZ : (tl x).take i ++ tl y ++ (tl x).drop j = Z at *
  walk_at "w1"
  refine ws_for (wi_range1 ?_)
  walk_at "w"
  refine ⟨_, rfl, ⟨by omega, by omega⟩, fun m ds' k' => k' = n ∧ ∃ a b c d e, ds' = [some (.str x), some (edD A low high y nh), some (.str (mk Z)), some (.mls ((kl i j (tl y).length m).map fun t => .int (t : Nat))), a, b, c, d, e], ⟨rfl, _, _, _, _, _, rfl⟩, ?_, ?_⟩
  · rintro m z ds' k' hz ⟨rfl, a, b, c, d, e, rfl⟩
    obtain ⟨hm, rfl⟩ := rng_get' hz
    have hm' : m ≤ (tl x).length := by omega
    rw [Int.zero_add]
    walk_at "w"
    refine ⟨x, m, rfl, by omega, by omega, ?_⟩
    walk_at "w"
    refine ⟨_, rfl, rfl, ?_⟩
    walk_at "w"
    refine ⟨_, _, _, _, _, rfl, bt_nn _ _, ?_⟩
    have Fm := F m hm'
    cases hg : gn i j (tl y).length m with
    | none =>
      have ek : kl i j (tl y).length (m + 1) = kl i j (tl y).length m := by rw [kl_succ, hg]; simp
      have F' : oP (fw low high nh (Mx.beh (0, 0) (List.take m (tl x)))) = .non := by rw [Fm, hg]; rfl
      rw [F']
      walk_at "w"
      refine iteNT ?_
      walk_at "w"
      show k' = k' ∧ _
      rw [ek]
      exact ⟨rfl, _, _, _, _, _, rfl⟩
    | some t =>
      have ek : kl i j (tl y).length (m + 1) = kl i j (tl y).length m ++ [t] := by rw [kl_succ, hg]; rfl
      have F' : oP (fw low high nh (Mx.beh (0, 0) (List.take m (tl x)))) = P2 (Mx.beh (0, 0) (Z.take t)) := by rw [Fm, hg]; rfl
      obtain ⟨g1, g2⟩ := Gg m t hm' hg
      rw [F']
      walk_at "w"
      refine iteNF ?_
      walk_at "w"
      refine ⟨mk Z, t, rfl, by omega, by omega, ?_⟩
      walk_at "w"
      refine ws_append rfl (by rw [List.length_map]; have := kl_len i j (tl y).length m; omega) ?_
      walk_at "w"
      rw [cut_one _ t (by omega), cut_one _ m (by omega), tl_mk, g2]
      refine iteND (fun z => absurd rfl z) (fun _ => ?_)
      walk_at "w"
      show k' = k' ∧ _
      rw [ek, List.map_append]
      exact ⟨rfl, _, _, _, _, _, rfl⟩
  · rintro ds' k' ⟨rfl, a, b, c, d, e, rfl⟩
    refine ws_settle (i := 3) rfl ?_
    rw [rng_len, show ((x.length : Int) + 1).toNat = (tl x).length + 1 by omega]
    have hr := rest_is (c := (tl y).length) (n := (tl x).length) h0 (by omega)
    rw [← hN] at hr
    walk_at "w"
    refine we_lc (wi_range1 ?_)
    walk_at "w"
    refine ⟨_, rfl, ⟨by omega, by omega⟩, fun m ys k => k = k' ∧ ys = ((List.range m).filter (fun t => !(kl i j (tl y).length ((tl x).length + 1)).any fun z => z == t)).map fun t => .int (t : Nat), ⟨rfl, rfl⟩, ?_, ?_⟩
    · rintro m z ys k hz ⟨rfl, rfl⟩
      obtain ⟨hm, rfl⟩ := rng_get' hz
      rw [Int.zero_add]
      refine wgc_name (by simp) ?_
      walk_at "w"
      refine niPl (d := .int (m : Nat)) rfl (pds_ints _) rfl (plain_ints _) (by simp [PyData.depth]) ?_
      rw [any_ints]
      walk_at "w"
      cases hb : (kl i j (tl y).length ((tl x).length + 1)).any (fun z => z == m) with
      | false =>
        refine iteNF ?_
        walk_at "w"
        refine ⟨?_, rfl, ?_⟩
        · rw [List.length_map]
          have := List.length_filter_le (fun t => !(kl i j (tl y).length ((tl x).length + 1)).any fun z => z == t) (List.range m)
          rw [List.length_range] at this
          omega
        · rw [List.range_succ, List.filter_append, List.map_append]
          simp only [List.filter_cons, hb, Bool.not_false, if_true, List.filter_nil, List.map_cons, List.map_nil]
      | true =>
        refine iteNT ?_
        refine ⟨rfl, ?_⟩
        rw [List.range_succ, List.filter_append, List.map_append]
        simp only [List.filter_cons, hb, Bool.not_true, Bool.false_eq_true, if_false, List.filter_nil, List.map_nil, List.append_nil]
    · rintro ys k ⟨rfl, rfl⟩
      rw [rng_len, show ((mk Z).length : Int).toNat = Z.length by omega, hr]
      walk_at "w"
      refine we_lcmap (fun d => match d with | .int t => .str ⟨#[Z.getD t.toNat 0]⟩ | _ => .non) (wi_list ?_)
      walk_at "w"
      refine ⟨by rw [List.length_map, List.length_map, List.length_range]; omega, fun d hd => ?_, ?_⟩
      · obtain ⟨t, ht, rfl⟩ := List.mem_map.mp hd
        obtain ⟨s, hs, rfl⟩ := List.mem_map.mp ht
        rw [List.mem_range] at hs
        refine wgc_name (by simp) ?_
        walk_at "w"
        refine ix_str (c := Z.getD (i + s) 0) (by omega) (by omega) ?_ ?_
        · have hl : i + s < Z.length := by omega
          rw [Int.toNat_natCast, List.getD_eq_getElem?_getD, List.getElem?_eq_getElem hl]; rfl
        · exact ⟨rfl, rfl⟩
      · have hy2 : (List.range (tl y).length).map (fun s => Z.getD (i + s) 0) = tl y := by
          apply List.ext_getElem
          · simp
          · intro s h1 h2
            rw [List.getElem_map, List.getElem_range, ← hZ, List.getD_eq_getElem?_getD, List.append_assoc, List.getElem?_append_right (by rw [List.length_take]; omega), List.length_take, show i + s - min i (tl x).length = s by omega, List.getElem?_append_left h2, List.getElem?_eq_getElem h2]
            rfl
        have hz : (List.map (fun d => match d with | .int t => D.str ⟨#[Z.getD t.toNat 0]⟩ | _ => .non) (List.map (fun t : Nat => D.int t) (List.map (fun x => i + x) (List.range (tl y).length)))) = ((tl y).map fun c => (⟨#[c]⟩ : Str)).map D.str := by
          conv => rhs; rw [← hy2]
          rw [List.map_map, List.map_map, List.map_map, List.map_map]
          exact List.map_congr_left fun s _ => rfl
        rw [hz]
        have h1s : ∀ z ∈ ((tl y).map fun c => (⟨#[c]⟩ : Str)), z.length = 1 := fun z hz => by
          obtain ⟨c, _, rfl⟩ := List.mem_map.mp hz
          rfl
        have hs := ones_sum h1s
        rw [List.length_map] at hs
        have hj : Txt.join (Str.ofString "") ((tl y).map fun c => (⟨#[c]⟩ : Str)) = y := TL.ext_tl ((tl_join0 _).trans (by rw [List.map_map]; exact flat_one (tl y)))
        refine mt_joinD (by rw [em_is, hs, List.length_map]; show _ + _ * 0 ≤ _; omega) ?_
        rw [hj]
        walk_at "w"
        refine ⟨_, rfl, _, _, _, _, rfl, ?_⟩
        walk_at "w"
        refine iteD (fun _ => ?_) (fun z => absurd rfl z)
        walk_at "w"
        exact h
end
end Lw

namespace Lw
open PySem L2 StX DL
section
variable {K : PySem.W.Frag} {A : Ad}
theorem alike_pos (p q : Mx.Pt) : PySem.W.AlikeAll [ppos p.1 p.2, ppos q.1 q.2] := by
  refine ⟨fun x hx y hy => ?_, fun x hx => ?_⟩
  · simp only [List.mem_cons, List.not_mem_nil, or_false] at hx hy
    rcases hx with rfl | rfl <;> rcases hy with rfl | rfl <;> rfl
  · simp only [List.mem_cons, List.not_mem_nil, or_false] at hx
    rcases hx with rfl | rfl <;> exact fun z => by cases z
theorem ppos_inj {a b c d : Int} (h : pd (pos a b) = some (ppos c d)) : a = c ∧ b = d := by
  rw [pd_pos] at h
  injection h with h
  injection h with h
  injection h with h1 h2
  injection h2 with h2 _
  injection h1 with h1
  injection h2 with h2
  exact ⟨h1, h2⟩
theorem iteF {A B : Prop} {c : Bool} (hc : c = false) (h : B) : if c = true then A else B := by rw [if_neg (by rw [hc]; exact Bool.false_ne_true)]; exact h
theorem min_pos {p q : Mx.Pt} {P : D → Prop} (h : ∀ m, (m = p ∨ m = q) → P (P2 m)) : Cb K (rMinQ K) [.lst [P2 p, P2 q]] P :=
  min_lst (d := ppos p.1 p.2) (es := [ppos q.1 q.2]) rfl (alike_pos p q) rfl (by simp [PyData.depth, PyData.depthAll]) fun x hx _ => by
    simp only [List.mem_cons, List.not_mem_nil, or_false] at hx
    rcases hx with rfl | rfl
    · exact h p (.inl rfl)
    · exact h q (.inr rfl)
theorem max_pos {p q : Mx.Pt} {P : D → Prop} (h : ∀ m, (m = p ∨ m = q) → ¬ Mx.lt m p → ¬ Mx.lt m q → P (P2 m)) : Cb K (rMaxQ K) [.lst [P2 p, P2 q]] P :=
  max_lst (d := ppos p.1 p.2) (es := [ppos q.1 q.2]) rfl (alike_pos p q) rfl (by simp [PyData.depth, PyData.depthAll]) fun x hx hd => by
    simp only [List.mem_cons, List.not_mem_nil, or_false] at hx
    have e : PySem.W.maxD (ppos p.1 p.2) [ppos q.1 q.2] = if decide (plt p.1 p.2 q.1 q.2) = true then ppos q.1 q.2 else ppos p.1 p.2 := by
      rw [← lt_posv]; rfl
    rw [e] at hd
    by_cases l : Mx.lt p q
    · rw [if_pos (decide_eq_true (show plt p.1 p.2 q.1 q.2 from l))] at hd
      rcases hx with rfl | rfl
      · obtain ⟨h1, h2⟩ := ppos_inj hd
        unfold Mx.lt at l
        omega
      · exact h q (.inr rfl) (Mx.nlt_of l) (Mx.nlt_self q)
    · rw [if_neg (by rw [decide_eq_true_iff]; exact l)] at hd
      rcases hx with rfl | rfl
      · exact h p (.inl rfl) (Mx.nlt_self p) l
      · obtain ⟨h1, h2⟩ := ppos_inj hd
        refine h q (.inr rfl) ?_ (Mx.nlt_self q)
        unfold Mx.lt at *
        omega
theorem enumD_get' {xs : List D} {i : Nat} {x : D} (h : (enumD xs)[i]? = some x) : ∃ y, xs[i]? = some y ∧ x = .tup [.int (i : Nat), y] := by
  have hl := (List.getElem?_eq_some_iff.mp h).1
  rw [enumD_len] at hl
  have e := enumD_get (List.getElem?_eq_getElem hl)
  rw [h] at e
  exact ⟨_, List.getElem?_eq_getElem hl, Option.some.inj e⟩
/-- one step -/
local macro_rules | `(tactic| walk_at "w1") => `(tactic| first
  | with_reducible refine ws_seq ?_
  | with_reducible refine ws_if ?_
  | with_reducible refine ws_ret ?_
  | ((fail_if_success (with_reducible show Ws _ (tDrop (tBM _ _ _ _ _)) _ _ _)); (with_reducible refine ws_drop ?_))
  | with_reducible refine ws_next ?_
  | with_reducible refine ws_par ?_
  | with_reducible refine ws_asg ?_
  | with_reducible refine wg_name ?_
  | with_reducible refine we_int ?_
  | with_reducible refine we_bl ?_
  | with_reducible refine we_non ?_
  | with_reducible refine we_str ?_
  | with_reducible refine we_ty ?_
  | ((with_reducible show We _ (tVar _) _ _ _); refine we_var rfl rfl ?_)
  | ((with_reducible show We _ (tVar _) _ _ _); refine we_var rfl (mut_oP _) ?_)
  | with_reducible refine we_op ?_
  | with_reducible refine we_un ?_
  | with_reducible refine we_cb ?_
  | with_reducible refine we_call ?_
  | with_reducible refine we_tup ?_
  | with_reducible refine we_lst ?_
  | with_reducible refine we_sl ?_
  | with_reducible refine we_m1 ?_
  | with_reducible refine we_andV ?_
  | with_reducible refine we_orV ?_
  | with_reducible refine we_notV ?_
  | with_reducible refine we_if ?_
  | with_reducible refine we_chain ?_
  | with_reducible refine we_fld ?_
  | with_reducible refine we_meth ?_
  | with_reducible refine we_prop ?_
  | with_reducible refine we_callO' ?_
  | with_reducible refine we_make ?_
  | with_reducible refine wt_test ?_
  | with_reducible refine wt_B ?_
  | with_reducible refine wt_yes ?_
  | with_reducible refine wt_and ?_
  | with_reducible refine wt_or ?_
  | with_reducible refine wt_not ?_
  | with_reducible refine wa_nil ?_
  | with_reducible refine wa_cons ?_
  | with_reducible refine wo_none ?_
  | with_reducible refine wo_some ?_
  | with_reducible refine add_int ?_
  | with_reducible refine sub_int ?_
  | with_reducible refine neg_int ?_
  | ((with_reducible refine mod_int ?_ ?_); (focus (first | assumption | omega)))
  | ((with_reducible refine mul_int ?_ ?_); (focus (first | exact Or.inl ⟨by omega, by omega⟩ | exact Or.inr ⟨by omega, by omega⟩)))
  | ((with_reducible refine fdiv_int ?_ ?_); (focus (exact ⟨by omega, by omega⟩)))
  | ((with_reducible refine pow_int ?_ ?_); (focus (exact ⟨by decide, by decide, by decide⟩)))
  | with_reducible refine is_non ?_
  | with_reducible refine not_non ?_
  | with_reducible refine eq_int ?_
  | with_reducible refine ne_int ?_
  | with_reducible refine eq_pos ?_
  | with_reducible refine ne_pos ?_
  | with_reducible refine ne_oPs ?_
  | with_reducible refine ne_nn ?_
  | with_reducible refine ne_np ?_
  | with_reducible refine ne_pn ?_
  | with_reducible refine eq_str ?_
  | with_reducible refine ne_str ?_
  | with_reducible refine eq_bl ?_
  | with_reducible refine ne_bl ?_
  | with_reducible refine lt_int ?_
  | with_reducible refine gt_int ?_
  | with_reducible refine le_int ?_
  | with_reducible refine ge_int ?_
  | with_reducible refine lt_pos ?_
  | with_reducible refine gt_pos ?_
  | with_reducible refine le_pos ?_
  | with_reducible refine ge_pos ?_
  | with_reducible refine int_int ?_
  | with_reducible refine min_int ?_
  | with_reducible refine max_int ?_
  | with_reducible refine len_lst ?_
  | with_reducible refine len_tup ?_
  | ((with_reducible refine len_take ?_ ?_ ?_); (focus (first | assumption | omega)); (focus (first | assumption | omega)))
  | ((with_reducible refine len_str ?_ ?_); (focus (first | assumption | omega)))
  | with_reducible refine tuple_lst ?_
  | with_reducible refine tuple_tup ?_
  | ((with_reducible refine sl_to ?_ ?_ ?_); (focus (first | assumption | omega)); (focus (first | assumption | omega)))
  | ((with_reducible refine sl_from ?_ ?_ ?_); (focus (first | assumption | omega)); (focus (first | assumption | omega)))
  | ((with_reducible refine sl_mid ?_ ?_ ?_ ?_); (focus (first | assumption | omega)); (focus (first | assumption | omega)); (focus (first | assumption | omega)))
  | with_reducible refine sl_lst ?_
  | with_reducible refine sl_tup ?_
  | ((with_reducible refine sl_str ?_ ?_); (focus (first | assumption | omega)))
  | with_reducible refine mt_nl ?_
  | with_reducible refine mt_countD ?_
  | with_reducible refine mt_rfindD ?_
  | ((with_reducible refine mt_splitnl ?_ ?_); (focus (first | assumption | omega)))
  | ((with_reducible refine mt_splitD ?_ ?_ ?_); (focus rfl); (focus (first | assumption | omega)))
  | ((with_reducible show Op _ (rIx _) (D.tup _) (D.int _) _); refine ix_tup (by decide) rfl ?_)
  | ((with_reducible show Op _ (rIx _) (D.lst _) (D.int _) _); refine ix_lst (by decide) rfl ?_)
  | ((with_reducible show Cb _ (rIsi _) [D.int _, D.ty _] _); first | refine isiI (r := true) (by decide +kernel) ?_ | refine isiI (r := false) (by decide +kernel) ?_)
  | ((with_reducible show Cb _ (rIsi _) [D.str _, D.ty _] _); first | refine isiS (r := true) (by decide +kernel) ?_ | refine isiS (r := false) (by decide +kernel) ?_)
  | ((with_reducible show Cb _ (rIsi _) [D.tup _, D.ty _] _); first | refine isiT (r := true) (by decide +kernel) ?_ | refine isiT (r := false) (by decide +kernel) ?_)
  | ((with_reducible show Wg _ (gTup _ _ _) _ _ _); refine wg_tup rfl rfl ?_)
  | ((with_reducible show Wgs _ gNil _ _ _); refine wgs_nil rfl ?_)
  | ((with_reducible show Wgs _ (gCons _ _) _ _ _); refine wgs_cons rfl ?_)
  | ((with_reducible show ∃ _, D.bl _ = D.bl _ ∧ _); refine ⟨_, rfl, ?_⟩)
  | ((with_reducible show ∃ _, D.int _ = D.int _ ∧ _); refine ⟨_, rfl, ?_⟩)
  | ((with_reducible show ∃ _, D.str _ = D.str _ ∧ _); refine ⟨_, rfl, ?_⟩)
  | ((with_reducible show ∃ _, D.tup _ = D.tup _ ∧ _); refine ⟨_, rfl, ?_⟩)
  | ((with_reducible show ∃ _, D.lst _ = D.lst _ ∧ _); refine ⟨_, rfl, ?_⟩)
  | with_reducible refine iteNT ?_
  | with_reducible refine iteNF ?_
  | ((with_reducible show if true = true then _ else _); rw [if_pos rfl])
  | ((with_reducible show if false = true then _ else _); rw [if_neg Bool.false_ne_true])
  | ((with_reducible show List.length _ ≤ 1000000 ∧ _); refine ⟨?_, ?_⟩; (focus (simp; done)))
  | fail "no step")
local macro_rules | `(tactic| walk_at "w") => `(tactic| repeat (walk_at "w1"))
local macro_rules | `(tactic| walk_at "ws") => `(tactic| repeat ((fail_if_success (with_reducible show We _ (tChain _ _ _ _ _) _ _ _)); (fail_if_success (with_reducible show Wt _ (tAnd _ _) _ _ _)); (fail_if_success (with_reducible show We _ (tOrT _ _ _) _ _ _)); walk_at "w1"))
theorem len_law : ∀ ds n P, R_law A ds n P → ds.length = 1 := by rintro ds n P ⟨_, rfl, -⟩; rfl
theorem w_law (T : TxtC K A) : ∀ ds n P, R_law A ds n P → Ws K (t_law K A) (startD 12 ds) n {nx := fun _ m => P .non m, rt := P} := by
  rintro ds n P ⟨ns, rfl, hns, rfl, h⟩
  unfold t_law
  walk_at "w1"
  refine ws_for (wi_enum ?_)
  walk_at "w"
  refine add_lst (by simp; omega) ?_
  walk_at "w"
  refine ⟨_, rfl, ?_⟩
  have hE : ∀ (i : Nat) (x : D), (enumD (cutD (List.map D.int ns ++ [D.int 0]) none (some 8)))[i]? = some x → i < 8 ∧ ∃ v : Int, x = .tup [.int (i : Nat), .int v] := by
    intro i x hx
    obtain ⟨y, hy, rfl⟩ := enumD_get' hx
    have hc : cutD (List.map D.int ns ++ [D.int 0]) none (some 8) = (List.map D.int ns ++ [D.int 0]).take (min 8 (List.map D.int ns ++ [D.int 0]).length) := by
      show ((List.map D.int ns ++ [D.int 0]).drop 0).take (HT.sIx _ _ (some ((8 : Nat) : Int)) - 0) = _
      rw [HT.sIx_nat]; rfl
    rw [hc] at hy
    have hl := (List.getElem?_eq_some_iff.mp hy).1
    rw [List.length_take] at hl
    refine ⟨by omega, ?_⟩
    have hm := List.mem_of_mem_take (List.mem_of_getElem? hy)
    rcases List.mem_append.mp hm with q | q
    · obtain ⟨v, _, rfl⟩ := List.mem_map.mp q
      exact ⟨v, rfl⟩
    · rw [List.mem_singleton.mp q]
      exact ⟨0, rfl⟩
  refine ⟨fun i ds' k => k ≤ 150 * i ∧ ∃ a1 a2 a3 a4 a5 a6 a7 a8 a9 a10 a11 : Option D, ds' = [some (.lst (ns.map D.int)), a1, a2, a3, a4, a5, a6, a7, a8, a9, a10, a11], ⟨by omega, _, _, _, _, _, _, _, _, _, _, _, rfl⟩, ?_, ?_⟩
  · rintro i z ds' k hz ⟨hk, a1, a2, a3, a4, a5, a6, a7, a8, a9, a10, a11, rfl⟩
    obtain ⟨hi, v, rfl⟩ := hE i z hz
    walk_at "w"
    refine ⟨v, _, rfl, by omega, by omega, fun s => ?_⟩
    walk_at "w1"
    walk_at "w1"
    refine ws_for (wi_range1 ?_)
    walk_at "w"
    refine ⟨2, rfl, by decide, fun i2 ds' k2 => k2 ≤ k + 50 * i2 ∧ ∃ a4 a5 a6 a7 a8 a9 a10 a11 : Option D, ds' = [some (.lst (ns.map D.int)), some (.int (i : Nat)), some (.int v), some (.strm s), a4, a5, a6, a7, a8, a9, a10, a11], ⟨by omega, _, _, _, _, _, _, _, _, rfl⟩, ?_, ?_⟩
    · rintro i2 z2 ds' k2 hz2 ⟨hk2, a4, a5, a6, a7, a8, a9, a10, a11, rfl⟩
      obtain ⟨hi2, rfl⟩ := rng_get' hz2
      have hi2' : i2 < 2 := hi2
      walk_at "w"
      refine ⟨s, 12, rfl, by decide, by decide, by omega, fun x m hx hm => ?_⟩
      have hx' : x.length ≤ 12 := hx
      have hm' : m ≤ k2 + 1 + 12 := hm
      walk_at "w"
      refine ws_for (wi_range1 ?_)
      walk_at "w"
      refine ⟨2, rfl, by decide, fun i3 ds' k3 => k3 ≤ m + 10 * i3 ∧ ∃ x : Str, x.length ≤ 12 + 4 * i3 ∧ ∃ a4 a6 a7 a8 a9 a10 a11 : Option D, ds' = [some (.lst (ns.map D.int)), some (.int (i : Nat)), some (.int v), some (.strm s), a4, some (.str x), a6, a7, a8, a9, a10, a11], ⟨by omega, x, by omega, _, _, _, _, _, _, _, rfl⟩, ?_, ?_⟩
      · rintro i3 z3 ds' k3 hz3 ⟨hk3, x, hx3, a4, a6, a7, a8, a9, a10, a11, rfl⟩
        obtain ⟨hi3, rfl⟩ := rng_get' hz3
        have hi3' : i3 < 2 := hi3
        walk_at "w"
        refine ⟨s, x, rfl, by omega, by omega, fun i j y m4 h1 h2 h3 h4 => ?_⟩
        have hx := len_tl x
        walk_at "w"
        refine ⟨x, i, rfl, by omega, by omega, ?_⟩
        walk_at "w"
        refine ⟨x, j, rfl, by omega, by omega, ?_⟩
        walk_at "w"
        refine ⟨_, _, y, rfl, bt_nn _ _, bt_nn _ _, bt_nlt h1, by omega, ?_⟩
        walk_at "w"
        refine ⟨Mx.beh (0, 0) ((tl x).take i), Mx.beh (0, 0) ((tl x).take j), y, Mx.beh (Mx.beh (0, 0) ((tl x).take i)) (tl y), rfl, ⟨bt_nn _ _, bt_nn _ _, Mx.nn_beh _ (bt_nn _ _), bt_nlt h1, Mx.nlt_beh (bt_nn _ _) _⟩, ?_⟩
        walk_at "w"
        refine ⟨x, y, i, j, rfl, h1, h2, by omega, by omega, ?_⟩
        walk_at "w"
        refine ⟨x, y, i, j, rfl, h1, h2, by omega, by omega, ?_⟩
        walk_at "w"
        refine iteF rfl ?_
        walk_at "w"
        refine ⟨by omega, mk (NN (tl x) (tl y) i j), ?_, _, _, _, _, _, _, _, rfl⟩
        rw [mk_len, NN_len h1 (by omega), ← len_tl, ← len_tl]
        omega
      · rintro ds' k3 ⟨hk3, x, hx3, a4, a6, a7, a8, a9, a10, a11, rfl⟩
        have hk3' : k3 ≤ m + 10 * 2 := hk3
        exact ⟨by omega, _, _, _, _, _, _, _, _, rfl⟩
    · rintro ds' k2 ⟨hk2, a4, a5, a6, a7, a8, a9, a10, a11, rfl⟩
      have hk2' : k2 ≤ k + 50 * 2 := hk2
      walk_at "w"
      refine we_lc (wi_range1 ?_)
      walk_at "w"
      refine ⟨2, rfl, by decide, fun i ys k => k = k2 + 2 * i ∧ ∃ ps : List Mx.Pt, ys = ps.map P2 ∧ ps.length = i ∧ ∀ p ∈ ps, Mx.nn p, ⟨rfl, [], rfl, rfl, by simp⟩, ?_, ?_⟩
      · rintro i x ys k hx ⟨rfl, ps, rfl, rfl, hp⟩
        obtain ⟨hi, rfl⟩ := rng_get' hx
        have hi' : ps.length < 2 := hi
        refine wgc_name (by simp) ?_
        walk_at "w"
        refine ⟨s, _, rfl, by decide, by decide, by omega, fun r r0 r1 => ?_⟩
        walk_at "w"
        refine ⟨s, _, rfl, by decide, by decide, by omega, fun r' r0' r1' => ?_⟩
        walk_at "w"
        refine ⟨by rw [List.length_map]; omega, by omega, ps ++ [(r, r')], by simp, by simp, fun p hq => ?_⟩
        rcases List.mem_append.mp hq with z | z
        · exact hp p z
        · rw [List.mem_singleton.mp z]; exact ⟨r0, r0'⟩
      · rintro ys k ⟨rfl, ps, rfl, hl, hp⟩
        have hl' : ps.length = 2 := hl
        obtain ⟨p, q, rfl⟩ : ∃ p q, ps = [p, q] := by
          match ps, hl' with
          | [p, q], _ => exact ⟨p, q, rfl⟩
        have np := hp p (by simp)
        have nq := hp q (by simp)
        rw [rng_len, show Int.toNat 2 = 2 from rfl] at *
        walk_at "w"
        refine min_pos fun lo hlo => ?_
        walk_at "w"
        refine max_pos fun hi' hhi hp1 hp2 => ?_
        walk_at "w"
        refine ⟨s, 4, rfl, by decide, by decide, by omega, fun y m hy hm => ?_⟩
        have hy' : y.length ≤ 4 := hy
        have hm' : m ≤ k2 + 2 * 2 + 1 + 4 := hm
        have nlo : Mx.nn lo := by rcases hlo with rfl | rfl <;> assumption
        have nhi : Mx.nn hi' := by rcases hhi with rfl | rfl <;> assumption
        have hlh : ¬ Mx.lt hi' lo := by rcases hlo with rfl | rfl <;> assumption
        walk_at "w"
        refine ⟨lo, hi', y, rfl, nlo, nhi, hlh, by omega, ?_⟩
        walk_at "w"
        refine ⟨lo, hi', y, bb lo y, rfl, ⟨nlo, nhi, Mx.nn_beh _ nlo, hlh, Mx.nlt_beh nlo _⟩, ?_⟩
        walk_at "w"
        exact ⟨by omega, _, _, _, _, _, _, _, _, _, _, _, rfl⟩
  · rintro ds' k ⟨hk, a1, a2, a3, a4, a5, a6, a7, a8, a9, a10, a11, rfl⟩
    walk_at "w"
    exact h k
end
end Lw

namespace Lw
open PySem L2 StX DL
open PyProof.Rows (envOfC)
def top (i : Nat) : Stmt := PySem.Challenge.pw_mapstack_k06_whole_there_and_back.main.body.getD i (.Pass ⟨0, 0, 0, 0⟩)
abbrev s_is_integer : Stmt := top 9
abbrev s_check_text : Stmt := top 15
abbrev s_added : Stmt := top 20
abbrev s_moved : Stmt := top 26
abbrev s_Edit_low : Stmt := inClass (top 30) 1
abbrev s_Edit_high : Stmt := inClass (top 30) 2
abbrev s_Edit_fresh : Stmt := inClass (top 30) 3
abbrev s_Edit_new_high : Stmt := inClass (top 30) 4
abbrev s__law_mixed : Stmt := top 32
abbrev s__law_place : Stmt := top 37
abbrev s__law_grid : Stmt := top 38
abbrev s_is_count : Stmt := top 10
abbrev s_lines_of : Stmt := top 18
abbrev s_extent_of : Stmt := top 19
abbrev s__led : Stmt := top 28
abbrev s__law_stream : Stmt := top 33
abbrev s__law_draw : Stmt := top 34
abbrev s_is_up_to : Stmt := top 11
abbrev s_is_place : Stmt := top 12
abbrev s_check_count : Stmt := top 13
abbrev s__law_pick : Stmt := top 35
abbrev s_check_up_to : Stmt := top 14
abbrev s_check_span : Stmt := top 16
abbrev s_behind : Stmt := top 21
abbrev s_has_place : Stmt := top 22
abbrev s_Edit_forward : Stmt := inClass (top 30) 6
abbrev s_Edit_back : Stmt := inClass (top 30) 7
abbrev s__law_signs : Stmt := top 36
abbrev s_index_of : Stmt := top 23
abbrev s_place_of : Stmt := top 24
abbrev s_Edit_init : Stmt := inClass (top 30) 0
abbrev s__law_cut : Stmt := top 39
abbrev s__law_moves_right : Stmt := top 40
abbrev s_part_of : Stmt := top 25
abbrev s_Edit_call : Stmt := inClass (top 30) 8
abbrev s_Edit_opposite : Stmt := inClass (top 30) 9
abbrev s__law_signs_right : Stmt := top 41
abbrev s__law_opposite_right : Stmt := top 42
abbrev s_law : Stmt := top 43
structure Fd where
  d_is_integer : FuncData
  d_check_text : FuncData
  d_added : FuncData
  d_moved : FuncData
  d_Edit_low : FuncData
  d_Edit_high : FuncData
  d_Edit_fresh : FuncData
  d_Edit_new_high : FuncData
  d__law_mixed : FuncData
  d__law_place : FuncData
  d__law_grid : FuncData
  d_is_count : FuncData
  d_lines_of : FuncData
  d_extent_of : FuncData
  d__led : FuncData
  d__law_stream : FuncData
  d__law_draw : FuncData
  d_is_up_to : FuncData
  d_is_place : FuncData
  d_check_count : FuncData
  d__law_pick : FuncData
  d_check_up_to : FuncData
  d_check_span : FuncData
  d_behind : FuncData
  d_has_place : FuncData
  d_Edit_forward : FuncData
  d_Edit_back : FuncData
  d__law_signs : FuncData
  d_index_of : FuncData
  d_place_of : FuncData
  d_Edit_init : FuncData
  d__law_cut : FuncData
  d__law_moves_right : FuncData
  d_part_of : FuncData
  d_Edit_call : FuncData
  d_Edit_opposite : FuncData
  d__law_signs_right : FuncData
  d__law_opposite_right : FuncData
  d_law : FuncData
abbrev N_is_integer : List Str := ["value"]
theorem sc_is_integer : FnScope N_is_integer ["value"] (defScope s_is_integer) := ⟨rfl, rfl, rfl, by decide +kernel, rfl, by decide +kernel, by decide +kernel⟩
abbrev N_check_text : List Str := ["value"]
theorem sc_check_text : FnScope N_check_text ["value"] (defScope s_check_text) := ⟨rfl, rfl, rfl, by decide +kernel, rfl, by decide +kernel, by decide +kernel⟩
abbrev N_added : List Str := ["one", "other"]
theorem sc_added : FnScope N_added ["one", "other"] (defScope s_added) := ⟨rfl, rfl, rfl, by decide +kernel, rfl, by decide +kernel, by decide +kernel⟩
abbrev N_moved : List Str := ["place", "old", "new", "line", "column"]
theorem sc_moved : FnScope N_moved ["place", "old", "new"] (defScope s_moved) := ⟨rfl, rfl, rfl, by decide +kernel, rfl, by decide +kernel, by decide +kernel⟩
abbrev N_Edit_low : List Str := ["self"]
theorem sc_Edit_low : FnScope N_Edit_low ["self"] (defScope s_Edit_low) := ⟨rfl, rfl, rfl, by decide +kernel, rfl, by decide +kernel, by decide +kernel⟩
abbrev N_Edit_high : List Str := ["self"]
theorem sc_Edit_high : FnScope N_Edit_high ["self"] (defScope s_Edit_high) := ⟨rfl, rfl, rfl, by decide +kernel, rfl, by decide +kernel, by decide +kernel⟩
abbrev N_Edit_fresh : List Str := ["self"]
theorem sc_Edit_fresh : FnScope N_Edit_fresh ["self"] (defScope s_Edit_fresh) := ⟨rfl, rfl, rfl, by decide +kernel, rfl, by decide +kernel, by decide +kernel⟩
abbrev N_Edit_new_high : List Str := ["self"]
theorem sc_Edit_new_high : FnScope N_Edit_new_high ["self"] (defScope s_Edit_new_high) := ⟨rfl, rfl, rfl, by decide +kernel, rfl, by decide +kernel, by decide +kernel⟩
abbrev N__law_mixed : List Str := ["number", "k"]
theorem sc__law_mixed : FnScope N__law_mixed ["number", "k"] (defScope s__law_mixed) := ⟨rfl, rfl, rfl, by decide +kernel, rfl, by decide +kernel, by decide +kernel⟩
abbrev N__law_place : List Str := ["signs", "at", "front"]
theorem sc__law_place : FnScope N__law_place ["signs", "at"] (defScope s__law_place) := ⟨rfl, rfl, rfl, by decide +kernel, rfl, by decide +kernel, by decide +kernel⟩
abbrev N__law_grid : List Str := ["rows", "size", "found", "row", "far"]
theorem sc__law_grid : FnScope N__law_grid ["rows", "size"] (defScope s__law_grid) := ⟨rfl, rfl, rfl, by decide +kernel, rfl, by decide +kernel, by decide +kernel⟩
abbrev N_is_count : List Str := ["value"]
theorem sc_is_count : FnScope N_is_count ["value"] (defScope s_is_count) := ⟨rfl, rfl, rfl, by decide +kernel, rfl, by decide +kernel, by decide +kernel⟩
abbrev N_lines_of : List Str := ["text"]
theorem sc_lines_of : FnScope N_lines_of ["text"] (defScope s_lines_of) := ⟨rfl, rfl, rfl, by decide +kernel, rfl, by decide +kernel, by decide +kernel⟩
abbrev N_extent_of : List Str := ["text"]
theorem sc_extent_of : FnScope N_extent_of ["text"] (defScope s_extent_of) := ⟨rfl, rfl, rfl, by decide +kernel, rfl, by decide +kernel, by decide +kernel⟩
abbrev N__led : List Str := ["place", "low", "high", "new_high"]
theorem sc__led : FnScope N__led ["place", "low", "high", "new_high"] (defScope s__led) := ⟨rfl, rfl, rfl, by decide +kernel, rfl, by decide +kernel, by decide +kernel⟩
abbrev N__law_stream : List Str := ["item", "k"]
theorem sc__law_stream : FnScope N__law_stream ["item", "k"] (defScope s__law_stream) := ⟨rfl, rfl, rfl, by decide +kernel, rfl, by decide +kernel, by decide +kernel⟩
abbrev N__law_draw : List Str := ["stream", "top", "number"]
theorem sc__law_draw : FnScope N__law_draw ["stream", "top"] (defScope s__law_draw) := ⟨rfl, rfl, rfl, by decide +kernel, rfl, by decide +kernel, by decide +kernel⟩
abbrev N_is_up_to : List Str := ["value", "limit"]
theorem sc_is_up_to : FnScope N_is_up_to ["value", "limit"] (defScope s_is_up_to) := ⟨rfl, rfl, rfl, by decide +kernel, rfl, by decide +kernel, by decide +kernel⟩
abbrev N_is_place : List Str := ["value"]
theorem sc_is_place : FnScope N_is_place ["value"] (defScope s_is_place) := ⟨rfl, rfl, rfl, by decide +kernel, rfl, by decide +kernel, by decide +kernel⟩
abbrev N_check_count : List Str := ["value"]
theorem sc_check_count : FnScope N_check_count ["value"] (defScope s_check_count) := ⟨rfl, rfl, rfl, by decide +kernel, rfl, by decide +kernel, by decide +kernel⟩
abbrev N__law_pick : List Str := ["stream", "some"]
theorem sc__law_pick : FnScope N__law_pick ["stream", "some"] (defScope s__law_pick) := ⟨rfl, rfl, rfl, by decide +kernel, rfl, by decide +kernel, by decide +kernel⟩
abbrev N_check_up_to : List Str := ["value", "limit"]
theorem sc_check_up_to : FnScope N_check_up_to ["value", "limit"] (defScope s_check_up_to) := ⟨rfl, rfl, rfl, by decide +kernel, rfl, by decide +kernel, by decide +kernel⟩
abbrev N_check_span : List Str := ["low", "high"]
theorem sc_check_span : FnScope N_check_span ["low", "high"] (defScope s_check_span) := ⟨rfl, rfl, rfl, by decide +kernel, rfl, by decide +kernel, by decide +kernel⟩
abbrev N_behind : List Str := ["line", "column", "text"]
theorem sc_behind : FnScope N_behind ["line", "column", "text"] (defScope s_behind) := ⟨rfl, rfl, rfl, by decide +kernel, rfl, by decide +kernel, by decide +kernel⟩
abbrev N_has_place : List Str := ["text", "line", "column", "lines"]
theorem sc_has_place : FnScope N_has_place ["text", "line", "column"] (defScope s_has_place) := ⟨rfl, rfl, rfl, by decide +kernel, rfl, by decide +kernel, by decide +kernel⟩
abbrev N_Edit_forward : List Str := ["self", "line", "column"]
theorem sc_Edit_forward : FnScope N_Edit_forward ["self", "line", "column"] (defScope s_Edit_forward) := ⟨rfl, rfl, rfl, by decide +kernel, rfl, by decide +kernel, by decide +kernel⟩
abbrev N_Edit_back : List Str := ["self", "line", "column"]
theorem sc_Edit_back : FnScope N_Edit_back ["self", "line", "column"] (defScope s_Edit_back) := ⟨rfl, rfl, rfl, by decide +kernel, rfl, by decide +kernel, by decide +kernel⟩
abbrev N__law_signs : List Str := ["stream", "most", "many", "turn"]
theorem sc__law_signs : FnScope N__law_signs ["stream", "most"] (defScope s__law_signs) := ⟨rfl, rfl, rfl, by decide +kernel, rfl, by decide +kernel, by decide +kernel⟩
abbrev N_index_of : List Str := ["text", "line", "column", "lines", "row"]
theorem sc_index_of : FnScope N_index_of ["text", "line", "column"] (defScope s_index_of) := ⟨rfl, rfl, rfl, by decide +kernel, rfl, by decide +kernel, by decide +kernel⟩
abbrev N_place_of : List Str := ["text", "index"]
theorem sc_place_of : FnScope N_place_of ["text", "index"] (defScope s_place_of) := ⟨rfl, rfl, rfl, by decide +kernel, rfl, by decide +kernel, by decide +kernel⟩
abbrev N_Edit_init : List Str := ["self", "low", "high", "fresh"]
theorem sc_Edit_init : FnScope N_Edit_init ["self", "low", "high", "fresh"] (defScope s_Edit_init) := ⟨rfl, rfl, rfl, by decide +kernel, rfl, by decide +kernel, by decide +kernel⟩
abbrev N__law_cut : List Str := ["stream", "signs", "first", "last"]
theorem sc__law_cut : FnScope N__law_cut ["stream", "signs"] (defScope s__law_cut) := ⟨rfl, rfl, rfl, by decide +kernel, rfl, by decide +kernel, by decide +kernel⟩
abbrev N__law_moves_right : List Str := ["edit", "last", "back_last", "spot", "gone", "came"]
theorem sc__law_moves_right : FnScope N__law_moves_right ["edit"] (defScope s__law_moves_right) := ⟨rfl, rfl, rfl, by decide +kernel, rfl, by decide +kernel, by decide +kernel⟩
abbrev N_part_of : List Str := ["text", "low", "high", "first"]
theorem sc_part_of : FnScope N_part_of ["text", "low", "high"] (defScope s_part_of) := ⟨rfl, rfl, rfl, by decide +kernel, rfl, by decide +kernel, by decide +kernel⟩
abbrev N_Edit_call : List Str := ["self", "text", "first", "after"]
theorem sc_Edit_call : FnScope N_Edit_call ["self", "text"] (defScope s_Edit_call) := ⟨rfl, rfl, rfl, by decide +kernel, rfl, by decide +kernel, by decide +kernel⟩
abbrev N_Edit_opposite : List Str := ["self", "text"]
theorem sc_Edit_opposite : FnScope N_Edit_opposite ["self", "text"] (defScope s_Edit_opposite) := ⟨rfl, rfl, rfl, by decide +kernel, rfl, by decide +kernel, by decide +kernel⟩
abbrev N__law_signs_right : List Str := ["signs", "edit", "told", "seen", "at", "spot", "gone", "index_so", "rest"]
theorem sc__law_signs_right : FnScope N__law_signs_right ["signs", "edit"] (defScope s__law_signs_right) := ⟨rfl, rfl, rfl, by decide +kernel, rfl, by decide +kernel, by decide +kernel⟩
abbrev N__law_opposite_right : List Str := ["signs", "edit", "opposite", "spot"]
theorem sc__law_opposite_right : FnScope N__law_opposite_right ["signs", "edit"] (defScope s__law_opposite_right) := ⟨rfl, rfl, rfl, by decide +kernel, rfl, by decide +kernel, by decide +kernel⟩
abbrev N_law : List Str := ["script", "k", "item", "stream", "turn", "signs", "once", "first", "last", "more", "edit", "some"]
theorem sc_law : FnScope N_law ["script"] (defScope s_law) := ⟨rfl, rfl, rfl, by decide +kernel, rfl, by decide +kernel, by decide +kernel⟩
structure Txt (K : PySem.W.Frag) (mg : Str → Option Value) (A : Ad) (B : Fd) : Prop where
  f_is_integer : Fun K "is_integer" "is_integer" s_is_integer A.a_is_integer B.d_is_integer
  b_is_integer : Binds K B.d_is_integer ["value"] []
  f_check_text : Fun K "check_text" "check_text" s_check_text A.a_check_text B.d_check_text
  b_check_text : Binds K B.d_check_text ["value"] []
  f_added : Fun K "added" "added" s_added A.a_added B.d_added
  b_added : Binds K B.d_added ["one", "other"] []
  f_moved : Fun K "moved" "moved" s_moved A.a_moved B.d_moved
  b_moved : Binds K B.d_moved ["place", "old", "new"] []
  f_Edit_low : Fun K "low" "Edit.low" s_Edit_low A.a_Edit_low B.d_Edit_low
  b_Edit_low : Binds K B.d_Edit_low ["self"] []
  f_Edit_high : Fun K "high" "Edit.high" s_Edit_high A.a_Edit_high B.d_Edit_high
  b_Edit_high : Binds K B.d_Edit_high ["self"] []
  f_Edit_fresh : Fun K "fresh" "Edit.fresh" s_Edit_fresh A.a_Edit_fresh B.d_Edit_fresh
  b_Edit_fresh : Binds K B.d_Edit_fresh ["self"] []
  f_Edit_new_high : Fun K "new_high" "Edit.new_high" s_Edit_new_high A.a_Edit_new_high B.d_Edit_new_high
  b_Edit_new_high : Binds K B.d_Edit_new_high ["self"] []
  f__law_mixed : Fun K "_law_mixed" "_law_mixed" s__law_mixed A.a__law_mixed B.d__law_mixed
  b__law_mixed : Binds K B.d__law_mixed ["number", "k"] []
  f__law_place : Fun K "_law_place" "_law_place" s__law_place A.a__law_place B.d__law_place
  b__law_place : Binds K B.d__law_place ["signs", "at"] []
  f__law_grid : Fun K "_law_grid" "_law_grid" s__law_grid A.a__law_grid B.d__law_grid
  b__law_grid : Binds K B.d__law_grid ["rows", "size"] []
  f_is_count : Fun K "is_count" "is_count" s_is_count A.a_is_count B.d_is_count
  b_is_count : Binds K B.d_is_count ["value"] []
  f_lines_of : Fun K "lines_of" "lines_of" s_lines_of A.a_lines_of B.d_lines_of
  b_lines_of : Binds K B.d_lines_of ["text"] []
  f_extent_of : Fun K "extent_of" "extent_of" s_extent_of A.a_extent_of B.d_extent_of
  b_extent_of : Binds K B.d_extent_of ["text"] []
  f__led : Fun K "_led" "_led" s__led A.a__led B.d__led
  b__led : Binds K B.d__led ["place", "low", "high", "new_high"] []
  f__law_stream : Fun K "_law_stream" "_law_stream" s__law_stream A.a__law_stream B.d__law_stream
  b__law_stream : Binds K B.d__law_stream ["item", "k"] []
  f__law_draw : Fun K "_law_draw" "_law_draw" s__law_draw A.a__law_draw B.d__law_draw
  b__law_draw : Binds K B.d__law_draw ["stream", "top"] []
  f_is_up_to : Fun K "is_up_to" "is_up_to" s_is_up_to A.a_is_up_to B.d_is_up_to
  b_is_up_to : Binds K B.d_is_up_to ["value", "limit"] []
  f_is_place : Fun K "is_place" "is_place" s_is_place A.a_is_place B.d_is_place
  b_is_place : Binds K B.d_is_place ["value"] []
  f_check_count : Fun K "check_count" "check_count" s_check_count A.a_check_count B.d_check_count
  b_check_count : Binds K B.d_check_count ["value"] []
  f__law_pick : Fun K "_law_pick" "_law_pick" s__law_pick A.a__law_pick B.d__law_pick
  b__law_pick : Binds K B.d__law_pick ["stream", "some"] []
  f_check_up_to : Fun K "check_up_to" "check_up_to" s_check_up_to A.a_check_up_to B.d_check_up_to
  b_check_up_to : Binds K B.d_check_up_to ["value", "limit"] []
  f_check_span : Fun K "check_span" "check_span" s_check_span A.a_check_span B.d_check_span
  b_check_span : Binds K B.d_check_span ["low", "high"] []
  f_behind : Fun K "behind" "behind" s_behind A.a_behind B.d_behind
  b_behind : Binds K B.d_behind ["line", "column", "text"] []
  f_has_place : Fun K "has_place" "has_place" s_has_place A.a_has_place B.d_has_place
  b_has_place : Binds K B.d_has_place ["text", "line", "column"] []
  f_Edit_forward : Fun K "forward" "Edit.forward" s_Edit_forward A.a_Edit_forward B.d_Edit_forward
  b_Edit_forward : Binds K B.d_Edit_forward ["self", "line", "column"] []
  f_Edit_back : Fun K "back" "Edit.back" s_Edit_back A.a_Edit_back B.d_Edit_back
  b_Edit_back : Binds K B.d_Edit_back ["self", "line", "column"] []
  f__law_signs : Fun K "_law_signs" "_law_signs" s__law_signs A.a__law_signs B.d__law_signs
  b__law_signs : Binds K B.d__law_signs ["stream", "most"] []
  f_index_of : Fun K "index_of" "index_of" s_index_of A.a_index_of B.d_index_of
  b_index_of : Binds K B.d_index_of ["text", "line", "column"] []
  f_place_of : Fun K "place_of" "place_of" s_place_of A.a_place_of B.d_place_of
  b_place_of : Binds K B.d_place_of ["text", "index"] []
  f_Edit_init : Fun K "__init__" "Edit.__init__" s_Edit_init A.a_Edit_init B.d_Edit_init
  b_Edit_init : Binds K B.d_Edit_init ["self", "low", "high", "fresh"] []
  f__law_cut : Fun K "_law_cut" "_law_cut" s__law_cut A.a__law_cut B.d__law_cut
  b__law_cut : Binds K B.d__law_cut ["stream", "signs"] []
  f__law_moves_right : Fun K "_law_moves_right" "_law_moves_right" s__law_moves_right A.a__law_moves_right B.d__law_moves_right
  b__law_moves_right : Binds K B.d__law_moves_right ["edit"] []
  f_part_of : Fun K "part_of" "part_of" s_part_of A.a_part_of B.d_part_of
  b_part_of : Binds K B.d_part_of ["text", "low", "high"] []
  f_Edit_call : Fun K "__call__" "Edit.__call__" s_Edit_call A.a_Edit_call B.d_Edit_call
  b_Edit_call : Binds K B.d_Edit_call ["self", "text"] []
  f_Edit_opposite : Fun K "opposite" "Edit.opposite" s_Edit_opposite A.a_Edit_opposite B.d_Edit_opposite
  b_Edit_opposite : Binds K B.d_Edit_opposite ["self", "text"] []
  f__law_signs_right : Fun K "_law_signs_right" "_law_signs_right" s__law_signs_right A.a__law_signs_right B.d__law_signs_right
  b__law_signs_right : Binds K B.d__law_signs_right ["signs", "edit"] []
  f__law_opposite_right : Fun K "_law_opposite_right" "_law_opposite_right" s__law_opposite_right A.a__law_opposite_right B.d__law_opposite_right
  b__law_opposite_right : Binds K B.d__law_opposite_right ["signs", "edit"] []
  f_law : Fun K "law" "law" s_law A.a_law B.d_law
  b_law : Binds K B.d_law ["script"] []
  co_Edit : CallO K A.c_Edit A.a_Edit_call
  g__law_cut : mg "_law_cut" = some (.ref A.a__law_cut)
  g__law_draw : mg "_law_draw" = some (.ref A.a__law_draw)
  g__law_grid : mg "_law_grid" = some (.ref A.a__law_grid)
  g__law_mixed : mg "_law_mixed" = some (.ref A.a__law_mixed)
  g__law_moves_right : mg "_law_moves_right" = some (.ref A.a__law_moves_right)
  g__law_opposite_right : mg "_law_opposite_right" = some (.ref A.a__law_opposite_right)
  g__law_pick : mg "_law_pick" = some (.ref A.a__law_pick)
  g__law_place : mg "_law_place" = some (.ref A.a__law_place)
  g__law_signs : mg "_law_signs" = some (.ref A.a__law_signs)
  g__law_signs_right : mg "_law_signs_right" = some (.ref A.a__law_signs_right)
  g__law_stream : mg "_law_stream" = some (.ref A.a__law_stream)
  g__led : mg "_led" = some (.ref A.a__led)
  g_added : mg "added" = some (.ref A.a_added)
  g_behind : mg "behind" = some (.ref A.a_behind)
  g_check_count : mg "check_count" = some (.ref A.a_check_count)
  g_check_span : mg "check_span" = some (.ref A.a_check_span)
  g_check_text : mg "check_text" = some (.ref A.a_check_text)
  g_check_up_to : mg "check_up_to" = some (.ref A.a_check_up_to)
  g_extent_of : mg "extent_of" = some (.ref A.a_extent_of)
  g_has_place : mg "has_place" = some (.ref A.a_has_place)
  g_index_of : mg "index_of" = some (.ref A.a_index_of)
  g_is_count : mg "is_count" = some (.ref A.a_is_count)
  g_is_integer : mg "is_integer" = some (.ref A.a_is_integer)
  g_is_place : mg "is_place" = some (.ref A.a_is_place)
  g_is_up_to : mg "is_up_to" = some (.ref A.a_is_up_to)
  g_lines_of : mg "lines_of" = some (.ref A.a_lines_of)
  g_moved : mg "moved" = some (.ref A.a_moved)
  g_part_of : mg "part_of" = some (.ref A.a_part_of)
  g_place_of : mg "place_of" = some (.ref A.a_place_of)
  gc_Edit : mg "Edit" = some (.ref A.c_Edit)
  me_Edit_back : Meth K A.c_Edit "back" A.a_Edit_back
  me_Edit_forward : Meth K A.c_Edit "forward" A.a_Edit_forward
  me_Edit_opposite : Meth K A.c_Edit "opposite" A.a_Edit_opposite
  mk_Edit : Mk K A.c_Edit A.a_Edit_init
  n_bool : mg "bool" = none
  n_enumerate : mg "enumerate" = none
  n_int : mg "int" = none
  n_isinstance : mg "isinstance" = none
  n_len : mg "len" = none
  n_list : mg "list" = none
  n_max : mg "max" = none
  n_min : mg "min" = none
  n_range : mg "range" = none
  n_str : mg "str" = none
  n_sum : mg "sum" = none
  n_tuple : mg "tuple" = none
  pr_Edit_fresh : PropOf K A.c_Edit "fresh" A.p_Edit_fresh A.a_Edit_fresh
  pr_Edit_high : PropOf K A.c_Edit "high" A.p_Edit_high A.a_Edit_high
  pr_Edit_low : PropOf K A.c_Edit "low" A.p_Edit_low A.a_Edit_low
  pr_Edit_new_high : PropOf K A.c_Edit "new_high" A.p_Edit_new_high A.a_Edit_new_high
  tc : TxtC K A
section
variable {Pr : Program} {w : World} {K : PySem.W.Frag} {mg : Str → Option Value} {base : Heap} {A : Ad} {B : Fd}
theorem tm_is_integer (T : Txt K mg A B)  {f : Addr} {cdv : Value} {Ar : Around} {outer : List Env} {s : Shared} {H : Hp} {E : XK} (hr : Room 0 (Ar.deeper (envOfC "is_integer" (defScope s_is_integer) s.heap.objs.size f cdv))) :
    PSs (cxOf CX0 Pr w K mg base N_is_integer "is_integer" (defScope s_is_integer) f cdv Ar outer s H E).nox (defBody s_is_integer) (t_is_integer K A) :=
  (pss_one (ps_ret (pe_and (pe_callB call_isi (by rfl) T.n_isinstance (by decide +kernel) (pa_cons (pv 0) (pa_cons (pe_bltn (v := .ty "int") (by rfl) T.n_int (by decide +kernel) rfl) pa_nil))) (pe_one (pe_not (pe_callB call_isi (by rfl) T.n_isinstance (by decide +kernel) (pa_cons (pv 0) (pa_cons (pe_bltn (v := .ty "bool") (by rfl) T.n_bool (by decide +kernel) rfl) pa_nil))))))))
theorem tm_check_text (T : Txt K mg A B)  {f : Addr} {cdv : Value} {Ar : Around} {outer : List Env} {s : Shared} {H : Hp} {E : XK} (hr : Room 0 (Ar.deeper (envOfC "check_text" (defScope s_check_text) s.heap.objs.size f cdv))) :
    PSs (cxOf CX0 Pr w K mg base N_check_text "check_text" (defScope s_check_text) f cdv Ar outer s H E).nox (defBody s_check_text) (t_check_text K A) :=
  (pss_one (ps_if (pt_not (pt_val (pe_callB call_isi (by rfl) T.n_isinstance (by decide +kernel) (pa_cons (pv 0) (pa_cons (pe_bltn (v := .ty "str") (by rfl) T.n_str (by decide +kernel) rfl) pa_nil))))) pss_never pss_nil))
theorem tm_added (T : Txt K mg A B)  {f : Addr} {cdv : Value} {Ar : Around} {outer : List Env} {s : Shared} {H : Hp} {E : XK} (hr : Room 0 (Ar.deeper (envOfC "added" (defScope s_added) s.heap.objs.size f cdv))) :
    PSs (cxOf CX0 Pr w K mg base N_added "added" (defScope s_added) f cdv Ar outer s H E).nox (defBody s_added) (t_added K A) :=
  (pss_cons (ps_if (pt_cmpR (op_eqP hr.units) (pe_ix ix_seq (pv 1) pe_int (fun _ _ => rfl)) pe_int (nomark _)) (pss_one (ps_ret (pe_tup (pa_cons (pe_ix ix_seq (pv 0) pe_int (fun _ _ => rfl)) (pa_cons (pe_op op_addU (pe_ix ix_seq (pv 0) pe_int (fun _ _ => rfl)) (pe_ix ix_seq (pv 1) pe_int (fun _ _ => rfl))) pa_nil))))) pss_nil)
      (pss_one (ps_ret (pe_tup (pa_cons (pe_op op_addU (pe_ix ix_seq (pv 0) pe_int (fun _ _ => rfl)) (pe_ix ix_seq (pv 1) pe_int (fun _ _ => rfl))) (pa_cons (pe_ix ix_seq (pv 1) pe_int (fun _ _ => rfl)) pa_nil))))))
theorem tm_moved (T : Txt K mg A B)  {f : Addr} {cdv : Value} {Ar : Around} {outer : List Env} {s : Shared} {H : Hp} {E : XK} (hr : Room 0 (Ar.deeper (envOfC "moved" (defScope s_moved) s.heap.objs.size f cdv))) :
    PSs (cxOf CX0 Pr w K mg base N_moved "moved" (defScope s_moved) f cdv Ar outer s H E).nox (defBody s_moved) (t_moved K A) :=
  (pss_cons (ps_asg (pv 0) (pg_tup rfl (pgs_cons (pg_name (i := 3) sc_moved.nd rfl (Or.inl rfl)) (pgs_cons (pg_name (i := 4) sc_moved.nd rfl (Or.inl rfl)) pgs_nil))))
      (pss_cons (ps_if (pt_cmpR (op_eqP hr.units) (pv 3) (pe_ix ix_seq (pv 1) pe_int (fun _ _ => rfl)) (nomark _)) (pss_one (ps_ret (pe_tup (pa_cons (pe_ix ix_seq (pv 2) pe_int (fun _ _ => rfl)) (pa_cons (pe_op op_addU (pe_op op_sub (pv 4) (pe_ix ix_seq (pv 1) pe_int (fun _ _ => rfl))) (pe_ix ix_seq (pv 2) pe_int (fun _ _ => rfl))) pa_nil))))) pss_nil)
      (pss_one (ps_ret (pe_tup (pa_cons (pe_op op_addU (pe_op op_sub (pv 3) (pe_ix ix_seq (pv 1) pe_int (fun _ _ => rfl))) (pe_ix ix_seq (pv 2) pe_int (fun _ _ => rfl))) (pa_cons (pv 4) pa_nil)))))))
theorem tm_Edit_low (T : Txt K mg A B)  {f : Addr} {cdv : Value} {Ar : Around} {outer : List Env} {s : Shared} {H : Hp} {E : XK} (hr : Room 0 (Ar.deeper (envOfC "Edit.low" (defScope s_Edit_low) s.heap.objs.size f cdv))) :
    PSs (cxOf CX0 Pr w K mg base N_Edit_low "Edit.low" (defScope s_Edit_low) f cdv Ar outer s H E).nox (defBody s_Edit_low) (t_Edit_low K A) :=
  (pss_one (ps_ret (pe_fld (pv 0) rfl)))
theorem tm_Edit_high (T : Txt K mg A B)  {f : Addr} {cdv : Value} {Ar : Around} {outer : List Env} {s : Shared} {H : Hp} {E : XK} (hr : Room 0 (Ar.deeper (envOfC "Edit.high" (defScope s_Edit_high) s.heap.objs.size f cdv))) :
    PSs (cxOf CX0 Pr w K mg base N_Edit_high "Edit.high" (defScope s_Edit_high) f cdv Ar outer s H E).nox (defBody s_Edit_high) (t_Edit_high K A) :=
  (pss_one (ps_ret (pe_fld (pv 0) rfl)))
theorem tm_Edit_fresh (T : Txt K mg A B)  {f : Addr} {cdv : Value} {Ar : Around} {outer : List Env} {s : Shared} {H : Hp} {E : XK} (hr : Room 0 (Ar.deeper (envOfC "Edit.fresh" (defScope s_Edit_fresh) s.heap.objs.size f cdv))) :
    PSs (cxOf CX0 Pr w K mg base N_Edit_fresh "Edit.fresh" (defScope s_Edit_fresh) f cdv Ar outer s H E).nox (defBody s_Edit_fresh) (t_Edit_fresh K A) :=
  (pss_one (ps_ret (pe_fld (pv 0) rfl)))
theorem tm_Edit_new_high (T : Txt K mg A B)  {f : Addr} {cdv : Value} {Ar : Around} {outer : List Env} {s : Shared} {H : Hp} {E : XK} (hr : Room 0 (Ar.deeper (envOfC "Edit.new_high" (defScope s_Edit_new_high) s.heap.objs.size f cdv))) :
    PSs (cxOf CX0 Pr w K mg base N_Edit_new_high "Edit.new_high" (defScope s_Edit_new_high) f cdv Ar outer s H E).nox (defBody s_Edit_new_high) (t_Edit_new_high K A) :=
  (pss_one (ps_ret (pe_fld (pv 0) rfl)))
theorem tm__law_mixed (T : Txt K mg A B)  {f : Addr} {cdv : Value} {Ar : Around} {outer : List Env} {s : Shared} {H : Hp} {E : XK} (hr : Room 0 (Ar.deeper (envOfC "_law_mixed" (defScope s__law_mixed) s.heap.objs.size f cdv))) :
    PSs (cxOf CX0 Pr w K mg base N__law_mixed "_law_mixed" (defScope s__law_mixed) f cdv Ar outer s H E).nox (defBody s__law_mixed) (t__law_mixed K A) :=
  (pss_cons (ps_set (i := 0) sc__law_mixed.nd rfl (Or.inl rfl) (pe_op op_mod (pe_callTy call_int1 (by rfl) T.n_int (by decide +kernel) (pa_cons (pe_op op_mul (pe_op op_addU (pe_op op_addU (pe_op op_mod (pe_callTy call_int1 (by rfl) T.n_int (by decide +kernel) (pa_cons (pv 0) pa_nil)) pe_int) (pe_op op_mul (pe_op op_mul pe_int (pv 1)) (pv 1))) (pe_op op_mul pe_int (pv 1))) pe_int) pa_nil)) pe_int))
      (pss_one (ps_ret (pe_op op_mod (pe_callTy call_int1 (by rfl) T.n_int (by decide +kernel) (pa_cons (pe_op op_mul (pv 0) (pe_op op_addU pe_int (pe_op op_mul pe_int (pv 1)))) pa_nil)) pe_int))))
theorem tm__law_place (T : Txt K mg A B)  {f : Addr} {cdv : Value} {Ar : Around} {outer : List Env} {s : Shared} {H : Hp} {E : XK} (hr : Room 0 (Ar.deeper (envOfC "_law_place" (defScope s__law_place) s.heap.objs.size f cdv))) :
    PSs (cxOf CX0 Pr w K mg base N__law_place "_law_place" (defScope s__law_place) f cdv Ar outer s H E).nox (defBody s__law_place) (t__law_place K A) :=
  (pss_cons (ps_set (i := 2) sc__law_place.nd rfl (Or.inl rfl) (pe_slice sl_U (pv 0) po_none (po_some (pv 1))))
      (pss_one (ps_ret (pe_tup (pa_cons (pe_m1 PySem.F.slot_str_count PySem.F.type_str_count mt_count (pv 2) pe_str) (pa_cons (pe_op op_sub (pe_op op_sub (pe_callB call_len (by rfl) T.n_len (by decide +kernel) (pa_cons (pv 2) pa_nil)) pe_int) (pe_m1 PySem.F.slot_str_rfind PySem.F.type_str_rfind mt_rfind (pv 2) pe_str)) pa_nil))))))
theorem tm__law_grid (T : Txt K mg A B)  {f : Addr} {cdv : Value} {Ar : Around} {outer : List Env} {s : Shared} {H : Hp} {E : XK} (hr : Room 0 (Ar.deeper (envOfC "_law_grid" (defScope s__law_grid) s.heap.objs.size f cdv))) :
    PSs (cxOf CX0 Pr w K mg base N__law_grid "_law_grid" (defScope s__law_grid) f cdv Ar outer s H E).nox (defBody s__law_grid) (t__law_grid K A) :=
  (pss_cons (ps_set (i := 2) sc__law_grid.nd rfl (Or.inl rfl) (pe_lst pa_nil))
      (pss_cons (ps_for PassesOwn.never rfl (pi_list (pe_op op_addU (pe_listRg rfl rfl T.n_list (prg_1 rfl T.n_range (pv 0))) (pe_lst (pa_cons (pe_op op_pow pe_int pe_int) pa_nil)))) (pg_name (i := 3) sc__law_grid.nd rfl (Or.inr rfl)) (pss_one (ps_set (i := 2) sc__law_grid.nd rfl (Or.inl rfl) (pe_op op_addU (pv 2) (pe_lc (own := [("far", 4)]) rfl sc__law_grid.nd (pi_list (pe_op op_addU (pe_listRg rfl rfl T.n_list (prg_1 rfl T.n_range (pv 1))) (pe_lst (pa_cons pe_int (pa_cons (pe_op op_pow pe_int pe_int) pa_nil))))) (blkOk_by (own := [("far", 4)]) (N := N__law_grid) (sc := defScope s__law_grid) (by decide +kernel)) (fun _ _ _ _ _ => (pg_name (i := 4) sc__law_grid.nd rfl (Or.inl rfl))) (fun _ _ _ _ _ => pts_nil) (fun _ _ _ _ _ => (pe_tup (pa_cons (pv 3) (pa_cons (pv 4) pa_nil)))))))))
      (pss_one (ps_ret (pv 2)))))
theorem tm_is_count (T : Txt K mg A B) (G_is_integer : FnOk Pr w K mg base CX0 1 A.a_is_integer B.d_is_integer ["value"] (spD K (R_is_integer A))) {f : Addr} {cdv : Value} {Ar : Around} {outer : List Env} {s : Shared} {H : Hp} {E : XK} (hr : Room 1 (Ar.deeper (envOfC "is_count" (defScope s_is_count) s.heap.objs.size f cdv))) :
    PSs (cxOf CX0 Pr w K mg base N_is_count "is_count" (defScope s_is_count) f cdv Ar outer s H E).nox (defBody s_is_count) (t_is_count K A) :=
  (pss_one (ps_ret (pe_and (pe_call G_is_integer (hr.mono (by decide)) rfl T.g_is_integer T.f_is_integer.kp T.b_is_integer .nil pass0 (pa_cons (pv 0) pa_nil)) (pe_one (pe_cmpR (op_geP hr.units) (pv 0) pe_int (nomark _))))))
theorem tm_lines_of (T : Txt K mg A B) (G_check_text : FnOk Pr w K mg base CX0 1 A.a_check_text B.d_check_text ["value"] (spD K (R_check_text A))) {f : Addr} {cdv : Value} {Ar : Around} {outer : List Env} {s : Shared} {H : Hp} {E : XK} (hr : Room 1 (Ar.deeper (envOfC "lines_of" (defScope s_lines_of) s.heap.objs.size f cdv))) :
    PSs (cxOf CX0 Pr w K mg base N_lines_of "lines_of" (defScope s_lines_of) f cdv Ar outer s H E).nox (defBody s_lines_of) (t_lines_of K A) :=
  (pss_cons (ps_expr (pe_call G_check_text (hr.mono (by decide)) rfl T.g_check_text T.f_check_text.kp T.b_check_text .nil pass0 (pa_cons (pv 0) pa_nil)))
      (pss_one (ps_ret (pe_callTy call_tuple_of (by rfl) T.n_tuple (by decide +kernel) (pa_cons (pe_m1 PySem.F.slot_str_split PySem.F.type_str_split mt_split (pv 0) pe_str) pa_nil)))))
theorem tm_extent_of (T : Txt K mg A B) (G_check_text : FnOk Pr w K mg base CX0 1 A.a_check_text B.d_check_text ["value"] (spD K (R_check_text A))) {f : Addr} {cdv : Value} {Ar : Around} {outer : List Env} {s : Shared} {H : Hp} {E : XK} (hr : Room 1 (Ar.deeper (envOfC "extent_of" (defScope s_extent_of) s.heap.objs.size f cdv))) :
    PSs (cxOf CX0 Pr w K mg base N_extent_of "extent_of" (defScope s_extent_of) f cdv Ar outer s H E).nox (defBody s_extent_of) (t_extent_of K A) :=
  (pss_cons (ps_expr (pe_call G_check_text (hr.mono (by decide)) rfl T.g_check_text T.f_check_text.kp T.b_check_text .nil pass0 (pa_cons (pv 0) pa_nil)))
      (pss_one (ps_ret (pe_tup (pa_cons (pe_m1 PySem.F.slot_str_count PySem.F.type_str_count mt_count (pv 0) pe_str) (pa_cons (pe_op op_sub (pe_op op_sub (pe_callB call_len (by rfl) T.n_len (by decide +kernel) (pa_cons (pv 0) pa_nil)) (pe_m1 PySem.F.slot_str_rfind PySem.F.type_str_rfind mt_rfind (pv 0) pe_str)) pe_int) pa_nil))))))
theorem tm__led (T : Txt K mg A B) (G_moved : FnOk Pr w K mg base CX0 1 A.a_moved B.d_moved ["place", "old", "new"] (spD K (R_moved A))) {f : Addr} {cdv : Value} {Ar : Around} {outer : List Env} {s : Shared} {H : Hp} {E : XK} (hr : Room 1 (Ar.deeper (envOfC "_led" (defScope s__led) s.heap.objs.size f cdv))) :
    PSs (cxOf CX0 Pr w K mg base N__led "_led" (defScope s__led) f cdv Ar outer s H E).nox (defBody s__led) (t__led K A) :=
  (pss_cons (ps_if (pt_cmpR (op_ltP hr.units) (pv 0) (pv 1) (nomark _)) (pss_one (ps_ret (pv 0))) pss_nil)
      (pss_cons (ps_if (pt_cmpR (op_ltP hr.units) (pv 0) (pv 2) (nomark _)) (pss_one (ps_ret pe_non)) pss_nil)
      (pss_one (ps_ret (pe_call G_moved (hr.mono (by decide)) rfl T.g_moved T.f_moved.kp T.b_moved .nil pass0 (pa_cons (pv 0) (pa_cons (pv 2) (pa_cons (pv 3) pa_nil))))))))
theorem tm__law_stream (T : Txt K mg A B) (G__law_mixed : FnOk Pr w K mg base CX0 1 A.a__law_mixed B.d__law_mixed ["number", "k"] (spD K (R__law_mixed A))) {f : Addr} {cdv : Value} {Ar : Around} {outer : List Env} {s : Shared} {H : Hp} {E : XK} (hr : Room 1 (Ar.deeper (envOfC "_law_stream" (defScope s__law_stream) s.heap.objs.size f cdv))) :
    PSs (cxOf CX0 Pr w K mg base N__law_stream "_law_stream" (defScope s__law_stream) f cdv Ar outer s H E).nox (defBody s__law_stream) (t__law_stream K A) :=
  (pss_one (ps_ret (pe_lst (pa_cons (pe_ifExp (pt_cmpR (op_geP hr.units) (pv 0) (pe_op op_pow pe_int pe_int) (nomark _)) (pv 0) pe_int) (pa_cons pe_int (pa_cons (pe_call G__law_mixed (hr.mono (by decide)) rfl T.g__law_mixed T.f__law_mixed.kp T.b__law_mixed .nil pass0 (pa_cons (pv 0) (pa_cons (pv 1) pa_nil))) pa_nil))))))
theorem tm__law_draw (T : Txt K mg A B) (G__law_mixed : FnOk Pr w K mg base CX0 1 A.a__law_mixed B.d__law_mixed ["number", "k"] (spD K (R__law_mixed A))) {f : Addr} {cdv : Value} {Ar : Around} {outer : List Env} {s : Shared} {H : Hp} {E : XK} (hr : Room 1 (Ar.deeper (envOfC "_law_draw" (defScope s__law_draw) s.heap.objs.size f cdv))) :
    PSs (cxOf CX0 Pr w K mg base N__law_draw "_law_draw" (defScope s__law_draw) f cdv Ar outer s H E).nox (defBody s__law_draw) (t__law_draw K A) :=
  (pss_cons (ps_asg (pe_op op_addU (pe_ix ix_seq (pv 0) pe_int (fun _ _ => rfl)) pe_int) (pg_sub (pv 0) pe_int set_list))
      (pss_cons (ps_if (pt_cmpR (op_eqP hr.units) (pe_ix ix_seq (pv 0) pe_int (fun _ _ => rfl)) pe_int (nomark _)) (pss_one (ps_ret (pe_op op_mod (pe_callTy call_int1 (by rfl) T.n_int (by decide +kernel) (pa_cons (pe_call G__law_mixed (hr.mono (by decide)) rfl T.g__law_mixed T.f__law_mixed.kp T.b__law_mixed .nil pass0 (pa_cons (pe_call G__law_mixed (hr.mono (by decide)) rfl T.g__law_mixed T.f__law_mixed.kp T.b__law_mixed .nil pass0 (pa_cons (pe_ix ix_seq (pv 0) pe_int (fun _ _ => rfl)) (pa_cons (pe_ix ix_seq (pv 0) pe_int (fun _ _ => rfl)) pa_nil))) (pa_cons pe_int pa_nil))) pa_nil)) (pv 1)))) pss_nil)
      (pss_cons (ps_set (i := 2) sc__law_draw.nd rfl (Or.inl rfl) (pe_op op_mod (pe_callTy call_int1 (by rfl) T.n_int (by decide +kernel) (pa_cons (pe_ix ix_seq (pv 0) pe_int (fun _ _ => rfl)) pa_nil)) (pv 1)))
      (pss_cons (ps_asg (pe_op op_fdiv (pe_ix ix_seq (pv 0) pe_int (fun _ _ => rfl)) (pv 1)) (pg_sub (pv 0) pe_int set_list))
      (pss_one (ps_ret (pv 2)))))))
theorem tm_is_up_to (T : Txt K mg A B) (G_is_count : FnOk Pr w K mg base CX0 2 A.a_is_count B.d_is_count ["value"] (spD K (R_is_count A))) {f : Addr} {cdv : Value} {Ar : Around} {outer : List Env} {s : Shared} {H : Hp} {E : XK} (hr : Room 2 (Ar.deeper (envOfC "is_up_to" (defScope s_is_up_to) s.heap.objs.size f cdv))) :
    PSs (cxOf CX0 Pr w K mg base N_is_up_to "is_up_to" (defScope s_is_up_to) f cdv Ar outer s H E).nox (defBody s_is_up_to) (t_is_up_to K A) :=
  (pss_one (ps_ret (pe_and (pe_call G_is_count (hr.mono (by decide)) rfl T.g_is_count T.f_is_count.kp T.b_is_count .nil pass0 (pa_cons (pv 0) pa_nil)) (pe_one (pe_or (pe_cmpR op_isN (pv 1) pe_non (nomark _)) (pe_one (pe_cmpR (op_leP hr.units) (pv 0) (pv 1) (nomark _))))))))
theorem tm_is_place (T : Txt K mg A B) (G_is_count : FnOk Pr w K mg base CX0 2 A.a_is_count B.d_is_count ["value"] (spD K (R_is_count A))) {f : Addr} {cdv : Value} {Ar : Around} {outer : List Env} {s : Shared} {H : Hp} {E : XK} (hr : Room 2 (Ar.deeper (envOfC "is_place" (defScope s_is_place) s.heap.objs.size f cdv))) :
    PSs (cxOf CX0 Pr w K mg base N_is_place "is_place" (defScope s_is_place) f cdv Ar outer s H E).nox (defBody s_is_place) (t_is_place K A) :=
  (pss_one (ps_ret (pe_and (pe_callB call_isi (by rfl) T.n_isinstance (by decide +kernel) (pa_cons (pv 0) (pa_cons (pe_bltn (v := .ty "tuple") (by rfl) T.n_tuple (by decide +kernel) rfl) pa_nil))) (pe_and (pe_cmpR (op_eqP hr.units) (pe_callB call_len (by rfl) T.n_len (by decide +kernel) (pa_cons (pv 0) pa_nil)) pe_int (nomark _)) (pe_and (pe_call G_is_count (hr.mono (by decide)) rfl T.g_is_count T.f_is_count.kp T.b_is_count .nil pass0 (pa_cons (pe_ix ix_seq (pv 0) pe_int (fun _ _ => rfl)) pa_nil)) (pe_one (pe_call G_is_count (hr.mono (by decide)) rfl T.g_is_count T.f_is_count.kp T.b_is_count .nil pass0 (pa_cons (pe_ix ix_seq (pv 0) pe_int (fun _ _ => rfl)) pa_nil))))))))
theorem tm_check_count (T : Txt K mg A B) (G_is_count : FnOk Pr w K mg base CX0 2 A.a_is_count B.d_is_count ["value"] (spD K (R_is_count A))) {f : Addr} {cdv : Value} {Ar : Around} {outer : List Env} {s : Shared} {H : Hp} {E : XK} (hr : Room 2 (Ar.deeper (envOfC "check_count" (defScope s_check_count) s.heap.objs.size f cdv))) :
    PSs (cxOf CX0 Pr w K mg base N_check_count "check_count" (defScope s_check_count) f cdv Ar outer s H E).nox (defBody s_check_count) (t_check_count K A) :=
  (pss_one (ps_if (pt_not (pt_val (pe_call G_is_count (hr.mono (by decide)) rfl T.g_is_count T.f_is_count.kp T.b_is_count .nil pass0 (pa_cons (pv 0) pa_nil)))) pss_never pss_nil))
theorem tm__law_pick (T : Txt K mg A B) (G__law_draw : FnOk Pr w K mg base CX0 2 A.a__law_draw B.d__law_draw ["stream", "top"] (spD K (R__law_draw A))) {f : Addr} {cdv : Value} {Ar : Around} {outer : List Env} {s : Shared} {H : Hp} {E : XK} (hr : Room 2 (Ar.deeper (envOfC "_law_pick" (defScope s__law_pick) s.heap.objs.size f cdv))) :
    PSs (cxOf CX0 Pr w K mg base N__law_pick "_law_pick" (defScope s__law_pick) f cdv Ar outer s H E).nox (defBody s__law_pick) (t__law_pick K A) :=
  (pss_one (ps_ret (pe_ix ix_seq (pv 1) (pe_call G__law_draw (hr.mono (by decide)) rfl T.g__law_draw T.f__law_draw.kp T.b__law_draw .nil pass0 (pa_cons (pv 0) (pa_cons (pe_callB call_len (by rfl) T.n_len (by decide +kernel) (pa_cons (pv 1) pa_nil)) pa_nil))) (fun _ _ => rfl))))
theorem tm_check_up_to (T : Txt K mg A B) (G_is_up_to : FnOk Pr w K mg base CX0 3 A.a_is_up_to B.d_is_up_to ["value", "limit"] (spD K (R_is_up_to A))) {f : Addr} {cdv : Value} {Ar : Around} {outer : List Env} {s : Shared} {H : Hp} {E : XK} (hr : Room 3 (Ar.deeper (envOfC "check_up_to" (defScope s_check_up_to) s.heap.objs.size f cdv))) :
    PSs (cxOf CX0 Pr w K mg base N_check_up_to "check_up_to" (defScope s_check_up_to) f cdv Ar outer s H E).nox (defBody s_check_up_to) (t_check_up_to K A) :=
  (pss_one (ps_if (pt_not (pt_val (pe_call G_is_up_to (hr.mono (by decide)) rfl T.g_is_up_to T.f_is_up_to.kp T.b_is_up_to .nil pass0 (pa_cons (pv 0) (pa_cons (pv 1) pa_nil))))) pss_never pss_nil))
theorem tm_check_span (T : Txt K mg A B) (G_is_place : FnOk Pr w K mg base CX0 3 A.a_is_place B.d_is_place ["value"] (spD K (R_is_place A))) {f : Addr} {cdv : Value} {Ar : Around} {outer : List Env} {s : Shared} {H : Hp} {E : XK} (hr : Room 3 (Ar.deeper (envOfC "check_span" (defScope s_check_span) s.heap.objs.size f cdv))) :
    PSs (cxOf CX0 Pr w K mg base N_check_span "check_span" (defScope s_check_span) f cdv Ar outer s H E).nox (defBody s_check_span) (t_check_span K A) :=
  (pss_cons (ps_if (pt_not (pt_val (pe_call G_is_place (hr.mono (by decide)) rfl T.g_is_place T.f_is_place.kp T.b_is_place .nil pass0 (pa_cons (pv 0) pa_nil)))) pss_never pss_nil)
      (pss_one (ps_if (PW.pt (pw_or (pt_not (pt_val (pe_call G_is_place (hr.mono (by decide)) rfl T.g_is_place T.f_is_place.kp T.b_is_place .nil pass0 (pa_cons (pv 1) pa_nil)))) (pw_or1 (pt_cmpR (op_ltP hr.units) (pv 1) (pv 0) (nomark _))))) pss_never pss_nil)))
theorem tm_behind (T : Txt K mg A B) (G_added : FnOk Pr w K mg base CX0 1 A.a_added B.d_added ["one", "other"] (spD K (R_added A))) (G_check_count : FnOk Pr w K mg base CX0 3 A.a_check_count B.d_check_count ["value"] (spD K (R_check_count A))) (G_extent_of : FnOk Pr w K mg base CX0 2 A.a_extent_of B.d_extent_of ["text"] (spD K (R_extent_of A))) {f : Addr} {cdv : Value} {Ar : Around} {outer : List Env} {s : Shared} {H : Hp} {E : XK} (hr : Room 3 (Ar.deeper (envOfC "behind" (defScope s_behind) s.heap.objs.size f cdv))) :
    PSs (cxOf CX0 Pr w K mg base N_behind "behind" (defScope s_behind) f cdv Ar outer s H E).nox (defBody s_behind) (t_behind K A) :=
  (pss_cons (ps_expr (pe_call G_check_count (hr.mono (by decide)) rfl T.g_check_count T.f_check_count.kp T.b_check_count .nil pass0 (pa_cons (pv 0) pa_nil)))
      (pss_cons (ps_expr (pe_call G_check_count (hr.mono (by decide)) rfl T.g_check_count T.f_check_count.kp T.b_check_count .nil pass0 (pa_cons (pv 1) pa_nil)))
      (pss_one (ps_ret (pe_call G_added (hr.mono (by decide)) rfl T.g_added T.f_added.kp T.b_added .nil pass0 (pa_cons (pe_tup (pa_cons (pv 0) (pa_cons (pv 1) pa_nil))) (pa_cons (pe_call G_extent_of (hr.mono (by decide)) rfl T.g_extent_of T.f_extent_of.kp T.b_extent_of .nil pass0 (pa_cons (pv 2) pa_nil)) pa_nil)))))))
theorem tm_has_place (T : Txt K mg A B) (G_check_count : FnOk Pr w K mg base CX0 3 A.a_check_count B.d_check_count ["value"] (spD K (R_check_count A))) (G_lines_of : FnOk Pr w K mg base CX0 2 A.a_lines_of B.d_lines_of ["text"] (spD K (R_lines_of A))) {f : Addr} {cdv : Value} {Ar : Around} {outer : List Env} {s : Shared} {H : Hp} {E : XK} (hr : Room 3 (Ar.deeper (envOfC "has_place" (defScope s_has_place) s.heap.objs.size f cdv))) :
    PSs (cxOf CX0 Pr w K mg base N_has_place "has_place" (defScope s_has_place) f cdv Ar outer s H E).nox (defBody s_has_place) (t_has_place K A) :=
  (pss_cons (ps_set (i := 3) sc_has_place.nd rfl (Or.inl rfl) (pe_call G_lines_of (hr.mono (by decide)) rfl T.g_lines_of T.f_lines_of.kp T.b_lines_of .nil pass0 (pa_cons (pv 0) pa_nil)))
      (pss_cons (ps_expr (pe_call G_check_count (hr.mono (by decide)) rfl T.g_check_count T.f_check_count.kp T.b_check_count .nil pass0 (pa_cons (pv 1) pa_nil)))
      (pss_cons (ps_expr (pe_call G_check_count (hr.mono (by decide)) rfl T.g_check_count T.f_check_count.kp T.b_check_count .nil pass0 (pa_cons (pv 2) pa_nil)))
      (pss_one (ps_ret (pe_and (pe_cmpR (op_ltP hr.units) (pv 1) (pe_callB call_len (by rfl) T.n_len (by decide +kernel) (pa_cons (pv 3) pa_nil)) (nomark _)) (pe_one (pe_cmpR (op_leP hr.units) (pv 2) (pe_callB call_len (by rfl) T.n_len (by decide +kernel) (pa_cons (pe_ix ix_seq (pv 3) (pv 1) (fun _ _ => rfl)) pa_nil)) (nomark _)))))))))
theorem tm_Edit_forward (T : Txt K mg A B) (G__led : FnOk Pr w K mg base CX0 2 A.a__led B.d__led ["place", "low", "high", "new_high"] (spD K (R__led A))) (G_check_count : FnOk Pr w K mg base CX0 3 A.a_check_count B.d_check_count ["value"] (spD K (R_check_count A))) {f : Addr} {cdv : Value} {Ar : Around} {outer : List Env} {s : Shared} {H : Hp} {E : XK} (hr : Room 3 (Ar.deeper (envOfC "Edit.forward" (defScope s_Edit_forward) s.heap.objs.size f cdv))) :
    PSs (cxOf CX0 Pr w K mg base N_Edit_forward "Edit.forward" (defScope s_Edit_forward) f cdv Ar outer s H E).nox (defBody s_Edit_forward) (t_Edit_forward K A) :=
  (pss_cons (ps_expr (pe_call G_check_count (hr.mono (by decide)) rfl T.g_check_count T.f_check_count.kp T.b_check_count .nil pass0 (pa_cons (pv 1) pa_nil)))
      (pss_cons (ps_expr (pe_call G_check_count (hr.mono (by decide)) rfl T.g_check_count T.f_check_count.kp T.b_check_count .nil pass0 (pa_cons (pv 2) pa_nil)))
      (pss_one (ps_ret (pe_call G__led (hr.mono (by decide)) rfl T.g__led T.f__led.kp T.b__led .nil pass0 (pa_cons (pe_tup (pa_cons (pv 1) (pa_cons (pv 2) pa_nil))) (pa_cons (pe_fld (pv 0) rfl) (pa_cons (pe_fld (pv 0) rfl) (pa_cons (pe_fld (pv 0) rfl) pa_nil)))))))))
theorem tm_Edit_back (T : Txt K mg A B) (G__led : FnOk Pr w K mg base CX0 2 A.a__led B.d__led ["place", "low", "high", "new_high"] (spD K (R__led A))) (G_check_count : FnOk Pr w K mg base CX0 3 A.a_check_count B.d_check_count ["value"] (spD K (R_check_count A))) {f : Addr} {cdv : Value} {Ar : Around} {outer : List Env} {s : Shared} {H : Hp} {E : XK} (hr : Room 3 (Ar.deeper (envOfC "Edit.back" (defScope s_Edit_back) s.heap.objs.size f cdv))) :
    PSs (cxOf CX0 Pr w K mg base N_Edit_back "Edit.back" (defScope s_Edit_back) f cdv Ar outer s H E).nox (defBody s_Edit_back) (t_Edit_back K A) :=
  (pss_cons (ps_expr (pe_call G_check_count (hr.mono (by decide)) rfl T.g_check_count T.f_check_count.kp T.b_check_count .nil pass0 (pa_cons (pv 1) pa_nil)))
      (pss_cons (ps_expr (pe_call G_check_count (hr.mono (by decide)) rfl T.g_check_count T.f_check_count.kp T.b_check_count .nil pass0 (pa_cons (pv 2) pa_nil)))
      (pss_one (ps_ret (pe_call G__led (hr.mono (by decide)) rfl T.g__led T.f__led.kp T.b__led .nil pass0 (pa_cons (pe_tup (pa_cons (pv 1) (pa_cons (pv 2) pa_nil))) (pa_cons (pe_fld (pv 0) rfl) (pa_cons (pe_fld (pv 0) rfl) (pa_cons (pe_fld (pv 0) rfl) pa_nil)))))))))
theorem tm__law_signs (T : Txt K mg A B) (G__law_draw : FnOk Pr w K mg base CX0 2 A.a__law_draw B.d__law_draw ["stream", "top"] (spD K (R__law_draw A))) (G__law_pick : FnOk Pr w K mg base CX0 3 A.a__law_pick B.d__law_pick ["stream", "some"] (spD K (R__law_pick A))) {f : Addr} {cdv : Value} {Ar : Around} {outer : List Env} {s : Shared} {H : Hp} {E : XK} (hr : Room 3 (Ar.deeper (envOfC "_law_signs" (defScope s__law_signs) s.heap.objs.size f cdv))) :
    PSs (cxOf CX0 Pr w K mg base N__law_signs "_law_signs" (defScope s__law_signs) f cdv Ar outer s H E).nox (defBody s__law_signs) (t__law_signs K A) :=
  (pss_cons (ps_set (i := 2) sc__law_signs.nd rfl (Or.inl rfl) (pe_call G__law_draw (hr.mono (by decide)) rfl T.g__law_draw T.f__law_draw.kp T.b__law_draw .nil pass0 (pa_cons (pv 0) (pa_cons (pe_op op_addU (pv 1) pe_int) pa_nil))))
      (pss_one (ps_ret (pe_m1 PySem.F.slot_str_join PySem.F.type_str_join mt_join pe_str (pe_lc (own := [("turn", 3)]) rfl sc__law_signs.nd (pi_range1 rfl T.n_range (pa_cons (pv 2) pa_nil)) (blkOk_by (own := [("turn", 3)]) (N := N__law_signs) (sc := defScope s__law_signs) (by decide +kernel)) (fun _ _ _ _ _ => (pg_name (i := 3) sc__law_signs.nd rfl (Or.inl rfl))) (fun _ _ _ _ _ => pts_nil) (fun _ _ _ _ _ => (pe_call G__law_pick (hr.mono (by decide)) rfl T.g__law_pick T.f__law_pick.kp T.b__law_pick .nil pass0 (pa_cons (pv 0) (pa_cons (pe_lst (pa_cons pe_str (pa_cons pe_str (pa_cons pe_str (pa_cons pe_str (pa_cons pe_str (pa_cons pe_str pa_nil))))))) pa_nil)))))))))
theorem tm_index_of (T : Txt K mg A B) (G_has_place : FnOk Pr w K mg base CX0 4 A.a_has_place B.d_has_place ["text", "line", "column"] (spD K (R_has_place A))) (G_lines_of : FnOk Pr w K mg base CX0 2 A.a_lines_of B.d_lines_of ["text"] (spD K (R_lines_of A))) {f : Addr} {cdv : Value} {Ar : Around} {outer : List Env} {s : Shared} {H : Hp} {E : XK} (hr : Room 4 (Ar.deeper (envOfC "index_of" (defScope s_index_of) s.heap.objs.size f cdv))) :
    PSs (cxOf CX0 Pr w K mg base N_index_of "index_of" (defScope s_index_of) f cdv Ar outer s H E).nox (defBody s_index_of) (t_index_of K A) :=
  (pss_cons (ps_if (pt_not (pt_val (pe_call G_has_place (hr.mono (by decide)) rfl T.g_has_place T.f_has_place.kp T.b_has_place .nil pass0 (pa_cons (pv 0) (pa_cons (pv 1) (pa_cons (pv 2) pa_nil)))))) pss_never pss_nil)
      (pss_cons (ps_set (i := 3) sc_index_of.nd rfl (Or.inl rfl) (pe_call G_lines_of (hr.mono (by decide)) rfl T.g_lines_of T.f_lines_of.kp T.b_lines_of .nil pass0 (pa_cons (pv 0) pa_nil)))
      (pss_one (ps_ret (pe_op op_addU (pe_callB (cr_sum rfl) (by rfl) T.n_sum (by decide +kernel) (pa_cons (pe_lc (own := [("row", 4)]) rfl sc_index_of.nd (pi_tup (pe_slice sl_U (pv 3) po_none (po_some (pv 1)))) (blkOk_by (own := [("row", 4)]) (N := N_index_of) (sc := defScope s_index_of) (by decide +kernel)) (fun _ _ _ _ _ => (pg_name (i := 4) sc_index_of.nd rfl (Or.inl rfl))) (fun _ _ _ _ _ => pts_nil) (fun _ _ _ _ _ => (pe_op op_addU (pe_callB call_len (by rfl) T.n_len (by decide +kernel) (pa_cons (pv 4) pa_nil)) pe_int))) pa_nil)) (pv 2))))))
theorem tm_place_of (T : Txt K mg A B) (G_check_text : FnOk Pr w K mg base CX0 1 A.a_check_text B.d_check_text ["value"] (spD K (R_check_text A))) (G_check_up_to : FnOk Pr w K mg base CX0 4 A.a_check_up_to B.d_check_up_to ["value", "limit"] (spD K (R_check_up_to A))) (G_extent_of : FnOk Pr w K mg base CX0 2 A.a_extent_of B.d_extent_of ["text"] (spD K (R_extent_of A))) {f : Addr} {cdv : Value} {Ar : Around} {outer : List Env} {s : Shared} {H : Hp} {E : XK} (hr : Room 4 (Ar.deeper (envOfC "place_of" (defScope s_place_of) s.heap.objs.size f cdv))) :
    PSs (cxOf CX0 Pr w K mg base N_place_of "place_of" (defScope s_place_of) f cdv Ar outer s H E).nox (defBody s_place_of) (t_place_of K A) :=
  (pss_cons (ps_expr (pe_call G_check_text (hr.mono (by decide)) rfl T.g_check_text T.f_check_text.kp T.b_check_text .nil pass0 (pa_cons (pv 0) pa_nil)))
      (pss_cons (ps_expr (pe_call G_check_up_to (hr.mono (by decide)) rfl T.g_check_up_to T.f_check_up_to.kp T.b_check_up_to .nil pass0 (pa_cons (pv 1) (pa_cons (pe_callB call_len (by rfl) T.n_len (by decide +kernel) (pa_cons (pv 0) pa_nil)) pa_nil))))
      (pss_one (ps_ret (pe_call G_extent_of (hr.mono (by decide)) rfl T.g_extent_of T.f_extent_of.kp T.b_extent_of .nil pass0 (pa_cons (pe_slice sl_U (pv 0) po_none (po_some (pv 1))) pa_nil))))))
theorem tm_Edit_init (T : Txt K mg A B) (G_behind : FnOk Pr w K mg base CX0 4 A.a_behind B.d_behind ["line", "column", "text"] (spD K (R_behind A))) (G_check_span : FnOk Pr w K mg base CX0 4 A.a_check_span B.d_check_span ["low", "high"] (spD K (R_check_span A))) (G_check_text : FnOk Pr w K mg base CX0 1 A.a_check_text B.d_check_text ["value"] (spD K (R_check_text A))) {f : Addr} {cdv : Value} {Ar : Around} {outer : List Env} {s : Shared} {H : Hp} {E : XK} (hr : Room 4 (Ar.deeper (envOfC "Edit.__init__" (defScope s_Edit_init) s.heap.objs.size f cdv))) :
    PSs (cxOf CX0 Pr w K mg base N_Edit_init "Edit.__init__" (defScope s_Edit_init) f cdv Ar outer s H E).nox (defBody s_Edit_init) (t_Edit_init K A) :=
  (pss_cons (ps_expr (pe_call G_check_span (hr.mono (by decide)) rfl T.g_check_span T.f_check_span.kp T.b_check_span .nil pass0 (pa_cons (pv 1) (pa_cons (pv 2) pa_nil))))
      (pss_cons (ps_expr (pe_call G_check_text (hr.mono (by decide)) rfl T.g_check_text T.f_check_text.kp T.b_check_text .nil pass0 (pa_cons (pv 3) pa_nil)))
      (pss_cons (ps_fld (pv 0) (pv 1) rfl)
      (pss_cons (ps_fld (pv 0) (pv 2) rfl)
      (pss_cons (ps_fld (pv 0) (pv 3) rfl)
      (pss_one (ps_fld (pv 0) (pe_call G_behind (hr.mono (by decide)) rfl T.g_behind T.f_behind.kp T.b_behind .nil pass0 (pa_cons (pe_ix ix_seq (pv 1) pe_int (fun _ _ => rfl)) (pa_cons (pe_ix ix_seq (pv 1) pe_int (fun _ _ => rfl)) (pa_cons (pv 3) pa_nil)))) rfl)))))))
theorem tm__law_cut (T : Txt K mg A B) (G__law_draw : FnOk Pr w K mg base CX0 2 A.a__law_draw B.d__law_draw ["stream", "top"] (spD K (R__law_draw A))) (G__law_pick : FnOk Pr w K mg base CX0 3 A.a__law_pick B.d__law_pick ["stream", "some"] (spD K (R__law_pick A))) (G__law_signs : FnOk Pr w K mg base CX0 4 A.a__law_signs B.d__law_signs ["stream", "most"] (spD K (R__law_signs A))) {f : Addr} {cdv : Value} {Ar : Around} {outer : List Env} {s : Shared} {H : Hp} {E : XK} (hr : Room 4 (Ar.deeper (envOfC "_law_cut" (defScope s__law_cut) s.heap.objs.size f cdv))) :
    PSs (cxOf CX0 Pr w K mg base N__law_cut "_law_cut" (defScope s__law_cut) f cdv Ar outer s H E).nox (defBody s__law_cut) (t__law_cut K A) :=
  (pss_cons (ps_set (i := 2) sc__law_cut.nd rfl (Or.inl rfl) (pe_call G__law_draw (hr.mono (by decide)) rfl T.g__law_draw T.f__law_draw.kp T.b__law_draw .nil pass0 (pa_cons (pv 0) (pa_cons (pe_op op_addU (pe_callB call_len (by rfl) T.n_len (by decide +kernel) (pa_cons (pv 1) pa_nil)) pe_int) pa_nil))))
      (pss_cons (ps_set (i := 3) sc__law_cut.nd rfl (Or.inl rfl) (pe_callB (call_min2 rfl) (by rfl) T.n_min (by decide +kernel) (pa_cons (pe_callB call_len (by rfl) T.n_len (by decide +kernel) (pa_cons (pv 1) pa_nil)) (pa_cons (pe_op op_addU (pv 2) (pe_call G__law_pick (hr.mono (by decide)) rfl T.g__law_pick T.f__law_pick.kp T.b__law_pick .nil pass0 (pa_cons (pv 0) (pa_cons (pe_lst (pa_cons pe_int (pa_cons pe_int (pa_cons pe_int (pa_cons pe_int (pa_cons pe_int (pa_cons pe_int pa_nil))))))) pa_nil)))) pa_nil))))
      (pss_one (ps_ret (pe_tup (pa_cons (pv 2) (pa_cons (pv 3) (pa_cons (pe_call G__law_signs (hr.mono (by decide)) rfl T.g__law_signs T.f__law_signs.kp T.b__law_signs .nil pass0 (pa_cons (pv 0) (pa_cons pe_int pa_nil))) pa_nil))))))))
theorem tm__law_moves_right (T : Txt K mg A B) (G_Edit_back : FnOk Pr w K mg base CX0 4 A.a_Edit_back B.d_Edit_back ["self", "line", "column"] (spD K (R_Edit_back A))) (G_Edit_forward : FnOk Pr w K mg base CX0 4 A.a_Edit_forward B.d_Edit_forward ["self", "line", "column"] (spD K (R_Edit_forward A))) (G_Edit_high : FnOk Pr w K mg base CX0 1 A.a_Edit_high B.d_Edit_high ["self"] (spD K (R_Edit_high A))) (G_Edit_low : FnOk Pr w K mg base CX0 1 A.a_Edit_low B.d_Edit_low ["self"] (spD K (R_Edit_low A))) (G_Edit_new_high : FnOk Pr w K mg base CX0 1 A.a_Edit_new_high B.d_Edit_new_high ["self"] (spD K (R_Edit_new_high A))) (G__law_grid : FnOk Pr w K mg base CX0 1 A.a__law_grid B.d__law_grid ["rows", "size"] (spD K (R__law_grid A))) {f : Addr} {cdv : Value} {Ar : Around} {outer : List Env} {s : Shared} {H : Hp} {E : XK} (hr : Room 4 (Ar.deeper (envOfC "_law_moves_right" (defScope s__law_moves_right) s.heap.objs.size f cdv))) :
    PSs (cxOf CX0 Pr w K mg base N__law_moves_right "_law_moves_right" (defScope s__law_moves_right) f cdv Ar outer s H E).nox (defBody s__law_moves_right) (t__law_moves_right K A) :=
  (pss_cons (ps_asg (pe_tup (pa_cons (pe_tup (pa_cons (pe_un un_neg pe_int) (pa_cons pe_int pa_nil))) (pa_cons (pe_tup (pa_cons (pe_un un_neg pe_int) (pa_cons pe_int pa_nil))) pa_nil))) (pg_tup rfl (pgs_cons (pg_name (i := 1) sc__law_moves_right.nd rfl (Or.inl rfl)) (pgs_cons (pg_name (i := 2) sc__law_moves_right.nd rfl (Or.inl rfl)) pgs_nil))))
      (pss_cons (ps_for PassesOwn.never rfl (pi_list (pe_call G__law_grid (hr.mono (by decide)) rfl T.g__law_grid T.f__law_grid.kp T.b__law_grid .nil pass0 (pa_cons pe_int (pa_cons pe_int pa_nil)))) (pg_name (i := 3) sc__law_moves_right.nd rfl (Or.inl rfl)) (pss_cons (ps_par (i := 4) (j := 5) (by rfl) sc__law_moves_right.nd rfl rfl (by decide) rfl rfl (pa_cons (pe_meth (pv 0) T.tc.cl_Edit T.me_Edit_forward G_Edit_forward (hr.mono (by decide)) T.b_Edit_forward .nil pass0 (pa_cons (pe_ix ix_seq (pv 3) pe_int (fun _ _ => rfl)) (pa_cons (pe_ix ix_seq (pv 3) pe_int (fun _ _ => rfl)) pa_nil))) (pa_cons (pe_meth (pv 0) T.tc.cl_Edit T.me_Edit_back G_Edit_back (hr.mono (by decide)) T.b_Edit_back .nil pass0 (pa_cons (pe_ix ix_seq (pv 3) pe_int (fun _ _ => rfl)) (pa_cons (pe_ix ix_seq (pv 3) pe_int (fun _ _ => rfl)) pa_nil))) pa_nil)) (by rfl))
      (pss_cons (ps_if (PW.pt (pw_or (pt_cmpR (op_neP hr.units) (pe_cmpR op_isN (pv 4) pe_non (nomark _)) (pe_chain (op_leP hr.units) (op_ltP hr.units) (pe_prop (pv 0) T.tc.cl_Edit T.pr_Edit_low G_Edit_low (hr.mono (by decide)) T.b_Edit_low .nil pass0 rfl) (pv 3) (pe_prop (pv 0) T.tc.cl_Edit T.pr_Edit_high G_Edit_high (hr.mono (by decide)) T.b_Edit_high .nil pass0 rfl)) (nomark _)) (pw_or1 (pt_cmpR (op_neP hr.units) (pe_cmpR op_isN (pv 5) pe_non (nomark _)) (pe_chain (op_leP hr.units) (op_ltP hr.units) (pe_prop (pv 0) T.tc.cl_Edit T.pr_Edit_low G_Edit_low (hr.mono (by decide)) T.b_Edit_low .nil pass0 rfl) (pv 3) (pe_prop (pv 0) T.tc.cl_Edit T.pr_Edit_new_high G_Edit_new_high (hr.mono (by decide)) T.b_Edit_new_high .nil pass0 rfl)) (nomark _))))) (pss_one (ps_ret pe_bl)) pss_nil)
      (pss_cons (ps_if (PW.pt (pw_and (pt_cmpR op_notN (pv 4) pe_non (nomark _)) (pw_and1 (PW.pt (pw_or (pt_not (pt_cmpR (op_gtP hr.units) (pv 4) (pv 1) (nomark _))) (pw_or1 (pt_cmpR (op_neP hr.units) (pe_meth (pv 0) T.tc.cl_Edit T.me_Edit_back G_Edit_back (hr.mono (by decide)) T.b_Edit_back .nil pass0 (pa_cons (pe_ix ix_seq (pv 4) pe_int (fun _ _ => rfl)) (pa_cons (pe_ix ix_seq (pv 4) pe_int (fun _ _ => rfl)) pa_nil))) (pv 3) (nomark _)))))))) (pss_one (ps_ret pe_bl)) pss_nil)
      (pss_cons (ps_if (PW.pt (pw_and (pt_cmpR op_notN (pv 5) pe_non (nomark _)) (pw_and1 (PW.pt (pw_or (pt_not (pt_cmpR (op_gtP hr.units) (pv 5) (pv 2) (nomark _))) (pw_or1 (pt_cmpR (op_neP hr.units) (pe_meth (pv 0) T.tc.cl_Edit T.me_Edit_forward G_Edit_forward (hr.mono (by decide)) T.b_Edit_forward .nil pass0 (pa_cons (pe_ix ix_seq (pv 5) pe_int (fun _ _ => rfl)) (pa_cons (pe_ix ix_seq (pv 5) pe_int (fun _ _ => rfl)) pa_nil))) (pv 3) (nomark _)))))))) (pss_one (ps_ret pe_bl)) pss_nil)
      (pss_one (ps_par (i := 1) (j := 2) (by rfl) sc__law_moves_right.nd rfl rfl (by decide) rfl rfl (pa_cons (pe_orT (pv 4) (pe_one (pv 1))) (pa_cons (pe_orT (pv 5) (pe_one (pv 2))) pa_nil)) (by rfl))))))))
      (pss_one (ps_ret pe_bl))))
theorem tm_part_of (T : Txt K mg A B) (G_check_span : FnOk Pr w K mg base CX0 4 A.a_check_span B.d_check_span ["low", "high"] (spD K (R_check_span A))) (G_check_text : FnOk Pr w K mg base CX0 1 A.a_check_text B.d_check_text ["value"] (spD K (R_check_text A))) (G_index_of : FnOk Pr w K mg base CX0 5 A.a_index_of B.d_index_of ["text", "line", "column"] (spD K (R_index_of A))) {f : Addr} {cdv : Value} {Ar : Around} {outer : List Env} {s : Shared} {H : Hp} {E : XK} (hr : Room 5 (Ar.deeper (envOfC "part_of" (defScope s_part_of) s.heap.objs.size f cdv))) :
    PSs (cxOf CX0 Pr w K mg base N_part_of "part_of" (defScope s_part_of) f cdv Ar outer s H E).nox (defBody s_part_of) (t_part_of K A) :=
  (pss_cons (ps_expr (pe_call G_check_text (hr.mono (by decide)) rfl T.g_check_text T.f_check_text.kp T.b_check_text .nil pass0 (pa_cons (pv 0) pa_nil)))
      (pss_cons (ps_expr (pe_call G_check_span (hr.mono (by decide)) rfl T.g_check_span T.f_check_span.kp T.b_check_span .nil pass0 (pa_cons (pv 1) (pa_cons (pv 2) pa_nil))))
      (pss_cons (ps_set (i := 3) sc_part_of.nd rfl (Or.inl rfl) (pe_call G_index_of (hr.mono (by decide)) rfl T.g_index_of T.f_index_of.kp T.b_index_of .nil pass0 (pa_cons (pv 0) (pa_cons (pe_ix ix_seq (pv 1) pe_int (fun _ _ => rfl)) (pa_cons (pe_ix ix_seq (pv 1) pe_int (fun _ _ => rfl)) pa_nil)))))
      (pss_one (ps_ret (pe_slice sl_U (pv 0) (po_some (pv 3)) (po_some (pe_call G_index_of (hr.mono (by decide)) rfl T.g_index_of T.f_index_of.kp T.b_index_of .nil pass0 (pa_cons (pv 0) (pa_cons (pe_ix ix_seq (pv 2) pe_int (fun _ _ => rfl)) (pa_cons (pe_ix ix_seq (pv 2) pe_int (fun _ _ => rfl)) pa_nil)))))))))))
theorem tm_Edit_call (T : Txt K mg A B) (G_index_of : FnOk Pr w K mg base CX0 5 A.a_index_of B.d_index_of ["text", "line", "column"] (spD K (R_index_of A))) {f : Addr} {cdv : Value} {Ar : Around} {outer : List Env} {s : Shared} {H : Hp} {E : XK} (hr : Room 5 (Ar.deeper (envOfC "Edit.__call__" (defScope s_Edit_call) s.heap.objs.size f cdv))) :
    PSs (cxOf CX0 Pr w K mg base N_Edit_call "Edit.__call__" (defScope s_Edit_call) f cdv Ar outer s H E).nox (defBody s_Edit_call) (t_Edit_call K A) :=
  (pss_cons (ps_set (i := 2) sc_Edit_call.nd rfl (Or.inl rfl) (pe_call G_index_of (hr.mono (by decide)) rfl T.g_index_of T.f_index_of.kp T.b_index_of .nil pass0 (pa_cons (pv 1) (pa_cons (pe_ix ix_seq (pe_fld (pv 0) rfl) pe_int (fun _ _ => rfl)) (pa_cons (pe_ix ix_seq (pe_fld (pv 0) rfl) pe_int (fun _ _ => rfl)) pa_nil)))))
      (pss_cons (ps_set (i := 3) sc_Edit_call.nd rfl (Or.inl rfl) (pe_call G_index_of (hr.mono (by decide)) rfl T.g_index_of T.f_index_of.kp T.b_index_of .nil pass0 (pa_cons (pv 1) (pa_cons (pe_ix ix_seq (pe_fld (pv 0) rfl) pe_int (fun _ _ => rfl)) (pa_cons (pe_ix ix_seq (pe_fld (pv 0) rfl) pe_int (fun _ _ => rfl)) pa_nil)))))
      (pss_one (ps_ret (pe_op op_addU (pe_op op_addU (pe_slice sl_U (pv 1) po_none (po_some (pv 2))) (pe_fld (pv 0) rfl)) (pe_slice sl_U (pv 1) (po_some (pv 3)) po_none))))))
theorem tm_Edit_opposite (T : Txt K mg A B) (G_Edit_init : FnOk Pr w K mg base CX0 5 A.a_Edit_init B.d_Edit_init ["self", "low", "high", "fresh"] (spI K A.c_Edit (R_Edit_init A))) (G_part_of : FnOk Pr w K mg base CX0 6 A.a_part_of B.d_part_of ["text", "low", "high"] (spD K (R_part_of A))) {f : Addr} {cdv : Value} {Ar : Around} {outer : List Env} {s : Shared} {H : Hp} {E : XK} (hr : Room 6 (Ar.deeper (envOfC "Edit.opposite" (defScope s_Edit_opposite) s.heap.objs.size f cdv))) :
    PSs (cxOf CX0 Pr w K mg base N_Edit_opposite "Edit.opposite" (defScope s_Edit_opposite) f cdv Ar outer s H E).nox (defBody s_Edit_opposite) (t_Edit_opposite K A) :=
  (pss_one (ps_ret (pe_make T.mk_Edit G_Edit_init (hr.mono (by decide)) rfl T.gc_Edit T.b_Edit_init .nil pass0 (pa_cons (pe_fld (pv 0) rfl) (pa_cons (pe_fld (pv 0) rfl) (pa_cons (pe_call G_part_of (hr.mono (by decide)) rfl T.g_part_of T.f_part_of.kp T.b_part_of .nil pass0 (pa_cons (pv 1) (pa_cons (pe_fld (pv 0) rfl) (pa_cons (pe_fld (pv 0) rfl) pa_nil)))) pa_nil))))))
theorem tm__law_signs_right (T : Txt K mg A B) (G_Edit_call : FnOk Pr w K mg base CX0 6 A.a_Edit_call B.d_Edit_call ["self", "text"] (spD K (R_Edit_call A))) (G_Edit_forward : FnOk Pr w K mg base CX0 4 A.a_Edit_forward B.d_Edit_forward ["self", "line", "column"] (spD K (R_Edit_forward A))) (G_Edit_fresh : FnOk Pr w K mg base CX0 1 A.a_Edit_fresh B.d_Edit_fresh ["self"] (spD K (R_Edit_fresh A))) (G_index_of : FnOk Pr w K mg base CX0 5 A.a_index_of B.d_index_of ["text", "line", "column"] (spD K (R_index_of A))) (G_place_of : FnOk Pr w K mg base CX0 5 A.a_place_of B.d_place_of ["text", "index"] (spD K (R_place_of A))) {f : Addr} {cdv : Value} {Ar : Around} {outer : List Env} {s : Shared} {H : Hp} {E : XK} (hr : Room 6 (Ar.deeper (envOfC "_law_signs_right" (defScope s__law_signs_right) s.heap.objs.size f cdv))) :
    PSs (cxOf CX0 Pr w K mg base N__law_signs_right "_law_signs_right" (defScope s__law_signs_right) f cdv Ar outer s H E).nox (defBody s__law_signs_right) (t__law_signs_right K A) :=
  (pss_cons (ps_asg (pe_tup (pa_cons (pe_callO' (pv 1) T.co_Edit (FnOk.raw0 G_Edit_call T.b_Edit_call) (hr.mono (by decide)) pass0 (pa_cons (pv 0) pa_nil)) (pa_cons (pe_lst pa_nil) pa_nil))) (pg_tup rfl (pgs_cons (pg_name (i := 2) sc__law_signs_right.nd rfl (Or.inr rfl)) (pgs_cons (pg_name (i := 3) sc__law_signs_right.nd rfl (Or.inr rfl)) pgs_nil))))
      (pss_cons (ps_for PassesOwn.never rfl (pi_range1 rfl T.n_range (pa_cons (pe_op op_addU (pe_callB call_len (by rfl) T.n_len (by decide +kernel) (pa_cons (pv 0) pa_nil)) pe_int) pa_nil)) (pg_name (i := 4) sc__law_signs_right.nd rfl (Or.inl rfl)) (pss_cons (ps_set (i := 5) sc__law_signs_right.nd rfl (Or.inl rfl) (pe_call G_place_of (hr.mono (by decide)) rfl T.g_place_of T.f_place_of.kp T.b_place_of .nil pass0 (pa_cons (pv 0) (pa_cons (pv 4) pa_nil))))
      (pss_cons (ps_set (i := 6) sc__law_signs_right.nd rfl (Or.inl rfl) (pe_meth (pv 1) T.tc.cl_Edit T.me_Edit_forward G_Edit_forward (hr.mono (by decide)) T.b_Edit_forward .nil pass0 (pa_cons (pe_ix ix_seq (pv 5) pe_int (fun _ _ => rfl)) (pa_cons (pe_ix ix_seq (pv 5) pe_int (fun _ _ => rfl)) pa_nil))))
      (pss_one (ps_if (pt_cmpR op_notN (pv 6) pe_non (nomark _)) (pss_cons (ps_set (i := 7) sc__law_signs_right.nd rfl (Or.inl rfl) (pe_call G_index_of (hr.mono (by decide)) rfl T.g_index_of T.f_index_of.kp T.b_index_of .nil pass0 (pa_cons (pv 2) (pa_cons (pe_ix ix_seq (pv 6) pe_int (fun _ _ => rfl)) (pa_cons (pe_ix ix_seq (pv 6) pe_int (fun _ _ => rfl)) pa_nil)))))
      (pss_cons (ps_expr (pe_bm PySem.F.plainAttrs_list PySem.F.slot_list_append PySem.F.type_list_append mt_append (pv 3) (pa_cons (pv 7) pa_nil)))
      (pss_one (ps_if (pt_cmpR (op_neP hr.units) (pe_slice sl_U (pv 2) (po_some (pv 7)) (po_some (pe_op op_addU (pv 7) pe_int))) (pe_slice sl_U (pv 0) (po_some (pv 4)) (po_some (pe_op op_addU (pv 4) pe_int))) (nomark _)) (pss_one (ps_ret pe_non)) pss_nil)))) pss_nil)))))
      (pss_cons (ps_setLc (i := 8) (own := [("at", 4)]) rfl sc__law_signs_right.nd rfl rfl (sw_true rfl rfl rfl (by decide +kernel)) (pi_range1 rfl T.n_range (pa_cons (pe_callB call_len (by rfl) T.n_len (by decide +kernel) (pa_cons (pv 2) pa_nil)) pa_nil)) (blkOk_by (own := [("at", 4)]) (N := N__law_signs_right) (sc := defScope s__law_signs_right) (by decide +kernel)) (fun _ _ _ _ _ => (pg_name (i := 4) sc__law_signs_right.nd rfl (Or.inl rfl))) (fun _ _ _ _ _ => pts_one (pt_cmpR (op_niP hr.units) (pv 4) (pv 3) rfl)) (fun _ _ _ _ _ => (pv 4)))
      (pss_one (ps_ret (pe_ifExp (pt_cmpR (op_eqP hr.units) (pe_m1 PySem.F.slot_str_join PySem.F.type_str_join mt_join pe_str (pe_lc (own := [("at", 4)]) rfl sc__law_signs_right.nd (pi_list (pv 8)) (blkOk_by (own := [("at", 4)]) (N := N__law_signs_right) (sc := defScope s__law_signs_right) (by decide +kernel)) (fun _ _ _ _ _ => (pg_name (i := 4) sc__law_signs_right.nd rfl (Or.inl rfl))) (fun _ _ _ _ _ => pts_nil) (fun _ _ _ _ _ => (pe_ix ix_seq (pv 2) (pv 4) (fun _ _ => rfl))))) (pe_prop (pv 1) T.tc.cl_Edit T.pr_Edit_fresh G_Edit_fresh (hr.mono (by decide)) T.b_Edit_fresh .nil pass0 rfl) (nomark _)) (pv 2) pe_non))))))
theorem tm__law_opposite_right (T : Txt K mg A B) (G_Edit_back : FnOk Pr w K mg base CX0 4 A.a_Edit_back B.d_Edit_back ["self", "line", "column"] (spD K (R_Edit_back A))) (G_Edit_forward : FnOk Pr w K mg base CX0 4 A.a_Edit_forward B.d_Edit_forward ["self", "line", "column"] (spD K (R_Edit_forward A))) (G_Edit_opposite : FnOk Pr w K mg base CX0 7 A.a_Edit_opposite B.d_Edit_opposite ["self", "text"] (spD K (R_Edit_opposite A))) (G__law_grid : FnOk Pr w K mg base CX0 1 A.a__law_grid B.d__law_grid ["rows", "size"] (spD K (R__law_grid A))) {f : Addr} {cdv : Value} {Ar : Around} {outer : List Env} {s : Shared} {H : Hp} {E : XK} (hr : Room 7 (Ar.deeper (envOfC "_law_opposite_right" (defScope s__law_opposite_right) s.heap.objs.size f cdv))) :
    PSs (cxOf CX0 Pr w K mg base N__law_opposite_right "_law_opposite_right" (defScope s__law_opposite_right) f cdv Ar outer s H E).nox (defBody s__law_opposite_right) (t__law_opposite_right K A) :=
  (pss_cons (ps_set (i := 2) sc__law_opposite_right.nd rfl (Or.inl rfl) (pe_meth (pv 1) T.tc.cl_Edit T.me_Edit_opposite G_Edit_opposite (hr.mono (by decide)) T.b_Edit_opposite .nil pass0 (pa_cons (pv 0) pa_nil)))
      (pss_cons (ps_for PassesOwn.never rfl (pi_list (pe_call G__law_grid (hr.mono (by decide)) rfl T.g__law_grid T.f__law_grid.kp T.b__law_grid .nil pass0 (pa_cons pe_int (pa_cons pe_int pa_nil)))) (pg_name (i := 3) sc__law_opposite_right.nd rfl (Or.inl rfl)) (pss_cons (ps_if (pt_cmpR (op_neP hr.units) (pe_meth (pv 2) T.tc.cl_Edit T.me_Edit_forward G_Edit_forward (hr.mono (by decide)) T.b_Edit_forward .nil pass0 (pa_cons (pe_ix ix_seq (pv 3) pe_int (fun _ _ => rfl)) (pa_cons (pe_ix ix_seq (pv 3) pe_int (fun _ _ => rfl)) pa_nil))) (pe_meth (pv 1) T.tc.cl_Edit T.me_Edit_back G_Edit_back (hr.mono (by decide)) T.b_Edit_back .nil pass0 (pa_cons (pe_ix ix_seq (pv 3) pe_int (fun _ _ => rfl)) (pa_cons (pe_ix ix_seq (pv 3) pe_int (fun _ _ => rfl)) pa_nil))) (nomark _)) (pss_one (ps_ret pe_bl)) pss_nil)
      (pss_one (ps_if (pt_cmpR (op_neP hr.units) (pe_meth (pv 2) T.tc.cl_Edit T.me_Edit_back G_Edit_back (hr.mono (by decide)) T.b_Edit_back .nil pass0 (pa_cons (pe_ix ix_seq (pv 3) pe_int (fun _ _ => rfl)) (pa_cons (pe_ix ix_seq (pv 3) pe_int (fun _ _ => rfl)) pa_nil))) (pe_meth (pv 1) T.tc.cl_Edit T.me_Edit_forward G_Edit_forward (hr.mono (by decide)) T.b_Edit_forward .nil pass0 (pa_cons (pe_ix ix_seq (pv 3) pe_int (fun _ _ => rfl)) (pa_cons (pe_ix ix_seq (pv 3) pe_int (fun _ _ => rfl)) pa_nil))) (nomark _)) (pss_one (ps_ret pe_bl)) pss_nil))))
      (pss_one (ps_ret pe_bl))))
theorem tm_law (T : Txt K mg A B) (G_Edit_init : FnOk Pr w K mg base CX0 5 A.a_Edit_init B.d_Edit_init ["self", "low", "high", "fresh"] (spI K A.c_Edit (R_Edit_init A))) (G__law_cut : FnOk Pr w K mg base CX0 5 A.a__law_cut B.d__law_cut ["stream", "signs"] (spD K (R__law_cut A))) (G__law_draw : FnOk Pr w K mg base CX0 2 A.a__law_draw B.d__law_draw ["stream", "top"] (spD K (R__law_draw A))) (G__law_moves_right : FnOk Pr w K mg base CX0 5 A.a__law_moves_right B.d__law_moves_right ["edit"] (spD K (R__law_moves_right A))) (G__law_opposite_right : FnOk Pr w K mg base CX0 8 A.a__law_opposite_right B.d__law_opposite_right ["signs", "edit"] (spD K (R__law_opposite_right A))) (G__law_place : FnOk Pr w K mg base CX0 1 A.a__law_place B.d__law_place ["signs", "at"] (spD K (R__law_place A))) (G__law_signs : FnOk Pr w K mg base CX0 4 A.a__law_signs B.d__law_signs ["stream", "most"] (spD K (R__law_signs A))) (G__law_signs_right : FnOk Pr w K mg base CX0 7 A.a__law_signs_right B.d__law_signs_right ["signs", "edit"] (spD K (R__law_signs_right A))) (G__law_stream : FnOk Pr w K mg base CX0 2 A.a__law_stream B.d__law_stream ["item", "k"] (spD K (R__law_stream A))) {f : Addr} {cdv : Value} {Ar : Around} {outer : List Env} {s : Shared} {H : Hp} {E : XK} (hr : Room 8 (Ar.deeper (envOfC "law" (defScope s_law) s.heap.objs.size f cdv))) :
    PSs (cxOf CX0 Pr w K mg base N_law "law" (defScope s_law) f cdv Ar outer s H E).nox (defBody s_law) (t_law K A) :=
  (pss_cons (ps_for PassesOwn.never rfl (pi_enum (by rfl) T.n_enumerate (pa_cons (pe_slice sl_U (pe_op op_addU (pv 0) (pe_lst (pa_cons pe_int pa_nil))) po_none (po_some pe_int)) pa_nil)) (pg_tup rfl (pgs_cons (pg_name (i := 1) sc_law.nd rfl (Or.inl rfl)) (pgs_cons (pg_name (i := 2) sc_law.nd rfl (Or.inl rfl)) pgs_nil))) (pss_cons (ps_set (i := 3) sc_law.nd rfl (Or.inr rfl) (pe_call G__law_stream (hr.mono (by decide)) rfl T.g__law_stream T.f__law_stream.kp T.b__law_stream .nil pass0 (pa_cons (pv 2) (pa_cons (pv 1) pa_nil))))
      (pss_cons (ps_for PassesOwn.never rfl (pi_range1 rfl T.n_range (pa_cons pe_int pa_nil)) (pg_name (i := 4) sc_law.nd rfl (Or.inl rfl)) (pss_cons (ps_set (i := 5) sc_law.nd rfl (Or.inl rfl) (pe_call G__law_signs (hr.mono (by decide)) rfl T.g__law_signs T.f__law_signs.kp T.b__law_signs .nil pass0 (pa_cons (pv 3) (pa_cons pe_int pa_nil))))
      (pss_one (ps_for PassesOwn.never rfl (pi_range1 rfl T.n_range (pa_cons pe_int pa_nil)) (pg_name (i := 6) sc_law.nd rfl (Or.inl rfl)) (pss_cons (ps_asg (pe_call G__law_cut (hr.mono (by decide)) rfl T.g__law_cut T.f__law_cut.kp T.b__law_cut .nil pass0 (pa_cons (pv 3) (pa_cons (pv 5) pa_nil))) (pg_tup rfl (pgs_cons (pg_name (i := 7) sc_law.nd rfl (Or.inl rfl)) (pgs_cons (pg_name (i := 8) sc_law.nd rfl (Or.inl rfl)) (pgs_cons (pg_name (i := 9) sc_law.nd rfl (Or.inl rfl)) pgs_nil)))))
      (pss_cons (ps_set (i := 10) sc_law.nd rfl (Or.inl rfl) (pe_make T.mk_Edit G_Edit_init (hr.mono (by decide)) rfl T.gc_Edit T.b_Edit_init .nil pass0 (pa_cons (pe_call G__law_place (hr.mono (by decide)) rfl T.g__law_place T.f__law_place.kp T.b__law_place .nil pass0 (pa_cons (pv 5) (pa_cons (pv 7) pa_nil))) (pa_cons (pe_call G__law_place (hr.mono (by decide)) rfl T.g__law_place T.f__law_place.kp T.b__law_place .nil pass0 (pa_cons (pv 5) (pa_cons (pv 8) pa_nil))) (pa_cons (pv 9) pa_nil)))))
      (pss_cons (ps_if (PW.pt (pw_or (pt_not (pt_val (pe_call G__law_moves_right (hr.mono (by decide)) rfl T.g__law_moves_right T.f__law_moves_right.kp T.b__law_moves_right .nil pass0 (pa_cons (pv 10) pa_nil)))) (pw_or1 (pt_not (pt_val (pe_call G__law_opposite_right (hr.mono (by decide)) rfl T.g__law_opposite_right T.f__law_opposite_right.kp T.b__law_opposite_right .nil pass0 (pa_cons (pv 5) (pa_cons (pv 10) pa_nil)))))))) (pss_one (ps_ret pe_bl)) pss_nil)
      (pss_cons (ps_set (i := 5) sc_law.nd rfl (Or.inl rfl) (pe_call G__law_signs_right (hr.mono (by decide)) rfl T.g__law_signs_right T.f__law_signs_right.kp T.b__law_signs_right .nil pass0 (pa_cons (pv 5) (pa_cons (pv 10) pa_nil))))
      (pss_one (ps_if (pt_cmpR op_isN (pv 5) pe_non (nomark _)) (pss_one (ps_ret pe_bl)) pss_nil))))))))))
      (pss_cons (ps_setLc (i := 11) (own := [("once", 6)]) rfl sc_law.nd rfl rfl (sw_true rfl rfl rfl (by decide +kernel)) (pi_range1 rfl T.n_range (pa_cons pe_int pa_nil)) (blkOk_by (own := [("once", 6)]) (N := N_law) (sc := defScope s_law) (by decide +kernel)) (fun _ _ _ _ _ => (pg_name (i := 6) sc_law.nd rfl (Or.inl rfl))) (fun _ _ _ _ _ => pts_nil) (fun _ _ _ _ _ => (pe_tup (pa_cons (pe_call G__law_draw (hr.mono (by decide)) rfl T.g__law_draw T.f__law_draw.kp T.b__law_draw .nil pass0 (pa_cons (pv 3) (pa_cons pe_int pa_nil))) (pa_cons (pe_call G__law_draw (hr.mono (by decide)) rfl T.g__law_draw T.f__law_draw.kp T.b__law_draw .nil pass0 (pa_cons (pv 3) (pa_cons pe_int pa_nil))) pa_nil)))))
      (pss_one (ps_if (pt_not (pt_val (pe_call G__law_moves_right (hr.mono (by decide)) rfl T.g__law_moves_right T.f__law_moves_right.kp T.b__law_moves_right .nil pass0 (pa_cons (pe_make T.mk_Edit G_Edit_init (hr.mono (by decide)) rfl T.gc_Edit T.b_Edit_init .nil pass0 (pa_cons (pe_callB (call_minP rfl hr.units) (by rfl) T.n_min (by decide +kernel) (pa_cons (pv 11) pa_nil)) (pa_cons (pe_callB (call_maxP rfl hr.units) (by rfl) T.n_max (by decide +kernel) (pa_cons (pv 11) pa_nil)) (pa_cons (pe_call G__law_signs (hr.mono (by decide)) rfl T.g__law_signs T.f__law_signs.kp T.b__law_signs .nil pass0 (pa_cons (pv 3) (pa_cons pe_int pa_nil))) pa_nil)))) pa_nil)))) (pss_one (ps_ret pe_bl)) pss_nil))))))
      (pss_one (ps_ret pe_bl)))
end
section
variable {Pr : Program} {w : World} {K : PySem.W.Frag} {mg : Str → Option Value} {base : Heap} {A : Ad} {B : Fd}
theorem ok_is_integer (T : Txt K mg A B)  : FnOk Pr w K mg base CX0 1 A.a_is_integer B.d_is_integer ["value"] (spD K (R_is_integer A)) :=
  dok T.f_is_integer sc_is_integer len_is_integer (by decide) fun cdv Ar outer s H E hr => ⟨t_is_integer K A, tm_is_integer T  hr, w_is_integer T.tc⟩
theorem ok_check_text (T : Txt K mg A B)  : FnOk Pr w K mg base CX0 1 A.a_check_text B.d_check_text ["value"] (spD K (R_check_text A)) :=
  dok T.f_check_text sc_check_text len_check_text (by decide) fun cdv Ar outer s H E hr => ⟨t_check_text K A, tm_check_text T  hr, w_check_text T.tc⟩
theorem ok_added (T : Txt K mg A B)  : FnOk Pr w K mg base CX0 1 A.a_added B.d_added ["one", "other"] (spD K (R_added A)) :=
  dok T.f_added sc_added len_added (by decide) fun cdv Ar outer s H E hr => ⟨t_added K A, tm_added T  hr, w_added T.tc⟩
theorem ok_moved (T : Txt K mg A B)  : FnOk Pr w K mg base CX0 1 A.a_moved B.d_moved ["place", "old", "new"] (spD K (R_moved A)) :=
  dok T.f_moved sc_moved len_moved (by decide) fun cdv Ar outer s H E hr => ⟨t_moved K A, tm_moved T  hr, w_moved T.tc⟩
theorem ok_Edit_low (T : Txt K mg A B)  : FnOk Pr w K mg base CX0 1 A.a_Edit_low B.d_Edit_low ["self"] (spD K (R_Edit_low A)) :=
  dok T.f_Edit_low sc_Edit_low len_Edit_low (by decide) fun cdv Ar outer s H E hr => ⟨t_Edit_low K A, tm_Edit_low T  hr, w_Edit_low T.tc⟩
theorem ok_Edit_high (T : Txt K mg A B)  : FnOk Pr w K mg base CX0 1 A.a_Edit_high B.d_Edit_high ["self"] (spD K (R_Edit_high A)) :=
  dok T.f_Edit_high sc_Edit_high len_Edit_high (by decide) fun cdv Ar outer s H E hr => ⟨t_Edit_high K A, tm_Edit_high T  hr, w_Edit_high T.tc⟩
theorem ok_Edit_fresh (T : Txt K mg A B)  : FnOk Pr w K mg base CX0 1 A.a_Edit_fresh B.d_Edit_fresh ["self"] (spD K (R_Edit_fresh A)) :=
  dok T.f_Edit_fresh sc_Edit_fresh len_Edit_fresh (by decide) fun cdv Ar outer s H E hr => ⟨t_Edit_fresh K A, tm_Edit_fresh T  hr, w_Edit_fresh T.tc⟩
theorem ok_Edit_new_high (T : Txt K mg A B)  : FnOk Pr w K mg base CX0 1 A.a_Edit_new_high B.d_Edit_new_high ["self"] (spD K (R_Edit_new_high A)) :=
  dok T.f_Edit_new_high sc_Edit_new_high len_Edit_new_high (by decide) fun cdv Ar outer s H E hr => ⟨t_Edit_new_high K A, tm_Edit_new_high T  hr, w_Edit_new_high T.tc⟩
theorem ok__law_mixed (T : Txt K mg A B)  : FnOk Pr w K mg base CX0 1 A.a__law_mixed B.d__law_mixed ["number", "k"] (spD K (R__law_mixed A)) :=
  dok T.f__law_mixed sc__law_mixed len__law_mixed (by decide) fun cdv Ar outer s H E hr => ⟨t__law_mixed K A, tm__law_mixed T  hr, w__law_mixed T.tc⟩
theorem ok__law_place (T : Txt K mg A B)  : FnOk Pr w K mg base CX0 1 A.a__law_place B.d__law_place ["signs", "at"] (spD K (R__law_place A)) :=
  dok T.f__law_place sc__law_place len__law_place (by decide) fun cdv Ar outer s H E hr => ⟨t__law_place K A, tm__law_place T  hr, w__law_place T.tc⟩
theorem ok__law_grid (T : Txt K mg A B)  : FnOk Pr w K mg base CX0 1 A.a__law_grid B.d__law_grid ["rows", "size"] (spD K (R__law_grid A)) :=
  dok T.f__law_grid sc__law_grid len__law_grid (by decide) fun cdv Ar outer s H E hr => ⟨t__law_grid K A, tm__law_grid T  hr, w__law_grid T.tc⟩
theorem ok_is_count (T : Txt K mg A B) (G_is_integer : FnOk Pr w K mg base CX0 1 A.a_is_integer B.d_is_integer ["value"] (spD K (R_is_integer A))) : FnOk Pr w K mg base CX0 2 A.a_is_count B.d_is_count ["value"] (spD K (R_is_count A)) :=
  dok T.f_is_count sc_is_count len_is_count (by decide) fun cdv Ar outer s H E hr => ⟨t_is_count K A, tm_is_count T G_is_integer hr, w_is_count T.tc⟩
theorem ok_lines_of (T : Txt K mg A B) (G_check_text : FnOk Pr w K mg base CX0 1 A.a_check_text B.d_check_text ["value"] (spD K (R_check_text A))) : FnOk Pr w K mg base CX0 2 A.a_lines_of B.d_lines_of ["text"] (spD K (R_lines_of A)) :=
  dok T.f_lines_of sc_lines_of len_lines_of (by decide) fun cdv Ar outer s H E hr => ⟨t_lines_of K A, tm_lines_of T G_check_text hr, w_lines_of T.tc⟩
theorem ok_extent_of (T : Txt K mg A B) (G_check_text : FnOk Pr w K mg base CX0 1 A.a_check_text B.d_check_text ["value"] (spD K (R_check_text A))) : FnOk Pr w K mg base CX0 2 A.a_extent_of B.d_extent_of ["text"] (spD K (R_extent_of A)) :=
  dok T.f_extent_of sc_extent_of len_extent_of (by decide) fun cdv Ar outer s H E hr => ⟨t_extent_of K A, tm_extent_of T G_check_text hr, w_extent_of T.tc⟩
theorem ok__led (T : Txt K mg A B) (G_moved : FnOk Pr w K mg base CX0 1 A.a_moved B.d_moved ["place", "old", "new"] (spD K (R_moved A))) : FnOk Pr w K mg base CX0 2 A.a__led B.d__led ["place", "low", "high", "new_high"] (spD K (R__led A)) :=
  dok T.f__led sc__led len__led (by decide) fun cdv Ar outer s H E hr => ⟨t__led K A, tm__led T G_moved hr, w__led T.tc⟩
theorem ok__law_stream (T : Txt K mg A B) (G__law_mixed : FnOk Pr w K mg base CX0 1 A.a__law_mixed B.d__law_mixed ["number", "k"] (spD K (R__law_mixed A))) : FnOk Pr w K mg base CX0 2 A.a__law_stream B.d__law_stream ["item", "k"] (spD K (R__law_stream A)) :=
  dok T.f__law_stream sc__law_stream len__law_stream (by decide) fun cdv Ar outer s H E hr => ⟨t__law_stream K A, tm__law_stream T G__law_mixed hr, w__law_stream T.tc⟩
theorem ok__law_draw (T : Txt K mg A B) (G__law_mixed : FnOk Pr w K mg base CX0 1 A.a__law_mixed B.d__law_mixed ["number", "k"] (spD K (R__law_mixed A))) : FnOk Pr w K mg base CX0 2 A.a__law_draw B.d__law_draw ["stream", "top"] (spD K (R__law_draw A)) :=
  dok T.f__law_draw sc__law_draw len__law_draw (by decide) fun cdv Ar outer s H E hr => ⟨t__law_draw K A, tm__law_draw T G__law_mixed hr, w__law_draw T.tc⟩
theorem ok_is_up_to (T : Txt K mg A B) (G_is_count : FnOk Pr w K mg base CX0 2 A.a_is_count B.d_is_count ["value"] (spD K (R_is_count A))) : FnOk Pr w K mg base CX0 3 A.a_is_up_to B.d_is_up_to ["value", "limit"] (spD K (R_is_up_to A)) :=
  dok T.f_is_up_to sc_is_up_to len_is_up_to (by decide) fun cdv Ar outer s H E hr => ⟨t_is_up_to K A, tm_is_up_to T G_is_count hr, w_is_up_to T.tc⟩
theorem ok_is_place (T : Txt K mg A B) (G_is_count : FnOk Pr w K mg base CX0 2 A.a_is_count B.d_is_count ["value"] (spD K (R_is_count A))) : FnOk Pr w K mg base CX0 3 A.a_is_place B.d_is_place ["value"] (spD K (R_is_place A)) :=
  dok T.f_is_place sc_is_place len_is_place (by decide) fun cdv Ar outer s H E hr => ⟨t_is_place K A, tm_is_place T G_is_count hr, w_is_place T.tc⟩
theorem ok_check_count (T : Txt K mg A B) (G_is_count : FnOk Pr w K mg base CX0 2 A.a_is_count B.d_is_count ["value"] (spD K (R_is_count A))) : FnOk Pr w K mg base CX0 3 A.a_check_count B.d_check_count ["value"] (spD K (R_check_count A)) :=
  dok T.f_check_count sc_check_count len_check_count (by decide) fun cdv Ar outer s H E hr => ⟨t_check_count K A, tm_check_count T G_is_count hr, w_check_count T.tc⟩
theorem ok__law_pick (T : Txt K mg A B) (G__law_draw : FnOk Pr w K mg base CX0 2 A.a__law_draw B.d__law_draw ["stream", "top"] (spD K (R__law_draw A))) : FnOk Pr w K mg base CX0 3 A.a__law_pick B.d__law_pick ["stream", "some"] (spD K (R__law_pick A)) :=
  dok T.f__law_pick sc__law_pick len__law_pick (by decide) fun cdv Ar outer s H E hr => ⟨t__law_pick K A, tm__law_pick T G__law_draw hr, w__law_pick T.tc⟩
theorem ok_check_up_to (T : Txt K mg A B) (G_is_up_to : FnOk Pr w K mg base CX0 3 A.a_is_up_to B.d_is_up_to ["value", "limit"] (spD K (R_is_up_to A))) : FnOk Pr w K mg base CX0 4 A.a_check_up_to B.d_check_up_to ["value", "limit"] (spD K (R_check_up_to A)) :=
  dok T.f_check_up_to sc_check_up_to len_check_up_to (by decide) fun cdv Ar outer s H E hr => ⟨t_check_up_to K A, tm_check_up_to T G_is_up_to hr, w_check_up_to T.tc⟩
theorem ok_check_span (T : Txt K mg A B) (G_is_place : FnOk Pr w K mg base CX0 3 A.a_is_place B.d_is_place ["value"] (spD K (R_is_place A))) : FnOk Pr w K mg base CX0 4 A.a_check_span B.d_check_span ["low", "high"] (spD K (R_check_span A)) :=
  dok T.f_check_span sc_check_span len_check_span (by decide) fun cdv Ar outer s H E hr => ⟨t_check_span K A, tm_check_span T G_is_place hr, w_check_span T.tc⟩
theorem ok_behind (T : Txt K mg A B) (G_added : FnOk Pr w K mg base CX0 1 A.a_added B.d_added ["one", "other"] (spD K (R_added A))) (G_check_count : FnOk Pr w K mg base CX0 3 A.a_check_count B.d_check_count ["value"] (spD K (R_check_count A))) (G_extent_of : FnOk Pr w K mg base CX0 2 A.a_extent_of B.d_extent_of ["text"] (spD K (R_extent_of A))) : FnOk Pr w K mg base CX0 4 A.a_behind B.d_behind ["line", "column", "text"] (spD K (R_behind A)) :=
  dok T.f_behind sc_behind len_behind (by decide) fun cdv Ar outer s H E hr => ⟨t_behind K A, tm_behind T G_added G_check_count G_extent_of hr, w_behind T.tc⟩
theorem ok_has_place (T : Txt K mg A B) (G_check_count : FnOk Pr w K mg base CX0 3 A.a_check_count B.d_check_count ["value"] (spD K (R_check_count A))) (G_lines_of : FnOk Pr w K mg base CX0 2 A.a_lines_of B.d_lines_of ["text"] (spD K (R_lines_of A))) : FnOk Pr w K mg base CX0 4 A.a_has_place B.d_has_place ["text", "line", "column"] (spD K (R_has_place A)) :=
  dok T.f_has_place sc_has_place len_has_place (by decide) fun cdv Ar outer s H E hr => ⟨t_has_place K A, tm_has_place T G_check_count G_lines_of hr, w_has_place T.tc⟩
theorem ok_Edit_forward (T : Txt K mg A B) (G__led : FnOk Pr w K mg base CX0 2 A.a__led B.d__led ["place", "low", "high", "new_high"] (spD K (R__led A))) (G_check_count : FnOk Pr w K mg base CX0 3 A.a_check_count B.d_check_count ["value"] (spD K (R_check_count A))) : FnOk Pr w K mg base CX0 4 A.a_Edit_forward B.d_Edit_forward ["self", "line", "column"] (spD K (R_Edit_forward A)) :=
  dok T.f_Edit_forward sc_Edit_forward len_Edit_forward (by decide) fun cdv Ar outer s H E hr => ⟨t_Edit_forward K A, tm_Edit_forward T G__led G_check_count hr, w_Edit_forward T.tc⟩
theorem ok_Edit_back (T : Txt K mg A B) (G__led : FnOk Pr w K mg base CX0 2 A.a__led B.d__led ["place", "low", "high", "new_high"] (spD K (R__led A))) (G_check_count : FnOk Pr w K mg base CX0 3 A.a_check_count B.d_check_count ["value"] (spD K (R_check_count A))) : FnOk Pr w K mg base CX0 4 A.a_Edit_back B.d_Edit_back ["self", "line", "column"] (spD K (R_Edit_back A)) :=
  dok T.f_Edit_back sc_Edit_back len_Edit_back (by decide) fun cdv Ar outer s H E hr => ⟨t_Edit_back K A, tm_Edit_back T G__led G_check_count hr, w_Edit_back T.tc⟩
theorem ok__law_signs (T : Txt K mg A B) (G__law_draw : FnOk Pr w K mg base CX0 2 A.a__law_draw B.d__law_draw ["stream", "top"] (spD K (R__law_draw A))) (G__law_pick : FnOk Pr w K mg base CX0 3 A.a__law_pick B.d__law_pick ["stream", "some"] (spD K (R__law_pick A))) : FnOk Pr w K mg base CX0 4 A.a__law_signs B.d__law_signs ["stream", "most"] (spD K (R__law_signs A)) :=
  dok T.f__law_signs sc__law_signs len__law_signs (by decide) fun cdv Ar outer s H E hr => ⟨t__law_signs K A, tm__law_signs T G__law_draw G__law_pick hr, w__law_signs T.tc⟩
theorem ok_index_of (T : Txt K mg A B) (G_has_place : FnOk Pr w K mg base CX0 4 A.a_has_place B.d_has_place ["text", "line", "column"] (spD K (R_has_place A))) (G_lines_of : FnOk Pr w K mg base CX0 2 A.a_lines_of B.d_lines_of ["text"] (spD K (R_lines_of A))) : FnOk Pr w K mg base CX0 5 A.a_index_of B.d_index_of ["text", "line", "column"] (spD K (R_index_of A)) :=
  dok T.f_index_of sc_index_of len_index_of (by decide) fun cdv Ar outer s H E hr => ⟨t_index_of K A, tm_index_of T G_has_place G_lines_of hr, w_index_of T.tc⟩
theorem ok_place_of (T : Txt K mg A B) (G_check_text : FnOk Pr w K mg base CX0 1 A.a_check_text B.d_check_text ["value"] (spD K (R_check_text A))) (G_check_up_to : FnOk Pr w K mg base CX0 4 A.a_check_up_to B.d_check_up_to ["value", "limit"] (spD K (R_check_up_to A))) (G_extent_of : FnOk Pr w K mg base CX0 2 A.a_extent_of B.d_extent_of ["text"] (spD K (R_extent_of A))) : FnOk Pr w K mg base CX0 5 A.a_place_of B.d_place_of ["text", "index"] (spD K (R_place_of A)) :=
  dok T.f_place_of sc_place_of len_place_of (by decide) fun cdv Ar outer s H E hr => ⟨t_place_of K A, tm_place_of T G_check_text G_check_up_to G_extent_of hr, w_place_of T.tc⟩
theorem ok_Edit_init (T : Txt K mg A B) (G_behind : FnOk Pr w K mg base CX0 4 A.a_behind B.d_behind ["line", "column", "text"] (spD K (R_behind A))) (G_check_span : FnOk Pr w K mg base CX0 4 A.a_check_span B.d_check_span ["low", "high"] (spD K (R_check_span A))) (G_check_text : FnOk Pr w K mg base CX0 1 A.a_check_text B.d_check_text ["value"] (spD K (R_check_text A))) : FnOk Pr w K mg base CX0 5 A.a_Edit_init B.d_Edit_init ["self", "low", "high", "fresh"] (spI K A.c_Edit (R_Edit_init A)) :=
  dokI T.f_Edit_init sc_Edit_init len_Edit_init (by decide) fun cdv Ar outer s H E hr => ⟨t_Edit_init K A, tm_Edit_init T G_behind G_check_span G_check_text hr, w_Edit_init T.tc⟩
theorem ok__law_cut (T : Txt K mg A B) (G__law_draw : FnOk Pr w K mg base CX0 2 A.a__law_draw B.d__law_draw ["stream", "top"] (spD K (R__law_draw A))) (G__law_pick : FnOk Pr w K mg base CX0 3 A.a__law_pick B.d__law_pick ["stream", "some"] (spD K (R__law_pick A))) (G__law_signs : FnOk Pr w K mg base CX0 4 A.a__law_signs B.d__law_signs ["stream", "most"] (spD K (R__law_signs A))) : FnOk Pr w K mg base CX0 5 A.a__law_cut B.d__law_cut ["stream", "signs"] (spD K (R__law_cut A)) :=
  dok T.f__law_cut sc__law_cut len__law_cut (by decide) fun cdv Ar outer s H E hr => ⟨t__law_cut K A, tm__law_cut T G__law_draw G__law_pick G__law_signs hr, w__law_cut T.tc⟩
theorem ok__law_moves_right (T : Txt K mg A B) (G_Edit_back : FnOk Pr w K mg base CX0 4 A.a_Edit_back B.d_Edit_back ["self", "line", "column"] (spD K (R_Edit_back A))) (G_Edit_forward : FnOk Pr w K mg base CX0 4 A.a_Edit_forward B.d_Edit_forward ["self", "line", "column"] (spD K (R_Edit_forward A))) (G_Edit_high : FnOk Pr w K mg base CX0 1 A.a_Edit_high B.d_Edit_high ["self"] (spD K (R_Edit_high A))) (G_Edit_low : FnOk Pr w K mg base CX0 1 A.a_Edit_low B.d_Edit_low ["self"] (spD K (R_Edit_low A))) (G_Edit_new_high : FnOk Pr w K mg base CX0 1 A.a_Edit_new_high B.d_Edit_new_high ["self"] (spD K (R_Edit_new_high A))) (G__law_grid : FnOk Pr w K mg base CX0 1 A.a__law_grid B.d__law_grid ["rows", "size"] (spD K (R__law_grid A))) : FnOk Pr w K mg base CX0 5 A.a__law_moves_right B.d__law_moves_right ["edit"] (spD K (R__law_moves_right A)) :=
  dok T.f__law_moves_right sc__law_moves_right len__law_moves_right (by decide) fun cdv Ar outer s H E hr => ⟨t__law_moves_right K A, tm__law_moves_right T G_Edit_back G_Edit_forward G_Edit_high G_Edit_low G_Edit_new_high G__law_grid hr, w__law_moves_right T.tc⟩
theorem ok_part_of (T : Txt K mg A B) (G_check_span : FnOk Pr w K mg base CX0 4 A.a_check_span B.d_check_span ["low", "high"] (spD K (R_check_span A))) (G_check_text : FnOk Pr w K mg base CX0 1 A.a_check_text B.d_check_text ["value"] (spD K (R_check_text A))) (G_index_of : FnOk Pr w K mg base CX0 5 A.a_index_of B.d_index_of ["text", "line", "column"] (spD K (R_index_of A))) : FnOk Pr w K mg base CX0 6 A.a_part_of B.d_part_of ["text", "low", "high"] (spD K (R_part_of A)) :=
  dok T.f_part_of sc_part_of len_part_of (by decide) fun cdv Ar outer s H E hr => ⟨t_part_of K A, tm_part_of T G_check_span G_check_text G_index_of hr, w_part_of T.tc⟩
theorem ok_Edit_call (T : Txt K mg A B) (G_index_of : FnOk Pr w K mg base CX0 5 A.a_index_of B.d_index_of ["text", "line", "column"] (spD K (R_index_of A))) : FnOk Pr w K mg base CX0 6 A.a_Edit_call B.d_Edit_call ["self", "text"] (spD K (R_Edit_call A)) :=
  dok T.f_Edit_call sc_Edit_call len_Edit_call (by decide) fun cdv Ar outer s H E hr => ⟨t_Edit_call K A, tm_Edit_call T G_index_of hr, w_Edit_call T.tc⟩
theorem ok_Edit_opposite (T : Txt K mg A B) (G_Edit_init : FnOk Pr w K mg base CX0 5 A.a_Edit_init B.d_Edit_init ["self", "low", "high", "fresh"] (spI K A.c_Edit (R_Edit_init A))) (G_part_of : FnOk Pr w K mg base CX0 6 A.a_part_of B.d_part_of ["text", "low", "high"] (spD K (R_part_of A))) : FnOk Pr w K mg base CX0 7 A.a_Edit_opposite B.d_Edit_opposite ["self", "text"] (spD K (R_Edit_opposite A)) :=
  dok T.f_Edit_opposite sc_Edit_opposite len_Edit_opposite (by decide) fun cdv Ar outer s H E hr => ⟨t_Edit_opposite K A, tm_Edit_opposite T G_Edit_init G_part_of hr, w_Edit_opposite T.tc⟩
theorem ok__law_signs_right (T : Txt K mg A B) (G_Edit_call : FnOk Pr w K mg base CX0 6 A.a_Edit_call B.d_Edit_call ["self", "text"] (spD K (R_Edit_call A))) (G_Edit_forward : FnOk Pr w K mg base CX0 4 A.a_Edit_forward B.d_Edit_forward ["self", "line", "column"] (spD K (R_Edit_forward A))) (G_Edit_fresh : FnOk Pr w K mg base CX0 1 A.a_Edit_fresh B.d_Edit_fresh ["self"] (spD K (R_Edit_fresh A))) (G_index_of : FnOk Pr w K mg base CX0 5 A.a_index_of B.d_index_of ["text", "line", "column"] (spD K (R_index_of A))) (G_place_of : FnOk Pr w K mg base CX0 5 A.a_place_of B.d_place_of ["text", "index"] (spD K (R_place_of A))) : FnOk Pr w K mg base CX0 7 A.a__law_signs_right B.d__law_signs_right ["signs", "edit"] (spD K (R__law_signs_right A)) :=
  dok T.f__law_signs_right sc__law_signs_right len__law_signs_right (by decide) fun cdv Ar outer s H E hr => ⟨t__law_signs_right K A, tm__law_signs_right T G_Edit_call G_Edit_forward G_Edit_fresh G_index_of G_place_of hr, w__law_signs_right T.tc⟩
theorem ok__law_opposite_right (T : Txt K mg A B) (G_Edit_back : FnOk Pr w K mg base CX0 4 A.a_Edit_back B.d_Edit_back ["self", "line", "column"] (spD K (R_Edit_back A))) (G_Edit_forward : FnOk Pr w K mg base CX0 4 A.a_Edit_forward B.d_Edit_forward ["self", "line", "column"] (spD K (R_Edit_forward A))) (G_Edit_opposite : FnOk Pr w K mg base CX0 7 A.a_Edit_opposite B.d_Edit_opposite ["self", "text"] (spD K (R_Edit_opposite A))) (G__law_grid : FnOk Pr w K mg base CX0 1 A.a__law_grid B.d__law_grid ["rows", "size"] (spD K (R__law_grid A))) : FnOk Pr w K mg base CX0 8 A.a__law_opposite_right B.d__law_opposite_right ["signs", "edit"] (spD K (R__law_opposite_right A)) :=
  dok T.f__law_opposite_right sc__law_opposite_right len__law_opposite_right (by decide) fun cdv Ar outer s H E hr => ⟨t__law_opposite_right K A, tm__law_opposite_right T G_Edit_back G_Edit_forward G_Edit_opposite G__law_grid hr, w__law_opposite_right T.tc⟩
theorem ok_law (T : Txt K mg A B) (G_Edit_init : FnOk Pr w K mg base CX0 5 A.a_Edit_init B.d_Edit_init ["self", "low", "high", "fresh"] (spI K A.c_Edit (R_Edit_init A))) (G__law_cut : FnOk Pr w K mg base CX0 5 A.a__law_cut B.d__law_cut ["stream", "signs"] (spD K (R__law_cut A))) (G__law_draw : FnOk Pr w K mg base CX0 2 A.a__law_draw B.d__law_draw ["stream", "top"] (spD K (R__law_draw A))) (G__law_moves_right : FnOk Pr w K mg base CX0 5 A.a__law_moves_right B.d__law_moves_right ["edit"] (spD K (R__law_moves_right A))) (G__law_opposite_right : FnOk Pr w K mg base CX0 8 A.a__law_opposite_right B.d__law_opposite_right ["signs", "edit"] (spD K (R__law_opposite_right A))) (G__law_place : FnOk Pr w K mg base CX0 1 A.a__law_place B.d__law_place ["signs", "at"] (spD K (R__law_place A))) (G__law_signs : FnOk Pr w K mg base CX0 4 A.a__law_signs B.d__law_signs ["stream", "most"] (spD K (R__law_signs A))) (G__law_signs_right : FnOk Pr w K mg base CX0 7 A.a__law_signs_right B.d__law_signs_right ["signs", "edit"] (spD K (R__law_signs_right A))) (G__law_stream : FnOk Pr w K mg base CX0 2 A.a__law_stream B.d__law_stream ["item", "k"] (spD K (R__law_stream A))) : FnOk Pr w K mg base CX0 9 A.a_law B.d_law ["script"] (spD K (R_law A)) :=
  dok T.f_law sc_law len_law (by decide) fun cdv Ar outer s H E hr => ⟨t_law K A, tm_law T G_Edit_init G__law_cut G__law_draw G__law_moves_right G__law_opposite_right G__law_place G__law_signs G__law_signs_right G__law_stream hr, w_law T.tc⟩
theorem ok_all (T : Txt K mg A B) : FnOk Pr w K mg base CX0 9 A.a_law B.d_law ["script"] (spD K (R_law A)) := by
  have h_is_integer := ok_is_integer (Pr := Pr) (w := w) (base := base) T 
  have h_check_text := ok_check_text (Pr := Pr) (w := w) (base := base) T 
  have h_added := ok_added (Pr := Pr) (w := w) (base := base) T 
  have h_moved := ok_moved (Pr := Pr) (w := w) (base := base) T 
  have h_Edit_low := ok_Edit_low (Pr := Pr) (w := w) (base := base) T 
  have h_Edit_high := ok_Edit_high (Pr := Pr) (w := w) (base := base) T 
  have h_Edit_fresh := ok_Edit_fresh (Pr := Pr) (w := w) (base := base) T 
  have h_Edit_new_high := ok_Edit_new_high (Pr := Pr) (w := w) (base := base) T 
  have h__law_mixed := ok__law_mixed (Pr := Pr) (w := w) (base := base) T 
  have h__law_place := ok__law_place (Pr := Pr) (w := w) (base := base) T 
  have h__law_grid := ok__law_grid (Pr := Pr) (w := w) (base := base) T 
  have h_is_count := ok_is_count (Pr := Pr) (w := w) (base := base) T h_is_integer
  have h_lines_of := ok_lines_of (Pr := Pr) (w := w) (base := base) T h_check_text
  have h_extent_of := ok_extent_of (Pr := Pr) (w := w) (base := base) T h_check_text
  have h__led := ok__led (Pr := Pr) (w := w) (base := base) T h_moved
  have h__law_stream := ok__law_stream (Pr := Pr) (w := w) (base := base) T h__law_mixed
  have h__law_draw := ok__law_draw (Pr := Pr) (w := w) (base := base) T h__law_mixed
  have h_is_up_to := ok_is_up_to (Pr := Pr) (w := w) (base := base) T h_is_count
  have h_is_place := ok_is_place (Pr := Pr) (w := w) (base := base) T h_is_count
  have h_check_count := ok_check_count (Pr := Pr) (w := w) (base := base) T h_is_count
  have h__law_pick := ok__law_pick (Pr := Pr) (w := w) (base := base) T h__law_draw
  have h_check_up_to := ok_check_up_to (Pr := Pr) (w := w) (base := base) T h_is_up_to
  have h_check_span := ok_check_span (Pr := Pr) (w := w) (base := base) T h_is_place
  have h_behind := ok_behind (Pr := Pr) (w := w) (base := base) T h_added h_check_count h_extent_of
  have h_has_place := ok_has_place (Pr := Pr) (w := w) (base := base) T h_check_count h_lines_of
  have h_Edit_forward := ok_Edit_forward (Pr := Pr) (w := w) (base := base) T h__led h_check_count
  have h_Edit_back := ok_Edit_back (Pr := Pr) (w := w) (base := base) T h__led h_check_count
  have h__law_signs := ok__law_signs (Pr := Pr) (w := w) (base := base) T h__law_draw h__law_pick
  have h_index_of := ok_index_of (Pr := Pr) (w := w) (base := base) T h_has_place h_lines_of
  have h_place_of := ok_place_of (Pr := Pr) (w := w) (base := base) T h_check_text h_check_up_to h_extent_of
  have h_Edit_init := ok_Edit_init (Pr := Pr) (w := w) (base := base) T h_behind h_check_span h_check_text
  have h__law_cut := ok__law_cut (Pr := Pr) (w := w) (base := base) T h__law_draw h__law_pick h__law_signs
  have h__law_moves_right := ok__law_moves_right (Pr := Pr) (w := w) (base := base) T h_Edit_back h_Edit_forward h_Edit_high h_Edit_low h_Edit_new_high h__law_grid
  have h_part_of := ok_part_of (Pr := Pr) (w := w) (base := base) T h_check_span h_check_text h_index_of
  have h_Edit_call := ok_Edit_call (Pr := Pr) (w := w) (base := base) T h_index_of
  have h_Edit_opposite := ok_Edit_opposite (Pr := Pr) (w := w) (base := base) T h_Edit_init h_part_of
  have h__law_signs_right := ok__law_signs_right (Pr := Pr) (w := w) (base := base) T h_Edit_call h_Edit_forward h_Edit_fresh h_index_of h_place_of
  have h__law_opposite_right := ok__law_opposite_right (Pr := Pr) (w := w) (base := base) T h_Edit_back h_Edit_forward h_Edit_opposite h__law_grid
  have h_law := ok_law (Pr := Pr) (w := w) (base := base) T h_Edit_init h__law_cut h__law_draw h__law_moves_right h__law_opposite_right h__law_place h__law_signs h__law_signs_right h__law_stream
  exact h_law
end
theorem all_mk {l : PySem.W.OpenLaw} {w : World} {K : PySem.W.Frag} {h : Heap} {mg : Str → Option Value} {fa : Addr} (X : K.In h) (G : h.Ns mainGlobals mg) (hfa : mg "law" = some (.ref fa))
    {c_Edit a_is_integer a_check_text a_added a_moved a_Edit_low a_Edit_high a_Edit_fresh a_Edit_new_high a__law_mixed a__law_place a__law_grid a_is_count a_lines_of a_extent_of a__led a__law_stream a__law_draw a_is_up_to a_is_place a_check_count a__law_pick a_check_up_to a_check_span a_behind a_has_place a_Edit_forward a_Edit_back a__law_signs a_index_of a_place_of a_Edit_init a__law_cut a__law_moves_right a_part_of a_Edit_call a_Edit_opposite a__law_signs_right a__law_opposite_right a_law p_Edit_fresh p_Edit_high p_Edit_low p_Edit_new_high : Addr}
    {od0 an0 : Option Addr} {sl0 : Array (Option Value)} {oc0 kV0 dc0 pm0 cd0 ct0 : Value}
    {od1 an1 : Option Addr} {sl1 : Array (Option Value)} {oc1 kV1 dc1 pm1 cd1 ct1 : Value}
    {od2 an2 : Option Addr} {sl2 : Array (Option Value)} {oc2 kV2 dc2 pm2 cd2 ct2 : Value}
    {od3 an3 : Option Addr} {sl3 : Array (Option Value)} {oc3 kV3 dc3 pm3 cd3 ct3 : Value}
    {od4 an4 : Option Addr} {sl4 : Array (Option Value)} {oc4 kV4 dc4 pm4 cd4 ct4 : Value}
    {od5 an5 : Option Addr} {sl5 : Array (Option Value)} {oc5 kV5 dc5 pm5 cd5 ct5 : Value}
    {od6 an6 : Option Addr} {sl6 : Array (Option Value)} {oc6 kV6 dc6 pm6 cd6 ct6 : Value}
    {od7 an7 : Option Addr} {sl7 : Array (Option Value)} {oc7 kV7 dc7 pm7 cd7 ct7 : Value}
    {od8 an8 : Option Addr} {sl8 : Array (Option Value)} {oc8 kV8 dc8 pm8 cd8 ct8 : Value}
    {od9 an9 : Option Addr} {sl9 : Array (Option Value)} {oc9 kV9 dc9 pm9 cd9 ct9 : Value}
    {od10 an10 : Option Addr} {sl10 : Array (Option Value)} {oc10 kV10 dc10 pm10 cd10 ct10 : Value}
    {od11 an11 : Option Addr} {sl11 : Array (Option Value)} {oc11 kV11 dc11 pm11 cd11 ct11 : Value}
    {od12 an12 : Option Addr} {sl12 : Array (Option Value)} {oc12 kV12 dc12 pm12 cd12 ct12 : Value}
    {od13 an13 : Option Addr} {sl13 : Array (Option Value)} {oc13 kV13 dc13 pm13 cd13 ct13 : Value}
    {od14 an14 : Option Addr} {sl14 : Array (Option Value)} {oc14 kV14 dc14 pm14 cd14 ct14 : Value}
    {od15 an15 : Option Addr} {sl15 : Array (Option Value)} {oc15 kV15 dc15 pm15 cd15 ct15 : Value}
    {od16 an16 : Option Addr} {sl16 : Array (Option Value)} {oc16 kV16 dc16 pm16 cd16 ct16 : Value}
    {od17 an17 : Option Addr} {sl17 : Array (Option Value)} {oc17 kV17 dc17 pm17 cd17 ct17 : Value}
    {od18 an18 : Option Addr} {sl18 : Array (Option Value)} {oc18 kV18 dc18 pm18 cd18 ct18 : Value}
    {od19 an19 : Option Addr} {sl19 : Array (Option Value)} {oc19 kV19 dc19 pm19 cd19 ct19 : Value}
    {od20 an20 : Option Addr} {sl20 : Array (Option Value)} {oc20 kV20 dc20 pm20 cd20 ct20 : Value}
    {od21 an21 : Option Addr} {sl21 : Array (Option Value)} {oc21 kV21 dc21 pm21 cd21 ct21 : Value}
    {od22 an22 : Option Addr} {sl22 : Array (Option Value)} {oc22 kV22 dc22 pm22 cd22 ct22 : Value}
    {od23 an23 : Option Addr} {sl23 : Array (Option Value)} {oc23 kV23 dc23 pm23 cd23 ct23 : Value}
    {od24 an24 : Option Addr} {sl24 : Array (Option Value)} {oc24 kV24 dc24 pm24 cd24 ct24 : Value}
    {od25 an25 : Option Addr} {sl25 : Array (Option Value)} {oc25 kV25 dc25 pm25 cd25 ct25 : Value}
    {od26 an26 : Option Addr} {sl26 : Array (Option Value)} {oc26 kV26 dc26 pm26 cd26 ct26 : Value}
    {od27 an27 : Option Addr} {sl27 : Array (Option Value)} {oc27 kV27 dc27 pm27 cd27 ct27 : Value}
    {od28 an28 : Option Addr} {sl28 : Array (Option Value)} {oc28 kV28 dc28 pm28 cd28 ct28 : Value}
    {od29 an29 : Option Addr} {sl29 : Array (Option Value)} {oc29 kV29 dc29 pm29 cd29 ct29 : Value}
    {od30 an30 : Option Addr} {sl30 : Array (Option Value)} {oc30 kV30 dc30 pm30 cd30 ct30 : Value}
    {od31 an31 : Option Addr} {sl31 : Array (Option Value)} {oc31 kV31 dc31 pm31 cd31 ct31 : Value}
    {od32 an32 : Option Addr} {sl32 : Array (Option Value)} {oc32 kV32 dc32 pm32 cd32 ct32 : Value}
    {od33 an33 : Option Addr} {sl33 : Array (Option Value)} {oc33 kV33 dc33 pm33 cd33 ct33 : Value}
    {od34 an34 : Option Addr} {sl34 : Array (Option Value)} {oc34 kV34 dc34 pm34 cd34 ct34 : Value}
    {od35 an35 : Option Addr} {sl35 : Array (Option Value)} {oc35 kV35 dc35 pm35 cd35 ct35 : Value}
    {od36 an36 : Option Addr} {sl36 : Array (Option Value)} {oc36 kV36 dc36 pm36 cd36 ct36 : Value}
    {od37 an37 : Option Addr} {sl37 : Array (Option Value)} {oc37 kV37 dc37 pm37 cd37 ct37 : Value}
    {od38 an38 : Option Addr} {sl38 : Array (Option Value)} {oc38 kV38 dc38 pm38 cd38 ct38 : Value}
    {rs_Edit_fresh : List Value}
    {rs_Edit_high : List Value}
    {rs_Edit_low : List Value}
    {rs_Edit_new_high : List Value}
    (zoa_Edit : PySem.W.findIn K (.ref c_Edit) "__call__" = some (some (.ref a_Edit_call)))
    (zof_Edit : PySem.W.isFn K (.ref a_Edit_call) = true)
    (zoi_Edit : PySem.W.fnIn K a_Edit_call = true)
    (zg__law_cut : PySem.W.nsIn K mainGlobals "_law_cut" = some (some (.ref a__law_cut)))
    (zg__law_draw : PySem.W.nsIn K mainGlobals "_law_draw" = some (some (.ref a__law_draw)))
    (zg__law_grid : PySem.W.nsIn K mainGlobals "_law_grid" = some (some (.ref a__law_grid)))
    (zg__law_mixed : PySem.W.nsIn K mainGlobals "_law_mixed" = some (some (.ref a__law_mixed)))
    (zg__law_moves_right : PySem.W.nsIn K mainGlobals "_law_moves_right" = some (some (.ref a__law_moves_right)))
    (zg__law_opposite_right : PySem.W.nsIn K mainGlobals "_law_opposite_right" = some (some (.ref a__law_opposite_right)))
    (zg__law_pick : PySem.W.nsIn K mainGlobals "_law_pick" = some (some (.ref a__law_pick)))
    (zg__law_place : PySem.W.nsIn K mainGlobals "_law_place" = some (some (.ref a__law_place)))
    (zg__law_signs : PySem.W.nsIn K mainGlobals "_law_signs" = some (some (.ref a__law_signs)))
    (zg__law_signs_right : PySem.W.nsIn K mainGlobals "_law_signs_right" = some (some (.ref a__law_signs_right)))
    (zg__law_stream : PySem.W.nsIn K mainGlobals "_law_stream" = some (some (.ref a__law_stream)))
    (zg__led : PySem.W.nsIn K mainGlobals "_led" = some (some (.ref a__led)))
    (zg_added : PySem.W.nsIn K mainGlobals "added" = some (some (.ref a_added)))
    (zg_behind : PySem.W.nsIn K mainGlobals "behind" = some (some (.ref a_behind)))
    (zg_check_count : PySem.W.nsIn K mainGlobals "check_count" = some (some (.ref a_check_count)))
    (zg_check_span : PySem.W.nsIn K mainGlobals "check_span" = some (some (.ref a_check_span)))
    (zg_check_text : PySem.W.nsIn K mainGlobals "check_text" = some (some (.ref a_check_text)))
    (zg_check_up_to : PySem.W.nsIn K mainGlobals "check_up_to" = some (some (.ref a_check_up_to)))
    (zg_extent_of : PySem.W.nsIn K mainGlobals "extent_of" = some (some (.ref a_extent_of)))
    (zg_has_place : PySem.W.nsIn K mainGlobals "has_place" = some (some (.ref a_has_place)))
    (zg_index_of : PySem.W.nsIn K mainGlobals "index_of" = some (some (.ref a_index_of)))
    (zg_is_count : PySem.W.nsIn K mainGlobals "is_count" = some (some (.ref a_is_count)))
    (zg_is_integer : PySem.W.nsIn K mainGlobals "is_integer" = some (some (.ref a_is_integer)))
    (zg_is_place : PySem.W.nsIn K mainGlobals "is_place" = some (some (.ref a_is_place)))
    (zg_is_up_to : PySem.W.nsIn K mainGlobals "is_up_to" = some (some (.ref a_is_up_to)))
    (zg_lines_of : PySem.W.nsIn K mainGlobals "lines_of" = some (some (.ref a_lines_of)))
    (zg_moved : PySem.W.nsIn K mainGlobals "moved" = some (some (.ref a_moved)))
    (zg_part_of : PySem.W.nsIn K mainGlobals "part_of" = some (some (.ref a_part_of)))
    (zg_place_of : PySem.W.nsIn K mainGlobals "place_of" = some (some (.ref a_place_of)))
    (zc_Edit : PySem.W.nsIn K mainGlobals "Edit" = some (some (.ref c_Edit)))
    (zme_Edit_back : PySem.W.findIn K (.ref c_Edit) "back" = some (some (.ref a_Edit_back)))
    (zmf_Edit_back : PySem.W.isFn K (.ref a_Edit_back) = true)
    (zme_Edit_forward : PySem.W.findIn K (.ref c_Edit) "forward" = some (some (.ref a_Edit_forward)))
    (zmf_Edit_forward : PySem.W.isFn K (.ref a_Edit_forward) = true)
    (zme_Edit_opposite : PySem.W.findIn K (.ref c_Edit) "opposite" = some (some (.ref a_Edit_opposite)))
    (zmf_Edit_opposite : PySem.W.isFn K (.ref a_Edit_opposite) = true)
    (zki_Edit : PySem.W.findIn K (.ref c_Edit) "__init__" = some (some (.ref a_Edit_init)))
    (zkf_Edit : PySem.W.isFn K (.ref a_Edit_init) = true)
    (zkm_Edit : PySem.W.makesIn K c_Edit = true)
    (zkk_Edit : PySem.W.keepIn K (.ref c_Edit) = true)
    (zn_bool : PySem.W.nsIn K mainGlobals "bool" = some none)
    (zn_enumerate : PySem.W.nsIn K mainGlobals "enumerate" = some none)
    (zn_int : PySem.W.nsIn K mainGlobals "int" = some none)
    (zn_isinstance : PySem.W.nsIn K mainGlobals "isinstance" = some none)
    (zn_len : PySem.W.nsIn K mainGlobals "len" = some none)
    (zn_list : PySem.W.nsIn K mainGlobals "list" = some none)
    (zn_max : PySem.W.nsIn K mainGlobals "max" = some none)
    (zn_min : PySem.W.nsIn K mainGlobals "min" = some none)
    (zn_range : PySem.W.nsIn K mainGlobals "range" = some none)
    (zn_str : PySem.W.nsIn K mainGlobals "str" = some none)
    (zn_sum : PySem.W.nsIn K mainGlobals "sum" = some none)
    (zn_tuple : PySem.W.nsIn K mainGlobals "tuple" = some none)
    (zpa_Edit_fresh : PySem.W.findIn K (.ref c_Edit) "fresh" = some (some (.ref p_Edit_fresh)))
    (zpg_Edit_fresh : PySem.W.specialIn K (.ref p_Edit_fresh) "__get__" = some (some (.builtin "property.__get__")))
    (zpt_Edit_fresh : PySem.W.takesIn K (.ref p_Edit_fresh) = some true)
    (zpr_Edit_fresh : PySem.W.recIn K p_Edit_fresh "property" = some (.ref a_Edit_fresh :: rs_Edit_fresh))
    (zpa_Edit_high : PySem.W.findIn K (.ref c_Edit) "high" = some (some (.ref p_Edit_high)))
    (zpg_Edit_high : PySem.W.specialIn K (.ref p_Edit_high) "__get__" = some (some (.builtin "property.__get__")))
    (zpt_Edit_high : PySem.W.takesIn K (.ref p_Edit_high) = some true)
    (zpr_Edit_high : PySem.W.recIn K p_Edit_high "property" = some (.ref a_Edit_high :: rs_Edit_high))
    (zpa_Edit_low : PySem.W.findIn K (.ref c_Edit) "low" = some (some (.ref p_Edit_low)))
    (zpg_Edit_low : PySem.W.specialIn K (.ref p_Edit_low) "__get__" = some (some (.builtin "property.__get__")))
    (zpt_Edit_low : PySem.W.takesIn K (.ref p_Edit_low) = some true)
    (zpr_Edit_low : PySem.W.recIn K p_Edit_low "property" = some (.ref a_Edit_low :: rs_Edit_low))
    (zpa_Edit_new_high : PySem.W.findIn K (.ref c_Edit) "new_high" = some (some (.ref p_Edit_new_high)))
    (zpg_Edit_new_high : PySem.W.specialIn K (.ref p_Edit_new_high) "__get__" = some (some (.builtin "property.__get__")))
    (zpt_Edit_new_high : PySem.W.takesIn K (.ref p_Edit_new_high) = some true)
    (zpr_Edit_new_high : PySem.W.recIn K p_Edit_new_high "property" = some (.ref a_Edit_new_high :: rs_Edit_new_high))
    (zg_law : PySem.W.nsIn K mainGlobals "law" = some (some (.ref a_law)))
    (zcg_Edit : PySem.W.plainGet K c_Edit Str.empty = true)
    (zch_Edit : PySem.W.hasDictIn K c_Edit = true)
    (zcp_Edit : PySem.W.plainOver K c_Edit = true)
    (zcs_Edit : PySem.W.findIn K (.ref c_Edit) "__setattr__" = some (some (.builtin "object.__setattr__")))
    (zna_Edit__low : PySem.W.findIn K (.ref c_Edit) "_low" = some none)
    (zna_Edit__high : PySem.W.findIn K (.ref c_Edit) "_high" = some none)
    (zna_Edit__fresh : PySem.W.findIn K (.ref c_Edit) "_fresh" = some none)
    (zna_Edit__new_high : PySem.W.findIn K (.ref c_Edit) "_new_high" = some none)
    (zl_is_integer : K.lookup a_is_integer = some ⟨oc0, od0, .func (PySem.W.fnOf "is_integer" "is_integer" (defArgs s_is_integer) (defBody s_is_integer) (defScope s_is_integer) .none kV0 dc0 pm0 an0 cd0 ct0), sl0⟩)
    (zd_is_integer : PySem.W.codeIn K cd0 "is_integer" = true)
    (ze_is_integer : PySem.W.keepIn K (.ref a_is_integer) = true)
    (zl_check_text : K.lookup a_check_text = some ⟨oc1, od1, .func (PySem.W.fnOf "check_text" "check_text" (defArgs s_check_text) (defBody s_check_text) (defScope s_check_text) .none kV1 dc1 pm1 an1 cd1 ct1), sl1⟩)
    (zd_check_text : PySem.W.codeIn K cd1 "check_text" = true)
    (ze_check_text : PySem.W.keepIn K (.ref a_check_text) = true)
    (zl_added : K.lookup a_added = some ⟨oc2, od2, .func (PySem.W.fnOf "added" "added" (defArgs s_added) (defBody s_added) (defScope s_added) .none kV2 dc2 pm2 an2 cd2 ct2), sl2⟩)
    (zd_added : PySem.W.codeIn K cd2 "added" = true)
    (ze_added : PySem.W.keepIn K (.ref a_added) = true)
    (zl_moved : K.lookup a_moved = some ⟨oc3, od3, .func (PySem.W.fnOf "moved" "moved" (defArgs s_moved) (defBody s_moved) (defScope s_moved) .none kV3 dc3 pm3 an3 cd3 ct3), sl3⟩)
    (zd_moved : PySem.W.codeIn K cd3 "moved" = true)
    (ze_moved : PySem.W.keepIn K (.ref a_moved) = true)
    (zl_Edit_low : K.lookup a_Edit_low = some ⟨oc4, od4, .func (PySem.W.fnOf "low" "Edit.low" (defArgs s_Edit_low) (defBody s_Edit_low) (defScope s_Edit_low) .none kV4 dc4 pm4 an4 cd4 ct4), sl4⟩)
    (zd_Edit_low : PySem.W.codeIn K cd4 "Edit.low" = true)
    (ze_Edit_low : PySem.W.keepIn K (.ref a_Edit_low) = true)
    (zl_Edit_high : K.lookup a_Edit_high = some ⟨oc5, od5, .func (PySem.W.fnOf "high" "Edit.high" (defArgs s_Edit_high) (defBody s_Edit_high) (defScope s_Edit_high) .none kV5 dc5 pm5 an5 cd5 ct5), sl5⟩)
    (zd_Edit_high : PySem.W.codeIn K cd5 "Edit.high" = true)
    (ze_Edit_high : PySem.W.keepIn K (.ref a_Edit_high) = true)
    (zl_Edit_fresh : K.lookup a_Edit_fresh = some ⟨oc6, od6, .func (PySem.W.fnOf "fresh" "Edit.fresh" (defArgs s_Edit_fresh) (defBody s_Edit_fresh) (defScope s_Edit_fresh) .none kV6 dc6 pm6 an6 cd6 ct6), sl6⟩)
    (zd_Edit_fresh : PySem.W.codeIn K cd6 "Edit.fresh" = true)
    (ze_Edit_fresh : PySem.W.keepIn K (.ref a_Edit_fresh) = true)
    (zl_Edit_new_high : K.lookup a_Edit_new_high = some ⟨oc7, od7, .func (PySem.W.fnOf "new_high" "Edit.new_high" (defArgs s_Edit_new_high) (defBody s_Edit_new_high) (defScope s_Edit_new_high) .none kV7 dc7 pm7 an7 cd7 ct7), sl7⟩)
    (zd_Edit_new_high : PySem.W.codeIn K cd7 "Edit.new_high" = true)
    (ze_Edit_new_high : PySem.W.keepIn K (.ref a_Edit_new_high) = true)
    (zl__law_mixed : K.lookup a__law_mixed = some ⟨oc8, od8, .func (PySem.W.fnOf "_law_mixed" "_law_mixed" (defArgs s__law_mixed) (defBody s__law_mixed) (defScope s__law_mixed) .none kV8 dc8 pm8 an8 cd8 ct8), sl8⟩)
    (zd__law_mixed : PySem.W.codeIn K cd8 "_law_mixed" = true)
    (ze__law_mixed : PySem.W.keepIn K (.ref a__law_mixed) = true)
    (zl__law_place : K.lookup a__law_place = some ⟨oc9, od9, .func (PySem.W.fnOf "_law_place" "_law_place" (defArgs s__law_place) (defBody s__law_place) (defScope s__law_place) .none kV9 dc9 pm9 an9 cd9 ct9), sl9⟩)
    (zd__law_place : PySem.W.codeIn K cd9 "_law_place" = true)
    (ze__law_place : PySem.W.keepIn K (.ref a__law_place) = true)
    (zl__law_grid : K.lookup a__law_grid = some ⟨oc10, od10, .func (PySem.W.fnOf "_law_grid" "_law_grid" (defArgs s__law_grid) (defBody s__law_grid) (defScope s__law_grid) .none kV10 dc10 pm10 an10 cd10 ct10), sl10⟩)
    (zd__law_grid : PySem.W.codeIn K cd10 "_law_grid" = true)
    (ze__law_grid : PySem.W.keepIn K (.ref a__law_grid) = true)
    (zl_is_count : K.lookup a_is_count = some ⟨oc11, od11, .func (PySem.W.fnOf "is_count" "is_count" (defArgs s_is_count) (defBody s_is_count) (defScope s_is_count) .none kV11 dc11 pm11 an11 cd11 ct11), sl11⟩)
    (zd_is_count : PySem.W.codeIn K cd11 "is_count" = true)
    (ze_is_count : PySem.W.keepIn K (.ref a_is_count) = true)
    (zl_lines_of : K.lookup a_lines_of = some ⟨oc12, od12, .func (PySem.W.fnOf "lines_of" "lines_of" (defArgs s_lines_of) (defBody s_lines_of) (defScope s_lines_of) .none kV12 dc12 pm12 an12 cd12 ct12), sl12⟩)
    (zd_lines_of : PySem.W.codeIn K cd12 "lines_of" = true)
    (ze_lines_of : PySem.W.keepIn K (.ref a_lines_of) = true)
    (zl_extent_of : K.lookup a_extent_of = some ⟨oc13, od13, .func (PySem.W.fnOf "extent_of" "extent_of" (defArgs s_extent_of) (defBody s_extent_of) (defScope s_extent_of) .none kV13 dc13 pm13 an13 cd13 ct13), sl13⟩)
    (zd_extent_of : PySem.W.codeIn K cd13 "extent_of" = true)
    (ze_extent_of : PySem.W.keepIn K (.ref a_extent_of) = true)
    (zl__led : K.lookup a__led = some ⟨oc14, od14, .func (PySem.W.fnOf "_led" "_led" (defArgs s__led) (defBody s__led) (defScope s__led) .none kV14 dc14 pm14 an14 cd14 ct14), sl14⟩)
    (zd__led : PySem.W.codeIn K cd14 "_led" = true)
    (ze__led : PySem.W.keepIn K (.ref a__led) = true)
    (zl__law_stream : K.lookup a__law_stream = some ⟨oc15, od15, .func (PySem.W.fnOf "_law_stream" "_law_stream" (defArgs s__law_stream) (defBody s__law_stream) (defScope s__law_stream) .none kV15 dc15 pm15 an15 cd15 ct15), sl15⟩)
    (zd__law_stream : PySem.W.codeIn K cd15 "_law_stream" = true)
    (ze__law_stream : PySem.W.keepIn K (.ref a__law_stream) = true)
    (zl__law_draw : K.lookup a__law_draw = some ⟨oc16, od16, .func (PySem.W.fnOf "_law_draw" "_law_draw" (defArgs s__law_draw) (defBody s__law_draw) (defScope s__law_draw) .none kV16 dc16 pm16 an16 cd16 ct16), sl16⟩)
    (zd__law_draw : PySem.W.codeIn K cd16 "_law_draw" = true)
    (ze__law_draw : PySem.W.keepIn K (.ref a__law_draw) = true)
    (zl_is_up_to : K.lookup a_is_up_to = some ⟨oc17, od17, .func (PySem.W.fnOf "is_up_to" "is_up_to" (defArgs s_is_up_to) (defBody s_is_up_to) (defScope s_is_up_to) .none kV17 dc17 pm17 an17 cd17 ct17), sl17⟩)
    (zd_is_up_to : PySem.W.codeIn K cd17 "is_up_to" = true)
    (ze_is_up_to : PySem.W.keepIn K (.ref a_is_up_to) = true)
    (zl_is_place : K.lookup a_is_place = some ⟨oc18, od18, .func (PySem.W.fnOf "is_place" "is_place" (defArgs s_is_place) (defBody s_is_place) (defScope s_is_place) .none kV18 dc18 pm18 an18 cd18 ct18), sl18⟩)
    (zd_is_place : PySem.W.codeIn K cd18 "is_place" = true)
    (ze_is_place : PySem.W.keepIn K (.ref a_is_place) = true)
    (zl_check_count : K.lookup a_check_count = some ⟨oc19, od19, .func (PySem.W.fnOf "check_count" "check_count" (defArgs s_check_count) (defBody s_check_count) (defScope s_check_count) .none kV19 dc19 pm19 an19 cd19 ct19), sl19⟩)
    (zd_check_count : PySem.W.codeIn K cd19 "check_count" = true)
    (ze_check_count : PySem.W.keepIn K (.ref a_check_count) = true)
    (zl__law_pick : K.lookup a__law_pick = some ⟨oc20, od20, .func (PySem.W.fnOf "_law_pick" "_law_pick" (defArgs s__law_pick) (defBody s__law_pick) (defScope s__law_pick) .none kV20 dc20 pm20 an20 cd20 ct20), sl20⟩)
    (zd__law_pick : PySem.W.codeIn K cd20 "_law_pick" = true)
    (ze__law_pick : PySem.W.keepIn K (.ref a__law_pick) = true)
    (zl_check_up_to : K.lookup a_check_up_to = some ⟨oc21, od21, .func (PySem.W.fnOf "check_up_to" "check_up_to" (defArgs s_check_up_to) (defBody s_check_up_to) (defScope s_check_up_to) .none kV21 dc21 pm21 an21 cd21 ct21), sl21⟩)
    (zd_check_up_to : PySem.W.codeIn K cd21 "check_up_to" = true)
    (ze_check_up_to : PySem.W.keepIn K (.ref a_check_up_to) = true)
    (zl_check_span : K.lookup a_check_span = some ⟨oc22, od22, .func (PySem.W.fnOf "check_span" "check_span" (defArgs s_check_span) (defBody s_check_span) (defScope s_check_span) .none kV22 dc22 pm22 an22 cd22 ct22), sl22⟩)
    (zd_check_span : PySem.W.codeIn K cd22 "check_span" = true)
    (ze_check_span : PySem.W.keepIn K (.ref a_check_span) = true)
    (zl_behind : K.lookup a_behind = some ⟨oc23, od23, .func (PySem.W.fnOf "behind" "behind" (defArgs s_behind) (defBody s_behind) (defScope s_behind) .none kV23 dc23 pm23 an23 cd23 ct23), sl23⟩)
    (zd_behind : PySem.W.codeIn K cd23 "behind" = true)
    (ze_behind : PySem.W.keepIn K (.ref a_behind) = true)
    (zl_has_place : K.lookup a_has_place = some ⟨oc24, od24, .func (PySem.W.fnOf "has_place" "has_place" (defArgs s_has_place) (defBody s_has_place) (defScope s_has_place) .none kV24 dc24 pm24 an24 cd24 ct24), sl24⟩)
    (zd_has_place : PySem.W.codeIn K cd24 "has_place" = true)
    (ze_has_place : PySem.W.keepIn K (.ref a_has_place) = true)
    (zl_Edit_forward : K.lookup a_Edit_forward = some ⟨oc25, od25, .func (PySem.W.fnOf "forward" "Edit.forward" (defArgs s_Edit_forward) (defBody s_Edit_forward) (defScope s_Edit_forward) .none kV25 dc25 pm25 an25 cd25 ct25), sl25⟩)
    (zd_Edit_forward : PySem.W.codeIn K cd25 "Edit.forward" = true)
    (ze_Edit_forward : PySem.W.keepIn K (.ref a_Edit_forward) = true)
    (zl_Edit_back : K.lookup a_Edit_back = some ⟨oc26, od26, .func (PySem.W.fnOf "back" "Edit.back" (defArgs s_Edit_back) (defBody s_Edit_back) (defScope s_Edit_back) .none kV26 dc26 pm26 an26 cd26 ct26), sl26⟩)
    (zd_Edit_back : PySem.W.codeIn K cd26 "Edit.back" = true)
    (ze_Edit_back : PySem.W.keepIn K (.ref a_Edit_back) = true)
    (zl__law_signs : K.lookup a__law_signs = some ⟨oc27, od27, .func (PySem.W.fnOf "_law_signs" "_law_signs" (defArgs s__law_signs) (defBody s__law_signs) (defScope s__law_signs) .none kV27 dc27 pm27 an27 cd27 ct27), sl27⟩)
    (zd__law_signs : PySem.W.codeIn K cd27 "_law_signs" = true)
    (ze__law_signs : PySem.W.keepIn K (.ref a__law_signs) = true)
    (zl_index_of : K.lookup a_index_of = some ⟨oc28, od28, .func (PySem.W.fnOf "index_of" "index_of" (defArgs s_index_of) (defBody s_index_of) (defScope s_index_of) .none kV28 dc28 pm28 an28 cd28 ct28), sl28⟩)
    (zd_index_of : PySem.W.codeIn K cd28 "index_of" = true)
    (ze_index_of : PySem.W.keepIn K (.ref a_index_of) = true)
    (zl_place_of : K.lookup a_place_of = some ⟨oc29, od29, .func (PySem.W.fnOf "place_of" "place_of" (defArgs s_place_of) (defBody s_place_of) (defScope s_place_of) .none kV29 dc29 pm29 an29 cd29 ct29), sl29⟩)
    (zd_place_of : PySem.W.codeIn K cd29 "place_of" = true)
    (ze_place_of : PySem.W.keepIn K (.ref a_place_of) = true)
    (zl_Edit_init : K.lookup a_Edit_init = some ⟨oc30, od30, .func (PySem.W.fnOf "__init__" "Edit.__init__" (defArgs s_Edit_init) (defBody s_Edit_init) (defScope s_Edit_init) .none kV30 dc30 pm30 an30 cd30 ct30), sl30⟩)
    (zd_Edit_init : PySem.W.codeIn K cd30 "Edit.__init__" = true)
    (ze_Edit_init : PySem.W.keepIn K (.ref a_Edit_init) = true)
    (zl__law_cut : K.lookup a__law_cut = some ⟨oc31, od31, .func (PySem.W.fnOf "_law_cut" "_law_cut" (defArgs s__law_cut) (defBody s__law_cut) (defScope s__law_cut) .none kV31 dc31 pm31 an31 cd31 ct31), sl31⟩)
    (zd__law_cut : PySem.W.codeIn K cd31 "_law_cut" = true)
    (ze__law_cut : PySem.W.keepIn K (.ref a__law_cut) = true)
    (zl__law_moves_right : K.lookup a__law_moves_right = some ⟨oc32, od32, .func (PySem.W.fnOf "_law_moves_right" "_law_moves_right" (defArgs s__law_moves_right) (defBody s__law_moves_right) (defScope s__law_moves_right) .none kV32 dc32 pm32 an32 cd32 ct32), sl32⟩)
    (zd__law_moves_right : PySem.W.codeIn K cd32 "_law_moves_right" = true)
    (ze__law_moves_right : PySem.W.keepIn K (.ref a__law_moves_right) = true)
    (zl_part_of : K.lookup a_part_of = some ⟨oc33, od33, .func (PySem.W.fnOf "part_of" "part_of" (defArgs s_part_of) (defBody s_part_of) (defScope s_part_of) .none kV33 dc33 pm33 an33 cd33 ct33), sl33⟩)
    (zd_part_of : PySem.W.codeIn K cd33 "part_of" = true)
    (ze_part_of : PySem.W.keepIn K (.ref a_part_of) = true)
    (zl_Edit_call : K.lookup a_Edit_call = some ⟨oc34, od34, .func (PySem.W.fnOf "__call__" "Edit.__call__" (defArgs s_Edit_call) (defBody s_Edit_call) (defScope s_Edit_call) .none kV34 dc34 pm34 an34 cd34 ct34), sl34⟩)
    (zd_Edit_call : PySem.W.codeIn K cd34 "Edit.__call__" = true)
    (ze_Edit_call : PySem.W.keepIn K (.ref a_Edit_call) = true)
    (zl_Edit_opposite : K.lookup a_Edit_opposite = some ⟨oc35, od35, .func (PySem.W.fnOf "opposite" "Edit.opposite" (defArgs s_Edit_opposite) (defBody s_Edit_opposite) (defScope s_Edit_opposite) .none kV35 dc35 pm35 an35 cd35 ct35), sl35⟩)
    (zd_Edit_opposite : PySem.W.codeIn K cd35 "Edit.opposite" = true)
    (ze_Edit_opposite : PySem.W.keepIn K (.ref a_Edit_opposite) = true)
    (zl__law_signs_right : K.lookup a__law_signs_right = some ⟨oc36, od36, .func (PySem.W.fnOf "_law_signs_right" "_law_signs_right" (defArgs s__law_signs_right) (defBody s__law_signs_right) (defScope s__law_signs_right) .none kV36 dc36 pm36 an36 cd36 ct36), sl36⟩)
    (zd__law_signs_right : PySem.W.codeIn K cd36 "_law_signs_right" = true)
    (ze__law_signs_right : PySem.W.keepIn K (.ref a__law_signs_right) = true)
    (zl__law_opposite_right : K.lookup a__law_opposite_right = some ⟨oc37, od37, .func (PySem.W.fnOf "_law_opposite_right" "_law_opposite_right" (defArgs s__law_opposite_right) (defBody s__law_opposite_right) (defScope s__law_opposite_right) .none kV37 dc37 pm37 an37 cd37 ct37), sl37⟩)
    (zd__law_opposite_right : PySem.W.codeIn K cd37 "_law_opposite_right" = true)
    (ze__law_opposite_right : PySem.W.keepIn K (.ref a__law_opposite_right) = true)
    (zl_law : K.lookup a_law = some ⟨oc38, od38, .func (PySem.W.fnOf "law" "law" (defArgs s_law) (defBody s_law) (defScope s_law) .none kV38 dc38 pm38 an38 cd38 ct38), sl38⟩)
    (zd_law : PySem.W.codeIn K cd38 "law" = true)
    (ze_law : PySem.W.keepIn K (.ref a_law) = true) :
    ∃ fd : FuncData, (∀ (s : Shared) (v : Value), BindsTo s fd ⟨[v], []⟩ [("script", v)]) ∧ ∀ base : Heap, K.In base → base.Ns mainGlobals mg → FnOk l.prog w K mg base CX0 9 fa fd ["script"] (spL K) := by
  have e := hfa.symm.trans (PySem.W.mg_of X G zg_law)
  cases e
  have F_is_integer := fun_mk (st := s_is_integer) zl_is_integer zd_is_integer ze_is_integer
  have B_is_integer := F_is_integer.binds (ps := ["value"]) fun _ _ _ _ _ _ us hl => match us, hl with | [_], _ => rfl
  have F_check_text := fun_mk (st := s_check_text) zl_check_text zd_check_text ze_check_text
  have B_check_text := F_check_text.binds (ps := ["value"]) fun _ _ _ _ _ _ us hl => match us, hl with | [_], _ => rfl
  have F_added := fun_mk (st := s_added) zl_added zd_added ze_added
  have B_added := F_added.binds (ps := ["one", "other"]) fun _ _ _ _ _ _ us hl => match us, hl with | [_, _], _ => rfl
  have F_moved := fun_mk (st := s_moved) zl_moved zd_moved ze_moved
  have B_moved := F_moved.binds (ps := ["place", "old", "new"]) fun _ _ _ _ _ _ us hl => match us, hl with | [_, _, _], _ => rfl
  have F_Edit_low := fun_mk (st := s_Edit_low) zl_Edit_low zd_Edit_low ze_Edit_low
  have B_Edit_low := F_Edit_low.binds (ps := ["self"]) fun _ _ _ _ _ _ us hl => match us, hl with | [_], _ => rfl
  have F_Edit_high := fun_mk (st := s_Edit_high) zl_Edit_high zd_Edit_high ze_Edit_high
  have B_Edit_high := F_Edit_high.binds (ps := ["self"]) fun _ _ _ _ _ _ us hl => match us, hl with | [_], _ => rfl
  have F_Edit_fresh := fun_mk (st := s_Edit_fresh) zl_Edit_fresh zd_Edit_fresh ze_Edit_fresh
  have B_Edit_fresh := F_Edit_fresh.binds (ps := ["self"]) fun _ _ _ _ _ _ us hl => match us, hl with | [_], _ => rfl
  have F_Edit_new_high := fun_mk (st := s_Edit_new_high) zl_Edit_new_high zd_Edit_new_high ze_Edit_new_high
  have B_Edit_new_high := F_Edit_new_high.binds (ps := ["self"]) fun _ _ _ _ _ _ us hl => match us, hl with | [_], _ => rfl
  have F__law_mixed := fun_mk (st := s__law_mixed) zl__law_mixed zd__law_mixed ze__law_mixed
  have B__law_mixed := F__law_mixed.binds (ps := ["number", "k"]) fun _ _ _ _ _ _ us hl => match us, hl with | [_, _], _ => rfl
  have F__law_place := fun_mk (st := s__law_place) zl__law_place zd__law_place ze__law_place
  have B__law_place := F__law_place.binds (ps := ["signs", "at"]) fun _ _ _ _ _ _ us hl => match us, hl with | [_, _], _ => rfl
  have F__law_grid := fun_mk (st := s__law_grid) zl__law_grid zd__law_grid ze__law_grid
  have B__law_grid := F__law_grid.binds (ps := ["rows", "size"]) fun _ _ _ _ _ _ us hl => match us, hl with | [_, _], _ => rfl
  have F_is_count := fun_mk (st := s_is_count) zl_is_count zd_is_count ze_is_count
  have B_is_count := F_is_count.binds (ps := ["value"]) fun _ _ _ _ _ _ us hl => match us, hl with | [_], _ => rfl
  have F_lines_of := fun_mk (st := s_lines_of) zl_lines_of zd_lines_of ze_lines_of
  have B_lines_of := F_lines_of.binds (ps := ["text"]) fun _ _ _ _ _ _ us hl => match us, hl with | [_], _ => rfl
  have F_extent_of := fun_mk (st := s_extent_of) zl_extent_of zd_extent_of ze_extent_of
  have B_extent_of := F_extent_of.binds (ps := ["text"]) fun _ _ _ _ _ _ us hl => match us, hl with | [_], _ => rfl
  have F__led := fun_mk (st := s__led) zl__led zd__led ze__led
  have B__led := F__led.binds (ps := ["place", "low", "high", "new_high"]) fun _ _ _ _ _ _ us hl => match us, hl with | [_, _, _, _], _ => rfl
  have F__law_stream := fun_mk (st := s__law_stream) zl__law_stream zd__law_stream ze__law_stream
  have B__law_stream := F__law_stream.binds (ps := ["item", "k"]) fun _ _ _ _ _ _ us hl => match us, hl with | [_, _], _ => rfl
  have F__law_draw := fun_mk (st := s__law_draw) zl__law_draw zd__law_draw ze__law_draw
  have B__law_draw := F__law_draw.binds (ps := ["stream", "top"]) fun _ _ _ _ _ _ us hl => match us, hl with | [_, _], _ => rfl
  have F_is_up_to := fun_mk (st := s_is_up_to) zl_is_up_to zd_is_up_to ze_is_up_to
  have B_is_up_to := F_is_up_to.binds (ps := ["value", "limit"]) fun _ _ _ _ _ _ us hl => match us, hl with | [_, _], _ => rfl
  have F_is_place := fun_mk (st := s_is_place) zl_is_place zd_is_place ze_is_place
  have B_is_place := F_is_place.binds (ps := ["value"]) fun _ _ _ _ _ _ us hl => match us, hl with | [_], _ => rfl
  have F_check_count := fun_mk (st := s_check_count) zl_check_count zd_check_count ze_check_count
  have B_check_count := F_check_count.binds (ps := ["value"]) fun _ _ _ _ _ _ us hl => match us, hl with | [_], _ => rfl
  have F__law_pick := fun_mk (st := s__law_pick) zl__law_pick zd__law_pick ze__law_pick
  have B__law_pick := F__law_pick.binds (ps := ["stream", "some"]) fun _ _ _ _ _ _ us hl => match us, hl with | [_, _], _ => rfl
  have F_check_up_to := fun_mk (st := s_check_up_to) zl_check_up_to zd_check_up_to ze_check_up_to
  have B_check_up_to := F_check_up_to.binds (ps := ["value", "limit"]) fun _ _ _ _ _ _ us hl => match us, hl with | [_, _], _ => rfl
  have F_check_span := fun_mk (st := s_check_span) zl_check_span zd_check_span ze_check_span
  have B_check_span := F_check_span.binds (ps := ["low", "high"]) fun _ _ _ _ _ _ us hl => match us, hl with | [_, _], _ => rfl
  have F_behind := fun_mk (st := s_behind) zl_behind zd_behind ze_behind
  have B_behind := F_behind.binds (ps := ["line", "column", "text"]) fun _ _ _ _ _ _ us hl => match us, hl with | [_, _, _], _ => rfl
  have F_has_place := fun_mk (st := s_has_place) zl_has_place zd_has_place ze_has_place
  have B_has_place := F_has_place.binds (ps := ["text", "line", "column"]) fun _ _ _ _ _ _ us hl => match us, hl with | [_, _, _], _ => rfl
  have F_Edit_forward := fun_mk (st := s_Edit_forward) zl_Edit_forward zd_Edit_forward ze_Edit_forward
  have B_Edit_forward := F_Edit_forward.binds (ps := ["self", "line", "column"]) fun _ _ _ _ _ _ us hl => match us, hl with | [_, _, _], _ => rfl
  have F_Edit_back := fun_mk (st := s_Edit_back) zl_Edit_back zd_Edit_back ze_Edit_back
  have B_Edit_back := F_Edit_back.binds (ps := ["self", "line", "column"]) fun _ _ _ _ _ _ us hl => match us, hl with | [_, _, _], _ => rfl
  have F__law_signs := fun_mk (st := s__law_signs) zl__law_signs zd__law_signs ze__law_signs
  have B__law_signs := F__law_signs.binds (ps := ["stream", "most"]) fun _ _ _ _ _ _ us hl => match us, hl with | [_, _], _ => rfl
  have F_index_of := fun_mk (st := s_index_of) zl_index_of zd_index_of ze_index_of
  have B_index_of := F_index_of.binds (ps := ["text", "line", "column"]) fun _ _ _ _ _ _ us hl => match us, hl with | [_, _, _], _ => rfl
  have F_place_of := fun_mk (st := s_place_of) zl_place_of zd_place_of ze_place_of
  have B_place_of := F_place_of.binds (ps := ["text", "index"]) fun _ _ _ _ _ _ us hl => match us, hl with | [_, _], _ => rfl
  have F_Edit_init := fun_mk (st := s_Edit_init) zl_Edit_init zd_Edit_init ze_Edit_init
  have B_Edit_init := F_Edit_init.binds (ps := ["self", "low", "high", "fresh"]) fun _ _ _ _ _ _ us hl => match us, hl with | [_, _, _, _], _ => rfl
  have F__law_cut := fun_mk (st := s__law_cut) zl__law_cut zd__law_cut ze__law_cut
  have B__law_cut := F__law_cut.binds (ps := ["stream", "signs"]) fun _ _ _ _ _ _ us hl => match us, hl with | [_, _], _ => rfl
  have F__law_moves_right := fun_mk (st := s__law_moves_right) zl__law_moves_right zd__law_moves_right ze__law_moves_right
  have B__law_moves_right := F__law_moves_right.binds (ps := ["edit"]) fun _ _ _ _ _ _ us hl => match us, hl with | [_], _ => rfl
  have F_part_of := fun_mk (st := s_part_of) zl_part_of zd_part_of ze_part_of
  have B_part_of := F_part_of.binds (ps := ["text", "low", "high"]) fun _ _ _ _ _ _ us hl => match us, hl with | [_, _, _], _ => rfl
  have F_Edit_call := fun_mk (st := s_Edit_call) zl_Edit_call zd_Edit_call ze_Edit_call
  have B_Edit_call := F_Edit_call.binds (ps := ["self", "text"]) fun _ _ _ _ _ _ us hl => match us, hl with | [_, _], _ => rfl
  have F_Edit_opposite := fun_mk (st := s_Edit_opposite) zl_Edit_opposite zd_Edit_opposite ze_Edit_opposite
  have B_Edit_opposite := F_Edit_opposite.binds (ps := ["self", "text"]) fun _ _ _ _ _ _ us hl => match us, hl with | [_, _], _ => rfl
  have F__law_signs_right := fun_mk (st := s__law_signs_right) zl__law_signs_right zd__law_signs_right ze__law_signs_right
  have B__law_signs_right := F__law_signs_right.binds (ps := ["signs", "edit"]) fun _ _ _ _ _ _ us hl => match us, hl with | [_, _], _ => rfl
  have F__law_opposite_right := fun_mk (st := s__law_opposite_right) zl__law_opposite_right zd__law_opposite_right ze__law_opposite_right
  have B__law_opposite_right := F__law_opposite_right.binds (ps := ["signs", "edit"]) fun _ _ _ _ _ _ us hl => match us, hl with | [_, _], _ => rfl
  have F_law := fun_mk (st := s_law) zl_law zd_law ze_law
  have B_law := F_law.binds (ps := ["script"]) fun _ _ _ _ _ _ us hl => match us, hl with | [_], _ => rfl
  have T : Txt K mg ⟨c_Edit, a_is_integer, a_check_text, a_added, a_moved, a_Edit_low, a_Edit_high, a_Edit_fresh, a_Edit_new_high, a__law_mixed, a__law_place, a__law_grid, a_is_count, a_lines_of, a_extent_of, a__led, a__law_stream, a__law_draw, a_is_up_to, a_is_place, a_check_count, a__law_pick, a_check_up_to, a_check_span, a_behind, a_has_place, a_Edit_forward, a_Edit_back, a__law_signs, a_index_of, a_place_of, a_Edit_init, a__law_cut, a__law_moves_right, a_part_of, a_Edit_call, a_Edit_opposite, a__law_signs_right, a__law_opposite_right, fa, p_Edit_fresh, p_Edit_high, p_Edit_low, p_Edit_new_high⟩ ⟨_, _, _, _, _, _, _, _, _, _, _, _, _, _, _, _, _, _, _, _, _, _, _, _, _, _, _, _, _, _, _, _, _, _, _, _, _, _, _⟩ := {
    f_is_integer := F_is_integer, b_is_integer := B_is_integer,
    f_check_text := F_check_text, b_check_text := B_check_text,
    f_added := F_added, b_added := B_added,
    f_moved := F_moved, b_moved := B_moved,
    f_Edit_low := F_Edit_low, b_Edit_low := B_Edit_low,
    f_Edit_high := F_Edit_high, b_Edit_high := B_Edit_high,
    f_Edit_fresh := F_Edit_fresh, b_Edit_fresh := B_Edit_fresh,
    f_Edit_new_high := F_Edit_new_high, b_Edit_new_high := B_Edit_new_high,
    f__law_mixed := F__law_mixed, b__law_mixed := B__law_mixed,
    f__law_place := F__law_place, b__law_place := B__law_place,
    f__law_grid := F__law_grid, b__law_grid := B__law_grid,
    f_is_count := F_is_count, b_is_count := B_is_count,
    f_lines_of := F_lines_of, b_lines_of := B_lines_of,
    f_extent_of := F_extent_of, b_extent_of := B_extent_of,
    f__led := F__led, b__led := B__led,
    f__law_stream := F__law_stream, b__law_stream := B__law_stream,
    f__law_draw := F__law_draw, b__law_draw := B__law_draw,
    f_is_up_to := F_is_up_to, b_is_up_to := B_is_up_to,
    f_is_place := F_is_place, b_is_place := B_is_place,
    f_check_count := F_check_count, b_check_count := B_check_count,
    f__law_pick := F__law_pick, b__law_pick := B__law_pick,
    f_check_up_to := F_check_up_to, b_check_up_to := B_check_up_to,
    f_check_span := F_check_span, b_check_span := B_check_span,
    f_behind := F_behind, b_behind := B_behind,
    f_has_place := F_has_place, b_has_place := B_has_place,
    f_Edit_forward := F_Edit_forward, b_Edit_forward := B_Edit_forward,
    f_Edit_back := F_Edit_back, b_Edit_back := B_Edit_back,
    f__law_signs := F__law_signs, b__law_signs := B__law_signs,
    f_index_of := F_index_of, b_index_of := B_index_of,
    f_place_of := F_place_of, b_place_of := B_place_of,
    f_Edit_init := F_Edit_init, b_Edit_init := B_Edit_init,
    f__law_cut := F__law_cut, b__law_cut := B__law_cut,
    f__law_moves_right := F__law_moves_right, b__law_moves_right := B__law_moves_right,
    f_part_of := F_part_of, b_part_of := B_part_of,
    f_Edit_call := F_Edit_call, b_Edit_call := B_Edit_call,
    f_Edit_opposite := F_Edit_opposite, b_Edit_opposite := B_Edit_opposite,
    f__law_signs_right := F__law_signs_right, b__law_signs_right := B__law_signs_right,
    f__law_opposite_right := F__law_opposite_right, b__law_opposite_right := B__law_opposite_right,
    f_law := F_law, b_law := B_law,
    co_Edit := ⟨zoa_Edit, zof_Edit, zoi_Edit⟩,
    g__law_cut := PySem.W.mg_of X G zg__law_cut,
    g__law_draw := PySem.W.mg_of X G zg__law_draw,
    g__law_grid := PySem.W.mg_of X G zg__law_grid,
    g__law_mixed := PySem.W.mg_of X G zg__law_mixed,
    g__law_moves_right := PySem.W.mg_of X G zg__law_moves_right,
    g__law_opposite_right := PySem.W.mg_of X G zg__law_opposite_right,
    g__law_pick := PySem.W.mg_of X G zg__law_pick,
    g__law_place := PySem.W.mg_of X G zg__law_place,
    g__law_signs := PySem.W.mg_of X G zg__law_signs,
    g__law_signs_right := PySem.W.mg_of X G zg__law_signs_right,
    g__law_stream := PySem.W.mg_of X G zg__law_stream,
    g__led := PySem.W.mg_of X G zg__led,
    g_added := PySem.W.mg_of X G zg_added,
    g_behind := PySem.W.mg_of X G zg_behind,
    g_check_count := PySem.W.mg_of X G zg_check_count,
    g_check_span := PySem.W.mg_of X G zg_check_span,
    g_check_text := PySem.W.mg_of X G zg_check_text,
    g_check_up_to := PySem.W.mg_of X G zg_check_up_to,
    g_extent_of := PySem.W.mg_of X G zg_extent_of,
    g_has_place := PySem.W.mg_of X G zg_has_place,
    g_index_of := PySem.W.mg_of X G zg_index_of,
    g_is_count := PySem.W.mg_of X G zg_is_count,
    g_is_integer := PySem.W.mg_of X G zg_is_integer,
    g_is_place := PySem.W.mg_of X G zg_is_place,
    g_is_up_to := PySem.W.mg_of X G zg_is_up_to,
    g_lines_of := PySem.W.mg_of X G zg_lines_of,
    g_moved := PySem.W.mg_of X G zg_moved,
    g_part_of := PySem.W.mg_of X G zg_part_of,
    g_place_of := PySem.W.mg_of X G zg_place_of,
    gc_Edit := PySem.W.mg_of X G zc_Edit,
    me_Edit_back := ⟨zme_Edit_back, zmf_Edit_back, ze_Edit_back⟩,
    me_Edit_forward := ⟨zme_Edit_forward, zmf_Edit_forward, ze_Edit_forward⟩,
    me_Edit_opposite := ⟨zme_Edit_opposite, zmf_Edit_opposite, ze_Edit_opposite⟩,
    mk_Edit := ⟨zkm_Edit, zki_Edit, zkf_Edit, zkk_Edit⟩,
    n_bool := PySem.W.mg_none_of X G zn_bool,
    n_enumerate := PySem.W.mg_none_of X G zn_enumerate,
    n_int := PySem.W.mg_none_of X G zn_int,
    n_isinstance := PySem.W.mg_none_of X G zn_isinstance,
    n_len := PySem.W.mg_none_of X G zn_len,
    n_list := PySem.W.mg_none_of X G zn_list,
    n_max := PySem.W.mg_none_of X G zn_max,
    n_min := PySem.W.mg_none_of X G zn_min,
    n_range := PySem.W.mg_none_of X G zn_range,
    n_str := PySem.W.mg_none_of X G zn_str,
    n_sum := PySem.W.mg_none_of X G zn_sum,
    n_tuple := PySem.W.mg_none_of X G zn_tuple,
    pr_Edit_fresh := ⟨zpa_Edit_fresh, zpg_Edit_fresh, zpt_Edit_fresh, ⟨_, zpr_Edit_fresh⟩⟩,
    pr_Edit_high := ⟨zpa_Edit_high, zpg_Edit_high, zpt_Edit_high, ⟨_, zpr_Edit_high⟩⟩,
    pr_Edit_low := ⟨zpa_Edit_low, zpg_Edit_low, zpt_Edit_low, ⟨_, zpr_Edit_low⟩⟩,
    pr_Edit_new_high := ⟨zpa_Edit_new_high, zpg_Edit_new_high, zpt_Edit_new_high, ⟨_, zpr_Edit_new_high⟩⟩,
    tc := {
      cl_Edit := ⟨zcg_Edit, zch_Edit, zcp_Edit, zcs_Edit⟩,
      na_Edit__low := zna_Edit__low,
      na_Edit__high := zna_Edit__high,
      na_Edit__fresh := zna_Edit__fresh,
      na_Edit__new_high := zna_Edit__new_high } }
  exact ⟨_, fun s v => .of_eq rfl, fun base _ _ => ok_all T⟩
theorem walk {l : PySem.W.OpenLaw} {q : Program} {loose : List Str} {XP : (Str → Option Value) → Heap → Prop} {YP : World → Heap → Prop} {d : DefRec} {K : Params → PySem.W.Frag} (hn : l.most = some 63) (hdf : d.params.defaults = [])
    (hY : ∀ (w : World) (h : Heap), YP w h → (K w.params).In h)
    (F : ∀ (w : World) (mg : Str → Option Value) (fa : Addr) (h : Heap), (K w.params).In h → h.Ns mainGlobals mg → mg d.name = some (.ref fa) →
      ∃ fd : FuncData, (∀ (s : Shared) (u : Value), BindsTo s fd ⟨[u], []⟩ [("script", u)]) ∧ ∀ base : Heap, (K w.params).In base → base.Ns mainGlobals mg → FnOk l.prog w (K w.params) mg base CX0 9 fa fd ["script"] (spL (K w.params))) :
    PySem.W.WalkO q loose XP YP l.row.toRowW d [] (fun f vs => PySem.call f vs) :=
  L2.walk_ofK (n := 63) (k := 9) (x := "script") (CX := CX0) (sp := spL) hn (by decide) hdf ⟨rfl, by decide, by decide⟩ hY F
    (fun K H a ns hl _ hS => ⟨⟨fun _ => False, 0, H, H⟩, [.lst (ns.map .int)], fun d _ => d = .bl true, rfl, Evl.Ex.refl H, fun _ z => z.elim, .cons (.lst hS (ints_dens ns)) .nil, ⟨ns, rfl, hl, rfl, fun _ => rfl⟩, fun v d _ _ _ r p => by cases p; exact den_bl r⟩) fun _ _ _ _ z => z
end Lw
open PySem PySem.W PyProof.Rows in
set_option maxRecDepth 100000 in
set_option maxHeartbeats 0 in
theorem PySem.Challenge.cw_mapstack_k06_whole_there_and_back_holds : PySem.Challenge.rw_mapstack_k06_whole_there_and_back.Holds := by
  w_on; o_law; k_head; (case hw => w_witness2)
  k_fill
  refine Lw.walk (l := PySem.Challenge.rw_mapstack_k06_whole_there_and_back) rfl rfl (fun w h Y => PySem.W.kIn_of Y) ?F
  case F =>
    intro w mg fa h KX G hmg
    refine' Lw.all_mk KX G hmg ?zoa_Edit ?zof_Edit ?zoi_Edit ?zg__law_cut ?zg__law_draw ?zg__law_grid ?zg__law_mixed ?zg__law_moves_right ?zg__law_opposite_right ?zg__law_pick ?zg__law_place ?zg__law_signs ?zg__law_signs_right ?zg__law_stream ?zg__led ?zg_added ?zg_behind ?zg_check_count ?zg_check_span ?zg_check_text ?zg_check_up_to ?zg_extent_of ?zg_has_place ?zg_index_of ?zg_is_count ?zg_is_integer ?zg_is_place ?zg_is_up_to ?zg_lines_of ?zg_moved ?zg_part_of ?zg_place_of ?zc_Edit ?zme_Edit_back ?zmf_Edit_back ?zme_Edit_forward ?zmf_Edit_forward ?zme_Edit_opposite ?zmf_Edit_opposite ?zki_Edit ?zkf_Edit ?zkm_Edit ?zkk_Edit ?zn_bool ?zn_enumerate ?zn_int ?zn_isinstance ?zn_len ?zn_list ?zn_max ?zn_min ?zn_range ?zn_str ?zn_sum ?zn_tuple ?zpa_Edit_fresh ?zpg_Edit_fresh ?zpt_Edit_fresh ?zpr_Edit_fresh ?zpa_Edit_high ?zpg_Edit_high ?zpt_Edit_high ?zpr_Edit_high ?zpa_Edit_low ?zpg_Edit_low ?zpt_Edit_low ?zpr_Edit_low ?zpa_Edit_new_high ?zpg_Edit_new_high ?zpt_Edit_new_high ?zpr_Edit_new_high ?zg_law ?zcg_Edit ?zch_Edit ?zcp_Edit ?zcs_Edit ?zna_Edit__low ?zna_Edit__high ?zna_Edit__fresh ?zna_Edit__new_high ?zl_is_integer ?zd_is_integer ?ze_is_integer ?zl_check_text ?zd_check_text ?ze_check_text ?zl_added ?zd_added ?ze_added ?zl_moved ?zd_moved ?ze_moved ?zl_Edit_low ?zd_Edit_low ?ze_Edit_low ?zl_Edit_high ?zd_Edit_high ?ze_Edit_high ?zl_Edit_fresh ?zd_Edit_fresh ?ze_Edit_fresh ?zl_Edit_new_high ?zd_Edit_new_high ?ze_Edit_new_high ?zl__law_mixed ?zd__law_mixed ?ze__law_mixed ?zl__law_place ?zd__law_place ?ze__law_place ?zl__law_grid ?zd__law_grid ?ze__law_grid ?zl_is_count ?zd_is_count ?ze_is_count ?zl_lines_of ?zd_lines_of ?ze_lines_of ?zl_extent_of ?zd_extent_of ?ze_extent_of ?zl__led ?zd__led ?ze__led ?zl__law_stream ?zd__law_stream ?ze__law_stream ?zl__law_draw ?zd__law_draw ?ze__law_draw ?zl_is_up_to ?zd_is_up_to ?ze_is_up_to ?zl_is_place ?zd_is_place ?ze_is_place ?zl_check_count ?zd_check_count ?ze_check_count ?zl__law_pick ?zd__law_pick ?ze__law_pick ?zl_check_up_to ?zd_check_up_to ?ze_check_up_to ?zl_check_span ?zd_check_span ?ze_check_span ?zl_behind ?zd_behind ?ze_behind ?zl_has_place ?zd_has_place ?ze_has_place ?zl_Edit_forward ?zd_Edit_forward ?ze_Edit_forward ?zl_Edit_back ?zd_Edit_back ?ze_Edit_back ?zl__law_signs ?zd__law_signs ?ze__law_signs ?zl_index_of ?zd_index_of ?ze_index_of ?zl_place_of ?zd_place_of ?ze_place_of ?zl_Edit_init ?zd_Edit_init ?ze_Edit_init ?zl__law_cut ?zd__law_cut ?ze__law_cut ?zl__law_moves_right ?zd__law_moves_right ?ze__law_moves_right ?zl_part_of ?zd_part_of ?ze_part_of ?zl_Edit_call ?zd_Edit_call ?ze_Edit_call ?zl_Edit_opposite ?zd_Edit_opposite ?ze_Edit_opposite ?zl__law_signs_right ?zd__law_signs_right ?ze__law_signs_right ?zl__law_opposite_right ?zd__law_opposite_right ?ze__law_opposite_right ?zl_law ?zd_law ?ze_law
    (case zg__law_cut => k_is)
    (case zg__law_draw => k_is)
    (case zg__law_grid => k_is)
    (case zg__law_mixed => k_is)
    (case zg__law_moves_right => k_is)
    (case zg__law_opposite_right => k_is)
    (case zg__law_pick => k_is)
    (case zg__law_place => k_is)
    (case zg__law_signs => k_is)
    (case zg__law_signs_right => k_is)
    (case zg__law_stream => k_is)
    (case zg__led => k_is)
    (case zg_added => k_is)
    (case zg_behind => k_is)
    (case zg_check_count => k_is)
    (case zg_check_span => k_is)
    (case zg_check_text => k_is)
    (case zg_check_up_to => k_is)
    (case zg_extent_of => k_is)
    (case zg_has_place => k_is)
    (case zg_index_of => k_is)
    (case zg_is_count => k_is)
    (case zg_is_integer => k_is)
    (case zg_is_place => k_is)
    (case zg_is_up_to => k_is)
    (case zg_lines_of => k_is)
    (case zg_moved => k_is)
    (case zg_part_of => k_is)
    (case zg_place_of => k_is)
    (case zc_Edit => k_is)
    (case zn_bool => k_is)
    (case zn_enumerate => k_is)
    (case zn_int => k_is)
    (case zn_isinstance => k_is)
    (case zn_len => k_is)
    (case zn_list => k_is)
    (case zn_max => k_is)
    (case zn_min => k_is)
    (case zn_range => k_is)
    (case zn_str => k_is)
    (case zn_sum => k_is)
    (case zn_tuple => k_is)
    (case zg_law => k_is)
    (case zoa_Edit => k_is)
    (case zme_Edit_back => k_is)
    (case zme_Edit_forward => k_is)
    (case zme_Edit_opposite => k_is)
    (case zki_Edit => k_is)
    (case zpa_Edit_fresh => k_is)
    (case zpa_Edit_high => k_is)
    (case zpa_Edit_low => k_is)
    (case zpa_Edit_new_high => k_is)
    (case zpr_Edit_fresh => k_is)
    (case zpr_Edit_high => k_is)
    (case zpr_Edit_low => k_is)
    (case zpr_Edit_new_high => k_is)
    (case zl_is_integer => k_is)
    (case zl_check_text => k_is)
    (case zl_added => k_is)
    (case zl_moved => k_is)
    (case zl_Edit_low => k_is)
    (case zl_Edit_high => k_is)
    (case zl_Edit_fresh => k_is)
    (case zl_Edit_new_high => k_is)
    (case zl__law_mixed => k_is)
    (case zl__law_place => k_is)
    (case zl__law_grid => k_is)
    (case zl_is_count => k_is)
    (case zl_lines_of => k_is)
    (case zl_extent_of => k_is)
    (case zl__led => k_is)
    (case zl__law_stream => k_is)
    (case zl__law_draw => k_is)
    (case zl_is_up_to => k_is)
    (case zl_is_place => k_is)
    (case zl_check_count => k_is)
    (case zl__law_pick => k_is)
    (case zl_check_up_to => k_is)
    (case zl_check_span => k_is)
    (case zl_behind => k_is)
    (case zl_has_place => k_is)
    (case zl_Edit_forward => k_is)
    (case zl_Edit_back => k_is)
    (case zl__law_signs => k_is)
    (case zl_index_of => k_is)
    (case zl_place_of => k_is)
    (case zl_Edit_init => k_is)
    (case zl__law_cut => k_is)
    (case zl__law_moves_right => k_is)
    (case zl_part_of => k_is)
    (case zl_Edit_call => k_is)
    (case zl_Edit_opposite => k_is)
    (case zl__law_signs_right => k_is)
    (case zl__law_opposite_right => k_is)
    (case zl_law => k_is)
    (case zof_Edit => k_is)
    (case zoi_Edit => k_is)
    (case zmf_Edit_back => k_is)
    (case zmf_Edit_forward => k_is)
    (case zmf_Edit_opposite => k_is)
    (case zkf_Edit => k_is)
    (case zkm_Edit => k_is)
    (case zkk_Edit => k_is)
    (case zpg_Edit_fresh => k_is)
    (case zpt_Edit_fresh => k_is)
    (case zpg_Edit_high => k_is)
    (case zpt_Edit_high => k_is)
    (case zpg_Edit_low => k_is)
    (case zpt_Edit_low => k_is)
    (case zpg_Edit_new_high => k_is)
    (case zpt_Edit_new_high => k_is)
    (case zcg_Edit => k_is)
    (case zch_Edit => k_is)
    (case zcp_Edit => k_is)
    (case zcs_Edit => k_is)
    (case zna_Edit__low => k_is)
    (case zna_Edit__high => k_is)
    (case zna_Edit__fresh => k_is)
    (case zna_Edit__new_high => k_is)
    (case zd_is_integer => k_is)
    (case ze_is_integer => k_is)
    (case zd_check_text => k_is)
    (case ze_check_text => k_is)
    (case zd_added => k_is)
    (case ze_added => k_is)
    (case zd_moved => k_is)
    (case ze_moved => k_is)
    (case zd_Edit_low => k_is)
    (case ze_Edit_low => k_is)
    (case zd_Edit_high => k_is)
    (case ze_Edit_high => k_is)
    (case zd_Edit_fresh => k_is)
    (case ze_Edit_fresh => k_is)
    (case zd_Edit_new_high => k_is)
    (case ze_Edit_new_high => k_is)
    (case zd__law_mixed => k_is)
    (case ze__law_mixed => k_is)
    (case zd__law_place => k_is)
    (case ze__law_place => k_is)
    (case zd__law_grid => k_is)
    (case ze__law_grid => k_is)
    (case zd_is_count => k_is)
    (case ze_is_count => k_is)
    (case zd_lines_of => k_is)
    (case ze_lines_of => k_is)
    (case zd_extent_of => k_is)
    (case ze_extent_of => k_is)
    (case zd__led => k_is)
    (case ze__led => k_is)
    (case zd__law_stream => k_is)
    (case ze__law_stream => k_is)
    (case zd__law_draw => k_is)
    (case ze__law_draw => k_is)
    (case zd_is_up_to => k_is)
    (case ze_is_up_to => k_is)
    (case zd_is_place => k_is)
    (case ze_is_place => k_is)
    (case zd_check_count => k_is)
    (case ze_check_count => k_is)
    (case zd__law_pick => k_is)
    (case ze__law_pick => k_is)
    (case zd_check_up_to => k_is)
    (case ze_check_up_to => k_is)
    (case zd_check_span => k_is)
    (case ze_check_span => k_is)
    (case zd_behind => k_is)
    (case ze_behind => k_is)
    (case zd_has_place => k_is)
    (case ze_has_place => k_is)
    (case zd_Edit_forward => k_is)
    (case ze_Edit_forward => k_is)
    (case zd_Edit_back => k_is)
    (case ze_Edit_back => k_is)
    (case zd__law_signs => k_is)
    (case ze__law_signs => k_is)
    (case zd_index_of => k_is)
    (case ze_index_of => k_is)
    (case zd_place_of => k_is)
    (case ze_place_of => k_is)
    (case zd_Edit_init => k_is)
    (case ze_Edit_init => k_is)
    (case zd__law_cut => k_is)
    (case ze__law_cut => k_is)
    (case zd__law_moves_right => k_is)
    (case ze__law_moves_right => k_is)
    (case zd_part_of => k_is)
    (case ze_part_of => k_is)
    (case zd_Edit_call => k_is)
    (case ze_Edit_call => k_is)
    (case zd_Edit_opposite => k_is)
    (case ze_Edit_opposite => k_is)
    (case zd__law_signs_right => k_is)
    (case ze__law_signs_right => k_is)
    (case zd__law_opposite_right => k_is)
    (case ze__law_opposite_right => k_is)
    (case zd_law => k_is)
    (case ze_law => k_is)
