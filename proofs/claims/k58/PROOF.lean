import PyProof.Rows.All
import Wide.All
import OpenK.AllK
import Wide.FinOn
import HandS.ForMost
import HandS.Wide
import HandS.WideBits
import HandS.SortKw
import HandS.SortInts
import HandS.Conv
import HandS.More
import HandS.Lambda
import HandS.Rev
import HandS.TupAny
import HandS.IsInst
import HandS.Style
import HandS.Steps
import PyProof.P3Eq
import KE.KDictDisplayH
import HandS.Iter
import HandS.Walk
import HandS.Property
import HandS.OwnEq
import PyProof.InstNe
import KE.GoesEnum
import KE.GoesMore
import KE.GoesZip
import HandS.Zip
import PyProof.CollectIter
import PyProof.WalksMore
import HandS.Flow
import HandS.FStr
import KE.KCallOwn
import HandS.SetFor
import HandS.Strs
import HandS.TryOnly
import HandS.SortOrd
import KE.KIndexOf
import PySem.Challenge.RW_ownchecks_k58_whole_quarters_of_words
set_option Elab.async false
set_option maxRecDepth 100000
set_option maxHeartbeats 2000000
/-! The abstract reading: what stands in each slot, told without addresses. -/
namespace Fx
open PySem L2 PyProof.Rows

/-- what never changes once it stands -/
def imm : HO → Bool
  | .tup _ => true
  | .frz _ (.dT _) => false
  | .frz _ _ => true
  | .ins _ _ (_ :: _ :: _) => true
  | _ => false
structure Im (H H' : Hp) : Prop where
  im : ∀ a o, imm o = true → H a = some o → H' a = some o
  ls : ∀ a xs, H a = some (.lst xs) → ∃ ys, H' a = some (.lst ys)
  dk : ∀ a us, H a = some (.dK us) → ∃ ws, H' a = some (.dK ws)
/-- a list stays a list, a dict a dict -/
structure SameKd (u o : HO) : Prop where
  ls : ∀ xs, u = .lst xs → ∃ ys, o = .lst ys
  dk : ∀ us, u = .dK us → ∃ ws, o = .dK ws
theorem sk_lst {xs ys : List V} : SameKd (.lst xs) (.lst ys) := ⟨fun _ _ => ⟨_, rfl⟩, fun _ h => (by cases h)⟩
theorem sk_dk {xs ys : List (Key × V)} : SameKd (.dK xs) (.dK ys) := ⟨fun _ h => (by cases h), fun _ _ => ⟨_, rfl⟩⟩
theorem Im.refl (H : Hp) : Im H H := ⟨fun _ _ _ h => h, fun _ xs h => ⟨xs, h⟩, fun _ us h => ⟨us, h⟩⟩
theorem Im.trans {H H1 H2 : Hp} (a : Im H H1) (b : Im H1 H2) : Im H H2 := ⟨fun x o i h => b.im x o i (a.im x o i h), fun x xs h => by
    obtain ⟨ys, hy⟩ := a.ls x xs h
    exact b.ls x ys hy, fun x us h => by
    obtain ⟨ws, hw⟩ := a.dk x us h
    exact b.dk x ws hw⟩
theorem Im.of {H H' : Hp} (e : ∀ a o, H a = some o → H' a = some o) : Im H H' := ⟨fun a o _ h => e a o h, fun a xs h => ⟨xs, e _ _ h⟩, fun a us h => ⟨us, e _ _ h⟩⟩
theorem Im.new {H : Hp} {p : Addr} {o : HO} (h : H p = none) : Im H (upd H p o) := .of fun a u e => by
  rw [upd_ne (ne_of_none e h)]
  exact e
theorem Im.at {H H' : Hp} {p : Addr} {o u : HO} (h : H p = some u) (hu : imm u = false) (h' : H' p = some o) (hk : SameKd u o) (e : ∀ a v, a ≠ p → H a = some v → H' a = some v) : Im H H' := by
  refine ⟨fun a v hv ea => e a v (fun z => ?_) ea, fun a xs ea => ?_, fun a us ea => ?_⟩
  · subst z
    rw [h] at ea
    cases ea
    rw [hu] at hv
    cases hv
  · by_cases z : a = p
    · subst z
      rw [h] at ea
      cases ea
      obtain ⟨ys, hy⟩ := hk.ls _ rfl
      exact ⟨ys, by rw [h', hy]⟩
    · exact ⟨xs, e a _ z ea⟩
  · by_cases z : a = p
    · subst z
      rw [h] at ea
      cases ea
      obtain ⟨ys, hy⟩ := hk.dk _ rfl
      exact ⟨ys, by rw [h', hy]⟩
    · exact ⟨us, e a _ z ea⟩
theorem Im.mut {H : Hp} {p : Addr} {o u : HO} (h : H p = some u) (hu : imm u = false) (hk : SameKd u o) : Im H (upd H p o) := .at h hu upd_same hk fun a v n e => by
  rw [upd_ne n]
  exact e

/-- a fact of a value that lasts -/
structure Rp where
  r : V → Hp → Prop
  st : ∀ {v : V} {H H' : Hp}, Im H H' → r v H → r v H'
  /-- it may be a list -/
  fl : Bool
  nl : fl = false → ∀ {v : V} {H : Hp} {a : Addr}, r v H → v = .ref a → ∀ xs, H a ≠ some (.lst xs)
def rI (n : Int) : Rp := ⟨fun v _ => v = .int n, fun _ h => h, false, fun _ => fun h e => by rw [h] at e; cases e⟩
def rB (b : Bool) : Rp := ⟨fun v _ => v = .bl b, fun _ h => h, false, fun _ => fun h e => by rw [h] at e; cases e⟩
def rS (s : Str) : Rp := ⟨fun v _ => v = .str s, fun _ h => h, false, fun _ => fun h e => by rw [h] at e; cases e⟩
def rU : Rp := ⟨fun v _ => v = .non, fun _ h => h, false, fun _ => fun h e => by rw [h] at e; cases e⟩
abbrev rN (n : Nat) : Rp := rI (n : Int)
theorem sqT_im {K : PySem.W.Frag} {H H' : Hp} {a : Addr} {xs : List V} (e : Im H H') (h : SqT K H a xs) : SqT K H' a xs := by
  rcases h with (h | ⟨o, h⟩) | h
  · exact .inl (.inl (e.im _ _ rfl h))
  · exact .inl (.inr ⟨o, e.im _ _ rfl h⟩)
  · exact .inr h
abbrev Vr (H : Hp) : List V → List Rp → Prop := Paired (fun (v : V) (R : Rp) => R.r v H)
theorem Vr.im {H H' : Hp} (e : Im H H') : ∀ {vs : List V} {rs : List Rp}, Vr H vs rs → Vr H' vs rs
  | _, _, .nil => .nil
  | _, _, .cons h t => .cons (Rp.st _ e h) (Vr.im e t)
theorem Vr.len {H : Hp} {vs : List V} {rs : List Rp} (h : Vr H vs rs) : vs.length = rs.length := Paired.length h
theorem Vr.get {H : Hp} : ∀ {vs : List V} {rs : List Rp} {i : Nat} {R : Rp}, Vr H vs rs → rs[i]? = some R → ∃ v, vs[i]? = some v ∧ R.r v H
  | _, _, _, _, .nil, e => by simp at e
  | _, _, 0, _, .cons h _, e => by simp at e; subst e; exact ⟨_, rfl, h⟩
  | _, _, i + 1, R, .cons _ t, e => by
    obtain ⟨v, h1, h2⟩ := Vr.get (i := i) (R := R) t (by simpa using e)
    exact ⟨v, by simpa using h1, h2⟩
theorem Vr.get' {H : Hp} : ∀ {vs : List V} {rs : List Rp} {i : Nat} {v : V}, Vr H vs rs → vs[i]? = some v → ∃ R, rs[i]? = some R ∧ R.r v H
  | _, _, _, _, .nil, e => by simp at e
  | _, _, 0, _, .cons h _, e => by simp at e; subst e; exact ⟨_, rfl, h⟩
  | _, _, i + 1, v, .cons _ t, e => by
    obtain ⟨R, h1, h2⟩ := Vr.get' (i := i) (v := v) t (by simpa using e)
    exact ⟨R, by simpa using h1, h2⟩
theorem Vr.set {H : Hp} {v : V} {R : Rp} (h : R.r v H) : ∀ {vs : List V} {rs : List Rp} (i : Nat), Vr H vs rs → Vr H (vs.set i v) (rs.set i R)
  | _, _, _, .nil => .nil
  | _, _, 0, .cons _ t => .cons h t
  | _, _, i + 1, .cons q t => .cons q (Vr.set h i t)
theorem Vr.app {H : Hp} : ∀ {vs us : List V} {rs ss : List Rp}, Vr H vs rs → Vr H us ss → Vr H (vs ++ us) (rs ++ ss)
  | _, _, _, _, .nil, s => s
  | _, _, _, _, .cons r t, s => .cons r (Vr.app t s)
theorem Vr.take {H : Hp} : ∀ {vs : List V} {rs : List Rp} (n : Nat), Vr H vs rs → Vr H (vs.take n) (rs.take n)
  | _, _, 0, _ => .nil
  | _, _, _ + 1, .nil => .nil
  | _, _, n + 1, .cons r t => .cons r (Vr.take n t)
theorem Vr.drop {H : Hp} : ∀ {vs : List V} {rs : List Rp} (n : Nat), Vr H vs rs → Vr H (vs.drop n) (rs.drop n)
  | _, _, 0, r => r
  | _, _, _ + 1, .nil => .nil
  | _, _, n + 1, .cons _ t => Vr.drop n t
theorem Vr.rev {H : Hp} : ∀ {vs : List V} {rs : List Rp}, Vr H vs rs → Vr H vs.reverse rs.reverse
  | _, _, .nil => .nil
  | _, _, .cons r t => by
    rw [List.reverse_cons, List.reverse_cons]
    exact Vr.app (Vr.rev t) (.cons r .nil)
theorem Vr.era {H : Hp} : ∀ {vs : List V} {rs : List Rp} (i : Nat), Vr H vs rs → Vr H (vs.eraseIdx i) (rs.eraseIdx i)
  | _, _, _, .nil => .nil
  | _, _, 0, .cons _ t => t
  | _, _, i + 1, .cons q t => .cons q (Vr.era i t)
theorem Vr.ints {H : Hp} : ∀ {vs : List V} {ns : List Int}, Vr H vs (ns.map rI) → vs = ns.map V.int
  | _, [], .nil => rfl
  | _, n :: ns, .cons h t => by rw [Vr.ints t, show _ = V.int n from h]; rfl
theorem Vr.of_ints {H : Hp} : ∀ {ns : List Int}, Vr H (ns.map V.int) (ns.map rI)
  | [] => .nil
  | _ :: _ => .cons rfl Vr.of_ints
theorem Vr.nats {H : Hp} : ∀ {vs : List V} {ns : List Nat}, Vr H vs (ns.map rN) → vs = (ns.map fun (n : Nat) => (n : Int)).map V.int
  | _, [], .nil => rfl
  | _, n :: ns, .cons h t => by rw [Vr.nats t, show _ = V.int (n : Int) from h]; rfl
theorem Vr.of_nats {H : Hp} : ∀ {ns : List Nat}, Vr H ((ns.map fun (n : Nat) => (n : Int)).map V.int) (ns.map rN)
  | [] => .nil
  | _ :: _ => .cons rfl Vr.of_nats
theorem Vr.bools {H : Hp} : ∀ {vs : List V} {ns : List Bool}, Vr H vs (ns.map rB) → vs = ns.map V.bl
  | _, [], .nil => rfl
  | _, n :: ns, .cons h t => by rw [Vr.bools t, show _ = V.bl n from h]; rfl
/-- a tuple -/
def rT (K : PySem.W.Frag) (rs : List Rp) : Rp := ⟨fun v H => ∃ a vs, v = .ref a ∧ H a = some (.tup vs) ∧ Vr H vs rs, fun e ⟨a, vs, h1, h2, h3⟩ => ⟨a, vs, h1, e.im _ _ rfl h2, h3.im e⟩, false, fun _ => fun ⟨a, vs, h1, h2, h3⟩ e xs z => by rw [h1] at e; cases e; rw [h2] at z; cases z⟩
def rTQ (K : PySem.W.Frag) (rs : List Rp) : Rp := ⟨fun v H => ∃ a vs, v = .ref a ∧ SqT K H a vs ∧ Vr H vs rs, fun e ⟨a, vs, h1, h2, h3⟩ => ⟨a, vs, h1, sqT_im e h2, h3.im e⟩, true, fun z => (by cases z)⟩

/-- what is known of a slot -/
inductive Sl where
  | no
  | im (R : Rp)
  /-- a list of one's own -/
  | own (rs : List Rp)
  /-- a list that came in, read only -/
  | bor (rs : List Rp)
  /-- a list or a tuple that came in, read only -/
  | seq (rs : List Rp)
  /-- a dict of one's own -/
  | dic (kvs : List (Key × Rp))
  /-- a dict of one's own whose keys are tuples, locked or not: just these -/
  | dit (lk : Option Obj) (us : List (List Key × V))
  /-- an object that is being made: its class, its attributes so far -/
  | obj (p C : Addr) (fs : List (Str × Rp))
  /-- just this value -/
  | al (v : V)
  /-- a list at p of which this holds -/
  | box (p : Addr) (φ : List V → Prop)
  /-- a table of code objects, each of which bears this name -/
  | tab (q : Str)
def Sl.mu : Sl → Bool
  | .own _ => true
  | .dic _ => true
  | .dit _ _ => true
  | .obj _ _ _ => true
  | .box _ _ => true
  | .tab _ => true
  | _ => false
abbrev Kvr (H : Hp) : List (Key × V) → List (Key × Rp) → Prop := Paired (fun (x : Key × V) (y : Key × Rp) => x.1 = y.1 ∧ y.2.r x.2 H)
theorem Kvr.im {H H' : Hp} (e : Im H H') : ∀ {vs : List (Key × V)} {rs : List (Key × Rp)}, Kvr H vs rs → Kvr H' vs rs
  | _, _, .nil => .nil
  | _, _, .cons h t => .cons ⟨h.1, Rp.st _ e h.2⟩ (Kvr.im e t)
abbrev Fvr (H : Hp) : List (Str × V) → List (Str × Rp) → Prop := Paired (fun (x : Str × V) (y : Str × Rp) => x.1 = y.1 ∧ y.2.r x.2 H)
theorem Fvr.im {H H' : Hp} (e : Im H H') : ∀ {vs : List (Str × V)} {rs : List (Str × Rp)}, Fvr H vs rs → Fvr H' vs rs
  | _, _, .nil => .nil
  | _, _, .cons h t => .cons ⟨h.1, Rp.st _ e h.2⟩ (Fvr.im e t)
theorem ins_few {C dx : Addr} {us : List (Str × V)} (h : us.length < 2) : imm (.ins C dx us) = false := by
  match us, h with
  | [], _ => rfl
  | [_], _ => rfl
theorem ins_many {C dx : Addr} {us : List (Str × V)} (h : 2 ≤ us.length) : imm (.ins C dx us) = true := by
  match us, h with
  | _ :: _ :: _, _ => rfl
def lkO : Option Obj → List (List Key × V) → HO
  | none, us => .dT us
  | some od, us => .frz od (.dT us)
theorem lkO_imm (lk : Option Obj) (us : List (List Key × V)) : imm (lkO lk us) = false := by cases lk <;> rfl
def Slk (K : PySem.W.Frag) (H0 : Hp) (O0 : List Addr) (H : Hp) (o : Option V) : Sl → Prop
  | .no => True
  | .im R => ∃ v, o = some v ∧ R.r v H
  | .own rs => ∃ a vs, o = some (.ref a) ∧ H a = some (.lst vs) ∧ Vr H vs rs ∧ (H0 a = none ∨ a ∈ O0)
  | .bor rs => ∃ a vs, o = some (.ref a) ∧ SqL K H0 a vs ∧ a ∉ O0 ∧ Vr H vs rs
  | .seq rs => ∃ a vs, o = some (.ref a) ∧ ((SqL K H0 a vs ∧ a ∉ O0) ∨ SqT K H a vs) ∧ Vr H vs rs
  | .dic kvs => ∃ a us, o = some (.ref a) ∧ H a = some (.dK us) ∧ Kvr H us kvs ∧ (H0 a = none ∨ a ∈ O0)
  | .dit lk us => ∃ a, o = some (.ref a) ∧ H a = some (lkO lk us) ∧ (H0 a = none ∨ a ∈ O0)
  | .obj a C fs => ∃ dx us, o = some (.ref a) ∧ H a = some (.ins C dx us) ∧ Fvr H us fs ∧ us.length < 2 ∧ (H0 a = none ∨ a ∈ O0)
  | .al v => o = some v
  | .box p φ => o = some (.ref p) ∧ (∃ vs, H p = some (.lst vs) ∧ φ vs) ∧ (H0 p = none ∨ p ∈ O0)
  | .tab q => ∃ a, o = some (.ref a) ∧ LamX.TabS H a q ∧ (H0 a = none ∨ a ∈ O0)
def Apart (p q : Option V × Sl) : Prop := p.2.mu = true → q.2.mu = true → p.1 ≠ q.1
theorem Apart.symm {p q : Option V × Sl} (h : Apart p q) : Apart q p := fun a b e => h b a e.symm
structure Ok (K : PySem.W.Frag) (H0 : Hp) (O0 : List Addr) (H : Hp) (L : List (Option V × Sl)) : Prop where
  fr : ∀ a o, H0 a = some o → a ∉ O0 → H a = some o
  sl : ∀ p ∈ L, Slk K H0 O0 H p.1 p.2
  ap : L.Pairwise Apart
section
variable {K : PySem.W.Frag} {H0 : Hp} {O0 : List Addr} {H H' : Hp} {L L' : List (Option V × Sl)} {o : Option V} {k : Sl}
theorem Ok.sub (h : Ok K H0 O0 H L) (s : L'.Sublist L) : Ok K H0 O0 H L' := ⟨h.fr, fun p hp => h.sl p (s.subset hp), h.ap.sublist s⟩
theorem Ok.perm (h : Ok K H0 O0 H L) (s : L.Perm L') : Ok K H0 O0 H L' := ⟨h.fr, fun p hp => h.sl p (s.mem_iff.mpr hp), (s.pairwise_iff Apart.symm).mp h.ap⟩
theorem Ok.tail {p : Option V × Sl} (h : Ok K H0 O0 H (p :: L)) : Ok K H0 O0 H L := h.sub (List.sublist_cons_self _ _)
theorem Ok.head {p : Option V × Sl} (h : Ok K H0 O0 H (p :: L)) : Slk K H0 O0 H p.1 p.2 := h.sl p List.mem_cons_self
/-- all that is tracked stays: the slots stay -/
theorem Slk.ext (e : ∀ a u, H a = some u → H' a = some u) (h : Slk K H0 O0 H o k) : Slk K H0 O0 H' o k := by
  have i : Im H H' := .of e
  cases k with
  | no => trivial
  | im R => obtain ⟨v, h1, h2⟩ := h; exact ⟨v, h1, Rp.st _ i h2⟩
  | own rs => obtain ⟨a, vs, h1, h2, h3, h4⟩ := h; exact ⟨a, vs, h1, e _ _ h2, h3.im i, h4⟩
  | bor rs => obtain ⟨a, vs, h1, h2, h3, h4⟩ := h; exact ⟨a, vs, h1, h2, h3, h4.im i⟩
  | seq rs =>
    obtain ⟨a, vs, h1, h2, h3⟩ := h
    refine ⟨a, vs, h1, ?_, h3.im i⟩
    rcases h2 with h2 | h2
    · exact .inl h2
    · exact .inr (sqT_im i h2)
  | dic kvs => obtain ⟨a, us, h1, h2, h3, h4⟩ := h; exact ⟨a, us, h1, e _ _ h2, h3.im i, h4⟩
  | dit lk us => obtain ⟨a, h1, h2, h4⟩ := h; exact ⟨a, h1, e _ _ h2, h4⟩
  | obj a C fs => obtain ⟨dx, us, h1, h2, h3, h4, h5⟩ := h; exact ⟨dx, us, h1, e _ _ h2, h3.im i, h4, h5⟩
  | al v => exact h
  | box p φ => obtain ⟨h1, ⟨vs, h2, h3⟩, h4⟩ := h; exact ⟨h1, ⟨vs, e _ _ h2, h3⟩, h4⟩
  | tab q => obtain ⟨a, h1, h2, h4⟩ := h; exact ⟨a, h1, h2.ext e, h4⟩
theorem Ok.ext (h : Ok K H0 O0 H L) (e : ∀ a u, H a = some u → H' a = some u) : Ok K H0 O0 H' L :=
  ⟨fun a u h1 h2 => e _ _ (h.fr a u h1 h2), fun p hp => (h.sl p hp).ext e, h.ap⟩
/-- an immutable result comes to it -/
theorem Ok.im (h : Ok K H0 O0 H L) {v : V} {R : Rp} (hr : R.r v H) : Ok K H0 O0 H ((some v, .im R) :: L) :=
  ⟨h.fr, fun p hp => by
    rcases List.mem_cons.mp hp with e | e
    · subst e; exact ⟨v, rfl, hr⟩
    · exact h.sl p e, List.pairwise_cons.mpr ⟨fun _ _ z => (by cases z), h.ap⟩⟩
theorem Slk.addr (h : Slk K H0 O0 H o k) (m : k.mu = true) : ∃ a u, o = some (.ref a) ∧ H a = some u ∧ imm u = false ∧ (H0 a = none ∨ a ∈ O0) := by
  cases k with
  | own rs => obtain ⟨a, vs, h1, h2, _, h4⟩ := h; exact ⟨a, _, h1, h2, rfl, h4⟩
  | dic kvs => obtain ⟨a, vs, h1, h2, _, h4⟩ := h; exact ⟨a, _, h1, h2, rfl, h4⟩
  | dit lk us => obtain ⟨a, h1, h2, h4⟩ := h; exact ⟨a, _, h1, h2, lkO_imm lk us, h4⟩
  | obj a C fs => obtain ⟨dx, us, h1, h2, h3, h4, h5⟩ := h; exact ⟨a, _, h1, h2, ins_few h4, h5⟩
  | box p φ => obtain ⟨h1, ⟨vs, h2, _⟩, h4⟩ := h; exact ⟨p, _, h1, h2, rfl, h4⟩
  | tab q => obtain ⟨a, h1, ⟨ps, h2, _⟩, h4⟩ := h; exact ⟨a, _, h1, h2, rfl, h4⟩
  | _ => cases m
/-- no code object stands there -/
theorem Slk.nocode {a : Addr} {c : Addr} {q : Str} (h : Slk K H0 O0 H (some (.ref a)) k) (m : k.mu = true) : H a ≠ some (LamX.CodeO c q) := fun z => by
  cases k with
  | own rs => obtain ⟨b, vs, h1, h2, _⟩ := h; cases h1; rw [z] at h2; cases h2
  | dic kvs => obtain ⟨b, vs, h1, h2, _⟩ := h; cases h1; rw [z] at h2; cases h2
  | dit lk us => obtain ⟨b, h1, h2, _⟩ := h; cases h1; rw [z] at h2; cases lk <;> cases h2
  | obj b C fs => obtain ⟨dx, us, h1, h2, _⟩ := h; cases h1; rw [z] at h2; cases h2
  | box p φ => obtain ⟨h1, ⟨vs, h2, _⟩, _⟩ := h; cases h1; rw [z] at h2; cases h2
  | tab q => obtain ⟨b, h1, ⟨ps, h2, _⟩, _⟩ := h; cases h1; rw [z] at h2; cases h2
  | _ => cases m
theorem Ok.fresh (h : Ok K H0 O0 H L) {p : Addr} (hp : H p = none) : H0 p = none ∨ p ∈ O0 := by
  by_cases z : p ∈ O0
  · exact .inr z
  · cases q : H0 p with
    | none => exact .inl rfl
    | some u => rw [h.fr p u q z] at hp; cases hp
/-- a new list comes to it -/
theorem Ok.newL (h : Ok K H0 O0 H L) {p : Addr} (hp : H p = none) {vs : List V} {rs : List Rp} (hr : Vr H vs rs) : Ok K H0 O0 (upd H p (.lst vs)) ((some (.ref p), .own rs) :: L) := by
  have e : ∀ a u, H a = some u → upd H p (.lst vs) a = some u := fun a u z => by rw [upd_ne (ne_of_none z hp)]; exact z
  have h' := h.ext e
  refine ⟨h'.fr, fun q hq => ?_, List.pairwise_cons.mpr ⟨fun q hq _ m z => ?_, h.ap⟩⟩
  · rcases List.mem_cons.mp hq with z | z
    · subst z
      exact ⟨p, vs, rfl, upd_same, hr.im (.of e), h.fresh hp⟩
    · exact h'.sl q z
  · obtain ⟨a, u, h1, h2, _⟩ := (h.sl q hq).addr m
    rw [← z] at h1
    cases h1
    rw [hp] at h2
    cases h2
/-- a fresh list that has come: at a heap that keeps all -/
theorem Ok.gotL (h : Ok K H0 O0 H L) (e : ∀ a u, H a = some u → H' a = some u) {p : Addr} (hp : H p = none) {vs : List V} {rs : List Rp} (h1 : H' p = some (.lst vs)) (hr : Vr H' vs rs) : Ok K H0 O0 H' ((some (.ref p), .own rs) :: L) := by
  have h' := h.ext e
  refine ⟨h'.fr, fun q hq => ?_, List.pairwise_cons.mpr ⟨fun q hq _ m z => ?_, h.ap⟩⟩
  · rcases List.mem_cons.mp hq with z | z
    · subst z
      exact ⟨p, vs, rfl, h1, hr, h.fresh hp⟩
    · exact h'.sl q z
  · obtain ⟨a, u, h1, h2, _⟩ := (h.sl q hq).addr m
    rw [← z] at h1
    cases h1
    rw [hp] at h2
    cases h2
theorem Ok.gotD (h : Ok K H0 O0 H L) (e : ∀ a u, H a = some u → H' a = some u) {p : Addr} (hp : H p = none) {vs : List (Key × V)} {rs : List (Key × Rp)} (h1 : H' p = some (.dK vs)) (hr : Kvr H' vs rs) : Ok K H0 O0 H' ((some (.ref p), .dic rs) :: L) := by
  have h' := h.ext e
  refine ⟨h'.fr, fun q hq => ?_, List.pairwise_cons.mpr ⟨fun q hq _ m z => ?_, h.ap⟩⟩
  · rcases List.mem_cons.mp hq with z | z
    · subst z
      exact ⟨p, vs, rfl, h1, hr, h.fresh hp⟩
    · exact h'.sl q z
  · obtain ⟨a, u, h1, h2, _⟩ := (h.sl q hq).addr m
    rw [← z] at h1
    cases h1
    rw [hp] at h2
    cases h2
/-- what may stand there behind -/
def _root_.Fx.Sl.kd : Sl → HO → Prop
  | .own _ => fun o => ∃ ys, o = .lst ys
  | .box _ _ => fun o => ∃ ys, o = .lst ys
  | .dic _ => fun o => ∃ ys, o = .dK ys
  | _ => fun _ => True
theorem Slk.same {p : Addr} {u o : HO} (h : Slk K H0 O0 H (some (.ref p)) k) (m : k.mu = true) (hu : H p = some u) (hk : k.kd o) : SameKd u o := by
  cases k with
  | own rs => obtain ⟨a, vs, h1, h2, _⟩ := h; cases h1; rw [hu] at h2; cases h2; obtain ⟨ys, e⟩ := hk; rw [e]; exact sk_lst
  | dic kvs => obtain ⟨a, vs, h1, h2, _⟩ := h; cases h1; rw [hu] at h2; cases h2; obtain ⟨ys, e⟩ := hk; rw [e]; exact sk_dk
  | dit lk us => obtain ⟨a, h1, h2, _⟩ := h; cases h1; rw [hu] at h2; cases h2; exact ⟨fun _ z => (by cases lk <;> cases z), fun _ z => (by cases lk <;> cases z)⟩
  | obj a C fs => obtain ⟨dx, us, h1, h2, _⟩ := h; cases h1; rw [hu] at h2; cases h2; exact ⟨fun _ z => (by cases z), fun _ z => (by cases z)⟩
  | box p φ => obtain ⟨h1, ⟨vs, h2, _⟩, _⟩ := h; cases h1; rw [hu] at h2; cases h2; obtain ⟨ys, e⟩ := hk; rw [e]; exact sk_lst
  | tab q => obtain ⟨a, h1, ⟨ps, h2, _⟩, _⟩ := h; cases h1; rw [hu] at h2; cases h2; exact ⟨fun _ z => (by cases z), fun _ z => (by cases z)⟩
  | _ => cases m
/-- the object of the first slot is changed, and new ones come -/
theorem Ok.chg {p : Addr} {k' : Sl} {o' : HO} (h : Ok K H0 O0 H ((some (.ref p), k) :: L)) (hk : k.mu = true) (e : ∀ a o, a ≠ p → H a = some o → H' a = some o) (ho : H' p = some o') (hd : k.kd o') (hk' : Slk K H0 O0 H' (some (.ref p)) k') : Ok K H0 O0 H' ((some (.ref p), k') :: L) := by
  obtain ⟨a, u, h1, h2, h3, h4⟩ := h.head.addr hk
  cases h1
  have i : Im H H' := .at h2 h3 ho (h.head.same hk h2 hd) e
  have ap := List.pairwise_cons.mp h.ap
  refine ⟨fun a o ea n => ?_, fun q hq => ?_, List.pairwise_cons.mpr ⟨fun q hq _ m => ap.1 q hq hk m, ap.2⟩⟩
  · have ne : a ≠ p := fun z => by
      subst z
      rcases h4 with h4 | h4
      · rw [ea] at h4; cases h4
      · exact n h4
    exact e a o ne (h.fr a o ea n)
  · rcases List.mem_cons.mp hq with z | z
    · subst z
      exact hk'
    · have s := h.sl q (List.mem_cons_of_mem _ z)
      obtain ⟨o, k2⟩ := q
      cases k2 with
      | no => trivial
      | im R => obtain ⟨v, h1, h2⟩ := s; exact ⟨v, h1, Rp.st _ i h2⟩
      | own ss =>
        obtain ⟨b, us, e1, e2, e3, e4⟩ := s
        have ne : b ≠ p := fun y => ap.1 _ z hk rfl (by rw [← y]; exact e1.symm)
        exact ⟨b, us, e1, e _ _ ne e2, e3.im i, e4⟩
      | bor ss => obtain ⟨b, us, e1, e2, e3, e4⟩ := s; exact ⟨b, us, e1, e2, e3, e4.im i⟩
      | seq ss =>
        obtain ⟨b, us, e1, e2, e3⟩ := s
        refine ⟨b, us, e1, ?_, e3.im i⟩
        rcases e2 with e2 | e2
        · exact .inl e2
        · exact .inr (sqT_im i e2)
      | dic ss =>
        obtain ⟨b, us, e1, e2, e3, e4⟩ := s
        have ne : b ≠ p := fun y => ap.1 _ z hk rfl (by rw [← y]; exact e1.symm)
        exact ⟨b, us, e1, e _ _ ne e2, e3.im i, e4⟩
      | dit lk us =>
        obtain ⟨b, e1, e2, e4⟩ := s
        have ne : b ≠ p := fun y => ap.1 _ z hk rfl (by rw [← y]; exact e1.symm)
        exact ⟨b, e1, e _ _ ne e2, e4⟩
      | obj b C fs =>
        obtain ⟨dx, us, e1, e2, e3, e4, e5⟩ := s
        have ne : b ≠ p := fun y => ap.1 _ z hk rfl (by rw [← y]; exact e1.symm)
        exact ⟨dx, us, e1, e _ _ ne e2, e3.im i, e4, e5⟩
      | al v => exact s
      | box b φ =>
        obtain ⟨e1, ⟨us, e2, e3⟩, e4⟩ := s
        have ne : b ≠ p := fun y => ap.1 _ z hk rfl (by rw [← y]; exact e1.symm)
        exact ⟨e1, ⟨us, e _ _ ne e2, e3⟩, e4⟩
      | tab nm =>
        obtain ⟨b, e1, ⟨ps, y1, y2, y3⟩, e4⟩ := s
        have ne : b ≠ p := fun y => ap.1 _ z hk rfl (by rw [← y]; exact e1.symm)
        refine ⟨b, e1, ⟨ps, e _ _ ne y1, y2, fun pos cv hc => ?_⟩, e4⟩
        obtain ⟨c, c1, c2⟩ := y3 pos cv hc
        exact ⟨c, c1, e _ _ (fun y => by subst y; exact h.head.nocode hk c2) c2⟩
theorem upd_but {p : Addr} {o : HO} : ∀ a u, a ≠ p → H a = some u → upd H p o a = some u := fun a u n e => by rw [upd_ne n]; exact e
theorem Slk.im_upd {p : Addr} {k : Sl} (h : Slk K H0 O0 H (some (.ref p)) k) (m : k.mu = true) (o : HO) (hd : k.kd o) : Im H (upd H p o) ∧ (H0 p = none ∨ p ∈ O0) := by
  obtain ⟨a, u, h1, h2, h3, h4⟩ := h.addr m
  cases h1
  exact ⟨.mut h2 h3 (h.same m h2 hd), h4⟩
/-- the list of the first slot is changed -/
theorem Ok.chL {p : Addr} {vs : List V} {rs : List Rp} (h : Ok K H0 O0 H ((some (.ref p), k) :: L)) (hk : k.mu = true) (hr : Vr H vs rs) (hd : k.kd (.lst vs) := by exact ⟨_, rfl⟩) : Ok K H0 O0 (upd H p (.lst vs)) ((some (.ref p), .own rs) :: L) :=
  h.chg hk upd_but upd_same hd ⟨p, vs, rfl, upd_same, hr.im (h.head.im_upd hk _ hd).1, (h.head.im_upd hk (.lst vs) hd).2⟩
theorem Ok.chD {p : Addr} {vs : List (Key × V)} {rs : List (Key × Rp)} (h : Ok K H0 O0 H ((some (.ref p), k) :: L)) (hk : k.mu = true) (hr : Kvr H vs rs) (hd : k.kd (.dK vs) := by exact ⟨_, rfl⟩) : Ok K H0 O0 (upd H p (.dK vs)) ((some (.ref p), .dic rs) :: L) :=
  h.chg hk upd_but upd_same hd ⟨p, vs, rfl, upd_same, hr.im (h.head.im_upd hk _ hd).1, (h.head.im_upd hk (.dK vs) hd).2⟩
theorem Ok.chB {p : Addr} {vs : List V} {φ : List V → Prop} (h : Ok K H0 O0 H ((some (.ref p), k) :: L)) (hk : k.mu = true) (hr : φ vs) (hd : k.kd (.lst vs) := by exact ⟨_, rfl⟩) : Ok K H0 O0 (upd H p (.lst vs)) ((some (.ref p), .box p φ) :: L) :=
  h.chg hk upd_but upd_same hd ⟨rfl, ⟨vs, upd_same, hr⟩, (h.head.im_upd hk (.lst vs) hd).2⟩
end
end Fx
set_option Elab.async false
set_option linter.all false
set_option maxRecDepth 100000
set_option maxHeartbeats 2000000
namespace Fx
open PySem L2 PyProof.Rows
section
variable (K : PySem.W.Frag)
/-- an expression, told by the slots: Φ of the result and of the slots behind it -/
def WE (te : TE) (E : List Sl) (Φ : Sl → List Sl → Prop) : Prop :=
  ∀ (H0 : Hp) (O0 : List Addr) (σ : L2.St) (T : List (Option V × Sl)) (H : Hp), σ.length = E.length → Ok K H0 O0 H (T ++ σ.zip E) → ∀ Q : VK,
    (∀ k E', Φ k E' → E'.length = E.length → ∀ v H2, Ok K H0 O0 H2 ((some v, k) :: (T ++ σ.zip E')) → Q v H2) → te σ H Q
def WT (tt : TT) (E : List Sl) (Φ : Bool → List Sl → Prop) : Prop :=
  ∀ (H0 : Hp) (O0 : List Addr) (σ : L2.St) (T : List (Option V × Sl)) (H : Hp), σ.length = E.length → Ok K H0 O0 H (T ++ σ.zip E) → ∀ Q : Bool → Hp → Prop,
    (∀ b E', Φ b E' → E'.length = E.length → ∀ H2, Ok K H0 O0 H2 (T ++ σ.zip E') → Q b H2) → tt σ H Q
/-- arguments: their values are kept among the temporaries, the last one first -/
def tmps (vs : List V) (ks : List Sl) : List (Option V × Sl) := ((vs.map some).zip ks).reverse
def WA (ta : TA) (E : List Sl) (Φ : List Sl → List Sl → Prop) : Prop :=
  ∀ (H0 : Hp) (O0 : List Addr) (σ : L2.St) (T : List (Option V × Sl)) (H : Hp), σ.length = E.length → Ok K H0 O0 H (T ++ σ.zip E) → ∀ Q : List V → Hp → Prop,
    (∀ ks E', Φ ks E' → E'.length = E.length → ∀ vs H2, vs.length = ks.length → Ok K H0 O0 H2 ((vs.map some).zip ks ++ (T ++ σ.zip E')) → Q vs H2) → ta σ H Q
def WS (ts : TS) (E : List Sl) (nx : List Sl → Prop) (rt : Sl → List Sl → Prop) (bk ct : List Sl → Prop) : Prop :=
  ∀ (H0 : Hp) (O0 : List Addr) (σ : L2.St) (T : List (Option V × Sl)) (H : Hp) (D : Ends), σ.length = E.length → Ok K H0 O0 H (T ++ σ.zip E) →
    (∀ E', nx E' → ∀ (σ' : L2.St) H2, σ'.length = E'.length → Ok K H0 O0 H2 (T ++ σ'.zip E') → D.nx σ' H2) →
    (∀ k E', rt k E' → ∀ (σ' : L2.St) v H2, σ'.length = E'.length → Ok K H0 O0 H2 ((some v, k) :: (T ++ σ'.zip E')) → D.rt v H2) →
    (∀ E', bk E' → ∀ (σ' : L2.St) H2, σ'.length = E'.length → Ok K H0 O0 H2 (T ++ σ'.zip E') → D.bk σ' H2) →
    (∀ E', ct E' → ∀ (σ' : L2.St) H2, σ'.length = E'.length → Ok K H0 O0 H2 (T ++ σ'.zip E') → D.ct σ' H2) → ts D σ H
/-- what an operation makes of two kinds -/
def OPR (r : R2) (k1 k2 k : Sl) : Prop := ∀ (H0 : Hp) (O0 : List Addr) (H : Hp) (L : List (Option V × Sl)) (x y : V), Ok K H0 O0 H ((some y, k2) :: (some x, k1) :: L) → ∀ Q : VK, (∀ z H2, Ok K H0 O0 H2 ((some z, k) :: L) → Q z H2) → r x y H Q
def UPR (r : V → Hp → VK → Prop) (k1 k : Sl) : Prop := ∀ (H0 : Hp) (O0 : List Addr) (H : Hp) (L : List (Option V × Sl)) (x : V), Ok K H0 O0 H ((some x, k1) :: L) → ∀ Q : VK, (∀ z H2, Ok K H0 O0 H2 ((some z, k) :: L) → Q z H2) → r x H Q
end
section
variable {K : PySem.W.Frag} {E : List Sl} {te ta tb : TE} {tt tu : TT} {Φ : Sl → List Sl → Prop} {Ψ : Bool → List Sl → Prop} {R : Rp} {i j : Nat} {nx : List Sl → Prop} {rt : Sl → List Sl → Prop} {bk ct : List Sl → Prop} {ts tw tz : TS} {k : Sl}

theorem zip_get {σ : L2.St} {E : List Sl} {i : Nat} {k : Sl} (hl : σ.length = E.length) (h : E[i]? = some k) : ∃ o, σ[i]? = some o ∧ (o, k) ∈ σ.zip E := by
  have hi : i < E.length := (List.getElem?_eq_some_iff.mp h).1
  have e2 := (List.getElem?_eq_some_iff.mp h).2
  have hi' : i < σ.length := by omega
  refine ⟨σ[i], List.getElem?_eq_getElem hi', ?_⟩
  have z : (σ.zip E)[i]'(by rw [List.length_zip]; omega) = (σ[i], E[i]) := List.getElem_zip
  rw [← e2, ← z]
  exact List.getElem_mem _
/-- the i-th slot drawn to the front -/
theorem zip_front : ∀ {σ : L2.St} {E : List Sl} {i : Nat} {o : Option V} {k : Sl}, σ[i]? = some o → E[i]? = some k → σ.length = E.length → ∃ L, (σ.zip E).Perm ((o, k) :: L) ∧ ∀ o' k', ((σ.set i o').zip (E.set i k')).Perm ((o', k') :: L)
  | [], _, _, _, _, h, _, _ => by simp at h
  | _ :: _, [], _, _, _, _, h, _ => by simp at h
  | a :: σ, b :: E, 0, o, k, h1, h2, hl => by
    simp at h1 h2
    subst h1; subst h2
    exact ⟨σ.zip E, .refl _, fun o' k' => .refl _⟩
  | a :: σ, b :: E, i + 1, o, k, h1, h2, hl => by
    obtain ⟨L, p1, p2⟩ := zip_front (σ := σ) (E := E) (i := i) (o := o) (k := k) (by simpa using h1) (by simpa using h2) (by simpa using hl)
    refine ⟨(a, b) :: L, ?_, fun o' k' => ?_⟩
    · show ((a, b) :: σ.zip E).Perm _
      exact (List.Perm.cons _ p1).trans (List.Perm.swap _ _ _)
    · show ((a, b) :: (σ.set i o').zip (E.set i k')).Perm _
      exact (List.Perm.cons _ (p2 o' k')).trans (List.Perm.swap _ _ _)
/-- a slot takes the value at the front -/
theorem Ok.store {H0 : Hp} {O0 : List Addr} {H : Hp} {T : List (Option V × Sl)} {σ : L2.St} {E : List Sl} {v : Option V} {k : Sl} (i : Nat) (hl : σ.length = E.length) (h : Ok K H0 O0 H ((v, k) :: (T ++ σ.zip E))) : Ok K H0 O0 H (T ++ (σ.set i v).zip (E.set i k)) := by
  by_cases hi : i < E.length
  · obtain ⟨L, p1, p2⟩ := zip_front (σ := σ) (E := E) (i := i) (List.getElem?_eq_getElem (by omega)) (List.getElem?_eq_getElem hi) hl
    have q : ((v, k) :: (T ++ σ.zip E)).Perm ((σ[i], E[i]) :: (T ++ ((v, k) :: L))) := by
      refine (List.Perm.cons _ (List.Perm.append_left T p1)).trans ?_
      refine (List.Perm.cons _ List.perm_middle).trans ?_
      refine (List.Perm.swap _ _ _).trans (List.Perm.cons _ ?_)
      exact List.perm_middle.symm
    exact (h.perm q).tail.perm (List.Perm.append_left T (p2 v k).symm)
  · rw [List.set_eq_of_length_le (by omega), List.set_eq_of_length_le (by omega)]
    exact h.tail
theorem we_mono {Φ' : Sl → List Sl → Prop} (h : WE K te E Φ) (m : ∀ k E', Φ k E' → Φ' k E') : WE K te E Φ' := fun H0 O0 σ T H hl ok Q q =>
  h H0 O0 σ T H hl ok Q fun k E' p => q k E' (m k E' p)
theorem we_var (h : E[i]? = some (.im R)) (p : Φ (.im R) E) : WE K (tVar i) E Φ := fun H0 O0 σ T H hl ok Q q => by
  obtain ⟨o, h1, h2⟩ := zip_get hl h
  obtain ⟨v, e, hv⟩ := ok.sl _ (List.mem_append_right _ h2)
  have e : o = some v := e
  subst e
  exact ⟨v, h1, q _ _ p rfl v H (ok.im hv)⟩
theorem we_c {v : V} (h : ∀ H, R.r v H) (p : Φ (.im R) E) : WE K (tC v) E Φ := fun H0 O0 σ T H hl ok Q q => q _ _ p rfl v H (ok.im (h H))
theorem we_int {n : Int} (p : Φ (.im (rI n)) E) : WE K (tC (.int n)) E Φ := we_c (fun _ => rfl) p
theorem we_bl {b : Bool} (p : Φ (.im (rB b)) E) : WE K (tC (.bl b)) E Φ := we_c (fun _ => rfl) p
theorem we_str {s : Str} (p : Φ (.im (rS s)) E) : WE K (tC (.str s)) E Φ := we_c (fun _ => rfl) p
theorem we_non (p : Φ (.im rU) E) : WE K (tC .non) E Φ := we_c (fun _ => rfl) p
theorem cons_app {α : Type} (a : α) (l m : List α) : a :: (l ++ m) = (a :: l) ++ m := rfl
theorem we_op {r : R2} (h : WE K ta E fun k1 E1 => WE K tb E1 fun k2 E2 => ∃ k, OPR K r k1 k2 k ∧ Φ k E2) : WE K (tOp r ta tb) E Φ := fun H0 O0 σ T H hl ok Q q =>
  h H0 O0 σ T H hl ok _ fun k1 E1 h1 l1 x H1 ok1 =>
    h1 H0 O0 σ ((some x, k1) :: T) H1 (by omega) ok1 _ fun k2 E2 ⟨k, hr, p⟩ l2 y H2 ok2 => hr H0 O0 H2 _ x y ok2 _ fun z H3 ok3 => q k E2 p (by omega) z H3 ok3
theorem we_un {r : V → Hp → VK → Prop} (h : WE K ta E fun k1 E1 => ∃ k, UPR K r k1 k ∧ Φ k E1) : WE K (tUn r ta) E Φ := fun H0 O0 σ T H hl ok Q q =>
  h H0 O0 σ T H hl ok _ fun k1 E1 ⟨k, hr, p⟩ l1 x H1 ok1 => hr H0 O0 H1 _ x ok1 _ fun z H3 ok3 => q k E1 p l1 z H3 ok3
/-! operations on ints -/
theorem opr_im {r : R2} {R1 R2 R3 : Rp} (h : ∀ x y H, R1.r x H → R2.r y H → ∀ Q : VK, (∀ z, R3.r z H → Q z H) → r x y H Q) : OPR K r (.im R1) (.im R2) (.im R3) := fun H0 O0 H L x y ok Q q => by
  obtain ⟨y', e1, h1⟩ := ok.head
  obtain ⟨x', e2, h2⟩ := ok.tail.head
  cases e1
  cases e2
  exact h x y H h2 h1 Q fun z hz => q z H (ok.tail.tail.im hz)
theorem opr_I0 {g : Int → Int → V} {a b : Int} (h : ∀ H, R.r (g a b) H) : OPR K (rI0 g) (.im (rI a)) (.im (rI b)) (.im R) := opr_im fun x y H h1 h2 Q q => ⟨a, b, h1, h2, q _ (h H)⟩
theorem opr_I {C : Int → Int → Prop} {g : Int → Int → V} {a b : Int} (hc : C a b) (h : ∀ H, R.r (g a b) H) : OPR K (L2.rI C g) (.im (rI a)) (.im (rI b)) (.im R) := opr_im fun x y H h1 h2 Q q => ⟨a, b, h1, h2, hc, q _ (h H)⟩
theorem opr_eqI {a b : Int} : OPR K rEq (.im (rI a)) (.im (rI b)) (.im (rB (decide (a = b)))) := opr_im fun x y H h1 h2 Q q => by
  have h1 : x = V.int a := h1
  have h2 : y = V.int b := h2
  subst h1 h2
  refine ⟨rfl, q _ ?_⟩
  show V.bl (decide (V.int a = V.int b)) = V.bl (decide (a = b))
  simp
theorem opr_neI {a b : Int} : OPR K rNe (.im (rI a)) (.im (rI b)) (.im (rB (!decide (a = b)))) := opr_im fun x y H h1 h2 Q q => by
  have h1 : x = V.int a := h1
  have h2 : y = V.int b := h2
  subst h1 h2
  refine ⟨rfl, q _ ?_⟩
  show V.bl (!decide (V.int a = V.int b)) = V.bl (!decide (a = b))
  simp
/-! tests -/
theorem wt_test (h : WE K te E fun k E1 => ∃ b, k = .im (rB b) ∧ Ψ b E1) : WT K (tTest te) E Ψ := fun H0 O0 σ T H hl ok Q q =>
  h H0 O0 σ T H hl ok _ fun k1 E1 ⟨b, e, p⟩ l1 x H1 ok1 => by
    subst e
    obtain ⟨v, e1, h1⟩ := ok1.head
    cases e1
    exact ⟨b, h1, q b E1 p l1 H1 ok1.tail⟩
theorem wt_B (h : WE K te E fun k E1 => ∃ b, k = .im (rB b) ∧ Ψ b E1) : WT K (tB te) E Ψ := fun H0 O0 σ T H hl ok Q q =>
  h H0 O0 σ T H hl ok _ fun k1 E1 ⟨b, e, p⟩ l1 x H1 ok1 => by
    subst e
    obtain ⟨v, e1, h1⟩ := ok1.head
    cases e1
    exact ⟨b, h1, q b E1 p l1 H1 ok1.tail⟩
theorem wt_not (h : WT K tt E fun b E1 => Ψ (!b) E1) : WT K (tNot tt) E Ψ := fun H0 O0 σ T H hl ok Q q => h H0 O0 σ T H hl ok _ fun b E1 p l1 H1 ok1 => q _ E1 p l1 H1 ok1
theorem wt_and (h : WT K tt E fun b E1 => if b = true then WT K tu E1 Ψ else Ψ false E1) : WT K (tAnd tt tu) E Ψ := fun H0 O0 σ T H hl ok Q q =>
  h H0 O0 σ T H hl ok _ fun b E1 p l1 H1 ok1 => by
    cases b with
    | true =>
      show tu σ H1 Q
      exact p H0 O0 σ T H1 (by omega) ok1 Q fun b2 E2 p2 l2 H2 ok2 => q b2 E2 p2 (by omega) H2 ok2
    | false =>
      show Q false H1
      exact q false E1 p l1 H1 ok1
theorem wt_or (h : WT K tt E fun b E1 => if b = true then Ψ true E1 else WT K tu E1 Ψ) : WT K (tOr tt tu) E Ψ := fun H0 O0 σ T H hl ok Q q =>
  h H0 O0 σ T H hl ok _ fun b E1 p l1 H1 ok1 => by
    cases b with
    | true =>
      show Q true H1
      exact q true E1 p l1 H1 ok1
    | false =>
      show tu σ H1 Q
      exact p H0 O0 σ T H1 (by omega) ok1 Q fun b2 E2 p2 l2 H2 ok2 => q b2 E2 p2 (by omega) H2 ok2
theorem we_andV (h : WE K ta E fun k E1 => ∃ b, k = .im (rB b) ∧ if b = true then WE K tb E1 Φ else Φ (.im (rB false)) E1) : WE K (tAndV ta tb) E Φ := fun H0 O0 σ T H hl ok Q q =>
  h H0 O0 σ T H hl ok _ fun k1 E1 ⟨b, e, p⟩ l1 x H1 ok1 => by
    subst e
    obtain ⟨v, e1, h1⟩ := ok1.head
    cases e1
    refine ⟨b, h1, ?_⟩
    cases b with
    | true =>
      show tb σ H1 Q
      exact p H0 O0 σ T H1 (by omega) ok1.tail Q fun b2 E2 p2 l2 H2 ok2 => q b2 E2 p2 (by omega) H2 ok2
    | false =>
      show Q (.bl false) H1
      exact q _ E1 p l1 _ H1 (ok1.tail.im (R := rB false) rfl)
theorem we_orV (h : WE K ta E fun k E1 => ∃ b, k = .im (rB b) ∧ if b = true then Φ (.im (rB true)) E1 else WE K tb E1 Φ) : WE K (tOrV ta tb) E Φ := fun H0 O0 σ T H hl ok Q q =>
  h H0 O0 σ T H hl ok _ fun k1 E1 ⟨b, e, p⟩ l1 x H1 ok1 => by
    subst e
    obtain ⟨v, e1, h1⟩ := ok1.head
    cases e1
    refine ⟨b, h1, ?_⟩
    cases b with
    | true =>
      show Q (.bl true) H1
      exact q _ E1 p l1 _ H1 (ok1.tail.im (R := rB true) rfl)
    | false =>
      show tb σ H1 Q
      exact p H0 O0 σ T H1 (by omega) ok1.tail Q fun b2 E2 p2 l2 H2 ok2 => q b2 E2 p2 (by omega) H2 ok2
theorem we_notV (h : WE K ta E fun k E1 => ∃ b, k = .im (rB b) ∧ Φ (.im (rB (!b))) E1) : WE K (tNotV ta) E Φ := fun H0 O0 σ T H hl ok Q q =>
  h H0 O0 σ T H hl ok _ fun k1 E1 ⟨b, e, p⟩ l1 x H1 ok1 => by
    subst e
    obtain ⟨v, e1, h1⟩ := ok1.head
    cases e1
    exact ⟨b, h1, q _ E1 p l1 _ H1 (ok1.tail.im (R := rB (!b)) rfl)⟩
theorem we_if (h : WT K tt E fun b E1 => if b = true then WE K ta E1 Φ else WE K tb E1 Φ) : WE K (tIf tt ta tb) E Φ := fun H0 O0 σ T H hl ok Q q =>
  h H0 O0 σ T H hl ok _ fun b E1 p l1 H1 ok1 => by
    cases b with
    | true =>
      show ta σ H1 Q
      exact p H0 O0 σ T H1 (by omega) ok1 Q fun k2 E2 p2 l2 v H2 ok2 => q k2 E2 p2 (by omega) v H2 ok2
    | false =>
      show tb σ H1 Q
      exact p H0 O0 σ T H1 (by omega) ok1 Q fun k2 E2 p2 l2 v H2 ok2 => q k2 E2 p2 (by omega) v H2 ok2
/-- truth of an int -/
def tTru (K : PySem.W.Frag) (ta : TE) : TT := fun σ H Q => ta σ H fun x H' => ∃ k, TruV K x H' k ∧ Q k H'
theorem wt_tru (h : WE K te E fun k E1 => ∃ n : Int, k = .im (rI n) ∧ Ψ (n != 0) E1) : WT K (tTru K te) E Ψ := fun H0 O0 σ T H hl ok Q q =>
  h H0 O0 σ T H hl ok _ fun k1 E1 ⟨n, e, p⟩ l1 x H1 ok1 => by
    subst e
    obtain ⟨v, e1, h1⟩ := ok1.head
    cases e1
    have h1 : x = V.int n := h1
    subst h1
    exact ⟨n != 0, rfl, q _ E1 p l1 H1 ok1.tail⟩
/-! arguments, displays -/
theorem wa_nil {Θ : List Sl → List Sl → Prop} (p : Θ [] E) : WA K tNil E Θ := fun H0 O0 σ T H hl ok Q q => q [] E p rfl [] H rfl ok
theorem wa_cons {tr : TA} {Θ : List Sl → List Sl → Prop} (h : WE K te E fun k E1 => WA K tr E1 fun ks E2 => Θ (k :: ks) E2) : WA K (tCons te tr) E Θ := fun H0 O0 σ T H hl ok Q q =>
  h H0 O0 σ T H hl ok _ fun k E1 h1 l1 x H1 ok1 => h1 H0 O0 σ ((some x, k) :: T) H1 (by omega) ok1 _ fun ks E2 p l2 vs H2 lv ok2 => by
    refine q (k :: ks) E2 p (by omega) (x :: vs) H2 (by simp [lv]) (ok2.perm ?_)
    exact List.perm_middle
/-- the immutable ones' values -/
theorem Ok.vals {H0 : Hp} {O0 : List Addr} {H : Hp} {L : List (Option V × Sl)} : ∀ {vs : List V} {rs : List Rp}, vs.length = (rs.map Sl.im).length → Ok K H0 O0 H ((vs.map some).zip (rs.map Sl.im) ++ L) → Vr H vs rs ∧ Ok K H0 O0 H L
  | [], [], _, ok => ⟨.nil, ok⟩
  | v :: vs, R :: rs, hl, ok => by
    obtain ⟨w, e, h⟩ := ok.head
    cases e
    have ok' : Ok K H0 O0 H ((vs.map some).zip (rs.map Sl.im) ++ L) := ok.tail
    obtain ⟨h1, h2⟩ := Ok.vals (by simpa using hl) ok'
    exact ⟨.cons h h1, h2⟩
theorem we_tup {tr : TA} (h : WA K tr E fun ks E1 => ∃ rs : List Rp, ks = rs.map Sl.im ∧ rs.length ≤ sizeLine ∧ Φ (.im (rT K rs)) E1) : WE K (tTup tr) E Φ := fun H0 O0 σ T H hl ok Q q =>
  h H0 O0 σ T H hl ok _ fun ks E1 ⟨rs, e, z, p⟩ l1 vs H1 lv ok1 => by
    subst e
    obtain ⟨hv, ok2⟩ := ok1.vals lv
    refine ⟨by rw [hv.len]; exact z, fun a ha => q _ E1 p l1 _ _ ?_⟩
    have e : ∀ b u, H1 b = some u → upd H1 a (.tup vs) b = some u := fun b u z => by rw [upd_ne (ne_of_none z ha)]; exact z
    exact (ok2.ext e).im ⟨a, vs, rfl, upd_same, hv.im (.of e)⟩
theorem we_lst {tr : TA} (h : WA K tr E fun ks E1 => ∃ rs : List Rp, ks = rs.map Sl.im ∧ rs.length ≤ sizeLine ∧ Φ (.own rs) E1) : WE K (tLst tr) E Φ := fun H0 O0 σ T H hl ok Q q =>
  h H0 O0 σ T H hl ok _ fun ks E1 ⟨rs, e, z, p⟩ l1 vs H1 lv ok1 => by
    subst e
    obtain ⟨hv, ok2⟩ := ok1.vals lv
    exact ⟨by rw [hv.len]; exact z, fun a ha => q _ E1 p l1 _ _ (ok2.newL ha hv)⟩
/-! statements -/
theorem ws_mono {nx' : List Sl → Prop} {rt' : Sl → List Sl → Prop} {bk' ct' : List Sl → Prop} (h : WS K ts E nx rt bk ct) (m1 : ∀ E', nx E' → nx' E') (m2 : ∀ k E', rt k E' → rt' k E') (m3 : ∀ E', bk E' → bk' E') (m4 : ∀ E', ct E' → ct' E') : WS K ts E nx' rt' bk' ct' :=
  fun H0 O0 σ T H D hl ok n r b c => h H0 O0 σ T H D hl ok (fun E' p => n E' (m1 E' p)) (fun k E' p => r k E' (m2 k E' p)) (fun E' p => b E' (m3 E' p)) (fun E' p => c E' (m4 E' p))
theorem ws_seq (h : WS K ts E (fun E1 => WS K tw E1 nx rt bk ct) rt bk ct) : WS K (tSeq ts tw) E nx rt bk ct := fun H0 O0 σ T H D hl ok n r b c =>
  h H0 O0 σ T H { D with nx := tw D } hl ok (fun E1 h1 σ' H2 ls ok2 => h1 H0 O0 σ' T H2 D ls ok2 n r b c) r b c
theorem ws_next (h : nx E) : WS K tNext E nx rt bk ct := fun H0 O0 σ T H D hl ok n r b c => n E h σ H hl ok
theorem ws_brk (h : bk E) : WS K tBreak E nx rt bk ct := fun H0 O0 σ T H D hl ok n r b c => b E h σ H hl ok
theorem ws_cont (h : ct E) : WS K tCont E nx rt bk ct := fun H0 O0 σ T H D hl ok n r b c => c E h σ H hl ok
theorem ws_ret (h : WE K te E rt) : WS K (tRet te) E nx rt bk ct := fun H0 O0 σ T H D hl ok n r b c =>
  h H0 O0 σ T H hl ok _ fun k E1 p l v H2 ok2 => r k E1 p σ v H2 (by omega) ok2
theorem ws_retN (h : rt (.im rU) E) : WS K tRetN E nx rt bk ct := fun H0 O0 σ T H D hl ok n r b c => r _ E h σ .non H hl (ok.im (R := rU) rfl)
theorem ws_asg (h : WE K te E fun k E1 => nx (E1.set i k)) : WS K (tAsg te (gName i)) E nx rt bk ct := fun H0 O0 σ T H D hl ok n r b c =>
  h H0 O0 σ T H hl ok _ fun k E1 p l v H2 ok2 => n _ p _ H2 (by simp [l, hl]) (ok2.store i (by omega))
theorem ws_drop (h : WE K te E fun _ E1 => nx E1) : WS K (tDrop te) E nx rt bk ct := fun H0 O0 σ T H D hl ok n r b c =>
  h H0 O0 σ T H hl ok _ fun k E1 p l v H2 ok2 => n _ p σ H2 (by omega) ok2.tail
theorem ws_if (h : WT K tt E fun b E1 => if b = true then WS K ts E1 nx rt bk ct else WS K tw E1 nx rt bk ct) : WS K (tIfS tt ts tw) E nx rt bk ct := fun H0 O0 σ T H D hl ok n r b c =>
  h H0 O0 σ T H hl ok _ fun k E1 p l H2 ok2 => by
    cases k with
    | true =>
      show ts D σ H2
      exact p H0 O0 σ T H2 D (by omega) ok2 n r b c
    | false =>
      show tw D σ H2
      exact p H0 O0 σ T H2 D (by omega) ok2 n r b c
theorem ws_aug {ti : TIp} {R1 : Rp} (hx : E[i]? = some (.im R1)) (h : WE K te E fun k2 E1 => ∃ k, E1 = E ∧ OPR K ti (.im R1) k2 k ∧ nx (E1.set i k)) : WS K (tAug i te ti) E nx rt bk ct := fun H0 O0 σ T H D hl ok n r b c => by
  obtain ⟨o, h1, h2⟩ := zip_get hl hx
  obtain ⟨v, e, hv⟩ := ok.sl _ (List.mem_append_right _ h2)
  have e : o = some v := e
  subst e
  refine ⟨v, h1, ?_⟩
  have ok1 := ok.im hv
  refine h H0 O0 σ ((some v, .im R1) :: T) H hl ok1 _ fun k2 E1 ⟨k, ee, hr, p⟩ l y H2 ok2 => ?_
  exact hr H0 O0 H2 _ v y ok2 _ fun z H3 ok3 => n _ p _ H3 (by simp [l, hl]) (ok3.store i (by omega))
theorem ws_par {i j : Nat} {ta : TA} (h : WA K ta E fun ks E1 => ∃ k1 k2, ks = [k1, k2] ∧ nx ((E1.set i k1).set j k2)) : WS K (tPar i j ta) E nx rt bk ct := fun H0 O0 σ T H D hl ok n r b c =>
  h H0 O0 σ T H hl ok _ fun ks E1 ⟨k1, k2, e, p⟩ l vs H2 lv ok2 => by
    subst e
    match vs, lv with
    | [v, w], _ =>
      refine ⟨v, w, rfl, n _ p _ H2 (by simp [l, hl]) ?_⟩
      have q : Ok K H0 O0 H2 ((some w, k2) :: (T ++ (σ.set i (some v)).zip (E1.set i k1))) := by
        have s := Ok.store (T := (some w, k2) :: T) i (by omega) (ok2 : Ok K H0 O0 H2 ((some v, k1) :: (((some w, k2) :: T) ++ σ.zip E1)))
        exact s
      exact q.store j (by simp [l, hl])
/-- a slot is not needed any more -/
theorem Ok.weak {H0 : Hp} {O0 : List Addr} {H : Hp} {T : List (Option V × Sl)} : ∀ {σ : L2.St} {E E' : List Sl}, Ok K H0 O0 H (T ++ σ.zip E) → Paired (fun a b => a = b ∨ b = Sl.no) E E' → Ok K H0 O0 H (T ++ σ.zip E')
  | [], E, E', h, _ => by simpa using h
  | _ :: _, [], _, h, .nil => h
  | s :: σ, a :: E, b :: E', h, .cons p t => by
    have h1 : Ok K H0 O0 H (((s, a) :: T) ++ σ.zip E) := h.perm List.perm_middle
    have h2 := Ok.weak h1 t
    have h3 : Ok K H0 O0 H ((s, a) :: (T ++ σ.zip E')) := h2
    have h4 : Ok K H0 O0 H ((s, b) :: (T ++ σ.zip E')) := by
      rcases p with p | p
      · subst p; exact h3
      · subst p
        refine ⟨h3.fr, fun q hq => ?_, List.pairwise_cons.mpr ⟨fun _ _ z => (by cases z), (List.pairwise_cons.mp h3.ap).2⟩⟩
        rcases List.mem_cons.mp hq with z | z
        · subst z; trivial
        · exact h3.sl q (List.mem_cons_of_mem _ z)
    exact h4.perm List.perm_middle.symm
end
end Fx
set_option Elab.async false
set_option linter.all false
set_option maxRecDepth 100000
set_option maxHeartbeats 2000000
namespace Fx
open PySem L2 PyProof.Rows
section
variable (K : PySem.W.Frag)
/-- J walks over these, as long as τ stands -/
structure Walks (J : It) (rs : List Rp) (τ : Option V × Sl) : Prop where
  go : ∀ (H0 : Hp) (O0 : List Addr) (H : Hp) (L : List (Option V × Sl)), Ok K H0 O0 H (τ :: L) → ∀ i R, rs[i]? = some R → J.go i H ∧ ∀ x H', J.yld i H x H' → Ok K H0 O0 H' ((some x, .im R) :: τ :: L)
  stop : ∀ (H0 : Hp) (O0 : List Addr) (H : Hp) (L : List (Option V × Sl)), Ok K H0 O0 H (τ :: L) → J.stop rs.length H
def WI (wi : TI) (E : List Sl) (Θ : List Rp → List Sl → Prop) : Prop :=
  ∀ (H0 : Hp) (O0 : List Addr) (σ : L2.St) (T : List (Option V × Sl)) (H : Hp), σ.length = E.length → Ok K H0 O0 H (T ++ σ.zip E) → ∀ Q : It → Hp → Prop,
    (∀ rs E', Θ rs E' → E'.length = E.length → ∀ J τ H2, Walks K J rs τ → Ok K H0 O0 H2 (τ :: (T ++ σ.zip E')) → Q J H2) → wi σ H Q
end
section
variable {K : PySem.W.Frag} {E : List Sl} {te ta tb tl : TE} {tt tu : TT} {Φ : Sl → List Sl → Prop} {Ψ : Bool → List Sl → Prop} {R : Rp} {i j : Nat} {nx : List Sl → Prop} {rt : Sl → List Sl → Prop} {bk ct : List Sl → Prop} {ts tw tz : TS} {k : Sl} {Θ : List Rp → List Sl → Prop} {wi : TI}
def rTa (K : PySem.W.Frag) (a : Addr) (vs : List V) (rs : List Rp) : Rp := ⟨fun v H => v = .ref a ∧ SqT K H a vs ∧ Vr H vs rs, fun e ⟨h1, h2, h3⟩ => ⟨h1, sqT_im e h2, h3.im e⟩, true, fun z => (by cases z)⟩
theorem walks_tup {a : Addr} {vs : List V} {rs : List Rp} : Walks K (Itt K a) rs (some (.ref a), .im (rTa K a vs rs)) := by
  refine ⟨fun H0 O0 H L ok i R hi => ?_, fun H0 O0 H L ok => ?_⟩
  · obtain ⟨w, e, _, h2, h3⟩ := ok.head
    obtain ⟨v, hv, hr⟩ := h3.get hi
    refine ⟨⟨vs, v, h2, hv⟩, fun x H' y => ?_⟩
    obtain ⟨e1, y⟩ := y
    subst e1
    have hx := y vs (h2)
    rw [hv] at hx
    cases hx
    exact ok.im hr
  · obtain ⟨w, e, _, h2, h3⟩ := ok.head
    exact ⟨vs, h2, by rw [h3.len]; exact Nat.le_refl _⟩
def rLa (a : Addr) (vs : List V) (rs : List Rp) : Prop := True
theorem walks_own {a : Addr} {rs : List Rp} : Walks K (Itl K a) rs (some (.ref a), .own rs) := by
  refine ⟨fun H0 O0 H L ok i R hi => ?_, fun H0 O0 H L ok => ?_⟩
  · obtain ⟨b, vs, e, h2, h3, _⟩ := ok.head
    cases e
    obtain ⟨v, hv, hr⟩ := h3.get hi
    refine ⟨⟨vs, v, SqL.of h2, hv⟩, fun x H' y => ?_⟩
    obtain ⟨e1, y⟩ := y
    subst e1
    have hx := y vs (SqL.of h2)
    rw [hv] at hx
    cases hx
    exact ok.im hr
  · obtain ⟨b, vs, e, h2, h3, _⟩ := ok.head
    cases e
    exact ⟨vs, SqL.of h2, by rw [h3.len]; exact Nat.le_refl _⟩
theorem sqL_fr {H0 H : Hp} {O0 : List Addr} {L : List (Option V × Sl)} {a : Addr} {vs : List V} (ok : Ok K H0 O0 H L) (h : SqL K H0 a vs) (n : a ∉ O0) : SqL K H a vs := by
  rcases h with (h | ⟨o, h⟩) | h
  · exact .inl (.inl (ok.fr _ _ h n))
  · exact .inl (.inr ⟨o, ok.fr _ _ h n⟩)
  · exact .inr h
theorem walks_bor {a : Addr} {rs : List Rp} : Walks K (Itl K a) rs (some (.ref a), .bor rs) := by
  refine ⟨fun H0 O0 H L ok i R hi => ?_, fun H0 O0 H L ok => ?_⟩
  · obtain ⟨b, vs, e, h2, n, h3⟩ := ok.head
    cases e
    have hq := sqL_fr ok h2 n
    obtain ⟨v, hv, hr⟩ := h3.get hi
    refine ⟨⟨vs, v, hq, hv⟩, fun x H' y => ?_⟩
    obtain ⟨e1, y⟩ := y
    subst e1
    have hx := y vs hq
    rw [hv] at hx
    cases hx
    exact ok.im hr
  · obtain ⟨b, vs, e, h2, n, h3⟩ := ok.head
    cases e
    exact ⟨vs, sqL_fr ok h2 n, by rw [h3.len]; exact Nat.le_refl _⟩
theorem walks_rng {lo : Int} {n : Nat} : Walks K (Itr lo n) ((List.range n).map fun (i : Nat) => rI (lo + (i : Int))) (none, .no) := by
  refine ⟨fun H0 O0 H L ok i R hi => ?_, fun H0 O0 H L ok => ?_⟩
  · rw [List.getElem?_map] at hi
    have hn : i < n := by
      rcases Nat.lt_or_ge i n with z | z
      · exact z
      · rw [List.getElem?_eq_none (by simpa using z)] at hi
        cases hi
    rw [List.getElem?_range hn] at hi
    cases hi
    refine ⟨hn, fun x H' y => ?_⟩
    obtain ⟨e, y⟩ := y
    subst e y
    exact ok.im (R := rI (lo + (i : Int))) rfl
  · show n ≤ ((List.range n).map _).length
    simp
theorem wi_tup (h : WE K tl E fun k E1 => ∃ rs, k = .im (rT K rs) ∧ Θ rs E1) : WI K (iTup K tl) E Θ := fun H0 O0 σ T H hl ok Q q =>
  h H0 O0 σ T H hl ok _ fun k E1 ⟨rs, e, p⟩ l v H2 ok2 => by
    subst e
    obtain ⟨w, e, a, vs, h1, h2, h3⟩ := ok2.head
    cases e
    subst h1
    exact ⟨a, rfl, ⟨vs, SqT.of h2⟩, q rs E1 p l _ (some (.ref a), .im (rTa K a vs rs)) H2 walks_tup (ok2.tail.im ⟨rfl, SqT.of h2, h3⟩)⟩
theorem wi_lst (h : WE K tl E fun k E1 => ∃ rs, k = .own rs ∧ Θ rs E1) : WI K (iList K tl) E Θ := fun H0 O0 σ T H hl ok Q q =>
  h H0 O0 σ T H hl ok _ fun k E1 ⟨rs, e, p⟩ l v H2 ok2 => by
    subst e
    obtain ⟨a, vs, e1, h2, h3, _⟩ := ok2.head
    cases e1
    exact ⟨a, rfl, ⟨vs, SqL.of h2⟩, q rs E1 p l _ _ H2 walks_own ok2⟩
theorem Ok.dupB {H0 : Hp} {O0 : List Addr} {H : Hp} {L : List (Option V × Sl)} {p : Option V × Sl} (ok : Ok K H0 O0 H L) (h : p ∈ L) (m : p.2.mu = false) : Ok K H0 O0 H (p :: L) :=
  ⟨ok.fr, fun q hq => by
    rcases List.mem_cons.mp hq with e | e
    · subst e; exact ok.sl _ h
    · exact ok.sl _ e, List.pairwise_cons.mpr ⟨fun _ _ z => (by rw [m] at z; cases z), ok.ap⟩⟩
theorem wi_bor {s : Nat} {rs : List Rp} (hs : E[s]? = some (.bor rs)) (p : Θ rs E) : WI K (iList K (tVar s)) E Θ := fun H0 O0 σ T H hl ok Q q => by
  obtain ⟨o, h1, h2⟩ := zip_get hl hs
  have hm := List.mem_append_right T h2
  obtain ⟨a, vs, e, h3, n, h4⟩ := ok.sl _ hm
  have e : o = some (.ref a) := e
  subst e
  exact ⟨_, h1, a, rfl, ⟨vs, sqL_fr ok h3 n⟩, q rs E p rfl _ _ H walks_bor (ok.dupB hm rfl)⟩
/-- a name that holds a list or a tuple -/
def iSeq (K : PySem.W.Frag) (s : Nat) : TI := fun σ H R => ∃ v, σ[s]? = some (some v) ∧ ∃ a, v = .ref a ∧ (((∃ xs, SqL K H a xs) ∧ R (Itl K a) H) ∨ ((∃ xs, SqT K H a xs) ∧ R (Itt K a) H))
theorem pi_seq {X : Cx} {tg : Expr} {s : Nat} {e : Expr} (he : PE X e (tVar s)) : PI X tg e (iSeq X.K s) := by
  refine ⟨fun pins st σ H R I h => ?_⟩
  obtain ⟨v, hv, a, e, h | h⟩ := h
  · exact (pi_list he).run pins st σ H R I ⟨v, hv, a, e, h.1, h.2⟩
  · exact (pi_tup he).run pins st σ H R I ⟨v, hv, a, e, h.1, h.2⟩
theorem wi_seq {s : Nat} {rs : List Rp} (hs : E[s]? = some (.seq rs)) (p : Θ rs E) : WI K (iSeq K s) E Θ := fun H0 O0 σ T H hl ok Q q => by
  obtain ⟨o, h1, h2⟩ := zip_get hl hs
  have hm := List.mem_append_right T h2
  obtain ⟨a, vs, e, h3, h4⟩ := ok.sl _ hm
  have e : o = some (.ref a) := e
  subst e
  refine ⟨_, h1, a, rfl, ?_⟩
  rcases h3 with ⟨h3, n⟩ | h3
  · refine .inl ⟨⟨vs, sqL_fr ok h3 n⟩, q rs E p rfl _ (some (.ref a), .bor rs) H walks_bor ⟨ok.fr, fun x hx => ?_, List.pairwise_cons.mpr ⟨fun _ _ z => (by cases z), ok.ap⟩⟩⟩
    rcases List.mem_cons.mp hx with z | z
    · subst z; exact ⟨a, vs, rfl, h3, n, h4⟩
    · exact ok.sl _ z
  · exact .inr ⟨⟨vs, h3⟩, q rs E p rfl _ (some (.ref a), .im (rTa K a vs rs)) H walks_tup (ok.im ⟨rfl, h3, h4⟩)⟩
theorem Ok.nil1 {H0 : Hp} {O0 : List Addr} {H : Hp} {L : List (Option V × Sl)} {o : Option V} (ok : Ok K H0 O0 H L) : Ok K H0 O0 H ((o, .no) :: L) :=
  ⟨ok.fr, fun q hq => by
    rcases List.mem_cons.mp hq with e | e
    · subst e; trivial
    · exact ok.sl _ e, List.pairwise_cons.mpr ⟨fun _ _ z => (by cases z), ok.ap⟩⟩
theorem ims1 {H0 : Hp} {O0 : List Addr} {H : Hp} {L : List (Option V × Sl)} {vs : List V} {a : Int} (hl : vs.length = 1) (ok : Ok K H0 O0 H ((vs.map some).zip [.im (rI a)] ++ L)) : vs = [.int a] ∧ Ok K H0 O0 H L := by
  match vs, hl with
  | [v], _ =>
    obtain ⟨w, e, h⟩ := ok.head
    cases e
    have h : v = .int a := h
    subst h
    exact ⟨rfl, ok.tail⟩
theorem ims2 {H0 : Hp} {O0 : List Addr} {H : Hp} {L : List (Option V × Sl)} {vs : List V} {a b : Int} (hl : vs.length = 2) (ok : Ok K H0 O0 H ((vs.map some).zip [.im (rI a), .im (rI b)] ++ L)) : vs = [.int a, .int b] ∧ Ok K H0 O0 H L := by
  match vs, hl with
  | [v, w], _ =>
    obtain ⟨u, e, h⟩ := ok.head
    cases e
    have h : v = .int a := h
    subst h
    have ok2 : Ok K H0 O0 H (((([w] : List V).map some).zip [.im (rI b)]) ++ L) := ok.tail
    obtain ⟨e, h⟩ := ims1 rfl ok2
    cases e
    exact ⟨rfl, h⟩
theorem wi_rng1 {tr : TA} (h : WA K tr E fun ks E1 => ∃ n : Int, ks = [.im (rI n)] ∧ (-(2 ^ 62) ≤ n ∧ n < 2 ^ 62) ∧ Θ ((List.range n.toNat).map fun (i : Nat) => rI (0 + (i : Int))) E1) : WI K (iRng1 tr) E Θ := fun H0 O0 σ T H hl ok Q q =>
  h H0 O0 σ T H hl ok _ fun ks E1 ⟨n, e, hb, p⟩ l vs H2 lv ok2 => by
    subst e
    obtain ⟨e, ok3⟩ := ims1 lv ok2
    subst e
    exact ⟨n, rfl, hb.1, hb.2, q _ E1 p l _ _ H2 walks_rng ok3.nil1⟩
theorem wi_rng2 {tr : TA} (h : WA K tr E fun ks E1 => ∃ m n : Int, ks = [.im (rI m), .im (rI n)] ∧ (-(2 ^ 62) ≤ m ∧ m < 2 ^ 62 ∧ -(2 ^ 62) ≤ n ∧ n < 2 ^ 62) ∧ Θ ((List.range (n - m).toNat).map fun (i : Nat) => rI (m + (i : Int))) E1) : WI K (iRng2 tr) E Θ := fun H0 O0 σ T H hl ok Q q =>
  h H0 O0 σ T H hl ok _ fun ks E1 ⟨m, n, e, hb, p⟩ l vs H2 lv ok2 => by
    subst e
    obtain ⟨e, ok3⟩ := ims2 lv ok2
    subst e
    exact ⟨m, n, rfl, hb, q _ E1 p l _ _ H2 walks_rng ok3.nil1⟩
/-- the core of a for -/
theorem for_core {H0 : Hp} {O0 : List Addr} {σ : L2.St} {T : List (Option V × Sl)} {H : Hp} {D : Ends} {J : It} {rs : List Rp} {τ : Option V × Sl} {E1 : List Sl} {I : Nat → List Sl → Prop} (hJ : Walks K J rs τ) (hl : σ.length = E1.length) (ok : Ok K H0 O0 H (τ :: (T ++ σ.zip E1)))
    (h0 : I 0 E1)
    (hd : ∀ E', I rs.length E' → ∀ (σ' : L2.St) H2, σ'.length = E'.length → Ok K H0 O0 H2 (τ :: (T ++ σ'.zip E')) → D.nx σ' H2) (hb : ∀ E', nx E' → ∀ (σ' : L2.St) H2, σ'.length = E'.length → Ok K H0 O0 H2 (τ :: (T ++ σ'.zip E')) → D.nx σ' H2)
    (hr : ∀ k E', rt k E' → ∀ (σ' : L2.St) v H2, σ'.length = E'.length → Ok K H0 O0 H2 ((some v, k) :: τ :: (T ++ σ'.zip E')) → D.rt v H2) {tb : TS} (hs : ∀ i R E', rs[i]? = some R → I i E' → WS K tb (E'.set j (.im R)) (I (i + 1)) rt nx (I (i + 1))) :
    ∃ W : Nat → Nat → L2.St → Hp → Prop, (∃ m, W 0 m σ H) ∧ ∀ i m σ H, W i m σ H →
      (J.stop i H ∧ D.nx σ H) ∨ (J.go i H ∧ ∃ N : L2.St → Hp → Prop, (∀ σ' H', N σ' H' → ∃ m', m' < m ∧ W (i + 1) m' σ' H') ∧ ∀ x H', J.yld i H x H' → gName j x σ H' fun σ2 H2 => tb { D with nx := N, ct := N, bk := D.nx } σ2 H2) := by
  refine ⟨fun i m σ H => m = rs.length - i ∧ i ≤ rs.length ∧ ∃ E', I i E' ∧ σ.length = E'.length ∧ Ok K H0 O0 H (τ :: (T ++ σ.zip E')), ⟨rs.length, by simp, Nat.zero_le _, E1, h0, hl, ok⟩, ?_⟩
  rintro i m σ H ⟨rfl, hi, E', hI, hl', ok'⟩
  by_cases hlt : i < rs.length
  · obtain ⟨g, y⟩ := hJ.go H0 O0 H _ ok' i rs[i] (List.getElem?_eq_getElem hlt)
    refine .inr ⟨g, fun σ H => ∃ E', I (i + 1) E' ∧ σ.length = E'.length ∧ Ok K H0 O0 H (τ :: (T ++ σ.zip E')), fun σ' H' ⟨E2, a, b, c⟩ => ⟨rs.length - (i + 1), by omega, rfl, hlt, E2, a, b, c⟩, fun x H' hy => ?_⟩
    have ok2 := y x H' hy
    have ok3 : Ok K H0 O0 H' ((τ :: T) ++ (σ.set j (some x)).zip (E'.set j (.im rs[i]))) := Ok.store (T := τ :: T) j hl' ok2
    exact hs i rs[i] E' (List.getElem?_eq_getElem hlt) hI H0 O0 _ (τ :: T) H' _ (by simp [hl']) ok3 (fun E2 p σ' H2 l o => ⟨E2, p, l, o⟩) (fun k E2 p σ' v H2 l o => hr k E2 p σ' v H2 l o) (fun E2 p σ' H2 l o => hb E2 p σ' H2 l o) (fun E2 p σ' H2 l o => ⟨E2, p, l, o⟩)
  · have e : i = rs.length := by omega
    subst e
    exact .inl ⟨hJ.stop H0 O0 H _ ok', hd E' hI σ H hl' ok'⟩
theorem drop2 {α : Type} {a b : α} {L : List α} : (a :: L).Sublist (a :: b :: L) := .cons_cons _ (.cons _ (List.Sublist.refl _))
theorem ws_for (h : WI K wi E fun rs E1 => ∃ I : Nat → List Sl → Prop, I 0 E1 ∧ (∀ i R E', rs[i]? = some R → I i E' → WS K ts (E'.set j (.im R)) (I (i + 1)) rt nx (I (i + 1))) ∧ ∀ E', I rs.length E' → nx E') :
    WS K (tFor wi (gName j) ts) E nx rt bk ct := fun H0 O0 σ T H D hl ok n r b c =>
  h H0 O0 σ T H hl ok _ fun rs E1 ⟨I, h0, hs, hd⟩ l J τ H2 hJ ok2 => for_core hJ (by omega) ok2 h0 (fun E' p σ' H3 ls o => n E' (hd E' p) σ' H3 ls o.tail) (fun E' p σ' H3 ls o => n E' p σ' H3 ls o.tail)
    (fun k E' p σ' v H3 ls o => r k E' p σ' v H3 ls (o.sub drop2)) hs
/-- while -/
theorem ws_while (I : Nat → List Sl → Prop) (m0 : Nat) (h0 : I m0 E) (hs : ∀ m E', I m E' → WT K tt E' fun b E1 => if b = true then WS K ts E1 (fun E2 => ∃ m', m' < m ∧ I m' E2) rt nx (fun E2 => ∃ m', m' < m ∧ I m' E2) else nx E1) :
    WS K (tWhile tt ts) E nx rt bk ct := fun H0 O0 σ T H D hl ok n r b c => by
  refine ⟨fun m σ H => ∃ E', I m E' ∧ σ.length = E'.length ∧ Ok K H0 O0 H (T ++ σ.zip E'), ⟨m0, E, h0, hl, ok⟩, ?_⟩
  rintro m σ H ⟨E', hI, hl', ok'⟩
  refine hs m E' hI H0 O0 σ T H hl' ok' _ fun bb E1 p l H2 ok2 => ?_
  cases bb with
  | true =>
    rw [if_pos rfl] at p ⊢
    exact ⟨fun σ' H' => ∃ m', m' < m ∧ ∃ E', I m' E' ∧ σ'.length = E'.length ∧ Ok K H0 O0 H' (T ++ σ'.zip E'), fun σ' H' ⟨m', z, y⟩ => ⟨m', z, y⟩,
      p H0 O0 σ T H2 _ (by omega) ok2 (fun E2 ⟨m', z, y⟩ σ' H3 ls o => ⟨m', z, E2, y, ls, o⟩) r n (fun E2 ⟨m', z, y⟩ σ' H3 ls o => ⟨m', z, E2, y, ls, o⟩)⟩
  | false =>
    rw [if_neg Bool.false_ne_true] at p ⊢
    exact n E1 p σ H2 (by omega) ok2
end
end Fx
set_option Elab.async false
set_option linter.all false
set_option maxRecDepth 100000
set_option maxHeartbeats 2000000
namespace Fx
open PySem L2 PyProof.Rows
section
variable {K : PySem.W.Frag} {E : List Sl} {te ta tb tl : TE} {tt tu : TT} {Φ : Sl → List Sl → Prop} {Ψ : Bool → List Sl → Prop} {R : Rp} {i j : Nat} {nx : List Sl → Prop} {rt : Sl → List Sl → Prop} {bk ct : List Sl → Prop} {ts tw tz : TS} {k : Sl} {Θ : List Rp → List Sl → Prop} {wi : TI}
theorem set_none {σ : L2.St} (h : E[j]? = some .no) (hl : σ.length = E.length) {H0 : Hp} {O0 : List Addr} {H : Hp} {T : List (Option V × Sl)} (o : Option V) (ok : Ok K H0 O0 H (T ++ σ.zip E)) : Ok K H0 O0 H (T ++ (σ.set j o).zip E) := by
  have q := Ok.store (T := T) (v := o) (k := .no) j hl ok.nil1
  have hj : j < E.length := (List.getElem?_eq_some_iff.mp h).1
  have e : E.set j .no = E := by
    have e2 := (List.getElem?_eq_some_iff.mp h).2
    have := List.set_getElem_self (as := E) hj
    rw [e2] at this
    exact this
  rw [e] at q
  exact q
/-- the core of a comprehension -/
theorem lc_coreW {H0 : Hp} {O0 : List Addr} {σ : L2.St} {T : List (Option V × Sl)} {H2 : Hp} {J : It} {τ : Option V × Sl} {rs : List Rp} {E1 : List Sl} {Q : VK} (hJ : Walks K J rs τ) (ok2 : Ok K H0 O0 H2 (τ :: (T ++ σ.zip E1))) (l1 : σ.length = E1.length) (hz : rs.length < sizeLine)
    (I : Nat → List Rp → List Sl → Prop) (h0 : I 0 [] E1) (hg : ∀ i acc E', I i acc E' → acc.length ≤ i ∧ E'[j]? = some .no)
    (hs : ∀ i R acc E', rs[i]? = some R → I i acc E' → WT K tt (E'.set j (.im R)) fun b E2 => if b = true then WE K te E2 fun k E3 => ∃ R', k = .im R' ∧ I (i + 1) (acc ++ [R']) (E3.set j .no) else I (i + 1) acc (E2.set j .no))
    (hd : ∀ acc E', I rs.length acc E' → σ.length = E'.length → ∀ Dl H, Ok K H0 O0 H ((some (.ref Dl), .own acc) :: (τ :: (T ++ σ.zip E'))) → Q (.ref Dl) H) :
    ∀ D, H2 D = none → ∃ W : Nat → Nat → Hp → Prop, (∃ m, W 0 m (upd H2 D (.lst []))) ∧ ∀ i m H, W i m H →
      (J.stop i H ∧ Q (.ref D) H) ∨ (J.go i H ∧ ∃ Nx : Hp → Prop, (∀ H', Nx H' → ∃ m', m' < m ∧ W (i + 1) m' H') ∧ ∀ x H', J.yld i H x H' → gName j x (wipe σ [j]) H' fun σ2 H2 => wipe σ2 [j] = wipe σ [j] ∧ tt σ2 H2 fun b H3 =>
        if b = true then te σ2 H3 fun y H4 => ∃ acc, H4 D = some (.lst acc) ∧ acc.length < sizeLine ∧ Nx (upd H4 D (.lst (acc ++ [y]))) else Nx H3) := by
    intro Dl hD
    have okD : Ok K H0 O0 (upd H2 Dl (.lst [])) ((some (.ref Dl), .own []) :: (τ :: (T ++ σ.zip E1))) := ok2.newL hD .nil
    refine ⟨fun i m H => m = rs.length - i ∧ i ≤ rs.length ∧ ∃ acc E', I i acc E' ∧ σ.length = E'.length ∧ Ok K H0 O0 H ((some (.ref Dl), .own acc) :: (τ :: (T ++ σ.zip E'))), ⟨rs.length, by simp, Nat.zero_le _, [], E1, h0, l1, okD⟩, ?_⟩
    rintro i m H ⟨rfl, hi, acc, E', hI, hl', ok'⟩
    have okτ : Ok K H0 O0 H (τ :: ((some (.ref Dl), .own acc) :: (T ++ σ.zip E'))) := ok'.perm (List.Perm.swap _ _ _)
    by_cases hlt : i < rs.length
    · obtain ⟨g, y⟩ := hJ.go H0 O0 H _ okτ i rs[i] (List.getElem?_eq_getElem hlt)
      refine .inr ⟨g, fun H => ∃ acc E', I (i + 1) acc E' ∧ σ.length = E'.length ∧ Ok K H0 O0 H ((some (.ref Dl), .own acc) :: (τ :: (T ++ σ.zip E'))), fun H' ⟨a1, E2, a, b, c⟩ => ⟨rs.length - (i + 1), by omega, rfl, hlt, a1, E2, a, b, c⟩, fun x H' hy => ?_⟩
      show wipe ((wipe σ [j]).set j (some x)) [j] = wipe σ [j] ∧ _
      refine ⟨by show ((σ.set j none).set j (some x)).set j none = σ.set j none; rw [List.set_set, List.set_set], ?_⟩
      have ok3 := y x H' hy
      have hn' := (hg i acc E' hI).2
      have ok4 : Ok K H0 O0 H' ((τ :: (some (.ref Dl), .own acc) :: T) ++ ((σ.set j none).set j (some x)).zip (E'.set j (.im rs[i]))) := by
        have s1 : Ok K H0 O0 H' (((some x, .im rs[i]) :: τ :: (some (.ref Dl), .own acc) :: T) ++ σ.zip E') := ok3
        have s2 := set_none (T := (some x, .im rs[i]) :: τ :: (some (.ref Dl), .own acc) :: T) hn' hl' none s1
        exact Ok.store (T := τ :: (some (.ref Dl), .own acc) :: T) j (by simp [hl']) s2
      -- back: the slot as it was
      have back : ∀ {acc2 : List Rp} {E4 : List Sl} {H4 : Hp}, E4.length = E'.length → Ok K H0 O0 H4 ((τ :: (some (.ref Dl), .own acc2) :: T) ++ ((σ.set j none).set j (some x)).zip E4) → Ok K H0 O0 H4 ((some (.ref Dl), .own acc2) :: (τ :: (T ++ σ.zip (E4.set j .no)))) := fun {acc2 E4 H4} hl4 ok5 => by
        have hjl : j < E'.length := (List.getElem?_eq_some_iff.mp hn').1
        have s1 := Ok.store (T := τ :: (some (.ref Dl), .own acc2) :: T) (v := σ[j]?.getD none) (k := .no) j (by simp [hl4, hl']) ok5.nil1
        have e : ((σ.set j none).set j (some x)).set j (σ[j]?.getD none) = σ := by
          rw [List.set_set, List.set_set, List.getElem?_eq_getElem (by omega)]
          exact List.set_getElem_self (by omega)
        rw [e] at s1
        exact s1.perm (List.Perm.swap _ _ _)
      refine hs i rs[i] acc E' (List.getElem?_eq_getElem hlt) hI H0 O0 _ (τ :: (some (.ref Dl), .own acc) :: T) H' (by simp [hl']) ok4 _ fun b E2 p l2 H3 ok5 => ?_
      have l2' : E2.length = E'.length := by simpa using l2
      cases b with
      | false =>
        rw [if_neg Bool.false_ne_true] at p ⊢
        exact ⟨acc, _, p, by simp [l2', hl'], back l2' ok5⟩
      | true =>
        rw [if_pos rfl] at p ⊢
        refine p H0 O0 _ (τ :: (some (.ref Dl), .own acc) :: T) H3 (by simp [l2', hl']) ok5 _ fun k3 E3 ⟨R', e, p3⟩ l3 v H4 ok6 => ?_
        subst e
        have s : Ok K H0 O0 H4 ((some (.ref Dl), .own acc) :: ((some v, .im R') :: τ :: (T ++ ((σ.set j none).set j (some x)).zip E3))) := by
          refine ok6.perm ?_
          refine (List.Perm.cons _ (List.Perm.swap _ _ _)).trans ?_
          exact List.Perm.swap _ _ _
        obtain ⟨a, vs, e1, h2, h3, h4⟩ := s.head
        cases e1
        obtain ⟨v', e2, hv⟩ := s.tail.head
        cases e2
        refine ⟨vs, h2, ?_, ?_⟩
        · have := (hg i acc E' hI).1
          have := h3.len
          omega
        · have s2 := s.chL rfl (h3.app (.cons hv .nil))
          have s3 : Ok K H0 O0 (upd H4 Dl (.lst (vs ++ [v]))) ((τ :: (some (.ref Dl), .own (acc ++ [R'])) :: T) ++ ((σ.set j none).set j (some x)).zip E3) := by
            refine Ok.perm (s2.sub drop2) ?_
            exact List.Perm.swap _ _ _
          exact ⟨_, _, p3, by simp [l3, l2', hl'], back (by omega) s3⟩
    · have e : i = rs.length := by omega
      subst e
      exact .inl ⟨hJ.stop H0 O0 H _ okτ, hd acc E' hI hl' _ H ok'⟩
/-- [e for x in .. if ..] -/
theorem we_lc {σ0 : Nat} (hj : WI K wi E fun rs E1 => E1[j]? = some .no ∧ rs.length < sizeLine ∧ ∃ I : Nat → List Rp → List Sl → Prop, I 0 [] E1 ∧ (∀ i acc E', I i acc E' → acc.length ≤ i ∧ E'[j]? = some .no) ∧
      (∀ i R acc E', rs[i]? = some R → I i acc E' → WT K tt (E'.set j (.im R)) fun b E2 => if b = true then WE K te E2 fun k E3 => ∃ R', k = .im R' ∧ I (i + 1) (acc ++ [R']) (E3.set j .no) else I (i + 1) acc (E2.set j .no)) ∧
      ∀ acc E', I rs.length acc E' → Φ (.own acc) E') : WE K (tLc wi (gName j) tt te [j]) E Φ := fun H0 O0 σ T H hl ok Q q =>
  hj H0 O0 σ T H hl ok _ fun rs E1 ⟨hn, hz, I, h0, hg, hs, hd⟩ l J τ H2 hJ ok2 => by
    exact lc_coreW hJ ok2 (by omega) hz I h0 hg hs (fun acc E' hI ls Dl H ok' => q (.own acc) E' (hd acc E' hI) (by omega) _ H (ok'.sub drop2))
theorem wt_yes (p : Ψ true E) : WT K tYes E Ψ := fun H0 O0 σ T H hl ok Q q => q true E p rfl H ok
/-- the simple case: nothing changes but the new list -/
theorem we_lc' (h : WI K wi E fun rs E1 => E1 = E ∧ E[j]? = some .no ∧ rs.length < sizeLine ∧ ∃ (f : Nat → Bool) (v : Nat → Rp), (∀ i R, rs[i]? = some R → WT K tt (E.set j (.im R)) fun b E2 => b = f i ∧ E2 = E.set j (.im R) ∧ (b = true → WE K te E2 fun k E3 => k = .im (v i) ∧ E3 = E2)) ∧
      Φ (.own (((List.range rs.length).filter f).map v)) E) : WE K (tLc wi (gName j) tt te [j]) E Φ := by
  refine we_lc (σ0 := 0) fun H0 O0 σ T H hl ok Q q => h H0 O0 σ T H hl ok Q fun rs E1 ⟨e, hn, hz, f, v, hs, hd⟩ l => q rs E1 ⟨by rw [e]; exact hn, hz, ?_⟩ l
  subst e
  have es : ∀ R, (E1.set j (.im R)).set j .no = E1 := fun R => by
    rw [List.set_set]
    have hj := (List.getElem?_eq_some_iff.mp hn).1
    have e2 := (List.getElem?_eq_some_iff.mp hn).2
    have := List.set_getElem_self (as := E1) hj
    rw [e2] at this
    exact this
  refine ⟨fun i acc E' => E' = E1 ∧ acc = ((List.range i).filter f).map v, ⟨rfl, rfl⟩, fun i acc E' ⟨a, b⟩ => ⟨?_, by rw [a]; exact hn⟩, fun i R acc E' hi ⟨a, b⟩ => ?_, fun acc E' ⟨a, b⟩ => by rw [a, b]; exact hd⟩
  · rw [b, List.length_map]
    have := List.length_filter_le f (List.range i)
    rw [List.length_range] at this
    exact this
  · subst a b
    intro H0 O0 σ T H hl ok Q q
    refine hs i R hi H0 O0 σ T H hl ok Q fun b E2 ⟨h1, h2, h3⟩ l H2 ok2 => q b E2 ?_ l H2 ok2
    subst h2
    cases b with
    | false =>
      rw [if_neg Bool.false_ne_true]
      refine ⟨es R, ?_⟩
      rw [List.range_succ, List.filter_append, List.filter_cons, if_neg (by rw [← h1]; decide)]
      simp
    | true =>
      rw [if_pos rfl]
      refine we_mono (h3 rfl) fun k E3 ⟨a, b⟩ => ⟨v i, a, by rw [b]; exact es R, ?_⟩
      rw [List.range_succ, List.filter_append, List.filter_cons, if_pos h1.symm, List.map_append]
      rfl
end
end Fx
set_option Elab.async false
set_option linter.all false
set_option maxRecDepth 100000
set_option maxHeartbeats 2000000
namespace Fx
open PySem L2 PyProof.Rows
/-- what a callee is told of an argument -/
inductive Ck where
  | im (R : Rp)
  | lst (rs : List Rp)
  | bor (rs : List Rp)
  | seq (rs : List Rp)
  | dic (kvs : List (Key × Rp))
section
variable (K : PySem.W.Frag)
def Ckk (H : Hp) (v : V) : Ck → Prop
  | .im R => R.r v H
  | .lst rs => ∃ a vs, v = .ref a ∧ H a = some (.lst vs) ∧ Vr H vs rs
  | .bor rs => ∃ a vs, v = .ref a ∧ SqL K H a vs ∧ Vr H vs rs
  | .seq rs => ∃ a vs, v = .ref a ∧ (SqL K H a vs ∨ SqT K H a vs) ∧ Vr H vs rs
  | .dic kvs => ∃ a us, v = .ref a ∧ H a = some (.dK us) ∧ Kvr H us kvs
abbrev Cks (H : Hp) : List V → List Ck → Prop := Paired (fun v c => Ckk K H v c)
/-- one kind serves as the other -/
def Cv (a b : Ck) : Prop := ∀ H v, Ckk K H v a → Ckk K H v b
/-- what comes back, from H to H': all that was tracked stays, the result is new or lasting -/
def _root_.Fx.Sl.res : Sl → Bool
  | .bor _ => false
  | .seq _ => false
  | .box _ _ => false
  | .tab _ => false
  | .al _ => false
  | .dit _ _ => false
  | .obj _ _ _ => false
  | _ => true
structure Res (H : Hp) (v : V) (k : Sl) (H' : Hp) : Prop where
  ok : Ok K H [] H' [(some v, k)]
  rk : k.res = true
def WC (ta : TA) (E : List Sl) (Θ : List Ck → List Sl → Prop) : Prop :=
  ∀ (H0 : Hp) (O0 : List Addr) (σ : L2.St) (T : List (Option V × Sl)) (H : Hp), σ.length = E.length → Ok K H0 O0 H (T ++ σ.zip E) → ∀ Q : List V → Hp → Prop,
    (∀ cs E', Θ cs E' → E'.length = E.length → ∀ vs H2, Ok K H0 O0 H2 (T ++ σ.zip E') → Cks K H2 vs cs → Q vs H2) → ta σ H Q
/-- a call of a built-in on such arguments -/
def CPR (r : List V → Hp → VK → Prop) (cs : List Ck) (k : Sl) : Prop := ∀ (H : Hp) (vs : List V), Cks K H vs cs → ∀ Q : VK, (∀ z H2, Res K H z k H2 → Q z H2) → r vs H Q
/-- the promise of a def that changes nothing -/
def spP {A : Type} (par : A → List Ck) (pre : A → Prop) (res : A → Sl) : Sp := fun vs H Q _ => ∃ a, pre a ∧ Cks K H vs (par a) ∧ ∀ v H', Res K H v (res a) H' → Q v H'
end
section
variable {K : PySem.W.Frag} {E : List Sl} {te ta tb tl : TE} {tt tu : TT} {Φ : Sl → List Sl → Prop} {Ψ : Bool → List Sl → Prop} {R : Rp} {i j : Nat} {nx : List Sl → Prop} {rt : Sl → List Sl → Prop} {bk ct : List Sl → Prop} {ts tw tz : TS} {k : Sl} {wi : TI} {tr : TA} {Θ : List Ck → List Sl → Prop}
theorem cv_refl {a : Ck} : Cv K a a := fun _ _ h => h
theorem cv_lb {rs : List Rp} : Cv K (.lst rs) (.bor rs) := fun _ _ ⟨a, vs, h1, h2, h3⟩ => ⟨a, vs, h1, SqL.of h2, h3⟩
theorem cv_ls {rs : List Rp} : Cv K (.lst rs) (.seq rs) := fun _ _ ⟨a, vs, h1, h2, h3⟩ => ⟨a, vs, h1, .inl (SqL.of h2), h3⟩
theorem cv_bs {rs : List Rp} : Cv K (.bor rs) (.seq rs) := fun _ _ ⟨a, vs, h1, h2, h3⟩ => ⟨a, vs, h1, .inl h2, h3⟩
theorem cv_ts {rs : List Rp} : Cv K (.im (rT K rs)) (.seq rs) := fun _ _ ⟨a, vs, h1, h2, h3⟩ => ⟨a, vs, h1, .inr (SqT.of h2), h3⟩
theorem res_im {H H' : Hp} {v : V} {R : Rp} (e : ∀ a u, H a = some u → H' a = some u) (h : R.r v H') : Res K H v (.im R) H' :=
  ⟨⟨fun a u h _ => e a u h, fun p hp => (by
    rcases List.mem_cons.mp hp with z | z
    · subst z; exact ⟨v, rfl, h⟩
    · cases z), List.pairwise_cons.mpr ⟨fun _ hq => (by cases hq), .nil⟩⟩, rfl⟩
theorem res_here {H : Hp} {v : V} {R : Rp} (h : R.r v H) : Res K H v (.im R) H := res_im (fun _ _ z => z) h
theorem res_own {H H' : Hp} {p : Addr} {vs : List V} {rs : List Rp} (e : ∀ a u, H a = some u → H' a = some u) (hp : H p = none) (h1 : H' p = some (.lst vs)) (h2 : Vr H' vs rs) : Res K H (.ref p) (.own rs) H' :=
  ⟨⟨fun a u h _ => e a u h, fun q hq => (by
    rcases List.mem_cons.mp hq with z | z
    · subst z; exact ⟨p, vs, rfl, h1, h2, .inl hp⟩
    · cases z), List.pairwise_cons.mpr ⟨fun _ hq => (by cases hq), .nil⟩⟩, rfl⟩
theorem upd_keep {H : Hp} {p : Addr} {o : HO} (hp : H p = none) : ∀ a u, H a = some u → upd H p o a = some u := fun a u z => by rw [upd_ne (ne_of_none z hp)]; exact z
theorem res_newL {H : Hp} {p : Addr} {vs : List V} {rs : List Rp} (hp : H p = none) (h2 : Vr H vs rs) : Res K H (.ref p) (.own rs) (upd H p (.lst vs)) := res_own (upd_keep hp) hp upd_same (h2.im (.new hp))
theorem res_newT {H : Hp} {p : Addr} {vs : List V} {rs : List Rp} (hp : H p = none) (h2 : Vr H vs rs) : Res K H (.ref p) (.im (rT K rs)) (upd H p (.tup vs)) := res_im (upd_keep hp) ⟨p, vs, rfl, upd_same, h2.im (.new hp)⟩
/-- the result joins what was known -/
theorem Ok.res {H0 : Hp} {O0 : List Addr} {H H' : Hp} {L : List (Option V × Sl)} {v : V} (ok : Ok K H0 O0 H L) (r : Res K H v k H') : Ok K H0 O0 H' ((some v, k) :: L) := by
  obtain ⟨r, rk⟩ := r
  have e : ∀ a u, H a = some u → H' a = some u := fun a u h => r.fr a u h (by simp)
  have ok' := ok.ext e
  have hk := r.head
  cases k with
  | no => exact ok'.nil1
  | im R => obtain ⟨w, e1, h⟩ := hk; cases e1; exact ok'.im h
  | own rs =>
    obtain ⟨a, vs, e1, h1, h2, h3⟩ := hk
    cases e1
    have hn : H a = none := by
      rcases h3 with h3 | h3
      · exact h3
      · cases h3
    exact ok.gotL e hn h1 h2
  | dic rs =>
    obtain ⟨a, vs, e1, h1, h2, h3⟩ := hk
    cases e1
    have hn : H a = none := by
      rcases h3 with h3 | h3
      · exact h3
      · cases h3
    exact ok.gotD e hn h1 h2
  | bor rs => cases rk
  | seq rs => cases rk
  | box p φ => cases rk
  | dit lk us => cases rk
  | obj a C fs => cases rk
  | al v => cases rk
  | tab q => cases rk
/-- the i-th slot to the front, and back -/
theorem Ok.at' {H0 : Hp} {O0 : List Addr} {H : Hp} {T : List (Option V × Sl)} {σ : L2.St} (ok : Ok K H0 O0 H (T ++ σ.zip E)) (hl : σ.length = E.length) (h : E[i]? = some k) :
    ∃ o L, σ[i]? = some o ∧ Ok K H0 O0 H ((o, k) :: (T ++ L)) ∧ ∀ T' k' H', Ok K H0 O0 H' ((o, k') :: (T' ++ L)) → Ok K H0 O0 H' (T' ++ σ.zip (E.set i k')) := by
  obtain ⟨o, ho, _⟩ := zip_get hl h
  obtain ⟨L, p1, p2⟩ := zip_front ho h hl
  refine ⟨o, L, ho, ok.perm ((List.Perm.append_left T p1).trans List.perm_middle), fun T' k' H' ok' => ?_⟩
  have q := p2 o k'
  have e : σ.set i o = σ := by
    have hi := (List.getElem?_eq_some_iff.mp ho).1
    have e2 := (List.getElem?_eq_some_iff.mp ho).2
    have := List.set_getElem_self (as := σ) hi
    rw [e2] at this
    exact this
  rw [e] at q
  exact ok'.perm (List.perm_middle.symm.trans (List.Perm.append_left T' q.symm))
theorem Ok.at {H0 : Hp} {O0 : List Addr} {H : Hp} {T : List (Option V × Sl)} {σ : L2.St} (ok : Ok K H0 O0 H (T ++ σ.zip E)) (hl : σ.length = E.length) (h : E[i]? = some k) :
    ∃ o L, σ[i]? = some o ∧ Ok K H0 O0 H ((o, k) :: (T ++ L)) ∧ ∀ k' H', Ok K H0 O0 H' ((o, k') :: (T ++ L)) → Ok K H0 O0 H' (T ++ σ.zip (E.set i k')) := by
  obtain ⟨o, L, h1, h2, h3⟩ := ok.at' hl h
  exact ⟨o, L, h1, h2, fun k' H' => h3 T k' H'⟩
theorem set_same (h : E[i]? = some k) : E.set i k = E := by
  have hi := (List.getElem?_eq_some_iff.mp h).1
  have e2 := (List.getElem?_eq_some_iff.mp h).2
  have := List.set_getElem_self (as := E) hi
  rw [e2] at this
  exact this
/-! arguments of a call -/
theorem wc_nil (p : Θ [] E) : WC K tNil E Θ := fun H0 O0 σ T H hl ok Q q => q [] E p rfl [] H ok .nil
theorem wc_im (h : WE K te E fun k E1 => ∃ R, k = .im R ∧ WC K tr E1 fun cs E2 => Θ (.im R :: cs) E2) : WC K (tCons te tr) E Θ := fun H0 O0 σ T H hl ok Q q =>
  h H0 O0 σ T H hl ok _ fun k E1 ⟨R, e, h1⟩ l1 x H1 ok1 => h1 H0 O0 σ ((some x, k) :: T) H1 (by omega) ok1 _ fun cs E2 p l2 vs H2 ok2 hv => by
    subst e
    obtain ⟨w, e, hw⟩ := ok2.head
    cases e
    exact q _ E2 p (by omega) (x :: vs) H2 ok2.tail (.cons hw hv)
/-- a list that was made for the call -/
theorem wc_own (h : WE K te E fun k E1 => ∃ rs, k = .own rs ∧ WC K tr E1 fun cs E2 => Θ (.lst rs :: cs) E2) : WC K (tCons te tr) E Θ := fun H0 O0 σ T H hl ok Q q =>
  h H0 O0 σ T H hl ok _ fun k E1 ⟨R, e, h1⟩ l1 x H1 ok1 => h1 H0 O0 σ ((some x, k) :: T) H1 (by omega) ok1 _ fun cs E2 p l2 vs H2 ok2 hv => by
    subst e
    obtain ⟨a, us, e, h2, h3, _⟩ := ok2.head
    cases e
    exact q _ E2 p (by omega) (.ref a :: vs) H2 ok2.tail (.cons ⟨a, us, rfl, h2, h3⟩ hv)
/-- a list of one's own, by its name -/
theorem wc_var {rs : List Rp} (hi : E[i]? = some (.own rs)) (h : WC K tr E fun cs E2 => E2[i]? = some (.own rs) ∧ Θ (.lst rs :: cs) E2) : WC K (tCons (tVar i) tr) E Θ := fun H0 O0 σ T H hl ok Q q => by
  obtain ⟨o, L, ho, ok1, _⟩ := ok.at hl hi
  obtain ⟨a, us, e, _⟩ := ok1.head
  subst e
  refine ⟨.ref a, ho, h H0 O0 σ T H hl ok _ fun cs E2 ⟨h1, p⟩ l2 vs H2 ok2 hv => ?_⟩
  obtain ⟨o', L', ho', ok3, _⟩ := ok2.at (by omega) h1
  obtain ⟨a', us', e, h2, h3, _⟩ := ok3.head
  subst e
  rw [ho] at ho'
  cases ho'
  exact q _ E2 p l2 (.ref a :: vs) H2 ok2 (.cons ⟨a, us', rfl, h2, h3⟩ hv)
theorem wc_bor {rs : List Rp} (hi : E[i]? = some (.bor rs)) (h : WC K tr E fun cs E2 => E2[i]? = some (.bor rs) ∧ Θ (.bor rs :: cs) E2) : WC K (tCons (tVar i) tr) E Θ := fun H0 O0 σ T H hl ok Q q => by
  obtain ⟨o, L, ho, ok1, _⟩ := ok.at hl hi
  obtain ⟨a, us, e, _⟩ := ok1.head
  subst e
  refine ⟨.ref a, ho, h H0 O0 σ T H hl ok _ fun cs E2 ⟨h1, p⟩ l2 vs H2 ok2 hv => ?_⟩
  obtain ⟨o', L', ho', ok3, _⟩ := ok2.at (by omega) h1
  obtain ⟨a', us', e, h2, n, h3⟩ := ok3.head
  subst e
  rw [ho] at ho'
  cases ho'
  exact q _ E2 p l2 (.ref a :: vs) H2 ok2 (.cons ⟨a, us', rfl, sqL_fr ok2 h2 n, h3⟩ hv)
theorem wc_seq {rs : List Rp} (hi : E[i]? = some (.seq rs)) (h : WC K tr E fun cs E2 => E2[i]? = some (.seq rs) ∧ Θ (.seq rs :: cs) E2) : WC K (tCons (tVar i) tr) E Θ := fun H0 O0 σ T H hl ok Q q => by
  obtain ⟨o, L, ho, ok1, _⟩ := ok.at hl hi
  obtain ⟨a, us, e, _⟩ := ok1.head
  subst e
  refine ⟨.ref a, ho, h H0 O0 σ T H hl ok _ fun cs E2 ⟨h1, p⟩ l2 vs H2 ok2 hv => ?_⟩
  obtain ⟨o', L', ho', ok3, _⟩ := ok2.at (by omega) h1
  obtain ⟨a', us', e, h2, h3⟩ := ok3.head
  subst e
  rw [ho] at ho'
  cases ho'
  refine q _ E2 p l2 (.ref a :: vs) H2 ok2 (.cons ⟨a, us', rfl, ?_, h3⟩ hv)
  rcases h2 with ⟨h2, n⟩ | h2
  · exact .inl (sqL_fr ok2 h2 n)
  · exact .inr h2
theorem wc_dic {rs : List (Key × Rp)} (hi : E[i]? = some (.dic rs)) (h : WC K tr E fun cs E2 => E2[i]? = some (.dic rs) ∧ Θ (.dic rs :: cs) E2) : WC K (tCons (tVar i) tr) E Θ := fun H0 O0 σ T H hl ok Q q => by
  obtain ⟨o, L, ho, ok1, _⟩ := ok.at hl hi
  obtain ⟨a, us, e, _⟩ := ok1.head
  subst e
  refine ⟨.ref a, ho, h H0 O0 σ T H hl ok _ fun cs E2 ⟨h1, p⟩ l2 vs H2 ok2 hv => ?_⟩
  obtain ⟨o', L', ho', ok3, _⟩ := ok2.at (by omega) h1
  obtain ⟨a', us', e, h2, h3, _⟩ := ok3.head
  subst e
  rw [ho] at ho'
  cases ho'
  exact q _ E2 p l2 (.ref a :: vs) H2 ok2 (.cons ⟨a, us', rfl, h2, h3⟩ hv)
theorem cks_cv {H : Hp} : ∀ {vs : List V} {cs cs' : List Ck}, Cks K H vs cs → Paired (Cv K) cs cs' → Cks K H vs cs'
  | _, _, _, .nil, .nil => .nil
  | _, _, _, .cons a b, .cons h t => .cons (h _ _ a) (cks_cv b t)
theorem we_call {A : Type} {par : A → List Ck} {pre : A → Prop} {res : A → Sl} {e0 : XK} (h : WC K tr E fun cs E1 => ∃ a, pre a ∧ Paired (Cv K) cs (par a) ∧ Φ (res a) E1) : WE K (tCall (spP K par pre res) [] e0 tr) E Φ := fun H0 O0 σ T H hl ok Q q =>
  h H0 O0 σ T H hl ok _ fun cs E1 ⟨a, hp, hc, p⟩ l vs H2 ok2 hv => by
    show spP K par pre res (vs ++ []) H2 Q e0
    rw [List.append_nil]
    exact ⟨a, hp, cks_cv hv hc, fun v H' r => q _ E1 p l v H' (ok2.res r)⟩
theorem we_cb {r : List V → Hp → VK → Prop} (h : WC K tr E fun cs E1 => ∃ k, CPR K r cs k ∧ Φ k E1) : WE K (tCB r tr) E Φ := fun H0 O0 σ T H hl ok Q q =>
  h H0 O0 σ T H hl ok _ fun cs E1 ⟨k, hr, p⟩ l vs H2 ok2 hv => hr H2 vs hv Q fun z H3 rs => q k E1 p l z H3 (ok2.res rs)
/-- an operation on lists and the like -/
def OPC (K : PySem.W.Frag) (r : R2) (c1 c2 : Ck) (k : Sl) : Prop := ∀ (H : Hp) (x y : V), Ckk K H x c1 → Ckk K H y c2 → ∀ Q : VK, (∀ z H2, Res K H z k H2 → Q z H2) → r x y H Q
theorem we_opc {r : R2} (h : WC K (tCons ta (tCons tb tNil)) E fun cs E1 => ∃ c1 c2 k, cs = [c1, c2] ∧ OPC K r c1 c2 k ∧ Φ k E1) : WE K (tOp r ta tb) E Φ := fun H0 O0 σ T H hl ok Q q =>
  h H0 O0 σ T H hl ok (fun vs H2 => match vs with | [x, y] => r x y H2 Q | _ => False) fun cs E1 ⟨c1, c2, k, e, hr, p⟩ l vs H2 ok2 hv => by
    subst e
    cases hv with
    | cons h1 h2 =>
      cases h2 with
      | cons h2 h3 =>
        cases h3
        exact hr H2 _ _ h1 h2 Q fun z H3 rs => q k E1 p l z H3 (ok2.res rs)
end
end Fx
set_option Elab.async false
set_option linter.all false
set_option maxRecDepth 100000
set_option maxHeartbeats 2000000
namespace Fx
open PySem L2 PyProof.Rows
/-! ### a def as a promise -/
structure DefAt (K : PySem.W.Frag) (mg : Str → Option Value) (x : Str) (st : Stmt) (ps : List Str) (f : Addr) (fd : FuncData) : Prop where
  F : Fun K x x st f fd
  m : mg x = some (.ref f)
  b : Binds K fd ps []
structure HasAt (P : Program) (w : World) (K : PySem.W.Frag) (mg : Str → Option Value) (base : Heap) (x : Str) (ps : List Str) (k : Nat) (sp : Sp) (f : Addr) (fd : FuncData) : Prop where
  m : mg x = some (.ref f)
  kp : PySem.W.keepIn K (.ref f) = true
  b : Binds K fd ps []
  G : FnOk P w K mg base CX0 k f fd ps sp
def Has (P : Program) (w : World) (K : PySem.W.Frag) (mg : Str → Option Value) (base : Heap) (x : Str) (ps : List Str) (k : Nat) (sp : Sp) : Prop := ∃ f fd, HasAt P w K mg base x ps k sp f fd
theorem Has.imp {P : Program} {w : World} {K : PySem.W.Frag} {mg : Str → Option Value} {base : Heap} {x : Str} {ps : List Str} {k : Nat} {sp sp' : Sp} (h : Has P w K mg base x ps k sp) (i : ∀ vs H Q E, sp' vs H Q E → sp vs H Q E) : Has P w K mg base x ps k sp' := by
  obtain ⟨f, fd, h⟩ := h
  exact ⟨f, fd, h.m, h.kp, h.b, h.G.imp i⟩
theorem Has.mono {P : Program} {w : World} {K : PySem.W.Frag} {mg : Str → Option Value} {base : Heap} {x : Str} {ps : List Str} {k k' : Nat} {sp : Sp} (h : Has P w K mg base x ps k sp) (i : k ≤ k') : Has P w K mg base x ps k' sp := by
  obtain ⟨f, fd, h⟩ := h
  exact ⟨f, fd, h.m, h.kp, h.b, h.G.mono i⟩
section
variable {X : Cx} {x : Str} {ps : List Str} {k : Nat} {sp : Sp} {e : Expr} {es : List Expr} {t : TA} {p pos : Pos}
theorem pe_use (h : Has X.prog X.w X.K X.mg X.base x ps k sp) (hr : Room k X.A) (ha : PA X (e :: es) t) (hg : Gl X x := by rfl) (hdb : (x == ("__debug__" : Str)) = false := by decide) (he : starEach (e :: es) X.env = (false, eval e X.env) :: starEach es X.env := by rfl) (hpl : (backTo pos (starEach es X.env)).any (·.1) = false := by rfl) :
    PE X (.Call (.Name x p) (e :: es) [] pos) (tCall sp [] E0 t) := by
  obtain ⟨f, fd, h⟩ := h
  exact pe_call h.G hr hg h.m h.kp h.b .nil pass0 ha hdb he hpl
end
section
variable {P : Program} {w : World} {K : PySem.W.Frag} {mg : Str → Option Value} {base : Heap}
theorem zip_start {E : List Sl} {vs : List V} {cs : List Ck} {H : Hp} {n : Nat} (h : Cks K H vs cs) : True := trivial
/-- an argument's kind, within -/
def slOf : Ck → Sl
  | .im R => .im R
  | .lst rs => .bor rs
  | .bor rs => .bor rs
  | .seq rs => .seq rs
  | .dic _ => .no
theorem slk_of {H : Hp} {v : V} {c : Ck} (h : Ckk K H v c) : Slk K H [] H (some v) (slOf c) := by
  cases c with
  | im R => exact ⟨v, rfl, h⟩
  | lst rs => obtain ⟨a, vs, h1, h2, h3⟩ := h; exact ⟨a, vs, by rw [h1], SqL.of h2, by simp, h3⟩
  | bor rs => obtain ⟨a, vs, h1, h2, h3⟩ := h; exact ⟨a, vs, by rw [h1], h2, by simp, h3⟩
  | seq rs =>
    obtain ⟨a, vs, h1, h2, h3⟩ := h
    refine ⟨a, vs, by rw [h1], ?_, h3⟩
    rcases h2 with h2 | h2
    · exact .inl ⟨h2, by simp⟩
    · exact .inr h2
  | dic _ => trivial
theorem slOf_mu {c : Ck} : (slOf c).mu = false := by cases c <;> rfl
theorem ok_start {H : Hp} {vs : List V} {cs : List Ck} (n : Nat) (h : Cks K H vs cs) : Ok K H [] H ([] ++ (vs.map some ++ List.replicate n none).zip (cs.map slOf ++ List.replicate n Sl.no)) := by
  have hz : ∀ p ∈ (vs.map some ++ List.replicate n none).zip (cs.map slOf ++ List.replicate n Sl.no), Slk K H [] H p.1 p.2 ∧ p.2.mu = false := by
    induction h with
    | nil =>
      intro p hp
      have hp : p ∈ (List.replicate n none).zip (List.replicate n Sl.no) := hp
      obtain ⟨h1, h2⟩ := List.of_mem_zip (show (p.1, p.2) ∈ _ from hp)
      rw [List.mem_replicate] at h2
      rw [h2.2]
      exact ⟨trivial, rfl⟩
    | cons a b ih =>
      intro p hp
      rcases List.mem_cons.mp hp with z | z
      · subst z
        exact ⟨slk_of a, slOf_mu⟩
      · exact ih p z
  refine ⟨fun a o h _ => h, fun p hp => (hz p hp).1, ?_⟩
  refine List.pairwise_of_forall_mem_list ?_
  intro p hp q hq m
  rw [(hz p hp).2] at m
  cases m
theorem mk_hasA {A : Type} {x : Str} {st : Stmt} {N ps : List Str} {k : Nat} {f : Addr} {fd : FuncData} {par : A → List Ck} {pre : A → Prop} {res : A → Sl} (d : DefAt K mg x st ps f fd) (S : FnScope N ps (defScope st)) (hl : ∀ a, (par a).length = ps.length) (hk : ∀ a, pre a → (res a).res = true)
    (hd : ∀ (cdv : Value) (A : Around) (outer : List Env) (s : Shared) (H : Hp) (E : XK), Room k (A.deeper (envOfC x (defScope st) s.heap.objs.size f cdv)) → ∃ t, PSs (cxOf CX0 P w K mg base N x (defScope st) f cdv A outer s H E).nox (defBody st) t ∧
      ∀ a, pre a → WS K t ((par a).map slOf ++ List.replicate (N.length - ps.length) Sl.no) (fun _ => res a = .im rU) (fun k _ => k = res a) (fun _ => False) (fun _ => False)) : HasAt P w K mg base x ps (k + 1) (spP K par pre res) f fd := by
  refine ⟨d.m, d.F.kp, d.b, d.F.ok S (fun vs H Q E h => ?_) (fun cdv A outer s H vs Q E hr h => ?_)⟩
  · obtain ⟨a, _, hc, _⟩ := h
    rw [← hl a]
    exact Paired.length hc
  · obtain ⟨t, ht, hs⟩ := hd cdv A outer s H E hr
    refine ⟨t, ht, ?_⟩
    obtain ⟨a, hp, hc, q⟩ := h
    have l1 : vs.length = ps.length := (Paired.length hc).trans (hl a)
    have l2 : (par a).length = ps.length := hl a
    have ok := ok_start (N.length - ps.length) hc
    have e : L2.start N vs = vs.map some ++ List.replicate (N.length - ps.length) none := by
      unfold L2.start
      rw [l1]
    rw [e]
    refine hs a hp H [] _ [] H _ (by simp [l1, l2]) ok (fun E' p σ' H2 ls ok2 => ?_) (fun k E' p σ' v H2 ls ok2 => ?_) (fun _ p => p.elim) (fun _ p => p.elim)
    · have p : res a = .im rU := p
      refine q .non H2 ⟨?_, hk a hp⟩
      rw [p]
      exact (ok2.sub (List.nil_sublist _)).im rfl
    · have p : k = res a := p
      subst p
      exact q v H2 ⟨ok2.sub (List.Sublist.cons_cons _ (List.nil_sublist _)), hk a hp⟩
theorem mk_has {A : Type} {x : Str} {st : Stmt} {N ps : List Str} {k : Nat} {f : Addr} {fd : FuncData} {par : A → List Ck} {pre : A → Prop} {res : A → Sl} (d : DefAt K mg x st ps f fd) (S : FnScope N ps (defScope st)) (hl : ∀ a, (par a).length = ps.length) (hk : ∀ a, pre a → (res a).res = true)
    (hd : ∀ (cdv : Value) (A : Around) (outer : List Env) (s : Shared) (H : Hp) (E : XK), Room k (A.deeper (envOfC x (defScope st) s.heap.objs.size f cdv)) → ∃ t, PSs (cxOf CX0 P w K mg base N x (defScope st) f cdv A outer s H E).nox (defBody st) t ∧
      ∀ a, pre a → WS K t ((par a).map slOf ++ List.replicate (N.length - ps.length) Sl.no) (fun _ => res a = .im rU) (fun k _ => k = res a) (fun _ => False) (fun _ => False)) : Has P w K mg base x ps (k + 1) (spP K par pre res) := ⟨f, fd, mk_hasA d S hl hk hd⟩
end
/-! ### rules of operations on lists and tuples -/
section
variable {K : PySem.W.Frag} {rs ss : List Rp} {R : Rp} {E : List Sl} {i : Nat} {nx : List Sl → Prop} {rt : Sl → List Sl → Prop} {bk ct : List Sl → Prop}
theorem opc_cat (h : rs.length + ss.length ≤ sizeLine) : OPC K rCat (.lst rs) (.lst ss) (.own (rs ++ ss)) := fun H x y ⟨a, vs, h1, h2, h3⟩ ⟨b, us, e1, e2, e3⟩ Q q => by
  subst h1 e1
  exact ⟨a, b, vs, us, rfl, rfl, h2, e2, by rw [h3.len, e3.len]; exact h, fun p hp => q _ _ (res_newL hp (h3.app e3))⟩
theorem atI_nn {α : Type} {xs : List α} {n : Nat} {v : α} (h : xs[n]? = some v) : atI xs (n : Int) = some v := atI_nat h
theorem opc_ixL {n : Int} {m : Nat} (hn : n = (m : Int)) (h : rs[m]? = some R) : OPC K (rIxL K) (.bor rs) (.im (rI n)) (.im R) := fun H x y ⟨a, vs, h1, h2, h3⟩ e1 Q q => by
  subst h1
  have e1 : y = .int n := e1
  subst e1
  obtain ⟨v, hv, hr⟩ := h3.get h
  exact ⟨a, vs, n, v, rfl, rfl, h2, by rw [hn]; exact atI_nat hv, q _ _ (res_here hr)⟩
theorem opc_ixT {n : Int} {m : Nat} (hn : n = (m : Int)) (h : rs[m]? = some R) : OPC K (rIxT K) (.im (rT K rs)) (.im (rI n)) (.im R) := fun H x y ⟨a, vs, h1, h2, h3⟩ e1 Q q => by
  subst h1
  have e1 : y = .int n := e1
  subst e1
  obtain ⟨v, hv, hr⟩ := h3.get h
  exact ⟨a, vs, n, v, rfl, rfl, SqT.of h2, by rw [hn]; exact atI_nat hv, q _ _ (res_here hr)⟩
theorem OPC.cv {r : R2} {c1 c1' c2 c2' : Ck} {k : Sl} (h : OPC K r c1 c2 k) (a : Cv K c1' c1) (b : Cv K c2' c2) : OPC K r c1' c2' k := fun H x y h1 h2 => h H x y (a _ _ h1) (b _ _ h2)
abbrev rLen (K : PySem.W.Frag) : List V → Hp → VK → Prop := fun xs H Q => ∃ p ys, xs = [.ref p] ∧ (SqL K H p ys ∨ SqT K H p ys) ∧ Q (.int ys.length) H
theorem CPR.cv {r : List V → Hp → VK → Prop} {cs cs' : List Ck} {k : Sl} (h : CPR K r cs k) (c : Paired (Cv K) cs' cs) : CPR K r cs' k := fun H vs hv => h H vs (cks_cv hv c)
theorem cpr_len : CPR K (rLen K) [.seq rs] (.im (rN rs.length)) := fun H vs hv Q q => by
  cases hv with
  | cons h t =>
    cases t
    obtain ⟨a, us, h1, h2, h3⟩ := h
    subst h1
    exact ⟨a, us, rfl, h2, q _ _ (res_here (by show V.int _ = V.int _; rw [h3.len]))⟩
abbrev rTupOf (K : PySem.W.Frag) : List V → Hp → VK → Prop := fun xs H Q => ∃ p ys, xs = [.ref p] ∧ ((SqL K H p ys ∧ ∀ l, H l = none → Q (.ref l) (upd H l (.tup ys))) ∨ (SqT K H p ys ∧ Q (.ref p) H))
theorem cpr_tup : CPR K (rTupOf K) [.bor rs] (.im (rT K rs)) := fun H vs hv Q q => by
  cases hv with
  | cons h t =>
    cases t
    obtain ⟨a, us, h1, h2, h3⟩ := h
    subst h1
    exact ⟨a, us, rfl, .inl ⟨h2, fun l hl => q _ _ (res_newT hl h3)⟩⟩
abbrev rListOf (K : PySem.W.Frag) : List V → Hp → VK → Prop := fun xs H Q => ∃ p ys, xs = [.ref p] ∧ (SqL K H p ys ∨ SqT K H p ys) ∧ ∀ l, H l = none → Q (.ref l) (upd H l (.lst ys))
theorem cpr_list : CPR K (rListOf K) [.seq rs] (.own rs) := fun H vs hv Q q => by
  cases hv with
  | cons h t =>
    cases t
    obtain ⟨a, us, h1, h2, h3⟩ := h
    subst h1
    exact ⟨a, us, rfl, h2, fun l hl => q _ _ (res_newL hl h3)⟩
abbrev rMin2 : List V → Hp → VK → Prop := fun xs H Q => ∃ i j, xs = [.int i, .int j] ∧ Q (.int (if j < i then j else i)) H
theorem cpr_min2 {a b : Int} : CPR K rMin2 [.im (rI a), .im (rI b)] (.im (rI (if b < a then b else a))) := fun H vs hv Q q => by
  cases hv with
  | cons h t =>
    cases t with
    | cons h2 t =>
      cases t
      have h : _ = V.int a := h
      have h2 : _ = V.int b := h2
      subst h h2
      exact ⟨a, b, rfl, q _ _ (res_here rfl)⟩
/-- found.append(e) -/
theorem ws_app {te : TE} (hi : E[i]? = some (.own rs)) (h : WE K te E fun k E1 => ∃ R, k = .im R ∧ E1[i]? = some (.own rs) ∧ rs.length < sizeLine ∧ nx (E1.set i (.own (rs ++ [R])))) : WS K (tDrop (tBM K "list" rAppend (tVar i) (tCons te tNil))) E nx rt bk ct := fun H0 O0 σ T H D hl ok n r b c => by
  obtain ⟨o, L, ho, ok1, _⟩ := ok.at hl hi
  obtain ⟨a, us, e, h2, _⟩ := ok1.head
  subst e
  refine ⟨.ref a, ho, Or.inl ⟨rfl, _, Or.inl (Or.inl h2)⟩, h H0 O0 σ T H hl ok _ fun k E1 ⟨R, e, h1, hz, p⟩ l v H2 ok2 => ?_⟩
  subst e
  obtain ⟨w, e, hw⟩ := ok2.head
  cases e
  obtain ⟨o', L', ho', ok3, back⟩ := ok2.tail.at (by omega) h1
  obtain ⟨a', us', e, h3, h4, _⟩ := ok3.head
  subst e
  rw [ho] at ho'
  cases ho'
  refine ⟨a, us', v, rfl, rfl, h3, by rw [h4.len]; exact hz, ?_⟩
  have ok4 := ok3.chL rfl (h4.app (.cons hw .nil))
  exact n _ p σ _ (by simp [l, hl]) (back _ _ ok4)
end
end Fx
set_option Elab.async false
set_option linter.all false
set_option maxRecDepth 100000
set_option maxHeartbeats 2000000
namespace Fx
open PySem L2 PyProof.Rows
/-! words: ints from 0 on, told as naturals -/
theorem xor_nat (a b : Nat) : Builtin.bitXor (a : Int) (b : Int) = ((a ^^^ b : Nat) : Int) := by
  rw [Bits.bitXor_pp (Int.natCast_nonneg _) (Int.natCast_nonneg _)]; rfl
theorem and_nat (a b : Nat) : Builtin.bitAnd (a : Int) (b : Int) = ((a &&& b : Nat) : Int) := by
  rw [bitAnd_pp (Int.natCast_nonneg _) (Int.natCast_nonneg _)]; rfl
/-- the number of bits -/
def blen (n : Nat) : Nat := if n = 0 then 0 else n.log2 + 1
theorem intBits_nat (n : Nat) : Builtin.Int.intBits (n : Int) = blen n := by
  unfold Builtin.Int.intBits blen
  by_cases h : n = 0
  · subst h; rfl
  · have h1 : ((n : Int) == 0) = false := by simp [h]
    rw [h1, if_neg h]
    rfl
theorem blen_lt {n : Nat} (h : 0 < n) : 2 ^ (blen n - 1) ≤ n := by
  unfold blen
  rw [if_neg (by omega)]
  exact Nat.log2_self_le (by omega)
theorem lt_blen (n : Nat) : n < 2 ^ blen n := by
  unfold blen
  by_cases h : n = 0
  · subst h; decide
  · rw [if_neg h]
    exact Nat.lt_log2_self
theorem blen_le {n k : Nat} (h : n < 2 ^ k) : blen n ≤ k := by
  unfold blen
  by_cases e : n = 0
  · rw [if_pos e]; omega
  · rw [if_neg e]
    have := (Nat.log2_lt e).mpr h
    omega
section
variable {K : PySem.W.Frag} {E : List Sl} {Φ : Sl → List Sl → Prop} {te : TE}
theorem opr_xor {a b : Nat} : OPR K (rI0 fun i j => .int (Builtin.bitXor i j)) (.im (rN a)) (.im (rN b)) (.im (rN (a ^^^ b))) := opr_I0 fun _ => by
  show V.int _ = V.int _
  rw [xor_nat]
theorem opr_and {a b : Nat} : OPR K (rI0 fun i j => .int (Builtin.bitAnd i j)) (.im (rN a)) (.im (rN b)) (.im (rN (a &&& b))) := opr_I0 fun _ => by
  show V.int _ = V.int _
  rw [and_nat]
theorem opr_and1 {a : Nat} : OPR K (rI0 fun i j => .int (Builtin.bitAnd i j)) (.im (rN a)) (.im (rI 1)) (.im (rN (a % 2))) := opr_I0 fun _ => by
  show V.int _ = V.int _
  rw [bitAnd_m1]
  rfl
theorem opr_add {a b : Int} : OPR K (rI0 fun i j => .int (i + j)) (.im (rI a)) (.im (rI b)) (.im (rI (a + b))) := opr_I0 fun _ => rfl
theorem opr_sub {a b : Int} : OPR K (rI0 fun i j => .int (i - j)) (.im (rI a)) (.im (rI b)) (.im (rI (a - b))) := opr_I0 fun _ => rfl
theorem opr_shr {a b : Nat} : OPR K (L2.rI (fun _ j => 0 ≤ j) fun i j => .int (i / 2 ^ j.toNat)) (.im (rN a)) (.im (rN b)) (.im (rN (a / 2 ^ b))) := opr_I (Int.natCast_nonneg _) fun _ => by
  show V.int _ = V.int _
  rw [Int.toNat_natCast, two_pow_cast]
  norm_cast
theorem opr_shl1 {b : Nat} (h : b ≤ 1000000) : OPR K (L2.rI CShl fun i j => .int (i * 2 ^ j.toNat)) (.im (rI 1)) (.im (rN b)) (.im (rN (2 ^ b))) := opr_I (shl_ok (n := 1) (by decide) (by omega)) fun _ => by
  show V.int _ = V.int _
  rw [Int.toNat_natCast, two_pow_cast, Int.one_mul]
theorem opr_shlN {a b : Nat} {n : Nat} (h : a < 2 ^ n) (hn : n + b ≤ 1000000) : OPR K (L2.rI CShl fun i j => .int (i * 2 ^ j.toNat)) (.im (rN a)) (.im (rN b)) (.im (rN (a * 2 ^ b))) := opr_I (shl_ok (n := n) (by simpa using h) (by omega)) fun _ => by
  show V.int _ = V.int _
  rw [Int.toNat_natCast, two_pow_cast]
  norm_cast
theorem we_bits (h : WE K te E fun k E1 => ∃ n : Nat, k = .im (rN n) ∧ Φ (.im (rN (blen n))) E1) : WE K (tBits te) E Φ := fun H0 O0 σ T H hl ok Q q =>
  h H0 O0 σ T H hl ok _ fun k E1 ⟨n, e, p⟩ l v H2 ok2 => by
    subst e
    obtain ⟨w, e, hw⟩ := ok2.head
    cases e
    have hw : v = .int (n : Int) := hw
    subst hw
    refine ⟨_, rfl, q _ E1 p l _ H2 (ok2.tail.im ?_)⟩
    show V.int _ = V.int _
    rw [intBits_nat]
theorem opr_lt {a b : Int} : OPR K (rI0 fun i j => .bl (decide (i < j))) (.im (rI a)) (.im (rI b)) (.im (rB (decide (a < b)))) := opr_I0 fun _ => rfl
theorem opr_le {a b : Int} : OPR K (rI0 fun i j => .bl (decide (i ≤ j))) (.im (rI a)) (.im (rI b)) (.im (rB (decide (a ≤ b)))) := opr_I0 fun _ => rfl
theorem opr_gt {a b : Int} : OPR K (rI0 fun i j => .bl (decide (j < i))) (.im (rI a)) (.im (rI b)) (.im (rB (decide (b < a)))) := opr_I0 fun _ => rfl
theorem opr_ge {a b : Int} : OPR K (rI0 fun i j => .bl (decide (j ≤ i))) (.im (rI a)) (.im (rI b)) (.im (rB (decide (b ≤ a)))) := opr_I0 fun _ => rfl
theorem opr_sc {k1 k2 k k' : Sl} {r : R2} (h : OPR K r k1 k2 k) (e : k = k') : OPR K r k1 k2 k' := e ▸ h
end
end Fx
set_option Elab.async false
set_option linter.all false
set_option maxRecDepth 100000
set_option maxHeartbeats 2000000
namespace Fx
open PySem L2 PyProof.Rows
section
variable {K : PySem.W.Frag} {E : List Sl} {Φ : Sl → List Sl → Prop} {te ta tb : TE} {tr tk : TA} {rs ss : List Rp} {Θ : List Rp → List Sl → Prop} {R : Rp} {i : Nat}
/-! sorted -/
def dsort (ws : List Nat) : List Nat := ws.mergeSort fun a b => decide (b ≤ a)
def asort (ws : List Nat) : List Nat := ws.mergeSort fun a b => decide (a ≤ b)
theorem dsort_perm (ws : List Nat) : (dsort ws).Perm ws := List.mergeSort_perm _ _
theorem asort_perm (ws : List Nat) : (asort ws).Perm ws := List.mergeSort_perm _ _
theorem dsort_ord (ws : List Nat) : (dsort ws).Pairwise (· ≥ ·) := by
  have h := List.pairwise_mergeSort (le := fun a b : Nat => decide (b ≤ a)) (fun a b c h1 h2 => by simp at *; omega) (fun a b => by simp; omega) ws
  exact h.imp fun h => by simpa using h
theorem asort_ord (ws : List Nat) : (asort ws).Pairwise (· ≤ ·) := by
  have h := List.pairwise_mergeSort (le := fun a b : Nat => decide (a ≤ b)) (fun a b c h1 h2 => by simp at *; omega) (fun a b => by simp; omega) ws
  exact h.imp fun h => by simpa using h
theorem dsort_uniq {l ws : List Nat} (p : l.Perm ws) (o : l.Pairwise (· ≥ ·)) : l = dsort ws :=
  List.Perm.eq_of_pairwise (fun a b _ _ h1 h2 => by omega) o (dsort_ord ws) (p.trans (dsort_perm ws).symm)
theorem asort_uniq {l ws : List Nat} (p : l.Perm ws) (o : l.Pairwise (· ≤ ·)) : l = asort ws :=
  List.Perm.eq_of_pairwise (fun a b _ _ h1 h2 => by omega) o (asort_ord ws) (p.trans (asort_perm ws).symm)
abbrev castL (ws : List Nat) : List Int := ws.map fun (n : Nat) => (n : Int)
theorem cast_back : ∀ {ns : List Int} {ws : List Nat}, ns.Perm (castL ws) → ∃ us : List Nat, ns = castL us := fun {ns ws} p => by
  have h : ∀ x ∈ ns, ∃ n : Nat, x = (n : Int) := fun x hx => by
    obtain ⟨n, _, e⟩ := List.mem_map.mp (p.mem_iff.mp hx)
    exact ⟨n, e.symm⟩
  clear p
  induction ns with
  | nil => exact ⟨[], rfl⟩
  | cons a r ih =>
    obtain ⟨n, e⟩ := h a List.mem_cons_self
    obtain ⟨us, e2⟩ := ih fun x hx => h x (List.mem_cons_of_mem _ hx)
    exact ⟨n :: us, by rw [e, e2]; rfl⟩
theorem cast_perm {us ws : List Nat} (p : (castL us).Perm (castL ws)) : us.Perm ws := by
  have h := p.map Int.toNat
  have e : ∀ l : List Nat, (castL l).map Int.toNat = l := fun l => by
    unfold castL
    rw [List.map_map]
    conv => rhs; rw [← List.map_id l]
    exact List.map_congr_left fun a _ => Int.toNat_natCast a
  rw [e, e] at h
  exact h
theorem we_sortR {b : Bool} {zs : List V} (h : WC K tr E fun cs E1 => ∃ ws : List Nat, cs = [.lst (ws.map rN)] ∧ (∀ σ H (Q : List V → Hp → Prop), Q zs H → tk σ H Q) ∧ Φ (.own ((if b then dsort ws else asort ws).map rN)) E1) : WE K (tCKw (rSortedKw K b zs) tr tk) E Φ := fun H0 O0 σ T H hl ok Q q =>
  h H0 O0 σ T H hl ok _ fun cs E1 ⟨ws, e, hk, p⟩ l vs H2 ok2 hv => by
    subst e
    cases hv with
    | cons h1 t =>
      cases t
      obtain ⟨a, us, e1, h2, h3⟩ := h1
      subst e1
      refine hk σ H2 _ ⟨a, castL ws, rfl, rfl, SqL.of (by rw [← h3.nats]; exact h2), fun ns' p' hp ho hn => ?_⟩
      obtain ⟨us', e⟩ := cast_back hp
      subst e
      have pp := cast_perm hp
      have e2 : us' = (if b then dsort ws else asort ws) := by
        cases b with
        | true =>
          have ho : (castL us').Pairwise (· ≥ ·) := ho
          refine dsort_uniq pp ?_
          rw [List.pairwise_map] at ho
          exact ho.imp fun h => by omega
        | false =>
          have ho : (castL us').Pairwise (· ≤ ·) := ho
          refine asort_uniq pp ?_
          rw [List.pairwise_map] at ho
          exact ho.imp fun h => by omega
      rw [e2]
      exact q _ E1 p l _ _ (ok2.newL hn Vr.of_nats)
theorem cpr_sorted {ws : List Nat} : CPR K (rSortedI K) [.bor (ws.map rN)] (.own ((asort ws).map rN)) := fun H vs hv Q q => by
  cases hv with
  | cons h1 t =>
    cases t
    obtain ⟨a, us, e1, h2, h3⟩ := h1
    subst e1
    refine ⟨a, castL ws, rfl, by rw [← h3.nats]; exact h2, fun ns' p' hp ho hn => ?_⟩
    obtain ⟨us', e⟩ := cast_back hp
    subst e
    have e2 : us' = asort ws := by
      refine asort_uniq (cast_perm hp) ?_
      rw [List.pairwise_map] at ho
      exact ho.imp fun h => by omega
    rw [e2]
    exact q _ _ (res_newL hn Vr.of_nats)
/-! reversed(t) -/
theorem walks_revT {a : Addr} {vs : List V} {n : Nat} (hn : vs.length = n) : Walks K (RT.ItvT K a n) rs.reverse (some (.ref a), .im (rTa K a vs rs)) := by
  refine ⟨fun H0 O0 H L ok i R hi => ?_, fun H0 O0 H L ok => ?_⟩
  · obtain ⟨w, e, _, h2, h3⟩ := ok.head
    have hlt : i < rs.length := by
      have := (List.getElem?_eq_some_iff.mp hi).1
      simpa using this
    rw [List.getElem?_reverse hlt] at hi
    obtain ⟨v, hv, hr⟩ := h3.get hi
    have hl := h3.len
    have e1 : n - 1 - i = rs.length - 1 - i := by omega
    rw [← e1] at hv
    refine ⟨⟨by omega, vs, v, h2, hv⟩, fun x H' y => ?_⟩
    obtain ⟨e1, y⟩ := y
    subst e1
    have hx := y vs (h2)
    rw [hv] at hx
    cases hx
    exact ok.im hr
  · obtain ⟨w, e, _, h2, h3⟩ := ok.head
    have hl := h3.len
    show n ≤ rs.reverse.length
    rw [List.length_reverse]
    omega
theorem wi_revT (h : WE K te E fun k E1 => ∃ rs, k = .im (rT K rs) ∧ Θ rs.reverse E1) : WI K (RT.iRevA K te) E Θ := fun H0 O0 σ T H hl ok Q q =>
  h H0 O0 σ T H hl ok _ fun k E1 ⟨rs, e, p⟩ l v H2 ok2 => by
    subst e
    obtain ⟨w, e, a, vs, h1, h2, h3⟩ := ok2.head
    cases e
    subst h1
    exact ⟨a, vs, rfl, .inr ⟨SqT.of h2, q rs.reverse E1 p l _ (some (.ref a), .im (rTa K a vs rs)) H2 (walks_revT rfl) (ok2.tail.im ⟨rfl, SqT.of h2, h3⟩)⟩⟩
/-! in -/
theorem inV_nat {n : Nat} : ∀ {vs : List V} {ws : List Nat} {H : Hp}, Vr H vs (ws.map rN) → inV (.int (n : Int)) vs = decide (n ∈ ws) ∧ vs.all flatV = true
  | _, [], _, .nil => ⟨rfl, rfl⟩
  | v :: vs, w :: ws, H, .cons h t => by
    obtain ⟨h1, h2⟩ := inV_nat (n := n) t
    have h : v = .int (w : Int) := h
    subst h
    refine ⟨?_, by rw [List.all_cons, h2]; rfl⟩
    show (eqV (.int (w : Int)) (.int (n : Int)) || inV (.int (n : Int)) vs) = _
    rw [h1]
    have e : eqV (.int (w : Int)) (.int (n : Int)) = decide (n = w) := by
      show ((w : Int) == (n : Int)) = _
      rw [Bool.beq_eq_decide_eq]
      exact decide_eq_decide.mpr ⟨fun h => by omega, fun h => by omega⟩
    rw [e, ← Bool.decide_or]
    exact decide_eq_decide.mpr (by simp)
theorem opc_in {n : Nat} {ws : List Nat} {neg : Bool} : OPC K (rIn K neg) (.im (rN n)) (.seq (ws.map rN)) (.im (rB (if neg then !decide (n ∈ ws) else decide (n ∈ ws)))) := fun H x y h1 ⟨b, us, e1, e2, e3⟩ Q q => by
  subst e1
  have h1 : x = .int (n : Int) := h1
  subst h1
  obtain ⟨a1, a2⟩ := inV_nat (n := n) e3
  refine ⟨b, us, rfl, e2, rfl, a2, q _ _ (res_here ?_)⟩
  show V.bl _ = V.bl _
  rw [a1]
end
end Fx
set_option Elab.async false
set_option linter.all false
set_option maxRecDepth 100000
set_option maxHeartbeats 2000000
/-! the rules whose readings name the written part, told of K itself -/
namespace Fx
open PySem L2 PyProof.Rows
section
variable {X : Cx} {K : PySem.W.Frag} {e a : Expr} {te ta : TE} {tg : Expr} {s : Nat}
theorem kTru (h : X.K = K) (ha : PE X a ta) (he : ∀ whole, isTrue a X.env whole = (do let v ← whole; standAt a.pos; holding [v] (truthy v)) := by intro _; rfl) : PT X a (tTru K ta) := by subst h; exact pt_truth ha he
theorem kLen (h : X.K = K) : CallR X (.builtin "len") (rLen K) := by subst h; exact call_len_seq
theorem kTup (h : X.K = K) : CallR X (.type "tuple") (rTupOf K) := by subst h; exact call_tuple_of
theorem kLst (h : X.K = K) : CallR X (.type "list") (rListOf K) := by subst h; exact call_list_of
theorem kSorted (h : X.K = K) : CallR X (.builtin "sorted") (rSortedI K) := by subst h; exact cr_sortedI
theorem kSortR (h : X.K = K) {b : Bool} : CallRK X (.builtin "sorted") [Str.ofString "reverse"] (rSortedKw K b [.bl b]) := by subst h; exact cr_sortedRev
theorem kMin (h : X.K = K) (hc : X.calm = true) : CallR X (.builtin "min") (L2.rMin K) := by subst h; exact cr_min hc
theorem kSum (h : X.K = K) (hc : X.calm = true) : CallR X (.builtin "sum") (L2.rSum K) := by subst h; exact cr_sum hc
theorem kAll (h : X.K = K) (hc : X.calm = true) : CallR X (.builtin "all") (L2.rAll K) := by subst h; exact cr_all hc
theorem kIsi (h : X.K = K) : CallR X (.builtin "isinstance") (rIsi K) := by subst h; exact call_isi
theorem kIn (h : X.K = K) : OpR X (compareOp .In) (rIn K false) := by subst h; exact op_in_seq
theorem kNotIn (h : X.K = K) : OpR X (compareOp .NotIn) (rIn K true) := by subst h; exact op_notIn_seq
theorem kEqD (h : X.K = K) (hu : X.A.units + 64 < cLine) : OpR X (compareOp .Eq) (rEqD K) := by subst h; exact op_eqD hu
theorem kNeD (h : X.K = K) (hu : X.A.units + 64 < cLine) : OpR X (compareOp .NotEq) (rNeD K) := by subst h; exact op_neD hu
theorem kCatT (h : X.K = K) : OpR X (binaryOp .Add) (rCatA K) := by subst h; exact op_catA
theorem kIxL (h : X.K = K) : IxR X (rIxL K) := by subst h; exact ix_list
theorem kIxT (h : X.K = K) : IxR X (rIxT K) := by subst h; exact ix_tup
theorem kSlL (h : X.K = K) : SlR X (rSlL K) := by subst h; exact sl_list
theorem kSlT (h : X.K = K) : SlR X (rSlA K) := by subst h; exact sl_tupA
theorem kPiL (h : X.K = K) (hl : PE X e te) : PI X tg e (iList K te) := by subst h; exact pi_list hl
theorem kPiT (h : X.K = K) (hl : PE X e te) : PI X tg e (iTup K te) := by subst h; exact pi_tup hl
theorem kPiS (h : X.K = K) (hl : PE X e (tVar s)) : PI X tg e (iSeq K s) := by subst h; exact pi_seq hl
theorem kRevA {p pos : Pos} (h : X.K = K) (hg : Gl X "reversed") (hm : X.mg "reversed" = none) (he : PE X e te) (hs : starEach [e] X.env = (false, eval e X.env) :: starEach [] X.env := by rfl) : PI X tg (.Call (.Name "reversed" p) [e] [] pos) (RT.iRevA K te) := by subst h; exact RT.pi_revA hg hm he hs
theorem kRevL {k : Nat} {p1 p2 p3 pos : Pos} (h : X.K = K) (he : PE X e te) : PE X (.Subscript e (.Slice none none (some (.UnaryOp .USub (.Constant (.int 1) k p1) p2)) p3) pos) (tRevL K te) := by subst h; exact pe_revL he
theorem kAppend {pos apos : Pos} {o : Expr} {to : TE} {t : TA} {es : List Expr} (h : X.K = K) (ho : PE X o to) (ha : PA X (e :: es) t)
    (hbase : attributeBase o "append" X.env (eval o X.env) = eval o X.env := by rfl)
    (hfew : ((backTo pos (starEach (e :: es) X.env)).all (fun x => !x.1) && (backToKw pos (keywordEach [] X.env)).all (fun x => x.1.isSome)
      && decide ((e :: es).length + ([] : List Keyword).length + (if ([] : List Keyword).isEmpty then 0 else 1) < 30)) = true := by rfl)
    (hline : (apos.endLine == pos.line) = true := by rfl) (hs : starEach (e :: es) X.env = (false, eval e X.env) :: starEach es X.env := by rfl) (hplain : (backTo pos (starEach es X.env)).any (·.1) = false := by rfl) :
    PE X (.Call (.Attribute o "append" apos) (e :: es) [] pos) (tBM K "list" rAppend to t) := by subst h; exact pe_bm PySem.F.plainAttrs_list PySem.F.slot_list_append PySem.F.type_list_append mt_append ho ha hbase hfew hline hs hplain
end
end Fx
set_option Elab.async false
set_option linter.all false
set_option maxRecDepth 100000
set_option maxHeartbeats 2000000
/-! loops and comprehensions over lists of data -/
namespace Fx
open PySem L2 PyProof.Rows
section
variable {K : PySem.W.Frag} {E : List Sl} {Φ : Sl → List Sl → Prop} {te ta tb : TE} {tt : TT} {tr tk : TA} {rs ss : List Rp} {Θ : List Rp → List Sl → Prop} {R : Rp} {i j : Nat} {wi : TI} {nx : List Sl → Prop} {rt : Sl → List Sl → Prop} {bk ct : List Sl → Prop} {ts : TS}
theorem map_get {α β : Type} {xs : List α} {ρ : α → β} {i : Nat} {R : β} (h : (xs.map ρ)[i]? = some R) : ∃ x, xs[i]? = some x ∧ R = ρ x := by
  rw [List.getElem?_map] at h
  cases e : xs[i]? with
  | none => rw [e] at h; cases h
  | some x => rw [e] at h; exact ⟨x, rfl, (Option.some.inj h).symm⟩
theorem set_no (h : E[j]? = some Sl.no) (R : Sl) : (E.set j R).set j Sl.no = E := by
  rw [List.set_set]
  exact set_same h
/-- [g x for x in xs if f x] -/
theorem we_lcM {α : Type} (h : WI K wi E fun rs E1 => E1 = E ∧ E[j]? = some .no ∧ ∃ (xs : List α) (ρ : α → Rp) (f : α → Bool) (g : α → Rp), rs = xs.map ρ ∧ xs.length < sizeLine ∧
      (∀ x ∈ xs, WT K tt (E.set j (.im (ρ x))) fun b E2 => b = f x ∧ E2 = E.set j (.im (ρ x)) ∧ (b = true → WE K te (E.set j (.im (ρ x))) fun k E3 => k = .im (g x) ∧ E3 = E.set j (.im (ρ x)))) ∧
      Φ (.own ((xs.filter f).map g)) E) : WE K (tLc wi (gName j) tt te [j]) E Φ := by
  refine we_lc (σ0 := 0) fun H0 O0 σ T H hl ok Q q => h H0 O0 σ T H hl ok Q fun rs E1 ⟨e, hn, xs, ρ, f, g, e2, hz, hs, hd⟩ l => q rs E1 ⟨by rw [e]; exact hn, by rw [e2, List.length_map]; exact hz, ?_⟩ l
  subst e e2
  refine ⟨fun i acc E' => E' = E1 ∧ acc = ((xs.take i).filter f).map g, ⟨rfl, rfl⟩, fun i acc E' ⟨a, b⟩ => ⟨?_, by rw [a]; exact hn⟩, fun i R acc E' hi ⟨a, b⟩ => ?_, fun acc E' ⟨a, b⟩ => by rw [a, b, List.length_map, List.take_length]; exact hd⟩
  · rw [b, List.length_map]
    have := List.length_filter_le f (xs.take i)
    rw [List.length_take] at this
    omega
  · subst a b
    obtain ⟨x, hx, e⟩ := map_get hi
    subst e
    have ht : (xs.take (i + 1)).filter f = (xs.take i).filter f ++ (if f x = true then [x] else []) := by
      rw [List.take_add_one, hx, List.filter_append]
      cases hf : f x <;> simp [hf]
    intro H0 O0 σ T H hl ok Q q
    refine hs x (List.mem_of_getElem? hx) H0 O0 σ T H hl ok Q fun b E2 ⟨h1, h2, h3⟩ l H2 ok2 => q b E2 ?_ l H2 ok2
    subst h2
    cases b with
    | false =>
      rw [if_neg Bool.false_ne_true]
      refine ⟨set_no hn _, ?_⟩
      rw [ht, if_neg (by rw [← h1]; decide), List.append_nil]
    | true =>
      rw [if_pos rfl]
      refine we_mono (h3 rfl) fun k E3 ⟨a, b⟩ => ⟨g x, a, by rw [b]; exact set_no hn _, ?_⟩
      rw [ht, if_pos h1.symm, List.map_append]
      rfl
theorem wi_rngN {tr : TA} (h : WA K tr E fun ks E1 => ∃ n : Nat, ks = [.im (rN n)] ∧ n ≤ 1000000000 ∧ Θ ((List.range n).map rN) E1) : WI K (iRng1 tr) E Θ :=
  wi_rng1 fun H0 O0 σ T H hl ok Q q => h H0 O0 σ T H hl ok Q fun ks E1 ⟨n, e, hn, p⟩ => q ks E1 ⟨n, e, by omega, by
    have e2 : (fun (i : Nat) => rI (0 + (i : Int))) = rN := by funext i; rw [Int.zero_add]
    rw [e2]
    exact p⟩
theorem wi_mono {Θ' : List Rp → List Sl → Prop} (h : WI K wi E Θ) (m : ∀ rs E', Θ rs E' → Θ' rs E') : WI K wi E Θ' := fun H0 O0 σ T H hl ok Q q => h H0 O0 σ T H hl ok Q fun rs E' p => q rs E' (m rs E' p)
/-- for x in xs: a fold -/
theorem ws_forF {α S : Type} (xs : List α) (ρ : α → Rp) (envf : S → Sl → List Sl) (step : S → α → S) (s0 : S) (h : WI K wi E fun rs E1 => rs = xs.map ρ ∧ (∃ k, E1 = envf s0 k) ∧
      (∀ i x s k, xs[i]? = some x → s = (xs.take i).foldl step s0 → WS K ts ((envf s k).set j (.im (ρ x))) (fun E' => ∃ k, E' = envf (step s x) k) rt nx (fun E' => ∃ k, E' = envf (step s x) k)) ∧ ∀ k, nx (envf (xs.foldl step s0) k)) :
    WS K (tFor wi (gName j) ts) E nx rt bk ct := by
  refine ws_for (wi_mono h fun rs E1 ⟨e, h0, hs, hd⟩ => ?_)
  subst e
  refine ⟨fun i E' => ∃ k, E' = envf ((xs.take i).foldl step s0) k, h0, fun i R E' hi ⟨k, hk⟩ => ?_, fun E' ⟨k, hk⟩ => by rw [hk, List.length_map, List.take_length]; exact hd k⟩
  obtain ⟨x, hx, e⟩ := map_get hi
  subst e hk
  have e : (xs.take (i + 1)).foldl step s0 = step ((xs.take i).foldl step s0) x := by
    rw [List.take_add_one, hx, List.foldl_append]
    rfl
  have r := hs i x _ k hx rfl
  rw [← e] at r
  exact r
end
end Fx
namespace Fx
open PySem L2 PyProof.Rows
section
variable {K : PySem.W.Frag} {E : List Sl} {Φ : Sl → List Sl → Prop} {te ta tb : TE} {tt : TT} {j : Nat}
theorem List.filter_true' {α : Type} (xs : List α) : xs.filter (fun _ => true) = xs := List.filter_eq_self.mpr fun _ _ => rfl
theorem odd_ne (n : Nat) : (((n % 2 : Nat) : Int) != 0) = decide (n % 2 = 1) := by
  rcases Nat.mod_two_eq_zero_or_one n with h | h
  · rw [h]; rfl
  · rw [h]; rfl
theorem cpr_min2N {a b : Nat} : CPR K rMin2 [.im (rN a), .im (rN b)] (.im (rN (if b < a then b else a))) := by
  have h := cpr_min2 (K := K) (a := (a : Int)) (b := (b : Int))
  have e : (if (b : Int) < (a : Int) then (b : Int) else (a : Int)) = ((if b < a then b else a : Nat) : Int) := by
    by_cases hb : b < a
    · rw [if_pos hb, if_pos (by omega)]
    · rw [if_neg hb, if_neg (by omega)]
  rw [e] at h
  exact h
theorem Ok.al {H0 : Hp} {O0 : List Addr} {H : Hp} {L : List (Option V × Sl)} {v : V} (ok : Ok K H0 O0 H L) : Ok K H0 O0 H ((some v, .al v) :: L) :=
  ⟨ok.fr, fun q hq => by
    rcases List.mem_cons.mp hq with e | e
    · subst e; exact rfl
    · exact ok.sl _ e, List.pairwise_cons.mpr ⟨fun _ _ z => (by cases z), ok.ap⟩⟩
/-- a list of one's own, put aside: its name tells nothing meanwhile -/
theorem Ok.aside {H0 : Hp} {O0 : List Addr} {H : Hp} {T : List (Option V × Sl)} {σ : L2.St} {s : Nat} {rs : List Rp} (ok : Ok K H0 O0 H (T ++ σ.zip E)) (hl : σ.length = E.length) (hs : E[s]? = some (.own rs)) :
    ∃ a A, σ[s]? = some (some (.ref a)) ∧ Ok K H0 O0 H ((some (.ref a), .own rs) :: (T ++ σ.zip (E.set s A))) ∧
      ∀ T' rs' E' H', E'[s]? = some A → σ.length = E'.length → Ok K H0 O0 H' ((some (.ref a), .own rs') :: (T' ++ σ.zip E')) → Ok K H0 O0 H' (T' ++ σ.zip (E'.set s (.own rs'))) := by
  obtain ⟨o, L, ho, ok1, back⟩ := ok.at' hl hs
  obtain ⟨a, vs, e, _⟩ := ok1.head
  subst e
  refine ⟨a, .al (.ref a), ho, ?_, fun T' rs' E' H' he hl' ok' => ?_⟩
  · have q : Ok K H0 O0 H ((some (.ref a), .al (.ref a)) :: (((some (.ref a), .own rs) :: T) ++ L)) := ok1.al
    exact back ((some (.ref a), .own rs) :: T) _ _ q
  · have q := Ok.store (T := T') (v := some (.ref a)) (k := .own rs') s hl' ok'
    have e : σ.set s (some (.ref a)) = σ := by
      have hi := (List.getElem?_eq_some_iff.mp ho).1
      have e2 := (List.getElem?_eq_some_iff.mp ho).2
      have := List.set_getElem_self (as := σ) hi
      rw [e2] at this
      exact this
    rw [e] at q
    exact q
/-- [.. for x in xs ..], xs a list of one's own: within, its name tells nothing -/
theorem we_lcV {α : Type} {s : Nat} (xs : List α) (ρ : α → Rp) (f : α → Bool) (g : α → Rp) (hs : E[s]? = some (.own (xs.map ρ))) (hn : E[j]? = some Sl.no) (hne : s ≠ j) (hz : xs.length < sizeLine)
    (ht : ∀ (A : Sl), ∀ x ∈ xs, WT K tt ((E.set s A).set j (.im (ρ x))) fun b E2 => b = f x ∧ E2 = (E.set s A).set j (.im (ρ x)) ∧ (b = true → WE K te ((E.set s A).set j (.im (ρ x))) fun k E3 => k = .im (g x) ∧ E3 = (E.set s A).set j (.im (ρ x)))) (p : Φ (.own ((xs.filter f).map g)) E) :
    WE K (tLc (iList K (tVar s)) (gName j) tt te [j]) E Φ := fun H0 O0 σ T H hl ok Q q => by
  obtain ⟨a, A, ho, ok1, back⟩ := ok.aside hl hs
  obtain ⟨b, vs, e, h2, _⟩ := ok1.head
  cases e
  have hn' : (E.set s A)[j]? = some Sl.no := by rw [List.getElem?_set_ne hne]; exact hn
  refine ⟨.ref a, ho, a, rfl, ⟨vs, SqL.of h2⟩, ?_⟩
  refine lc_coreW walks_own ok1 (by simp [hl]) (by rw [List.length_map]; exact hz) (fun i acc E' => E' = E.set s A ∧ acc = ((xs.take i).filter f).map g) ⟨rfl, rfl⟩ (fun i acc E' ⟨a, b⟩ => ⟨?_, by rw [a]; exact hn'⟩) (fun i R acc E' hi ⟨a, b⟩ => ?_) (fun acc E' ⟨e1, e2⟩ ls Dl H' ok' => ?_)
  · rw [b, List.length_map]
    have := List.length_filter_le f (xs.take i)
    rw [List.length_take] at this
    omega
  · subst a b
    obtain ⟨x, hx, e⟩ := map_get hi
    subst e
    have hf : (xs.take (i + 1)).filter f = (xs.take i).filter f ++ (if f x = true then [x] else []) := by
      rw [List.take_add_one, hx, List.filter_append]
      cases hf : f x <;> simp [hf]
    intro H0 O0 σ T H hl ok Q q
    refine ht A x (List.mem_of_getElem? hx) H0 O0 σ T H hl ok Q fun b E2 ⟨h1, h2, h3⟩ l H2 ok2 => q b E2 ?_ l H2 ok2
    subst h2
    cases b with
    | false =>
      rw [if_neg Bool.false_ne_true]
      refine ⟨set_no hn' _, ?_⟩
      rw [hf, if_neg (by rw [← h1]; decide), List.append_nil]
    | true =>
      rw [if_pos rfl]
      refine we_mono (h3 rfl) fun k E3 ⟨a, b⟩ => ⟨g x, a, by rw [b]; exact set_no hn' _, ?_⟩
      rw [hf, if_pos h1.symm, List.map_append]
      rfl
  · subst e1 e2
    have hse : (E.set s A)[s]? = some A := List.getElem?_set_self (List.getElem?_eq_some_iff.mp hs).1
    have q1 := back ((some (.ref Dl), .own (((xs.take (xs.map ρ).length).filter f).map g)) :: T) (xs.map ρ) _ _ hse (by simp [hl]) (ok'.perm (List.Perm.swap _ _ _))
    rw [List.set_set, set_same hs] at q1
    have e : ((xs.take (xs.map ρ).length).filter f).map g = (xs.filter f).map g := by rw [List.length_map, List.take_length]
    rw [e] at q1
    exact q _ E p rfl _ _ q1
end
end Fx
set_option Elab.async false
set_option linter.all false
set_option maxRecDepth 100000
set_option maxHeartbeats 2000000
/-! kinds of values, isinstance, chains -/
namespace Fx
open PySem L2 PyProof.Rows
inductive Knd where
  | non | bl | int | str | tup | lst | dic
  deriving DecidableEq
def Knd.name : Knd → String
  | .non => "NoneType"
  | .bl => "bool"
  | .int => "int"
  | .str => "str"
  | .tup => "tuple"
  | .lst => "list"
  | .dic => "dict"
section
variable {K : PySem.W.Frag}
def HasKnd (K : PySem.W.Frag) (R : Rp) (k : Knd) : Prop := ∀ v H, R.r v H → TyX K H v (.type k.name)
theorem knd_int {n : Int} : HasKnd K (rI n) .int := fun v H h => by have h : v = _ := h; subst h; exact .base (.int _)
theorem knd_bl {b : Bool} : HasKnd K (rB b) .bl := fun v H h => by have h : v = _ := h; subst h; exact .base (.bl _)
theorem knd_str {s : Str} : HasKnd K (rS s) .str := fun v H h => by have h : v = _ := h; subst h; exact .base (.str _)
theorem knd_non : HasKnd K rU .non := fun v H h => by have h : v = _ := h; subst h; exact .base .non
theorem knd_tup {rs : List Rp} : HasKnd K (rT K rs) .tup := fun v H ⟨a, vs, h1, h2, h3⟩ => by subst h1; exact .base (.tup h2)
theorem kit_int (k : Knd) : PySem.W.kitOne K (.type k.name) (.type "int") = some (k == .int || k == .bl) := by cases k <;> exact kit_ty (by decide +kernel)
theorem kit_bool (k : Knd) : PySem.W.kitOne K (.type k.name) (.type "bool") = some (k == .bl) := by cases k <;> exact kit_ty (by decide +kernel)
theorem kit_tuple (k : Knd) : PySem.W.kitOne K (.type k.name) (.type "tuple") = some (k == .tup) := by cases k <;> exact kit_ty (by decide +kernel)
theorem kit_str (k : Knd) : PySem.W.kitOne K (.type k.name) (.type "str") = some (k == .str) := by cases k <;> exact kit_ty (by decide +kernel)
def rTy (c : String) : Rp := ⟨fun v _ => v = .ty c, fun _ h => h, false, fun _ => fun h e => by rw [h] at e; cases e⟩
theorem cpr_isi {R : Rp} {k : Knd} {c : String} {b : Bool} (h : HasKnd K R k) (hk : PySem.W.kitOne K (.type k.name) (.type c) = some b) : CPR K (rIsi K) [.im R, .im (rTy c)] (.im (rB b)) := fun H vs hv Q q => by
  cases hv with
  | cons h1 t =>
    cases t with
    | cons h2 t =>
      cases t
      have h2 : _ = V.ty c := h2
      subst h2
      exact ⟨_, _, _, _, b, rfl, .ty c, h _ _ h1, hk, q _ _ (res_here rfl)⟩
theorem we_ty {c : String} {E : List Sl} {Φ : Sl → List Sl → Prop} (p : Φ (.im (rTy c)) E) : WE K (tC (.ty c)) E Φ := we_c (fun _ => rfl) p
theorem pe_const {X : Cx} {x : Str} {n : Int} {pos : Pos} (h : ∃ t, X.mg x = some (Value.int n t)) (hg : Gl X x := by rfl) (hd : (x == ("__debug__" : Str)) = false := by decide) : PE X (.Name x pos) (tC (.int n)) := by
  obtain ⟨t, h⟩ := h
  exact pe_glob hg h ⟨t, rfl⟩ hd
variable {E : List Sl} {Φ : Sl → List Sl → Prop} {ta tb tc : TE} {r r' : R2}
theorem we_chain (h : WE K ta E fun k1 E1 => WE K tb E1 fun k2 E2 => ∃ (b : Bool) (R2' : Rp), k2 = .im R2' ∧ OPR K r k1 k2 (.im (rB b)) ∧ if b = true then WE K tc E2 fun k3 E3 => ∃ k, OPR K r' k2 k3 k ∧ Φ k E3 else Φ (.im (rB false)) E2) :
    WE K (tChain r r' ta tb tc) E Φ := fun H0 O0 σ T H hl ok Q q =>
  h H0 O0 σ T H hl ok _ fun k1 E1 h1 l1 x H1 ok1 => h1 H0 O0 σ ((some x, k1) :: T) H1 (by omega) ok1 _ fun k2 E2 ⟨b, R, e, hr, p⟩ l2 y H2 ok2 => by
    subst e
    have okd : Ok K H0 O0 H2 ((some y, .im R) :: (some x, k1) :: ((some y, .im R) :: (T ++ σ.zip E2))) := by
      have d := Ok.dupB ok2 (p := (some y, .im R)) List.mem_cons_self rfl
      refine d.perm ?_
      refine List.Perm.cons _ ?_
      exact List.Perm.swap _ _ _
    refine hr H0 O0 H2 _ x y okd _ fun z H3 ok3 => ?_
    obtain ⟨w, e, hw⟩ := ok3.head
    cases e
    refine ⟨b, hw, ?_⟩
    cases b with
    | true =>
      rw [if_pos rfl] at p ⊢
      refine p H0 O0 σ ((some y, .im R) :: T) H3 (by omega) ok3.tail _ fun k3 E3 ⟨k, hr2, p3⟩ l3 w' H4 ok4 => ?_
      exact hr2 H0 O0 H4 _ y w' ok4 _ fun z' H5 ok5 => q k E3 p3 (by omega) z' H5 ok5
    | false =>
      rw [if_neg Bool.false_ne_true] at p ⊢
      exact q _ E2 p (by omega) _ H3 (ok3.tail.tail.im (R := rB false) rfl)
/-- a value that is this int, or none -/
def IntLike (K : PySem.W.Frag) (R : Rp) : Option Int → Prop
  | some n => R = rI n
  | none => ∃ k, HasKnd K R k ∧ k ≠ .int
theorem IntLike.knd {R : Rp} : ∀ {o : Option Int}, IntLike K R o → ∃ k, HasKnd K R k ∧ (k == Knd.int) = o.isSome
  | some n, h => ⟨.int, by have h : R = rI n := h; rw [h]; exact knd_int, rfl⟩
  | none, ⟨k, h1, h2⟩ => ⟨k, h1, by simpa using h2⟩
def inRange (lo hi : Int) : Option Int → Bool
  | some n => decide (lo ≤ n) && decide (n ≤ hi)
  | none => false
def ascB (lim : Int) : List (Option Int) → Int → Bool
  | [], _ => true
  | none :: _, _ => false
  | some n :: r, least => (decide (least ≤ n) && decide (n ≤ lim - 1)) && ascB lim r (n + 1)
end
end Fx
set_option Elab.async false
set_option linter.all false
set_option maxRecDepth 100000
set_option maxHeartbeats 2000000
/-! a list that is handed on and changed: the pail of draws -/
namespace Fx
open PySem L2 PyProof.Rows
/-- at most so many more draws are wanted of it -/
def Good (m : Nat) (a b c : Int) : Prop := 0 ≤ a ∧ a < 2 ^ 1400 ∧ 0 ≤ b ∧ b < 2 ^ 80 ∧ 0 ≤ c ∧ c + m ≤ 2 ^ 60
def PailOk (m : Nat) (vs : List V) : Prop := ∃ a b c : Int, vs = [.int a, .int b, .int c] ∧ Good m a b c
theorem Good.less {m n : Nat} {a b c : Int} (h : Good m a b c) (l : n ≤ m) : Good n a b c := by
  obtain ⟨h1, h2, h3, h4, h5, h6⟩ := h
  exact ⟨h1, h2, h3, h4, h5, by omega⟩
theorem PailOk.less {m n : Nat} {vs : List V} (h : PailOk m vs) (l : n ≤ m) : PailOk n vs := by
  obtain ⟨a, b, c, e, g⟩ := h
  exact ⟨a, b, c, e, g.less l⟩
section
variable (K : PySem.W.Frag)
def spQ {A B : Type} (need left : A → Nat) (par : A → List Ck) (pre : A → Prop) (post : A → B → Prop) (res : A → B → Sl) : Sp := fun vs H Q _ => ∃ a, pre a ∧ ∃ p vs', vs = .ref p :: vs' ∧ (∃ us, H p = some (.lst us) ∧ PailOk (need a) us) ∧ Cks K H vs' (par a) ∧ (∀ v ∈ vs', v ≠ .ref p) ∧
  ∀ b v H', post a b → Ok K H [p] H' [(some v, res a b), (some (.ref p), .box p (PailOk (left a)))] → (res a b).res = true → Q v H'
def WQ (i : Nat) (p : Addr) (ta : TA) (E : List Sl) (Θ : List Ck → List Sl → Prop) : Prop :=
  ∀ (H0 : Hp) (O0 : List Addr) (σ : L2.St) (T : List (Option V × Sl)) (H : Hp), σ.length = E.length → Ok K H0 O0 H (T ++ σ.zip E) → ∀ Q : List V → Hp → Prop,
    (∀ cs E', Θ cs E' → E'.length = E.length → ∀ vs H2, Ok K H0 O0 H2 (T ++ σ.zip E') → Cks K H2 vs cs → (∀ φ, E'[i]? = some (.box p φ) → ∀ v ∈ vs, v ≠ .ref p) → Q vs H2) → ta σ H Q
end
section
variable {K : PySem.W.Frag} {E : List Sl} {te ta tb : TE} {Φ : Sl → List Sl → Prop} {R : Rp} {i j : Nat} {nx : List Sl → Prop} {rt : Sl → List Sl → Prop} {bk ct : List Sl → Prop} {ts : TS} {k : Sl} {tr : TA} {Θ : List Ck → List Sl → Prop} {p : Addr} {φ : List V → Prop} {vs : List V}
theorem box_slot {H0 : Hp} {O0 : List Addr} {H : Hp} {T : List (Option V × Sl)} {σ : L2.St} (ok : Ok K H0 O0 H (T ++ σ.zip E)) (hl : σ.length = E.length) (h : E[i]? = some (.box p φ)) : σ[i]? = some (some (.ref p)) ∧ (∃ vs, H p = some (.lst vs) ∧ φ vs) ∧ (some (.ref p), Sl.box p φ) ∈ σ.zip E := by
  obtain ⟨o, h1, h2⟩ := zip_get hl h
  obtain ⟨e, h3, _⟩ := ok.sl _ (List.mem_append_right _ h2)
  have e : o = some (.ref p) := e
  subst e
  exact ⟨h1, h3, h2⟩
theorem wq_nil (h : Θ [] E) : WQ K i p tNil E Θ := fun H0 O0 σ T H hl ok Q q => q [] E h rfl [] H ok .nil fun _ _ _ z => (by cases z)
theorem wq_im (h : WE K te E fun k E1 => ∃ R, k = .im R ∧ R.fl = false ∧ WQ K i p tr E1 fun cs E2 => Θ (.im R :: cs) E2) : WQ K i p (tCons te tr) E Θ := fun H0 O0 σ T H hl ok Q q =>
  h H0 O0 σ T H hl ok _ fun k E1 ⟨R, e, hf, h1⟩ l1 x H1 ok1 => h1 H0 O0 σ ((some x, k) :: T) H1 (by omega) ok1 _ fun cs E2 pp l2 vs H2 ok2 hv hn => by
    subst e
    obtain ⟨w, e, hw⟩ := ok2.head
    cases e
    refine q _ E2 pp (by omega) (x :: vs) H2 ok2.tail (.cons hw hv) fun φ hb v hm => ?_
    rcases List.mem_cons.mp hm with z | z
    · subst z
      obtain ⟨_, ⟨us, h3, _⟩, _⟩ := box_slot ok2.tail (by omega) hb
      exact fun e => R.nl hf hw e us h3
    · exact hn φ hb v z
theorem wq_own (h : WE K te E fun k E1 => ∃ rs, k = .own rs ∧ WQ K i p tr E1 fun cs E2 => Θ (.lst rs :: cs) E2) : WQ K i p (tCons te tr) E Θ := fun H0 O0 σ T H hl ok Q q =>
  h H0 O0 σ T H hl ok _ fun k E1 ⟨rs, e, h1⟩ l1 x H1 ok1 => h1 H0 O0 σ ((some x, k) :: T) H1 (by omega) ok1 _ fun cs E2 pp l2 vs H2 ok2 hv hn => by
    subst e
    obtain ⟨a, us, e, h2, h3, _⟩ := ok2.head
    cases e
    refine q _ E2 pp (by omega) (.ref a :: vs) H2 ok2.tail (.cons ⟨a, us, rfl, h2, h3⟩ hv) fun φ hb v hm => ?_
    rcases List.mem_cons.mp hm with z | z
    · subst z
      obtain ⟨_, _, hm2⟩ := box_slot ok2.tail (by omega) hb
      have ap := (List.pairwise_cons.mp ok2.ap).1 _ (List.mem_append_right _ hm2) rfl rfl
      intro e
      exact ap (by rw [e])
    · exact hn φ hb v z
theorem wq_var {s : Nat} {rs : List Rp} (hi : E[s]? = some (.own rs)) (h : WQ K i p tr E fun cs E2 => E2[s]? = some (.own rs) ∧ Θ (.lst rs :: cs) E2) : WQ K i p (tCons (tVar s) tr) E Θ := fun H0 O0 σ T H hl ok Q q => by
  obtain ⟨o, L, ho, ok1, _⟩ := ok.at hl hi
  obtain ⟨a, us, e, _⟩ := ok1.head
  subst e
  refine ⟨.ref a, ho, h H0 O0 σ T H hl ok _ fun cs E2 ⟨h1, pp⟩ l2 vs H2 ok2 hv hn => ?_⟩
  obtain ⟨o', L', ho', ok3, back⟩ := ok2.at (by omega) h1
  obtain ⟨a', us', e, h2, h3, _⟩ := ok3.head
  subst e
  rw [ho] at ho'
  cases ho'
  refine q _ E2 pp l2 (.ref a :: vs) H2 ok2 (.cons ⟨a, us', rfl, h2, h3⟩ hv) fun φ hb v hm => ?_
  rcases List.mem_cons.mp hm with z | z
  · subst z
    obtain ⟨hσ, _, hm2⟩ := box_slot ok2 (by omega) hb
    intro e
    cases e
    -- both stand at p: the slot s holds p as a list of one's own, the slot i as a box
    have hsi : s ≠ i := fun z => by
      rw [z, hb] at h1
      cases h1
    obtain ⟨o2, hz1, hz2⟩ := zip_get (by omega : σ.length = E2.length) h1
    rw [ho] at hz1
    cases hz1
    have pw := ok2.ap
    rw [List.pairwise_append] at pw
    have pz := List.pairwise_iff_getElem.mp pw.2.1
    have hi1 : s < E2.length := (List.getElem?_eq_some_iff.mp h1).1
    have hi2 : i < E2.length := (List.getElem?_eq_some_iff.mp hb).1
    have g1 : (σ.zip E2)[s]'(by rw [List.length_zip]; omega) = (some (.ref p), .own rs) := by
      rw [List.getElem_zip]
      rw [(List.getElem?_eq_some_iff.mp ho).2, (List.getElem?_eq_some_iff.mp h1).2]
    have g2 : (σ.zip E2)[i]'(by rw [List.length_zip]; omega) = (some (.ref p), .box p φ) := by
      rw [List.getElem_zip]
      rw [(List.getElem?_eq_some_iff.mp hσ).2, (List.getElem?_eq_some_iff.mp hb).2]
    rcases Nat.lt_or_gt_of_ne hsi with z | z
    · have r := pz s i (by rw [List.length_zip]; omega) (by rw [List.length_zip]; omega) z
      rw [g1, g2] at r
      exact r rfl rfl rfl
    · have r := pz i s (by rw [List.length_zip]; omega) (by rw [List.length_zip]; omega) z
      rw [g1, g2] at r
      exact r rfl rfl rfl
  · exact hn φ hb v z
/-- what comes back of a call that changes the box -/
theorem Ok.resQ {H0 : Hp} {O0 : List Addr} {H H' : Hp} {L : List (Option V × Sl)} {v : V} {ψ : List V → Prop} (ok : Ok K H0 O0 H ((some (.ref p), .box p φ) :: L)) (r : Ok K H [p] H' [(some v, k), (some (.ref p), .box p ψ)]) (rk : k.res = true) : Ok K H0 O0 H' ((some v, k) :: (some (.ref p), .box p ψ) :: L) := by
  have e : ∀ a o, a ≠ p → H a = some o → H' a = some o := fun a o n h => r.fr a o h (by simpa using n)
  obtain ⟨_, ⟨us, hb1, hb2⟩, _⟩ := r.tail.head
  obtain ⟨_, ⟨us0, hc1, _⟩, hc2⟩ := ok.head
  have ok1 : Ok K H0 O0 H' ((some (.ref p), .box p ψ) :: L) := ok.chg rfl e hb1 ⟨_, rfl⟩ ⟨rfl, ⟨us, hb1, hb2⟩, hc2⟩
  have hk := r.head
  cases k with
  | no => exact ok1.nil1
  | im R => obtain ⟨w, e1, h⟩ := hk; cases e1; exact ok1.im h
  | own rs =>
    obtain ⟨a, vs, e1, h1, h2, h3⟩ := hk
    cases e1
    have hne : a ≠ p := fun z => by
      have ap := (List.pairwise_cons.mp r.ap).1 _ List.mem_cons_self rfl rfl
      exact ap (by rw [z])
    have hn : H a = none := by
      rcases h3 with h3 | h3
      · exact h3
      · exact absurd (by simpa using h3) hne
    refine ⟨ok1.fr, fun q hq => ?_, List.pairwise_cons.mpr ⟨fun q hq _ m z => ?_, ok1.ap⟩⟩
    · rcases List.mem_cons.mp hq with z | z
      · subst z
        exact ⟨a, vs, rfl, h1, h2, ok.fresh hn⟩
      · exact ok1.sl q z
    · rcases List.mem_cons.mp hq with y | y
      · subst y
        cases z
        exact hne rfl
      · obtain ⟨b, u, g1, g2, _⟩ := (ok.sl q (List.mem_cons_of_mem _ y)).addr m
        have z : some (V.ref a) = q.1 := z
        rw [← z] at g1
        cases g1
        rw [hn] at g2
        cases g2
  | dic rs =>
    obtain ⟨a, vs, e1, h1, h2, h3⟩ := hk
    cases e1
    have hne : a ≠ p := fun z => by
      have ap := (List.pairwise_cons.mp r.ap).1 _ List.mem_cons_self rfl rfl
      exact ap (by rw [z])
    have hn : H a = none := by
      rcases h3 with h3 | h3
      · exact h3
      · exact absurd (by simpa using h3) hne
    refine ⟨ok1.fr, fun q hq => ?_, List.pairwise_cons.mpr ⟨fun q hq _ m z => ?_, ok1.ap⟩⟩
    · rcases List.mem_cons.mp hq with z | z
      · subst z
        exact ⟨a, vs, rfl, h1, h2, ok.fresh hn⟩
      · exact ok1.sl q z
    · rcases List.mem_cons.mp hq with y | y
      · subst y
        cases z
        exact hne rfl
      · obtain ⟨b, u, g1, g2, _⟩ := (ok.sl q (List.mem_cons_of_mem _ y)).addr m
        have z : some (V.ref a) = q.1 := z
        rw [← z] at g1
        cases g1
        rw [hn] at g2
        cases g2
  | bor rs => cases rk
  | seq rs => cases rk
  | al v => cases rk
  | dit lk us => cases rk
  | obj a C fs => cases rk
  | box p φ => cases rk
  | tab q => cases rk
theorem we_callQ {A B : Type} {need left : A → Nat} {par : A → List Ck} {pre : A → Prop} {post : A → B → Prop} {res : A → B → Sl} {e0 : XK} (hi : E[i]? = some (.box p φ))
    (h : WQ K i p tr E fun cs E1 => ∃ a φ1, E1[i]? = some (.box p φ1) ∧ (∀ vs, φ1 vs → PailOk (need a) vs) ∧ pre a ∧ Paired (Cv K) cs (par a) ∧ ∀ b, post a b → (res a b).res = true → Φ (res a b) (E1.set i (.box p (PailOk (left a))))) : WE K (tCall (spQ K need left par pre post res) [] e0 (tCons (tVar i) tr)) E Φ := fun H0 O0 σ T H hl ok Q q => by
  obtain ⟨hσ, _, _⟩ := box_slot ok hl hi
  refine ⟨.ref p, hσ, h H0 O0 σ T H hl ok _ fun cs E1 ⟨a, φ1, hb, hg, hp, hc, pp⟩ l vs H2 ok2 hv hn => ?_⟩
  show spQ K need left par pre post res ((.ref p :: vs) ++ []) H2 Q e0
  rw [List.append_nil]
  obtain ⟨_, ⟨us, h1, h2⟩, _⟩ := box_slot ok2 (by omega) hb
  refine ⟨a, hp, p, vs, rfl, ⟨us, h1, hg us h2⟩, cks_cv hv hc, hn φ1 hb, fun b v H' hpost r rk => ?_⟩
  obtain ⟨o, L, ho, ok3, back⟩ := ok2.at' (by omega) hb
  obtain ⟨e, _, _⟩ := ok3.head
  have e : o = some (.ref p) := e
  subst e
  have ok4 := Ok.resQ ok3 r rk
  have ok5 : Ok K H0 O0 H' ((some (.ref p), .box p (PailOk (left a))) :: (((some v, res a b) :: T) ++ L)) := ok4.perm (List.Perm.swap _ _ _)
  exact q _ _ (pp b hpost rk) (by simp [l]) v H' (back ((some v, res a b) :: T) _ H' ok5)
/-- the box, opened -/
theorem ws_open (hi : E[i]? = some (.box p φ)) (h : ∀ vs, φ vs → WS K ts (E.set i (.box p (· = vs))) nx rt bk ct) : WS K ts E nx rt bk ct := fun H0 O0 σ T H D hl ok n r b c => by
  obtain ⟨o, L, ho, ok3, back⟩ := ok.at' hl hi
  obtain ⟨e, ⟨us, h1, h2⟩, h3⟩ := ok3.head
  have e : o = some (.ref p) := e
  subst e
  have ok4 : Ok K H0 O0 H ((some (.ref p), .box p (· = us)) :: (T ++ L)) := ok3.chg rfl (fun _ _ _ h => h) h1 ⟨_, rfl⟩ ⟨rfl, ⟨us, h1, rfl⟩, h3⟩
  exact h us h2 H0 O0 σ T H D (by simp [hl]) (back T _ H ok4) n r b c
/-- a new list of ints is the box from now on -/
theorem ws_box {rs : List Rp} {φ : List V → Prop} (hi : E[i]? = some (.own rs)) (hφ : ∀ H vs, Vr H vs rs → φ vs) (h : ∀ p, WS K ts (E.set i (.box p φ)) nx rt bk ct) : WS K ts E nx rt bk ct := fun H0 O0 σ T H D hl ok n r b c => by
  obtain ⟨o, L, ho, ok3, back⟩ := ok.at' hl hi
  obtain ⟨a, us, e, h1, h2, h3⟩ := ok3.head
  have e : o = some (.ref a) := e
  subst e
  have ok4 : Ok K H0 O0 H ((some (.ref a), .box a φ) :: (T ++ L)) := ok3.chg rfl (fun _ _ _ h => h) h1 ⟨_, rfl⟩ ⟨rfl, ⟨us, h1, hφ H us h2⟩, h3⟩
  exact h a H0 O0 σ T H D (by simp [hl]) (back T _ H ok4) n r b c
/-- pail[n] -/
theorem we_ixBox {n : Int} {m : Nat} {a : Int} (hi : E[i]? = some (.box p (· = vs))) (hn : n = (m : Int)) (hv : vs[m]? = some (.int a)) (h : Φ (.im (rI a)) E) : WE K (tOp (rIxL K) (tVar i) (tC (.int n))) E Φ := fun H0 O0 σ T H hl ok Q q => by
  obtain ⟨hσ, ⟨us, h1, h2⟩, _⟩ := box_slot ok hl hi
  have h2 : us = vs := h2
  subst h2
  exact ⟨.ref p, hσ, p, us, n, .int a, rfl, rfl, SqL.of h1, by rw [hn]; exact atI_nat hv, q _ _ h rfl _ H (ok.im (R := rI a) rfl)⟩
/-- pail[n] = e -/
theorem ws_setBox {n : Int} {m : Nat} (hn : n = (m : Int)) (h : WE K te E fun k E1 => ∃ (a : Int) (us : List V), k = .im (rI a) ∧ E1[i]? = some (.box p (· = us)) ∧ m < us.length ∧ nx (E1.set i (.box p (· = us.set m (.int a))))) : WS K (tAsg te (gSub (tVar i) (tC (.int n)) rSetL)) E nx rt bk ct := fun H0 O0 σ T H D hl ok nn r b c =>
  h H0 O0 σ T H hl ok _ fun k E1 ⟨a, us, e, hb, hm, pp⟩ l v H2 ok2 => by
    subst e
    obtain ⟨w, e, hw⟩ := ok2.head
    cases e
    have hw : v = .int a := hw
    subst hw
    obtain ⟨o, L, ho, ok3, back⟩ := ok2.tail.at' (by omega) hb
    obtain ⟨e, ⟨us', h1, h2⟩, h3⟩ := ok3.head
    have e : o = some (.ref p) := e
    subst e
    have h2 : us' = us := h2
    subst h2
    refine ⟨.ref p, ho, ?_⟩
    refine ⟨p, us', n, m, rfl, rfl, h1, ?_, ?_⟩
    · unfold ixN
      rw [hn, if_pos (by omega), if_pos (by omega)]
      simp
    · have ok4 := ok3.chB rfl (vs := us'.set m (.int a)) (φ := (· = us'.set m (.int a))) rfl
      exact nn _ pp σ _ (by simp [l, hl]) (back T _ _ ok4)
/-! more operations on ints -/
def CPowW (i j : Int) : Prop := 0 ≤ j ∧ (Builtin.Int.intBits i : Int) * j ≤ 2 ^ 27
theorem op_powW {X : Cx} : OpR X (binaryOp .Pow) (L2.rI CPowW fun i j => .int (i ^ j.toNat)) := opI fun _ _ _ _ _ _ _ hc q => pow_int hc.1 hc.2 q
theorem kIx {X : Cx} (h : X.K = K) : IxR X (rIx K) := by subst h; exact ix_seq
theorem opc_ixS {rs : List Rp} {n : Int} {m : Nat} (hn : n = (m : Int)) (h : rs[m]? = some R) : OPC K (rIx K) (.seq rs) (.im (rI n)) (.im R) := fun H x y ⟨a, vs, h1, h2, h3⟩ e1 Q q => by
  subst h1
  have e1 : y = .int n := e1
  subst e1
  obtain ⟨v, hv, hr⟩ := h3.get h
  rcases h2 with h2 | h2
  · exact .inl ⟨a, vs, n, v, rfl, rfl, h2, by rw [hn]; exact atI_nat hv, q _ _ (res_here hr)⟩
  · exact .inr (.inl ⟨a, vs, n, v, rfl, rfl, h2, by rw [hn]; exact atI_nat hv, q _ _ (res_here hr)⟩)
abbrev rInt1 : List V → Hp → VK → Prop := fun xs H Q => (∃ i, xs = [.int i] ∧ Q (.int i) H) ∨ ∃ k, xs = [.bl k] ∧ Q (.int (if k then 1 else 0)) H
theorem cpr_int {n : Int} : CPR K rInt1 [.im (rI n)] (.im (rI n)) := fun H vs hv Q q => by
  cases hv with
  | cons h t =>
    cases t
    have h : _ = V.int n := h
    subst h
    exact .inl ⟨n, rfl, q _ _ (res_here rfl)⟩
theorem cpr_intB {b : Bool} : CPR K rInt1 [.im (rB b)] (.im (rI (if b then 1 else 0))) := fun H vs hv Q q => by
  cases hv with
  | cons h t =>
    cases t
    have h : _ = V.bl b := h
    subst h
    exact .inr ⟨b, rfl, q _ _ (res_here rfl)⟩
theorem cpr_abs {n : Int} : CPR K (fun xs H Q => ∃ i, xs = [.int i] ∧ Q (.int (if i < 0 then -i else i)) H) [.im (rI n)] (.im (rI (if n < 0 then -n else n))) := fun H vs hv Q q => by
  cases hv with
  | cons h t =>
    cases t
    have h : _ = V.int n := h
    subst h
    exact ⟨n, rfl, q _ _ (res_here rfl)⟩
theorem cpr_max2 {a b : Int} : CPR K (fun xs H Q => ∃ i j, xs = [.int i, .int j] ∧ Q (.int (if j > i then j else i)) H) [.im (rI a), .im (rI b)] (.im (rI (if b > a then b else a))) := fun H vs hv Q q => by
  cases hv with
  | cons h t =>
    cases t with
    | cons h2 t =>
      cases t
      have h : _ = V.int a := h
      have h2 : _ = V.int b := h2
      subst h h2
      exact ⟨a, b, rfl, q _ _ (res_here rfl)⟩
theorem opr_mod {a b : Int} (h : 0 < b) : OPR K (L2.rI (fun _ j => 0 < j) fun i j => .int (i % j)) (.im (rI a)) (.im (rI b)) (.im (rI (a % b))) := opr_I h fun _ => rfl
theorem opr_div {a b : Int} {n : Nat} (h : 0 < b) (hb : b < 2 ^ n) (h0 : 0 < n) (h9 : n ≤ 9000) : OPR K (L2.rI CDivW fun i j => .int (i / j)) (.im (rI a)) (.im (rI b)) (.im (rI (a / b))) := opr_I (wide_div (b := n) h (by
  obtain ⟨c, rfl⟩ := Int.eq_ofNat_of_zero_le (Int.le_of_lt h)
  rw [Int.natAbs_natCast]
  rw [two_pow_cast] at hb
  exact Int.ofNat_lt.mp hb) h0 h9) fun _ => rfl
theorem opr_mul {a b : Int} (h : CMulX a b) : OPR K (L2.rI CMulX fun i j => .int (i * j)) (.im (rI a)) (.im (rI b)) (.im (rI (a * b))) := opr_I h fun _ => rfl
theorem opr_pow {a : Int} {n : Nat} (h : CPowW a n) : OPR K (L2.rI CPowW fun i j => .int (i ^ j.toNat)) (.im (rI a)) (.im (rI (n : Int))) (.im (rI (a ^ n))) := opr_I h fun _ => by
  show V.int _ = V.int _
  rw [Int.toNat_natCast]
theorem upr_neg {a : Int} : UPR K (L2.rU fun i => .int (-i)) (.im (rI a)) (.im (rI (-a))) := fun H0 O0 H L x ok Q q => by
  obtain ⟨v, e, hv⟩ := ok.head
  cases e
  have hv : x = .int a := hv
  subst hv
  exact ⟨a, rfl, q _ H (ok.tail.im (R := rI (-a)) rfl)⟩
/-- a bound of a whole number by bits -/
theorem natAbs_lt {a : Int} {n : Nat} (h0 : 0 ≤ a) (h : a < 2 ^ n) : a.natAbs < 2 ^ n := by
  obtain ⟨c, rfl⟩ := Int.eq_ofNat_of_zero_le h0
  rw [Int.natAbs_natCast]
  rw [two_pow_cast] at h
  exact Int.ofNat_lt.mp h
theorem mul_ok {a b : Int} {m n : Nat} (ha : 0 ≤ a) (h1 : a < 2 ^ m) (hb : 0 ≤ b) (h2 : b < 2 ^ n) (h : m + n ≤ 134217728) : CMulX a b := mulx_ok (natAbs_lt ha h1) (natAbs_lt hb h2) h
end
section
variable {P : Program} {w : World} {K : PySem.W.Frag} {mg : Str → Option Value} {base : Heap}
theorem ok_startQ {H : Hp} {p : Addr} {us : List V} {m : Nat} {vs : List V} {cs : List Ck} (n : Nat) (hp : H p = some (.lst us)) (hg : PailOk m us) (h : Cks K H vs cs) (hn : ∀ v ∈ vs, v ≠ .ref p) :
    Ok K H [p] H ([] ++ ((V.ref p :: vs).map some ++ List.replicate n none).zip (Sl.box p (PailOk m) :: cs.map slOf ++ List.replicate n Sl.no)) := by
  have hz : ∀ q ∈ (vs.map some ++ List.replicate n none).zip (cs.map slOf ++ List.replicate n Sl.no), Slk K H [p] H q.1 q.2 ∧ q.2.mu = false := by
    induction h with
    | nil =>
      intro q hq
      have hq : q ∈ (List.replicate n none).zip (List.replicate n Sl.no) := hq
      obtain ⟨h1, h2⟩ := List.of_mem_zip (show (q.1, q.2) ∈ _ from hq)
      rw [List.mem_replicate] at h2
      rw [h2.2]
      exact ⟨trivial, rfl⟩
    | @cons v c vs cs a b ih =>
      intro q hq
      rcases List.mem_cons.mp hq with z | z
      · subst z
        refine ⟨?_, slOf_mu⟩
        have hv : v ≠ .ref p := hn v List.mem_cons_self
        cases c with
        | im R => exact ⟨v, rfl, a⟩
        | lst rs => obtain ⟨x, ys, h1, h2, h3⟩ := a; exact ⟨x, ys, by rw [h1], SqL.of h2, by simp; intro e; exact hv (by rw [h1, e]), h3⟩
        | bor rs => obtain ⟨x, ys, h1, h2, h3⟩ := a; exact ⟨x, ys, by rw [h1], h2, by simp; intro e; exact hv (by rw [h1, e]), h3⟩
        | seq rs =>
          obtain ⟨x, ys, h1, h2, h3⟩ := a
          refine ⟨x, ys, by rw [h1], ?_, h3⟩
          rcases h2 with h2 | h2
          · exact .inl ⟨h2, by simp; intro e; exact hv (by rw [h1, e])⟩
          · exact .inr h2
        | dic _ => trivial
      · exact ih (fun v hv => hn v (List.mem_cons_of_mem _ hv)) q z
  refine ⟨fun a o h _ => h, fun q hq => ?_, ?_⟩
  · rcases List.mem_cons.mp hq with z | z
    · subst z
      exact ⟨rfl, ⟨us, hp, hg⟩, .inr (by simp)⟩
    · exact (hz q z).1
  · refine List.pairwise_cons.mpr ⟨fun q hq _ m => ?_, List.pairwise_of_forall_mem_list ?_⟩
    · rw [(hz q hq).2] at m
      cases m
    · intro q hq q' hq' m
      rw [(hz q hq).2] at m
      cases m
theorem mk_hasQ {A B : Type} {x : Str} {st : Stmt} {N ps : List Str} {k : Nat} {f : Addr} {fd : FuncData} {need left : A → Nat} {par : A → List Ck} {pre : A → Prop} {post : A → B → Prop} {res : A → B → Sl} (d : DefAt K mg x st ps f fd) (S : FnScope N ps (defScope st)) (hl : ∀ a, (par a).length + 1 = ps.length)
    (hd : ∀ (cdv : Value) (A : Around) (outer : List Env) (s : Shared) (H : Hp) (E : XK), Room k (A.deeper (envOfC x (defScope st) s.heap.objs.size f cdv)) → ∃ t, PSs (cxOf CX0 P w K mg base N x (defScope st) f cdv A outer s H E).nox (defBody st) t ∧
      ∀ a p, pre a → WS K t (Sl.box p (PailOk (need a)) :: (par a).map slOf ++ List.replicate (N.length - ps.length) Sl.no) (fun _ => False) (fun k E' => ∃ b φ, post a b ∧ (res a b).res = true ∧ k = res a b ∧ E'[0]? = some (.box p φ) ∧ ∀ vs, φ vs → PailOk (left a) vs) (fun _ => False) (fun _ => False)) :
    Has P w K mg base x ps (k + 1) (spQ K need left par pre post res) := by
  refine ⟨f, fd, d.m, d.F.kp, d.b, d.F.ok S (fun vs H Q E h => ?_) (fun cdv A outer s H vs Q E hr h => ?_)⟩
  · obtain ⟨a, _, p, vs', e, _, hc, _⟩ := h
    rw [← hl a, e]
    simp [Paired.length hc]
  · obtain ⟨t, ht, hs⟩ := hd cdv A outer s H E hr
    refine ⟨t, ht, ?_⟩
    obtain ⟨a, hp, p, vs', e, ⟨us, h1, h2⟩, hc, hn, q⟩ := h
    subst e
    have l1 : vs'.length + 1 = ps.length := by rw [← hl a, Paired.length hc]
    have l2 := hl a
    have ok := ok_startQ (N.length - ps.length) h1 h2 hc hn
    have e : L2.start N (.ref p :: vs') = (V.ref p :: vs').map some ++ List.replicate (N.length - ps.length) none := by
      unfold L2.start
      rw [List.length_cons, l1]
    rw [e]
    refine hs a p hp H [p] _ [] H _ (by simp [Paired.length hc]) ok (fun E' z => z.elim) (fun k E' ⟨b, φ, hpost, rk, ek, hb, hg⟩ σ' v H2 ls ok2 => ?_) (fun _ z => z.elim) (fun _ z => z.elim)
    subst ek
    refine q b v H2 hpost ?_ rk
    obtain ⟨o, L, ho, ok3, back⟩ := Ok.at' (T := [(some v, res a b)]) (σ := σ') ok2 ls hb
    obtain ⟨e, ⟨us', g1, g2⟩, g3⟩ := ok3.head
    have e : o = some (.ref p) := e
    subst e
    have ok4 : Ok K H [p] H2 ((some (.ref p), .box p (PailOk (left a))) :: ([(some v, res a b)] ++ L)) := ok3.chg rfl (fun _ _ _ h => h) g1 ⟨_, rfl⟩ ⟨rfl, ⟨us', g1, hg us' g2⟩, g3⟩
    have ok5 : Ok K H [p] H2 ((some v, res a b) :: (some (.ref p), .box p (PailOk (left a))) :: L) := ok4.perm (List.Perm.swap _ _ _)
    exact ok5.sub (List.Sublist.cons_cons _ (List.Sublist.cons_cons _ (List.nil_sublist _)))
end
end Fx
set_option Elab.async false
set_option linter.all false
set_option maxRecDepth 100000
set_option maxHeartbeats 2000000
/-! words: the mathematics -/
namespace Wd
open Fx
/-- the weight -/
def pop (n : Nat) : Nat := if h : n = 0 then 0 else n % 2 + pop (n / 2)
termination_by n
theorem pop_zero : pop 0 = 0 := by unfold pop; rfl
theorem pop_step {n : Nat} (h : n ≠ 0) : pop n = n % 2 + pop (n / 2) := by rw [pop]; rw [dif_neg h]
theorem pop_eq (n : Nat) : pop n = n % 2 + pop (n / 2) := by
  by_cases h : n = 0
  · subst h; simp [pop_zero]
  · exact pop_step h
theorem pop_clear : ∀ n : Nat, n ≠ 0 → pop (n &&& (n - 1)) + 1 = pop n ∧ (n &&& (n - 1)) < n := by
  intro n
  induction n using Nat.strongRecOn with
  | _ n ih =>
    intro h
    refine ⟨?_, Nat.lt_of_le_of_lt Nat.and_le_right (by omega)⟩
    have d2 : (n &&& (n - 1)) / 2 = n / 2 &&& (n - 1) / 2 := Nat.and_div_two
    have m2 := @Nat.and_mod_two_eq_one n (n - 1)
    rw [pop_eq (n &&& (n - 1)), pop_eq n, d2]
    by_cases o : n % 2 = 1
    · have e : (n - 1) / 2 = n / 2 := by omega
      rw [e, Nat.and_self]
      omega
    · have e : (n - 1) / 2 = n / 2 - 1 := by omega
      rw [e]
      have := (ih (n / 2) (by omega) (by omega)).1
      omega
end Wd
namespace Wd
open Fx
def xsum (ws : List Nat) : Nat := ws.foldl (· ^^^ ·) 0
/-- the places with 1 -/
def placesOf (w : Nat) : List Nat := (List.range (blen w)).filter fun i => decide (w / 2 ^ i % 2 = 1)
def wordAt (ps : List Nat) : Nat := xsum (ps.map fun p => 2 ^ p)
/-- the head's place -/
def hd (w : Nat) : Nat := w.log2
theorem blen_hd {w : Nat} (h : w ≠ 0) : blen w = hd w + 1 := by unfold blen hd; rw [if_neg h]
def rem (basis : List Nat) (w : Nat) : Nat := basis.foldl (fun w r => if w ^^^ r < w then w ^^^ r else w) w
def step (rows : List Nat) (w : Nat) : List Nat :=
  if rem rows w = 0 then rows else rows.map (fun row => if row / 2 ^ hd (rem rows w) % 2 = 1 then row ^^^ rem rows w else row) ++ [rem rows w]
def rowsOf (ws : List Nat) : List Nat := ws.foldl step []
def basisOf (ws : List Nat) : List Nat := dsort (rowsOf ws)
def freeOf (n : Nat) (basis : List Nat) : List Nat := (List.range n).filter fun i => decide (i ∉ basis.map hd)
def spanOf (basis : List Nat) : List Nat := basis.foldr (fun row ws => ws ++ ws.map (· ^^^ row)) [0]
theorem step_len (rows : List Nat) (w : Nat) : (step rows w).length ≤ rows.length + 1 := by
  unfold step
  split
  · omega
  · simp
theorem rowsOf_len (ws : List Nat) : (rowsOf ws).length ≤ ws.length := by
  have h : ∀ (ws rows : List Nat), (ws.foldl step rows).length ≤ rows.length + ws.length := by
    intro ws
    induction ws with
    | nil => intro rows; simp
    | cons w ws ih =>
      intro rows
      have := ih (step rows w)
      have := step_len rows w
      simp only [List.foldl_cons, List.length_cons]
      omega
  simpa [rowsOf] using h ws []
theorem basisOf_len (ws : List Nat) : (basisOf ws).length ≤ ws.length := by
  unfold basisOf
  rw [(dsort_perm _).length_eq]
  exact rowsOf_len ws
end Wd
namespace Wd
theorem span_len : ∀ (rows : List Nat) (n : Nat), rows.length ≤ n → (rows.foldl (fun l row => l ++ l.map (· ^^^ row)) [0]).length ≤ 2 ^ n := by
  have h : ∀ (rows l : List Nat), (rows.foldl (fun l row => l ++ l.map (· ^^^ row)) l).length = l.length * 2 ^ rows.length := by
    intro rows
    induction rows with
    | nil => intro l; simp
    | cons r rows ih =>
      intro l
      rw [List.foldl_cons, ih, List.length_append, List.length_map, List.length_cons, Nat.pow_succ]
      rw [← Nat.two_mul, Nat.mul_comm 2, Nat.mul_assoc, Nat.mul_comm 2]
  intro rows n hn
  rw [h]
  simp
  exact Nat.pow_le_pow_right (by decide) hn
end Wd
set_option Elab.async false
set_option linter.all false
set_option maxRecDepth 100000
set_option maxHeartbeats 2000000
/-! words as vectors: spans, reduced rows, remainders -/
namespace Gf
open Wd Fx
theorem bit_eq (x i : Nat) : (x / 2 ^ i % 2 = 1) ↔ x.testBit i = true := by
  rw [Nat.testBit_eq_decide_div_mod_eq]
  simp
theorem bit_hd {x : Nat} (h : x ≠ 0) : x.testBit (hd x) = true := Nat.testBit_log2 h
theorem lt_hd (x : Nat) : x < 2 ^ (hd x + 1) := Nat.lt_log2_self
theorem bit_gt {x i : Nat} (h : hd x < i) : x.testBit i = false := Nat.testBit_lt_two_pow (Nat.lt_of_lt_of_le (lt_hd x) (Nat.pow_le_pow_right (by decide) h))
theorem le_hd {x i : Nat} (h : x.testBit i = true) : i ≤ hd x := by
  rcases Nat.lt_or_ge (hd x) i with z | z
  · rw [bit_gt z] at h; cases h
  · exact z
theorem hd_eq {x i : Nat} (h : x.testBit i = true) (g : ∀ j, i < j → x.testBit j = false) : hd x = i := by
  have h1 := le_hd h
  rcases Nat.lt_or_ge i (hd x) with z | z
  · have h0 : x ≠ 0 := fun e => by subst e; simp at h
    have := bit_hd h0
    rw [g _ z] at this
    cases this
  · omega
theorem ne_zero {x i : Nat} (h : x.testBit i = true) : x ≠ 0 := fun e => by subst e; simp at h
theorem xor_bit (x y i : Nat) : (x ^^^ y).testBit i = (x.testBit i ^^ y.testBit i) := Nat.testBit_xor ..
theorem xor_cancel (x y : Nat) : (x ^^^ y) ^^^ y = x := by rw [Nat.xor_assoc, Nat.xor_self, Nat.xor_zero]
theorem xor_swap (x y z : Nat) : (x ^^^ y) ^^^ z = (x ^^^ z) ^^^ y := by rw [Nat.xor_assoc, Nat.xor_comm y z, ← Nat.xor_assoc]
theorem xor_zero_eq {x y : Nat} (h : x ^^^ y = 0) : x = y := by
  have e := congrArg (· ^^^ y) h
  simpa [xor_cancel] using e
theorem lt_by_bit {x y : Nat} (i : Nat) (hx : x.testBit i = false) (hy : y.testBit i = true) (h : ∀ j, i < j → x.testBit j = y.testBit j) : x < y := by
  have e : x / 2 ^ (i + 1) = y / 2 ^ (i + 1) := by
    refine Nat.eq_of_testBit_eq fun j => ?_
    rw [Nat.testBit_div_two_pow, Nat.testBit_div_two_pow]
    exact h _ (by omega)
  have hx' : x / 2 ^ i % 2 = 0 := by
    have : ¬ (x / 2 ^ i % 2 = 1) := fun z => by
      rw [Nat.testBit_eq_decide_div_mod_eq, decide_eq_true z] at hx
      cases hx
    omega
  have hy' : y / 2 ^ i % 2 = 1 := by
    rw [Nat.testBit_eq_decide_div_mod_eq] at hy
    simpa using hy
  have e1 : x / 2 ^ i / 2 = y / 2 ^ i / 2 := by
    rw [Nat.div_div_eq_div_mul, Nat.div_div_eq_div_mul, ← Nat.pow_succ]
    exact e
  have hlt : x / 2 ^ i < y / 2 ^ i := by omega
  rcases Nat.lt_or_ge x y with z | z
  · exact z
  · have := Nat.div_le_div_right (c := 2 ^ i) z
    omega
/-- x ^ r is less just if x has the head of r -/
theorem xor_lt {x r : Nat} (hr : r ≠ 0) : x ^^^ r < x ↔ x.testBit (hd r) = true := by
  constructor
  · intro h
    cases hb : x.testBit (hd r) with
    | true => rfl
    | false =>
      exfalso
      have h2 : x < x ^^^ r := lt_by_bit (hd r) hb (by rw [xor_bit, hb, bit_hd hr]; rfl) fun j hj => by rw [xor_bit, bit_gt hj]; simp
      omega
  · intro hb
    exact lt_by_bit (hd r) (by rw [xor_bit, hb, bit_hd hr]; rfl) hb fun j hj => by rw [xor_bit, bit_gt hj]; simp

/-! spans -/
inductive Sp (ws : List Nat) : Nat → Prop
  | zero : Sp ws 0
  | add {x w : Nat} : Sp ws x → w ∈ ws → Sp ws (x ^^^ w)
theorem Sp.mem {ws : List Nat} {w : Nat} (h : w ∈ ws) : Sp ws w := by
  have := Sp.add Sp.zero h
  rwa [Nat.zero_xor] at this
theorem Sp.xor {ws : List Nat} {x y : Nat} (hx : Sp ws x) (hy : Sp ws y) : Sp ws (x ^^^ y) := by
  induction hy with
  | zero => rwa [Nat.xor_zero]
  | add _ h ih => rw [← Nat.xor_assoc]; exact .add ih h
theorem Sp.sub {ws us : List Nat} (h : ∀ w ∈ ws, Sp us w) {x : Nat} (hx : Sp ws x) : Sp us x := by
  induction hx with
  | zero => exact .zero
  | add _ hw ih => exact ih.xor (h _ hw)
theorem Sp.bits {ws : List Nat} {i : Nat} (h : ∀ w ∈ ws, w.testBit i = false) {x : Nat} (hx : Sp ws x) : x.testBit i = false := by
  induction hx with
  | zero => simp
  | add _ hw ih => rw [xor_bit, ih, h _ hw]; rfl
theorem Sp.lt {ws : List Nat} {n : Nat} (h : ∀ w ∈ ws, w < 2 ^ n) {x : Nat} (hx : Sp ws x) : x < 2 ^ n := by
  induction hx with
  | zero => exact Nat.two_pow_pos n
  | add _ hw ih => exact Nat.xor_lt_two_pow ih (h _ hw)
/-- the same span -/
def Same (ws us : List Nat) : Prop := ∀ x, Sp ws x ↔ Sp us x
theorem Same.of {ws us : List Nat} (h1 : ∀ w ∈ ws, Sp us w) (h2 : ∀ u ∈ us, Sp ws u) : Same ws us := fun x => ⟨Sp.sub h1, Sp.sub h2⟩
theorem Same.refl (ws : List Nat) : Same ws ws := fun _ => Iff.rfl
theorem Same.symm {ws us : List Nat} (h : Same ws us) : Same us ws := fun x => (h x).symm
theorem Same.trans {ws us vs : List Nat} (h : Same ws us) (g : Same us vs) : Same ws vs := fun x => (h x).trans (g x)
theorem Same.perm {ws us : List Nat} (h : ws.Perm us) : Same ws us := .of (fun w hw => .mem (h.mem_iff.mp hw)) (fun w hw => .mem (h.mem_iff.mpr hw))
theorem Same.mems {ws us : List Nat} (h : ∀ w, w ∈ ws ↔ w ∈ us) : Same ws us := .of (fun w hw => .mem ((h w).mp hw)) (fun w hw => .mem ((h w).mpr hw))

/-! reduced rows -/
structure RR (rows : List Nat) : Prop where
  nz : ∀ r ∈ rows, r ≠ 0
  pw : rows.Pairwise fun r s => s.testBit (hd r) = false ∧ r.testBit (hd s) = false
theorem RR.nil : RR [] := ⟨fun _ h => (by cases h), List.Pairwise.nil⟩
theorem RR.tail {r : Nat} {rows : List Nat} (h : RR (r :: rows)) : RR rows := ⟨fun s hs => h.nz s (List.mem_cons_of_mem _ hs), (List.pairwise_cons.mp h.pw).2⟩
theorem RR.perm {rows us : List Nat} (h : RR rows) (p : rows.Perm us) : RR us := ⟨fun r hr => h.nz r (p.mem_iff.mpr hr), (p.pairwise_iff fun ⟨a, b⟩ => ⟨b, a⟩).mp h.pw⟩
theorem RR.at {rows : List Nat} (h : RR rows) {r s : Nat} (hr : r ∈ rows) (hs : s ∈ rows) (n : r ≠ s) : s.testBit (hd r) = false := by
  have key : ∀ {l : List Nat}, l.Pairwise (fun r s => s.testBit (hd r) = false ∧ r.testBit (hd s) = false) → r ∈ l → s ∈ l → s.testBit (hd r) = false := by
    intro l
    induction l with
    | nil => intro _ h; cases h
    | cons a l ih =>
      intro p h1 h2
      obtain ⟨p1, p2⟩ := List.pairwise_cons.mp p
      rcases List.mem_cons.mp h1 with e1 | e1 <;> rcases List.mem_cons.mp h2 with e2 | e2
      · exact absurd (e1.trans e2.symm) n
      · subst e1; exact (p1 _ e2).1
      · subst e2; exact (p1 _ e1).2
      · exact ih p2 e1 e2
  exact key h.pw hr hs
theorem RR.nodup {rows : List Nat} (h : RR rows) : rows.Nodup := by
  have : ∀ {l : List Nat}, (∀ r ∈ l, r ≠ 0) → l.Pairwise (fun r s => s.testBit (hd r) = false ∧ r.testBit (hd s) = false) → l.Nodup := by
    intro l
    induction l with
    | nil => intro _ _; exact List.nodup_nil
    | cons a l ih =>
      intro h1 p
      obtain ⟨p1, p2⟩ := List.pairwise_cons.mp p
      refine List.nodup_cons.mpr ⟨fun hm => ?_, ih (fun r hr => h1 r (List.mem_cons_of_mem _ hr)) p2⟩
      have := (p1 a hm).1
      rw [bit_hd (h1 a List.mem_cons_self)] at this
      cases this
  exact this h.nz h.pw
theorem RR.hd_inj {rows : List Nat} (h : RR rows) {r s : Nat} (hr : r ∈ rows) (hs : s ∈ rows) (e : hd r = hd s) : r = s := by
  by_cases n : r = s
  · exact n
  · have := h.at hr hs n
    rw [e, bit_hd (h.nz s hs)] at this
    cases this
/-- a word of the span without a head's bit is 0 -/
theorem RR.zero : ∀ {rows : List Nat}, RR rows → ∀ {y : Nat}, Sp rows y → (∀ r ∈ rows, y.testBit (hd r) = false) → y = 0
  | [], _, y, hy, _ => by
    cases hy with
    | zero => rfl
    | add _ h => cases h
  | r :: rows, h, y, hy, hb => by
    have split : ∀ {z : Nat}, Sp (r :: rows) z → Sp rows z ∨ Sp rows (z ^^^ r) := by
      intro z hz
      induction hz with
      | zero => exact .inl .zero
      | @add x w _ hw ih =>
        rcases List.mem_cons.mp hw with e | e
        · subst e
          rcases ih with ih | ih
          · exact .inr (by rw [xor_cancel]; exact ih)
          · exact .inl ih
        · rcases ih with ih | ih
          · exact .inl (ih.add e)
          · exact .inr (by rw [xor_swap]; exact ih.add e)
    obtain ⟨p1, p2⟩ := List.pairwise_cons.mp h.pw
    rcases split hy with z | z
    · exact RR.zero h.tail z fun s hs => hb s (List.mem_cons_of_mem _ hs)
    · exfalso
      have e : y ^^^ r = 0 := RR.zero h.tail z fun s hs => by
        rw [xor_bit, hb s (List.mem_cons_of_mem _ hs), (p1 s hs).2]
        rfl
      have e := xor_zero_eq e
      subst e
      have := hb y List.mem_cons_self
      rw [bit_hd (h.nz y List.mem_cons_self)] at this
      cases this

/-! remainders -/
/-- one row -/
def red (w r : Nat) : Nat := if w ^^^ r < w then w ^^^ r else w
theorem rem_eq (rows : List Nat) (w : Nat) : rem rows w = rows.foldl red w := rfl
theorem red_bit {w r : Nat} (hr : r ≠ 0) : red w r = if w.testBit (hd r) = true then w ^^^ r else w := by
  unfold red
  by_cases h : w.testBit (hd r) = true
  · rw [if_pos h, if_pos ((xor_lt hr).mpr h)]
  · rw [if_neg h, if_neg fun z => h ((xor_lt hr).mp z)]
theorem rem_span : ∀ (rows : List Nat) (w : Nat), Sp rows (w ^^^ rem rows w)
  | [], w => by rw [rem_eq]; simp; exact .zero
  | r :: rows, w => by
    have ih := rem_span rows (red w r)
    have e : rem (r :: rows) w = rem rows (red w r) := rfl
    rw [e]
    have h1 : Sp (r :: rows) (red w r ^^^ rem rows (red w r)) := ih.sub fun s hs => .mem (List.mem_cons_of_mem _ hs)
    have h2 : Sp (r :: rows) (w ^^^ red w r) := by
      unfold red
      split
      · have : w ^^^ (w ^^^ r) = r := by rw [← Nat.xor_assoc, Nat.xor_self, Nat.zero_xor]
        rw [this]
        exact .mem List.mem_cons_self
      · rw [Nat.xor_self]; exact .zero
    have h3 := h2.xor h1
    rw [← Nat.xor_assoc, xor_cancel] at h3
    exact h3
theorem rem_keep {i : Nat} : ∀ {rows : List Nat} {w : Nat}, (∀ r ∈ rows, r.testBit i = false) → (rem rows w).testBit i = w.testBit i
  | [], w, _ => rfl
  | r :: rows, w, h => by
    have e : rem (r :: rows) w = rem rows (red w r) := rfl
    rw [e, rem_keep fun s hs => h s (List.mem_cons_of_mem _ hs)]
    unfold red
    split
    · rw [xor_bit, h r List.mem_cons_self]; simp
    · rfl
/-- no head's bit is left -/
theorem rem_heads : ∀ {rows : List Nat}, RR rows → ∀ {w r : Nat}, r ∈ rows → (rem rows w).testBit (hd r) = false
  | [], _, _, _, h => by cases h
  | s :: rows, h, w, r, hr => by
    obtain ⟨p1, p2⟩ := List.pairwise_cons.mp h.pw
    have e : rem (s :: rows) w = rem rows (red w s) := rfl
    rw [e]
    rcases List.mem_cons.mp hr with z | z
    · subst z
      rw [rem_keep fun t ht => (p1 t ht).1, red_bit (h.nz r List.mem_cons_self)]
      split
      · rename_i hb
        rw [xor_bit, hb, bit_hd (h.nz r List.mem_cons_self)]
        rfl
      · rename_i hb
        simpa using hb
    · exact rem_heads h.tail z
theorem rem_uniq {rows : List Nat} (h : RR rows) {x y : Nat} (hy : ∀ r ∈ rows, y.testBit (hd r) = false) (hs : Sp rows (x ^^^ y)) : rem rows x = y := by
  refine xor_zero_eq (h.zero (y := rem rows x ^^^ y) ?_ fun r hr => ?_)
  · have h1 := (rem_span rows x).xor hs
    have e : x ^^^ rem rows x ^^^ (x ^^^ y) = rem rows x ^^^ y := by
      rw [Nat.xor_comm x (rem rows x), Nat.xor_assoc, ← Nat.xor_assoc x x y, Nat.xor_self, Nat.zero_xor]
    rwa [e] at h1
  · rw [xor_bit, rem_heads h hr, hy r hr]
    rfl
theorem rem_eq_iff {rows : List Nat} (h : RR rows) {x y : Nat} : rem rows x = rem rows y ↔ Sp rows (x ^^^ y) := by
  constructor
  · intro e
    have h1 := (rem_span rows x).xor (rem_span rows y)
    rw [e] at h1
    have : x ^^^ rem rows y ^^^ (y ^^^ rem rows y) = x ^^^ y := by
      rw [Nat.xor_comm y, ← Nat.xor_assoc, xor_cancel]
    rwa [this] at h1
  · intro hs
    refine rem_uniq h (fun r hr => rem_heads h hr) ?_
    have h1 := hs.xor (rem_span rows y)
    rwa [Nat.xor_assoc, ← Nat.xor_assoc y y, Nat.xor_self, Nat.zero_xor] at h1
theorem rem_zero_iff {rows : List Nat} (h : RR rows) {x : Nat} : rem rows x = 0 ↔ Sp rows x := by
  have h0 : rem rows 0 = 0 := rem_uniq h (fun r _ => by simp) (by simp; exact .zero)
  have := rem_eq_iff h (x := x) (y := 0)
  rw [h0, Nat.xor_zero] at this
  exact this
/-- the top place of a word of the span is a head -/
theorem RR.top {rows : List Nat} (h : RR rows) {x : Nat} (hx : Sp rows x) (h0 : x ≠ 0) : ∃ r ∈ rows, hd r = hd x := by
  by_cases hex : ∃ r ∈ rows, hd r = hd x
  · exact hex
  · exfalso
    have key : ∀ {l : List Nat}, (∀ r ∈ l, r ≠ 0) → (∀ r ∈ l, hd r ≠ hd x) → ∀ w, w.testBit (hd x) = true → (∀ j, hd x < j → w.testBit j = false) → (rem l w).testBit (hd x) = true := by
      intro l
      induction l with
      | nil => intro _ _ w h1 _; exact h1
      | cons r l ih =>
        intro hz hn w h1 h2
        have e : rem (r :: l) w = rem l (red w r) := rfl
        rw [e]
        have hr0 := hz r List.mem_cons_self
        have hrn := hn r List.mem_cons_self
        refine ih (fun s hs => hz s (List.mem_cons_of_mem _ hs)) (fun s hs => hn s (List.mem_cons_of_mem _ hs)) _ ?_ ?_
        · rw [red_bit hr0]
          split
          · rename_i hb
            have hlt : hd r < hd x := by
              rcases Nat.lt_or_ge (hd x) (hd r) with z | z
              · rw [h2 _ z] at hb; cases hb
              · omega
            rw [xor_bit, h1, bit_gt hlt]
            rfl
          · exact h1
        · intro j hj
          rw [red_bit hr0]
          split
          · rename_i hb
            have hlt : hd r < hd x := by
              rcases Nat.lt_or_ge (hd x) (hd r) with z | z
              · rw [h2 _ z] at hb; cases hb
              · omega
            rw [xor_bit, h2 j hj, bit_gt (by omega)]
            rfl
          · exact h2 j hj
    have hr : (rem rows x).testBit (hd x) = true := key h.nz (fun r hr e => hex ⟨r, hr, e⟩) x (bit_hd h0) fun j hj => bit_gt hj
    rw [(rem_zero_iff h).mpr hx] at hr
    simp at hr
/-- reduced rows of one span are the same words -/
theorem RR.same_mem {A B : List Nat} (hA : RR A) (hB : RR B) (h : Same A B) {r : Nat} (hr : r ∈ A) : r ∈ B := by
  obtain ⟨s, hs, e⟩ := hB.top ((h r).mp (.mem hr)) (hA.nz r hr)
  have key : r ^^^ s = 0 := hB.zero (((h r).mp (.mem hr)).xor (.mem hs)) fun t ht => by
    by_cases z : t = s
    · subst z
      rw [xor_bit, e, bit_hd (hA.nz r hr), ← e, bit_hd (hB.nz t ht)]
      rfl
    · -- the head of t is a head of A, of another row than r
      obtain ⟨u, hu, eu⟩ := hA.top ((h t).mpr (.mem ht)) (hB.nz t ht)
      have hur : u ≠ r := fun y => z (hB.hd_inj ht hs (by rw [← eu, y, e]))
      rw [xor_bit, ← eu, hA.at hu hr hur, eu, hB.at ht hs z]
      rfl
  rw [xor_zero_eq key]
  exact hs
theorem RR.perm_of {A B : List Nat} (hA : RR A) (hB : RR B) (h : Same A B) : A.Perm B :=
  (List.perm_ext_iff_of_nodup hA.nodup hB.nodup).mpr fun r => ⟨hA.same_mem hB h, hB.same_mem hA h.symm⟩

/-! the basis -/
theorem hd_xor {row rest : Nat} (h0 : rest ≠ 0) (h1 : rest.testBit (hd row) = false) (h2 : row.testBit (hd rest) = true) : hd (row ^^^ rest) = hd row ∧ hd rest < hd row := by
  have hle := le_hd h2
  have hlt : hd rest < hd row := by
    rcases Nat.lt_or_ge (hd rest) (hd row) with z | z
    · exact z
    · have e : hd rest = hd row := by omega
      rw [← e, bit_hd h0] at h1
      cases h1
  refine ⟨hd_eq ?_ fun j hj => ?_, hlt⟩
  · rw [xor_bit, bit_hd (ne_zero h2), h1]; rfl
  · rw [xor_bit, bit_gt hj, bit_gt (by omega)]; rfl
/-- rest taken out of a row -/
def outOf (rest row : Nat) : Nat := if row / 2 ^ hd rest % 2 = 1 then row ^^^ rest else row
theorem outOf_bit {rest row : Nat} (h0 : rest ≠ 0) : (outOf rest row).testBit (hd rest) = false := by
  unfold outOf
  split
  · rename_i h
    rw [xor_bit, (bit_eq _ _).mp h, bit_hd h0]; rfl
  · rename_i h
    have : ¬ row.testBit (hd rest) = true := fun z => h ((bit_eq _ _).mpr z)
    simpa using this
theorem outOf_keep {rest row i : Nat} (h : rest.testBit i = false) : (outOf rest row).testBit i = row.testBit i := by
  unfold outOf
  split
  · rw [xor_bit, h]; simp
  · rfl
theorem outOf_hd {rest row : Nat} (h0 : rest ≠ 0) (h1 : rest.testBit (hd row) = false) : hd (outOf rest row) = hd row := by
  unfold outOf
  split
  · rename_i h
    exact (hd_xor h0 h1 ((bit_eq _ _).mp h)).1
  · rfl
theorem step_rr {rows : List Nat} {w : Nat} (h : RR rows) : RR (step rows w) ∧ Same (step rows w) (w :: rows) := by
  unfold step
  by_cases h0 : rem rows w = 0
  · rw [if_pos h0]
    refine ⟨h, .of (fun r hr => .mem (List.mem_cons_of_mem _ hr)) fun r hr => ?_⟩
    rcases List.mem_cons.mp hr with z | z
    · subst z; exact (rem_zero_iff h).mp h0
    · exact .mem z
  · rw [if_neg h0]
    have hb : ∀ r ∈ rows, (rem rows w).testBit (hd r) = false := fun r hr => rem_heads h hr
    have hspan := rem_span rows w
    generalize hrest : rem rows w = rest at h0 hb hspan
    have em : (rows.map fun row => if row / 2 ^ hd rest % 2 = 1 then row ^^^ rest else row) = rows.map (outOf rest) := rfl
    rw [em]
    refine ⟨⟨fun r hr => ?_, ?_⟩, .of (fun r hr => ?_) fun r hr => ?_⟩
    · rcases List.mem_append.mp hr with z | z
      · obtain ⟨s, hs, e⟩ := List.mem_map.mp z
        subst e
        refine ne_zero (i := hd s) ?_
        rw [outOf_keep (hb s hs), bit_hd (h.nz s hs)]
      · have z : r = rest := by simpa using z
        rw [z]; exact h0
    · rw [List.pairwise_append]
      refine ⟨?_, by simp, fun a ha b hb' => ?_⟩
      · rw [List.pairwise_map]
        refine (List.Pairwise.and_mem.mp h.pw).imp fun ⟨ha, hb2, p1, p2⟩ => ?_
        rw [outOf_hd h0 (hb _ ha), outOf_hd h0 (hb _ hb2), outOf_keep (hb _ ha), outOf_keep (hb _ hb2)]
        exact ⟨p1, p2⟩
      · have e : b = rest := by simpa using hb'
        subst e
        obtain ⟨s, hs, e⟩ := List.mem_map.mp ha
        subst e
        rw [outOf_hd h0 (hb s hs)]
        exact ⟨hb s hs, outOf_bit h0⟩
    · have hr' : Sp (w :: rows) rest := by
        have h1 : Sp (w :: rows) (w ^^^ rest) := hspan.sub fun s hs => .mem (List.mem_cons_of_mem _ hs)
        have h2 := (Sp.mem (ws := w :: rows) List.mem_cons_self).xor h1
        rwa [← Nat.xor_assoc, Nat.xor_self, Nat.zero_xor] at h2
      rcases List.mem_append.mp hr with z | z
      · obtain ⟨s, hs, e⟩ := List.mem_map.mp z
        subst e
        unfold outOf
        split
        · exact (Sp.mem (List.mem_cons_of_mem _ hs)).xor hr'
        · exact .mem (List.mem_cons_of_mem _ hs)
      · have z : r = rest := by simpa using z
        rw [z]; exact hr'
    · have hrest' : Sp (rows.map (outOf rest) ++ [rest]) rest := .mem (by simp)
      have hrow : ∀ s ∈ rows, Sp (rows.map (outOf rest) ++ [rest]) s := fun s hs => by
        have h1 : Sp (rows.map (outOf rest) ++ [rest]) (outOf rest s) := .mem (List.mem_append_left _ (List.mem_map.mpr ⟨s, hs, rfl⟩))
        unfold outOf at h1
        split at h1
        · have := h1.xor hrest'
          rwa [xor_cancel] at this
        · exact h1
      rcases List.mem_cons.mp hr with z | z
      · subst z
        have h1 := (hspan.sub hrow).xor hrest'
        rwa [xor_cancel] at h1
      · exact hrow r z
theorem rowsOf_rr (ws : List Nat) : RR (rowsOf ws) ∧ Same (rowsOf ws) ws := by
  have key : ∀ (ws rows : List Nat), RR rows → RR (ws.foldl step rows) ∧ Same (ws.foldl step rows) (ws ++ rows) := by
    intro ws
    induction ws with
    | nil => intro rows h; exact ⟨h, .refl _⟩
    | cons w ws ih =>
      intro rows h
      obtain ⟨h1, h2⟩ := step_rr (w := w) h
      obtain ⟨h3, h4⟩ := ih _ h1
      refine ⟨h3, h4.trans (.of (fun r hr => ?_) fun r hr => ?_)⟩
      · rcases List.mem_append.mp hr with z | z
        · exact .mem (List.mem_append_left _ (List.mem_cons_of_mem _ z))
        · refine ((h2 r).mp (.mem z)).sub fun s hs => .mem ?_
          rcases List.mem_cons.mp hs with y | y
          · subst y; simp
          · exact List.mem_append_right _ y
      · have hin : ∀ s, s ∈ w :: rows → Sp (ws ++ step rows w) s := fun s hs => ((h2 s).mpr (.mem hs)).sub fun t ht => .mem (List.mem_append_right _ ht)
        rcases List.mem_append.mp hr with z | z
        · rcases List.mem_cons.mp z with y | y
          · exact hin r (by rw [y]; exact List.mem_cons_self)
          · exact .mem (List.mem_append_left _ y)
        · exact hin r (List.mem_cons_of_mem _ z)
  have := key ws [] RR.nil
  rw [List.append_nil] at this
  exact this
theorem basisOf_rr (ws : List Nat) : RR (basisOf ws) := (rowsOf_rr ws).1.perm (dsort_perm _).symm
theorem basisOf_same (ws : List Nat) : Same (basisOf ws) ws := (Same.perm (dsort_perm _)).trans (rowsOf_rr ws).2
/-- ONE basis -/
theorem basis_uniq {B ws : List Nat} (h : RR B) (o : B.Pairwise (· ≥ ·)) (s : Same B ws) : B = basisOf ws := by
  have p : B.Perm (rowsOf ws) := h.perm_of (rowsOf_rr ws).1 (s.trans (rowsOf_rr ws).2.symm)
  exact dsort_uniq p o
theorem basisOf_congr {ws us : List Nat} (h : Same ws us) : basisOf ws = basisOf us := basis_uniq (basisOf_rr ws) (dsort_ord _) ((basisOf_same ws).trans h)
theorem basisOf_idem (ws : List Nat) : basisOf (basisOf ws) = basisOf ws := basisOf_congr (basisOf_same ws)
theorem basisOf_lt {ws : List Nat} {n : Nat} (h : ∀ w ∈ ws, w < 2 ^ n) {r : Nat} (hr : r ∈ basisOf ws) : r < 2 ^ n := Sp.lt h ((basisOf_same ws r).mp (.mem hr))
end Gf
theorem Wd.basisOf_pos {ws : List Nat} {r : Nat} (h : r ∈ Wd.basisOf ws) : r ≠ 0 := (Gf.basisOf_rr ws).nz r h
set_option Elab.async false
set_option linter.all false
set_option maxRecDepth 100000
set_option maxHeartbeats 2000000
/-! a basis by a dict of heads -/
namespace Lb
open Wd Fx Gf
abbrev M := List (Nat × Nat)
def getM (m : M) (k : Nat) : Option Nat := (m.find? fun p => decide (p.1 = k)).map (·.2)
def putM (m : M) (k v : Nat) : M := if (m.any fun p => decide (p.1 = k)) = true then m.map (fun p => if p.1 = k then (p.1, v) else p) else m ++ [(k, v)]
def keys (m : M) : List Nat := m.map (·.1)
def vals (m : M) : List Nat := m.map (·.2)
theorem get_cons {p : Nat × Nat} {m : M} {k : Nat} : getM (p :: m) k = if p.1 = k then some p.2 else getM m k := by
  unfold getM
  rw [List.find?_cons]
  by_cases h : p.1 = k
  · rw [if_pos h, decide_eq_true h]; rfl
  · rw [if_neg h, decide_eq_false h]
theorem get_some {m : M} {k v : Nat} (h : getM m k = some v) : (k, v) ∈ m := by
  induction m with
  | nil => cases h
  | cons p m ih =>
    rw [get_cons] at h
    split at h
    · rename_i e
      cases h
      subst e
      exact List.mem_cons_self
    · exact List.mem_cons_of_mem _ (ih h)
theorem get_mem {m : M} {k v : Nat} (nd : (keys m).Nodup) (h : (k, v) ∈ m) : getM m k = some v := by
  induction m with
  | nil => cases h
  | cons p m ih =>
    have nd' := List.nodup_cons.mp (show ((p.1 :: keys m)).Nodup from nd)
    rw [get_cons]
    rcases List.mem_cons.mp h with e | e
    · subst e; rw [if_pos rfl]
    · rw [if_neg fun z => nd'.1 (by rw [z]; exact List.mem_map.mpr ⟨(k, v), e, rfl⟩)]
      exact ih nd'.2 e
theorem get_none {m : M} {k : Nat} : getM m k = none ↔ k ∉ keys m := by
  induction m with
  | nil => simp [getM, keys]
  | cons p m ih =>
    rw [get_cons]
    show _ ↔ k ∉ p.1 :: keys m
    rw [List.mem_cons, not_or]
    by_cases h : p.1 = k
    · rw [if_pos h]; simp [h]
    · rw [if_neg h, ih]
      exact ⟨fun z => ⟨fun e => h e.symm, z⟩, fun z => z.2⟩
theorem get_key {m : M} {k : Nat} (h : k ∈ keys m) : ∃ v, getM m k = some v := by
  cases e : getM m k with
  | none => exact absurd h (get_none.mp e)
  | some v => exact ⟨v, rfl⟩
theorem any_key {m : M} {k : Nat} : (m.any fun p => decide (p.1 = k)) = true ↔ k ∈ keys m := by
  rw [List.any_eq_true]
  constructor
  · rintro ⟨p, hp, e⟩
    exact List.mem_map.mpr ⟨p, hp, by simpa using e⟩
  · intro h
    obtain ⟨p, hp, e⟩ := List.mem_map.mp h
    exact ⟨p, hp, by simpa using e⟩
theorem keys_put {m : M} {k v : Nat} : keys (putM m k v) = if k ∈ keys m then keys m else keys m ++ [k] := by
  unfold putM
  by_cases h : k ∈ keys m
  · rw [if_pos (any_key.mpr h), if_pos h]
    unfold keys
    rw [List.map_map]
    refine List.map_congr_left fun p _ => ?_
    show (if p.1 = k then (p.1, v) else p).1 = p.1
    split <;> rfl
  · rw [if_neg fun z => h (any_key.mp z), if_neg h]
    unfold keys
    rw [List.map_append]
    rfl
theorem get_map {m : M} {k v k' : Nat} : getM (m.map fun p => if p.1 = k then (p.1, v) else p) k' = if k' = k then (getM m k').map (fun _ => v) else getM m k' := by
  induction m with
  | nil => split <;> rfl
  | cons p m ih =>
    rw [List.map_cons, get_cons, get_cons, ih]
    by_cases h1 : p.1 = k
    · rw [if_pos h1]
      by_cases h2 : p.1 = k'
      · have e : k' = k := h2.symm.trans h1
        rw [if_pos h2, if_pos h2, if_pos e]; rfl
      · rw [if_neg h2, if_neg h2]
    · rw [if_neg h1]
      by_cases h2 : p.1 = k'
      · rw [if_pos h2, if_pos h2, if_neg fun e => h1 (h2.trans e)]
      · rw [if_neg h2, if_neg h2]
theorem get_app {m : M} {k v k' : Nat} : getM (m ++ [(k, v)]) k' = match getM m k' with
    | some x => some x
    | none => if k = k' then some v else none := by
  induction m with
  | nil =>
    show getM [(k, v)] k' = _
    rw [get_cons]
    rfl
  | cons p m ih =>
    rw [List.cons_append, get_cons, get_cons, ih]
    by_cases h : p.1 = k'
    · rw [if_pos h, if_pos h]
    · rw [if_neg h, if_neg h]
theorem get_put {m : M} {k v k' : Nat} : getM (putM m k v) k' = if k' = k then some v else getM m k' := by
  unfold putM
  by_cases h : k ∈ keys m
  · rw [if_pos (any_key.mpr h), get_map]
    by_cases e : k' = k
    · rw [if_pos e, if_pos e, e]
      obtain ⟨x, hx⟩ := get_key h
      rw [hx]; rfl
    · rw [if_neg e, if_neg e]
  · rw [if_neg fun z => h (any_key.mp z), get_app]
    by_cases e : k' = k
    · rw [if_pos e, e, get_none.mpr h]
      simp
    · rw [if_neg e]
      cases hg : getM m k' with
      | some x => rfl
      | none => simp; exact fun z => e z.symm
theorem mem_vals {m : M} (nd : (keys m).Nodup) {v : Nat} : v ∈ vals m ↔ ∃ k, getM m k = some v := by
  constructor
  · intro h
    obtain ⟨p, hp, e⟩ := List.mem_map.mp h
    exact ⟨p.1, get_mem nd (by rw [← e]; exact hp)⟩
  · rintro ⟨k, h⟩
    exact List.mem_map.mpr ⟨_, get_some h, rfl⟩
structure Held (m : M) : Prop where
  nd : (keys m).Nodup
  ok : ∀ k v, getM m k = some v → v ≠ 0 ∧ hd v = k
theorem nd_put {m : M} {k v : Nat} (nd : (keys m).Nodup) : (keys (putM m k v)).Nodup := by
  rw [keys_put]
  split
  · exact nd
  · rename_i h
    rw [List.nodup_append]
    exact ⟨nd, by simp, fun a ha b hb e => h (by have : b = k := by simpa using hb
                                                 rw [← this, ← e]; exact ha)⟩
/-! the first walk -/
def redD (m : M) (w : Nat) : Nat := if w = 0 then 0 else match getM m (hd w) with
  | none => w
  | some r => if h : w ^^^ r < w then redD m (w ^^^ r) else w
termination_by w
def insD (m : M) (w : Nat) : M := if redD m w = 0 then m else putM m (hd (redD m w)) (redD m w)
theorem redD_step {m : M} {w r : Nat} (h : Held m) (h0 : w ≠ 0) (g : getM m (hd w) = some r) : w ^^^ r < w ∧ redD m w = redD m (w ^^^ r) := by
  obtain ⟨r0, re⟩ := h.ok _ _ g
  have hl : w ^^^ r < w := (xor_lt r0).mpr (by rw [re]; exact bit_hd h0)
  refine ⟨hl, ?_⟩
  conv => lhs; rw [redD]
  rw [if_neg h0, g]
  simp only
  rw [dif_pos hl]
theorem redD_stop {m : M} {w : Nat} (g : w = 0 ∨ getM m (hd w) = none) : redD m w = w := by
  rw [redD]
  rcases g with g | g
  · rw [if_pos g]; exact g.symm
  · split
    · rename_i z; exact z.symm
    · rw [g]
theorem redD_spec {m : M} (h : Held m) : ∀ w : Nat, Sp (vals m) (w ^^^ redD m w) ∧ (redD m w ≠ 0 → hd (redD m w) ∉ keys m) := by
  intro w
  induction w using Nat.strongRecOn with
  | _ w ih =>
    by_cases h0 : w = 0
    · rw [redD_stop (.inl h0)]
      exact ⟨by rw [Nat.xor_self]; exact .zero, fun z => absurd h0 z⟩
    · cases g : getM m (hd w) with
      | none =>
        rw [redD_stop (.inr g)]
        exact ⟨by rw [Nat.xor_self]; exact .zero, fun _ => get_none.mp g⟩
      | some r =>
        obtain ⟨hl, e⟩ := redD_step h h0 g
        rw [e]
        obtain ⟨h1, h2⟩ := ih _ hl
        refine ⟨?_, h2⟩
        have hr : Sp (vals m) r := .mem ((mem_vals h.nd).mpr ⟨_, g⟩)
        have := h1.xor hr
        rwa [xor_swap, xor_cancel] at this
theorem insD_spec {m : M} (h : Held m) (w : Nat) : Held (insD m w) ∧ Same (vals (insD m w)) (w :: vals m) := by
  obtain ⟨h1, h2⟩ := redD_spec h w
  unfold insD
  by_cases h0 : redD m w = 0
  · rw [if_pos h0]
    rw [h0, Nat.xor_zero] at h1
    exact ⟨h, .of (fun x hx => .mem (List.mem_cons_of_mem _ hx)) fun x hx => by
      rcases List.mem_cons.mp hx with e | e
      · subst e; exact h1
      · exact .mem e⟩
  · rw [if_neg h0]
    have hk := h2 h0
    generalize redD m w = r at h0 hk h1
    have nd := nd_put (v := r) (k := hd r) h.nd
    refine ⟨⟨nd, fun k v g => ?_⟩, .of (fun x hx => ?_) fun x hx => ?_⟩
    · rw [get_put] at g
      split at g
      · rename_i e
        cases g
        exact ⟨h0, e.symm⟩
      · exact h.ok k v g
    · obtain ⟨k, g⟩ := (mem_vals nd).mp hx
      rw [get_put] at g
      split at g
      · cases g
        have a : Sp (w :: vals m) (w ^^^ r) := h1.sub fun y hy => .mem (List.mem_cons_of_mem _ hy)
        have b := (Sp.mem (ws := w :: vals m) List.mem_cons_self).xor a
        rwa [← Nat.xor_assoc, Nat.xor_self, Nat.zero_xor] at b
      · exact .mem (List.mem_cons_of_mem _ ((mem_vals h.nd).mpr ⟨k, g⟩))
    · have old : ∀ y, y ∈ vals m → Sp (vals (putM m (hd r) r)) y := fun y hy => by
        obtain ⟨k, g⟩ := (mem_vals h.nd).mp hy
        refine .mem ((mem_vals nd).mpr ⟨k, ?_⟩)
        rw [get_put, if_neg fun e => hk (by rw [← e]; exact List.mem_map.mpr ⟨_, get_some g, rfl⟩)]
        exact g
      have hr : Sp (vals (putM m (hd r) r)) r := .mem ((mem_vals nd).mpr ⟨hd r, by rw [get_put, if_pos rfl]⟩)
      rcases List.mem_cons.mp hx with e | e
      · subst e
        have := (h1.sub old).xor hr
        rwa [xor_cancel] at this
      · exact old x e
theorem held_nil : Held [] := ⟨List.nodup_nil, fun k v h => by cases h⟩
theorem walk1 (ws : List Nat) : Held (ws.foldl insD []) ∧ Same (vals (ws.foldl insD [])) ws := by
  have key : ∀ (ws : List Nat) (m : M), Held m → Held (ws.foldl insD m) ∧ Same (vals (ws.foldl insD m)) (ws ++ vals m) := by
    intro ws
    induction ws with
    | nil => intro m h; exact ⟨h, .refl _⟩
    | cons w ws ih =>
      intro m h
      obtain ⟨h1, h2⟩ := insD_spec h w
      obtain ⟨h3, h4⟩ := ih _ h1
      refine ⟨h3, h4.trans (.of (fun r hr => ?_) fun r hr => ?_)⟩
      · rcases List.mem_append.mp hr with z | z
        · exact .mem (List.mem_append_left _ (List.mem_cons_of_mem _ z))
        · refine ((h2 r).mp (.mem z)).sub fun s hs => .mem ?_
          rcases List.mem_cons.mp hs with y | y
          · subst y; simp
          · exact List.mem_append_right _ y
      · have hin : ∀ s, s ∈ w :: vals m → Sp (ws ++ vals (insD m w)) s := fun s hs => ((h2 s).mpr (.mem hs)).sub fun t ht => .mem (List.mem_append_right _ ht)
        rcases List.mem_append.mp hr with z | z
        · rcases List.mem_cons.mp z with y | y
          · exact hin r (by rw [y]; exact List.mem_cons_self)
          · exact .mem (List.mem_append_left _ y)
        · exact hin r (List.mem_cons_of_mem _ z)
  have := key ws [] held_nil
  rw [show vals [] = [] from rfl, List.append_nil] at this
  exact this
theorem insD_len (m : M) (w : Nat) : (insD m w).length ≤ m.length + 1 := by
  unfold insD
  split
  · omega
  · unfold putM
    split <;> simp
/-! the second walk -/
def valAt (m : M) (k : Nat) : Nat := (getM m k).getD 0
def oneD (place : Nat) (m : M) (higher : Nat) : M := if place < higher ∧ valAt m higher / 2 ^ place % 2 = 1 then putM m higher (valAt m higher ^^^ valAt m place) else m
def sweepD (ks : List Nat) (m : M) (place : Nat) : M := ks.foldl (oneD place) m
/-- bits at these places are gone from all higher rows -/
def Gone (m : M) (p : Nat) : Prop := ∀ k v, getM m k = some v → p < k → v.testBit p = false
theorem valAt_of {m : M} {k v : Nat} (h : getM m k = some v) : valAt m k = v := by unfold valAt; rw [h]; rfl
theorem oneD_spec {m : M} {place higher : Nat} (h : Held m) (hp : place ∈ keys m) (hh : higher ∈ keys m) :
    Held (oneD place m higher) ∧ keys (oneD place m higher) = keys m ∧ Same (vals (oneD place m higher)) (vals m) ∧ (∀ p, p ∈ keys m → p < place → Gone m p → Gone (oneD place m higher) p) ∧
    (∀ k, k ≠ higher → getM (oneD place m higher) k = getM m k) ∧ (∀ v, place < higher → getM (oneD place m higher) higher = some v → v.testBit place = false) := by
  unfold oneD
  obtain ⟨a, ga⟩ := get_key hh
  obtain ⟨b, gb⟩ := get_key hp
  rw [valAt_of ga, valAt_of gb]
  by_cases hc : place < higher ∧ a / 2 ^ place % 2 = 1
  · rw [if_pos hc]
    obtain ⟨hlt, hbit⟩ := hc
    have hbit := (bit_eq _ _).mp hbit
    obtain ⟨a0, ea⟩ := h.ok _ _ ga
    obtain ⟨b0, eb⟩ := h.ok _ _ gb
    have nd := nd_put (k := higher) (v := a ^^^ b) h.nd
    have ek : keys (putM m higher (a ^^^ b)) = keys m := by rw [keys_put, if_pos hh]
    have hne : place ≠ higher := by omega
    have top : hd (a ^^^ b) = higher := hd_eq (by rw [xor_bit, ← ea, bit_hd a0, bit_gt (by omega)]; rfl) fun j hj => by rw [xor_bit, bit_gt (by omega), bit_gt (by omega)]; rfl
    have tb : (a ^^^ b).testBit higher = true := by rw [xor_bit, ← ea, bit_hd a0, bit_gt (by omega)]; rfl
    refine ⟨⟨nd, fun k v g => ?_⟩, ek, .of (fun x hx => ?_) fun x hx => ?_, fun p hpk hpl hg k v g hk => ?_, fun k hk => ?_, fun v _ g => ?_⟩
    · rw [get_put] at g
      split at g
      · rename_i e
        cases g
        exact ⟨ne_zero tb, by rw [top, e]⟩
      · exact h.ok k v g
    · obtain ⟨k, g⟩ := (mem_vals nd).mp hx
      rw [get_put] at g
      split at g
      · cases g
        exact (Sp.mem ((mem_vals h.nd).mpr ⟨_, ga⟩)).xor (.mem ((mem_vals h.nd).mpr ⟨_, gb⟩))
      · exact .mem ((mem_vals h.nd).mpr ⟨k, g⟩)
    · obtain ⟨k, g⟩ := (mem_vals h.nd).mp hx
      by_cases e : k = higher
      · rw [e, ga] at g
        cases g
        have h1 : Sp (vals (putM m higher (a ^^^ b))) (a ^^^ b) := .mem ((mem_vals nd).mpr ⟨higher, by rw [get_put, if_pos rfl]⟩)
        have h2 : Sp (vals (putM m higher (a ^^^ b))) b := .mem ((mem_vals nd).mpr ⟨place, by rw [get_put, if_neg hne]; exact gb⟩)
        have := h1.xor h2
        rwa [xor_cancel] at this
      · exact .mem ((mem_vals nd).mpr ⟨k, by rw [get_put, if_neg e]; exact g⟩)
    · rw [get_put] at g
      split at g
      · cases g
        rw [xor_bit, hg _ _ ga (by omega), hg _ _ gb hpl]
        rfl
      · exact hg k v g hk
    · rw [get_put, if_neg hk]
    · rw [get_put, if_pos rfl] at g
      cases g
      rw [xor_bit, hbit, ← eb, bit_hd b0]
      rfl
  · rw [if_neg hc]
    refine ⟨h, rfl, .refl _, fun p _ _ hg => hg, fun _ _ => rfl, fun v hlt g => ?_⟩
    rw [ga] at g
    cases g
    have : ¬ a.testBit place = true := fun z => hc ⟨hlt, (bit_eq _ _).mpr z⟩
    simpa using this
theorem sweep_spec {ks : List Nat} {m : M} {place : Nat} (h : Held m) (hp : place ∈ keys m) (hks : ∀ k, k ∈ ks ↔ k ∈ keys m) (nd : ks.Nodup) :
    Held (sweepD ks m place) ∧ keys (sweepD ks m place) = keys m ∧ Same (vals (sweepD ks m place)) (vals m) ∧ (∀ p, p ∈ keys m → p < place → Gone m p → Gone (sweepD ks m place) p) ∧ Gone (sweepD ks m place) place := by
  have key : ∀ (done todo : List Nat) (m' : M), ks = done ++ todo → Held m' → keys m' = keys m → Same (vals m') (vals m) → (∀ p, p ∈ keys m → p < place → Gone m p → Gone m' p) → (∀ k, k ∈ done → place < k → ∀ v, getM m' k = some v → v.testBit place = false) →
      Held (todo.foldl (oneD place) m') ∧ keys (todo.foldl (oneD place) m') = keys m ∧ Same (vals (todo.foldl (oneD place) m')) (vals m) ∧ (∀ p, p ∈ keys m → p < place → Gone m p → Gone (todo.foldl (oneD place) m') p) ∧ (∀ k, k ∈ ks → place < k → ∀ v, getM (todo.foldl (oneD place) m') k = some v → v.testBit place = false) := by
    intro done todo
    induction todo generalizing done with
    | nil =>
      intro m' e h1 h2 h3 h4 h5
      rw [List.append_nil] at e
      subst e
      exact ⟨h1, h2, h3, h4, h5⟩
    | cons x todo ih =>
      intro m' e h1 h2 h3 h4 h5
      have hx : x ∈ keys m' := by rw [h2]; exact (hks x).mp (by rw [e]; simp)
      have hpk : place ∈ keys m' := by rw [h2]; exact hp
      obtain ⟨o1, o2, o3, o4, o5, o6⟩ := oneD_spec h1 hpk hx
      refine ih (done ++ [x]) _ (by rw [e]; simp) o1 (o2.trans h2) (o3.trans h3) (fun p hpk' hlt hg => o4 p (by rw [h2]; exact hpk') hlt (h4 p hpk' hlt hg)) fun k hk hlt v g => ?_
      by_cases ex : k = x
      · subst ex
        exact o6 v hlt g
      · rw [o5 k ex] at g
        rcases List.mem_append.mp hk with z | z
        · exact h5 k z hlt v g
        · exact absurd (by simpa using z) ex
  obtain ⟨h1, h2, h3, h4, h5⟩ := key [] ks m rfl h rfl (.refl _) (fun _ _ _ hg => hg) (fun _ hk => by cases hk)
  refine ⟨h1, h2, h3, h4, fun k v g hlt => h5 k ?_ hlt v g⟩
  rw [hks, ← h2]
  exact List.mem_map.mpr ⟨_, get_some g, rfl⟩
theorem walk2 {ks : List Nat} {m : M} (h : Held m) (hks : ∀ k, k ∈ ks ↔ k ∈ keys m) (o : ks.Pairwise (· < ·)) :
    Held (ks.foldl (sweepD ks) m) ∧ keys (ks.foldl (sweepD ks) m) = keys m ∧ Same (vals (ks.foldl (sweepD ks) m)) (vals m) ∧ ∀ p, p ∈ keys m → Gone (ks.foldl (sweepD ks) m) p := by
  have nd : ks.Nodup := o.imp fun h => Nat.ne_of_lt h
  have key : ∀ (done todo : List Nat) (m' : M), ks = done ++ todo → Held m' → keys m' = keys m → Same (vals m') (vals m) → (∀ p, p ∈ done → Gone m' p) →
      Held (todo.foldl (sweepD ks) m') ∧ keys (todo.foldl (sweepD ks) m') = keys m ∧ Same (vals (todo.foldl (sweepD ks) m')) (vals m) ∧ ∀ p, p ∈ ks → Gone (todo.foldl (sweepD ks) m') p := by
    intro done todo
    induction todo generalizing done with
    | nil =>
      intro m' e h1 h2 h3 h4
      rw [List.append_nil] at e
      subst e
      exact ⟨h1, h2, h3, h4⟩
    | cons x todo ih =>
      intro m' e h1 h2 h3 h4
      have hx : x ∈ keys m' := by rw [h2]; exact (hks x).mp (by rw [e]; simp)
      obtain ⟨s1, s2, s3, s4, s5⟩ := sweep_spec h1 hx (fun k => by rw [h2]; exact hks k) nd
      refine ih (done ++ [x]) _ (by rw [e]; simp) s1 (s2.trans h2) (s3.trans h3) fun p hp => ?_
      rcases List.mem_append.mp hp with z | z
      · have hlt : p < x := by
          rw [e] at o
          exact (List.pairwise_append.mp o).2.2 p z x List.mem_cons_self
        exact s4 p (by rw [h2]; exact (hks p).mp (by rw [e]; exact List.mem_append_left _ z)) hlt (h4 p z)
      · have z : p = x := by simpa using z
        subst z
        exact s5
  obtain ⟨h1, h2, h3, h4⟩ := key [] ks m rfl h rfl (.refl _) fun _ hp => by cases hp
  exact ⟨h1, h2, h3, fun p hp => h4 p ((hks p).mpr hp)⟩
theorem asort_lt {l : List Nat} (nd : l.Nodup) : (asort l).Pairwise (· < ·) := by
  have h1 := asort_ord l
  have h2 : (asort l).Nodup := (asort_perm l).nodup_iff.mpr nd
  exact (h1.and h2).imp fun ⟨a, b⟩ => Nat.lt_of_le_of_ne a b
def sweepAll (m : M) : M := (asort (keys m)).foldl (sweepD (asort (keys m))) m
def finD (m : M) : List Nat := ((asort (keys m)).map (valAt m)).reverse
def lawBasis (ws : List Nat) : List Nat := finD (sweepAll (ws.foldl insD []))
theorem lawBasis_eq (ws : List Nat) : lawBasis ws = basisOf ws := by
  unfold lawBasis
  obtain ⟨h1, h2⟩ := walk1 ws
  generalize ws.foldl insD [] = m at h1 h2
  have hks : ∀ k, k ∈ asort (keys m) ↔ k ∈ keys m := fun k => (asort_perm _).mem_iff
  obtain ⟨g1, g2, g3, g4⟩ := walk2 h1 hks (asort_lt h1.nd)
  show finD ((asort (keys m)).foldl (sweepD (asort (keys m))) m) = basisOf ws
  generalize hm2 : (asort (keys m)).foldl (sweepD (asort (keys m))) m = m2 at g1 g2 g3 g4
  unfold finD
  have hk2 : ∀ k, k ∈ asort (keys m2) ↔ k ∈ keys m2 := fun k => (asort_perm _).mem_iff
  have hval : ∀ k, k ∈ keys m2 → getM m2 k = some (valAt m2 k) ∧ valAt m2 k ≠ 0 ∧ hd (valAt m2 k) = k := fun k hk => by
    obtain ⟨v, hv⟩ := get_key hk
    rw [valAt_of hv]
    exact ⟨hv, g1.ok k v hv⟩
  have hbit : ∀ k p, k ∈ keys m2 → p ∈ keys m2 → k ≠ p → (valAt m2 k).testBit p = false := fun k p hk hp n => by
    obtain ⟨a, b, c⟩ := hval k hk
    rcases Nat.lt_or_gt_of_ne n with z | z
    · exact bit_gt (by omega)
    · exact g4 p (by rw [← g2]; exact hp) k _ a z
  have olt := asort_lt g1.nd
  refine basis_uniq ⟨fun r hr => ?_, ?_⟩ ?_ ?_
  · obtain ⟨k, hk, e⟩ := List.mem_map.mp (List.mem_reverse.mp hr)
    rw [← e]
    exact (hval k ((hk2 k).mp hk)).2.1
  · rw [List.pairwise_reverse, List.pairwise_map]
    refine (List.Pairwise.and_mem.mp olt).imp fun {a b} hab => ?_
    obtain ⟨ha, hb, hlt⟩ := hab
    have ka := (hk2 _).mp ha
    have kb := (hk2 _).mp hb
    rw [(hval _ ka).2.2, (hval _ kb).2.2]
    exact ⟨hbit _ _ ka kb (by omega), hbit _ _ kb ka (by omega)⟩
  · rw [List.pairwise_reverse, List.pairwise_map]
    refine (List.Pairwise.and_mem.mp olt).imp fun {a b} hab => ?_
    obtain ⟨ha, hb, hlt⟩ := hab
    have ka := hval _ ((hk2 _).mp ha)
    have kb := hval _ ((hk2 _).mp hb)
    have l1 := lt_hd (valAt m2 a)
    have l2 : 2 ^ hd (valAt m2 b) ≤ valAt m2 b := Nat.log2_self_le kb.2.1
    rw [ka.2.2] at l1
    rw [kb.2.2] at l2
    have l3 : 2 ^ (a + 1) ≤ 2 ^ b := Nat.pow_le_pow_right (by decide) hlt
    show valAt m2 b ≥ valAt m2 a
    omega
  · refine Same.trans ?_ (g3.trans h2)
    refine Same.mems fun v => ?_
    rw [List.mem_reverse]
    constructor
    · intro h
      obtain ⟨k, hk, e⟩ := List.mem_map.mp h
      exact (mem_vals g1.nd).mpr ⟨k, by rw [← e]; exact (hval k ((hk2 k).mp hk)).1⟩
    · intro h
      obtain ⟨k, g⟩ := (mem_vals g1.nd).mp h
      exact List.mem_map.mpr ⟨k, (hk2 k).mpr (List.mem_map.mpr ⟨_, get_some g, rfl⟩), valAt_of g⟩
end Lb
set_option Elab.async false
set_option linter.all false
set_option maxRecDepth 100000
set_option maxHeartbeats 2000000
/-! dicts from naturals to naturals -/
namespace Fx
open PySem L2 PyProof.Rows Lb
def dk (m : M) : List (Key × Rp) := m.map fun p => (Sum.inl (p.1 : Int), rN p.2)
theorem kvr_dk {H : Hp} : ∀ {us : List (Key × V)} {m : M}, Kvr H us (dk m) → us = m.map fun p => ((Sum.inl (p.1 : Int) : Key), V.int (p.2 : Int))
  | _, [], .nil => rfl
  | (k, v) :: us, p :: m, .cons h t => by
    rw [kvr_dk t]
    obtain ⟨h1, h2⟩ := h
    have h1 : k = Sum.inl (p.1 : Int) := h1
    have h2 : v = .int (p.2 : Int) := h2
    rw [h1, h2]
    rfl
theorem dk_kvr {H : Hp} : ∀ {m : M}, Kvr H (m.map fun p => ((Sum.inl (p.1 : Int) : Key), V.int (p.2 : Int))) (dk m)
  | [] => .nil
  | _ :: _ => .cons ⟨rfl, rfl⟩ dk_kvr
theorem inl_eq {a b : Nat} : ((Sum.inl (a : Int) : Key) = Sum.inl (b : Int)) ↔ a = b := ⟨fun h => by have := Sum.inl.inj h; omega, fun h => by rw [h]⟩
theorem valV_dk (m : M) (k : Nat) : valV (m.map fun p => ((Sum.inl (p.1 : Int) : Key), V.int (p.2 : Int))) (Sum.inl (k : Int)) = (getM m k).map (fun (v : Nat) => V.int (v : Int)) := by
  induction m with
  | nil => rfl
  | cons p m ih =>
    rw [List.map_cons, get_cons]
    by_cases h : p.1 = k
    · rw [if_pos h, valV_pos (by show (Sum.inl (p.1 : Int) : Key) = _; rw [h])]
      rfl
    · rw [if_neg h, ← ih]
      unfold valV
      rw [List.find?_cons, decide_eq_false (fun z => h (inl_eq.mp z))]
theorem putK_dk (m : M) (k v : Nat) : putK (m.map fun p => ((Sum.inl (p.1 : Int) : Key), V.int (p.2 : Int))) (Sum.inl (k : Int)) (.int (v : Int)) = (putM m k v).map fun p => ((Sum.inl (p.1 : Int) : Key), V.int (p.2 : Int)) := by
  unfold putK putM
  have e : ((m.map fun p => ((Sum.inl (p.1 : Int) : Key), V.int (p.2 : Int))).any fun kv => decide (kv.1 = Sum.inl (k : Int))) = (m.any fun p => decide (p.1 = k)) := by
    rw [List.any_map]
    congr 1
    funext p
    show decide ((Sum.inl (p.1 : Int) : Key) = Sum.inl (k : Int)) = decide (p.1 = k)
    exact decide_eq_decide.mpr inl_eq
  rw [e]
  split
  · rw [List.map_map, List.map_map]
    refine List.map_congr_left fun p _ => ?_
    show (if (Sum.inl (p.1 : Int) : Key) = Sum.inl (k : Int) then ((Sum.inl (p.1 : Int) : Key), V.int (v : Int)) else ((Sum.inl (p.1 : Int) : Key), V.int (p.2 : Int))) = _
    by_cases h : p.1 = k
    · rw [if_pos (inl_eq.mpr h)]
      simp [h]
    · rw [if_neg fun z => h (inl_eq.mp z)]
      simp [h]
  · rw [List.map_append]
    rfl
section
variable {K : PySem.W.Frag} {E : List Sl} {te ty tv : TE} {Φ : Sl → List Sl → Prop} {R : Rp} {i j : Nat} {nx : List Sl → Prop} {rt : Sl → List Sl → Prop} {bk ct : List Sl → Prop}
theorem we_dnew (p : Φ (.dic (dk [])) E) : WE K tDNewK E Φ := fun H0 O0 σ T H hl ok Q q => fun a ha => q _ E p rfl _ _ (ok.gotD (upd_keep ha) ha upd_same .nil)
theorem dic_slot {H0 : Hp} {O0 : List Addr} {H : Hp} {T : List (Option V × Sl)} {σ : L2.St} {m : M} (ok : Ok K H0 O0 H (T ++ σ.zip E)) (hl : σ.length = E.length) (h : E[i]? = some (.dic (dk m))) :
    ∃ a, σ[i]? = some (some (.ref a)) ∧ H a = some (.dK (m.map fun p => ((Sum.inl (p.1 : Int) : Key), V.int (p.2 : Int)))) := by
  obtain ⟨o, h1, h2⟩ := zip_get hl h
  obtain ⟨a, us, e, h3, h4, _⟩ := ok.sl _ (List.mem_append_right _ h2)
  have e : o = some (.ref a) := e
  subst e
  have e2 := kvr_dk h4
  subst e2
  exact ⟨a, h1, h3⟩
theorem we_din (h : WE K ty E fun k1 E1 => ∃ (n : Nat) (m : M), k1 = .im (rN n) ∧ E1[i]? = some (.dic (dk m)) ∧ Φ (.im (rB (getM m n).isSome)) E1) : WE K (tDIn ty (tVar i)) E Φ := fun H0 O0 σ T H hl ok Q q =>
  h H0 O0 σ T H hl ok _ fun k1 E1 ⟨n, m, e, hd, p⟩ l v H2 ok2 => by
    subst e
    obtain ⟨w, e, hw⟩ := ok2.head
    cases e
    have hw : v = .int (n : Int) := hw
    subst hw
    obtain ⟨a, h1, h2⟩ := dic_slot ok2.tail (by omega) hd
    have g : DGet H2 a (kV (Sum.inl (n : Int))) (valV _ (Sum.inl (n : Int))) := DGet.k h2
    rw [valV_dk] at g
    refine ⟨.ref a, h1, a, _, rfl, g, q _ E1 p l _ H2 (ok2.tail.im (R := rB (getM m n).isSome) ?_)⟩
    show V.bl _ = V.bl _
    rw [Option.isSome_map]
theorem we_dget (m0 : M) (hi : E[i]? = some (.dic (dk m0))) (h : WE K ty E fun k1 E1 => ∃ (n v : Nat) (m : M), k1 = .im (rN n) ∧ E1[i]? = some (.dic (dk m)) ∧ getM m n = some v ∧ Φ (.im (rN v)) E1) : WE K (tDGet (tVar i) ty) E Φ := fun H0 O0 σ T H hl ok Q q => by
  obtain ⟨a, h1, _⟩ := dic_slot ok hl hi
  refine ⟨.ref a, h1, h H0 O0 σ T H hl ok _ fun k1 E1 ⟨n, v, m, e, hd, hg, p⟩ l y H2 ok2 => ?_⟩
  subst e
  obtain ⟨w, e, hw⟩ := ok2.head
  cases e
  have hw : y = .int (n : Int) := hw
  subst hw
  obtain ⟨a', h3, h4⟩ := dic_slot ok2.tail (by omega) hd
  rw [h1] at h3
  cases h3
  have g : DGet H2 a (kV (Sum.inl (n : Int))) (valV _ (Sum.inl (n : Int))) := DGet.k h4
  rw [valV_dk, hg] at g
  exact ⟨a, _, rfl, g, q _ E1 p l _ H2 (ok2.tail.im (R := rN v) rfl)⟩
theorem ws_dput (h : WE K tv E fun kv E1 => ∃ v : Nat, kv = .im (rN v) ∧ (∃ m0, E1[i]? = some (.dic (dk m0))) ∧ WE K ty E1 fun k1 E2 => ∃ (n : Nat) (m : M), k1 = .im (rN n) ∧ E2[i]? = some (.dic (dk m)) ∧ m.length < sizeLine ∧ nx (E2.set i (.dic (dk (putM m n v))))) :
    WS K (sDPut (tVar i) ty tv) E nx rt bk ct := fun H0 O0 σ T H D hl ok nn r b c =>
  h H0 O0 σ T H hl ok _ fun kv E1 ⟨v, e, ⟨m0, h0⟩, h1⟩ l x H1 ok1 => by
    subst e
    obtain ⟨a, ha, _⟩ := dic_slot ok1.tail (by omega) h0
    obtain ⟨w, e, hw⟩ := ok1.head
    cases e
    have hw : x = .int (v : Int) := hw
    subst hw
    refine ⟨.ref a, ha, h1 H0 O0 σ T H1 (by omega) ok1.tail _ fun k1 E2 ⟨n, m, e, hd, hz, p⟩ l2 y H2 ok2 => ?_⟩
    subst e
    obtain ⟨w, e, hw⟩ := ok2.head
    cases e
    have hw : y = .int (n : Int) := hw
    subst hw
    obtain ⟨o, L, ho, ok3, back⟩ := ok2.tail.at' (by omega) hd
    obtain ⟨a', us, e, h3, h4, _⟩ := ok3.head
    have e : o = some (.ref a') := e
    subst e
    rw [ha] at ho
    cases ho
    have e2 := kvr_dk h4
    subst e2
    have pt := DPut.k (k := Sum.inl (n : Int)) (v := .int (v : Int)) h3 (by rw [List.length_map]; exact hz)
    rw [putK_dk] at pt
    refine ⟨a, _, rfl, pt, nn _ p σ _ (by simp [l, l2, hl]) (back T _ _ (ok3.chD rfl dk_kvr))⟩
abbrev rSortedD : List V → Hp → VK → Prop := fun xs H Q => ∃ (a : Addr) (kvs : List (Key × V)) (ks : List Int), xs = [.ref a] ∧ Rd H a (.dK kvs) ∧ kvs.map (·.1) = ks.map Sum.inl ∧ ks.length < 64 ∧
    ∀ (ys : List Int) (p : Addr), ys.Perm ks → ys.Pairwise (· ≤ ·) → H p = none → Q (.ref p) (upd H p (.lst (ys.map V.int)))
theorem cpr_sortedD {m : M} (hz : m.length < 64) : CPR K rSortedD [.dic (dk m)] (.own ((asort (keys m)).map rN)) := fun H vs hv Q q => by
  cases hv with
  | cons h t =>
    cases t
    obtain ⟨a, us, h1, h2, h3⟩ := h
    subst h1
    have e2 := kvr_dk h3
    subst e2
    refine ⟨a, _, castL (keys m), rfl, .inl h2, by unfold castL keys; rw [List.map_map, List.map_map, List.map_map]; rfl, by unfold keys; rw [List.length_map, List.length_map]; exact hz, fun ys p hp ho hn => ?_⟩
    obtain ⟨us', e⟩ := cast_back hp
    subst e
    have e3 : us' = asort (keys m) := by
      refine asort_uniq (cast_perm hp) ?_
      rw [List.pairwise_map] at ho
      exact ho.imp fun h => by omega
    rw [e3]
    exact q _ _ (res_newL hn Vr.of_nats)
end
end Fx
set_option Elab.async false
set_option linter.all false
set_option maxRecDepth 100000
set_option maxHeartbeats 2000000
/-! more rules: backward lists, items put and popped, deep equality, the least one -/
namespace Fx
open PySem L2 PyProof.Rows
section
variable {K : PySem.W.Frag} {E : List Sl} {te ta : TE} {Φ : Sl → List Sl → Prop} {R : Rp} {i j s : Nat} {nx : List Sl → Prop} {rt : Sl → List Sl → Prop} {bk ct : List Sl → Prop} {rs ss : List Rp}
theorem we_revL (h : WE K te E fun k E1 => ∃ rs, k = .own rs ∧ Φ (.own rs.reverse) E1) : WE K (tRevL K te) E Φ := fun H0 O0 σ T H hl ok Q q =>
  h H0 O0 σ T H hl ok _ fun k E1 ⟨rs, e, p⟩ l v H2 ok2 => by
    subst e
    obtain ⟨a, us, e, h2, h3, _⟩ := ok2.head
    cases e
    exact ⟨a, us, rfl, SqL.of h2, fun p' hp => q _ E1 p l _ _ (ok2.tail.newL hp h3.rev)⟩
theorem ixN_nat {n m : Nat} (h : m < n) : ixN n (m : Int) = some m := by
  unfold ixN
  rw [if_pos (by omega), if_pos (by omega)]
  simp
/-- found[at] = e -/
theorem ws_setL (h : WE K te E fun k E1 => ∃ (R : Rp) (rs : List Rp) (m : Nat), k = .im R ∧ E1[i]? = some (.own rs) ∧ E1[s]? = some (.im (rN m)) ∧ m < rs.length ∧ nx (E1.set i (.own (rs.set m R)))) : WS K (tAsg te (gSub (tVar i) (tVar s) rSetL)) E nx rt bk ct := fun H0 O0 σ T H D hl ok nn r b c =>
  h H0 O0 σ T H hl ok _ fun k E1 ⟨R, rs, m, e, hb, hs, hm, pp⟩ l v H2 ok2 => by
    subst e
    obtain ⟨w, e, hw⟩ := ok2.head
    cases e
    obtain ⟨o, L, ho, ok3, back⟩ := ok2.tail.at' (by omega) hb
    obtain ⟨a, us, e, h1, h2, h3⟩ := ok3.head
    have e : o = some (.ref a) := e
    subst e
    obtain ⟨o2, g1, g2⟩ := zip_get (by omega : σ.length = E1.length) hs
    obtain ⟨x, e, hx⟩ := ok2.tail.sl _ (List.mem_append_right _ g2)
    have e : o2 = some x := e
    subst e
    have hx : x = .int (m : Int) := hx
    subst hx
    refine ⟨.ref a, ho, .int (m : Int), g1, a, us, (m : Int), m, rfl, rfl, h1, ixN_nat (by rw [h2.len]; exact hm), ?_⟩
    exact nn _ pp σ _ (by simp [l, hl]) (back T _ _ (ok3.chL rfl (Vr.set hw m h2)))
/-- left.pop(n) -/
theorem we_popAt (hi : E[i]? = some (.own rs)) (h : WE K ta E fun k E1 => ∃ (n : Nat) (R : Rp) (ss : List Rp), k = .im (rN n) ∧ E1[i]? = some (.own ss) ∧ ss[n]? = some R ∧ n < 2 ^ 62 ∧ Φ (.im R) (E1.set i (.own (ss.eraseIdx n)))) : WE K (tBM K "list" rPopAt (tVar i) (tCons ta tNil)) E Φ := fun H0 O0 σ T H hl ok Q q => by
  obtain ⟨o, L, ho, ok1, _⟩ := ok.at hl hi
  obtain ⟨a, us, e, h2, _⟩ := ok1.head
  subst e
  refine ⟨.ref a, ho, Or.inl ⟨rfl, _, Or.inl (Or.inl h2)⟩, h H0 O0 σ T H hl ok _ fun k E1 ⟨n, R, ss, e, h1, hR, hn, p⟩ l v H2 ok2 => ?_⟩
  subst e
  obtain ⟨w, e, hw⟩ := ok2.head
  cases e
  have hw : v = .int (n : Int) := hw
  subst hw
  obtain ⟨o', L', ho', ok3, back⟩ := ok2.tail.at' (by omega) h1
  obtain ⟨a', us', e, h3, h4, _⟩ := ok3.head
  have e : o' = some (.ref a') := e
  subst e
  rw [ho] at ho'
  cases ho'
  obtain ⟨x, hx, hr⟩ := h4.get hR
  have hlt : n < us'.length := (List.getElem?_eq_some_iff.mp hx).1
  refine ⟨a, us', (n : Int), n, x, rfl, rfl, h3, by omega, by omega, ?_, hx, ?_⟩
  · have c1 : ¬ ((n : Int) < 0) := by omega
    simp only [seqIndex?, if_neg c1]
    rw [if_pos (by rw [Bool.and_eq_true]; exact ⟨decide_eq_true (by omega), decide_eq_true (by omega)⟩)]
    simp
  · have ok4 := ok3.chL rfl (h4.era n)
    have ok5 := (back T _ _ ok4).im (R := R) (v := x) (Rp.st _ (Im.mut h3 rfl sk_lst) hr)
    exact q _ _ p (by simp [l]) x _ ok5
theorem kPopAt {X : Cx} {pos apos : Pos} {o e : Expr} {es : List Expr} {to : TE} {t : TA} (h : X.K = K) (ho : PE X o to) (ha : PA X (e :: es) t)
    (hbase : attributeBase o "pop" X.env (eval o X.env) = eval o X.env := by rfl)
    (hfew : ((backTo pos (starEach (e :: es) X.env)).all (fun x => !x.1) && (backToKw pos (keywordEach [] X.env)).all (fun x => x.1.isSome)
      && decide ((e :: es).length + ([] : List Keyword).length + (if ([] : List Keyword).isEmpty then 0 else 1) < 30)) = true := by rfl)
    (hline : (apos.endLine == pos.line) = true := by rfl) (hs : starEach (e :: es) X.env = (false, eval e X.env) :: starEach es X.env := by rfl) (hplain : (backTo pos (starEach es X.env)).any (·.1) = false := by rfl) :
    PE X (.Call (.Attribute o "pop" apos) (e :: es) [] pos) (tBM K "list" rPopAt to t) := by subst h; exact pe_bm PySem.F.plainAttrs_list PySem.F.slot_list_pop PySem.F.type_list_pop mt_popAt ho ha hbase hfew hline hs hplain
/-! deep equality -/
def DpR (K : PySem.W.Frag) (R : Rp) (d : PyData) : Prop := ∀ v H, R.r v H → Dp K H v d
theorem dp_I {n : Int} : DpR K (rI n) (.int n) := fun v H h => by have h : v = _ := h; subst h; exact .int _
theorem dp_B {b : Bool} : DpR K (rB b) (.bool b) := fun v H h => by have h : v = _ := h; subst h; exact .bl _
theorem dp_S {x : Str} : DpR K (rS x) (.str x) := fun v H h => by have h : v = _ := h; subst h; exact .str _
theorem dp_U : DpR K rU .none := fun v H h => by have h : v = _ := h; subst h; exact .non
theorem dpAll_of {H : Hp} : ∀ {vs : List V} {rs : List Rp} {ds : List PyData}, Vr H vs rs → Paired (DpR K) rs ds → DpAll K H vs ds
  | _, _, _, .nil, .nil => .nil
  | _, _, _, .cons h t, .cons p q => .cons (p _ _ h) (dpAll_of t q)
theorem dp_T {ds : List PyData} (h : Paired (DpR K) rs ds) : DpR K (rT K rs) (.tuple ds) := fun v H ⟨a, vs, h1, h2, h3⟩ => by
  subst h1
  exact .tup (SqT.of h2) (dpAll_of h3 h)
def nd (ws : List Nat) : List PyData := ws.map fun (n : Nat) => .int (n : Int)
theorem dp_nd : ∀ {ws : List Nat}, Paired (DpR K) (ws.map rN) (nd ws)
  | [] => .nil
  | _ :: _ => .cons dp_I dp_nd
theorem dp_bd : ∀ {bs : List Bool}, Paired (DpR K) (bs.map rB) (bs.map .bool)
  | [] => .nil
  | _ :: _ => .cons dp_B dp_bd
def DpC (K : PySem.W.Frag) (c : Ck) (d : PyData) : Prop := ∀ H v, Ckk K H v c → Dp K H v d
theorem dpc_im {d : PyData} (h : DpR K R d) : DpC K (.im R) d := fun H v hv => h v H hv
theorem dpc_lst {ds : List PyData} (h : Paired (DpR K) rs ds) : DpC K (.lst rs) (.list ds) := fun H v ⟨a, vs, h1, h2, h3⟩ => by
  subst h1
  exact .lst (SqL.of h2) (dpAll_of h3 h)
theorem opc_eqD {c1 c2 : Ck} {d e : PyData} (h1 : DpC K c1 d) (h2 : DpC K c2 e) (s1 : SeqAt.shaped d = true) (s2 : SeqAt.shaped e = true) : OPC K (rEqD K) c1 c2 (.im (rB (PyData.eqv d e))) := fun H x y a b Q q => ⟨d, e, h1 _ _ a, h2 _ _ b, s1, s2, q _ _ (res_here rfl)⟩
theorem opc_neD {c1 c2 : Ck} {d e : PyData} (h1 : DpC K c1 d) (h2 : DpC K c2 e) (s1 : SeqAt.shaped d = true) (s2 : SeqAt.shaped e = true) : OPC K (rNeD K) c1 c2 (.im (rB (!PyData.eqv d e))) := fun H x y a b Q q => ⟨d, e, h1 _ _ a, h2 _ _ b, s1, s2, q _ _ (res_here rfl)⟩
theorem opc_eqS {c1 c2 : Ck} {d : PyData} (h1 : DpC K c1 d) (h2 : DpC K c2 d) (s : SeqAt.shaped d = true) : OPC K (rEqD K) c1 c2 (.im (rB true)) := by
  have h := opc_eqD h1 h2 s s
  rw [SeqAt.eqv_refl d (SeqAt.canLay_of_shaped s)] at h
  exact h
theorem opc_neS {c1 c2 : Ck} {d : PyData} (h1 : DpC K c1 d) (h2 : DpC K c2 d) (s : SeqAt.shaped d = true) : OPC K (rNeD K) c1 c2 (.im (rB false)) := by
  have h := opc_neD h1 h2 s s
  rw [SeqAt.eqv_refl d (SeqAt.canLay_of_shaped s)] at h
  exact h
theorem lay_nd : ∀ ws : List Nat, PyData.canLayAll0 (nd ws) = true
  | [] => by simp [nd, PyData.canLayAll0]
  | w :: ws => by
    have h := lay_nd ws
    show PyData.canLayAll0 (.int (w : Int) :: nd ws) = true
    rw [PyData.canLayAll0, h]
    simp [PyData.canLay0]
theorem dep_nd : ∀ ws : List Nat, PyData.depthAll (nd ws) ≤ 2
  | [] => by simp [nd, PyData.depthAll]
  | w :: ws => by
    have h := dep_nd ws
    show PyData.depthAll (.int (w : Int) :: nd ws) ≤ 2
    rw [PyData.depthAll]
    simp only [PyData.depth]
    omega
theorem lay_bd : ∀ ws : List Bool, PyData.canLayAll0 (ws.map .bool) = true
  | [] => by simp [PyData.canLayAll0]
  | w :: ws => by
    have h := lay_bd ws
    rw [List.map_cons, PyData.canLayAll0, h]
    simp [PyData.canLay0]
theorem dep_bd : ∀ ws : List Bool, PyData.depthAll (ws.map .bool) ≤ 2
  | [] => by simp [PyData.depthAll]
  | w :: ws => by
    have h := dep_bd ws
    rw [List.map_cons, PyData.depthAll]
    simp only [PyData.depth]
    omega
theorem sh_list {ds : List PyData} (h1 : PyData.canLayAll0 ds = true) (h2 : PyData.depthAll ds ≤ 2) : SeqAt.shaped (.list ds) = true := by
  show (PyData.canLay0 (.list ds) && decide (PyData.depth (.list ds) ≤ 64)) = true
  rw [Bool.and_eq_true]
  refine ⟨by simp only [PyData.canLay0]; exact h1, decide_eq_true ?_⟩
  simp only [PyData.depth]
  omega
theorem sh_tup {ds : List PyData} (h1 : PyData.canLayAll0 ds = true) (h2 : PyData.depthAll ds ≤ 2) : SeqAt.shaped (.tuple ds) = true := by
  show (PyData.canLay0 (.tuple ds) && decide (PyData.depth (.tuple ds) ≤ 64)) = true
  rw [Bool.and_eq_true]
  refine ⟨by simp only [PyData.canLay0]; exact h1, decide_eq_true ?_⟩
  simp only [PyData.depth]
  omega
theorem sh_tn {ws : List Nat} : SeqAt.shaped (.tuple (nd ws)) = true := sh_tup (lay_nd ws) (dep_nd ws)
theorem sh_ln {ws : List Nat} : SeqAt.shaped (.list (nd ws)) = true := sh_list (lay_nd ws) (dep_nd ws)
theorem sh_lb {ws : List Bool} : SeqAt.shaped (.list (ws.map .bool)) = true := sh_list (lay_bd ws) (dep_bd ws)
/-- a list of words is not empty -/
theorem opc_neNil {ws : List Nat} : OPC K (rNeD K) (.lst (ws.map rN)) (.lst []) (.im (rB (decide (ws ≠ [])))) := by
  have h := opc_neD (K := K) (dpc_lst (dp_nd (ws := ws))) (dpc_lst (rs := []) (ds := []) .nil) sh_ln (sh_list rfl (by decide))
  have e : (!PyData.eqv (.list (nd ws)) (.list [])) = decide (ws ≠ []) := by
    cases ws with
    | nil => rfl
    | cons a l => rfl
  rw [e] at h
  exact h
/-- tuples put together -/
theorem opc_catT (h : rs.length + ss.length ≤ sizeLine) : OPC K (rCatA K) (.im (rT K rs)) (.im (rT K ss)) (.im (rT K (rs ++ ss))) := fun H x y ⟨a, vs, h1, h2, h3⟩ ⟨b, us, e1, e2, e3⟩ Q q => by
  subst h1 e1
  refine ⟨a, b, vs, us, rfl, rfl, SqT.of h2, SqT.of e2, by rw [h3.len, e3.len]; exact h, fun e => ?_, fun _ e => ?_, fun _ _ p hp => q _ _ (res_newT hp (h3.app e3))⟩
  · subst e
    cases h3
    exact q _ _ (res_here ⟨b, us, rfl, e2, e3⟩)
  · subst e
    cases e3
    exact q _ _ (res_here ⟨a, vs, rfl, h2, by rw [List.append_nil]; exact h3⟩)
/-- the least one -/
theorem cpr_minL {ws : List Nat} {m : Nat} (hm : m ∈ ws) (hle : ∀ y ∈ ws, m ≤ y) : CPR K (L2.rMin K) [.bor (ws.map rN)] (.im (rN m)) := fun H vs hv Q q => by
  cases hv with
  | cons h t =>
    cases t
    obtain ⟨a, us, h1, h2, h3⟩ := h
    subst h1
    have e := h3.nats
    subst e
    refine ⟨a, castL ws, rfl, h2, ?_, fun x hx hle2 => ?_⟩
    · have := List.length_pos_of_mem hm
      simpa using this
    · obtain ⟨n, hn, e⟩ := List.mem_map.mp hx
      subst e
      have h1 := hle n hn
      have h2 := hle2 (m : Int) (List.mem_map.mpr ⟨m, hm, rfl⟩)
      have e : n = m := by omega
      subst e
      exact q _ _ (res_here rfl)
end
end Fx
set_option Elab.async false
set_option linter.all false
set_option maxRecDepth 100000
set_option maxHeartbeats 2000000
/-! words: places, weights of sums, spans in order -/
namespace Gf
open Fx Wd
/-! weights -/
theorem pop_xor_and : ∀ a b : Nat, pop (a ^^^ b) + 2 * pop (a &&& b) = pop a + pop b := by
  intro a
  induction a using Nat.strongRecOn with
  | _ a ih =>
    intro b
    by_cases ha : a = 0
    · subst ha
      simp [pop_zero]
    · have h := ih (a / 2) (by omega) (b / 2)
      rw [pop_eq (a ^^^ b), pop_eq (a &&& b), pop_eq a, pop_eq b]
      have e1 : (a ^^^ b) / 2 = a / 2 ^^^ b / 2 := by
        have := Nat.shiftRight_xor_distrib (a := a) (b := b) (i := 1)
        simpa [Nat.shiftRight_eq_div_pow] using this
      have e2 : (a &&& b) / 2 = a / 2 &&& b / 2 := by
        have := Nat.shiftRight_and_distrib (a := a) (b := b) (i := 1)
        simpa [Nat.shiftRight_eq_div_pow] using this
      rw [e1, e2]
      have e3 : (a ^^^ b) % 2 = (a % 2 + b % 2) % 2 := by
        have := Nat.xor_mod_two_pow (a := a) (b := b) (n := 1)
        simp only [Nat.pow_one] at this
        rw [this]
        rcases Nat.mod_two_eq_zero_or_one a with x | x <;> rcases Nat.mod_two_eq_zero_or_one b with y | y <;> rw [x, y] <;> rfl
      have e4 : (a &&& b) % 2 = a % 2 * (b % 2) := by
        have := Nat.and_mod_two_pow (a := a) (b := b) (n := 1)
        simp only [Nat.pow_one] at this
        rw [this]
        rcases Nat.mod_two_eq_zero_or_one a with x | x <;> rcases Nat.mod_two_eq_zero_or_one b with y | y <;> rw [x, y] <;> rfl
      rw [e3, e4]
      rcases Nat.mod_two_eq_zero_or_one a with x | x <;> rcases Nat.mod_two_eq_zero_or_one b with y | y <;> rw [x, y] <;> omega
theorem blen_half {n : Nat} (h : n ≠ 0) : blen n = blen (n / 2) + 1 := by
  have h1 := lt_blen (n / 2)
  have h2 : n < 2 ^ (blen (n / 2) + 1) := by rw [Nat.pow_succ]; omega
  have h3 := blen_le h2
  have h4 := lt_blen n
  have h5 : 0 < blen n := by
    rcases Nat.eq_zero_or_pos (blen n) with z | z
    · rw [z] at h4; simp at h4; omega
    · exact z
  have h6 : n / 2 < 2 ^ (blen n - 1) := by
    obtain ⟨k, hk⟩ := Nat.exists_eq_succ_of_ne_zero (Nat.ne_of_gt h5)
    rw [hk] at h4 ⊢
    rw [Nat.pow_succ] at h4
    simp only [Nat.succ_sub_one]
    omega
  have h7 := blen_le h6
  omega
/-! places -/
theorem bits_n {w n : Nat} (h : w < 2 ^ n) : ((List.range n).filter fun i => decide (w / 2 ^ i % 2 = 1)) = placesOf w := by
  unfold placesOf
  have hb : blen w ≤ n := blen_le h
  obtain ⟨d, rfl⟩ : ∃ d, n = blen w + d := ⟨n - blen w, by omega⟩
  rw [List.range_add, List.filter_append]
  have e : ((List.range d).map fun x => blen w + x).filter (fun i => decide (w / 2 ^ i % 2 = 1)) = [] := by
    rw [List.filter_eq_nil_iff]
    intro i hi
    obtain ⟨j, _, rfl⟩ := List.mem_map.mp hi
    have h1 := lt_blen w
    have h2 : 2 ^ blen w ≤ 2 ^ (blen w + j) := Nat.pow_le_pow_right (by decide) (by omega)
    rw [Nat.div_eq_of_lt (by omega)]
    decide
  rw [e, List.append_nil]
theorem xfold (f : Nat → Nat) : ∀ (l : List Nat) (s : Nat), l.foldl (fun a b => a ^^^ f b) s = s ^^^ l.foldl (fun a b => a ^^^ f b) 0
  | [], s => by simp
  | a :: l, s => by
    rw [List.foldl_cons, List.foldl_cons, xfold f l (s ^^^ f a), xfold f l (0 ^^^ f a), Nat.zero_xor, Nat.xor_assoc]
theorem wordAt_bit : ∀ (ps : List Nat), ps.Nodup → ∀ i, (wordAt ps).testBit i = decide (i ∈ ps) := by
  intro ps
  unfold wordAt xsum
  rw [List.foldl_map]
  induction ps with
  | nil => intro _ i; simp
  | cons p ps ih =>
    intro nd i
    have nd := List.nodup_cons.mp nd
    rw [List.foldl_cons, xfold, Nat.zero_xor, Nat.testBit_xor, ih nd.2 i, Nat.testBit_two_pow]
    by_cases e : i = p
    · subst e
      simp [nd.1]
    · have e' : ¬ p = i := fun z => e z.symm
      simp [e, e']
theorem wordAt_places (w : Nat) : wordAt (placesOf w) = w := by
  refine Nat.eq_of_testBit_eq fun i => ?_
  rw [wordAt_bit (placesOf w) (List.nodup_range.filter _)]
  have hm : i ∈ placesOf w ↔ i < blen w ∧ w / 2 ^ i % 2 = 1 := by
    unfold placesOf
    rw [List.mem_filter, List.mem_range]
    exact ⟨fun ⟨a, b⟩ => ⟨a, of_decide_eq_true b⟩, fun ⟨a, b⟩ => ⟨a, decide_eq_true b⟩⟩
  cases hb : w.testBit i with
  | true =>
    refine decide_eq_true (hm.mpr ⟨?_, (bit_eq w i).mpr hb⟩)
    rcases Nat.lt_or_ge i (blen w) with z | z
    · exact z
    · rw [Nat.testBit_lt_two_pow (Nat.lt_of_lt_of_le (lt_blen w) (Nat.pow_le_pow_right (by decide) z))] at hb
      cases hb
  | false =>
    refine decide_eq_false fun h => ?_
    have := (bit_eq w i).mp (hm.mp h).2
    rw [hb] at this
    cases this
theorem asc_of {lim : Nat} : ∀ (l : List Nat) (least : Nat), l.Pairwise (· < ·) → (∀ x ∈ l, least ≤ x ∧ x < lim) → ascB (lim : Int) (l.map fun (n : Nat) => some (n : Int)) (least : Int) = true
  | [], _, _, _ => rfl
  | x :: l, least, o, h => by
    have hx := h x List.mem_cons_self
    have o := List.pairwise_cons.mp o
    have ih := asc_of l (x + 1) o.2 fun y hy => ⟨o.1 y hy, (h y (List.mem_cons_of_mem _ hy)).2⟩
    show ((decide ((least : Int) ≤ (x : Int)) && decide ((x : Int) ≤ (lim : Int) - 1)) && ascB (lim : Int) (l.map fun (n : Nat) => some (n : Int)) ((x : Int) + 1)) = true
    rw [decide_eq_true (by omega), decide_eq_true (by omega)]
    exact ih
theorem places_asc (w : Nat) : (placesOf w).Pairwise (· < ·) := List.pairwise_lt_range.filter _
theorem places_lt {w n x : Nat} (h : w < 2 ^ n) (hx : x ∈ placesOf w) : x < n := by
  unfold placesOf at hx
  have := List.mem_range.mp (List.mem_filter.mp hx).1
  have := blen_le h
  omega
theorem places_len {w n : Nat} (h : w < 2 ^ n) : (placesOf w).length ≤ n := by
  unfold placesOf
  have h1 := List.length_filter_le (fun i => decide (w / 2 ^ i % 2 = 1)) (List.range (blen w))
  rw [List.length_range] at h1
  have := blen_le h
  omega
/-! spans -/
theorem same_set {l : List Nat} {a b : Nat} (ha : a < l.length) (hb : b < l.length) (n : a ≠ b) : Same (l.set a (l[a] ^^^ l[b])) l := by
  refine .of (fun w hw => ?_) fun w hw => ?_
  · rcases List.mem_or_eq_of_mem_set hw with z | z
    · exact .mem z
    · rw [z]
      exact (Sp.mem (List.getElem_mem ha)).xor (.mem (List.getElem_mem hb))
  · obtain ⟨i, hi, e⟩ := List.getElem_of_mem hw
    have hb2 : l[b] ∈ l.set a (l[a] ^^^ l[b]) := by
      refine List.mem_of_getElem? (i := b) ?_
      rw [List.getElem?_set_ne n, List.getElem?_eq_getElem hb]
    by_cases e2 : i = a
    · subst e2
      have h1 : l[i] ^^^ l[b] ∈ l.set i (l[i] ^^^ l[b]) := List.mem_set ha _
      have := (Sp.mem h1).xor (.mem hb2)
      rw [xor_cancel] at this
      rw [← e]
      exact this
    · refine .mem (List.mem_of_getElem? (i := i) ?_)
      rw [List.getElem?_set_ne (fun z => e2 z.symm), List.getElem?_eq_getElem hi, e]
/-! all words of a span -/
def lawSpan (B : List Nat) : List Nat := B.foldl (fun l w => l ++ l.map (· ^^^ w)) [0]
theorem span_cons (r : Nat) (B : List Nat) : spanOf (r :: B) = spanOf B ++ (spanOf B).map (· ^^^ r) := rfl
theorem span_mem (x : Nat) : ∀ B : List Nat, x ∈ spanOf B ↔ Sp B x := by
  intro B
  induction B generalizing x with
  | nil =>
    constructor
    · intro h
      have h : x = 0 := by simpa [spanOf] using h
      rw [h]
      exact .zero
    · intro h
      have : x = 0 := by
        cases h with
        | zero => rfl
        | add _ h => cases h
      rw [this]
      exact List.mem_singleton.mpr rfl
  | cons r B ih =>
    rw [span_cons, List.mem_append, List.mem_map]
    have up : ∀ y, Sp B y → Sp (r :: B) y := fun y => Sp.sub fun w hw => .mem (List.mem_cons_of_mem _ hw)
    constructor
    · rintro (h | ⟨y, h, rfl⟩)
      · exact up _ ((ih _).mp h)
      · exact (up _ ((ih _).mp h)).xor (.mem List.mem_cons_self)
    · intro h
      have key : ∀ z, Sp (r :: B) z → Sp B z ∨ ∃ y, Sp B y ∧ y ^^^ r = z := by
        intro z hz
        induction hz with
        | zero => exact .inl .zero
        | @add y w _ hw ih2 =>
          rcases List.mem_cons.mp hw with e | e
          · subst e
            rcases ih2 with a | ⟨u, a, b⟩
            · exact .inr ⟨_, a, rfl⟩
            · refine .inl ?_
              rw [← b, xor_cancel]
              exact a
          · rcases ih2 with a | ⟨u, a, b⟩
            · exact .inl (.add a e)
            · exact .inr ⟨_, .add a e, by rw [← b]; exact xor_swap _ _ _⟩
      rcases key x h with a | ⟨y, a, b⟩
      · exact .inl ((ih _).mpr a)
      · exact .inr ⟨y, (ih _).mpr a, b⟩
theorem span_length : ∀ B : List Nat, (spanOf B).length = 2 ^ B.length
  | [] => rfl
  | r :: B => by
    rw [span_cons, List.length_append, List.length_map, span_length B, List.length_cons, Nat.pow_succ]
    omega
/-- the bits of two words above the topmost at which they differ -/
theorem top_diff {x y : Nat} (h : x ≠ y) : x.testBit (hd (x ^^^ y)) ≠ y.testBit (hd (x ^^^ y)) ∧ ∀ j, hd (x ^^^ y) < j → x.testBit j = y.testBit j := by
  have h0 : x ^^^ y ≠ 0 := fun e => h (xor_zero_eq e)
  refine ⟨fun e => ?_, fun j hj => ?_⟩
  · have := bit_hd h0
    rw [xor_bit, e] at this
    simp at this
  · have := bit_gt hj
    rw [xor_bit] at this
    simpa using this
theorem lt_top {x y : Nat} : x < y ↔ x ≠ y ∧ y.testBit (hd (x ^^^ y)) = true := by
  constructor
  · intro h
    have hne : x ≠ y := Nat.ne_of_lt h
    obtain ⟨h1, h2⟩ := top_diff hne
    refine ⟨hne, ?_⟩
    cases hb : y.testBit (hd (x ^^^ y)) with
    | true => rfl
    | false =>
      rw [hb] at h1
      have : y < x := lt_by_bit _ hb (by simpa using h1) fun j hj => (h2 j hj).symm
      omega
  · rintro ⟨hne, hb⟩
    obtain ⟨h1, h2⟩ := top_diff hne
    rw [hb] at h1
    exact lt_by_bit _ (by simpa using h1) hb h2
theorem span_ord : ∀ {B : List Nat}, RR B → B.Pairwise (· ≥ ·) → (spanOf B).Pairwise (· < ·)
  | [], _, _ => List.pairwise_singleton _ _
  | r :: B, h, o => by
    have o := List.pairwise_cons.mp o
    have ih := span_ord h.tail o.2
    have r0 : r ≠ 0 := h.nz r List.mem_cons_self
    have hlow : ∀ s ∈ B, s < 2 ^ hd r := fun s hs => by
      have hle : s ≤ r := o.1 s hs
      have hbit : s.testBit (hd r) = false := by
        have := List.pairwise_cons.mp h.pw
        exact (this.1 s hs).1
      have hlt : s < 2 ^ (hd r + 1) := Nat.lt_of_le_of_lt hle (lt_hd r)
      rcases Nat.lt_or_ge s (2 ^ hd r) with z | z
      · exact z
      · exfalso
        have s0 : s ≠ 0 := by have := Nat.two_pow_pos (hd r); omega
        have e : hd s = hd r := by
          have h1 : hd r ≤ hd s := (Nat.le_log2 s0).mpr z
          have h2 : hd s < hd r + 1 := (Nat.log2_lt s0).mpr hlt
          omega
        rw [← e, bit_hd s0] at hbit
        cases hbit
    rw [span_cons, List.pairwise_append, List.pairwise_map]
    have mid : (spanOf B).Pairwise fun x y => x ^^^ r < y ^^^ r := by
      refine (List.Pairwise.and_mem.mp ih).imp fun {x y} hxy => ?_
      obtain ⟨hx, hy, hlt⟩ := hxy
      obtain ⟨hne, hb⟩ := lt_top.mp hlt
      have e : (x ^^^ r) ^^^ (y ^^^ r) = x ^^^ y := by rw [← Nat.xor_assoc, xor_swap x r y, xor_cancel]
      refine lt_top.mpr ⟨fun z => hne (xor_zero_eq (by rw [← e, z, Nat.xor_self])), ?_⟩
      rw [e, xor_bit, hb]
      have h0 : x ^^^ y ≠ 0 := fun e => hne (xor_zero_eq e)
      obtain ⟨s, hs, es⟩ := h.tail.top (((span_mem x B).mp hx).xor ((span_mem y B).mp hy)) h0
      rw [← es]
      have := List.pairwise_cons.mp h.pw
      rw [(this.1 s hs).2]
      rfl
    refine ⟨ih, mid, fun x hx z hz => ?_⟩
    · obtain ⟨y, hy, rfl⟩ := List.mem_map.mp hz
      have bx : x < 2 ^ hd r := Sp.lt hlow ((span_mem x B).mp hx)
      have byy : y < 2 ^ hd r := Sp.lt hlow ((span_mem y B).mp hy)
      refine lt_by_bit (hd r) (Nat.testBit_lt_two_pow bx) (by rw [xor_bit, Nat.testBit_lt_two_pow byy, bit_hd r0]; rfl) fun j hj => ?_
      have hp : 2 ^ hd r ≤ 2 ^ j := Nat.pow_le_pow_right (by decide) (by omega)
      rw [xor_bit, Nat.testBit_lt_two_pow (Nat.lt_of_lt_of_le bx hp), Nat.testBit_lt_two_pow (Nat.lt_of_lt_of_le byy hp), bit_gt hj]
      rfl
theorem two_perm {l m : List Nat} (r : Nat) (h : l.Perm m) : (l ++ l.map (· ^^^ r)).Perm (m ++ m.map (· ^^^ r)) := h.append (h.map _)
theorem fold_perm : ∀ (B : List Nat) {l m : List Nat}, l.Perm m → (B.foldl (fun l w => l ++ l.map (· ^^^ w)) l).Perm (B.foldl (fun l w => l ++ l.map (· ^^^ w)) m)
  | [], _, _, h => h
  | r :: B, _, _, h => fold_perm B (two_perm r h)
theorem fold_last (r : Nat) : ∀ (B : List Nat) (l : List Nat), (B.foldl (fun l w => l ++ l.map (· ^^^ w)) (l ++ l.map (· ^^^ r))).Perm (B.foldl (fun l w => l ++ l.map (· ^^^ w)) l ++ (B.foldl (fun l w => l ++ l.map (· ^^^ w)) l).map (· ^^^ r))
  | [], l => .refl _
  | b :: B, l => by
    rw [List.foldl_cons, List.foldl_cons]
    refine (fold_perm B ?_).trans (fold_last r B (l ++ l.map (· ^^^ b)))
    rw [List.map_append, List.map_append, List.map_map, List.map_map]
    have e : (fun x => x ^^^ b) ∘ (fun x => x ^^^ r) = (fun x => x ^^^ r) ∘ (fun x => x ^^^ b) := by
      funext x
      exact xor_swap _ _ _
    rw [e]
    generalize l.map (· ^^^ r) = p
    generalize l.map (· ^^^ b) = q
    generalize l.map ((fun x => x ^^^ r) ∘ (fun x => x ^^^ b)) = u
    rw [List.append_assoc, List.append_assoc, ← List.append_assoc p q u, ← List.append_assoc q p u]
    exact List.Perm.append_left _ (List.Perm.append_right _ List.perm_append_comm)
theorem law_span_perm : ∀ B : List Nat, (lawSpan B).Perm (spanOf B)
  | [] => .refl _
  | r :: B => by
    rw [span_cons]
    have h := fold_last r B [0]
    exact h.trans (two_perm r (law_span_perm B))
theorem law_span_eq {B : List Nat} (h : RR B) (o : B.Pairwise (· ≥ ·)) : asort (lawSpan B) = spanOf B := by
  refine (asort_uniq (law_span_perm B).symm ?_).symm
  exact (span_ord h o).imp Nat.le_of_lt
theorem basis_ord (ws : List Nat) : (basisOf ws).Pairwise (· ≥ ·) := dsort_ord _
/-! remainders -/
theorem rem_le {B : List Nat} (h : RR B) {w x : Nat} (hx : Sp B x) : rem B w ≤ w ^^^ x := by
  rcases Nat.lt_or_ge (w ^^^ x) (rem B w) with z | z
  · exfalso
    obtain ⟨hne, hb⟩ := lt_top.mp z
    have hs : Sp B ((w ^^^ x) ^^^ rem B w) := by
      have h1 := (rem_span B w).xor hx
      rw [xor_swap w (rem B w) x] at h1
      exact h1
    obtain ⟨r, hr, e⟩ := h.top hs fun e => hne (xor_zero_eq e)
    rw [← e, rem_heads h hr] at hb
    cases hb
  · exact z
theorem rem_in {B : List Nat} {w : Nat} : rem B w ∈ (spanOf B).map fun x => w ^^^ x := by
  refine List.mem_map.mpr ⟨w ^^^ rem B w, (span_mem _ _).mpr (rem_span B w), ?_⟩
  rw [← Nat.xor_assoc, Nat.xor_self, Nat.zero_xor]
theorem rem_again {B : List Nat} (h : RR B) {w x : Nat} (hx : Sp B x) : rem B (rem B w ^^^ x) = rem B w := by
  refine rem_uniq h (fun r hr => rem_heads h hr) ?_
  rw [xor_swap, Nat.xor_self, Nat.zero_xor]
  exact hx
theorem rem_lt {B : List Nat} {w n : Nat} (hB : ∀ r ∈ B, r < 2 ^ n) (hw : w < 2 ^ n) : rem B w < 2 ^ n := by
  have h := Sp.lt hB (rem_span B w)
  have := Nat.xor_lt_two_pow hw h
  rw [← Nat.xor_assoc, Nat.xor_self, Nat.zero_xor] at this
  exact this
theorem same_zero (l : List Nat) : Same (l ++ [0]) l := by
  refine .of (fun w hw => ?_) fun w hw => .mem (List.mem_append_left _ hw)
  rcases List.mem_append.mp hw with z | z
  · exact .mem z
  · have z : w = 0 := by simpa using z
    rw [z]
    exact .zero
end Gf
set_option Elab.async false
set_option linter.all false
set_option maxRecDepth 100000
set_option maxHeartbeats 2000000
/-! helpers that several laws want -/
namespace Px
open PySem L2 Fx Wd Gf Lb PyProof.Rows RT
abbrev NL (ws : List Nat) : List Rp := ws.map rN
theorem in_word {n a : Nat} (h : a < 2 ^ n) : inRange 0 (((2 ^ n : Nat) : Int) - 1) (some (a : Int)) = true := by
  show (decide ((0 : Int) ≤ a) && decide ((a : Int) ≤ ((2 ^ n : Nat) : Int) - 1)) = true
  rw [decide_eq_true (by omega), decide_eq_true (by omega)]
  rfl
def Span (n : Nat) (ws : List Nat) : Prop := 1 ≤ n ∧ n ≤ 24 ∧ ws.length ≤ 64 ∧ ∀ a ∈ ws, a < 2 ^ n
theorem hd_le {r : Nat} (h : r < 2 ^ 1000) (h0 : r ≠ 0) : hd r ≤ 1000 := by
  have := blen_le h
  rw [blen_hd h0] at this
  omega
theorem ws_post {K : PySem.W.Frag} {ts : TS} {E : List Sl} {nx nx' : List Sl → Prop} {rt : Sl → List Sl → Prop} {bk ct : List Sl → Prop} (h : WS K ts E nx' rt bk ct) (m : ∀ E', nx' E' → nx E') : WS K ts E nx rt bk ct := ws_mono h m (fun _ _ h => h) (fun _ h => h) (fun _ h => h)
theorem ws_weak {K : PySem.W.Frag} {ts : TS} {E E' : List Sl} {nx : List Sl → Prop} {rt : Sl → List Sl → Prop} {bk ct : List Sl → Prop} (p : Paired (fun a b => a = b ∨ b = Sl.no) E E') (h : WS K ts E' nx rt bk ct) : WS K ts E nx rt bk ct := fun H0 O0 σ T H D hl ok n r b c => h H0 O0 σ T H D (by rw [hl, Paired.length p]) (ok.weak p) n r b c
theorem keys_len {m m' : M} (h : keys m' = keys m) : m'.length = m.length := by
  have := congrArg List.length h
  unfold keys at this
  simpa using this
theorem fold_len : ∀ (ws : List Nat) (m : M), (ws.foldl insD m).length ≤ m.length + ws.length
  | [], m => by simp
  | x :: ws, m => by
    have h1 := fold_len ws (insD m x)
    have h2 := insD_len m x
    rw [List.foldl_cons, List.length_cons]
    omega
theorem map_era {α β : Type} (f : α → β) : ∀ (l : List α) (i : Nat), (l.map f).eraseIdx i = (l.eraseIdx i).map f
  | [], _ => rfl
  | _ :: _, 0 => rfl
  | a :: l, i + 1 => by
    show f a :: (l.map f).eraseIdx i = _
    rw [map_era f l i]
    rfl
theorem era_perm {l : List Nat} {i : Nat} (h : i < l.length) : (l[i] :: l.eraseIdx i).Perm l := by
  induction l generalizing i with
  | nil => simp at h
  | cons a l ih =>
    cases i with
    | zero => exact .refl _
    | succ i =>
      have h' : i < l.length := by simpa using h
      exact (List.Perm.swap _ _ _).trans (List.Perm.cons a (ih h'))
theorem cv_eq {K : PySem.W.Frag} {a b : Ck} (h : a = b) : Cv K a b := h ▸ cv_refl
theorem in_range (hi : Int) (n : Int) : (decide ((0 : Int) ≤ n) && decide (n < hi)) = inRange 0 (hi - 1) (some n) := by
  show _ = (decide ((0 : Int) ≤ n) && decide (n ≤ hi - 1))
  congr 1
  exact decide_eq_decide.mpr (by omega)
theorem pop_le : ∀ n : Nat, pop n ≤ n := by
  intro n
  induction n using Nat.strongRecOn with
  | _ n ih =>
    by_cases h : n = 0
    · rw [h, pop_zero]; omega
    · have := ih (n / 2) (by omega)
      rw [pop_eq n]
      omega
theorem ws_asgT2 {K : PySem.W.Frag} {te : TE} {E : List Sl} {i j : Nat} {nx : List Sl → Prop} {rt : Sl → List Sl → Prop} {bk ct : List Sl → Prop} (h : WE K te E fun k E1 => ∃ R1 R2, k = .im (rT K [R1, R2]) ∧ nx ((E1.set i (.im R1)).set j (.im R2))) : WS K (tAsg te (gTup K 2 (gCons (gName i) (gCons (gName j) gNil)))) E nx rt bk ct := fun H0 O0 σ T H D hl ok n r b c =>
  h H0 O0 σ T H hl ok _ fun k E1 ⟨R1, R2, e, p⟩ l v H2 ok2 => by
    subst e
    obtain ⟨w, e, a, vs, h1, h2, h3⟩ := ok2.head
    cases e
    subst h1
    cases h3 with
    | cons q1 t =>
      cases t with
      | cons q2 t =>
        cases t
        refine ⟨a, [_, _], rfl, SqT.of h2, rfl, _, _, rfl, _, _, rfl, rfl, n _ p _ H2 (by simp [l, hl]) ?_⟩
        exact ((ok2.tail.im q1).store i (by omega)).im q2 |>.store j (by simp [l, hl])
def nearL (K : PySem.W.Frag) (a b n : Nat) : List (Rp × Option Int) :=
  [(rN a, some (a : Int)), (rN b, some (b : Int)), (rI 0, some 0), (rI (((2 ^ n : Nat) : Int) - 1), some (((2 ^ n : Nat) : Int) - 1)), (rN (2 ^ n), some ((2 ^ n : Nat) : Int)), (rI (-1), some (-1)), (rB true, none), (Fx.rU, none), (rS (Str.ofString "1"), none), (rT K [rN a], none), (rI (0 - (a : Int) - 1), some (0 - (a : Int) - 1)), (rI (10 ^ 64), some (10 ^ 64)), (rI ((a : Int) + ((2 ^ n : Nat) : Int)), some ((a : Int) + ((2 ^ n : Nat) : Int)))]
theorem nearL_ok {K : PySem.W.Frag} {a b n : Nat} : ∀ x ∈ nearL K a b n, IntLike K x.1 x.2 := by
  intro x hx
  have hx : x ∈ [(rN a, some (a : Int)), (rN b, some (b : Int)), (rI 0, some 0), (rI (((2 ^ n : Nat) : Int) - 1), some (((2 ^ n : Nat) : Int) - 1)), (rN (2 ^ n), some ((2 ^ n : Nat) : Int)), (rI (-1), some (-1)), (rB true, none), (Fx.rU, none), (rS (Str.ofString "1"), none), (rT K [rN a], none), (rI (0 - (a : Int) - 1), some (0 - (a : Int) - 1)), (rI (10 ^ 64), some (10 ^ 64)), (rI ((a : Int) + ((2 ^ n : Nat) : Int)), some ((a : Int) + ((2 ^ n : Nat) : Int)))] := hx
  repeat (first
    | (rcases List.mem_cons.mp hx with rfl | hx
       · first
         | exact rfl
         | exact ⟨.bl, knd_bl, by decide⟩
         | exact ⟨.non, knd_non, by decide⟩
         | exact ⟨.str, knd_str, by decide⟩
         | exact ⟨.tup, knd_tup, by decide⟩)
    | exact absurd hx (by simp))
theorem we_near {K : PySem.W.Frag} {E : List Sl} {R : Rp} {o : Option Int} {n i j : Nat} (hn : n ≤ 1000) (hi : E[i]? = some (.im R)) (hj : E[j]? = some (.im (rN n))) (h : IntLike K R o) :
    WE K (tAndV (tCB (rIsi K) (tCons (tVar i) (tCons (tC (.ty "int")) tNil))) (tAndV (tNotV (tCB (rIsi K) (tCons (tVar i) (tCons (tC (.ty "bool")) tNil)))) (tChain (rI0 fun i j => .bl (decide (i ≤ j))) (rI0 fun i j => .bl (decide (i < j))) (tC (.int 0)) (tVar i) (tOp (L2.rI CShl fun i j => .int (i * 2 ^ j.toNat)) (tC (.int 1)) (tVar j))))) E fun k E1 => k = .im (rB (inRange 0 (((2 ^ n : Nat) : Int) - 1) o)) ∧ E1 = E := by
  obtain ⟨k, hk, e⟩ := h.knd
  refine we_andV (we_cb (wc_im (we_var hi ⟨_, rfl, wc_im (we_ty ⟨_, rfl, wc_nil ⟨_, cpr_isi hk (kit_int k), _, rfl, ?_⟩⟩)⟩)))
  cases k with
  | int =>
    cases o with
    | none => cases e
    | some v =>
      have h : R = rI v := h
      subst h
      refine we_andV (we_notV (we_cb (wc_im (we_var hi ⟨_, rfl, wc_im (we_ty ⟨_, rfl, wc_nil ⟨_, cpr_isi hk (kit_bool .int), _, rfl, _, rfl, ?_⟩⟩)⟩))))
      refine we_chain (we_int (we_var hi ⟨_, _, rfl, opr_le, ?_⟩))
      rw [← in_range]
      by_cases hv : 0 ≤ v
      · rw [if_pos (decide_eq_true hv), decide_eq_true hv]
        exact we_op (we_int (we_var hj ⟨_, opr_shl1 (by omega), _, opr_lt, rfl, rfl⟩))
      · rw [if_neg (by simpa using hv), decide_eq_false hv]
        exact ⟨rfl, rfl⟩
  | bl =>
    cases o with
    | some v => cases e
    | none =>
      exact we_andV (we_notV (we_cb (wc_im (we_var hi ⟨_, rfl, wc_im (we_ty ⟨_, rfl, wc_nil ⟨_, cpr_isi hk (kit_bool .bl), _, rfl, _, rfl, ⟨rfl, rfl⟩⟩⟩)⟩))))
  | non =>
    cases o with
    | some v => cases e
    | none => exact ⟨rfl, rfl⟩
  | str =>
    cases o with
    | some v => cases e
    | none => exact ⟨rfl, rfl⟩
  | tup =>
    cases o with
    | some v => cases e
    | none => exact ⟨rfl, rfl⟩
  | lst =>
    cases o with
    | some v => cases e
    | none => exact ⟨rfl, rfl⟩
  | dic =>
    cases o with
    | some v => cases e
    | none => exact ⟨rfl, rfl⟩
theorem mem3 {R : Rp} {a b c : Nat} (h : R ∈ [rN a, rN b, rN c]) : ∃ t, R = rN t ∧ (t = a ∨ t = b ∨ t = c) := by
  rcases List.mem_cons.mp h with h | h
  · exact ⟨a, h, .inl rfl⟩
  · rcases List.mem_cons.mp h with h | h
    · exact ⟨b, h, .inr (.inl rfl)⟩
    · exact ⟨c, List.mem_singleton.mp h, .inr (.inr rfl)⟩
theorem lt1000 {t k : Nat} (h : t < 2 ^ k) (hk : k ≤ 1000) : t < 2 ^ 1000 := Nat.lt_of_lt_of_le h (Nat.pow_le_pow_right (n := 2) (by decide) hk)
theorem dsort_of {l ws : List Nat} (p : l.isPerm ws = true) (o : l.Pairwise (· ≥ ·)) : dsort ws = l := (dsort_uniq (List.isPerm_iff.mp p) o).symm
end Px
set_option Elab.async false
set_option linter.all false
set_option maxRecDepth 100000
set_option maxHeartbeats 2000000
/-! products, checks, duals, dimensions -/
namespace Du
open Fx Wd Gf
/-- the product of two words is odd -/
def dot (x y : Nat) : Bool := decide (pop (x &&& y) % 2 = 1)
theorem pop_xor_par (a b : Nat) : pop (a ^^^ b) % 2 = (pop a + pop b) % 2 := by
  have := pop_xor_and a b
  omega
theorem par_xor (a b : Nat) : decide (pop (a ^^^ b) % 2 = 1) = (decide (pop a % 2 = 1) ^^ decide (pop b % 2 = 1)) := by
  have := pop_xor_par a b
  rcases Nat.mod_two_eq_zero_or_one (pop a) with x | x <;> rcases Nat.mod_two_eq_zero_or_one (pop b) with y | y <;>
    rcases Nat.mod_two_eq_zero_or_one (pop (a ^^^ b)) with z | z <;> simp [x, y, z] <;> omega
theorem dot_xor (x y z : Nat) : dot x (y ^^^ z) = (dot x y ^^ dot x z) := by
  unfold dot
  rw [Nat.and_xor_distrib_left]
  exact par_xor _ _
theorem dot_comm (x y : Nat) : dot x y = dot y x := by
  unfold dot
  rw [Nat.and_comm]
theorem xor_dot (x y z : Nat) : dot (x ^^^ y) z = (dot x z ^^ dot y z) := by
  rw [dot_comm, dot_xor, dot_comm z x, dot_comm z y]
theorem dot_zero (x : Nat) : dot x 0 = false := by
  unfold dot
  rw [Nat.and_zero, pop_zero]
  rfl
theorem zero_dot (x : Nat) : dot 0 x = false := by rw [dot_comm, dot_zero]
theorem pop_two (p : Nat) : pop (2 ^ p) = 1 := by
  induction p with
  | zero => rw [pop_eq, pop_eq]; simp [pop_zero]
  | succ p ih =>
    rw [pop_eq]
    have e : 2 ^ (p + 1) / 2 = 2 ^ p := by rw [Nat.pow_succ]; omega
    have e2 : 2 ^ (p + 1) % 2 = 0 := by rw [Nat.pow_succ]; omega
    rw [e, ih, e2]
theorem two_and (p w : Nat) : 2 ^ p &&& w = if w.testBit p = true then 2 ^ p else 0 := by
  refine Nat.eq_of_testBit_eq fun i => ?_
  rw [Nat.testBit_and, Nat.testBit_two_pow]
  by_cases h : p = i
  · subst h
    cases hb : w.testBit p with
    | true => simp [Nat.testBit_two_pow]
    | false => simp
  · cases hb : w.testBit p with
    | true => simp [h, Nat.testBit_two_pow]
    | false => simp [h]
theorem two_dot (p w : Nat) : dot (2 ^ p) w = w.testBit p := by
  unfold dot
  rw [two_and]
  cases w.testBit p with
  | true => rw [if_pos rfl, pop_two]; rfl
  | false => rw [if_neg Bool.false_ne_true, pop_zero]; rfl
/-- all words that are even with these -/
def Dl (n : Nat) (ws : List Nat) (x : Nat) : Prop := x < 2 ^ n ∧ ∀ w ∈ ws, dot x w = false
theorem dot_sp {ws : List Nat} {x y : Nat} (h : ∀ w ∈ ws, dot x w = false) (hy : Sp ws y) : dot x y = false := by
  induction hy with
  | zero => exact dot_zero x
  | add _ hw ih => rw [dot_xor, ih, h _ hw]; rfl
theorem Dl.sp {n : Nat} {ws : List Nat} {x y : Nat} (h : Dl n ws x) (hy : Sp ws y) : dot x y = false := dot_sp h.2 hy
theorem Dl.same {n : Nat} {ws us : List Nat} (h : Same ws us) {x : Nat} : Dl n ws x ↔ Dl n us x :=
  ⟨fun d => ⟨d.1, fun w hw => d.sp ((h w).mpr (.mem hw))⟩, fun d => ⟨d.1, fun w hw => d.sp ((h w).mp (.mem hw))⟩⟩
theorem Dl.xor {n : Nat} {ws : List Nat} {x y : Nat} (h : Dl n ws x) (g : Dl n ws y) : Dl n ws (x ^^^ y) :=
  ⟨Nat.xor_lt_two_pow h.1 g.1, fun w hw => by rw [xor_dot, h.2 w hw, g.2 w hw]; rfl⟩
theorem Dl.zero {n : Nat} {ws : List Nat} : Dl n ws 0 := ⟨Nat.two_pow_pos _, fun w _ => zero_dot w⟩
/-! the checks of a basis -/
def checkAt (B : List Nat) (p : Nat) : Nat := wordAt (p :: (B.filter fun r => decide (r / 2 ^ p % 2 = 1)).map hd)
def checkL (n : Nat) (B : List Nat) : List Nat := (freeOf n B).map (checkAt B)
def checksOf (n : Nat) (B : List Nat) : List Nat := basisOf (checkL n B)
theorem mem_free {n : Nat} {B : List Nat} {p : Nat} : p ∈ freeOf n B ↔ p < n ∧ ∀ r ∈ B, hd r ≠ p := by
  unfold freeOf
  rw [List.mem_filter, List.mem_range]
  constructor
  · rintro ⟨a, b⟩
    exact ⟨a, fun r hr e => of_decide_eq_true b (List.mem_map.mpr ⟨r, hr, e⟩)⟩
  · rintro ⟨a, b⟩
    refine ⟨a, decide_eq_true fun h => ?_⟩
    obtain ⟨r, hr, e⟩ := List.mem_map.mp h
    exact b r hr e
theorem heads_nodup {B : List Nat} (h : RR B) : (B.map hd).Nodup := by
  rw [List.nodup_iff_pairwise_ne, List.pairwise_map]
  refine (List.Pairwise.and_mem.mp h.pw).imp fun {r s} hrs => ?_
  obtain ⟨hr, hs, h1, h2⟩ := hrs
  intro e
  rw [← e, bit_hd (h.nz r hr)] at h2
  cases h2
theorem check_list {n : Nat} {B : List Nat} (h : RR B) {p : Nat} (hp : p ∈ freeOf n B) : (p :: (B.filter fun r => decide (r / 2 ^ p % 2 = 1)).map hd).Nodup := by
  refine List.nodup_cons.mpr ⟨fun hm => ?_, ?_⟩
  · obtain ⟨r, hr, e⟩ := List.mem_map.mp hm
    exact (mem_free.mp hp).2 r ((List.mem_filter.mp hr).1) e
  · exact (heads_nodup h).sublist (List.Sublist.map _ List.filter_sublist)
theorem check_bit {n : Nat} {B : List Nat} (h : RR B) {p : Nat} (hp : p ∈ freeOf n B) (i : Nat) : (checkAt B p).testBit i = decide (i = p ∨ ∃ r ∈ B, r.testBit p = true ∧ hd r = i) := by
  unfold checkAt
  rw [wordAt_bit _ (check_list h hp)]
  refine decide_eq_decide.mpr ?_
  rw [List.mem_cons, List.mem_map]
  refine or_congr Iff.rfl ⟨?_, ?_⟩
  · rintro ⟨r, hr, e⟩
    exact ⟨r, (List.mem_filter.mp hr).1, (bit_eq _ _).mp (of_decide_eq_true (List.mem_filter.mp hr).2), e⟩
  · rintro ⟨r, hr, hb, e⟩
    exact ⟨r, List.mem_filter.mpr ⟨hr, decide_eq_true ((bit_eq _ _).mpr hb)⟩, e⟩
/-- at its own free place, and at no other one -/
theorem check_free {n : Nat} {B : List Nat} (h : RR B) {p q : Nat} (hp : p ∈ freeOf n B) (hq : q ∈ freeOf n B) : (checkAt B p).testBit q = decide (q = p) := by
  rw [check_bit h hp]
  refine decide_eq_decide.mpr ⟨fun z => ?_, .inl⟩
  rcases z with z | ⟨r, hr, _, e⟩
  · exact z
  · exact absurd e ((mem_free.mp hq).2 r hr)
theorem check_head {n : Nat} {B : List Nat} (h : RR B) {p r : Nat} (hp : p ∈ freeOf n B) (hr : r ∈ B) : (checkAt B p).testBit (hd r) = r.testBit p := by
  rw [check_bit h hp]
  cases hb : r.testBit p with
  | true => exact decide_eq_true (.inr ⟨r, hr, hb, rfl⟩)
  | false =>
    refine decide_eq_false fun z => ?_
    rcases z with z | ⟨s, hs, hb2, e⟩
    · exact (mem_free.mp hp).2 r hr z
    · rw [h.hd_inj hs hr e, hb] at hb2
      cases hb2
theorem lt_of_bits {x n : Nat} (h : ∀ i, n ≤ i → x.testBit i = false) : x < 2 ^ n := Nat.lt_pow_two_of_testBit x fun i hi => h i hi
theorem check_lt {n : Nat} {B : List Nat} (h : RR B) (hB : ∀ r ∈ B, r < 2 ^ n) {p : Nat} (hp : p ∈ freeOf n B) : checkAt B p < 2 ^ n := by
  refine lt_of_bits fun i hi => ?_
  rw [check_bit h hp]
  refine decide_eq_false fun z => ?_
  rcases z with z | ⟨r, hr, _, e⟩
  · have := (mem_free.mp hp).1
    omega
  · have h1 := hB r hr
    have h2 : hd r < n := (Nat.log2_lt (h.nz r hr)).mpr h1
    omega
theorem dot_word {b : Nat} : ∀ ps : List Nat, dot (wordAt ps) b = ps.foldl (fun s p => s ^^ b.testBit p) false := by
  intro ps
  unfold wordAt xsum
  rw [List.foldl_map]
  have key : ∀ (ps : List Nat) (w : Nat) (s : Bool), dot w b = s → dot (ps.foldl (fun x y => x ^^^ 2 ^ y) w) b = ps.foldl (fun s p => s ^^ b.testBit p) s := by
    intro ps
    induction ps with
    | nil => intro w s h; exact h
    | cons p ps ih =>
      intro w s h
      rw [List.foldl_cons, List.foldl_cons]
      refine ih _ _ ?_
      rw [xor_dot, h, two_dot]
  exact key ps 0 false (zero_dot b)
/-- a word that agrees with b only at one of these places -/
theorem fold_one {b h : Nat} : ∀ (l : List Nat) (s : Bool), l.Nodup → (∀ p ∈ l, p ≠ h → b.testBit p = false) → b.testBit h = true → l.foldl (fun s p => s ^^ b.testBit p) s = (s ^^ decide (h ∈ l))
  | [], s, _, _, _ => by simp
  | p :: l, s, nd, hl, hb => by
    have nd' := List.nodup_cons.mp nd
    rw [List.foldl_cons, fold_one l _ nd'.2 (fun q hq => hl q (List.mem_cons_of_mem _ hq)) hb]
    by_cases e : p = h
    · subst e
      rw [hb, decide_eq_false nd'.1, decide_eq_true List.mem_cons_self]
      simp
    · rw [hl p List.mem_cons_self e]
      have : (h ∈ p :: l) ↔ h ∈ l := ⟨fun z => (List.mem_cons.mp z).resolve_left fun z => e z.symm, List.mem_cons_of_mem _⟩
      simp [this]
theorem check_even {n : Nat} {B : List Nat} (h : RR B) {p b : Nat} (hp : p ∈ freeOf n B) (hb : b ∈ B) : dot (checkAt B p) b = false := by
  unfold checkAt
  rw [dot_word, List.foldl_cons]
  rw [fold_one (h := hd b) _ _ (List.nodup_cons.mp (check_list h hp)).2 (fun q hq hne => ?_) (bit_hd (h.nz b hb))]
  · have e : (hd b ∈ (B.filter fun r => decide (r / 2 ^ p % 2 = 1)).map hd) ↔ b.testBit p = true := by
      constructor
      · intro hm
        obtain ⟨r, hr, e⟩ := List.mem_map.mp hm
        have := h.hd_inj ((List.mem_filter.mp hr).1) hb e
        rw [← this]
        exact (bit_eq _ _).mp (of_decide_eq_true (List.mem_filter.mp hr).2)
      · intro hbit
        exact List.mem_map.mpr ⟨b, List.mem_filter.mpr ⟨hb, decide_eq_true ((bit_eq _ _).mpr hbit)⟩, rfl⟩
    cases hbit : b.testBit p with
    | true => rw [decide_eq_true (e.mpr hbit)]; rfl
    | false => rw [decide_eq_false fun z => by rw [hbit] at e; cases e.mp z]; rfl
  · obtain ⟨r, hr, e⟩ := List.mem_map.mp hq
    have hrB := (List.mem_filter.mp hr).1
    have hne2 : r ≠ b := fun z => hne (by rw [← e, z])
    rw [← e]
    exact h.at hrB hb hne2
/-- the product with a word that is 0 at all heads but this -/
theorem dot_only {n : Nat} {B : List Nat} (h : RR B) {y b : Nat} (hb : b ∈ B) (hy : y < 2 ^ n) (hf : ∀ p ∈ freeOf n B, y.testBit p = false) : dot y b = y.testBit (hd b) := by
  have e : y &&& b = if y.testBit (hd b) = true then 2 ^ hd b else 0 := by
    refine Nat.eq_of_testBit_eq fun i => ?_
    rw [Nat.testBit_and]
    by_cases hi : i = hd b
    · subst hi
      rw [bit_hd (h.nz b hb)]
      cases y.testBit (hd b) with
      | true => simp [Nat.testBit_two_pow]
      | false => simp
    · have h0 : (y.testBit i && b.testBit i) = false := by
        by_cases hin : i < n
        · by_cases hfr : i ∈ freeOf n B
          · rw [hf i hfr]; rfl
          · have : ∃ r ∈ B, hd r = i := by
              rcases Classical.em (∃ r ∈ B, hd r = i) with z | z
              · exact z
              · exact absurd (mem_free.mpr ⟨hin, fun r hr e => z ⟨r, hr, e⟩⟩) hfr
            obtain ⟨r, hr, er⟩ := this
            have hne : r ≠ b := fun z => hi (by rw [← er, z])
            have := h.at hr hb hne
            rw [er] at this
            rw [this]
            simp
        · rw [Nat.testBit_lt_two_pow (Nat.lt_of_lt_of_le hy (Nat.pow_le_pow_right (by decide) (by omega)))]
          rfl
      rw [h0]
      cases y.testBit (hd b) with
      | true =>
        have hi2 : ¬ hd b = i := fun z => hi z.symm
        simp [Nat.testBit_two_pow, hi2]
      | false => simp
  unfold dot
  rw [e]
  cases y.testBit (hd b) with
  | true => rw [if_pos rfl, pop_two]; rfl
  | false => rw [if_neg Bool.false_ne_true, pop_zero]; rfl
theorem zero_of {n : Nat} {B : List Nat} {y : Nat} (hy : y < 2 ^ n) (hf : ∀ p ∈ freeOf n B, y.testBit p = false) (hh : ∀ r ∈ B, y.testBit (hd r) = false) : y = 0 := by
  refine Nat.eq_of_testBit_eq fun i => ?_
  rw [Nat.zero_testBit]
  by_cases hin : i < n
  · by_cases hfr : i ∈ freeOf n B
    · exact hf i hfr
    · rcases Classical.em (∃ r ∈ B, hd r = i) with ⟨r, hr, e⟩ | z
      · rw [← e]
        exact hh r hr
      · exact absurd (mem_free.mpr ⟨hin, fun r hr e => z ⟨r, hr, e⟩⟩) hfr
  · exact Nat.testBit_lt_two_pow (Nat.lt_of_lt_of_le hy (Nat.pow_le_pow_right (by decide) (by omega)))
/-- the sum of the checks at those free places where a word has 1 -/
theorem sum_bits {n : Nat} {B : List Nat} (h : RR B) (hB : ∀ r ∈ B, r < 2 ^ n) (x : Nat) : ∀ l : List Nat, l.Nodup → (∀ p ∈ l, p ∈ freeOf n B) → ∃ y, Sp (checkL n B) y ∧ y < 2 ^ n ∧ ∀ q ∈ freeOf n B, y.testBit q = (x.testBit q && decide (q ∈ l))
  | [], _, _ => ⟨0, .zero, Nat.two_pow_pos _, fun q _ => by simp⟩
  | p :: l, nd, hl => by
    have nd' := List.nodup_cons.mp nd
    obtain ⟨y, h1, h2, h3⟩ := sum_bits h hB x l nd'.2 fun q hq => hl q (List.mem_cons_of_mem _ hq)
    have hp := hl p List.mem_cons_self
    cases hx : x.testBit p with
    | false =>
      refine ⟨y, h1, h2, fun q hq => ?_⟩
      rw [h3 q hq]
      by_cases e : q = p
      · subst e
        rw [hx]
        rfl
      · have : (q ∈ p :: l) ↔ q ∈ l := ⟨fun z => (List.mem_cons.mp z).resolve_left e, List.mem_cons_of_mem _⟩
        simp [this]
    | true =>
      refine ⟨y ^^^ checkAt B p, .add h1 (List.mem_map.mpr ⟨p, hp, rfl⟩), Nat.xor_lt_two_pow h2 (check_lt h hB hp), fun q hq => ?_⟩
      rw [xor_bit, h3 q hq, check_free h hp hq]
      by_cases e : q = p
      · subst e
        rw [hx]
        simp [nd'.1]
      · have : (q ∈ p :: l) ↔ q ∈ l := ⟨fun z => (List.mem_cons.mp z).resolve_left e, List.mem_cons_of_mem _⟩
        simp [this, e]
theorem free_nodup (n : Nat) (B : List Nat) : (freeOf n B).Nodup := List.nodup_range.filter _
theorem checkL_lt {n : Nat} {B : List Nat} (h : RR B) (hB : ∀ r ∈ B, r < 2 ^ n) : ∀ c ∈ checkL n B, c < 2 ^ n := fun c hc => by
  obtain ⟨p, hp, e⟩ := List.mem_map.mp hc
  rw [← e]
  exact check_lt h hB hp
/-- the checks are all words that are even with all -/
theorem checks_dual {n : Nat} {B : List Nat} (h : RR B) (hB : ∀ r ∈ B, r < 2 ^ n) (x : Nat) : Sp (checkL n B) x ↔ Dl n B x := by
  constructor
  · intro hx
    refine ⟨Sp.lt (checkL_lt h hB) hx, fun b hb => ?_⟩
    rw [dot_comm]
    refine dot_sp (fun c hc => ?_) hx
    obtain ⟨p, hp, e⟩ := List.mem_map.mp hc
    rw [← e, dot_comm]
    exact check_even h hp hb
  · intro hx
    obtain ⟨y, h1, h2, h3⟩ := sum_bits h hB x (freeOf n B) (free_nodup n B) fun _ hp => hp
    have hy : Dl n B y := ⟨h2, fun b hb => by
      rw [dot_comm]
      refine dot_sp (fun c hc => ?_) h1
      obtain ⟨p, hp, e⟩ := List.mem_map.mp hc
      rw [← e, dot_comm]
      exact check_even h hp hb⟩
    have hz := hx.xor hy
    have hf : ∀ p ∈ freeOf n B, (x ^^^ y).testBit p = false := fun p hp => by
      rw [xor_bit, h3 p hp]
      simp [hp]
    have e := zero_of hz.1 hf fun r hr => by
      have := hz.2 r hr
      rw [dot_only h hr hz.1 hf] at this
      exact this
    rw [xor_zero_eq e]
    exact h1
theorem checksOf_dual {n : Nat} {B : List Nat} (h : RR B) (hB : ∀ r ∈ B, r < 2 ^ n) (x : Nat) : Sp (checksOf n B) x ↔ Dl n B x := (basisOf_same _ x).trans (checks_dual h hB x)
theorem checksOf_lt {n : Nat} {B : List Nat} (h : RR B) (hB : ∀ r ∈ B, r < 2 ^ n) : ∀ c ∈ checksOf n B, c < 2 ^ n := fun c hc => basisOf_lt (checkL_lt h hB) hc
/-- even with all checks: in the span -/
theorem dual_dual {n : Nat} {B : List Nat} (h : RR B) (hB : ∀ r ∈ B, r < 2 ^ n) {z : Nat} (hz : z < 2 ^ n) (hd' : ∀ x, Dl n B x → dot z x = false) : Sp B z := by
  have hs := rem_span B z
  have hr : rem B z < 2 ^ n := rem_lt hB hz
  have e0 : rem B z = 0 := by
    refine zero_of hr (fun p hp => ?_) fun r hr => rem_heads h hr
    have hc : Dl n B (checkAt B p) := ⟨check_lt h hB hp, fun b hb => check_even h hp hb⟩
    have h1 : dot (rem B z) (checkAt B p) = false := by
      have h2 : dot (checkAt B p) (z ^^^ rem B z) = false := hc.sp hs
      rw [dot_xor, dot_comm, hd' _ hc] at h2
      rw [dot_comm]
      simpa using h2
    have e : rem B z &&& checkAt B p = if (rem B z).testBit p = true then 2 ^ p else 0 := by
      refine Nat.eq_of_testBit_eq fun i => ?_
      rw [Nat.testBit_and, check_bit h hp]
      by_cases hi : i = p
      · subst hi
        cases (rem B z).testBit i with
        | true => simp [Nat.testBit_two_pow]
        | false => simp
      · have h0 : ((rem B z).testBit i && decide (i = p ∨ ∃ r ∈ B, r.testBit p = true ∧ hd r = i)) = false := by
          rcases Classical.em (∃ r ∈ B, r.testBit p = true ∧ hd r = i) with ⟨r, hr, _, e⟩ | z
          · rw [← e, rem_heads h hr]
            rfl
          · rw [decide_eq_false fun y => y.elim hi z]
            simp
        rw [h0]
        cases (rem B z).testBit p with
        | true =>
          have hi2 : ¬ p = i := fun z => hi z.symm
          simp [Nat.testBit_two_pow, hi2]
        | false => simp
    unfold dot at h1
    rw [e] at h1
    cases hb : (rem B z).testBit p with
    | false => rfl
    | true =>
      rw [hb, if_pos rfl, pop_two] at h1
      cases h1
  rw [e0, Nat.xor_zero] at hs
  exact hs
theorem checks_twice {n : Nat} {B : List Nat} (h : RR B) (o : B.Pairwise (· ≥ ·)) (hB : ∀ r ∈ B, r < 2 ^ n) : checksOf n (checksOf n B) = B := by
  have h1 : RR (checksOf n B) := basisOf_rr _
  have h2 := checksOf_lt h hB
  refine (basis_uniq h o fun x => ?_).symm
  rw [show Sp (checkL n (checksOf n B)) x ↔ _ from checks_dual h1 h2 x]
  constructor
  · intro hx
    refine ⟨Sp.lt hB hx, fun c hc => ?_⟩
    rw [dot_comm]
    exact ((checksOf_dual h hB c).mp (.mem hc)).sp hx
  · intro hx
    refine dual_dual h hB hx.1 fun y hy => hx.sp ((checksOf_dual h hB y).mpr hy)
end Du
set_option Elab.async false
set_option linter.all false
set_option maxRecDepth 100000
set_option maxHeartbeats 2000000
/-! dimensions -/
namespace Du
open Fx Wd Gf
def dim (ws : List Nat) : Nat := (basisOf ws).length
theorem dim_congr {ws us : List Nat} (h : Same ws us) : dim ws = dim us := by
  unfold dim
  rw [basisOf_congr h]
theorem span_nodup_rr {B : List Nat} (h : RR B) (o : B.Pairwise (· ≥ ·)) : (spanOf B).Nodup := (span_ord h o).imp Nat.ne_of_lt
theorem nodup_eq {l m : List Nat} (hl : l.Nodup) (hm : m.Nodup) (h : ∀ x, x ∈ l ↔ x ∈ m) : l.length = m.length := ((List.perm_ext_iff_of_nodup hl hm).mpr h).length_eq
theorem filter_two (p : Nat → Bool) : ∀ l : List Nat, (l.filter p).length + (l.filter fun i => !p i).length = l.length
  | [] => rfl
  | a :: l => by
    have := filter_two p l
    cases h : p a <;> simp [h] <;> omega
theorem two_inj {a b : Nat} (h : 2 ^ a = 2 ^ b) : a = b := by
  rcases Nat.lt_trichotomy a b with z | z | z
  · have := Nat.pow_lt_pow_right (a := 2) (by decide) z; omega
  · exact z
  · have := Nat.pow_lt_pow_right (a := 2) (by decide) z; omega
/-- words whose sums are all unlike: as many as the dimension -/
theorem dim_of {C : List Nat} (h : (spanOf C).Nodup) : dim C = C.length := by
  have h2 := span_nodup_rr (basisOf_rr C) (basis_ord C)
  have e := nodup_eq h h2 fun x => by rw [span_mem, span_mem]; exact (basisOf_same C x).symm
  rw [span_length, span_length] at e
  exact (two_inj e).symm
/-- each word has a place of its own, which those behind it lack -/
inductive Piv : List Nat → Prop
  | nil : Piv []
  | cons {c : Nat} {C : List Nat} (p : Nat) : c.testBit p = true → (∀ r ∈ C, r.testBit p = false) → Piv C → Piv (c :: C)
theorem Piv.nodup {C : List Nat} (h : Piv C) : (spanOf C).Nodup := by
  induction h with
  | nil => exact List.pairwise_singleton _ _
  | @cons c C p hc hC _ ih =>
    rw [span_cons]
    refine List.nodup_append.mpr ⟨ih, ?_, fun x hx y hy e => ?_⟩
    · rw [List.nodup_iff_pairwise_ne, List.pairwise_map]
      refine (List.nodup_iff_pairwise_ne.mp ih).imp fun {x y} hne e => hne ?_
      have := congrArg (· ^^^ c) e
      simpa [xor_cancel] using this
    · obtain ⟨z, hz, e2⟩ := List.mem_map.mp hy
      have h1 : x.testBit p = false := Sp.bits hC ((span_mem x C).mp hx)
      have h2 : z.testBit p = false := Sp.bits hC ((span_mem z C).mp hz)
      rw [e, ← e2, xor_bit, h2, hc] at h1
      cases h1
theorem Piv.dim {C : List Nat} (h : Piv C) : dim C = C.length := dim_of h.nodup
theorem Piv.rr {B : List Nat} (h : RR B) : Piv B := by
  induction B with
  | nil => exact .nil
  | cons r B ih => exact .cons (hd r) (bit_hd (h.nz r List.mem_cons_self)) (fun s hs => ((List.pairwise_cons.mp h.pw).1 s hs).1) (ih h.tail)
theorem Piv.app {A B : List Nat} (hA : RR A) (hB : Piv B) (h : ∀ r ∈ B, ∀ a ∈ A, r.testBit (hd a) = false) : Piv (A ++ B) := by
  induction A with
  | nil => exact hB
  | cons a A ih =>
    refine .cons (hd a) (bit_hd (hA.nz a List.mem_cons_self)) (fun s hs => ?_) (ih hA.tail fun r hr b hb => h r hr b (List.mem_cons_of_mem _ hb))
    rcases List.mem_append.mp hs with z | z
    · exact ((List.pairwise_cons.mp hA.pw).1 s z).1
    · exact h s z a List.mem_cons_self
theorem dim_rr {B : List Nat} (h : RR B) : dim B = B.length := (Piv.rr h).dim
/-! as many checks as free places -/
theorem piv_checks {n : Nat} {B : List Nat} (h : RR B) : ∀ l : List Nat, l.Nodup → (∀ p ∈ l, p ∈ freeOf n B) → Piv (l.map (checkAt B))
  | [], _, _ => .nil
  | p :: l, nd, hl => by
    have nd' := List.nodup_cons.mp nd
    refine .cons p (by rw [check_free h (hl p List.mem_cons_self) (hl p List.mem_cons_self)]; simp) (fun r hr => ?_) (piv_checks h l nd'.2 fun q hq => hl q (List.mem_cons_of_mem _ hq))
    obtain ⟨q, hq, e⟩ := List.mem_map.mp hr
    rw [← e, check_free h (hl q (List.mem_cons_of_mem _ hq)) (hl p List.mem_cons_self)]
    exact decide_eq_false fun z => nd'.1 (by rw [z]; exact hq)
theorem checks_length {n : Nat} {B : List Nat} (h : RR B) : (checksOf n B).length = (freeOf n B).length := by
  have e := (piv_checks h (freeOf n B) (free_nodup n B) fun _ hp => hp).dim
  rw [List.length_map] at e
  exact e
theorem free_length {n : Nat} {B : List Nat} (h : RR B) (hB : ∀ r ∈ B, r < 2 ^ n) : (freeOf n B).length + B.length = n := by
  have h1 : ((List.range n).filter fun i => decide (i ∈ B.map hd)).length = (B.map hd).length := by
    refine nodup_eq (List.nodup_range.filter _) (heads_nodup h) fun x => ?_
    rw [List.mem_filter, List.mem_range]
    refine ⟨fun a => of_decide_eq_true a.2, fun a => ⟨?_, decide_eq_true a⟩⟩
    obtain ⟨r, hr, e⟩ := List.mem_map.mp a
    rw [← e]
    exact (Nat.log2_lt (h.nz r hr)).mpr (hB r hr)
  have h2 : ((List.range n).filter fun i => decide (i ∈ B.map hd)).length + ((List.range n).filter fun i => !decide (i ∈ B.map hd)).length = (List.range n).length := filter_two _ _
  rw [h1, List.length_map, List.length_range] at h2
  have e : freeOf n B = (List.range n).filter fun i => !decide (i ∈ B.map hd) := by
    unfold freeOf
    refine List.filter_congr fun i _ => ?_
    show decide (¬ i ∈ B.map hd) = !decide (i ∈ B.map hd)
    exact decide_not
  rw [e]
  omega
theorem checks_dim {n : Nat} {B : List Nat} (h : RR B) (hB : ∀ r ∈ B, r < 2 ^ n) : (checksOf n B).length + B.length = n := by
  rw [checks_length h]
  exact free_length h hB
/-! sums and meets -/
theorem Sp.left {A B : List Nat} {x : Nat} (h : Sp A x) : Sp (A ++ B) x := Sp.sub (fun w hw => .mem (List.mem_append_left _ hw)) h
theorem Sp.right {A B : List Nat} {x : Nat} (h : Sp B x) : Sp (A ++ B) x := Sp.sub (fun w hw => .mem (List.mem_append_right _ hw)) h
theorem Same.app {A A' B B' : List Nat} (h : Same A A') (g : Same B B') : Same (A ++ B) (A' ++ B') := by
  refine .of (fun w hw => ?_) fun w hw => ?_
  · rcases List.mem_append.mp hw with z | z
    · exact Sp.left ((h w).mp (.mem z))
    · exact Sp.right ((g w).mp (.mem z))
  · rcases List.mem_append.mp hw with z | z
    · exact Sp.left ((h w).mpr (.mem z))
    · exact Sp.right ((g w).mpr (.mem z))
theorem Same.swap (A B : List Nat) : Same (A ++ B) (B ++ A) := .perm List.perm_append_comm
def meetOf (n : Nat) (A B : List Nat) : List Nat := checksOf n (basisOf (checksOf n A ++ checksOf n B))
theorem app_lt {n : Nat} {A B : List Nat} (hA : ∀ r ∈ A, r < 2 ^ n) (hB : ∀ r ∈ B, r < 2 ^ n) : ∀ r ∈ A ++ B, r < 2 ^ n := fun r hr => by
  rcases List.mem_append.mp hr with z | z
  · exact hA r z
  · exact hB r z
theorem dual_app {n : Nat} {A B : List Nat} {x : Nat} : Dl n (A ++ B) x ↔ Dl n A x ∧ Dl n B x :=
  ⟨fun h => ⟨⟨h.1, fun w hw => h.2 w (List.mem_append_left _ hw)⟩, ⟨h.1, fun w hw => h.2 w (List.mem_append_right _ hw)⟩⟩,
   fun ⟨a, b⟩ => ⟨a.1, fun w hw => (List.mem_append.mp hw).elim (a.2 w) (b.2 w)⟩⟩
section
variable {n : Nat} {A B : List Nat} (hA : RR A) (hB : RR B) (lA : ∀ r ∈ A, r < 2 ^ n) (lB : ∀ r ∈ B, r < 2 ^ n)
include hA lA in
/-- even with the checks: in the span -/
theorem dual_checks {x : Nat} : Dl n (checksOf n A) x ↔ Sp A x := by
  constructor
  · intro h
    exact dual_dual hA lA h.1 fun y hy => h.sp ((checksOf_dual hA lA y).mpr hy)
  · intro h
    refine ⟨Sp.lt lA h, fun c hc => ?_⟩
    rw [dot_comm]
    exact ((checksOf_dual hA lA c).mp (.mem hc)).sp h
include hA hB lA lB
theorem meet_span {x : Nat} : Sp (meetOf n A B) x ↔ Sp A x ∧ Sp B x := by
  have l : ∀ r ∈ basisOf (checksOf n A ++ checksOf n B), r < 2 ^ n := fun r hr => basisOf_lt (app_lt (checksOf_lt hA lA) (checksOf_lt hB lB)) hr
  rw [show Sp (meetOf n A B) x ↔ _ from checksOf_dual (basisOf_rr _) l x, Dl.same (basisOf_same _), dual_app, dual_checks hA lA, dual_checks hB lB]
theorem meet_lt : ∀ r ∈ meetOf n A B, r < 2 ^ n := checksOf_lt (basisOf_rr _) fun r hr => basisOf_lt (app_lt (checksOf_lt hA lA) (checksOf_lt hB lB)) hr
/-- the checks of the meet: the sum of the checks -/
theorem checks_meet : checksOf n (meetOf n A B) = basisOf (checksOf n A ++ checksOf n B) :=
  checks_twice (basisOf_rr _) (basis_ord _) fun r hr => basisOf_lt (app_lt (checksOf_lt hA lA) (checksOf_lt hB lB)) hr
/-- the checks of the sum: the meet of the checks -/
theorem checks_sum : checksOf n (basisOf (A ++ B)) = meetOf n (checksOf n A) (checksOf n B) := by
  refine basisOf_congr fun x => ?_
  have l : ∀ r ∈ basisOf (A ++ B), r < 2 ^ n := fun r hr => basisOf_lt (app_lt lA lB) hr
  have h1 := checksOf_lt hA lA
  have h2 := checksOf_lt hB lB
  have e := meet_span (n := n) (A := checksOf n A) (B := checksOf n B) (basisOf_rr _) (basisOf_rr _) h1 h2 (x := x)
  have e2 : Sp (checkL n (basisOf (checksOf n (checksOf n A) ++ checksOf n (checksOf n B)))) x ↔ Sp (meetOf n (checksOf n A) (checksOf n B)) x := (basisOf_same _ x).symm
  rw [e2, e, checks_dual (basisOf_rr _) l, Dl.same (basisOf_same _), dual_app, checksOf_dual hA lA, checksOf_dual hB lB]
theorem meet_swap : meetOf n B A = meetOf n A B := by
  unfold meetOf
  rw [basisOf_congr (Same.swap (checksOf n B) (checksOf n A))]
end
/-! how dimensions add up -/
theorem rem_xor {B : List Nat} (h : RR B) (x y : Nat) : rem B (x ^^^ y) = rem B x ^^^ rem B y := by
  refine rem_uniq h (fun r hr => by rw [xor_bit, rem_heads h hr, rem_heads h hr]; rfl) ?_
  have := (rem_span B x).xor (rem_span B y)
  have e : (x ^^^ y) ^^^ (rem B x ^^^ rem B y) = (x ^^^ rem B x) ^^^ (y ^^^ rem B y) := by
    rw [← Nat.xor_assoc, xor_swap x y (rem B x), Nat.xor_assoc]
  rw [e]
  exact this
theorem rem_zero {B : List Nat} (h : RR B) : rem B 0 = 0 := (rem_zero_iff h).mpr .zero
theorem map_span {f : Nat → Nat} (h0 : f 0 = 0) (hf : ∀ x y, f (x ^^^ y) = f x ^^^ f y) : ∀ C : List Nat, spanOf (C.map f) = (spanOf C).map f
  | [] => by rw [List.map_nil]; show [0] = [f 0]; rw [h0]
  | c :: C => by
    rw [List.map_cons, span_cons, span_cons, map_span h0 hf C, List.map_append, List.map_map, List.map_map]
    congr 1
    refine List.map_congr_left fun x _ => ?_
    exact (hf x c).symm
theorem sp_map {f : Nat → Nat} (h0 : f 0 = 0) (hf : ∀ x y, f (x ^^^ y) = f x ^^^ f y) {C : List Nat} {y : Nat} : Sp (C.map f) y ↔ ∃ x, Sp C x ∧ f x = y := by
  rw [← span_mem, map_span h0 hf, List.mem_map]
  exact ⟨fun ⟨x, a, b⟩ => ⟨x, (span_mem x C).mp a, b⟩, fun ⟨x, a, b⟩ => ⟨x, (span_mem x C).mpr a, b⟩⟩
/-- what is left of other words when those of A are taken out -/
def restL (A B : List Nat) : List Nat := basisOf (B.map (rem A))
theorem rest_dim {A : List Nat} (hA : RR A) (B : List Nat) : dim (A ++ B) = A.length + (restL A B).length := by
  have hs : Same (A ++ B) (A ++ restL A B) := by
    refine (Same.of (fun w hw => ?_) fun w hw => ?_ : Same (A ++ B) (A ++ B.map (rem A))).trans (Same.app (.refl A) (basisOf_same _).symm)
    · rcases List.mem_append.mp hw with z | z
      · exact .mem (List.mem_append_left _ z)
      · have h1 : Sp (A ++ B.map (rem A)) (rem A w) := .mem (List.mem_append_right _ (List.mem_map.mpr ⟨w, z, rfl⟩))
        have h2 := (Sp.left (B := B.map (rem A)) (rem_span A w)).xor h1
        rwa [xor_cancel] at h2
    · rcases List.mem_append.mp hw with z | z
      · exact .mem (List.mem_append_left _ z)
      · obtain ⟨b, hb, e⟩ := List.mem_map.mp z
        have h1 : Sp (A ++ B) b := .mem (List.mem_append_right _ hb)
        have h2 := h1.xor (Sp.left (B := B) (rem_span A b))
        rw [← Nat.xor_assoc, Nat.xor_self, Nat.zero_xor] at h2
        rw [← e]
        exact h2
  rw [dim_congr hs]
  have hp : Piv (A ++ restL A B) := .app hA (.rr (basisOf_rr _)) fun r hr a ha => by
    have h1 : Sp (B.map (rem A)) r := (basisOf_same _ r).mp (.mem hr)
    refine Sp.bits (fun w hw => ?_) h1
    obtain ⟨b, _, e⟩ := List.mem_map.mp hw
    rw [← e]
    exact rem_heads hA ha
  rw [hp.dim, List.length_append]
theorem dim_meet {n : Nat} {A B : List Nat} (hA : RR A) (hB : RR B) (lA : ∀ r ∈ A, r < 2 ^ n) (lB : ∀ r ∈ B, r < 2 ^ n) : (meetOf n A B).length + dim (A ++ B) = A.length + B.length := by
  have hM : RR (meetOf n A B) := basisOf_rr _
  have hms := fun x => meet_span hA hB lA lB (x := x)
  generalize meetOf n A B = M at hM hms
  -- B is M and what is left of B
  have h1 : B.length = M.length + (restL M B).length := by
    rw [← rest_dim hM B, ← dim_rr hB]
    refine dim_congr (Same.of (fun w hw => Sp.right (.mem hw)) fun w hw => ?_)
    rcases List.mem_append.mp hw with z | z
    · exact ((hms w).mp (.mem z)).2
    · exact .mem z
  -- what is left of B without A is as long
  have h2 : (restL A B).length = (restL M B).length := by
    have hC : RR (restL M B) := basisOf_rr _
    have hCs : ∀ x, Sp (restL M B) x → Sp B x ∧ ∀ m ∈ M, x.testBit (hd m) = false := fun x hx => by
      have h3 : Sp (B.map (rem M)) x := (basisOf_same _ x).mp hx
      obtain ⟨y, hy, e⟩ := (sp_map (rem_zero hM) (rem_xor hM)).mp h3
      refine ⟨?_, fun m hm => by rw [← e]; exact rem_heads hM hm⟩
      have h4 : Sp B (y ^^^ rem M y) := Sp.sub (fun w hw => ((hms w).mp (.mem hw)).2) (rem_span M y)
      have h5 := hy.xor h4
      rw [← Nat.xor_assoc, Nat.xor_self, Nat.zero_xor, e] at h5
      exact h5
    have inj : ((spanOf (restL M B)).map (rem A)).Nodup := by
      rw [List.nodup_iff_pairwise_ne, List.pairwise_map]
      refine (List.Pairwise.and_mem.mp (List.nodup_iff_pairwise_ne.mp (Piv.rr hC).nodup)).imp fun {x y} hxy e => ?_
      obtain ⟨hx, hy, hne⟩ := hxy
      have hs := ((span_mem x _).mp hx).xor ((span_mem y _).mp hy)
      obtain ⟨s1, s2⟩ := hCs _ hs
      have s3 : Sp A (x ^^^ y) := (rem_zero_iff hA).mp (by rw [rem_xor hA, e, Nat.xor_self])
      have s4 : Sp M (x ^^^ y) := (hms _).mpr ⟨s3, s1⟩
      exact hne (xor_zero_eq (hM.zero s4 s2))
    have e1 : dim ((restL M B).map (rem A)) = (restL M B).length := by
      have := dim_of (C := (restL M B).map (rem A)) (by rw [map_span (rem_zero hA) (rem_xor hA)]; exact inj)
      rw [List.length_map] at this
      exact this
    rw [← e1]
    show dim (B.map (rem A)) = _
    refine dim_congr fun y => ?_
    rw [sp_map (rem_zero hA) (rem_xor hA), sp_map (rem_zero hA) (rem_xor hA)]
    constructor
    · rintro ⟨x, hx, e⟩
      -- take out M
      refine ⟨rem M x, ?_, ?_⟩
      · exact (basisOf_same _ _).mpr ((sp_map (rem_zero hM) (rem_xor hM)).mpr ⟨x, hx, rfl⟩)
      · have h4 : Sp A (x ^^^ rem M x) := Sp.sub (fun w hw => ((hms w).mp (.mem hw)).1) (rem_span M x)
        rw [← e]
        exact ((rem_eq_iff hA).mpr h4).symm
    · rintro ⟨x, hx, e⟩
      exact ⟨x, (hCs x hx).1, e⟩
  rw [rest_dim hA B, h2]
  omega
end Du
namespace Du
open Fx Wd Gf
/-- a basis of words of n places -/
structure Bas (n : Nat) (B : List Nat) : Prop where
  n1000 : n ≤ 1000
  rr : RR B
  lt : ∀ r ∈ B, r < 2 ^ n
theorem Bas.len {n : Nat} {B : List Nat} (h : Bas n B) : B.length ≤ n := by
  have := free_length h.rr h.lt
  omega
theorem Bas.hd {n : Nat} {B : List Nat} (h : Bas n B) {r : Nat} (hr : r ∈ B) : hd r < n := (Nat.log2_lt (h.rr.nz r hr)).mpr (h.lt r hr)
theorem Bas.of {n : Nat} {ws : List Nat} (h0 : n ≤ 1000) (h : ∀ a ∈ ws, a < 2 ^ n) : Bas n (basisOf ws) := ⟨h0, basisOf_rr ws, fun r hr => basisOf_lt h hr⟩
theorem Bas.checks {n : Nat} {B : List Nat} (h : Bas n B) : Bas n (checksOf n B) := ⟨h.n1000, basisOf_rr _, checksOf_lt h.rr h.lt⟩
theorem Bas.app {n : Nat} {A B : List Nat} (h : Bas n A) (g : Bas n B) : Bas n (basisOf (A ++ B)) := .of h.n1000 (app_lt h.lt g.lt)
theorem checkL_length (n : Nat) (B : List Nat) : (checkL n B).length ≤ n := by
  unfold checkL freeOf
  rw [List.length_map]
  have := List.length_filter_le (fun i => decide (i ∉ B.map Wd.hd)) (List.range n)
  rw [List.length_range] at this
  exact this
end Du
set_option Elab.async false
set_option linter.all false
set_option maxRecDepth 100000
set_option maxHeartbeats 2000000
/-! more rules: lists times a number, list(range), the last one popped -/
namespace Fx
open PySem L2 PyProof.Rows
section
variable {K : PySem.W.Frag} {E : List Sl} {te ta : TE} {Φ : Sl → List Sl → Prop} {R : Rp} {i j s : Nat} {nx : List Sl → Prop} {rt : Sl → List Sl → Prop} {bk ct : List Sl → Prop} {rs ss : List Rp}
theorem rep_one (v : V) : ∀ n : Nat, (List.replicate n [v]).flatten = List.replicate n v
  | 0 => rfl
  | n + 1 => by rw [List.replicate_succ, List.flatten_cons, rep_one v n, List.replicate_succ]; rfl
theorem vr_rep {H : Hp} {v : V} (hv : R.r v H) : ∀ n : Nat, Vr H (List.replicate n v) (List.replicate n R)
  | 0 => .nil
  | n + 1 => .cons hv (vr_rep hv n)
theorem opc_rep1 {n : Nat} (h : n ≤ 100000) : OPC K rRep (.lst [R]) (.im (rN n)) (.own (List.replicate n R)) := fun H x y ⟨a, vs, h1, h2, h3⟩ e1 Q q => by
  subst h1
  have e1 : y = .int (n : Int) := e1
  subst e1
  cases h3 with
  | cons hv t =>
    cases t
    refine ⟨a, (n : Int), _, rfl, rfl, h2, by omega, by omega, by rw [sizeLine_eq]; show 1 * _ ≤ _; omega, fun p hp => ?_⟩
    rw [Int.toNat_natCast, rep_one]
    exact q _ _ (res_newL hp (vr_rep hv n))
theorem we_lstRg {n : Nat} (h : WE K ta E fun k E1 => ∃ n : Nat, k = .im (rN n) ∧ n ≤ 16777216 ∧ Φ (.own ((List.range n).map rN)) E1) : WE K (tLstRg (tRg1 ta)) E Φ := fun H0 O0 σ T H hl ok Q q =>
  h H0 O0 σ T H hl ok _ fun k E1 ⟨n, e, hn, p⟩ l v H2 ok2 => by
    subst e
    obtain ⟨w, e, hw⟩ := ok2.head
    cases e
    refine ⟨(n : Int), hw, .of_le (by omega) (by omega) (by omega) (by omega), fun q' hq => q _ E1 p l _ _ (ok2.tail.newL hq ?_)⟩
    unfold rgV
    rw [Int.sub_zero, Int.toNat_natCast]
    have e : ∀ l : List Nat, Vr H2 (l.map fun (i : Nat) => V.int (0 + (i : Int))) (l.map rN) := by
      intro l
      induction l with
      | nil => exact .nil
      | cons a l ih => exact .cons (by show V.int _ = V.int _; rw [Int.zero_add]) ih
    exact e _
/-- waiting.pop() -/
theorem we_popL (hi : E[i]? = some (.own rs)) (hR : rs[rs.length - 1]? = some R) (p : Φ (.im R) (E.set i (.own rs.dropLast))) : WE K (tBM0 K "list" rPop (tVar i)) E Φ := fun H0 O0 σ T H hl ok Q q => by
  obtain ⟨o, L, ho, ok3, back⟩ := ok.at' hl hi
  obtain ⟨a, us, e, h3, h4, _⟩ := ok3.head
  have e : o = some (.ref a) := e
  subst e
  obtain ⟨x, hx, hr⟩ := h4.get hR
  refine ⟨.ref a, ho, Or.inl ⟨rfl, _, Or.inl (Or.inl h3)⟩, a, us, x, rfl, rfl, h3, by rw [h4.len]; exact hx, ?_⟩
  have hd : Vr H us.dropLast rs.dropLast := by
    have := h4.take (rs.length - 1)
    rw [← List.dropLast_eq_take] at this
    rw [List.dropLast_eq_take (l := us), h4.len]
    exact this
  have ok4 := ok3.chL rfl hd
  have ok5 := (back T _ _ ok4).im (R := R) (v := x) (Rp.st _ (Im.mut h3 rfl sk_lst) hr)
  exact q _ _ p (by simp) x _ ok5
end
end Fx
/-! binomials by twos -/
namespace Bn
def rowStep (few : Nat) (row : List Nat) : List Nat := 1 :: (List.range few).map fun i => row.getD i 0 + row.getD (i + 1) 0 * 2 ^ (i + 1)
def binRow (few : Nat) : Nat → List Nat
  | 0 => 1 :: List.replicate few 0
  | k + 1 => rowStep few (binRow few k)
def binF (many few : Nat) : Nat := (binRow few many).getD few 0
def topK (many : Nat) : Nat → Nat
  | 0 => 1
  | k + 1 => topK many k * (if k < many then 2 ^ (many - k) - 1 else 0)
def botK : Nat → Nat
  | 0 => 1
  | k + 1 => botK k * (2 ^ (k + 1) - 1)
theorem row_len (few : Nat) : ∀ k, (binRow few k).length = few + 1
  | 0 => by simp [binRow]
  | k + 1 => by simp [binRow, rowStep]
theorem row_lt {few : Nat} (hf : few ≤ 24) : ∀ k, ∀ x ∈ binRow few k, x < 2 ^ (26 * k + 1)
  | 0, x, hx => by
    rcases List.mem_cons.mp hx with z | z
    · rw [z]; decide
    · rw [(List.mem_replicate.mp z).2]; decide
  | k + 1, x, hx => by
    have ih := row_lt hf k
    have g : ∀ i, (binRow few k).getD i 0 < 2 ^ (26 * k + 1) := fun i => by
      by_cases h : i < (binRow few k).length
      · rw [List.getD_eq_getElem?_getD, List.getElem?_eq_getElem h]
        exact ih _ (List.getElem_mem h)
      · rw [List.getD_eq_getElem?_getD, List.getElem?_eq_none (by omega)]
        exact Nat.two_pow_pos _
    have e : 2 ^ (26 * (k + 1) + 1) = 2 ^ (26 * k + 1) * 2 ^ 26 := by rw [← Nat.pow_add]; congr 1
    have p := Nat.two_pow_pos (26 * k + 1)
    rcases List.mem_cons.mp hx with z | z
    · rw [z, e]
      omega
    · obtain ⟨i, hi, z⟩ := List.mem_map.mp z
      have hi := List.mem_range.mp hi
      have h1 := g i
      have h2 := g (i + 1)
      have h3 : 2 ^ (i + 1) ≤ 2 ^ 24 := Nat.pow_le_pow_right (by decide) (by omega)
      have h4 : (binRow few k).getD (i + 1) 0 * 2 ^ (i + 1) ≤ 2 ^ (26 * k + 1) * 2 ^ 24 := Nat.mul_le_mul (by omega) h3
      rw [← z, e]
      have e2 : 2 ^ (26 * k + 1) * 2 ^ 26 = 2 ^ (26 * k + 1) * 2 ^ 24 * 4 := by rw [Nat.mul_assoc]
      have : 2 ^ (26 * k + 1) ≤ 2 ^ (26 * k + 1) * 2 ^ 24 := Nat.le_mul_of_pos_right _ (by decide)
      omega
theorem top_lt {many : Nat} (hm : many ≤ 24) : ∀ k, topK many k < 2 ^ (25 * k + 1)
  | 0 => by show 1 < 2; decide
  | k + 1 => by
    have ih := top_lt hm k
    have h : (if k < many then 2 ^ (many - k) - 1 else 0) < 2 ^ 24 := by
      split
      · have : 2 ^ (many - k) ≤ 2 ^ 24 := Nat.pow_le_pow_right (by decide) (by omega)
        have := Nat.two_pow_pos (many - k)
        omega
      · decide
    have e : 2 ^ (25 * (k + 1) + 1) = 2 ^ (25 * k + 1) * 2 ^ 25 := by rw [← Nat.pow_add]; congr 1
    show topK many k * _ < _
    rw [e]
    have p := Nat.two_pow_pos (25 * k + 1)
    exact Nat.lt_of_le_of_lt (Nat.mul_le_mul (Nat.le_of_lt ih) (Nat.le_of_lt h)) (Nat.mul_lt_mul_of_pos_left (by decide) p)
theorem bot_lt : ∀ k, k ≤ 25 → 0 < botK k ∧ botK k < 2 ^ (26 * k + 1)
  | 0, _ => ⟨by decide, by decide⟩
  | k + 1, hk => by
    obtain ⟨i0, ih⟩ := bot_lt k (by omega)
    have h : 2 ^ (k + 1) - 1 < 2 ^ 25 := by
      have : 2 ^ (k + 1) ≤ 2 ^ 25 := Nat.pow_le_pow_right (by decide) (by omega)
      have := Nat.two_pow_pos (k + 1)
      omega
    have h0 : 0 < 2 ^ (k + 1) - 1 := by
      have : 2 ^ 1 ≤ 2 ^ (k + 1) := Nat.pow_le_pow_right (by decide) (by omega)
      omega
    have e : 2 ^ (26 * (k + 1) + 1) = 2 ^ (26 * k + 1) * 2 ^ 26 := by rw [← Nat.pow_add]; congr 1
    refine ⟨Nat.mul_pos i0 h0, ?_⟩
    show botK k * _ < _
    rw [e]
    have p := Nat.two_pow_pos (26 * k + 1)
    exact Nat.lt_of_le_of_lt (Nat.mul_le_mul (Nat.le_of_lt ih) (Nat.le_of_lt h)) (Nat.mul_lt_mul_of_pos_left (by decide) p)
theorem bin_all : ((List.range 25).all fun many => (List.range 25).all fun few => binF many few == topK many few / botK few) = true := by decide +kernel
theorem bin_eq {many few : Nat} (h1 : many < 25) (h2 : few < 25) : binF many few = topK many few / botK few := by
  have := List.all_eq_true.mp (List.all_eq_true.mp bin_all many (List.mem_range.mpr h1)) few (List.mem_range.mpr h2)
  exact beq_iff_eq.mp this
theorem bin_same_all : ((List.range 25).all fun many => binF many many == 1) = true := by decide +kernel
theorem bin_same {many : Nat} (h1 : many < 25) : binF many many = 1 := beq_iff_eq.mp (List.all_eq_true.mp bin_same_all many (List.mem_range.mpr h1))
end Bn
set_option Elab.async false
set_option linter.all false
set_option maxRecDepth 100000
set_option maxHeartbeats 2000000
namespace Fx
open PySem L2 PyProof.Rows
section
variable {K : PySem.W.Frag} {E : List Sl} {te : TE} {ta : TA} {Φ : Sl → List Sl → Prop} {R : Rp} {i j l : Nat} {nx : List Sl → Prop} {rt : Sl → List Sl → Prop} {bk ct : List Sl → Prop}
theorem opc_eqNil {ws : List Nat} : OPC K (rEqD K) (.lst (ws.map rN)) (.lst []) (.im (rB (decide (ws = [])))) := by
  have h := opc_eqD (K := K) (dpc_lst (dp_nd (ws := ws))) (dpc_lst (rs := []) (ds := []) .nil) sh_ln (sh_list rfl (by decide))
  have e : PyData.eqv (.list (nd ws)) (.list []) = decide (ws = []) := by
    cases ws with
    | nil => rfl
    | cons a l => rfl
  rw [e] at h
  exact h
theorem opc_neNilT {ws : List Nat} : OPC K (rNeD K) (.im (rT K (ws.map rN))) (.im (rT K [])) (.im (rB (decide (ws ≠ [])))) := by
  have h := opc_neD (K := K) (dpc_im (dp_T (dp_nd (ws := ws)))) (dpc_im (dp_T (rs := []) (ds := []) .nil)) sh_tn (sh_tup rfl (by decide))
  have e : (!PyData.eqv (.tuple (nd ws)) (.tuple [])) = decide (ws ≠ []) := by
    cases ws with
    | nil => rfl
    | cons a l => rfl
  rw [e] at h
  exact h
theorem ws_par3 (h : WA K ta E fun ks E1 => ∃ k1 k2 k3, ks = [k1, k2, k3] ∧ nx (((E1.set i k1).set j k2).set l k3)) : WS K (tPar3 i j l ta) E nx rt bk ct := fun H0 O0 σ T H D hl ok n r b c =>
  h H0 O0 σ T H hl ok _ fun ks E1 ⟨k1, k2, k3, e, p⟩ l vs H2 lv ok2 => by
    subst e
    match vs, lv with
    | [u, v, w], _ =>
      refine ⟨u, v, w, rfl, n _ p _ H2 (by simp [l, hl]) ?_⟩
      have s1 := Ok.store (T := (some v, k2) :: (some w, k3) :: T) i (by omega) (ok2 : Ok K H0 O0 H2 ((some u, k1) :: (((some v, k2) :: (some w, k3) :: T) ++ σ.zip E1)))
      have s2 := Ok.store (T := (some w, k3) :: T) j (by simp [l, hl]) (s1 : Ok K H0 O0 H2 ((some v, k2) :: (((some w, k3) :: T) ++ (σ.set i (some u)).zip (E1.set i k1))))
      exact Ok.store (T := T) _ (by simp [l, hl]) (s2 : Ok K H0 O0 H2 ((some w, k3) :: (T ++ ((σ.set i (some u)).set j (some v)).zip ((E1.set i k1).set j k2))))
/-- a, b = e, f where e and f may be new lists -/
theorem ws_asgTu (h : WA K ta E fun ks E1 => ∃ k1 k2, ks = [k1, k2] ∧ nx ((E1.set i k1).set j k2)) : WS K (tAsg (tTup ta) (gTup K 2 (gCons (gName i) (gCons (gName j) gNil)))) E nx rt bk ct := fun H0 O0 σ T H D hl ok n r b c =>
  h H0 O0 σ T H hl ok _ fun ks E1 ⟨k1, k2, e, p⟩ l vs H2 lv ok2 => by
    subst e
    match vs, lv with
    | [v, w], _ =>
      refine ⟨by rw [sizeLine_eq]; show 2 ≤ _; decide, fun a ha => ⟨a, [v, w], rfl, SqT.of upd_same, rfl, _, _, rfl, _, _, rfl, rfl, n _ p _ _ (by simp [l, hl]) ?_⟩⟩
      have ok3 : Ok K H0 O0 (upd H2 a (.tup [v, w])) _ := ok2.ext (upd_keep ha)
      have q : Ok K H0 O0 (upd H2 a (.tup [v, w])) ((some w, k2) :: (T ++ (σ.set i (some v)).zip (E1.set i k1))) :=
        Ok.store (T := (some w, k2) :: T) i (by omega) (ok3 : Ok K H0 O0 _ ((some v, k1) :: (((some w, k2) :: T) ++ σ.zip E1)))
      exact q.store j (by simp [l, hl])
theorem ws_asgT3 (h : WE K te E fun k E1 => ∃ R1 R2 R3, k = .im (rT K [R1, R2, R3]) ∧ nx (((E1.set i (.im R1)).set j (.im R2)).set l (.im R3))) : WS K (tAsg te (gTup K 3 (gCons (gName i) (gCons (gName j) (gCons (gName l) gNil))))) E nx rt bk ct := fun H0 O0 σ T H D hl ok n r b c =>
  h H0 O0 σ T H hl ok _ fun k E1 ⟨R1, R2, R3, e, p⟩ l v H2 ok2 => by
    subst e
    obtain ⟨w, e, a, vs, h1, h2, h3⟩ := ok2.head
    cases e
    subst h1
    cases h3 with
    | cons q1 t =>
      cases t with
      | cons q2 t =>
        cases t with
        | cons q3 t =>
          cases t
          refine ⟨a, [_, _, _], rfl, SqT.of h2, rfl, _, _, rfl, _, _, rfl, _, _, rfl, rfl, n _ p _ H2 (by simp [l, hl]) ?_⟩
          have s1 := (ok2.tail.im q1).store i (by omega)
          have s2 := (s1.im q2).store j (by simp [l, hl])
          exact (s2.im q3).store _ (by simp [l, hl])
end
end Fx
namespace Du
open Fx Wd Gf
/-- all words that are even with these, by a look at all words -/
def evenL (n : Nat) (ws : List Nat) : List Nat := (List.range (2 ^ n)).filter fun w => decide ((ws.filter fun m => decide (pop (w &&& m) % 2 = 1)) = [])
theorem mem_evenL {n : Nat} {ws : List Nat} {x : Nat} : x ∈ evenL n ws ↔ Dl n ws x := by
  unfold evenL Dl
  rw [List.mem_filter, List.mem_range]
  refine and_congr Iff.rfl ⟨fun h w hw => ?_, fun h => decide_eq_true (List.filter_eq_nil_iff.mpr fun w hw => ?_)⟩
  · have := List.filter_eq_nil_iff.mp (of_decide_eq_true h) w hw
    unfold dot
    exact decide_eq_false fun z => this (decide_eq_true z)
  · have := h w hw
    unfold dot at this
    rw [this]
    decide
theorem basis_evenL {n : Nat} {ws : List Nat} (h : ∀ a ∈ ws, a < 2 ^ n) : basisOf (evenL n ws) = checksOf n (basisOf ws) := by
  have key : ∀ x, Sp (checkL n (basisOf ws)) x ↔ Dl n ws x := fun x => (checks_dual (basisOf_rr ws) (fun r hr => basisOf_lt h hr) x).trans (Dl.same (basisOf_same ws))
  refine basisOf_congr (Same.of (fun w hw => (key w).mpr (mem_evenL.mp hw)) fun c hc => .mem (mem_evenL.mpr ((key c).mp (.mem hc))))
theorem evenL_lt {n : Nat} {ws : List Nat} {x : Nat} (h : x ∈ evenL n ws) : x < 2 ^ n := (mem_evenL.mp h).1
def bothL (A B : List Nat) : List Nat := (spanOf A).filter fun w => decide (w ∈ spanOf B)
theorem mem_both {A B : List Nat} {x : Nat} : x ∈ bothL A B ↔ Sp A x ∧ Sp B x := by
  unfold bothL
  rw [List.mem_filter, span_mem]
  exact and_congr Iff.rfl ⟨fun h => (span_mem _ _).mp (of_decide_eq_true h), fun h => decide_eq_true ((span_mem _ _).mpr h)⟩
theorem both_basis {n : Nat} {A B : List Nat} (hA : Bas n A) (hB : Bas n B) : basisOf (bothL A B) = meetOf n A B := by
  have hm := fun x => meet_span hA.rr hB.rr hA.lt hB.lt (x := x)
  refine (basis_uniq (basisOf_rr _) (basis_ord _) ?_).symm
  exact Same.of (fun w hw => .mem (mem_both.mpr ((hm w).mp (.mem hw)))) fun w hw => (hm w).mpr (mem_both.mp hw)
theorem both_len {n : Nat} {A B : List Nat} (hA : Bas n A) (hB : Bas n B) (oA : A.Pairwise (· ≥ ·)) : (bothL A B).length = 2 ^ (meetOf n A B).length := by
  have hm := fun x => meet_span hA.rr hB.rr hA.lt hB.lt (x := x)
  rw [← span_length]
  refine nodup_eq ((span_nodup_rr hA.rr oA).filter _) (span_nodup_rr (basisOf_rr _) (basis_ord _)) fun x => ?_
  rw [mem_both, span_mem]
  exact (hm x).symm
theorem dim_app {ws us : List Nat} : (basisOf (ws ++ us)).length = dim (basisOf ws ++ basisOf us) := dim_congr (Same.app (basisOf_same ws).symm (basisOf_same us).symm)
theorem basis_app (ws us : List Nat) : basisOf (ws ++ us) = basisOf (basisOf ws ++ basisOf us) := basisOf_congr (Same.app (basisOf_same ws).symm (basisOf_same us).symm)
theorem checks_idem (n : Nat) (B : List Nat) : basisOf (checksOf n B) = checksOf n B := basisOf_idem _
theorem meet_idem (n : Nat) (A B : List Nat) : basisOf (meetOf n A B) = meetOf n A B := basisOf_idem _
end Du
namespace Lb
open Fx Wd Gf
theorem held_len {ws us : List Nat} (hw : ∀ a ∈ ws, a < 2 ^ 50) (hs : ∀ a ∈ us, a ∈ ws) : (us.foldl insD []).length ≤ 60 := by
  obtain ⟨hm, hsame⟩ := walk1 us
  have h1 : (keys (us.foldl insD [])).length ≤ (List.range 50).length := by
    have : ((keys (us.foldl insD [])).filter fun _ => true).length ≤ (List.range 50).length := by
      rw [List.filter_true']
      have e := Du.nodup_eq (l := keys (us.foldl insD [])) (m := (List.range 50).filter fun i => decide (i ∈ keys (us.foldl insD []))) hm.nd (List.nodup_range.filter _) fun x => by
        rw [List.mem_filter, List.mem_range]
        refine ⟨fun h => ⟨?_, decide_eq_true h⟩, fun h => of_decide_eq_true h.2⟩
        obtain ⟨v, hv⟩ := get_key h
        obtain ⟨v0, ev⟩ := hm.ok x v hv
        have h2 : Sp us v := (hsame v).mp (.mem ((mem_vals hm.nd).mpr ⟨x, hv⟩))
        rw [← ev]
        exact (Nat.log2_lt v0).mpr (Sp.lt (fun a ha => hw a (hs a ha)) h2)
      rw [e]
      exact List.length_filter_le _ _
    rw [List.filter_true'] at this
    exact this
  rw [List.length_range] at h1
  unfold keys at h1
  rw [List.length_map] at h1
  omega
end Lb
set_option Elab.async false
set_option linter.all false
set_option maxRecDepth 100000
set_option maxHeartbeats 2000000
/-! dicts whose keys are tuples of numbers -/
namespace Fx
open PySem L2 PyProof.Rows
abbrev toK (ks : List Nat) : List Key := ks.map fun (n : Nat) => (Sum.inl (n : Int) : Key)
abbrev dts (kss : List (List Nat)) : List (List Key × V) := kss.map fun ks => (toK ks, V.bl true)
theorem kV_toK (ks : List Nat) : (toK ks).map kV = (ks.map fun (n : Nat) => (n : Int)).map V.int := by
  unfold toK
  rw [List.map_map, List.map_map]
  rfl
theorem toK_inj {a b : List Nat} (h : toK a = toK b) : a = b := by
  induction a generalizing b with
  | nil => cases b with
    | nil => rfl
    | cons y b => cases h
  | cons x a ih => cases b with
    | nil => cases h
    | cons y b =>
      have h : (Sum.inl (x : Int) : Key) :: toK a = Sum.inl (y : Int) :: toK b := h
      injection h with h1 h2
      rw [ih h2]
      have := Sum.inl.inj h1
      have e : x = y := by omega
      rw [e]
theorem valV_dts (kss : List (List Nat)) (ks : List Nat) : (valV (dts kss) (toK ks)).isSome = decide (ks ∈ kss) := by
  induction kss with
  | nil => rfl
  | cons k kss ih =>
    by_cases h : k = ks
    · subst h
      rw [decide_eq_true List.mem_cons_self]
      show (valV ((toK k, V.bl true) :: dts kss) (toK k)).isSome = true
      rw [valV_pos rfl]
      rfl
    · have e : (ks ∈ k :: kss) ↔ ks ∈ kss := ⟨fun z => (List.mem_cons.mp z).resolve_left fun z => h z.symm, List.mem_cons_of_mem _⟩
      have e2 : valV (dts (k :: kss)) (toK ks) = valV (dts kss) (toK ks) := by
        show valV ((toK k, V.bl true) :: dts kss) (toK ks) = _
        unfold valV
        rw [List.find?_cons, decide_eq_false fun z => h (toK_inj z)]
      rw [e2, ih]
      exact decide_eq_decide.mpr e.symm
theorem putK_dts {kss : List (List Nat)} {ks : List Nat} (h : ks ∉ kss) : putK (dts kss) (toK ks) (V.bl true) = dts (kss ++ [ks]) := by
  unfold putK
  have e : ((dts kss).any fun kv => decide (kv.1 = toK ks)) = false := by
    rw [List.any_eq_false]
    intro kv hkv
    obtain ⟨k, hk, e⟩ := List.mem_map.mp hkv
    rw [← e]
    simp only [decide_eq_true_eq]
    exact fun z => h (by rw [← toK_inj z]; exact hk)
  rw [e, if_neg Bool.false_ne_true]
  unfold dts
  rw [List.map_append]
  rfl
/-- {k: v}, k a tuple of ints and texts -/
def tDispT1 (tk tv : TE) : TE := fun σ H Q => ∀ p, H p = none → tk σ (upd H p (.dT [])) fun x H1 => tv σ H1 fun y H2 => H2 p = some (.dT []) ∧ ∃ (b : Addr) (k : List Key), x = .ref b ∧ H2 b = some (.tup (k.map kV)) ∧ Q (.ref p) (upd H2 p (.dT [(k, y)]))
theorem wpAny_Dict_H {prog : Program} {w : World} {K : Type} [DecidableEq K] {knd : HeapKind prog w K} {A : Around} {E : Value → Shared → Prop} {s : Shared} {env : Env} {keys : List (Option Expr)} {values : List Expr} {pos : Pos} {pairs : List (Sem Value × Sem Value)} {Q : Value → Shared → Prop} (hu : knd.room A)
    (hshape : (evalEachOpt keys env).zip ((evalEach values env).map fun v => do let x ← v; standAt pos; pure x) = pairs.map fun p => (some p.1, p.2)) (h0 : pairs ≠ []) (hlen : pairs.length ≤ 15)
    (h : wpAny (model prog w) A (evalPairs pairs) (fun vs s₁ => ∃ ps, CarriesH knd s₁.heap vs ps ∧ s₁.heap.DictOfH knd s.heap.objs.size [] ∧
      ∀ h' tk, h'.DictOfH knd s.heap.objs.size (storedAllH [] ps) → Heap.SameBut s.heap.objs.size s₁.heap h' → Q (.ref s.heap.objs.size) { s₁ with heap := h', toks := tk }) E
      { s with heap := s.heap.push { cls := .type "dict", data := .dict #[] } }) :
    wpAny (model prog w) A (eval (.Dict keys values pos) env) Q E s := by
  rw [arm_eval_Dict, hshape, dictDisplay_pairs pairs h0 (by omega)]
  exact wpAny_bind (wpAny_standAt (wpAny_bind (wpAny_subDictH (knd := knd) (Q := fun d s' => wpAny (model prog w) A (pure (Value.ref d)) Q E s') hu hlen
    (wpAny_mono h (fun vs s₁ h₁ => by obtain ⟨ps, hc, hm, hq⟩ := h₁; exact ⟨ps, hc, hm, fun h' tk a b => wpAny_pure (hq h' tk a b)⟩) fun _ _ e => e))))
def oneP (P : V → V → Hp → Prop) : List (V × V) → Hp → Prop
  | [(x, y)], H => P x y H
  | _, _ => False
theorem oneP_of {P : V → V → Hp → Prop} {ps : List (V × V)} {H : Hp} (h : oneP P ps H) : ∃ x y, ps = [(x, y)] ∧ P x y H := by
  match ps, h with
  | [(x, y)], h => exact ⟨x, y, rfl, h⟩
theorem trees_ne (k v : Expr) (env : Env) (pos : Pos) : pairTrees [some k] [v] env pos ≠ [] := fun z => by
  have e := congrArg List.length z
  rw [pairTrees_length _ _ _ _ rfl rfl] at e
  cases e
theorem trees_le (k v : Expr) (env : Env) (pos : Pos) : (pairTrees [some k] [v] env pos).length ≤ 15 := by
  rw [pairTrees_length _ _ _ _ rfl rfl]
  show 1 ≤ 15
  decide
set_option maxHeartbeats 400000 in
theorem pe_dispT1 {X : Cx} {pos : Pos} {k v : Expr} {tk tv : TE} (hu : X.A.units + 1 < cLine) (hk : PE X k tk) (hv : PE X v tv) : PE X (.Dict [some k] [v] pos) (tDispT1 tk tv) := by
  refine ⟨fun pins s σ H Q I q => ?_⟩
  have hn := I.hok.fresh (Nat.le_refl s.heap.objs.size)
  have I1 := I.laid (a := s.heap.objs.size) (o := .dT []) (h' := s.heap.push { cls := .type "dict", data := .dict #[] }) (t' := s.toks) (fun _ _ q => Heap.get?_push_of_some _ q) (Nat.le_refl _) (dt_empty s.heap I.big)
  have hP := pps_cons hk hv (pps_nil (X := X) (pos := pos))
  have hroom : (tupleKind (mixKind X.prog X.w)).room X.A := Nat.lt_of_le_of_lt (Nat.le_succ X.A.units) hu
  refine wpAny_Dict_H (knd := tupleKind (mixKind X.prog X.w)) hroom (zip_pairTrees [some k] [v] X.env pos rfl rfl) (trees_ne k v X.env pos) (trees_le k v X.env pos) ?_
  have hq0 := q _ hn
  generalize s.heap.objs.size = d at hn I1 hq0 ⊢
  refine thn (hP.run pins _ σ _ (oneP fun x y H2 => H2 d = some (.dT []) ∧ ∃ (b : Addr) (k : List Key), x = .ref b ∧ H2 b = some (.tup (k.map kV)) ∧ Q (.ref d) (upd H2 d (.dT [(k, y)]))) I1 hq0) fun ws s2 hx => ?_
  obtain ⟨ps, H2, I2, rel, hq⟩ := hx
  obtain ⟨x, y, ep, hd0, b, kk, ex, hb, q2⟩ := oneP_of hq
  subst ep ex
  cases rel with
  | @cons p0 q0 ps0 qs0 h t =>
    cases t
    obtain ⟨rx, ry⟩ := h
    obtain ⟨xv, yv⟩ := q0
    have rx : RelV (.ref b) xv := rx
    have ry : RelV y yv := ry
    cases (show xv = Value.ref b from rx)
    obtain ⟨z, hd, xs, r0, dd⟩ := dt_of I2.hok hd0
    cases r0
    refine ⟨[(kk, b, yv)], ⟨rfl, rfl, key_of I2.hok hb, trivial⟩, dd, fun h' tk' dd' hs => ⟨.ref d, _, ?_, rfl, q2⟩⟩
    obtain ⟨o, es, ep, hq, h2, h3, h4, _, h5⟩ := dd'
    refine d_write I2 (by rw [hd0]; exact True.intro) hs ⟨o, hq⟩ ⟨by rw [sizeLine_eq]; show 1 ≤ _; decide, hd, [(kk, b, yv)], .cons ⟨rfl, ?_, ry⟩ .nil, o, es, ep, hq, h2, h3, h4, h5⟩
    show upd H2 d _ b = _
    rw [upd_ne (ne_of hb hd0 (fun z => nomatch z))]
    exact hb
end Fx
namespace Fx
open PySem L2 PyProof.Rows
section
variable {K : PySem.W.Frag} {E : List Sl} {te ta tk ty tv : TE} {tt : TT} {Φ : Sl → List Sl → Prop} {R : Rp} {i j s : Nat} {nx : List Sl → Prop} {rt : Sl → List Sl → Prop} {bk ct : List Sl → Prop}
theorem Ok.gotT {H0 : Hp} {O0 : List Addr} {H H' : Hp} {L : List (Option V × Sl)} (h : Ok K H0 O0 H L) (e : ∀ a u, H a = some u → H' a = some u) {p : Addr} (hp : H p = none) {us : List (List Key × V)} (h1 : H' p = some (.dT us)) : Ok K H0 O0 H' ((some (.ref p), .dit none us) :: L) := by
  have h' := h.ext e
  refine ⟨h'.fr, fun q hq => ?_, List.pairwise_cons.mpr ⟨fun q hq _ m z => ?_, h.ap⟩⟩
  · rcases List.mem_cons.mp hq with z | z
    · subst z
      exact ⟨p, rfl, h1, h.fresh hp⟩
    · exact h'.sl q z
  · obtain ⟨a, u, h1, h2, _⟩ := (h.sl q hq).addr m
    rw [← z] at h1
    cases h1
    rw [hp] at h2
    cases h2
theorem we_dispT1 (h : WE K tk E fun k1 E1 => ∃ ks : List Nat, k1 = .im (rT K (ks.map rN)) ∧ WE K tv E1 fun k2 E2 => k2 = .im (rB true) ∧ Φ (.dit none (dts [ks])) E2) : WE K (tDispT1 tk tv) E Φ := fun H0 O0 σ T H hl ok Q q => by
  intro p hp
  have ok1 : Ok K H0 O0 (upd H p (.dT [])) (((some (.ref p), .dit none []) :: T) ++ σ.zip E) := ok.gotT (upd_keep hp) hp upd_same
  refine h H0 O0 σ _ _ hl ok1 _ fun k1 E1 ⟨ks, e, h1⟩ l1 x H1 ok2 => ?_
  subst e
  refine h1 H0 O0 σ ((some x, .im (rT K (ks.map rN))) :: (some (.ref p), .dit none []) :: T) H1 (by omega) ok2 _ fun k2 E2 ⟨e, pp⟩ l2 y H2 ok3 => ?_
  subst e
  obtain ⟨w, e, hy⟩ := ok3.head
  cases e
  have hy : y = .bl true := hy
  subst hy
  obtain ⟨w, e, b, vs, e2, hb, hv⟩ := ok3.tail.head
  cases e
  subst e2
  obtain ⟨a, e, hd, _⟩ := ok3.tail.tail.head
  cases e
  have hvs := hv.nats
  subst hvs
  refine ⟨hd, b, toK ks, rfl, by rw [kV_toK]; exact hb, ?_⟩
  refine q _ E2 pp (by omega) _ _ ?_
  have ok4 : Ok K H0 O0 H2 ((some (.ref p), .dit none []) :: (T ++ σ.zip E2)) := ok3.tail.tail
  exact ok4.chg rfl upd_but upd_same trivial ⟨p, rfl, upd_same, (ok4.head.im_upd rfl (.dT []) trivial).2⟩
theorem dit_slot {H0 : Hp} {O0 : List Addr} {H : Hp} {T : List (Option V × Sl)} {σ : L2.St} {us : List (List Key × V)} (ok : Ok K H0 O0 H (T ++ σ.zip E)) (hl : σ.length = E.length) (h : E[i]? = some (.dit none us)) :
    ∃ a, σ[i]? = some (some (.ref a)) ∧ H a = some (.dT us) := by
  obtain ⟨o, h1, h2⟩ := zip_get hl h
  obtain ⟨a, e, h3, _⟩ := ok.sl _ (List.mem_append_right _ h2)
  have e : o = some (.ref a) := e
  subst e
  exact ⟨a, h1, h3⟩
theorem we_dnotinT (h : WE K ty E fun k1 E1 => ∃ (ks : List Nat) (kss : List (List Nat)), k1 = .im (rT K (ks.map rN)) ∧ E1[i]? = some (.dit none (dts kss)) ∧ Φ (.im (rB (!decide (ks ∈ kss)))) E1) : WE K (tDNotIn ty (tVar i)) E Φ := fun H0 O0 σ T H hl ok Q q =>
  h H0 O0 σ T H hl ok _ fun k1 E1 ⟨ks, kss, e, hd, p⟩ l v H2 ok2 => by
    subst e
    obtain ⟨w, e, b, vs, e2, hb, hv⟩ := ok2.head
    cases e
    subst e2
    have hvs := hv.nats
    subst hvs
    obtain ⟨a, h1, h2⟩ := dit_slot ok2.tail (by omega) hd
    refine ⟨.ref a, h1, a, _, rfl, DGet.t h2 (k := toK ks) (by rw [kV_toK]; exact hb), q _ E1 p l _ H2 (ok2.tail.im (R := rB (!decide (ks ∈ kss))) ?_)⟩
    show V.bl _ = V.bl _
    rw [valV_dts]
theorem ws_dputT (h : WE K tv E fun kv E1 => kv = .im (rB true) ∧ (∃ us0, E1[i]? = some (.dit none us0)) ∧ WE K ty E1 fun k1 E2 => ∃ (ks : List Nat) (kss : List (List Nat)), k1 = .im (rT K (ks.map rN)) ∧ E2[i]? = some (.dit none (dts kss)) ∧ ks ∉ kss ∧ kss.length < sizeLine ∧ nx (E2.set i (.dit none (dts (kss ++ [ks]))))) :
    WS K (sDPut (tVar i) ty tv) E nx rt bk ct := fun H0 O0 σ T H D hl ok nn r b c =>
  h H0 O0 σ T H hl ok _ fun kv E1 ⟨e, ⟨us0, h0⟩, h1⟩ l x H1 ok1 => by
    subst e
    obtain ⟨a, ha, _⟩ := dit_slot ok1.tail (by omega) h0
    obtain ⟨w, e, hw⟩ := ok1.head
    cases e
    have hw : x = .bl true := hw
    subst hw
    refine ⟨.ref a, ha, h1 H0 O0 σ T H1 (by omega) ok1.tail _ fun k1 E2 ⟨ks, kss, e, hd, hn, hz, p⟩ l2 y H2 ok2 => ?_⟩
    subst e
    obtain ⟨w, e, bb, vs, e2, hb, hv⟩ := ok2.head
    cases e
    subst e2
    have hvs := hv.nats
    subst hvs
    obtain ⟨o, L, ho, ok3, back⟩ := ok2.tail.at' (by omega) hd
    obtain ⟨a', e, h3, _⟩ := ok3.head
    have e : o = some (.ref a') := e
    subst e
    rw [ha] at ho
    cases ho
    have pt := DPut.t (v := .bl true) (k := toK ks) h3 (b := bb) (by rw [kV_toK]; exact hb) (by rw [List.length_map]; exact hz)
    rw [putK_dts hn] at pt
    refine ⟨a, _, rfl, pt, nn _ p σ _ (by simp [l, l2, hl]) (back T _ _ ?_)⟩
    exact ok3.chg rfl upd_but upd_same trivial ⟨a, rfl, upd_same, (ok3.head.im_upd rfl (.dT []) trivial).2⟩
theorem walks_dit {a : Addr} {od : Obj} {kss : List (List Nat)} : Walks K (Itkt a od (dts kss)) (kss.map fun ks => rT K (ks.map rN)) (some (.ref a), .dit (some od) (dts kss)) := by
  refine ⟨fun H0 O0 H L ok i R hi => ?_, fun H0 O0 H L ok => ?_⟩
  · obtain ⟨b, e, h2, _⟩ := ok.head
    cases e
    obtain ⟨ks, hk, rfl⟩ := map_get hi
    have hlt := (List.getElem?_eq_some_iff.mp hk).1
    refine ⟨⟨h2, by rw [List.length_map]; exact hlt⟩, fun x H' y => ?_⟩
    obtain ⟨e1, k, v, q, hq, e2, hb⟩ := y
    subst e1 e2
    rw [List.getElem?_map, hk] at hq
    cases hq
    rw [kV_toK] at hb
    exact ok.im ⟨q, _, rfl, hb, Vr.of_nats⟩
  · obtain ⟨b, e, h2, _⟩ := ok.head
    cases e
    exact ⟨h2, by rw [List.length_map, List.length_map]; exact Nat.le_refl _⟩
/-- [.. for k in d ..], d a dict of tuples -/
theorem we_lcD {s : Nat} (kss : List (List Nat)) (f : List Nat → Bool) (g : List Nat → Rp) (hs : E[s]? = some (.dit none (dts kss))) (hn : E[j]? = some Sl.no) (hne : s ≠ j) (hz : kss.length < sizeLine)
    (ht : ∀ (A : Sl), ∀ x ∈ kss, WT K tt ((E.set s A).set j (.im (rT K (x.map rN)))) fun b E2 => b = f x ∧ E2 = (E.set s A).set j (.im (rT K (x.map rN))) ∧ (b = true → WE K te ((E.set s A).set j (.im (rT K (x.map rN)))) fun k E3 => k = .im (g x) ∧ E3 = (E.set s A).set j (.im (rT K (x.map rN))))) (p : Φ (.own ((kss.filter f).map g)) E) :
    WE K (tLockE (tLc (iKeys (tVar s)) (gName j) tt te [j])) E Φ := fun H0 O0 σ T H hl ok Q q => by
  obtain ⟨o, L, ho, ok1, back⟩ := ok.at' hl hs
  obtain ⟨a, e, h2, _⟩ := ok1.head
  have e : o = some (.ref a) := e
  subst e
  refine ⟨a, .dT (dts kss), h2, trivial, fun od => ?_⟩
  -- locked: the slot tells nothing, the lock stands apart
  have ok2 : Ok K H0 O0 (upd H a (.frz od (.dT (dts kss)))) ((some (.ref a), .dit (some od) (dts kss)) :: (T ++ L)) := ok1.chg rfl upd_but upd_same trivial ⟨a, rfl, upd_same, (ok1.head.im_upd rfl (.dT []) trivial).2⟩
  have ok3 : Ok K H0 O0 (upd H a (.frz od (.dT (dts kss)))) ((some (.ref a), .dit (some od) (dts kss)) :: (T ++ σ.zip (E.set s (.al (.ref a))))) := by
    have q : Ok K H0 O0 (upd H a (.frz od (.dT (dts kss)))) ((some (.ref a), .al (.ref a)) :: (((some (.ref a), .dit (some od) (dts kss)) :: T) ++ L)) := ok2.al
    exact back ((some (.ref a), .dit (some od) (dts kss)) :: T) _ _ q
  have hn' : (E.set s (.al (.ref a)))[j]? = some Sl.no := by rw [List.getElem?_set_ne hne]; exact hn
  refine ⟨.ref a, ho, a, od, rfl, .inr ⟨dts kss, upd_same, ?_⟩⟩
  refine lc_coreW (Q := fun v H' => H' a = some (.frz od (.dT (dts kss))) ∧ Q v (upd H' a (.dT (dts kss)))) (tt := tt) (te := te) walks_dit ok3 (by simp [hl]) (by rw [List.length_map]; exact hz) (fun i acc E' => E' = E.set s (.al (.ref a)) ∧ acc = ((kss.take i).filter f).map g) ⟨rfl, rfl⟩ (fun i acc E' ⟨a, b⟩ => ⟨?_, by rw [a]; exact hn'⟩) (fun i R acc E' hi ⟨a, b⟩ => ?_) (fun acc E' ⟨e1, e2⟩ ls Dl H' ok' => ?_)
  · rw [b, List.length_map]
    have := List.length_filter_le f (kss.take i)
    rw [List.length_take] at this
    omega
  · subst a b
    obtain ⟨x, hx, e⟩ := map_get hi
    subst e
    have hf : (kss.take (i + 1)).filter f = (kss.take i).filter f ++ (if f x = true then [x] else []) := by
      rw [List.take_add_one, hx, List.filter_append]
      cases hf : f x <;> simp [hf]
    intro H0 O0 σ T H hl ok Q q
    refine ht (.al (.ref _)) x (List.mem_of_getElem? hx) H0 O0 σ T H hl ok Q fun b E2 ⟨h1, h2, h3⟩ l H2 ok2 => q b E2 ?_ l H2 ok2
    subst h2
    cases b with
    | false =>
      rw [if_neg Bool.false_ne_true]
      refine ⟨set_no hn' _, ?_⟩
      rw [hf, if_neg (by rw [← h1]; decide), List.append_nil]
    | true =>
      rw [if_pos rfl]
      refine we_mono (h3 rfl) fun k E3 ⟨a, b⟩ => ⟨g x, a, by rw [b]; exact set_no hn' _, ?_⟩
      rw [hf, if_pos h1.symm, List.map_append]
      rfl
  · subst e1 e2
    have hlk : Ok K H0 O0 H' ((some (.ref a), .dit (some od) (dts kss)) :: (((some (.ref Dl), .own _) :: T) ++ σ.zip (E.set s (.al (.ref a))))) := ok'.perm (List.Perm.swap _ _ _)
    obtain ⟨b, e, h5, h6⟩ := hlk.head
    cases e
    refine ⟨h5, ?_⟩
    have ok5 : Ok K H0 O0 (upd H' a (.dT (dts kss))) ((some (.ref a), .dit none (dts kss)) :: (((some (.ref Dl), .own _) :: T) ++ σ.zip (E.set s (.al (.ref a))))) := hlk.chg rfl upd_but upd_same trivial ⟨a, rfl, upd_same, h6⟩
    have q1 := Ok.store (T := (some (.ref Dl), .own (((kss.take (kss.map fun ks => rT K (ks.map rN)).length).filter f).map g)) :: T) (v := some (.ref a)) (k := .dit none (dts kss)) s (by simp [hl]) ok5
    have e : σ.set s (some (.ref a)) = σ := by
      have hi := (List.getElem?_eq_some_iff.mp ho).1
      have e2 := (List.getElem?_eq_some_iff.mp ho).2
      have := List.set_getElem_self (as := σ) hi
      rw [e2] at this
      exact this
    rw [e, List.set_set, set_same hs] at q1
    have e : ((kss.take (kss.map fun ks => rT K (ks.map rN)).length).filter f).map g = (kss.filter f).map g := by rw [List.length_map, List.take_length]
    rw [e] at q1
    exact q _ E p rfl _ _ q1
end
end Fx
namespace Fx
open PySem L2 PyProof.Rows
theorem kPop0 {X : Cx} {K : PySem.W.Frag} {pos apos : Pos} {o : Expr} {to : TE} (h : X.K = K) (ho : PE X o to)
    (hbase : attributeBase o "pop" X.env (eval o X.env) = eval o X.env := by rfl) (hline : (apos.endLine == pos.line) = true := by rfl) :
    PE X (.Call (.Attribute o "pop" apos) [] [] pos) (tBM0 K "list" rPop to) := by subst h; exact pe_bm0 PySem.F.plainAttrs_list PySem.F.slot_list_pop PySem.F.type_list_pop mt_pop ho hbase hline
section
variable {K : PySem.W.Frag}
def ndd (kss : List (List Nat)) : List PyData := kss.map fun ks => .tuple (nd ks)
theorem dp_ndd : ∀ {kss : List (List Nat)}, Paired (DpR K) (kss.map fun ks => rT K (ks.map rN)) (ndd kss)
  | [] => .nil
  | _ :: _ => .cons (dp_T dp_nd) dp_ndd
theorem lay_ndd : ∀ kss : List (List Nat), PyData.canLayAll0 (ndd kss) = true
  | [] => by simp [ndd, PyData.canLayAll0]
  | k :: kss => by
    have h := lay_ndd kss
    show PyData.canLayAll0 (.tuple (nd k) :: ndd kss) = true
    rw [PyData.canLayAll0, h]
    simp only [PyData.canLay0, lay_nd]
    rfl
theorem dep_ndd : ∀ kss : List (List Nat), PyData.depthAll (ndd kss) ≤ 10
  | [] => by simp [ndd, PyData.depthAll]
  | k :: kss => by
    have h := dep_ndd kss
    have h2 := dep_nd k
    show PyData.depthAll (.tuple (nd k) :: ndd kss) ≤ 10
    rw [PyData.depthAll]
    simp only [PyData.depth]
    omega
theorem sh_lnn {kss : List (List Nat)} : SeqAt.shaped (.list (ndd kss)) = true := by
  have h := dep_ndd kss
  show (PyData.canLay0 (.list (ndd kss)) && decide (PyData.depth (.list (ndd kss)) ≤ 64)) = true
  rw [Bool.and_eq_true]
  refine ⟨by simp only [PyData.canLay0]; exact lay_ndd kss, decide_eq_true ?_⟩
  simp only [PyData.depth]
  omega
theorem opc_neNilW {kss : List (List Nat)} : OPC K (rNeD K) (.lst (kss.map fun ks => rT K (ks.map rN))) (.lst []) (.im (rB (decide (kss ≠ [])))) := by
  have h := opc_neD (K := K) (dpc_lst (dp_ndd (kss := kss))) (dpc_lst (rs := []) (ds := []) .nil) sh_lnn (sh_list rfl (by decide))
  have e : (!PyData.eqv (.list (ndd kss)) (.list [])) = decide (kss ≠ []) := by
    cases kss with
    | nil => rfl
    | cons a l => rfl
  rw [e] at h
  exact h
end
end Fx
namespace Sn
open Fx Wd Gf
def ins (x : Nat) : List Nat → List Nat
  | [] => [x]
  | y :: l => if y ≤ x then x :: y :: l else y :: ins x l
def isort (l : List Nat) : List Nat := l.foldr ins []
theorem ins_perm (x : Nat) : ∀ l : List Nat, (ins x l).Perm (x :: l)
  | [] => .refl _
  | y :: l => by
    unfold ins
    split
    · exact .refl _
    · exact (List.Perm.cons y (ins_perm x l)).trans (List.Perm.swap _ _ _)
theorem isort_perm : ∀ l : List Nat, (isort l).Perm l
  | [] => .refl _
  | x :: l => (ins_perm x (isort l)).trans (List.Perm.cons x (isort_perm l))
theorem ins_ord (x : Nat) : ∀ l : List Nat, l.Pairwise (· ≥ ·) → (ins x l).Pairwise (· ≥ ·)
  | [], _ => List.pairwise_singleton _ _
  | y :: l, h => by
    have h' := List.pairwise_cons.mp h
    unfold ins
    split
    · refine List.pairwise_cons.mpr ⟨fun z hz => ?_, h⟩
      rcases List.mem_cons.mp hz with e | e
      · rw [e]; assumption
      · have := h'.1 z e
        show z ≤ x
        omega
    · refine List.pairwise_cons.mpr ⟨fun z hz => ?_, ins_ord x l h'.2⟩
      rcases List.mem_cons.mp ((ins_perm x l).mem_iff.mp hz) with e | e
      · rw [e]
        show x ≤ y
        omega
      · exact h'.1 z e
theorem isort_ord : ∀ l : List Nat, (isort l).Pairwise (· ≥ ·)
  | [] => List.Pairwise.nil
  | x :: l => ins_ord x _ (isort_ord l)
theorem dsort_eq (l : List Nat) : dsort l = isort l := (dsort_uniq (isort_perm l) (isort_ord l)).symm
def basC (ws : List Nat) : List Nat := isort (rowsOf ws)
theorem basC_eq (ws : List Nat) : basisOf ws = basC ws := dsort_eq _
abbrev Two := List (List Nat) × List (List Nat)
def tryOne (here : List Nat) (s : Two) (word : Nat) : Two := if basC (here ++ [word]) ∈ s.1 then s else (s.1 ++ [basC (here ++ [word])], s.2 ++ [basC (here ++ [word])])
def turn (n : Nat) (s : Two) : Two := (List.range (2 ^ n)).foldl (tryOne (s.2.getLastD [])) (s.1, s.2.dropLast)
def stA (n : Nat) : Nat → Two
  | 0 => ([[]], [[]])
  | k + 1 => turn n (stA n k)
theorem try_len (here : List Nat) (s : Two) (word : Nat) : (tryOne here s word).1.length ≤ s.1.length + 1 ∧ (tryOne here s word).2.length ≤ s.2.length + 1 := by
  unfold tryOne
  split
  · exact ⟨by omega, by omega⟩
  · simp
theorem all3 : ((List.range 16).all fun i => decide ((stA 3 i).2 ≠ []) && ((stA 3 i).2.getLastD []).all (fun a => decide (a < 8)) && decide (((stA 3 i).2.getLastD []).length ≤ 3) && decide ((stA 3 i).1.length ≤ 20) && decide ((stA 3 i).2.length ≤ 20)) = true := by decide +kernel
theorem end3 : (stA 3 16).2 = [] := by decide +kernel
theorem cnt3 : ((List.range 4).map fun m => ((stA 3 16).1.filter fun ks => decide (ks.length = m)).length) = [1, 7, 7, 1] := by decide +kernel
theorem len3 : (stA 3 16).1.length = 16 := by decide +kernel
structure Fact (i : Nat) : Prop where
  ne : (stA 3 i).2 ≠ []
  lt : ∀ a ∈ (stA 3 i).2.getLastD [], a < 8
  l1 : ((stA 3 i).2.getLastD []).length ≤ 3
  l2 : (stA 3 i).1.length ≤ 20
  l3 : (stA 3 i).2.length ≤ 20
theorem fact {i : Nat} (h : i < 16) : Fact i := by
  have h := List.all_eq_true.mp all3 i (List.mem_range.mpr h)
  simp only [Bool.and_eq_true, decide_eq_true_eq, List.all_eq_true] at h
  obtain ⟨⟨⟨⟨a, b⟩, c⟩, d⟩, e⟩ := h
  exact ⟨a, b, c, d, e⟩
end Sn
set_option Elab.async false
set_option linter.all false
set_option maxRecDepth 100000
set_option maxHeartbeats 2000000
/-! objects: made, their attributes, their properties, == -/
namespace Fx
open PySem L2 PyProof.Rows
/-- an object of the class at C with these attributes; it does not change any more -/
def rIns (C : Addr) (fs : List (Str × Rp)) : Rp := ⟨fun v H => ∃ a dx us, v = .ref a ∧ H a = some (.ins C dx us) ∧ Fvr H us fs ∧ 2 ≤ us.length,
  fun e ⟨a, dx, us, h1, h2, h3, h4⟩ => ⟨a, dx, us, h1, e.im _ _ (ins_many h4) h2, h3.im e, h4⟩,
  false, fun _ => fun ⟨a, dx, us, h1, h2, h3, h4⟩ e xs z => by rw [h1] at e; cases e; rw [h2] at z; cases z⟩
/-- this very object -/
def rIs (p : Addr) (R : Rp) : Rp := ⟨fun v H => v = .ref p ∧ R.r v H, fun e ⟨h1, h2⟩ => ⟨h1, R.st e h2⟩, R.fl, fun f => fun ⟨_, h⟩ => R.nl f h⟩
theorem Fvr.get {H : Hp} {f : Str} {R : Rp} : ∀ {us : List (Str × V)} {fs : List (Str × Rp)}, Fvr H us fs → fs.lookup f = some R → ∃ v, us.lookup f = some v ∧ R.r v H
  | _, _, .nil, e => by cases e
  | (g, v) :: us, (g', R') :: fs, .cons ⟨h1, h2⟩ t, e => by
    have h1 : g = g' := h1
    subst h1
    rw [List.lookup_cons] at e ⊢
    cases hb : f == g with
    | true =>
      rw [hb] at e
      cases e
      exact ⟨v, rfl, h2⟩
    | false =>
      rw [hb] at e
      exact Fvr.get t e
theorem Fvr.len {H : Hp} {us : List (Str × V)} {fs : List (Str × Rp)} (h : Fvr H us fs) : us.length = fs.length := Paired.length h
theorem Fvr.put {H : Hp} {f : Str} {v : V} {R : Rp} (hv : R.r v H) : ∀ {us : List (Str × V)} {fs : List (Str × Rp)}, Fvr H us fs → (∀ p ∈ fs, p.1 ≠ f) → Fvr H (putF f v us) (fs ++ [(f, R)])
  | [], [], .nil, _ => .cons ⟨rfl, hv⟩ .nil
  | (g, x) :: us, (g', R') :: fs, .cons ⟨h1, h2⟩ t, hn => by
    have h1 : g = g' := h1
    subst h1
    have hne : ¬ g = f := hn (g, R') List.mem_cons_self
    show Fvr H (if g = f then (g, v) :: us else (g, x) :: putF f v us) _
    rw [if_neg hne]
    exact .cons ⟨rfl, h2⟩ (Fvr.put hv t fun p hp => hn p (List.mem_cons_of_mem _ hp))
section
variable {K : PySem.W.Frag} {E : List Sl} {te ta tb tv : TE} {tr : TA} {Φ : Sl → List Sl → Prop} {R : Rp} {i j s : Nat} {nx : List Sl → Prop} {rt : Sl → List Sl → Prop} {bk ct : List Sl → Prop} {C p : Addr} {f : Str}
/-- self.f -/
theorem we_fld (c : Cls K C) (n : NoAttr K C f) (h : WE K ta E fun k E1 => ∃ fs R, k = .im (rIns C fs) ∧ fs.lookup f = some R ∧ Φ (.im R) E1) : WE K (tFld K ta f) E Φ := fun H0 O0 σ T H hl ok Q q =>
  h H0 O0 σ T H hl ok _ fun k E1 ⟨fs, R, e, hf, p⟩ l v H2 ok2 => by
    subst e
    obtain ⟨w, e, a, dx, us, h1, h2, h3, h4⟩ := ok2.head
    cases e
    subst h1
    obtain ⟨y, hy, hr⟩ := h3.get hf
    exact ⟨a, C, dx, us, y, rfl, h2, c, n, hy, q _ E1 p l y H2 (ok2.tail.im hr)⟩
/-- self.f = e, the first attribute -/
theorem ws_fld1 (c : Cls K C) (n : NoAttr K C f) (h : WE K tv E fun k E1 => ∃ R, k = .im R ∧ E1[i]? = some (.obj p C []) ∧ nx (E1.set i (.obj p C [(f, R)]))) : WS K (sFld K (tVar i) tv f) E nx rt bk ct := fun H0 O0 σ T H D hl ok nn r b c' =>
  h H0 O0 σ T H hl ok _ fun k E1 ⟨R, e, hi, pp⟩ l v H2 ok2 => by
    subst e
    obtain ⟨w, e, hv⟩ := ok2.head
    cases e
    obtain ⟨o, L, ho, ok3, back⟩ := ok2.tail.at' (by omega) hi
    obtain ⟨dx, us, e, h2, h3, h4, h5⟩ := ok3.head
    have e : o = some (.ref p) := e
    subst e
    cases h3
    refine ⟨.ref p, ho, p, C, dx, [], rfl, h2, c, n, by decide, nn _ pp σ _ (by simp [l, hl]) (back T _ _ ?_)⟩
    have im : Im H2 (upd H2 p (.ins C dx (putF f v []))) := (ok3.head.im_upd rfl _ trivial).1
    exact ok3.chg rfl upd_but upd_same trivial ⟨dx, _, rfl, upd_same, .cons ⟨rfl, Rp.st _ im hv⟩ .nil, by show 1 < 2; decide, h5⟩
/-- self.g = e, the second and last attribute -/
theorem ws_fld2 {g : Str} {R1 : Rp} (c : Cls K C) (n : NoAttr K C f) (hne : g ≠ f) (h : WE K tv E fun k E1 => ∃ R, k = .im R ∧ E1[i]? = some (.obj p C [(g, R1)]) ∧ nx (E1.set i (.im (rIs p (rIns C [(g, R1), (f, R)]))))) : WS K (sFld K (tVar i) tv f) E nx rt bk ct := fun H0 O0 σ T H D hl ok nn r b c' =>
  h H0 O0 σ T H hl ok _ fun k E1 ⟨R, e, hi, pp⟩ l v H2 ok2 => by
    subst e
    obtain ⟨w, e, hv⟩ := ok2.head
    cases e
    obtain ⟨o, L, ho, ok3, back⟩ := ok2.tail.at' (by omega) hi
    obtain ⟨dx, us, e, h2, h3, h4, h5⟩ := ok3.head
    have e : o = some (.ref p) := e
    subst e
    refine ⟨.ref p, ho, p, C, dx, us, rfl, h2, c, n, by have := h3.len; rw [this]; show 1 < 1000; decide, nn _ pp σ _ (by simp [l, hl]) (back T _ _ ?_)⟩
    have im : Im H2 (upd H2 p (.ins C dx (putF f v us))) := (ok3.head.im_upd rfl _ trivial).1
    have h6 := (Fvr.put (f := f) hv h3 fun p hp => by rw [List.mem_singleton.mp hp]; exact hne).im im
    exact ok3.chg rfl upd_but upd_same trivial ⟨.ref p, rfl, rfl, p, dx, _, rfl, upd_same, h6, by rw [h6.len]; show 2 ≤ 2; decide⟩
end
/-! the promise of an __init__ -/
def spI {A : Type} (K : PySem.W.Frag) (C : Addr) (par : A → List Rp) (pre : A → Prop) (R : A → Rp) : Sp := fun vs H Q _ => ∃ a, pre a ∧ ∃ p dx vs', vs = .ref p :: vs' ∧ H p = some (.ins C dx []) ∧ Vr H vs' (par a) ∧ ∀ H', Ok K H [p] H' [(some (.ref p), .im (R a))] → Q .non H'
structure MakeHas (P : Program) (w : World) (K : PySem.W.Frag) (mg : Str → Option Value) (base : Heap) (x : Str) (C : Addr) (k : Nat) (sp : Sp) : Prop where
  m : mg x = some (.ref C)
  ex : ∃ f fd ps, Mk K C f ∧ FnOk P w K mg base CX0 k f fd ps sp ∧ Binds K fd ps []
structure PropHas (P : Program) (w : World) (K : PySem.W.Frag) (mg : Str → Option Value) (base : Heap) (C : Addr) (f : Str) (k : Nat) (sp : Sp) : Prop where
  c : Cls K C
  ex : ∃ p g fd ps, PropOf K C f p g ∧ FnOk P w K mg base CX0 k g fd ps sp ∧ Binds K fd ps []
section
variable {X : Cx} {x f : Str} {C : Addr} {k : Nat} {sp : Sp} {e : Expr} {es : List Expr} {t : TA} {ta : TE} {p pos : Pos}
theorem pe_new (h : MakeHas X.prog X.w X.K X.mg X.base x C k sp) (hr : Room (k + 1) X.A) (ha : PA X (e :: es) t) (hg : Gl X x := by rfl) (hdb : (x == ("__debug__" : Str)) = false := by decide) (he : starEach (e :: es) X.env = (false, eval e X.env) :: starEach es X.env := by rfl) (hpl : (backTo pos (starEach es X.env)).any (·.1) = false := by rfl) :
    PE X (.Call (.Name x p) (e :: es) [] pos) (tMake C sp [] E0 t) := by
  obtain ⟨m, f, fd, ps, M, F, b⟩ := h
  exact pe_make M F hr hg m b .nil pass0 ha hdb he hpl
theorem pe_useP (h : PropHas X.prog X.w X.K X.mg X.base C f k sp) (hr : Room (k + 1) X.A) (he : PE X e ta) (hab : attributeBase e f X.env (eval e X.env) = eval e X.env := by rfl) : PE X (.Attribute e f pos) (tProp C sp [] E0 ta) := by
  obtain ⟨c, p, g, fd, ps, hp, F, b⟩ := h
  exact pe_prop he c hp F hr b .nil pass0 hab
theorem kFld {K : PySem.W.Frag} (h : X.K = K) (he : PE X e ta) (hb : attributeBase e f X.env (eval e X.env) = eval e X.env := by rfl) : PE X (.Attribute e f pos) (tFld K ta f) := by subst h; exact pe_fld he hb
theorem kSFld {K : PySem.W.Frag} {o value : Expr} {to tv : TE} {pos' : Pos} (h : X.K = K) (ha : PE X o to) (hv : PE X value tv) (hs : swapsWith value (some (.Attribute o f pos')) pos.line X.env = pure false := by rfl) : PS X (.Assign [.Attribute o f pos'] value pos) (sFld K to tv f) := by subst h; exact ps_fld ha hv hs
end
section
variable {P : Program} {w : World} {K : PySem.W.Frag} {mg : Str → Option Value} {base : Heap} {E : List Sl} {ta : TE} {tr : TA} {Φ : Sl → List Sl → Prop} {C : Addr}
theorem cks_im {H : Hp} : ∀ {vs : List V} {rs : List Rp}, Cks K H vs (rs.map .im) → Vr H vs rs
  | _, [], .nil => .nil
  | _, _ :: _, .cons h t => .cons h (cks_im t)
theorem we_new {A : Type} {par : A → List Rp} {pre : A → Prop} {R : A → Rp} (h : WC K tr E fun cs E1 => ∃ a, pre a ∧ Paired (Cv K) cs ((par a).map .im) ∧ Φ (.im (R a)) E1) : WE K (tMake C (spI K C par pre R) [] E0 tr) E Φ := fun H0 O0 σ T H hl ok Q q =>
  h H0 O0 σ T H hl ok _ fun cs E1 ⟨a, hp, hc, p⟩ l vs H2 ok2 hv => by
    intro x dx nx ndx nex
    rw [List.append_nil]
    have e : ∀ b u, H2 b = some u → upd (upd H2 dx (.own x)) x (.ins C dx []) b = some u := fun b u z => by
      rw [upd_ne (ne_of_none z nx), upd_ne (ne_of_none z ndx)]
      exact z
    refine ⟨a, hp, x, dx, vs, rfl, upd_same, (cks_im (cks_cv hv hc)).im (.of e), fun H' r => ⟨rfl, ?_⟩⟩
    have e2 : ∀ b u, H2 b = some u → H' b = some u := fun b u z => r.fr b u (e b u z) (by simpa using ne_of_none z nx)
    obtain ⟨y, e3, hr⟩ := r.head
    cases e3
    exact q _ E1 p l _ H' ((ok2.ext e2).im hr)
theorem we_prop {A : Type} {par : A → Rp} {pre : A → Prop} {res : A → Sl} (h : WE K ta E fun k E1 => ∃ (a : A) (fs : List (Str × Rp)), k = .im (rIns C fs) ∧ par a = rIns C fs ∧ pre a ∧ Φ (res a) E1) : WE K (tProp C (spP K (fun a => [.im (par a)]) pre res) [] E0 ta) E Φ := fun H0 O0 σ T H hl ok Q q =>
  h H0 O0 σ T H hl ok _ fun k E1 ⟨a, fs, e, hpar, hp, p⟩ l v H2 ok2 => by
    subst e
    obtain ⟨y, e, b, dx, us, h1, h2, h3, h4⟩ := ok2.head
    cases e
    subst h1
    refine ⟨b, dx, us, rfl, h2, a, hp, .cons ?_ .nil, fun v H' r => q _ E1 p l v H' (ok2.tail.res r)⟩
    show (par a).r (.ref b) H2
    rw [hpar]
    exact ⟨b, dx, us, rfl, h2, h3, h4⟩
theorem ok_startI {H : Hp} {p dx : Addr} {vs : List V} {rs : List Rp} (n : Nat) (hp : H p = some (.ins C dx [])) (h : Vr H vs rs) :
    Ok K H [p] H ([] ++ ((V.ref p :: vs).map some ++ List.replicate n none).zip (Sl.obj p C [] :: rs.map .im ++ List.replicate n Sl.no)) := by
  have hz : ∀ q ∈ (vs.map some ++ List.replicate n none).zip (rs.map Sl.im ++ List.replicate n Sl.no), Slk K H [p] H q.1 q.2 ∧ q.2.mu = false := by
    induction h with
    | nil =>
      intro q hq
      have hq : q ∈ (List.replicate n none).zip (List.replicate n Sl.no) := hq
      obtain ⟨h1, h2⟩ := List.of_mem_zip (show (q.1, q.2) ∈ _ from hq)
      rw [List.mem_replicate] at h2
      rw [h2.2]
      exact ⟨trivial, rfl⟩
    | @cons v c vs cs a b ih =>
      intro q hq
      rcases List.mem_cons.mp hq with z | z
      · subst z
        exact ⟨⟨v, rfl, a⟩, rfl⟩
      · exact ih q z
  refine ⟨fun a o h _ => h, fun q hq => ?_, ?_⟩
  · rcases List.mem_cons.mp hq with z | z
    · subst z
      exact ⟨dx, [], rfl, hp, .nil, by show 0 < 2; decide, .inr (by simp)⟩
    · exact (hz q z).1
  · refine List.pairwise_cons.mpr ⟨fun q hq _ m => ?_, List.pairwise_of_forall_mem_list ?_⟩
    · rw [(hz q hq).2] at m
      cases m
    · intro q hq q' hq' m
      rw [(hz q hq).2] at m
      cases m
theorem mk_init {A : Type} {x qual : Str} {st : Stmt} {N ps : List Str} {k : Nat} {f : Addr} {fd : FuncData} {par : A → List Rp} {pre : A → Prop} {R : A → Rp} (F : Fun K x qual st f fd) (S : FnScope N ps (defScope st)) (hl : ∀ a, (par a).length + 1 = ps.length)
    (hd : ∀ (cdv : Value) (A : Around) (outer : List Env) (s : Shared) (H : Hp) (E : XK), Room k (A.deeper (envOfC qual (defScope st) s.heap.objs.size f cdv)) → ∃ t, PSs (cxOf CX0 P w K mg base N qual (defScope st) f cdv A outer s H E).nox (defBody st) t ∧
      ∀ a p, pre a → WS K t (Sl.obj p C [] :: (par a).map .im ++ List.replicate (N.length - ps.length) Sl.no) (fun E' => E'[0]? = some (.im (rIs p (R a)))) (fun _ _ => False) (fun _ => False) (fun _ => False)) :
    FnOk P w K mg base CX0 (k + 1) f fd ps (spI K C par pre R) := by
  refine F.ok S (fun vs H Q E h => ?_) (fun cdv A outer s H vs Q E hr h => ?_)
  · obtain ⟨a, _, p, dx, vs', e, _, hc, _⟩ := h
    rw [← hl a, e]
    simp [hc.len]
  · obtain ⟨t, ht, hs⟩ := hd cdv A outer s H E hr
    refine ⟨t, ht, ?_⟩
    obtain ⟨a, hp, p, dx, vs', e, h1, hc, q⟩ := h
    subst e
    have l1 : vs'.length + 1 = ps.length := by rw [← hl a, hc.len]
    have l2 := hl a
    have ok := ok_startI (K := K) (N.length - ps.length) h1 hc
    have e : L2.start N (.ref p :: vs') = (V.ref p :: vs').map some ++ List.replicate (N.length - ps.length) none := by
      unfold L2.start
      rw [List.length_cons, l1]
    rw [e]
    refine hs a p hp H [p] _ [] H _ (by simp [hc.len]) ok (fun E' h0 σ' H2 ls ok2 => ?_) (fun _ _ z => z.elim) (fun _ z => z.elim) (fun _ z => z.elim)
    obtain ⟨o, ho, hm⟩ := zip_get ls h0
    obtain ⟨v, e, h2, h3⟩ := ok2.sl _ hm
    have e : o = some v := e
    subst e h2
    exact q H2 ⟨ok2.fr, fun q hq => by
      rw [List.mem_singleton.mp hq]
      exact ⟨.ref p, rfl, h3⟩, List.pairwise_singleton _ _⟩
theorem mk_fn {A : Type} {x qual : Str} {st : Stmt} {N ps : List Str} {k : Nat} {f : Addr} {fd : FuncData} {par : A → List Ck} {pre : A → Prop} {res : A → Sl} (F : Fun K x qual st f fd) (S : FnScope N ps (defScope st)) (hl : ∀ a, (par a).length = ps.length) (hk : ∀ a, pre a → (res a).res = true)
    (hd : ∀ (cdv : Value) (A : Around) (outer : List Env) (s : Shared) (H : Hp) (E : XK), Room k (A.deeper (envOfC qual (defScope st) s.heap.objs.size f cdv)) → ∃ t, PSs (cxOf CX0 P w K mg base N qual (defScope st) f cdv A outer s H E).nox (defBody st) t ∧
      ∀ a, pre a → WS K t ((par a).map slOf ++ List.replicate (N.length - ps.length) Sl.no) (fun _ => res a = .im rU) (fun k _ => k = res a) (fun _ => False) (fun _ => False)) : FnOk P w K mg base CX0 (k + 1) f fd ps (spP K par pre res) := by
  refine F.ok S (fun vs H Q E h => ?_) (fun cdv A outer s H vs Q E hr h => ?_)
  · obtain ⟨a, _, hc, _⟩ := h
    rw [← hl a]
    exact Paired.length hc
  · obtain ⟨t, ht, hs⟩ := hd cdv A outer s H E hr
    refine ⟨t, ht, ?_⟩
    obtain ⟨a, hp, hc, q⟩ := h
    have l1 : vs.length = ps.length := (Paired.length hc).trans (hl a)
    have l2 : (par a).length = ps.length := hl a
    have ok := ok_start (N.length - ps.length) hc
    have e : L2.start N vs = vs.map some ++ List.replicate (N.length - ps.length) none := by
      unfold L2.start
      rw [l1]
    rw [e]
    refine hs a hp H [] _ [] H _ (by simp [l1, l2]) ok (fun E' p σ' H2 ls ok2 => ?_) (fun k E' p σ' v H2 ls ok2 => ?_) (fun _ p => p.elim) (fun _ p => p.elim)
    · have p : res a = .im rU := p
      refine q .non H2 ⟨?_, hk a hp⟩
      rw [p]
      exact (ok2.sub (List.nil_sublist _)).im rfl
    · have p : k = res a := p
      subst p
      exact q v H2 ⟨ok2.sub (List.Sublist.cons_cons _ (List.nil_sublist _)), hk a hp⟩
end
end Fx
set_option Elab.async false
set_option linter.all false
set_option maxRecDepth 100000
set_option maxHeartbeats 2000000
/-! == and != by an own __eq__, both answers -/
namespace Fx
open PySem PySem.W PyProof.Rows
section
variable {prog : Program} {w : World} {A : Around} {E : Value → Shared → Prop} {s : Shared} {K : Frag} {x y C L f : Addr} {h₀ : Heap} {m : Str → Option Value} {ox : Obj} {od : Option Obj}
theorem ifBound_Ne {M : Model} {args : List Value} {Q : Option Value → Shared → Prop} (X : K.In s.heap) (I : InstAt s.heap x ox C od) (hs : findIn K (.ref C) "__ne__" = some (some (.builtin "object.__ne__")))
    (h : wpAny M A (call (.builtin "object.__ne__") (.ref x :: args)) (fun v => Q (some v)) E s) : wpAny M A (callSpecialIfBound? (.ref x) "__ne__" args) Q E s := by
  simp only [callSpecialIfBound?, bindSpecialIfBound?]
  refine wpAny_holding (wpAny_bind (wpAny_bind (wpAny_bind (I.type.here ((looks_findIn X hs).here ?_)))))
  simp only [PySem.F.cmp_object.ne.bind]
  refine wpAny_bind (wpAny_askSetting (wpAny_ite ?_))
  have fin : wpAny M A (call (.builtin "object.__ne__") ([.ref x] ++ args) >>= fun v => pure (some v)) Q E s := wpAny_bind (wpAny_mono h (fun v s' h' => wpAny_pure h') fun _ _ h' => h')
  split
  · exact wpAny_bind (wpAny_pure (wpAny_pure fin))
  · exact wpAny_tryCatch (wpAny_bind (wpAny_pure (wpAny_pure fin)))
theorem objNe_body (X : K.In s.heap) (I : InstAt s.heap x ox C od) (hu : A.units < cLine) (hs : findIn K (.ref C) "__eq__" = some (some (.ref f))) (hf : isFn K (.ref f) = true) {Q : Fin → Shared → Prop}
    (hcall : wpAny (model prog w) A (call (.ref f) [.ref x, .ref y]) (fun v s' => ∃ b, v = .bool b ∧ Q (.done (.ret (.bool (!b)))) s') E s) :
    wpAny (model prog w) A (Builtin.«object.__ne__» ⟨[.ref x, .ref y], []⟩) Q E s := by
  unfold Builtin.«object.__ne__»
  repeat (first
    | with_reducible refine wpAny_cRoomFor hu ?_
    | (refine wpAny_bind (m := callSpecialIfBound? (.ref x) (Str.ofString "__eq__") [.ref y])
        (ifBound_K X I hs hf (wpAny_mono hcall (fun r s' hr => by
          obtain ⟨b, rfl, hq⟩ := hr
          repeat (first | exact hq | exact wpAny_pure hq | exact wpAny_truthy_bool hq | (refine wpAny_bind (m := truthy (.bool _)) (wpAny_truthy_bool ?_)) | wp_step)) fun _ _ e => e)))
    | wp_step)
theorem ne_K {Q : Value → Shared → Prop} (hu : A.units + 1 < cLine) (X : K.In s.heap) (I : InstAt s.heap x ox C od) (hp : plainOver K C = true) (hb : Looks (model prog w) s.heap (typeOf (.ref y)) (.ref C)) (hs : findIn K (.ref C) "__eq__" = some (some (.ref f))) (hf : isFn K (.ref f) = true) (hn : findIn K (.ref C) "__ne__" = some (some (.builtin "object.__ne__")))
    (hcall : wpAny (model prog w) A.in1 (call (.ref f) [.ref x, .ref y]) (fun v s' => ∃ b, v = .bool b ∧ Q (.bool (!b)) s') E s) : wpAny (model prog w) A (richCompare .NotEq (.ref x) (.ref y)) Q E s := by
  obtain ⟨cd, hc, ho⟩ := any_some hp
  have ne : cd.mro.isEmpty = false := by cases q : cd.mro with | nil => rw [q] at ho; cases ho | cons _ _ => rfl
  have sub : Looks (model prog w) s.heap (isInstance (.ref x) (.type "object")) true := I.type.andThen (looks_mroIn X (by unfold mroIn; rw [hc, Option.bind_some, if_neg (by rw [ne]; decide), only_has ho]))
  have one : wpAny (model prog w) A (tryCompare (.ref x) "__ne__" (.ref y)) (fun r s' => ∃ v, r = some v ∧ Q v s') E s := by
    unfold tryCompare
    refine wpAny_bind (ifBound_Ne X I hn (wpAny_call (codeAny_call_builtin PySem.F.cmp_object.ne.plain PySem.F.cmpEntry_ne (check_slot PySem.F.cmpKind_ne PySem.F.cmpSplit_ne sub (PySem.F.cmpArgs_ne _ _)
      (objNe_body (A := A.in1) X I hu hs hf (wpAny_mono hcall (fun v s' hv => ?_) fun _ _ e => e))))))
    obtain ⟨b, rfl, hq⟩ := hv
    first | exact ⟨b, rfl, wpAny_pure ⟨_, rfl, hq⟩⟩ | exact ⟨b, rfl, wpAny_pure (wpAny_pure ⟨_, rfl, hq⟩)⟩ | exact ⟨b, rfl, ⟨_, rfl, hq⟩⟩
  unfold richCompare
  simp only [oneThing_ref]
  refine wpAny_holding (wpAny_bind (wpAny_cRoomFor (Nat.lt_of_succ_lt hu) ?_))
  rw [cmpInfo_NotEq]
  dsimp only
  refine wpAny_bind (I.type.here (wpAny_bind (hb.here ?_)))
  split
  · rename_i q
    simp at q
  · refine wpAny_bind (wpAny_pure ?_)
    simp only [Bool.false_eq_true, if_false]
    refine wpAny_bind (wpAny_mono one (fun r s' z => ?_) fun _ _ e => e)
    obtain ⟨v, rfl, hq⟩ := z
    exact wpAny_pure hq
end
end Fx
set_option Elab.async false
set_option linter.all false
set_option maxRecDepth 100000
set_option maxHeartbeats 2000000
namespace Fx
open PySem L2 PyProof.Rows
/-- the class has its own __eq__, and no __ne__ -/
structure EqHas (P : Program) (w : World) (K : PySem.W.Frag) (mg : Str → Option Value) (base : Heap) (C : Addr) (k : Nat) (sp : Sp) : Prop where
  c : Cls K C
  ne : PySem.W.findIn K (.ref C) "__ne__" = some (some (.builtin "object.__ne__"))
  ex : ∃ f fd ps, PySem.W.findIn K (.ref C) "__eq__" = some (some (.ref f)) ∧ PySem.W.isFn K (.ref f) = true ∧ FnOk P w K mg base CX0 k f fd ps sp ∧ Binds K fd ps []
def rEqO (C : Addr) (sp : Sp) (neg : Bool) : R2 := fun x y H Q => ∃ a dx fs b dy gs, x = .ref a ∧ y = .ref b ∧ H a = some (.ins C dx fs) ∧ H b = some (.ins C dy gs) ∧ sp [x, y] H (fun v H' => ∃ bb, v = .bl bb ∧ Q (.bl (if neg then !bb else bb)) H') E0
section
variable {X : Cx} {C : Addr} {k : Nat} {sp : Sp}
theorem run_own {A : Around} {pins : List (Addr × Obj)} {σ : L2.St} {H : Hp} {s : Shared} {a b f : Addr} {fd : FuncData} {ps : List Str} {Q : VK} {R : Value → Shared → Prop} (F : FnOk X.prog X.w X.K X.mg X.base CX0 k f fd ps sp) (hb : Binds X.K fd ps []) (hr : Room k A) (e0 : Env0 X.prog X.w X.K X.mg X.base A X.stack s H) (I : Inv X pins σ H s)
    (h : sp [.ref a, .ref b] H Q E0) (q : ∀ v u H' s', Inv X pins σ H' s' → RelV v u → Q v H' → R u s') : wpAny (model X.prog X.w) A (call (.ref f) [.ref a, .ref b]) R X.xe s := by
  have hl := F.len _ _ _ _ h
  have r2 : Vals [V.ref a, V.ref b] [Value.ref a, Value.ref b] := .cons rfl (.cons rfl .nil)
  refine wpAny_call (codeAny_mono (F.run A X.stack s H ⟨[.ref a, .ref b], []⟩ [.ref a, .ref b] [.ref a, .ref b] _ E0 hr e0 (by
    have := hb s [.ref a, .ref b] I.kIn (by simpa using hl)
    simpa using this) r2 h) fun r s' hq => ?_)
  cases r with
  | error e => exact pass0 pins σ H s e s' I hq
  | ok fl =>
    cases fl with
    | ret w =>
      obtain ⟨z, H', I', rz, ez⟩ := I.after hq
      exact q z w H' s' I' rz ez
    | next => exact False.elim hq
    | brk => exact False.elim hq
    | cont => exact False.elim hq
theorem op_eqO (h : EqHas X.prog X.w X.K X.mg X.base C k sp) (hr : Room k X.A) : OpR X (compareOp .Eq) (rEqO C sp false) := by
  intro pins s σ H x y v u Q I rx ry hh
  obtain ⟨a, dx, fs, b, dy, gs, rfl, rfl, ha, hb', q⟩ := hh
  cases rx
  cases ry
  obtain ⟨c, ne, f, fd, ps, hs, hf, F, hb⟩ := h
  obtain ⟨mA, J, _⟩ := ins_get I.hok ha
  obtain ⟨mB, J', _⟩ := ins_get I.hok hb'
  obtain ⟨od, J, _⟩ := J.look
  obtain ⟨od', J', _⟩ := J'.look
  obtain ⟨m, hF⟩ := I.fr
  refine PySem.W.cmp_K (op := .Eq) (tb := .ref C) hr.units0 hF I.ok.mod.kin J J'.type (by simp [PySem.W.notFirst]) hs hf ?_
  refine run_own F hb hr I.env0 I q fun v u H' s' I' rv ⟨bb, e, qq⟩ => ?_
  subst e
  cases rv
  exact ⟨.bl bb, H', I', rfl, qq⟩
theorem op_neO (h : EqHas X.prog X.w X.K X.mg X.base C k sp) (hr : Room (k + 1) X.A) : OpR X (compareOp .NotEq) (rEqO C sp true) := by
  intro pins s σ H x y v u Q I rx ry hh
  obtain ⟨a, dx, fs, b, dy, gs, rfl, rfl, ha, hb', q⟩ := hh
  cases rx
  cases ry
  obtain ⟨c, ne, f, fd, ps, hs, hf, F, hb⟩ := h
  obtain ⟨mA, J, _⟩ := ins_get I.hok ha
  obtain ⟨mB, J', _⟩ := ins_get I.hok hb'
  obtain ⟨od, J, _⟩ := J.look
  obtain ⟨od', J', _⟩ := J'.look
  refine ne_K (hu_of hr) I.kIn J c.po J'.type hs hf ne ?_
  refine run_own F hb hr.in1 I.env0.in1 I q fun v u H' s' I' rv ⟨bb, e, qq⟩ => ?_
  subst e
  cases rv
  exact ⟨bb, rfl, .bl (!bb), H', I', rfl, qq⟩
end
section
variable {K : PySem.W.Frag} {C : Addr} {E : List Sl} {ta : TE} {Φ : Sl → List Sl → Prop}
theorem opc_eqO {A : Type} {par : A → List Ck} {pre : A → Prop} {res : A → Bool} {f1 f2 : List (Str × Rp)} {neg : Bool} (a : A) (hp : pre a) (e : par a = [.im (rIns C f1), .im (rIns C f2)]) : OPC K (rEqO C (spP K par pre fun a => .im (rB (res a))) neg) (.im (rIns C f1)) (.im (rIns C f2)) (.im (rB (if neg then !res a else res a))) := fun H x y h1 h2 Q q => by
  obtain ⟨b1, dx1, us1, e1, g1, _⟩ := id h1
  obtain ⟨b2, dx2, us2, e2, g2, _⟩ := id h2
  refine ⟨b1, dx1, us1, b2, dx2, us2, e1, e2, g1, g2, a, hp, ?_, fun v H' r => ?_⟩
  · rw [e]
    exact .cons h1 (.cons h2 .nil)
  · obtain ⟨w, e3, hw⟩ := r.ok.head
    cases e3
    refine ⟨res a, hw, q _ H' ?_⟩
    exact res_im (fun a u z => r.ok.fr a u z (by simp)) rfl
/-- what isinstance says of such a value, for the class at C -/
def IsiO (K : PySem.W.Frag) (R : Rp) (C : Addr) (b : Bool) : Prop := ∀ v H, R.r v H → ∃ t, TyX K H v t ∧ PySem.W.kitOne K t (.ref C) = some b
structure ClsIs (K : PySem.W.Frag) (C : Addr) : Prop where
  c : Cls K C
  ca : PySem.W.findIn K (.ref C) "__class__" = some (some (.builtin "object.__class__"))
  cn : PySem.W.specialIn K (.builtin "object.__class__") "__get__" = some (some (.builtin "getset_descriptor.__get__"))
  ct : PySem.W.takesIn K (.builtin "object.__class__") = some true
  cm : PySem.W.mroIn K C (.type "object") = some true
  me : PySem.W.kitOne K (.ref C) (.ref C) = some true
theorem isiO_ins {fs : List (Str × Rp)} (T : ClsIs K C) : IsiO K (rIns C fs) C true := fun v H ⟨a, dx, us, h1, h2, _, _⟩ => by
  subst h1
  exact ⟨.ref C, .base (.ins h2 T.c T.ca T.cn T.ct T.cm), T.me⟩
theorem we_isiO (h : WE K ta E fun k E1 => ∃ R b, k = .im R ∧ IsiO K R C b ∧ Φ (.im (rB b)) E1) : WE K (tCB (rIsi K) (tCons ta (tCons (tC (.ref C)) tNil))) E Φ := fun H0 O0 σ T H hl ok Q q =>
  h H0 O0 σ T H hl ok _ fun k E1 ⟨R, b, e, hb, p⟩ l v H2 ok2 => by
    subst e
    obtain ⟨w, e, hv⟩ := ok2.head
    cases e
    obtain ⟨t, ht, hk⟩ := hb v H2 hv
    exact ⟨v, .ref C, t, .ref C, b, rfl, .own C, ht, hk, q _ E1 p l _ H2 (ok2.tail.im (R := rB b) rfl)⟩
theorem pe_cls {X : Cx} {x : Str} {pos : Pos} (h : X.mg x = some (.ref C)) (hg : Gl X x := by rfl) (hd : (x == ("__debug__" : Str)) = false := by decide) : PE X (.Name x pos) (tC (.ref C)) := pe_glob hg h rfl hd
end
/-! ints of the code -/
theorem two_ne : ("_length" : Str) ≠ "_basis" := by decide +kernel
/-- a Code: its length, its basis -/
abbrev rCode (K : PySem.W.Frag) (C : Addr) (n : Nat) (B : List Nat) : Rp := rIns C [("_length", rN n), ("_basis", rT K (B.map rN))]
end Fx
set_option Elab.async false
set_option linter.all false
set_option maxRecDepth 100000
set_option maxHeartbeats 2000000
/-! enumerate over a list or a tuple -/
namespace Fx
open PySem L2 PyProof.Rows
/-- a list (false) or a tuple (true) -/
def Sq (K : PySem.W.Frag) : Bool → Hp → Addr → List V → Prop
  | false => SqL K
  | true => SqT K
def IsSq : Bool → Heap → Addr → Array Value → Prop
  | false => fun h a items => h.IsList a items
  | true => fun h a items => h.IsTuple a items
def IsIt : Bool → Heap → Addr → Addr → Nat → Prop
  | false => fun h it a i => h.IsListIter it a i
  | true => fun h it a i => h.IsTupleIter it a i
def itObj (k : Bool) (a : Addr) : Obj := { cls := .type (if k then "tuple_iterator" else "list_iterator"), data := .fields #[.ref a, .int 0 0] }
theorem drawsSq {prog : Program} {w : World} {A : Around} (k : Bool) (hh : A.handled = none) (it l : Addr) (hne : l ≠ it) (items : Array Value) : Draws prog w A it [it, l] items.size (fun i v => items[i]? = some v) (fun i h => IsIt k h it l i ∧ IsSq k h l items) := by
  cases k with
  | false => exact Draws.list hh it l hne items
  | true => exact Draws.tuple hh it l hne items
theorem beginsSq (k : Bool) (l : Addr) (items : Array Value) : Begins (.ref l) (itObj k l) (fun h => IsSq k h l items) := by
  cases k with
  | false => exact begins_list l items
  | true => exact begins_tuple l items
theorem isIt_obj {k : Bool} {h : Heap} {it a : Addr} {i : Nat} (x : IsIt k h it a i) : ∃ o, h.get? it = some o ∧ ∀ v, o.data ≠ .cell v := by
  cases k with
  | false => obtain ⟨o, ho, _, hd⟩ := x; exact ⟨o, ho, fun v q => by rw [hd] at q; cases q⟩
  | true => obtain ⟨o, ho, _, hd⟩ := x; exact ⟨o, ho, fun v q => by rw [hd] at q; cases q⟩
theorem isIt_keep {k : Bool} {h h' : Heap} {it a : Addr} {i : Nat} (x : IsIt k h it a i) (e : ∀ o, h.get? it = some o → h'.get? it = some o) : IsIt k h' it a i := by
  cases k with
  | false => exact Heap.IsListIter.at x e
  | true => exact Heap.IsTupleIter.at x e
theorem isIt_new {k : Bool} {h : Heap} {it a : Addr} (x : h.get? it = some (itObj k a)) : IsIt k h it a 0 := by
  cases k with
  | false => exact ⟨_, x, rfl, rfl⟩
  | true => exact ⟨_, x, rfl, rfl⟩
section
variable {X : Cx} {pins : List (Addr × Obj)} {σ : L2.St} {H : Hp} {s : Shared} {a : Addr} {xs ys : List V} {k : Bool}
theorem sq_get (I : Inv X pins σ H s) (h : Sq X.K k H a xs) : ∃ its : List Value, Vals xs its ∧ IsSq k s.heap a its.toArray ∧ a < s.heap.objs.size := by
  cases k with
  | false =>
    obtain ⟨its, r, p, _⟩ := I.list h
    exact ⟨its, r, p.isList, p.lt⟩
  | true =>
    obtain ⟨its, r, p, _⟩ := I.tuple h
    obtain ⟨o, ho, _⟩ := id p
    exact ⟨its, r, show s.heap.IsTuple a its.toArray from p, Heap.lt_size ho⟩
theorem sq_inj (I : Inv X pins σ H s) (h : Sq X.K k H a xs) (h' : Sq X.K k H a ys) : xs = ys := by
  cases k with
  | false => exact I.list_inj h h'
  | true => exact I.tuple_inj h h'
end
/-- what stands at a, each item in a new pair with its index -/
def IteX (K : PySem.W.Frag) (k : Bool) (a : Addr) : It :=
  ⟨fun i H => ∃ (xs : List V) (x : V), Sq K k H a xs ∧ xs[i]? = some x, fun i H v H' => ∃ T x, v = .ref T ∧ H T = none ∧ H' = upd H T (.tup [.int (i : Nat), x]) ∧ ∀ xs, Sq K k H a xs → xs[i]? = some x, fun i H => ∃ xs : List V, Sq K k H a xs ∧ xs.length = i⟩
theorem turn_enumX {P : Program} {w : World} {K : PySem.W.Frag} {elts : List Expr} {kk : Nat} {tpos : Pos} (k : Bool) (a e it : Addr) (hae : a ≠ e) (hai : a ≠ it) (hne : e ≠ it) :
    Turn P w K (.Tuple elts kk tpos) (IteX K k a) [e, it] e (fun i h => (∃ old, IsEnum h e it ((i : Nat) : Int) old) ∧ IsIt k h it a i) where
  mem := by simp
  obj := fun i h st b hb => by
    obtain ⟨⟨old, he⟩, hi⟩ := st
    have e' : b = e ∨ b = it := by simpa using hb
    rcases e' with z | z
    · rw [z]; exact ⟨_, he, fun v q => nomatch q⟩
    · rw [z]; exact isIt_obj hi
  keep := fun i h h' st kp => let ⟨⟨old, he⟩, hi⟩ := st; ⟨⟨old, kp e (by simp) _ he⟩, isIt_keep hi fun o q => kp it (by simp) o q⟩
  item := by
    intro X hP hw hK hc i pins s σ H E I hf st hg
    subst hP hw hK
    obtain ⟨⟨old, he⟩, hit⟩ := st
    obtain ⟨xs, x, hq, hx⟩ := hg
    obtain ⟨its, rv, p, _⟩ := sq_get I hq
    obtain ⟨u, hu, ru⟩ := rv.get hx
    have hel : e < s.heap.objs.size := Heap.lt_size he
    have hil : it < s.heap.objs.size := by obtain ⟨_, q, _⟩ := isIt_obj hit; exact Heap.lt_size q
    have hlt : i < its.toArray.size := by
      have := (List.getElem?_eq_some_iff.mp hu).1
      simpa using this
    refine wpAny_pyNext_enum_itemD (drawsSq (A := X.A.in1) k (show X.A.in1.handled = none from I.ok.hd hc) it a hai its.toArray) he ⟨hit, p⟩ hlt hne (by simp [hne, Ne.symm hae]) fun y h' tk hy ho hst hT hsz hk => ?_
    have ey : y = u := by
      have h1 : its.toArray[i]? = some u := by simpa using hu
      rw [h1] at hy
      cases hy
      rfl
    subst ey
    refine ⟨_, rfl, wpAny_letOwnedTupleGo_enum (s := { s with heap := h', toks := tk + 1 }) ho fun h'' he' sb => ?_⟩
    have hT2 : h''.get? s.heap.objs.size = some { cls := .type "tuple", data := .seq #[.int i tk, y] } := (sb.2 _ (Nat.ne_of_gt hel)).trans hT
    have new : ObjOk X.prog X.w (upd H s.heap.objs.size (.tup [.int (i : Nat), x])) h'' s.heap.objs.size (.tup [.int (i : Nat), x]) :=
      ⟨by show 2 ≤ sizeLine; decide, [.int i tk, y], .cons ⟨_, rfl⟩ (.cons ru .nil), ⟨_, hT2, rfl, _, rfl⟩⟩
    have I1 : Inv X pins σ (upd H s.heap.objs.size (.tup [.int (i : Nat), x])) { s with heap := h'', toks := tk + 1 } :=
      I.turnedNew (ch := [e, it]) (fun b ob hb q => (sb.2 b (fun z => hb (by simp [z]))).trans (hk b ob (fun z => hb (by simp [z])) (fun z => hb (by simp [z])) q)) hf (Nat.le_refl _) new
    refine ⟨.ref s.heap.objs.size, _, I1, rfl, ⟨_, x, rfl, I.hok.fresh (Nat.le_refl _), rfl, fun ys hy => by rw [sq_inj I hy hq]; exact hx⟩, ⟨⟨y, ?_⟩, isIt_keep hst.1 fun o q => (sb.2 it (Ne.symm hne)).trans q⟩, fun b hb => ?_⟩
    · have e1 : ((i + 1 : Nat) : Int) = (i : Int) + 1 := by omega
      rw [e1]; exact he'
    · have hb' : b < s.heap.objs.size := by
        have e' : b = e ∨ b = it := by simpa using hb
        rcases e' with z | z
        · rw [z]; exact hel
        · rw [z]; exact hil
      rw [upd_ne (Nat.ne_of_lt hb')]
      exact (hf b hb).1
  done := by
    intro X hP hw hK hc i pins s σ H E I hf st hg
    subst hP hw hK
    obtain ⟨⟨old, he⟩, hit⟩ := st
    obtain ⟨xs, hq, hx⟩ := hg
    obtain ⟨its, rv, p, _⟩ := sq_get I hq
    obtain ⟨f0, f1, f2, f3, f4, f5⟩ := hf it (by simp)
    have hl := rv.length
    have e1 : i = its.toArray.size := by simp; omega
    subst e1
    exact wpAny_pyNext_enum_endD (drawsSq (A := X.A.in1) k (show X.A.in1.handled = none from I.ok.hd hc) it a hai its.toArray) he ⟨hit, p⟩ fun h' eb => ⟨rfl, I.turned (t' := s.toks) (fun b o hb q => eb b o hb q) f0 f1 f3 f4 f5⟩
  self := fun A i s Q E st h => let ⟨⟨_, he⟩, _⟩ := st; wpAny_pyIter_enum he h
set_option maxHeartbeats 1000000 in
theorem meets_enumerate_new1 {v : Value} {o : Obj} {H : Heap → Prop} (B : Begins v o H) :
    Meets (Builtin.«enumerate.__new__» ⟨[.type "enumerate", v], []⟩) (fun _ R s => H s.heap ∧
      R (.ok (.ret (.ref (s.heap.push o).objs.size))) { s with heap := (s.heap.push o).push { cls := .type "enumerate", data := .fields #[.none, .bool false, .ref s.heap.objs.size, rawInt 0, .none, .none] } }) :=
  .of_wp fun prog w A R s h => by
    obtain ⟨hp, g, d, tk, os⟩ := s; obtain ⟨h1, h⟩ := h
    have hsub := sub_enumerate
    have q1 : ∀ {A' : Around} {E : Value → Shared → Prop} {Q : Value → Shared → Prop}, Q (.ref hp.objs.size) ⟨hp.push o, g, d, tk, os⟩ → wpAny (model prog w) A' (pyIter v) Q E ⟨hp, g, d, tk, os⟩ :=
      fun q => B.iter prog w _ _ ⟨hp, g, d, tk, os⟩ _ h1 q
    wp_walk using q1
    refine wpAny_stack_any fun st => wpAny_pure ?_
    split
    · rename_i c _ _ _ _ _
      cases (c == Value.type "enumerate")
      · wp_walk using q1
        exact ⟨_, rfl, h⟩
      · wp_walk using q1
        exact ⟨_, rfl, h⟩
    · wp_walk using q1
      exact ⟨_, rfl, h⟩
section
variable {prog : Program} {w : World} {A : Around} {E : Value → Shared → Prop} {s : Shared}
theorem enum_begins1 {v : Value} {o : Obj} {H : Heap → Prop} {Q : Value → Shared → Prop} (B : Begins v o H) (h1 : H s.heap)
    (h : ∀ h', IsEnum h' (s.heap.objs.size + 1) s.heap.objs.size 0 .none → h'.get? s.heap.objs.size = some o → h'.objs.size = s.heap.objs.size + 2 →
      (∀ b o, s.heap.get? b = some o → h'.get? b = some o) → Q (.ref (s.heap.objs.size + 1)) { s with heap := h' }) :
    wpAny (model prog w) A (call (.type "enumerate") [v]) Q E s := by
  refine callType_new F.called_enumerate (by decide) (F.typeCall_enumerate_1 _) (F.newCall_enumerate_1 _) (fun obj => F.args_object_init_2 obj _) F.entry_enumerate_new
    (meets_enumerate_new1 B) ⟨h1, ?_⟩
  have hz : (s.heap.push o).objs.size = s.heap.objs.size + 1 := Heap.size_push ..
  show _ ∧ _
  rw [hz]
  have he : IsEnum ((s.heap.push o).push { cls := .type "enumerate", data := .fields #[.none, .bool false, .ref s.heap.objs.size, rawInt 0, .none, .none] }) (s.heap.objs.size + 1) s.heap.objs.size 0 .none := by
    have := Heap.get?_push_size (s.heap.push o) (o := { cls := .type "enumerate", data := .fields #[.none, .bool false, .ref s.heap.objs.size, rawInt 0, .none, .none] }) rfl
    rw [hz] at this; exact this
  refine ⟨⟨_, he, rfl⟩, h _ he (Heap.get?_push_of_some _ (Heap.get?_push_size _ B.free)) (by rw [Heap.size_push, hz]) fun b o x => Heap.get?_push_of_some _ (Heap.get?_push_of_some _ x)⟩
end
def iEnumX (K : PySem.W.Frag) (ta : TA) : TI := fun σ H R => ta σ H fun vs H1 => ∃ k a xs, vs = [.ref a] ∧ Sq K k H1 a xs ∧ R (IteX K k a) H1
theorem pi_enumX {X : Cx} {e : Expr} {ta : TA} {p pos tpos : Pos} {elts : List Expr} {kk : Nat} (hg : Gl X "enumerate") (hm : X.mg "enumerate" = none) (ha : PA X [e] ta) (hs : starEach [e] X.env = [(false, eval e X.env)] := by rfl) :
    PI X (.Tuple elts kk tpos) (.Call (.Name "enumerate" p) [e] [] pos) (iEnumX X.K ta) := by
  refine ⟨fun pins s σ H R I h => ?_⟩
  refine Call_ (ld_blt I hg hm boot_enumerate (PyProof.Rows.callWith_type1 (thn (ha.run pos pins s σ H _ I h) fun us s1 ⟨vs, H1, I1, r1, q1⟩ => ?_) hs rfl))
  obtain ⟨k, a, xs, ex, hq, q⟩ := q1
  subst ex
  cases r1 with
  | cons r rr =>
    cases rr
    cases r
    obtain ⟨its, rv, p', la⟩ := sq_get I1 hq
    refine enum_begins1 (beginsSq k a its.toArray) p' fun h' he hit hsz hk => wpAny_pyIter_enum he ?_
    have I2 : Inv X pins σ H1 { s1 with heap := h' } := I1.kept (t' := s1.toks) hk
    refine ⟨s1.heap.objs.size + 1, [s1.heap.objs.size + 1, s1.heap.objs.size], _, _, H1, rfl, I2, turn_enumX k a (s1.heap.objs.size + 1) s1.heap.objs.size (Nat.ne_of_lt (Nat.lt_succ_of_lt la)) (Nat.ne_of_lt la) (Nat.succ_ne_self _), ⟨⟨.none, he⟩, isIt_new hit⟩, fun b hb => ?_, q⟩
    have e' : b = s1.heap.objs.size + 1 ∨ b = s1.heap.objs.size := by simpa using hb
    have hle : s1.heap.objs.size ≤ b := by
      rcases e' with z | z
      · rw [z]; exact Nat.le_add_right _ _
      · rw [z]; exact Nat.le_refl _
    exact I1.fpOk hle (I1.hok.fresh hle)
end Fx
set_option Elab.async false
set_option linter.all false
set_option maxRecDepth 100000
set_option maxHeartbeats 2000000
/-! zip of two, each a list or a tuple -/
namespace Fx
open PySem L2 PyProof.Rows
def ItzX (K : PySem.W.Frag) (k l : Bool) (a b : Addr) : It :=
  ⟨fun i H => ∃ (xs ys : List V) (x y : V), Sq K k H a xs ∧ Sq K l H b ys ∧ xs[i]? = some x ∧ ys[i]? = some y,
    fun i H v H' => ∃ T x y, v = .ref T ∧ H T = none ∧ H' = upd H T (.tup [x, y]) ∧ (∀ xs, Sq K k H a xs → xs[i]? = some x) ∧ ∀ ys, Sq K l H b ys → ys[i]? = some y,
    fun i H => ∃ xs ys : List V, Sq K k H a xs ∧ Sq K l H b ys ∧ i ≤ xs.length ∧ i ≤ ys.length ∧ (i = xs.length ∨ i = ys.length)⟩
theorem turn_zipX {P : Program} {w : World} {K : PySem.W.Frag} {elts : List Expr} {kk : Nat} {tpos : Pos} (k l : Bool) {a b z TI TO i1 i2 : Addr} (D : ZipSep2 z TI TO i1 i2 [i1, a] [i2, b]) (h1a : a ≠ i1) (h2b : b ≠ i2) :
    Turn P w K (.Tuple elts kk tpos) (ItzX K k l a b) [z, TI, TO, i1, i2] z (fun i h => IsZip h z TI TO .none ∧ IsTupOf2 h TI (.ref i1) (.ref i2) ∧ (∃ x y, IsTupOf2 h TO x y) ∧ IsIt k h i1 a i ∧ IsIt l h i2 b i) where
  mem := by simp
  obj := fun i h st c hc => by
    obtain ⟨hz, hTI, ⟨x, y, hTO⟩, h1, h2⟩ := st
    have e' : c = z ∨ c = TI ∨ c = TO ∨ c = i1 ∨ c = i2 := by simpa using hc
    rcases e' with q | q | q | q | q
    · rw [q]; exact ⟨_, hz, fun v q => nomatch q⟩
    · rw [q]; exact ⟨_, hTI, fun v q => nomatch q⟩
    · rw [q]; exact ⟨_, hTO, fun v q => nomatch q⟩
    · rw [q]; exact isIt_obj h1
    · rw [q]; exact isIt_obj h2
  keep := fun i h h' st kp => by
    obtain ⟨hz, hTI, ⟨x, y, hTO⟩, h1, h2⟩ := st
    exact ⟨kp z (by simp) _ hz, kp TI (by simp) _ hTI, ⟨x, y, kp TO (by simp) _ hTO⟩, isIt_keep h1 fun o q => kp i1 (by simp) o q, isIt_keep h2 fun o q => kp i2 (by simp) o q⟩
  item := by
    intro X hP hw hK hc i pins s σ H E I hf st hg
    subst hP hw hK
    obtain ⟨hz, hTI, ⟨x0, y0, hTO⟩, h1, h2⟩ := st
    obtain ⟨xs, ys, x, y, hqx, hqy, hx, hy⟩ := hg
    obtain ⟨its, rv, p, _⟩ := sq_get I hqx
    obtain ⟨its2, rv2, p2, _⟩ := sq_get I hqy
    obtain ⟨u, hu, ru⟩ := rv.get hx
    obtain ⟨u2, hu2, ru2⟩ := rv2.get hy
    have hzl : z < s.heap.objs.size := Heap.lt_size hz
    have l1 : i < its.toArray.size := by
      have := (List.getElem?_eq_some_iff.mp hu).1
      simpa using this
    have l2 : i < its2.toArray.size := by
      have := (List.getElem?_eq_some_iff.mp hu2).1
      simpa using this
    refine wpAny_pyNext_zipD2_item D (drawsSq (A := X.A.in1) k (show X.A.in1.handled = none from I.ok.hd hc) i1 a h1a its.toArray) (drawsSq (A := X.A.in1) l (show X.A.in1.handled = none from I.ok.hd hc) i2 b h2b its2.toArray) hz hTI hTO ⟨h1, p⟩ ⟨h2, p2⟩ l1 l2 fun y1 y2 h' tk hy1 hy2 z' TO' h1' h2' hT hsz hk => ?_
    have e1 : y1 = u := by
      have q : its.toArray[i]? = some u := by simpa using hu
      rw [q] at hy1
      cases hy1
      rfl
    have e2 : y2 = u2 := by
      have q : its2.toArray[i]? = some u2 := by simpa using hu2
      rw [q] at hy2
      cases hy2
      rfl
    subst e1 e2
    refine ⟨_, rfl, wpAny_letOwnedTupleGo_zip (s := { s with heap := h', toks := tk }) z' fun h'' z'' sb => ?_⟩
    have hT2 : h''.get? s.heap.objs.size = some { cls := .type "tuple", data := .seq #[y1, y2] } := (sb.2 _ (Nat.ne_of_gt hzl)).trans hT
    have new : ObjOk X.prog X.w (upd H s.heap.objs.size (.tup [x, y])) h'' s.heap.objs.size (.tup [x, y]) :=
      ⟨by show 2 ≤ sizeLine; decide, [y1, y2], .cons ru (.cons ru2 .nil), ⟨_, hT2, rfl, _, rfl⟩⟩
    have I1 : Inv X pins σ (upd H s.heap.objs.size (.tup [x, y])) { s with heap := h'', toks := tk } :=
      I.turnedNew (t' := tk) (ch := [z, TI, TO, i1, i2]) (fun c o hb q => (sb.2 c (fun q' => hb (by simp [q']))).trans (hk c o (fun q' => hb (by simp [q'])) (fun q' => hb (by simp [q'])) (fun q' => hb (by simp [q'])) (fun q' => hb (by simp [q'])) q)) hf (Nat.le_refl _) new
    refine ⟨.ref s.heap.objs.size, _, I1, rfl, ⟨_, x, y, rfl, I.hok.fresh (Nat.le_refl _), rfl, fun m hm => by rw [sq_inj I hm hqx]; exact hx, fun m hm => by rw [sq_inj I hm hqy]; exact hy⟩, ⟨z'', ?_, ⟨y1, y2, ?_⟩, ?_, ?_⟩, fun c hcm => ?_⟩
    · exact (sb.2 _ D.TIz).trans (hk _ _ D.TIz D.TITO D.TIi1 D.TIi2 hTI)
    · exact (sb.2 _ D.TOz).trans TO'
    · exact isIt_keep h1'.1 fun o q => (sb.2 _ D.zi1.symm).trans q
    · exact isIt_keep h2'.1 fun o q => (sb.2 _ D.zi2.symm).trans q
    · have hlt : c < s.heap.objs.size := by
        have e' : c = z ∨ c = TI ∨ c = TO ∨ c = i1 ∨ c = i2 := by simpa using hcm
        rcases e' with q | q | q | q | q
        · rw [q]; exact hzl
        · rw [q]; exact Heap.lt_size hTI
        · rw [q]; exact Heap.lt_size hTO
        · rw [q]; obtain ⟨_, e1, _⟩ := isIt_obj h1; exact Heap.lt_size e1
        · rw [q]; obtain ⟨_, e2, _⟩ := isIt_obj h2; exact Heap.lt_size e2
      rw [upd_ne (Nat.ne_of_lt hlt)]
      exact (hf c hcm).1
  done := by
    intro X hP hw hK hc i pins s σ H E I hf st hg
    subst hP hw hK
    obtain ⟨hz, hTI, ⟨x0, y0, hTO⟩, h1, h2⟩ := st
    obtain ⟨xs, ys, hqx, hqy, hl1, hl2, hend⟩ := hg
    obtain ⟨its, rv, p, _⟩ := sq_get I hqx
    obtain ⟨its2, rv2, p2, _⟩ := sq_get I hqy
    have l1 := rv.length
    have l2 := rv2.length
    exact wpAny_pyNext_zipD2_end D (drawsSq (A := X.A.in1) k (show X.A.in1.handled = none from I.ok.hd hc) i1 a h1a its.toArray) (drawsSq (A := X.A.in1) l (show X.A.in1.handled = none from I.ok.hd hc) i2 b h2b its2.toArray) hz hTI hTO ⟨h1, p⟩ ⟨h2, p2⟩ (by simp; omega) (by simp; omega) (by simp; omega) fun h' tk hk => ⟨rfl, I.turnedL (t' := tk) (ch := [z, TI, TO, i1, i2]) (fun c o hb q =>
      hk c o (fun q' => hb (by simp [q'])) (fun q' => hb (by simp [q'])) (fun q' => hb (by simp [q'])) (fun q' => hb (by simp [q'])) q) hf⟩
  self := fun A i s Q E st h => wpAny_pyIter_zip st.1 h
def iZipX (K : PySem.W.Frag) (ta : TA) : TI := fun σ H R => ta σ H fun vs H1 => ∃ k l a b xs ys, vs = [.ref a, .ref b] ∧ Sq K k H1 a xs ∧ Sq K l H1 b ys ∧ R (ItzX K k l a b) H1
theorem pi_zipX {X : Cx} {e e2 : Expr} {ta : TA} {p pos tpos : Pos} {elts : List Expr} {kk : Nat} (hg : Gl X "zip") (hm : X.mg "zip" = none) (ha : PA X [e, e2] ta)
    (hs : starEach [e, e2] X.env = (false, eval e X.env) :: starEach [e2] X.env := by rfl) (hpl : (backTo pos (starEach [e2] X.env)).any (·.1) = false := by rfl) :
    PI X (.Tuple elts kk tpos) (.Call (.Name "zip" p) [e, e2] [] pos) (iZipX X.K ta) := by
  refine ⟨fun pins s σ H R I h => ?_⟩
  refine Call_ (ld_blt I hg hm PyProof.Rows.boot_zip (PyProof.Rows.callWith_type1 (thn (ha.run pos pins s σ H _ I h) fun us s1 ⟨vs, H1, I1, r1, q1⟩ => ?_) hs hpl))
  obtain ⟨k, l, a, b, xs, ys, ex, hqx, hqy, q⟩ := q1
  subst ex
  cases r1 with
  | cons r rr =>
    cases rr with
    | cons r' rr =>
      cases rr
      cases r
      cases r'
      obtain ⟨its, rv, p1, la⟩ := sq_get I1 hqx
      obtain ⟨its2, rv2, p2, lb⟩ := sq_get I1 hqy
      refine zip_begins2 (beginsSq k a its.toArray) (beginsSq l b its2.toArray) p1 p2 fun h' hz hTI hTO h1 h2 hsz hk => wpAny_pyIter_zip hz ?_
      have I2 : Inv X pins σ H1 { s1 with heap := h' } := I1.kept (t' := s1.toks) hk
      refine ⟨s1.heap.objs.size + 4, [s1.heap.objs.size + 4, s1.heap.objs.size + 2, s1.heap.objs.size + 3, s1.heap.objs.size, s1.heap.objs.size + 1], _, _, H1, rfl, I2, turn_zipX k l (zip_sep2 (fp1 := [a]) (fp2 := [b]) (by simpa using la) (by simpa using lb)) (Nat.ne_of_lt la) (Nat.ne_of_lt (Nat.lt_succ_of_lt lb)), ⟨hz, hTI, ⟨_, _, hTO⟩, isIt_new h1, isIt_new h2⟩, fun c hcm => ?_, q⟩
      have e' : c = s1.heap.objs.size + 4 ∨ c = s1.heap.objs.size + 2 ∨ c = s1.heap.objs.size + 3 ∨ c = s1.heap.objs.size ∨ c = s1.heap.objs.size + 1 := by simpa using hcm
      have hle : s1.heap.objs.size ≤ c := by
        rcases e' with z | z | z | z | z
        · rw [z]; exact Nat.le_add_right _ _
        · rw [z]; exact Nat.le_add_right _ _
        · rw [z]; exact Nat.le_add_right _ _
        · rw [z]; exact Nat.le_refl _
        · rw [z]; exact Nat.le_add_right _ _
      exact I1.fpOk hle (I1.hok.fresh hle)
end Fx
set_option Elab.async false
set_option linter.all false
set_option maxRecDepth 100000
set_option maxHeartbeats 2000000
/-! [e for a, b in enumerate(t) if ..], [e for a, b in zip(s, t) if ..] -/
namespace Fx
open PySem L2 PyProof.Rows
def gPair (K : PySem.W.Frag) (i j : Nat) : TG := gTup K 2 (gCons (gName i) (gCons (gName j) gNil))
section
variable (K : PySem.W.Frag)
structure Walks2 (J : It) (n : Nat) (τs : List (Option V × Sl)) (Ra Rb : Nat → Rp) : Prop where
  go : ∀ (H0 : Hp) (O0 : List Addr) (H : Hp) (L : List (Option V × Sl)), (∀ t ∈ τs, t ∈ L) → Ok K H0 O0 H L → ∀ i, i < n → J.go i H ∧ ∀ v H', J.yld i H v H' → ∃ T x y, v = .ref T ∧ H' T = some (.tup [x, y]) ∧ Ok K H0 O0 H' ((some x, .im (Ra i)) :: (some y, .im (Rb i)) :: L)
  stop : ∀ (H0 : Hp) (O0 : List Addr) (H : Hp) (L : List (Option V × Sl)), (∀ t ∈ τs, t ∈ L) → Ok K H0 O0 H L → J.stop n H
def WI2 (wi : TI) (E : List Sl) (Θ : Nat → (Nat → Rp) → (Nat → Rp) → Prop) : Prop :=
  ∀ (H0 : Hp) (O0 : List Addr) (σ : L2.St) (T : List (Option V × Sl)) (H : Hp), σ.length = E.length → Ok K H0 O0 H (T ++ σ.zip E) → ∀ Q : It → Hp → Prop,
    (∀ n Ra Rb τs J, Θ n Ra Rb → Walks2 K J n τs Ra Rb → (∀ t ∈ τs, t ∈ T ++ σ.zip E) → Q J H) → wi σ H Q
end
section
variable {K : PySem.W.Frag} {E : List Sl} {te : TE} {tt : TT} {Φ : Sl → List Sl → Prop} {a b s t : Nat} {wi : TI}
theorem set_noE {E : List Sl} {j : Nat} (h : E[j]? = some .no) : E.set j .no = E := by
  have hj := (List.getElem?_eq_some_iff.mp h).1
  have e2 := (List.getElem?_eq_some_iff.mp h).2
  have := List.set_getElem_self (as := E) hj
  rw [e2] at this
  exact this
theorem set_back {α : Type} {l : List α} {a b : Nat} {x y u v : α} (hab : a ≠ b) (ha : l[a]? = some x) (hb : l[b]? = some y) (p q : α) : (((((l.set b p).set a q).set a u).set b v).set b y).set a x = l := by
  refine List.ext_getElem? fun i => ?_
  simp only [List.getElem?_set, List.length_set]
  have la := (List.getElem?_eq_some_iff.mp ha).1
  have lb := (List.getElem?_eq_some_iff.mp hb).1
  by_cases h1 : a = i
  · subst h1
    simp [la]
    exact (List.getElem?_eq_some_iff.mp ha).2.symm
  · by_cases h2 : b = i
    · subst h2
      simp [h1, lb]
      exact (List.getElem?_eq_some_iff.mp hb).2.symm
    · simp [h1, h2]
theorem set_wipe {l : L2.St} {a b : Nat} {u v : V} (hab : a ≠ b) : wipe (((wipe l [a, b]).set a (some u)).set b (some v)) [a, b] = wipe l [a, b] := by
  show ((((((l.set b none).set a none).set a (some u)).set b (some v)).set b none).set a none) = (l.set b none).set a none
  refine List.ext_getElem? fun i => ?_
  simp only [List.getElem?_set, List.length_set]
  by_cases h1 : a = i
  · subst h1
    simp
  · by_cases h2 : b = i
    · subst h2
      simp [h1]
    · simp [h1, h2]
theorem we_lcP (hab : a ≠ b) (ha : E[a]? = some .no) (hb : E[b]? = some .no)
    (h : WI2 K wi E fun n Ra Rb => n < sizeLine ∧ ∃ (f : Nat → Bool) (v : Nat → Rp), (∀ i, i < n → WT K tt ((E.set a (.im (Ra i))).set b (.im (Rb i))) fun bb E2 => bb = f i ∧ E2 = (E.set a (.im (Ra i))).set b (.im (Rb i)) ∧ (bb = true → WE K te E2 fun k E3 => k = .im (v i) ∧ E3 = E2)) ∧ Φ (.own (((List.range n).filter f).map v)) E) :
    WE K (tLc wi (gPair K a b) tt te [a, b]) E Φ := fun H0 O0 σ T H hl ok Q q =>
  h H0 O0 σ T H hl ok _ fun n Ra Rb τs J ⟨hz, f, v, hs, hd⟩ hJ hm => by
    intro D hD
    have la := (List.getElem?_eq_some_iff.mp ha).1
    have lb := (List.getElem?_eq_some_iff.mp hb).1
    have okD : Ok K H0 O0 (upd H D (.lst [])) ((some (.ref D), .own []) :: (T ++ σ.zip E)) := ok.newL hD .nil
    refine ⟨fun i m H => m = n - i ∧ i ≤ n ∧ Ok K H0 O0 H ((some (.ref D), .own (((List.range i).filter f).map v)) :: (T ++ σ.zip E)), ⟨n, by simp, Nat.zero_le _, okD⟩, ?_⟩
    rintro i m H1 ⟨rfl, hi, ok1⟩
    have hm1 : ∀ t ∈ τs, t ∈ (some (V.ref D), Sl.own (((List.range i).filter f).map v)) :: (T ++ σ.zip E) := fun t ht => List.mem_cons_of_mem _ (hm t ht)
    by_cases hlt : i < n
    · obtain ⟨g, y⟩ := hJ.go H0 O0 H1 _ hm1 ok1 i hlt
      refine .inr ⟨g, fun H => Ok K H0 O0 H ((some (.ref D), .own (((List.range (i + 1)).filter f).map v)) :: (T ++ σ.zip E)), fun H' a => ⟨n - (i + 1), by omega, rfl, hlt, a⟩, fun w H' hy => ?_⟩
      obtain ⟨P, x, z, e, hP, ok2⟩ := y w H' hy
      subst e
      refine ⟨P, [x, z], rfl, SqT.of hP, rfl, x, [z], rfl, z, [], rfl, rfl, ?_⟩
      show wipe (((wipe σ [a, b]).set a (some x)).set b (some z)) [a, b] = wipe σ [a, b] ∧ tt (((wipe σ [a, b]).set a (some x)).set b (some z)) H' _
      refine ⟨set_wipe hab, ?_⟩
      have ok3 : Ok K H0 O0 H' (((some (.ref D), .own (((List.range i).filter f).map v)) :: T) ++ (((wipe σ [a, b]).set a (some x)).set b (some z)).zip ((E.set a (.im (Ra i))).set b (.im (Rb i)))) := by
        have s1 : Ok K H0 O0 H' (((some x, .im (Ra i)) :: (some z, .im (Rb i)) :: (some (.ref D), .own (((List.range i).filter f).map v)) :: T) ++ σ.zip E) := ok2
        have s2 := set_none (T := (some x, .im (Ra i)) :: (some z, .im (Rb i)) :: (some (.ref D), .own (((List.range i).filter f).map v)) :: T) hb hl none s1
        have s3 := set_none (T := (some x, .im (Ra i)) :: (some z, .im (Rb i)) :: (some (.ref D), .own (((List.range i).filter f).map v)) :: T) ha (by simp [hl]) none s2
        have s4 := Ok.store (T := (some z, .im (Rb i)) :: (some (.ref D), .own (((List.range i).filter f).map v)) :: T) a (by simp [hl]) s3
        exact Ok.store (T := (some (.ref D), .own (((List.range i).filter f).map v)) :: T) b (by simp [wipe_length, hl]) s4
      have back : ∀ {acc2 : List Rp} {H4 : Hp}, Ok K H0 O0 H4 (((some (.ref D), .own acc2) :: T) ++ (((wipe σ [a, b]).set a (some x)).set b (some z)).zip ((E.set a (.im (Ra i))).set b (.im (Rb i)))) → Ok K H0 O0 H4 ((some (.ref D), .own acc2) :: (T ++ σ.zip E)) := fun {acc2 H4} ok5 => by
        have ga : σ[a]? = some σ[a] := List.getElem?_eq_getElem (by omega)
        have gb : σ[b]? = some σ[b] := List.getElem?_eq_getElem (by omega)
        have s1 := Ok.store (T := (some (.ref D), .own acc2) :: T) (v := σ[b]) (k := .no) b (by simp [wipe_length, hl]) ok5.nil1
        have s2 := Ok.store (T := (some (.ref D), .own acc2) :: T) (v := σ[a]) (k := .no) a (by simp [wipe_length, hl]) s1.nil1
        have e1 : ((((wipe σ [a, b]).set a (some x)).set b (some z)).set b σ[b]).set a σ[a] = σ := set_back hab ga gb none none
        have e2 : ((((E.set a (.im (Ra i))).set b (.im (Rb i))).set b .no).set a .no) = E := by
          have q := set_back (l := E) (u := .im (Ra i)) (v := .im (Rb i)) hab ha hb .no .no
          rw [set_noE hb, set_noE ha] at q
          exact q
        rw [e1, e2] at s2
        exact s2
      refine hs i hlt H0 O0 _ _ H' (by simp [wipe_length, hl]) ok3 _ fun bb E2 ⟨p1, p2, p3⟩ l2 H3 ok5 => ?_
      subst p2
      cases bb with
      | false =>
        rw [if_neg Bool.false_ne_true]
        have e : ((List.range (i + 1)).filter f).map v = ((List.range i).filter f).map v := by
          rw [List.range_succ, List.filter_append, List.filter_cons, if_neg (by rw [← p1]; decide)]
          simp
        show Ok K H0 O0 H3 _
        rw [e]
        exact back ok5
      | true =>
        rw [if_pos rfl]
        refine p3 rfl H0 O0 _ _ H3 (by simp [wipe_length, hl]) ok5 _ fun k3 E3 ⟨ek, eE⟩ l3 w H4 ok6 => ?_
        subst ek eE
        have s : Ok K H0 O0 H4 ((some (.ref D), .own (((List.range i).filter f).map v)) :: ((some w, .im (v i)) :: (T ++ (((wipe σ [a, b]).set a (some x)).set b (some z)).zip ((E.set a (.im (Ra i))).set b (.im (Rb i)))))) := ok6.perm (List.Perm.swap _ _ _)
        obtain ⟨a', vs, e1, h2, h3, h4⟩ := s.head
        cases e1
        obtain ⟨v', e2, hv⟩ := s.tail.head
        cases e2
        refine ⟨vs, h2, ?_, ?_⟩
        · have q1 := h3.len
          rw [List.length_map] at q1
          have q2 := List.length_filter_le f (List.range i)
          rw [List.length_range] at q2
          omega
        · have s2 := s.chL rfl (h3.app (.cons hv .nil))
          have e : ((List.range (i + 1)).filter f).map v = ((List.range i).filter f).map v ++ [v i] := by
            rw [List.range_succ, List.filter_append, List.filter_cons, if_pos p1.symm, List.map_append]
            rfl
          show Ok K H0 O0 _ _
          rw [e]
          exact back (s2.sub drop2)
    · have e : i = n := by omega
      subst e
      exact .inl ⟨hJ.stop H0 O0 H1 _ hm1 ok1, q _ E hd rfl _ H1 ok1⟩
theorem ok_pair {H0 : Hp} {O0 : List Addr} {H : Hp} {L : List (Option V × Sl)} {T : Addr} {x y : V} {Ra Rb : Rp} (ok : Ok K H0 O0 H L) (hT : H T = none) (hx : Ra.r x H) (hy : Rb.r y H) : Ok K H0 O0 (upd H T (.tup [x, y])) ((some x, .im Ra) :: (some y, .im Rb) :: L) := by
  have e : ∀ b u, H b = some u → upd H T (.tup [x, y]) b = some u := fun b u z => by rw [upd_ne (ne_of_none z hT)]; exact z
  exact ((ok.ext e).im (Rp.st _ (.of e) hy)).im (Rp.st _ (.of e) hx)
theorem rN_get {H : Hp} {vs : List V} {xs : List Nat} (h : Vr H vs (xs.map rN)) {i : Nat} (hi : i < xs.length) : ∃ v, vs[i]? = some v ∧ (rN (xs.getD i 0)).r v H := by
  refine h.get ?_
  rw [List.getElem?_map, List.getElem?_eq_getElem hi, List.getD_eq_getElem?_getD, List.getElem?_eq_getElem hi]
  rfl
theorem walks2_enumT {p : Addr} {xs : List Nat} : Walks2 K (IteX K true p) xs.length [(some (.ref p), .im (rT K (xs.map rN)))] (fun i => rN i) (fun i => rN (xs.getD i 0)) := by
  refine ⟨fun H0 O0 H L hm ok i hi => ?_, fun H0 O0 H L hm ok => ?_⟩
  · obtain ⟨w, e, q, vs, h1, h2, h3⟩ := ok.sl _ (hm _ List.mem_cons_self)
    cases e
    cases h1
    obtain ⟨x, hx, hr⟩ := rN_get h3 hi
    refine ⟨⟨vs, x, SqT.of h2, hx⟩, fun v H' y => ?_⟩
    obtain ⟨T, x', e1, hT, e2, hu⟩ := y
    have z := hu vs (SqT.of h2)
    rw [hx] at z
    cases z
    subst e1 e2
    exact ⟨T, .int (i : Nat), x, rfl, upd_same, ok_pair ok hT rfl hr⟩
  · obtain ⟨w, e, q, vs, h1, h2, h3⟩ := ok.sl _ (hm _ List.mem_cons_self)
    cases e
    cases h1
    exact ⟨vs, SqT.of h2, by have := h3.len; simpa using this⟩
theorem wi2_enumT {Θ : Nat → (Nat → Rp) → (Nat → Rp) → Prop} {xs : List Nat} (hs : E[s]? = some (.im (rT K (xs.map rN)))) (p : Θ xs.length (fun i => rN i) (fun i => rN (xs.getD i 0))) : WI2 K (iEnumX K (tCons (tVar s) tNil)) E Θ := fun H0 O0 σ T H hl ok Q q => by
  obtain ⟨o, h1, h2⟩ := zip_get hl hs
  have hm := List.mem_append_right T h2
  obtain ⟨w, e, a, vs, e2, h3, h4⟩ := ok.sl _ hm
  have e : o = some w := e
  subst e e2
  exact ⟨.ref a, h1, true, a, vs, rfl, SqT.of h3, q _ _ _ _ _ p walks2_enumT fun t ht => by rw [List.mem_singleton.mp ht]; exact hm⟩
theorem walks2_enumQ {p : Addr} {xs : List Nat} : Walks2 K (IteX K true p) xs.length [(some (.ref p), .im (rTQ K (xs.map rN)))] (fun i => rN i) (fun i => rN (xs.getD i 0)) := by
  refine ⟨fun H0 O0 H L hm ok i hi => ?_, fun H0 O0 H L hm ok => ?_⟩
  · obtain ⟨w, e, q, vs, h1, h2, h3⟩ := ok.sl _ (hm _ List.mem_cons_self)
    cases e
    cases h1
    obtain ⟨x, hx, hr⟩ := rN_get h3 hi
    refine ⟨⟨vs, x, h2, hx⟩, fun v H' y => ?_⟩
    obtain ⟨T, x', e1, hT, e2, hu⟩ := y
    have z := hu vs (h2)
    rw [hx] at z
    cases z
    subst e1 e2
    exact ⟨T, .int (i : Nat), x, rfl, upd_same, ok_pair ok hT rfl hr⟩
  · obtain ⟨w, e, q, vs, h1, h2, h3⟩ := ok.sl _ (hm _ List.mem_cons_self)
    cases e
    cases h1
    exact ⟨vs, h2, by have := h3.len; simpa using this⟩
theorem wi2_enumQ {Θ : Nat → (Nat → Rp) → (Nat → Rp) → Prop} {xs : List Nat} (hs : E[s]? = some (.im (rTQ K (xs.map rN)))) (p : Θ xs.length (fun i => rN i) (fun i => rN (xs.getD i 0))) : WI2 K (iEnumX K (tCons (tVar s) tNil)) E Θ := fun H0 O0 σ T H hl ok Q q => by
  obtain ⟨o, h1, h2⟩ := zip_get hl hs
  have hm := List.mem_append_right T h2
  obtain ⟨w, e, a, vs, e2, h3, h4⟩ := ok.sl _ hm
  have e : o = some w := e
  subst e e2
  exact ⟨.ref a, h1, true, a, vs, rfl, h3, q _ _ _ _ _ p walks2_enumQ fun t ht => by rw [List.mem_singleton.mp ht]; exact hm⟩
theorem walks2_zipLT {p r : Addr} {xs ys : List Nat} (hl : xs.length = ys.length) : Walks2 K (ItzX K false true p r) xs.length [(some (.ref p), .own (xs.map rN)), (some (.ref r), .im (rT K (ys.map rN)))] (fun i => rN (xs.getD i 0)) (fun i => rN (ys.getD i 0)) := by
  refine ⟨fun H0 O0 H L hm ok i hi => ?_, fun H0 O0 H L hm ok => ?_⟩
  · obtain ⟨a, us, e, g1, g2, g3⟩ := ok.sl _ (hm _ List.mem_cons_self)
    cases e
    obtain ⟨w, e, q, vs, h1, h2, h3⟩ := ok.sl _ (hm _ (List.mem_cons_of_mem _ List.mem_cons_self))
    cases e
    cases h1
    obtain ⟨x, hx, hrx⟩ := rN_get g2 hi
    obtain ⟨y, hy, hry⟩ := rN_get h3 (hl ▸ hi)
    refine ⟨⟨us, vs, x, y, SqL.of g1, SqT.of h2, hx, hy⟩, fun v H' z => ?_⟩
    obtain ⟨T, x', y', e1, hT, e2, hu, hv⟩ := z
    have z1 := hu us (SqL.of g1)
    rw [hx] at z1
    cases z1
    have z2 := hv vs (SqT.of h2)
    rw [hy] at z2
    cases z2
    subst e1 e2
    exact ⟨T, x, y, rfl, upd_same, ok_pair ok hT hrx hry⟩
  · obtain ⟨a, us, e, g1, g2, g3⟩ := ok.sl _ (hm _ List.mem_cons_self)
    cases e
    obtain ⟨w, e, q, vs, h1, h2, h3⟩ := ok.sl _ (hm _ (List.mem_cons_of_mem _ List.mem_cons_self))
    cases e
    cases h1
    have l1 := g2.len
    have l2 := h3.len
    rw [List.length_map] at l1 l2
    exact ⟨us, vs, SqL.of g1, SqT.of h2, by omega, by omega, .inl (by omega)⟩
theorem wi2_zipLT {Θ : Nat → (Nat → Rp) → (Nat → Rp) → Prop} {xs ys : List Nat} (hs : E[s]? = some (.own (xs.map rN))) (ht : E[t]? = some (.im (rT K (ys.map rN)))) (hl2 : xs.length = ys.length) (p : Θ xs.length (fun i => rN (xs.getD i 0)) (fun i => rN (ys.getD i 0))) : WI2 K (iZipX K (tCons (tVar s) (tCons (tVar t) tNil))) E Θ := fun H0 O0 σ T H hl ok Q q => by
  obtain ⟨o, h1, h2⟩ := zip_get hl hs
  have hm := List.mem_append_right T h2
  obtain ⟨a, us, e, g1, g2, g3⟩ := ok.sl _ hm
  have e : o = some (.ref a) := e
  subst e
  obtain ⟨o', h1', h2'⟩ := zip_get hl ht
  have hm' := List.mem_append_right T h2'
  obtain ⟨w, e, r, vs, e2, h3, h4⟩ := ok.sl _ hm'
  have e : o' = some w := e
  subst e e2
  refine ⟨.ref a, h1, .ref r, h1', false, true, a, r, us, vs, rfl, SqL.of g1, SqT.of h3, q _ _ _ _ _ p (walks2_zipLT hl2) fun t ht => ?_⟩
  rcases List.mem_cons.mp ht with z | z
  · rw [z]; exact hm
  · rw [List.mem_singleton.mp z]; exact hm'
/-- truth of a tuple -/
theorem wt_truT {Ψ : Bool → List Sl → Prop} (h : WE K te E fun k E1 => ∃ rs, k = .im (rT K rs) ∧ Ψ (!rs.isEmpty) E1) : WT K (tTru K te) E Ψ := fun H0 O0 σ T H hl ok Q q =>
  h H0 O0 σ T H hl ok _ fun k1 E1 ⟨rs, e, p⟩ l1 x H1 ok1 => by
    subst e
    obtain ⟨v, e1, a, vs, h1, h2, h3⟩ := ok1.head
    cases e1
    subst h1
    refine ⟨!rs.isEmpty, ?_, q _ E1 p l1 H1 ok1.tail⟩
    exact .inr (.inl ⟨vs, SqT.of h2, by cases h3 <;> rfl⟩)
theorem kEnumX {X : Cx} {e : Expr} {ta : TA} {p pos tpos : Pos} {elts : List Expr} {kk : Nat} (h : X.K = K) (hg : Gl X "enumerate") (hm : X.mg "enumerate" = none) (ha : PA X [e] ta) (hs : starEach [e] X.env = [(false, eval e X.env)] := by rfl) :
    PI X (.Tuple elts kk tpos) (.Call (.Name "enumerate" p) [e] [] pos) (iEnumX K ta) := by subst h; exact pi_enumX hg hm ha hs
theorem kZipX {X : Cx} {e e2 : Expr} {ta : TA} {p pos tpos : Pos} {elts : List Expr} {kk : Nat} (h : X.K = K) (hg : Gl X "zip") (hm : X.mg "zip" = none) (ha : PA X [e, e2] ta)
    (hs : starEach [e, e2] X.env = (false, eval e X.env) :: starEach [e2] X.env := by rfl) (hpl : (backTo pos (starEach [e2] X.env)).any (·.1) = false := by rfl) :
    PI X (.Tuple elts kk tpos) (.Call (.Name "zip" p) [e, e2] [] pos) (iZipX K ta) := by subst h; exact pi_zipX hg hm ha hs hpl
end
end Fx
set_option Elab.async false
set_option linter.all false
set_option maxRecDepth 100000
set_option maxHeartbeats 2000000
/-! lots: words cut, parts and traces -/
namespace Cu
open Fx Wd Gf Du
theorem nodup_map {α β : Type} {f : α → β} {l : List α} (h : l.Nodup) (hi : ∀ a, a ∈ l → ∀ b, b ∈ l → f a = f b → a = b) : (l.map f).Nodup := by
  unfold List.Nodup
  rw [List.pairwise_map]
  exact List.Pairwise.imp_of_mem (fun ha hb n e => n (hi _ ha _ hb e)) h
/-- an ascending lot of places -/
structure Lot (n : Nat) (L : List Nat) : Prop where
  o : L.Pairwise (· < ·)
  lt : ∀ p ∈ L, p < n
theorem Lot.nd {n : Nat} {L : List Nat} (h : Lot n L) : L.Nodup := h.o.imp Nat.ne_of_lt
def cutP (w : Nat) (L : List Nat) : List Nat := (List.range L.length).filter fun i => decide (w / 2 ^ L.getD i 0 % 2 = 1)
def cutW (L : List Nat) (w : Nat) : Nat := wordAt (cutP w L)
theorem cut_bit (L : List Nat) (w i : Nat) : (cutW L w).testBit i = (decide (i < L.length) && w.testBit (L.getD i 0)) := by
  unfold cutW
  have hn : (cutP w L).Nodup := List.nodup_range.filter _
  rw [wordAt_bit _ hn]
  have hm : i ∈ cutP w L ↔ i < L.length ∧ w / 2 ^ L.getD i 0 % 2 = 1 := by
    unfold cutP
    rw [List.mem_filter, List.mem_range, decide_eq_true_eq]
  cases hb : w.testBit (L.getD i 0) with
  | true =>
    rw [Bool.and_true]
    exact decide_eq_decide.mpr (hm.trans ⟨fun z => z.1, fun z => ⟨z, (bit_eq _ _).mpr hb⟩⟩)
  | false =>
    rw [Bool.and_false]
    refine decide_eq_false fun z => ?_
    rw [(bit_eq _ _).mp (hm.mp z).2] at hb
    cases hb
theorem cut_xor (L : List Nat) (x y : Nat) : cutW L (x ^^^ y) = cutW L x ^^^ cutW L y := by
  refine Nat.eq_of_testBit_eq fun i => ?_
  rw [cut_bit, xor_bit, xor_bit, cut_bit, cut_bit]
  cases decide (i < L.length) <;> simp
theorem cut_zero (L : List Nat) : cutW L 0 = 0 := by
  refine Nat.eq_of_testBit_eq fun i => ?_
  rw [cut_bit]
  simp
theorem cut_lt (L : List Nat) (w : Nat) : cutW L w < 2 ^ L.length := lt_of_bits fun i hi => by
  rw [cut_bit, decide_eq_false (by omega)]
  rfl
/-- the word of the lot -/
def extP (L : List Nat) (x : Nat) : List Nat := (placesOf x).map fun i => L.getD i 0
def extW (L : List Nat) (x : Nat) : Nat := wordAt (extP L x)
section
variable {n : Nat} {L : List Nat}
theorem get_mem {i : Nat} (h : i < L.length) : L.getD i 0 ∈ L := by
  rw [List.getD_eq_getElem?_getD, List.getElem?_eq_getElem h]
  exact List.getElem_mem h
theorem get_inj (hL : Lot n L) {i j : Nat} (hi : i < L.length) (hj : j < L.length) (e : L.getD i 0 = L.getD j 0) : i = j := by
  rw [List.getD_eq_getElem?_getD, List.getElem?_eq_getElem hi, List.getD_eq_getElem?_getD, List.getElem?_eq_getElem hj] at e
  have ho := List.pairwise_iff_getElem.mp hL.o
  rcases Nat.lt_trichotomy i j with z | z | z
  · have := ho i j hi hj z
    simp only [Option.getD_some] at e
    omega
  · exact z
  · have := ho j i hj hi z
    simp only [Option.getD_some] at e
    omega
theorem mem_places {x i : Nat} : i ∈ placesOf x ↔ x.testBit i = true := by
  have h := wordAt_bit (placesOf x) (List.nodup_range.filter _) i
  rw [wordAt_places] at h
  rw [h]
  exact (decide_eq_true_iff).symm
theorem ext_nd (hL : Lot n L) {x : Nat} (hx : x < 2 ^ L.length) : (extP L x).Nodup := by
  unfold extP
  refine nodup_map (places_asc x |>.imp Nat.ne_of_lt) fun a ha b hb e => ?_
  exact get_inj hL (places_lt hx ha) (places_lt hx hb) e
theorem ext_bit (hL : Lot n L) {x : Nat} (hx : x < 2 ^ L.length) {i : Nat} (hi : i < L.length) : (extW L x).testBit (L.getD i 0) = x.testBit i := by
  unfold extW
  rw [wordAt_bit _ (ext_nd hL hx)]
  cases hb : x.testBit i with
  | true => exact decide_eq_true (List.mem_map.mpr ⟨i, mem_places.mpr hb, rfl⟩)
  | false =>
    refine decide_eq_false fun h => ?_
    obtain ⟨j, hj, e⟩ := List.mem_map.mp h
    have := get_inj hL (places_lt hx hj) hi e
    subst this
    rw [mem_places.mp hj] at hb
    cases hb
theorem ext_in (hL : Lot n L) {x : Nat} (hx : x < 2 ^ L.length) {p : Nat} (h : (extW L x).testBit p = true) : p ∈ L := by
  unfold extW at h
  rw [wordAt_bit _ (ext_nd hL hx)] at h
  obtain ⟨j, hj, e⟩ := List.mem_map.mp (of_decide_eq_true h)
  rw [← e]
  exact get_mem (places_lt hx hj)
theorem ext_lt (hL : Lot n L) {x : Nat} (hx : x < 2 ^ L.length) : extW L x < 2 ^ n := lt_of_bits fun i hi => by
  cases hb : (extW L x).testBit i with
  | false => rfl
  | true =>
    have := hL.lt i (ext_in hL hx hb)
    omega
theorem cut_ext (hL : Lot n L) {x : Nat} (hx : x < 2 ^ L.length) : cutW L (extW L x) = x := by
  refine Nat.eq_of_testBit_eq fun i => ?_
  rw [cut_bit]
  by_cases hi : i < L.length
  · rw [decide_eq_true hi, ext_bit hL hx hi]
    rfl
  · rw [decide_eq_false hi, Nat.testBit_lt_two_pow (Nat.lt_of_lt_of_le hx (Nat.pow_le_pow_right (by decide) (by omega)))]
    rfl
/-- words within the lot -/
def In (L : List Nat) (w : Nat) : Prop := ∀ i, w.testBit i = true → i ∈ L
theorem In.xor {x y : Nat} (h : In L x) (g : In L y) : In L (x ^^^ y) := fun i hi => by
  rw [xor_bit] at hi
  cases hx : x.testBit i with
  | true => exact h i hx
  | false =>
    rw [hx] at hi
    exact g i (by simpa using hi)
theorem mem_get {p : Nat} (h : p ∈ L) : ∃ i, i < L.length ∧ L.getD i 0 = p := by
  obtain ⟨i, hi, e⟩ := List.getElem_of_mem h
  exact ⟨i, hi, by rw [List.getD_eq_getElem?_getD, List.getElem?_eq_getElem hi]; exact e⟩
theorem in_zero {w : Nat} (h : In L w) (z : cutW L w = 0) : w = 0 := by
  refine Nat.eq_of_testBit_eq fun p => ?_
  rw [Nat.zero_testBit]
  cases hb : w.testBit p with
  | false => rfl
  | true =>
    obtain ⟨i, hi, e⟩ := mem_get (h p hb)
    have := cut_bit L w i
    rw [z, decide_eq_true hi, e, hb] at this
    simp at this
theorem in_inj {x y : Nat} (h : In L x) (g : In L y) (e : cutW L x = cutW L y) : x = y :=
  xor_zero_eq (in_zero (h.xor g) (by rw [cut_xor, e, Nat.xor_self]))
theorem ext_cut (hL : Lot n L) {w : Nat} (h : In L w) : extW L (cutW L w) = w :=
  in_inj (fun i hi => ext_in hL (cut_lt L w) hi) h (cut_ext hL (cut_lt L w))
/-- products -/
theorem dot_fold (b : Nat) (f : Nat → Nat) : ∀ (l : List Nat) (s : Bool), (l.map f).foldl (fun s p => s ^^ b.testBit p) s = l.foldl (fun s i => s ^^ b.testBit (f i)) s
  | [], _ => rfl
  | _ :: l, _ => dot_fold b f l _
theorem fold_same {f g : Nat → Bool} : ∀ (l : List Nat) (s : Bool), (∀ i ∈ l, f i = g i) → l.foldl (fun s i => s ^^ f i) s = l.foldl (fun s i => s ^^ g i) s
  | [], _, _ => rfl
  | a :: l, s, h => by
    rw [List.foldl_cons, List.foldl_cons, h a List.mem_cons_self]
    exact fold_same l _ fun i hi => h i (List.mem_cons_of_mem _ hi)
theorem dot_ext (hL : Lot n L) {x : Nat} (hx : x < 2 ^ L.length) (c : Nat) : dot (extW L x) c = dot x (cutW L c) := by
  have e : dot x (cutW L c) = dot (wordAt (placesOf x)) (cutW L c) := by rw [wordAt_places]
  rw [e, dot_word]
  unfold extW extP
  rw [dot_word, dot_fold]
  refine fold_same _ _ fun i hi => ?_
  rw [cut_bit, decide_eq_true (places_lt hx hi)]
  rfl
/-- the span of single places -/
theorem sp_places {w : Nat} : Sp (L.map fun p => 2 ^ p) w ↔ In L w := by
  constructor
  · intro h
    induction h with
    | zero => intro i hi; simp at hi
    | @add y w _ hw ih =>
      refine ih.xor ?_
      obtain ⟨p, hp, e⟩ := List.mem_map.mp hw
      intro i hi
      rw [← e, Nat.testBit_two_pow] at hi
      rw [← of_decide_eq_true hi]
      exact hp
  · intro h
    have key : ∀ ps : List Nat, (∀ p ∈ ps, p ∈ L) → Sp (L.map fun p => 2 ^ p) (wordAt ps) := by
      intro ps
      unfold wordAt xsum
      rw [List.foldl_map]
      induction ps with
      | nil => intro _; exact .zero
      | cons p ps ih =>
        intro hp
        rw [List.foldl_cons, xfold, Nat.zero_xor, Nat.xor_comm]
        exact (ih fun q hq => hp q (List.mem_cons_of_mem _ hq)).xor (.mem (List.mem_map.mpr ⟨p, hp p List.mem_cons_self, rfl⟩))
    have := key (placesOf w) fun p hp => h p (mem_places.mp hp)
    rw [wordAt_places] at this
    exact this
end
/-- traces and parts -/
def traceL (B L : List Nat) : List Nat := basisOf (B.map (cutW L))
def within (L : List Nat) : List Nat := basisOf (L.map fun p => 2 ^ p)
def partL (n : Nat) (B L : List Nat) : List Nat := basisOf ((meetOf n B (within L)).map (cutW L))
theorem within_sp {L : List Nat} {w : Nat} : Sp (within L) w ↔ In L w := (basisOf_same _ w).trans sp_places
theorem within_bas {n : Nat} {L : List Nat} (h0 : n ≤ 1000) (hL : Lot n L) : Bas n (within L) := .of h0 fun a ha => by
  obtain ⟨p, hp, e⟩ := List.mem_map.mp ha
  rw [← e]
  exact Nat.pow_lt_pow_right (by decide) (hL.lt p hp)
theorem cut_bas {n : Nat} {L B : List Nat} (h0 : n ≤ 1000) (hl : L.length ≤ n) : Bas L.length (basisOf (B.map (cutW L))) := .of (by omega) fun a ha => by
  obtain ⟨p, hp, e⟩ := List.mem_map.mp ha
  rw [← e]
  exact cut_lt _ _
theorem lot_len {n : Nat} {L : List Nat} (h : Lot n L) : L.length ≤ n := by
  have ho := List.pairwise_iff_getElem.mp h.o
  have key : ∀ i (hi : i < L.length), i ≤ L[i] := by
    intro i
    induction i with
    | zero => intro _; exact Nat.zero_le _
    | succ i ih =>
      intro hi
      have h1 := ih (by omega)
      have h2 := ho i (i + 1) (by omega) hi (by omega)
      omega
  rcases Nat.eq_zero_or_pos L.length with z | z
  · omega
  · have h1 := key (L.length - 1) (by omega)
    have h2 := h.lt _ (List.getElem_mem (show L.length - 1 < L.length by omega))
    omega
theorem sp_trace {B L : List Nat} {y : Nat} : Sp (traceL B L) y ↔ ∃ x, Sp B x ∧ cutW L x = y := (basisOf_same _ y).trans (sp_map (cut_zero L) (cut_xor L))
section
variable {n : Nat} {B L : List Nat} (hB : Bas n B) (hL : Lot n L)
theorem sp_part (hB : Bas n B) (hL : Lot n L) {y : Nat} : Sp (partL n B L) y ↔ ∃ x, Sp B x ∧ In L x ∧ cutW L x = y := by
  have hW := within_bas hB.n1000 hL
  refine ((basisOf_same _ y).trans (sp_map (cut_zero L) (cut_xor L))).trans ?_
  constructor
  · rintro ⟨x, h, e⟩
    obtain ⟨a, b⟩ := (meet_span hB.rr hW.rr hB.lt hW.lt).mp h
    exact ⟨x, a, within_sp.mp b, e⟩
  · rintro ⟨x, a, b, e⟩
    exact ⟨x, (meet_span hB.rr hW.rr hB.lt hW.lt).mpr ⟨a, within_sp.mpr b⟩, e⟩
theorem part_eq (hB : Bas n B) (hL : Lot n L) : partL n B L = checksOf L.length (traceL (checksOf n B) L) := by
  have hm := lot_len hL
  have hT : Bas L.length (traceL (checksOf n B) L) := cut_bas hB.n1000 hm
  refine (basis_uniq (basisOf_rr _) (basis_ord _) ?_).symm
  refine Same.trans (fun y => ?_) (basisOf_same _)
  show Sp (checksOf L.length (traceL (checksOf n B) L)) y ↔ _
  rw [checksOf_dual hT.rr hT.lt y]
  have hx : Sp (partL n B L) y ↔ _ := sp_part hB hL
  show _ ↔ Sp (partL n B L) y
  rw [hx]
  constructor
  · rintro ⟨h1, h2⟩
    refine ⟨extW L y, ?_, fun i hi => ext_in hL h1 hi, cut_ext hL h1⟩
    refine dual_dual hB.rr hB.lt (ext_lt hL h1) fun d hd => ?_
    rw [dot_ext hL h1]
    refine dot_sp h2 (sp_trace.mpr ⟨d, (checksOf_dual hB.rr hB.lt d).mpr hd, rfl⟩)
  · rintro ⟨x, a, b, e⟩
    refine ⟨by rw [← e]; exact cut_lt _ _, fun w hw => ?_⟩
    obtain ⟨d, hd, ed⟩ := sp_trace.mp (.mem hw)
    rw [← ed, ← e, ← dot_ext hL (cut_lt L x), ext_cut hL b, dot_comm]
    exact ((checksOf_dual hB.rr hB.lt d).mp hd).sp a
theorem part_bas (hB : Bas n B) (hL : Lot n L) : Bas L.length (partL n B L) := cut_bas hB.n1000 (lot_len hL)
theorem trace_bas (hB : Bas n B) (hL : Lot n L) : Bas L.length (traceL B L) := cut_bas hB.n1000 (lot_len hL)
theorem dual_part (hB : Bas n B) (hL : Lot n L) : checksOf L.length (partL n B L) = traceL (checksOf n B) L := by
  have hT : Bas L.length (traceL (checksOf n B) L) := cut_bas hB.n1000 (lot_len hL)
  rw [part_eq hB hL]
  exact checks_twice hT.rr (basis_ord _) hT.lt
theorem dual_trace (hB : Bas n B) (o : B.Pairwise (· ≥ ·)) (hL : Lot n L) : checksOf L.length (traceL B L) = partL n (checksOf n B) L := by
  rw [part_eq hB.checks hL, checks_twice hB.rr o hB.lt]
/-! dimensions -/
theorem dim_inj {C : List Nat} {f : Nat → Nat} (h0 : f 0 = 0) (hf : ∀ x y, f (x ^^^ y) = f x ^^^ f y) (hi : ∀ x, Sp C x → f x = 0 → x = 0) : dim (C.map f) = dim C := by
  have e : dim (C.map f) = dim ((basisOf C).map f) := dim_congr fun y => by
    rw [sp_map h0 hf, sp_map h0 hf]
    exact ⟨fun ⟨x, a, b⟩ => ⟨x, (basisOf_same C x).mpr a, b⟩, fun ⟨x, a, b⟩ => ⟨x, (basisOf_same C x).mp a, b⟩⟩
  rw [e]
  have hn : (spanOf ((basisOf C).map f)).Nodup := by
    rw [map_span h0 hf]
    refine nodup_map (span_nodup_rr (basisOf_rr C) (basis_ord C)) fun a ha b hb e => ?_
    have ha := (basisOf_same C a).mp ((span_mem a _).mp ha)
    have hb := (basisOf_same C b).mp ((span_mem b _).mp hb)
    exact xor_zero_eq (hi _ (ha.xor hb) (by rw [hf, e, Nat.xor_self]))
  rw [dim_of hn, List.length_map]
  rfl
theorem part_len (hB : Bas n B) (hL : Lot n L) : (partL n B L).length = (meetOf n B (within L)).length := by
  have hW := within_bas hB.n1000 hL
  have h1 : dim ((meetOf n B (within L)).map (cutW L)) = dim (meetOf n B (within L)) := dim_inj (cut_zero L) (cut_xor L) fun x hx z => in_zero (within_sp.mp ((meet_span hB.rr hW.rr hB.lt hW.lt).mp hx).2) z
  have h2 : dim (meetOf n B (within L)) = (meetOf n B (within L)).length := dim_rr (basisOf_rr _)
  rw [← h2, ← h1]
  rfl
theorem within_len {n : Nat} {L : List Nat} (h0 : n ≤ 1000) (hL : Lot n L) : (within L).length = L.length := by
  have hp : Piv (L.map fun p => 2 ^ p) := by
    have key : ∀ M : List Nat, M.Nodup → Piv (M.map fun p => 2 ^ p) := by
      intro M
      induction M with
      | nil => intro _; exact .nil
      | cons p M ih =>
        intro nd
        have nd := List.nodup_cons.mp nd
        refine .cons p (by rw [Nat.testBit_two_pow]; exact decide_eq_true rfl) (fun r hr => ?_) (ih nd.2)
        obtain ⟨q, hq, e⟩ := List.mem_map.mp hr
        rw [← e, Nat.testBit_two_pow]
        exact decide_eq_false fun z => nd.1 (z ▸ hq)
    exact key L hL.nd
  have := hp.dim
  rw [List.length_map] at this
  exact this

/-- two lots that are all places -/
structure Two (n : Nat) (L R : List Nat) : Prop where
  l : Lot n L
  r : Lot n R
  all : ∀ p, p < n → p ∈ L ∨ p ∈ R
  no : ∀ p, p ∈ L → p ∉ R
variable {R : List Nat}
theorem rem_within (h : Two n L R) {x : Nat} (hx : x < 2 ^ n) : rem (within R) x = extW L (cutW L x) := by
  refine rem_uniq (basisOf_rr _) (fun r hr => ?_) (within_sp.mpr fun p hp => ?_)
  · have h1 : In R r := within_sp.mp (.mem hr)
    have h2 := h1 _ (bit_hd ((basisOf_rr _).nz r hr))
    cases hb : (extW L (cutW L x)).testBit (hd r) with
    | false => rfl
    | true => exact absurd h2 (h.no _ (ext_in h.l (cut_lt L x) hb))
  · have hp2 : p < n := by
      rcases Nat.lt_or_ge p n with z | z
      · exact z
      · have h3 : x ^^^ extW L (cutW L x) < 2 ^ n := Nat.xor_lt_two_pow hx (ext_lt h.l (cut_lt L x))
        rw [Nat.testBit_lt_two_pow (Nat.lt_of_lt_of_le h3 (Nat.pow_le_pow_right (by decide) z))] at hp
        cases hp
    rcases h.all p hp2 with z | z
    · obtain ⟨i, hi, e⟩ := mem_get z
      rw [xor_bit, ← e, ext_bit h.l (cut_lt L x) hi, cut_bit, decide_eq_true hi] at hp
      simp at hp
    · exact z
theorem in_sp {C : List Nat} (h : ∀ c ∈ C, In L c) {x : Nat} (hx : Sp C x) : In L x := by
  induction hx with
  | zero => intro i hi; simp at hi
  | add _ hw ih => exact ih.xor (h _ hw)
theorem trace_part (hB : Bas n B) (h : Two n L R) : (traceL B L).length + (partL n B R).length = B.length := by
  have hW := within_bas hB.n1000 h.r
  have e1 : B.map (rem (within R)) = B.map fun x => extW L (cutW L x) := List.map_congr_left fun x hx => rem_within h (hB.lt x hx)
  have e2 : (B.map fun x => extW L (cutW L x)).map (cutW L) = B.map (cutW L) := by
    rw [List.map_map]
    exact List.map_congr_left fun x _ => cut_ext h.l (cut_lt L x)
  have e3 : dim ((B.map fun x => extW L (cutW L x)).map (cutW L)) = dim (B.map fun x => extW L (cutW L x)) := dim_inj (cut_zero L) (cut_xor L) fun x hx z => in_zero (in_sp (fun c hc => by
    obtain ⟨b, _, e⟩ := List.mem_map.mp hc
    rw [← e]
    exact fun i hi => ext_in h.l (cut_lt L b) hi) hx) z
  have h1 := rest_dim hW.rr B
  have h2 := dim_meet hW.rr hB.rr hW.lt hB.lt
  have h3 : meetOf n B (within R) = meetOf n (within R) B := meet_swap hW.rr hB.rr hW.lt hB.lt
  have h4 : (restL (within R) B).length = (traceL B L).length := by
    unfold restL
    rw [e1]
    have : (basisOf (B.map fun x => extW L (cutW L x))).length = dim (B.map fun x => extW L (cutW L x)) := rfl
    rw [this, ← e3, e2]
    rfl
  rw [part_len hB h.r, h3]
  omega
theorem own_part (hB : Bas n B) (own : checksOf n B = B) (h : Two n L R) : 2 * (((partL n B L).length : Int) - ((partL n B R).length : Int)) = 2 * (L.length : Int) - (n : Int) := by
  have h1 := trace_part hB h
  have h2 := checks_dim hB.rr hB.lt
  rw [own] at h2
  have hT := trace_bas hB h.l
  have h3 := checks_dim hT.rr hT.lt
  have h4 := part_eq hB h.l
  rw [own] at h4
  rw [← h4] at h3
  omega
/-! the words of a part, one by one -/
theorem and_zero (h : Two n L R) {w : Nat} (hw : w < 2 ^ n) : w &&& wordAt R = 0 ↔ In L w := by
  constructor
  · intro z i hi
    have hp2 : i < n := by
      rcases Nat.lt_or_ge i n with y | y
      · exact y
      · rw [Nat.testBit_lt_two_pow (Nat.lt_of_lt_of_le hw (Nat.pow_le_pow_right (by decide) y))] at hi
        cases hi
    rcases h.all i hp2 with y | y
    · exact y
    · have q : (w &&& wordAt R).testBit i = true := by
        rw [Nat.testBit_and, hi, wordAt_bit _ h.r.nd, decide_eq_true y]
        rfl
      rw [z] at q
      simp at q
  · intro g
    refine Nat.eq_of_testBit_eq fun i => ?_
    rw [Nat.zero_testBit, Nat.testBit_and, wordAt_bit _ h.r.nd]
    cases hb : w.testBit i with
    | false => rfl
    | true =>
      rw [decide_eq_false (h.no i (g i hb))]
      rfl
def dueOf (B L R : List Nat) : List Nat := ((spanOf B).filter fun w => decide (w &&& wordAt R = 0)).map (cutW L)
theorem due_mem (hB : Bas n B) (h : Two n L R) {y : Nat} : y ∈ dueOf B L R ↔ Sp (partL n B L) y := by
  rw [sp_part hB h.l]
  unfold dueOf
  rw [List.mem_map]
  constructor
  · rintro ⟨x, hx, e⟩
    rw [List.mem_filter, span_mem] at hx
    exact ⟨x, hx.1, (and_zero h (Sp.lt hB.lt hx.1)).mp (of_decide_eq_true hx.2), e⟩
  · rintro ⟨x, a, b, e⟩
    refine ⟨x, ?_, e⟩
    rw [List.mem_filter, span_mem]
    exact ⟨a, decide_eq_true ((and_zero h (Sp.lt hB.lt a)).mpr b)⟩
theorem due_basis (hB : Bas n B) (h : Two n L R) : basisOf (dueOf B L R) = partL n B L := by
  have q : Same (dueOf B L R) (partL n B L) := .of (fun w hw => (due_mem hB h).mp hw) fun u hu => .mem ((due_mem hB h).mpr (.mem hu))
  rw [basisOf_congr q]
  exact basisOf_idem _
theorem due_len (hB : Bas n B) (o : B.Pairwise (· ≥ ·)) (h : Two n L R) : (dueOf B L R).length = 2 ^ (partL n B L).length := by
  rw [← span_length]
  refine nodup_eq ?_ (span_nodup_rr (basisOf_rr _) (basis_ord _)) fun x => (due_mem hB h).trans (span_mem x _).symm
  unfold dueOf
  refine nodup_map ((span_nodup_rr hB.rr o).filter _) fun a ha b hb e => ?_
  rw [List.mem_filter, span_mem] at ha hb
  exact in_inj ((and_zero h (Sp.lt hB.lt ha.1)).mp (of_decide_eq_true ha.2)) ((and_zero h (Sp.lt hB.lt hb.1)).mp (of_decide_eq_true hb.2)) e
end
/-! sums of unlike powers -/
theorem add_two {b m : Nat} (h : b < 2 ^ m) : b ^^^ 2 ^ m = b + 2 ^ m := by
  refine Nat.eq_of_testBit_eq fun j => ?_
  rw [xor_bit, Nat.testBit_two_pow]
  rcases Nat.lt_trichotomy j m with z | z | z
  · rw [decide_eq_false (by omega), Nat.add_comm, Nat.testBit_two_pow_add_gt z]
    simp
  · subst z
    rw [Nat.add_comm, Nat.testBit_two_pow_add_eq, Nat.testBit_lt_two_pow h]
    simp
  · have h2 : b + 2 ^ m < 2 ^ j := by
      have : 2 ^ (m + 1) ≤ 2 ^ j := Nat.pow_le_pow_right (by decide) z
      rw [Nat.pow_succ] at this
      omega
    rw [decide_eq_false (by omega), Nat.testBit_lt_two_pow (Nat.lt_trans h (Nat.pow_lt_pow_right (by decide) z)), Nat.testBit_lt_two_pow h2]
    rfl
theorem wordAt_app (ps : List Nat) (p : Nat) : wordAt (ps ++ [p]) = wordAt ps ^^^ 2 ^ p := by
  unfold wordAt xsum
  rw [List.map_append, List.foldl_append]
  rfl
theorem wordAt_lt {m : Nat} {ps : List Nat} (h : ∀ p ∈ ps, p < m) : wordAt ps < 2 ^ m := by
  have h1 : Sp (ps.map fun p => 2 ^ p) (wordAt ps) := by
    unfold wordAt xsum
    rw [List.foldl_map]
    induction ps with
    | nil => exact .zero
    | cons p ps ih =>
      rw [List.foldl_cons, xfold, Nat.zero_xor, Nat.xor_comm]
      exact (Sp.sub (fun w hw => .mem (List.mem_cons_of_mem _ hw)) (ih fun q hq => h q (List.mem_cons_of_mem _ hq))).xor (.mem List.mem_cons_self)
  refine Sp.lt (fun w hw => ?_) h1
  obtain ⟨p, hp, e⟩ := List.mem_map.mp hw
  rw [← e]
  exact Nat.pow_lt_pow_right (by decide) (h p hp)
theorem sum_two (f : Nat → Bool) : ∀ m : Nat, (((List.range m).filter f).map fun p => 2 ^ p).sum = wordAt ((List.range m).filter f)
  | 0 => rfl
  | m + 1 => by
    rw [List.range_succ, List.filter_append, List.map_append, List.sum_append, sum_two f m, List.filter_cons]
    by_cases h : f m = true
    · rw [if_pos h, List.filter_nil, wordAt_app]
      rw [add_two (wordAt_lt fun p hp => List.mem_range.mp (List.mem_filter.mp hp).1)]
      rfl
    · rw [if_neg h, List.filter_nil, List.append_nil]
      rfl
/-! the law's own steps -/
theorem rem_sorted {rows : List Nat} (h : RR rows) (w : Nat) : rem (dsort rows) w = rem rows w := by
  have h2 : RR (dsort rows) := h.perm (dsort_perm _).symm
  refine rem_uniq h2 (fun r hr => rem_heads h ((dsort_perm rows).mem_iff.mp hr)) ?_
  exact (Same.perm (dsort_perm rows) _).mpr (rem_span rows w)
theorem big_of {rows : List Nat} (h : RR rows) {w one : Nat} (ho : one ∈ rows) (h0 : rem rows w ≠ 0) (hb : one.testBit (hd (rem rows w)) = true) : rem rows w < one ∧ one ^^^ rem rows w < one := by
  have h1 := rem_heads h (w := w) ho
  have h2 : one ^^^ rem rows w < one := (xor_lt h0).mpr hb
  refine ⟨?_, h2⟩
  refine lt_by_bit (hd one) h1 (bit_hd (h.nz one ho)) fun j hj => ?_
  have h3 := le_hd hb
  rw [bit_gt hj]
  exact bit_gt (by
    rcases Nat.lt_or_ge (hd (rem rows w)) (hd one) with z | z
    · omega
    · have : hd (rem rows w) = hd one := by omega
      rw [← this, bit_hd h0] at h1
      cases h1)
end Cu
set_option Elab.async false
set_option linter.all false
set_option maxRecDepth 100000
set_option maxHeartbeats 2000000
/-! more rules: sum, a slice from 1, == of tuples of ints, attributes of a code -/
namespace Fx
open PySem L2 PyProof.Rows
section
variable {K : PySem.W.Frag} {E : List Sl} {te ta tb : TE} {Φ : Sl → List Sl → Prop} {R : Rp} {s j : Nat} {rs : List Rp} {C : Addr}
theorem odd_eq (n : Nat) : decide (((n % 2 : Nat) : Int) = 1) = decide (n % 2 = 1) := decide_eq_decide.mpr ⟨fun h => by omega, fun h => by omega⟩
theorem cast_sum : ∀ ws : List Nat, (castL ws).sum = ((ws.sum : Nat) : Int)
  | [] => rfl
  | a :: ws => by
    show (a : Int) + (castL ws).sum = _
    rw [cast_sum ws, List.sum_cons]
    omega
theorem cpr_sumN {ws : List Nat} : CPR K (L2.rSum K) [.bor (ws.map rN)] (.im (rN ws.sum)) := fun H vs hv Q q => by
  cases hv with
  | cons h t =>
    cases t
    obtain ⟨a, us, h1, h2, h3⟩ := h
    subst h1
    have e := h3.nats
    subst e
    refine ⟨a, castL ws, rfl, h2, ?_⟩
    rw [cast_sum]
    exact q _ _ (res_here rfl)
theorem eqv_all : ∀ ws us : List Nat, PyData.eqvAll (nd ws) (nd us) = decide (ws = us)
  | [], [] => rfl
  | [], _ :: _ => rfl
  | _ :: _, [] => rfl
  | a :: ws, b :: us => by
    have ih := eqv_all ws us
    show PyData.eqvAll (.int (a : Int) :: nd ws) (.int (b : Int) :: nd us) = _
    rw [PyData.eqvAll, ih]
    have e : PyData.eqv (.int (a : Int)) (.int (b : Int)) = decide (a = b) := by
      show ((a : Int) == (b : Int)) = _
      rw [Bool.beq_eq_decide_eq]
      exact decide_eq_decide.mpr ⟨fun h => by omega, fun h => by omega⟩
    rw [e, ← Bool.decide_and]
    exact decide_eq_decide.mpr (by simp)
theorem eqv_tup (ws us : List Nat) : PyData.eqv (.tuple (nd ws)) (.tuple (nd us)) = decide (ws = us) := eqv_all ws us
theorem opc_eqT {ws us : List Nat} : OPC K (rEqD K) (.im (rT K (ws.map rN))) (.im (rT K (us.map rN))) (.im (rB (decide (ws = us)))) := by
  have h := opc_eqD (K := K) (dpc_im (dp_T (dp_nd (ws := ws)))) (dpc_im (dp_T (dp_nd (ws := us)))) sh_tn sh_tn
  rw [eqv_tup] at h
  exact h
theorem opc_neT {ws us : List Nat} : OPC K (rNeD K) (.im (rT K (ws.map rN))) (.im (rT K (us.map rN))) (.im (rB (!decide (ws = us)))) := by
  have h := opc_neD (K := K) (dpc_im (dp_T (dp_nd (ws := ws)))) (dpc_im (dp_T (dp_nd (ws := us)))) sh_tn sh_tn
  rw [eqv_tup] at h
  exact h
theorem cut_tail (xs : List V) : cutV xs (some 1) none = xs.drop 1 := by
  unfold cutV
  have e1 : HT.sIx xs.length 0 (some 1) = min 1 xs.length := by
    cases xs with
    | nil => rfl
    | cons a l =>
      show HT.sIx (l.length + 1) 0 (some 1) = _
      unfold HT.sIx
      simp
      try omega
  have e2 : HT.sIx xs.length xs.length none = xs.length := rfl
  rw [e1, e2]
  rcases Nat.eq_zero_or_pos xs.length with z | z
  · have := List.length_eq_zero_iff.mp z
    subst this
    rfl
  · rw [Nat.min_eq_left z, List.take_of_length_le (by rw [List.length_drop] <;> omega)]
theorem we_slTail (h : WE K te E fun k E1 => ∃ rs, k = .own rs ∧ Φ (.own (rs.drop 1)) E1) : WE K (tSl (rSlL K) te (tPart (tC (.int 1))) tNoPart) E Φ := fun H0 O0 σ T H hl ok Q q =>
  h H0 O0 σ T H hl ok _ fun k E1 ⟨rs, e, p⟩ l v H2 ok2 => by
    subst e
    obtain ⟨a, us, e, h2, h3, h4⟩ := ok2.head
    cases e
    refine ⟨1, rfl, a, us, rfl, SqL.of h2, fun b hb => ?_⟩
    rw [cut_tail]
    exact q _ _ p l _ _ (ok2.tail.newL hb (h3.drop 1))
/-- a list that a name holds, [1:] -/
theorem we_slTailV (hi : E[s]? = some (.own rs)) (p : Φ (.own (rs.drop 1)) E) : WE K (tSl (rSlL K) (tVar s) (tPart (tC (.int 1))) tNoPart) E Φ := fun H0 O0 σ T H hl ok Q q => by
  obtain ⟨o, h1, h2⟩ := zip_get hl hi
  have hm := List.mem_append_right T h2
  obtain ⟨a, us, e, g1, g2, g3⟩ := ok.sl _ hm
  have e : o = some (.ref a) := e
  subst e
  refine ⟨.ref a, h1, 1, rfl, a, us, rfl, SqL.of g1, fun b hb => ?_⟩
  rw [cut_tail]
  exact q _ _ p rfl _ _ (ok.newL hb (g2.drop 1))
/-! attributes -/
theorem lk_L {n : Nat} {B : List Nat} : List.lookup ("_length" : Str) [(("_length" : Str), rN n), (("_basis" : Str), rT K (B.map rN))] = some (rN n) := by
  rw [List.lookup_cons, beq_self_eq_true]
theorem lk_B {n : Nat} {B : List Nat} : List.lookup ("_basis" : Str) [(("_length" : Str), rN n), (("_basis" : Str), rT K (B.map rN))] = some (rT K (B.map rN)) := by
  have e : (("_basis" : Str) == ("_length" : Str)) = false := by
    cases h : (("_basis" : Str) == ("_length" : Str)) with
    | false => rfl
    | true => exact absurd (eq_of_beq h).symm two_ne
  rw [List.lookup_cons, e]
  show List.lookup ("_basis" : Str) [(("_basis" : Str), rT K (B.map rN))] = _
  rw [List.lookup_cons, beq_self_eq_true]
theorem we_fL {n : Nat} {B : List Nat} (c : Cls K C) (nn : NoAttr K C "_length") (h : WE K ta E fun k E1 => k = .im (rCode K C n B) ∧ Φ (.im (rN n)) E1) : WE K (tFld K ta "_length") E Φ :=
  we_fld c nn (we_mono h fun k E' ⟨a, b⟩ => ⟨_, _, a, lk_L, b⟩)
theorem we_fB {n : Nat} {B : List Nat} (c : Cls K C) (nn : NoAttr K C "_basis") (h : WE K ta E fun k E1 => k = .im (rCode K C n B) ∧ Φ (.im (rT K (B.map rN))) E1) : WE K (tFld K ta "_basis") E Φ :=
  we_fld c nn (we_mono h fun k E' ⟨a, b⟩ => ⟨_, _, a, lk_B, b⟩)
end
end Fx
namespace Cu
open Fx Wd Gf Du
/-! lists by their indices -/
theorem range_get {α : Type} (l : List α) (d : α) : (List.range l.length).map (fun i => l.getD i d) = l := by
  refine List.ext_getElem? fun i => ?_
  rw [List.getElem?_map]
  rcases Nat.lt_or_ge i l.length with z | z
  · rw [List.getElem?_range z, List.getElem?_eq_getElem z, Option.map_some, List.getD_eq_getElem?_getD, List.getElem?_eq_getElem z]
    rfl
  · rw [List.getElem?_eq_none (by simpa using z), List.getElem?_eq_none z]
    rfl
theorem range_filter {α β : Type} (l : List α) (d : α) (f : α → Bool) (g : α → β) : ((List.range l.length).filter fun i => f (l.getD i d)).map (fun i => g (l.getD i d)) = (l.filter f).map g := by
  conv => rhs; rw [← range_get l d]
  rw [List.filter_map, List.map_map]
  rfl
/-! the number of ones -/
theorem ones_len : ∀ (n w : Nat), w < 2 ^ n → ((List.range n).filter fun i => decide (w / 2 ^ i % 2 = 1)).length = pop w
  | 0, w, h => by
    have : w = 0 := by simpa using h
    subst this
    rw [pop_zero]
    rfl
  | n + 1, w, h => by
    have ih := ones_len n (w / 2) (by rw [Nat.pow_succ] at h; omega)
    rw [List.range_succ_eq_map, List.filter_cons, List.filter_map, pop_eq w, ← ih]
    have e : ((fun i => decide (w / 2 ^ i % 2 = 1)) ∘ Nat.succ) = fun i => decide (w / 2 / 2 ^ i % 2 = 1) := by
      funext i
      show decide (w / 2 ^ (i + 1) % 2 = 1) = _
      rw [Nat.pow_succ, Nat.mul_comm, ← Nat.div_div_eq_div_mul]
    rw [e]
    rw [Nat.pow_zero, Nat.div_one]
    rcases Nat.mod_two_eq_zero_or_one w with z | z
    · rw [z, if_neg (by decide), List.length_map]
      omega
    · rw [z, if_pos (by decide), List.length_cons, List.length_map]
      omega
/-- a code's length and basis, as the program keeps them -/
structure CodeOk (n : Nat) (B : List Nat) : Prop where
  n1 : 1 ≤ n
  n24 : n ≤ 24
  bas : Bas n B
  o : B.Pairwise (· ≥ ·)
theorem CodeOk.len {n : Nat} {B : List Nat} (h : CodeOk n B) : B.length ≤ 24 := Nat.le_trans h.bas.len h.n24
theorem CodeOk.span {n : Nat} {B : List Nat} (h : CodeOk n B) : Px.Span n B := ⟨h.n1, h.n24, Nat.le_trans h.len (by decide), h.bas.lt⟩
theorem CodeOk.self {n : Nat} {B : List Nat} (h : CodeOk n B) : basisOf B = B := (basis_uniq h.bas.rr h.o (.refl B)).symm
theorem CodeOk.of {n : Nat} {ws : List Nat} (h1 : 1 ≤ n) (h2 : n ≤ 24) (h : ∀ a ∈ ws, a < 2 ^ n) : CodeOk n (basisOf ws) := ⟨h1, h2, .of (by omega) h, basis_ord _⟩
theorem CodeOk.dual {n : Nat} {B : List Nat} (h : CodeOk n B) : CodeOk n (checksOf n B) := ⟨h.n1, h.n24, h.bas.checks, basis_ord _⟩
theorem CodeOk.part {n : Nat} {B L : List Nat} (h : CodeOk n B) (hL : Lot n L) (h0 : L ≠ []) : CodeOk L.length (partL n B L) := ⟨List.length_pos_iff.mpr h0, Nat.le_trans (lot_len hL) h.n24, part_bas h.bas hL, basis_ord _⟩
theorem CodeOk.trace {n : Nat} {B L : List Nat} (h : CodeOk n B) (hL : Lot n L) (h0 : L ≠ []) : CodeOk L.length (traceL B L) := ⟨List.length_pos_iff.mpr h0, Nat.le_trans (lot_len hL) h.n24, trace_bas h.bas hL, basis_ord _⟩
end Cu
set_option Elab.async false
set_option linter.all false
set_option maxRecDepth 100000
set_option maxHeartbeats 2000000
namespace Cu
open Fx Wd Gf Du
theorem fold_filter {α β : Type} (c : α → Bool) (g : α → β) : ∀ (l : List α) (s : List β), l.foldl (fun s p => if c p = true then s ++ [g p] else s) s = s ++ (l.filter c).map g
  | [], s => by simp
  | a :: l, s => by
    rw [List.foldl_cons, fold_filter c g l, List.filter_cons]
    by_cases h : c a = true
    · rw [if_pos h, if_pos h, List.map_cons, List.append_assoc]
      rfl
    · rw [if_neg h, if_neg h]
theorem hd_zero : hd 0 = 0 := by decide
theorem getD_hd (B : List Nat) (i : Nat) : (B.map hd).getD i 0 = hd (B.getD i 0) := by
  rw [List.getD_eq_getElem?_getD, List.getD_eq_getElem?_getD, List.getElem?_map]
  cases B[i]? with
  | none => exact hd_zero.symm
  | some x => rfl
/-- a word comes in, the others give way -/
def oddL (B : List Nat) (w : Nat) : List Nat := B.filter fun b => decide (pop (b &&& w) % 2 = 1)
def evenB (B : List Nat) (w : Nat) : List Nat := B.filter fun b => decide (pop (b &&& w) % 2 = 0)
def besideL (B : List Nat) (w : Nat) : List Nat := (evenB B w ++ ((oddL B w).drop 1).map fun b => b ^^^ (oddL B w).headD 0) ++ [w]
theorem beside_lt {n : Nat} {B : List Nat} {w : Nat} (hB : ∀ b ∈ B, b < 2 ^ n) (hw : w < 2 ^ n) : ∀ a ∈ besideL B w, a < 2 ^ n := fun a ha => by
  have ho : ∀ b ∈ oddL B w, b < 2 ^ n := fun b hb => hB b (List.mem_filter.mp hb).1
  unfold besideL at ha
  rcases List.mem_append.mp ha with z | z
  · rcases List.mem_append.mp z with y | y
    · exact hB a (List.mem_filter.mp y).1
    · obtain ⟨b, hb, e⟩ := List.mem_map.mp y
      have h1 := ho b (List.mem_of_mem_drop hb)
      have h2 : (oddL B w).headD 0 < 2 ^ n := by
        cases hq : oddL B w with
        | nil => exact Nat.two_pow_pos n
        | cons c l =>
          refine ho c ?_
          rw [hq]
          exact List.mem_cons_self
      rw [← e]
      exact Nat.xor_lt_two_pow h1 h2
  · rw [List.mem_singleton.mp z]
    exact hw
theorem beside_len (B : List Nat) (w : Nat) : (besideL B w).length ≤ 2 * B.length + 1 := by
  unfold besideL oddL evenB
  have h1 := List.length_filter_le (fun b => decide (pop (b &&& w) % 2 = 0)) B
  have h2 := List.length_filter_le (fun b => decide (pop (b &&& w) % 2 = 1)) B
  rw [List.length_append, List.length_append, List.length_map, List.length_drop, List.length_singleton]
  omega
def startL (n : Nat) : List Nat := ((List.range (n / 2)).map fun a => 3 * 2 ^ (2 * a)).reverse
def evens : List Nat := [2, 4, 6, 8, 10, 12, 14, 16, 18, 20, 22, 24]
theorem start_all : (evens.all fun n => decide (Sn.basC (startL n) = startL n) && (startL n).all fun a => decide (a < 2 ^ n)) = true := by decide +kernel
theorem start_ok {n : Nat} (h : n ∈ evens) : CodeOk n (startL n) := by
  have h1 := List.all_eq_true.mp start_all n h
  rw [Bool.and_eq_true, List.all_eq_true] at h1
  have e : basisOf (startL n) = startL n := (Sn.basC_eq _).trans (of_decide_eq_true h1.1)
  rw [← e]
  refine .of ?_ ?_ fun a ha => of_decide_eq_true (h1.2 a ha)
  · have : ∀ n ∈ evens, 1 ≤ n := by decide
    exact this n h
  · have : ∀ n ∈ evens, n ≤ 24 := by decide
    exact this n h
theorem start_ne {n : Nat} (h : n ∈ evens) : startL n ≠ [] := by
  have : ∀ n ∈ evens, startL n ≠ [] := by decide +kernel
  exact this n h
theorem basis_ne {ws : List Nat} {w : Nat} (h : w ∈ ws) (h0 : w ≠ 0) : basisOf ws ≠ [] := fun e => by
  have h1 := (basisOf_same ws w).mpr (.mem h)
  rw [e] at h1
  cases h1 with
  | zero => exact h0 rfl
  | add _ z => cases z
theorem drop_head {l : List Nat} {x : Nat} (h : x ∈ l.drop 1) : l[0]? = some (l.headD 0) := by
  cases l with
  | nil => cases h
  | cons a l => rfl
theorem snoc_lot {L : List Nat} {i : Nat} (o : L.Pairwise (· < ·)) (h : ∀ p ∈ L, p < i) : (L ++ [i]).Pairwise (· < ·) := by
  rw [List.pairwise_append]
  exact ⟨o, List.pairwise_singleton _ _, fun a ha b hb => by rw [List.mem_singleton.mp hb]; exact h a ha⟩
end Cu
set_option Elab.async false
set_option linter.all false
set_option maxRecDepth 100000
set_option maxHeartbeats 2000000
/-! a tuple from its end, a, *b = t -/
namespace Fx
open PySem L2 PyProof.Rows
section
variable {prog : Program} {w : World} {A : Around} {E : Value → Shared → Prop} {s : Shared}
theorem places_rev (n : Nat) : Builtin.Slice.slicePlaces ((n : Int) - 1) (-1) (-1) = n := by
  unfold Builtin.Slice.slicePlaces
  rw [if_neg (by decide)]
  by_cases h : n = 0
  · subst h
    rfl
  · rw [if_pos (by omega)]
    have e : ((n : Int) - 1 - -1 - 1) / (- (-1)) + 1 = (n : Int) := by
      rw [show (-(-1) : Int) = 1 from rfl, Int.ediv_one]
      omega
    rw [e]
    simp
theorem sliceApplied_rev {sl : Addr} {vl vu vs : Value} {n : Nat} {Q : Int × Int × Nat → Shared → Prop} (hs : s.heap.IsSliceOf sl vl vu vs) (pl : IsPart vl none) (pu : IsPart vu none) (ps : IsPart vs (some (-1)))
    (h : Q ((n : Int) - 1, -1, n) s) : wpAny (model prog w) A (Builtin.Slice.sliceApplied (.ref sl) (pure (n : Int))) Q E s := by
  obtain ⟨os, hos, hcs, hds⟩ := id hs
  unfold Builtin.Slice.sliceApplied Builtin.Slice.sliceFields
  refine wpAny_bind (wpAny_bind (wpAny_field hos hds (x := vl) rfl (wpAny_bind (wpAny_field hos hds (x := vu) rfl (wpAny_bind (wpAny_field hos hds (x := vs) rfl (wpAny_pure ?_)))))))
  refine wpAny_bind (HT.slicePart_ ps ?_)
  show wpAny _ _ (if ((-1 : Int) == 0) = true then _ else _) _ _ s
  rw [if_neg (by decide)]
  refine wpAny_bind (HT.slicePart_ pl (wpAny_bind (HT.slicePart_ pu (wpAny_bind (wpAny_pure ?_)))))
  show wpAny _ _ (pure ((n : Int) - 1, (-1 : Int), Builtin.Slice.slicePlaces ((n : Int) - 1) (-1) (-1))) _ _ s
  rw [places_rev]
  exact wpAny_pure h
theorem fmap_some {α β : Type} {f : α → Option β} {g : α → β} : ∀ (l : List α), (∀ m ∈ l, f m = some (g m)) → l.filterMap f = l.map g
  | [], _ => rfl
  | a :: l, h => by
    rw [List.filterMap_cons_some (h a List.mem_cons_self), List.map_cons, fmap_some l fun m hm => h m (List.mem_cons_of_mem _ hm)]
theorem pick_rev (xs : Array Value) : ((List.range xs.size).filterMap fun (m : Nat) => xs[(((xs.size : Nat) : Int) - 1 + (m : Int) * (-1)).toNat]?).toArray = xs.toList.reverse.toArray := by
  congr 1
  refine List.ext_getElem? fun i => ?_
  have e : (List.range xs.size).filterMap (fun (m : Nat) => xs[(((xs.size : Nat) : Int) - 1 + (m : Int) * (-1)).toNat]?) = (List.range xs.size).map fun m => xs.toList.reverse.getD m .none := by
    refine fmap_some _ fun m hm => ?_
    have hm := List.mem_range.mp hm
    have e1 : (((xs.size : Nat) : Int) - 1 + (m : Int) * (-1)).toNat = xs.size - 1 - m := by omega
    rw [e1]
    have hl : m < xs.toList.length := by simpa using hm
    show xs[xs.size - 1 - m]? = some (xs.toList.reverse.getD m .none)
    rw [List.getD_eq_getElem?_getD, List.getElem?_reverse hl, Array.length_toList, Array.getElem?_toList, Array.getElem?_eq_getElem (by omega)]
    rfl
  rw [e]
  have := Cu.range_get xs.toList.reverse Value.none
  rw [List.length_reverse, Array.length_toList] at this
  rw [this]
theorem getItem_tuple_rev {t sl : Addr} {items : Array Value} {vl vu vs : Value} {Q : Value → Shared → Prop} (ht : IsTup s.heap t items) (hs : s.heap.IsSliceOf sl vl vu vs) (pl : IsPart vl none) (pu : IsPart vu none) (ps : IsPart vs (some (-1)))
    (h : Q (.ref s.heap.objs.size) { s with heap := s.heap.push { cls := .type "tuple", data := .seq items.toList.reverse.toArray } })
    (hsz : items.size ≤ sizeLine) : wpAny (model prog w) A (getItem (.ref t) (.ref sl)) Q E s := by
  have htake : sizeOk (.seq items.toList.reverse.toArray) := by
    show items.toList.reverse.toArray.size ≤ sizeLine
    rw [List.size_toArray, List.length_reverse, Array.length_toList]
    exact hsz
  obtain ⟨os, hos, hcs, hds⟩ := id hs
  have hTs : s.TypeIs (.ref sl) "slice" := ⟨os, hos, hcs⟩
  unfold getItem
  try with_reducible refine wpAny_holding ?_
  first | refine wpAny_bind (wpAny_pure ?_) | skip
  refine wpAny_bind (wpAny_sequenceKey ht.typeIs (by decide) ?_)
  refine wpAny_bind (wpAny_callSpecial?_slot (name := Str.ofString "__getitem__") ht.typeIs PyProof.Rows.slot_tuple_getitem
    (wpAny_call_entry PyProof.Rows.slot_tuple_getitem ht.typeIs entry_tuple_getitem ?_ (args_tuple_getitem _ _)))
  show wpAny _ _ (Builtin.Tuple.tupleItemsOf (.ref t) >>= _) _ _ s
  refine wpAny_bind (tupleItemsOf_ ht ?_)
  refine wpAny_bind (wpAny_typeOf hTs ?_)
  rw [if_pos (by decide)]
  refine wpAny_bind (sliceApplied_rev hs pl pu ps ?_)
  have hno : ¬ ((((items.size : Nat) : Int) - 1 == 0 && (-1 : Int) == 1 && items.size == items.size) = true) := by simp
  show wpAny _ _ (if (((items.size : Nat) : Int) - 1 == 0 && (-1 : Int) == 1 && items.size == items.size) = true then _ else _) _ _ s
  rw [if_neg hno, pick_rev]
  first
    | exact wpAny_bind (m := Builtin.Tuple.tupleExact _) (wpAny_newObj_type (wpAny_pure ⟨_, rfl, wpAny_pure h⟩) htake)
    | exact wpAny_bind (m := Builtin.Tuple.tupleExact _) (wpAny_newObj_type (wpAny_bind (wpAny_pure (wpAny_pure ⟨_, rfl, wpAny_pure h⟩))) htake)
end
def tRevT (K : PySem.W.Frag) (te : TE) : TE := fun σ H Q => te σ H fun x H1 => ∃ a xs, x = .ref a ∧ SqT K H1 a xs ∧ ∀ p, H1 p = none → Q (.ref p) (upd H1 p (.tup xs.reverse))
theorem pe_revT {X : Cx} {e : Expr} {te : TE} {k : Nat} {p1 p2 p3 pos : Pos} (he : PE X e te) : PE X (.Subscript e (.Slice none none (some (.UnaryOp .USub (.Constant (.int 1) k p1) p2)) p3) pos) (tRevT X.K te) := by
  refine ⟨fun pins s σ H Q I h => ?_⟩
  refine Subscript_ (thn (he.run pins s σ H _ I h) fun v s1 ⟨x, H1, I1, r1, q1⟩ => ?_)
  obtain ⟨a, xs, ex, hx, q⟩ := q1
  subst ex
  cases r1
  have hst : PO X (some (.UnaryOp .USub (.Constant (.int 1) k p1) p2)) (tPart (tUn (L2.rU fun i => .int (-i)) (tC (.int 1)))) := po_some (pe_un un_neg pe_int)
  refine wpAny_Slice (thn (po_none.run pins s1 σ H1 (fun o H2 => o = none ∧ H2 = H1) I1 ⟨rfl, rfl⟩) fun vl s2 ⟨l, H2, I2, pl, el, e2⟩ => ?_)
  subst el e2
  refine thn (po_none.run pins s2 σ H2 (fun o H3 => o = none ∧ H3 = H2) I2 ⟨rfl, rfl⟩) fun vu s3 ⟨u, H3, I3, pu, eu, e3⟩ => ?_
  subst eu e3
  refine thn (hst.run pins s3 σ H3 (fun o H4 => o = some (-1) ∧ H4 = H3) I3 ⟨1, rfl, -1, rfl, rfl, rfl⟩) fun vs s4 ⟨o, H4, I4, ps, eo, e4⟩ => ?_
  subst eo e4
  have I5 : Inv X pins σ H4 { s4 with heap := s4.heap.push { cls := .type "slice", data := .fields #[vl, vu, vs] } } := I4.kept (t' := s4.toks) fun b ob q => Heap.get?_push_of_some _ q
  obtain ⟨its, r, ht, hz⟩ := I5.tuple hx
  have hlen := r.length
  show wpAny (model X.prog X.w) X.A (subscriptTail e (.Slice none none (some (.UnaryOp .USub (.Constant (.int 1) k p1) p2)) p3) (.ref a) (.ref s4.heap.objs.size)) (EP X pins σ Q) X.xe { s4 with heap := s4.heap.push { cls := .type "slice", data := .fields #[vl, vu, vs] } }
  refine tail_any (ops := [.ref a, .ref s4.heap.objs.size]) ht.typeIs (PyProof.Rows.slot_tuple_getitem.lookup) ?_ (by with_unfolding_all rfl)
  refine getItem_tuple_rev ht (Heap.IsSliceOf.new _ vl vu vs) pl pu ps ?_ (by rw [List.size_toArray]; omega)
  refine ⟨.ref _, _, I5.laid (t' := s4.toks) (o := .tup xs.reverse) (fun b ob q => Heap.get?_push_of_some _ q) (Nat.le_refl _) ?_, rfl, q _ (I5.hok.fresh (Nat.le_refl _))⟩
  exact ⟨by rw [List.length_reverse]; exact hz, its.reverse, r.reverse, IsTup.new _ _⟩
theorem kRevT {X : Cx} {K : PySem.W.Frag} {e : Expr} {te : TE} {k : Nat} {p1 p2 p3 pos : Pos} (h : X.K = K) (he : PE X e te) : PE X (.Subscript e (.Slice none none (some (.UnaryOp .USub (.Constant (.int 1) k p1) p2)) p3) pos) (tRevT K te) := by subst h; exact pe_revT he
/-! a, *b = t -/
section
variable {prog : Program} {w : World} {A : Around} {E : Value → Shared → Prop} {s : Shared}
theorem walks_tail {I ax : Addr} {items : Array Value} (hh : A.handled = none) (hne : ax ≠ I) (h1 : 1 ≤ items.size) :
    PySem.Walks prog w A I [I, ax] [I] (items.size - 1) (fun i v => items[i + 1]? = some v) (fun i h => h.IsTupleIter I ax (i + 1) ∧ h.IsTuple ax items) := by
  have W := PySem.Walks.tuple (prog := prog) (w := w) hh I ax hne items
  exact ⟨W.sub, fun i h h' st k => W.frame (i + 1) h h' st k, fun i s Q E hi st hQ => W.item (i + 1) s Q E (by omega) st hQ,
    fun s Q E st hQ => W.done s Q E (by rw [show items.size - 1 + 1 = items.size by omega] at st; exact st) hQ, fun i s Q E st hQ => W.self (i + 1) s Q E st hQ⟩
theorem acc_tail {items acc : Array Value} (h1 : 1 ≤ items.size) (h : ItemsOf (fun i v => items[i + 1]? = some v) acc (items.size - 1)) : acc.toList = items.toList.drop 1 := by
  obtain ⟨hs, hg⟩ := h
  refine List.ext_getElem? fun i => ?_
  rw [List.getElem?_drop, Array.getElem?_toList, Array.getElem?_toList]
  rcases Nat.lt_or_ge i acc.size with z | z
  · have h2 := hg i acc[i] (by rw [Array.getElem?_eq_getElem z])
    rw [Array.getElem?_eq_getElem z, Nat.add_comm 1 i, h2]
  · rw [Array.getElem?_eq_none z, Array.getElem?_eq_none (by omega)]
theorem unpackItems_star {t : Addr} {items : Array Value} {Q : List Value → Shared → Prop} (hh : A.handled = none) (ht : IsTup s.heap t items) (h1 : 1 ≤ items.size) (hz : items.size ≤ sizeLine)
    (hQ : ∀ (h₁ : Heap) (tk : Nat) (x : Value), items[0]? = some x → (∀ b o, s.heap.get? b = some o → h₁.get? b = some o) → Q [x, .ref h₁.objs.size] { s with heap := h₁.push { cls := .type "list", data := .seq (items.toList.drop 1).toArray }, toks := tk }) : wpAny (model prog w) A (unpackItems (.ref t) 2 (some 1)) Q E s := by
  have hlt : t ≠ s.heap.objs.size := by obtain ⟨o, ho, _⟩ := ht; exact Nat.ne_of_lt (Heap.lt_size ho)
  unfold unpackItems
  refine wpAny_bind ?_
  · unfold notIterableAtAll
    refine wpAny_bind (wpAny_specialOf ht.typeIs slot_tuple_iter.lookup ?_)
    refine wpAny_pure ?_
    simp only [Bool.false_eq_true, if_false]
    refine wpAny_bind (wpAny_holding (iter_tuple ht ?_))
    refine wpAny_bind (wpAny_holding (draw_tuple hlt 1 0 _ _ ⟨_, Heap.get?_push_size _ rfl, rfl, rfl⟩ (ht.push _) (by omega) fun h₁ hit₁ hs₁ => ?_))
    have hx : items.toList.take 1 = [items[0]] := by
      have : 0 < items.toList.length := by rw [Array.length_toList]; omega
      rw [List.take_one, List.head?_eq_getElem?, List.getElem?_eq_getElem this]
      rfl
    rw [List.drop_zero, hx]
    rw [if_neg (by simp)]
    have ht₁ : IsTup h₁ t items := (ht.push _).extBut hs₁.extBut hlt
    have W := (walks_tail (prog := prog) (w := w) (A := A.in1) (I := s.heap.objs.size) (ax := t) (items := items) (show A.in1.handled = none from hh) hlt h1).toS
    have hsz : h₁.objs.size = s.heap.objs.size + 1 := by rw [hs₁.1, Heap.size_push]
    refine wpAny_bind (wpAny_holding (wpAny_collect_iter (T := "tuple_iterator") (.inr (.inr (.inr rfl))) W (fun i s st => st.1.typeIs) ⟨hit₁, ht₁⟩ (fun b hb => ?_) (by simp) (fun s' acc hm hacc => ?_) (by omega)))
    · show b < h₁.objs.size
      have hb : b = s.heap.objs.size ∨ b = t := by simpa using hb
      have htl : t < s.heap.objs.size := by obtain ⟨o, ho, _⟩ := ht; exact Heap.lt_size ho
      rcases hb with z | z
      · rw [z, hsz]; exact Nat.lt_succ_self _
      · rw [z, hsz]; exact Nat.lt_succ_of_lt htl
    have eacc := acc_tail h1 hacc
    rw [eacc]
    have e0 : (items.toList.drop 1).length - (2 - 1 - 1) = (items.toList.drop 1).length := by simp
    rw [if_neg (by simp), e0, List.take_length, List.drop_length]
    refine wpAny_bind (wpAny_newList (wpAny_pure ?_))
    have hfin := hQ s'.heap s'.toks items[0] (Array.getElem?_eq_getElem (by omega)) fun b o e => hm.heap b o (fun z => by
      have z : b = s.heap.objs.size := by simpa using z
      exact absurd (Heap.lt_size e) (by rw [z]; exact Nat.lt_irrefl _)) (hs₁.extBut b o (Nat.ne_of_lt (Heap.lt_size e)) (Heap.get?_push_of_some _ e))
    have es : ({ s with heap := s'.heap.push { cls := .type "list", data := .seq (items.toList.drop 1).toArray }, toks := s'.toks } : Shared) = { s' with heap := s'.heap.push { cls := .type "list", data := .seq (items.toList.drop 1).toArray } } := by
      have g := hm.gens
      have d := hm.drawn
      have o := hm.os
      obtain ⟨a, b, c, d', e⟩ := s'
      obtain ⟨a2, b2, c2, d2, e2⟩ := s
      have g : b = b2 := g
      have d : c = c2 := d
      have o : e = e2 := o
      subst g d o
      rfl
    rw [es] at hfin
    exact hfin
end
def gStar1 (K : PySem.W.Frag) (t : TGs) : TG := fun v σ H Q => ∃ a xs, v = .ref a ∧ SqT K H a xs ∧ 1 ≤ xs.length ∧ ∀ x p, xs[0]? = some x → H p = none → t [x, .ref p] σ (upd H p (.lst (xs.drop 1))) Q
theorem pg_star1 {X : Cx} {pos : Pos} {es : List Expr} {k : Nat} {t : TGs} (hc : X.calm = true) (h : PGs X es t)
    {es' : List Expr} (hn : (assignEach es' X.env).length = 2 := by rfl) (hst : (assignEach es' X.env).findIdx? (·.1) = some 1 := by rfl) (hmap : (assignEach es' X.env).map (·.2) = (assignEach es X.env).map (·.2) := by rfl) : PG X (.Tuple es' k pos) (gStar1 X.K t) := by
  refine ⟨fun pins s σ H v u Q I r hw => ?_⟩
  obtain ⟨a, xs, e1, hq, hl, hw⟩ := hw
  subst e1
  cases r
  obtain ⟨its, rv, ht, hz⟩ := I.tuple hq
  have hlen := rv.length
  rw [assign_Tuple]
  refine wpAny_bind (wpAny_standAt ?_)
  unfold unpack
  rw [hn, hst]
  refine wpAny_bind (wpAny_holding (unpackItems_star (I.ok.hd hc) ht (by rw [List.size_toArray]; omega) (by rw [List.size_toArray]; omega) fun h₁ tk x hx hk => ?_))
  have I1 : Inv X pins σ H { s with heap := h₁, toks := tk } := I.kept hk
  have hx : its[0]? = some x := by simpa using hx
  have hy : xs[0]? = some xs[0] := List.getElem?_eq_getElem (by omega)
  obtain ⟨u, hu, ru⟩ := rv.get hy
  rw [hx] at hu
  cases hu
  have hn2 : H h₁.objs.size = none := I1.hok.fresh (Nat.le_refl _)
  have I2 : Inv X pins σ (upd H h₁.objs.size (.lst (xs.drop 1))) { s with heap := h₁.push { cls := .type "list", data := .seq (its.toArray.toList.drop 1).toArray }, toks := tk } := by
    refine I1.laid (t' := tk) (o := .lst (xs.drop 1)) (fun b ob q => Heap.get?_push_of_some _ q) (Nat.le_refl _) ?_
    exact ⟨by rw [List.length_drop]; omega, _, 0, rv.drop 1, Heap.get?_push_size _ rfl⟩
  rw [hmap]
  exact h.run pins _ σ _ [xs[0], .ref h₁.objs.size] [x, .ref h₁.objs.size] Q I2 (.cons ru (.cons rfl .nil)) (hw _ _ hy hn2)
end Fx
set_option Elab.async false
set_option linter.all false
set_option maxRecDepth 100000
set_option maxHeartbeats 2000000
/-! values of any kind: ints, bools, strings, None, tuples of them, lists -/
namespace Fx
open PySem L2 PyProof.Rows
inductive At where
  | I (n : Int)
  | B (b : Bool)
  | S (s : Str)
  | U
deriving DecidableEq
def rA : At → Rp
  | .I n => rI n
  | .B b => rB b
  | .S s => rS s
  | .U => rU
def dA : At → PyData
  | .I n => .int n
  | .B b => .bool b
  | .S s => .str s
  | .U => .none
def rL : Rp := ⟨fun v H => ∃ a xs, v = .ref a ∧ H a = some (.lst xs), fun e ⟨a, xs, h1, h2⟩ => by
  obtain ⟨ys, hy⟩ := e.ls a xs h2
  exact ⟨a, ys, h1, hy⟩, true, fun z => by cases z⟩
inductive Cand where
  | a (x : At)
  | t (l : List At)
  | l
def rC (K : PySem.W.Frag) : Cand → Rp
  | .a x => rA x
  | .t l => rT K (l.map rA)
  | .l => rL
def At.knd : At → Knd
  | .I _ => .int
  | .B _ => .bl
  | .S _ => .str
  | .U => .non
/-- no overlong string -/
def At.ok (x : At) : Prop := (dA x).canLay0 = true
instance (x : At) : Decidable x.ok := inferInstanceAs (Decidable (_ = true))
def Cand.ok : Cand → Prop
  | .a x => x.ok
  | .t us => us.length ≤ 100 ∧ ∀ x ∈ us, x.ok
  | .l => True
def intOf : At → Option Int
  | .I n => some n
  | _ => none
section
variable {K : PySem.W.Frag} {E : List Sl} {te ta tb : TE} {Φ : Sl → List Sl → Prop} {Ψ : Bool → List Sl → Prop} {R : Rp} {i j s : Nat} {rs : List Rp} {nx : List Sl → Prop} {rt : Sl → List Sl → Prop} {bk ct : List Sl → Prop}
theorem rA_fl (x : At) : (rA x).fl = false := by cases x <;> rfl
theorem knd_A (x : At) : HasKnd K (rA x) x.knd := by
  cases x with
  | I n => exact knd_int
  | B b => exact knd_bl
  | S s => exact knd_str
  | U => exact knd_non
theorem like_A (x : At) : IntLike K (rA x) (intOf x) := by
  cases x with
  | I n => exact rfl
  | B b => exact ⟨.bl, knd_bl, by decide⟩
  | S s => exact ⟨.str, knd_str, by decide⟩
  | U => exact ⟨.non, knd_non, by decide⟩
theorem dp_A (x : At) : DpR K (rA x) (dA x) := by
  cases x with
  | I n => exact dp_I
  | B b => exact dp_B
  | S s => exact dp_S
  | U => exact dp_U
theorem dp_As : ∀ {l : List At}, Paired (DpR K) (l.map rA) (l.map dA)
  | [] => .nil
  | x :: _ => .cons (dp_A x) dp_As
theorem lay_A : ∀ l : List At, (∀ x ∈ l, x.ok) → PyData.canLayAll0 (l.map dA) = true
  | [], _ => rfl
  | x :: l, hx => by
    have h := lay_A l fun y hy => hx y (List.mem_cons_of_mem _ hy)
    have h2 : (dA x).canLay0 = true := hx x List.mem_cons_self
    rw [List.map_cons, PyData.canLayAll0, h, h2]
    rfl
theorem dep_A : ∀ l : List At, PyData.depthAll (l.map dA) ≤ 2
  | [] => by decide
  | x :: l => by
    have h := dep_A l
    rw [List.map_cons, PyData.depthAll]
    cases x <;> (show max _ _ ≤ 2; simp only [dA, PyData.depth]; omega)
theorem sh_tA {l : List At} (h : ∀ x ∈ l, x.ok) : SeqAt.shaped (.tuple (l.map dA)) = true := sh_tup (lay_A l h) (dep_A l)
theorem dep_1 (x : At) : (dA x).depth ≤ 64 := by cases x <;> simp [dA, PyData.depth]
theorem sh_A {x : At} (h : x.ok) : SeqAt.shaped (dA x) = true := by
  have h : (dA x).canLay0 = true := h
  unfold SeqAt.shaped
  rw [h, decide_eq_true (dep_1 x)]
  rfl
theorem sh_S {z : Str} (h : (At.S z).ok) : SeqAt.shaped (.str z) = true := sh_A (x := .S z) h
theorem eqv_AS (x : At) (z : Str) : PyData.eqv (dA x) (.str z) = decide (x = .S z) := by
  cases x with
  | I n => rfl
  | B b => rfl
  | U => rfl
  | S y =>
    show (y == z) = _
    rw [Bool.beq_eq_decide_eq]
    exact decide_eq_decide.mpr ⟨fun h => by rw [h], fun h => by cases h; rfl⟩
theorem opc_eqA {x : At} {z : Str} (hx : x.ok) (hz : (At.S z).ok) : OPC K (rEqD K) (.im (rA x)) (.im (rS z)) (.im (rB (decide (x = .S z)))) := by
  have h := opc_eqD (K := K) (dpc_im (dp_A x)) (dpc_im (dp_S (x := z))) (sh_A hx) (sh_S hz)
  rw [eqv_AS] at h
  exact h
theorem opc_neA {x : At} {z : Str} (hx : x.ok) (hz : (At.S z).ok) : OPC K (rNeD K) (.im (rA x)) (.im (rS z)) (.im (rB (!decide (x = .S z)))) := by
  have h := opc_neD (K := K) (dpc_im (dp_A x)) (dpc_im (dp_S (x := z))) (sh_A hx) (sh_S hz)
  rw [eqv_AS] at h
  exact h
theorem opc_eqTn {l : List At} (hx : ∀ x ∈ l, x.ok) : OPC K (rEqD K) (.im (rT K (l.map rA))) (.im (rT K [])) (.im (rB (decide (l = [])))) := by
  have h := opc_eqD (K := K) (dpc_im (dp_T (dp_As (l := l)))) (dpc_im (dp_T (rs := []) (ds := []) .nil)) (sh_tA hx) (sh_tup rfl (by decide))
  have e : PyData.eqv (.tuple (l.map dA)) (.tuple []) = decide (l = []) := by
    cases l with
    | nil => rfl
    | cons a l => rfl
  rw [e] at h
  exact h
theorem opc_eqT1 {l : List At} {z : Str} (hx : ∀ x ∈ l, x.ok) (hz : (At.S z).ok) : OPC K (rEqD K) (.im (rT K (l.map rA))) (.im (rT K [rS z])) (.im (rB (decide (l = [.S z])))) := by
  have h := opc_eqD (K := K) (dpc_im (dp_T (dp_As (l := l)))) (dpc_im (dp_T (dp_As (l := [.S z])))) (sh_tA hx) (sh_tA fun x h => by rw [List.mem_singleton.mp h]; exact hz)
  have e : PyData.eqv (.tuple (l.map dA)) (.tuple ([At.S z].map dA)) = decide (l = [.S z]) := by
    cases l with
    | nil => rfl
    | cons a l =>
      show PyData.eqvAll (dA a :: l.map dA) [.str z] = _
      rw [PyData.eqvAll, eqv_AS]
      cases l with
      | nil =>
        show (decide (a = .S z) && true) = _
        rw [Bool.and_true]
        exact decide_eq_decide.mpr ⟨fun h => by rw [h], fun h => by cases h; rfl⟩
      | cons b l =>
        show (decide (a = .S z) && false) = _
        rw [Bool.and_false]
        exact (decide_eq_false fun h => by cases h).symm
  rw [e] at h
  exact h
/-! isinstance -/
theorem cpr_isiN {nm c : String} {b : Bool} (h : ∀ v H, R.r v H → TyX K H v (.type nm)) (hk : PySem.W.kitOne K (.type nm) (.type c) = some b) : CPR K (rIsi K) [.im R, .im (rTy c)] (.im (rB b)) := fun H vs hv Q q => by
  cases hv with
  | cons h1 t =>
    cases t with
    | cons h2 t =>
      cases t
      have h2 : _ = V.ty c := h2
      subst h2
      exact ⟨_, _, _, _, b, rfl, .ty c, h _ _ h1, hk, q _ _ (res_here rfl)⟩
def Cand.isT : Cand → Bool
  | .t _ => true
  | _ => false
theorem cpr_isC (c : Cand) : CPR K (rIsi K) [.im (rC K c), .im (rTy "tuple")] (.im (rB c.isT)) := by
  cases c with
  | a x =>
    have h := cpr_isi (knd_A (K := K) x) (kit_tuple x.knd)
    cases x <;> exact h
  | t l => exact cpr_isi knd_tup (kit_tuple .tup)
  | l =>
    refine cpr_isiN (nm := "list") (fun v H h => ?_) (kit_ty (by decide +kernel))
    obtain ⟨a, xs, h1, h2⟩ := h
    subst h1
    exact .base (.lst h2)
def At.isS : At → Bool
  | .S _ => true
  | _ => false
theorem cpr_isStr (x : At) : CPR K (rIsi K) [.im (rA x), .im (rTy "str")] (.im (rB x.isS)) := by
  have h := cpr_isi (knd_A (K := K) x) (kit_str x.knd)
  cases x <;> exact h
theorem cpr_isInt (x : At) : CPR K (rIsi K) [.im (rA x), .im (rTy "int")] (.im (rB (x.knd == .int || x.knd == .bl))) := cpr_isi (knd_A (K := K) x) (kit_int x.knd)
theorem cpr_isBool (x : At) : CPR K (rIsi K) [.im (rA x), .im (rTy "bool")] (.im (rB (x.knd == .bl))) := cpr_isi (knd_A (K := K) x) (kit_bool x.knd)
/-! slices of tuples -/
theorem cut_take (xs : List V) (n : Nat) : cutV xs none (some (n : Int)) = xs.take n := by
  unfold cutV
  have e1 : HT.sIx xs.length 0 none = 0 := rfl
  have e2 : HT.sIx xs.length xs.length (some (n : Int)) = min n xs.length := HT.sIx_nat _ _ _
  rw [e1, e2, List.drop_zero, Nat.sub_zero]
  rcases Nat.le_total n xs.length with z | z
  · rw [Nat.min_eq_left z]
  · rw [Nat.min_eq_right z, List.take_length, List.take_of_length_le z]
theorem ok_tup {H0 : Hp} {O0 : List Addr} {H : Hp} {L : List (Option V × Sl)} {p : Addr} {vs : List V} (ok : Ok K H0 O0 H L) (hp : H p = none) (hv : Vr H vs rs) : Ok K H0 O0 (upd H p (.tup vs)) ((some (.ref p), .im (rT K rs)) :: L) := by
  have e : ∀ b u, H b = some u → upd H p (.tup vs) b = some u := fun b u z => by rw [upd_ne (ne_of_none z hp)]; exact z
  exact (ok.ext e).im ⟨p, vs, rfl, upd_same, hv.im (.of e)⟩
theorem we_slT1 (h : WE K te E fun k E1 => ∃ rs, k = .im (rT K rs) ∧ Φ (.im (rT K (rs.drop 1))) E1) : WE K (tSl (rSlA K) te (tPart (tC (.int 1))) tNoPart) E Φ := fun H0 O0 σ T H hl ok Q q =>
  h H0 O0 σ T H hl ok _ fun k E1 ⟨rs, e, p⟩ l v H2 ok2 => by
    subst e
    obtain ⟨w, e, a, us, h1, h2, h3⟩ := ok2.head
    cases e
    subst h1
    refine ⟨1, rfl, a, us, rfl, SqT.of h2, fun hw => ?_, fun hw b hb => ?_⟩
    · have e1 : HT.sIx us.length 0 (some 1) = min 1 us.length := HT.sIx_nat _ _ 1
      have hw := hw.1
      rw [e1] at hw
      have hz : us.length = 0 := by omega
      have hu := List.length_eq_zero_iff.mp hz
      subst hu
      cases h3
      exact q _ _ p l _ H2 (ok2.tail.im ⟨a, [], rfl, h2, .nil⟩)
    · rw [cut_tail]
      exact q _ _ p l _ _ (ok_tup ok2.tail hb (h3.drop 1))
theorem we_slTn {n : Nat} (h : WE K te E fun k E1 => ∃ rs, k = .im (rT K rs) ∧ Φ (.im (rT K (rs.take n))) E1) : WE K (tSl (rSlA K) te tNoPart (tPart (tC (.int (n : Int))))) E Φ := fun H0 O0 σ T H hl ok Q q =>
  h H0 O0 σ T H hl ok _ fun k E1 ⟨rs, e, p⟩ l v H2 ok2 => by
    subst e
    obtain ⟨w, e, a, us, h1, h2, h3⟩ := ok2.head
    cases e
    subst h1
    refine ⟨(n : Int), rfl, a, us, rfl, SqT.of h2, fun hw => ?_, fun hw b hb => ?_⟩
    · have e1 : HT.sIx us.length us.length (some (n : Int)) = min n us.length := HT.sIx_nat _ _ n
      have hw := hw.2
      rw [e1] at hw
      have hz : us.length ≤ n := by omega
      have e2 : rs.take n = rs := List.take_of_length_le (by rw [← h3.len]; exact hz)
      rw [e2] at p
      exact q _ _ p l _ H2 (ok2.tail.im ⟨a, us, rfl, h2, h3⟩)
    · rw [cut_take]
      exact q _ _ p l _ _ (ok_tup ok2.tail hb (h3.take n))
theorem we_revT (h : WE K te E fun k E1 => ∃ rs, k = .im (rT K rs) ∧ Φ (.im (rT K rs.reverse)) E1) : WE K (tRevT K te) E Φ := fun H0 O0 σ T H hl ok Q q =>
  h H0 O0 σ T H hl ok _ fun k E1 ⟨rs, e, p⟩ l v H2 ok2 => by
    subst e
    obtain ⟨w, e, a, us, h1, h2, h3⟩ := ok2.head
    cases e
    subst h1
    exact ⟨a, us, rfl, SqT.of h2, fun b hb => q _ _ p l _ _ (ok_tup ok2.tail hb h3.rev)⟩
/-- a new list, no more than a list from now on -/
theorem we_forget (h : WE K te E fun k E1 => ∃ rs, k = .own rs ∧ Φ (.im rL) E1) : WE K te E Φ := fun H0 O0 σ T H hl ok Q q =>
  h H0 O0 σ T H hl ok _ fun k E1 ⟨rs, e, p⟩ l v H2 ok2 => by
    subst e
    obtain ⟨a, us, e, h2, h3, _⟩ := ok2.head
    cases e
    exact q _ _ p l _ H2 (ok2.tail.im ⟨a, us, rfl, h2⟩)
/-- a, *b = t -/
theorem ws_asgStar (h : WE K te E fun k E1 => ∃ R rs, k = .im (rT K (R :: rs)) ∧ nx ((E1.set i (.im R)).set j (.own rs))) : WS K (tAsg te (gStar1 K (gCons (gName i) (gCons (gName j) gNil)))) E nx rt bk ct := fun H0 O0 σ T H D hl ok n r b c =>
  h H0 O0 σ T H hl ok _ fun k E1 ⟨R, rs, e, p⟩ l v H2 ok2 => by
    subst e
    obtain ⟨w, e, a, us, h1, h2, h3⟩ := ok2.head
    cases e
    subst h1
    cases h3 with
    | @cons x _ xs _ hx ht =>
      refine ⟨a, x :: xs, rfl, SqT.of h2, by simp, fun y p' hy hp => ?_⟩
      have hy : x = y := by simpa using hy
      subst hy
      have e : ∀ b u, H2 b = some u → upd H2 p' (.lst xs) b = some u := fun b u z => by rw [upd_ne (ne_of_none z hp)]; exact z
      have ok3 : Ok K H0 O0 (upd H2 p' (.lst xs)) ((some x, .im R) :: (some (.ref p'), .own rs) :: (T ++ σ.zip E1)) := (ok2.tail.newL hp ht).im (Rp.st _ (.of e) hx)
      refine ⟨x, [.ref p'], rfl, .ref p', [], rfl, rfl, ?_⟩
      have s1 : Ok K H0 O0 (upd H2 p' (.lst xs)) ((some x, .im R) :: (((some (.ref p'), .own rs) :: T) ++ σ.zip E1)) := ok3
      have s2 := Ok.store (T := (some (.ref p'), .own rs) :: T) i (by omega) s1
      exact n _ p _ _ (by simp [l, hl]) (Ok.store (T := T) j (by simp [l, hl]) s2)
/-- truth of a list that a name holds -/
theorem own_tru {H0 : Hp} {O0 : List Addr} {σ : L2.St} {T : List (Option V × Sl)} {H : Hp} (hl : σ.length = E.length) (ok : Ok K H0 O0 H (T ++ σ.zip E)) (hs : E[s]? = some (.own rs)) : ∃ v, σ[s]? = some (some v) ∧ TruV K v H (!rs.isEmpty) := by
  obtain ⟨o, h1, h2⟩ := zip_get hl hs
  obtain ⟨a, us, e, g1, g2, g3⟩ := ok.sl _ (List.mem_append_right T h2)
  have e : o = some (.ref a) := e
  subst e
  exact ⟨.ref a, h1, .inl ⟨us, SqL.of g1, by cases g2 <;> rfl⟩⟩
theorem wt_truOwn (hs : E[s]? = some (.own rs)) (p : Ψ (!rs.isEmpty) E) : WT K (tTru K (tVar s)) E Ψ := fun H0 O0 σ T H hl ok Q q => by
  obtain ⟨v, h1, h2⟩ := own_tru hl ok hs
  exact ⟨v, h1, _, h2, q _ E p rfl H ok⟩
theorem we_notOwn (hs : E[s]? = some (.own rs)) (p : Φ (.im (rB (!!rs.isEmpty))) E) : WE K (tNotT K (tVar s)) E Φ := fun H0 O0 σ T H hl ok Q q => by
  obtain ⟨v, h1, h2⟩ := own_tru hl ok hs
  exact ⟨v, h1, _, h2, q _ E p rfl _ H (ok.im (R := rB (!!rs.isEmpty)) rfl)⟩
theorem kNotT {X : Cx} {a : Expr} {pos : Pos} (h : X.K = K) (ha : PE X a ta) : PE X (.UnaryOp .Not a pos) (tNotT K ta) := by subst h; exact pe_notT ha
theorem kStar1 {X : Cx} {pos : Pos} {es : List Expr} {k : Nat} {t : TGs} (h0 : X.K = K) (hc : X.calm = true) (h : PGs X es t)
    {es' : List Expr} (hn : (assignEach es' X.env).length = 2 := by rfl) (hst : (assignEach es' X.env).findIdx? (·.1) = some 1 := by rfl) (hmap : (assignEach es' X.env).map (·.2) = (assignEach es X.env).map (·.2) := by rfl) : PG X (.Tuple es' k pos) (gStar1 K t) := by subst h0; exact pg_star1 hc h hn hst hmap
/-! bools -/
theorem opr_neB {a b : Bool} : OPR K rNe (.im (rB a)) (.im (rB b)) (.im (rB (a != b))) := opr_im fun x y H h1 h2 Q q => by
  have h1 : x = V.bl a := h1
  have h2 : y = V.bl b := h2
  subst h1 h2
  refine ⟨rfl, q _ ?_⟩
  show V.bl (!decide (V.bl a = V.bl b)) = V.bl (a != b)
  cases a <;> cases b <;> rfl
theorem opr_eqB {a b : Bool} : OPR K rEq (.im (rB a)) (.im (rB b)) (.im (rB (a == b))) := opr_im fun x y H h1 h2 Q q => by
  have h1 : x = V.bl a := h1
  have h2 : y = V.bl b := h2
  subst h1 h2
  refine ⟨rfl, q _ ?_⟩
  show V.bl (decide (V.bl a = V.bl b)) = V.bl (a == b)
  cases a <;> cases b <;> rfl
theorem cpr_all {bs : List Bool} : CPR K (L2.rAll K) [.bor (bs.map rB)] (.im (rB (bs.all id))) := fun H vs hv Q q => by
  cases hv with
  | cons h t =>
    cases t
    obtain ⟨a, us, h1, h2, h3⟩ := h
    subst h1
    have e := h3.bools
    subst e
    exact ⟨a, bs, rfl, h2, q _ _ (res_here rfl)⟩
end
end Fx
set_option Elab.async false
set_option linter.all false
set_option maxRecDepth 100000
set_option maxHeartbeats 2000000
/-! own, or shown not to be -/
namespace Ju
open PySem Fx Wd Gf Du Cu
theorem ok_odd : (At.S "odd").ok := by decide +kernel
theorem ok_own : (At.S "own").ok := by decide +kernel
theorem ok_out : (At.S "outside").ok := by decide +kernel
def wordOf (n : Nat) : At → Option Nat
  | .I k => if 0 ≤ k ∧ k < ((2 ^ n : Nat) : Int) then some k.toNat else none
  | _ => none
theorem wordOf_some {n : Nat} {x : At} {w : Nat} (h : wordOf n x = some w) : x = .I (w : Int) ∧ w < 2 ^ n := by
  cases x with
  | I k =>
    have h : (if 0 ≤ k ∧ k < ((2 ^ n : Nat) : Int) then some k.toNat else none) = some w := h
    by_cases hk : 0 ≤ k ∧ k < ((2 ^ n : Nat) : Int)
    · rw [if_pos hk] at h
      cases h
      have e : k = ((k.toNat : Nat) : Int) := by omega
      exact ⟨congrArg At.I e, by omega⟩
    · rw [if_neg hk] at h
      cases h
  | B _ => cases h
  | S _ => cases h
  | U => cases h
theorem wordOf_nat {n w : Nat} (h : w < 2 ^ n) : wordOf n (.I (w : Int)) = some w := by
  show (if 0 ≤ (w : Int) ∧ (w : Int) < ((2 ^ n : Nat) : Int) then some (w : Int).toNat else none) = some w
  rw [if_pos ⟨Int.natCast_nonneg _, Int.ofNat_lt.mpr h⟩, Int.toNat_natCast]
theorem range_word (n : Nat) (x : At) : inRange 0 (((2 ^ n : Nat) : Int) - 1) (intOf x) = (wordOf n x).isSome := by
  cases x with
  | I k =>
    show (decide (0 ≤ k) && decide (k ≤ ((2 ^ n : Nat) : Int) - 1)) = (if 0 ≤ k ∧ k < ((2 ^ n : Nat) : Int) then some k.toNat else none).isSome
    by_cases hk : 0 ≤ k ∧ k < ((2 ^ n : Nat) : Int)
    · rw [if_pos hk, decide_eq_true hk.1, decide_eq_true (by omega)]
      rfl
    · rw [if_neg hk]
      by_cases h0 : 0 ≤ k
      · rw [decide_eq_false (p := k ≤ _) (by omega), Bool.and_false]
        rfl
      · rw [decide_eq_false h0]
        rfl
  | B _ => rfl
  | S _ => rfl
  | U => rfl
def hasW (n : Nat) (B : List Nat) (x : At) : Bool := match wordOf n x with
  | some w => decide (rem B w = 0)
  | none => false
def oddP (n : Nat) (B : List Nat) (x y : At) : Bool := hasW n B x && hasW n B y && (match wordOf n x, wordOf n y with
  | some a, some b => decide (pop (a &&& b) % 2 = 1)
  | _, _ => false)
def outP (n : Nat) (B : List Nat) (x : At) : Bool := match wordOf n x with
  | some w => !decide (rem B w = 0) && B.all fun r => decide (pop (w &&& r) % 2 = 0)
  | none => false
def own (n : Nat) (B : List Nat) : Bool := decide (checksOf n B = B)
def pairJ (n : Nat) (B : List Nat) : List At → Bool
  | [x, y] => oddP n B x y
  | _ => false
def oneJ (n : Nat) (B : List Nat) : List At → Bool
  | [x] => outP n B x
  | _ => false
def judgeT (n : Nat) (B : List Nat) (k : At) (told : List At) : Bool :=
  if k = .S "own" then told.isEmpty && own n B
  else if k = .S "odd" then pairJ n B told
  else if k = .S "outside" then oneJ n B told
  else false
def judge (n : Nat) (B : List Nat) : Cand → Bool
  | .t (k :: told) => judgeT n B k told
  | _ => false
/-- what the program shows -/
def firstOdd (B : List Nat) : Option (Nat × Nat) := B.findSome? fun a => (B.find? fun b => decide (pop (a &&& b) % 2 = 1)).map fun b => (a, b)
def ownShow (n : Nat) (B : List Nat) : List At := match firstOdd B with
  | some (a, b) => [.S "odd", .I (a : Int), .I (b : Int)]
  | none => match (checksOf n B).find? fun w => !decide (rem B w = 0) with
    | some w => [.S "outside", .I (w : Int)]
    | none => [.S "own"]
theorem ne1 : ("odd" : Str) ≠ "own" := by decide +kernel
theorem ne2 : ("outside" : Str) ≠ "own" := by decide +kernel
theorem ne3 : ("outside" : Str) ≠ "odd" := by decide +kernel
theorem firstOdd_some {B : List Nat} {a b : Nat} (h : firstOdd B = some (a, b)) : a ∈ B ∧ b ∈ B ∧ pop (a &&& b) % 2 = 1 := by
  obtain ⟨x, hx, e⟩ := List.exists_of_findSome?_eq_some h
  cases hf : B.find? fun b => decide (pop (x &&& b) % 2 = 1) with
  | none => rw [hf] at e; cases e
  | some y =>
    rw [hf] at e
    cases e
    exact ⟨hx, List.mem_of_find?_eq_some hf, by have := List.find?_some hf; simpa using this⟩
theorem firstOdd_none {B : List Nat} (h : firstOdd B = none) : ∀ a ∈ B, ∀ b ∈ B, pop (a &&& b) % 2 = 0 := fun a ha b hb => by
  have h1 := List.findSome?_eq_none_iff.mp h a ha
  have h2 : (B.find? fun b => decide (pop (a &&& b) % 2 = 1)) = none := by
    cases hf : B.find? fun b => decide (pop (a &&& b) % 2 = 1) with
    | none => rfl
    | some y => rw [hf] at h1; cases h1
  have h3 := List.find?_eq_none.mp h2 b hb
  have h3 : ¬ pop (a &&& b) % 2 = 1 := fun z => h3 (decide_eq_true z)
  omega
theorem even_dot {a b : Nat} (h : pop (a &&& b) % 2 = 0) : dot a b = false := decide_eq_false (by omega)
theorem rem_mem {B : List Nat} (h : RR B) {a : Nat} (ha : a ∈ B) : rem B a = 0 := (rem_zero_iff h).mpr (.mem ha)
theorem own_even {n : Nat} {B : List Nat} (h : CodeOk n B) (e : checksOf n B = B) : ∀ a ∈ B, ∀ b ∈ B, pop (a &&& b) % 2 = 0 := fun a ha b hb => by
  have h1 : Sp (checksOf n B) a := by rw [e]; exact .mem ha
  have h2 := ((checksOf_dual h.bas.rr h.bas.lt a).mp h1).2 b hb
  have h3 : ¬ pop (a &&& b) % 2 = 1 := of_decide_eq_false h2
  omega
theorem show_spec {n : Nat} {B : List Nat} (h : CodeOk n B) : judge n B (.t (ownShow n B)) = true ∧ (ownShow n B = [.S "own"] ↔ checksOf n B = B) ∧ (∀ x ∈ ownShow n B, x.ok) ∧ (ownShow n B).length ≤ 3 := by
  unfold ownShow
  cases hf : firstOdd B with
  | some p =>
    obtain ⟨a, b⟩ := p
    obtain ⟨h1, h2, h3⟩ := firstOdd_some hf
    have ha := h.bas.lt a h1
    have hb := h.bas.lt b h2
    refine ⟨?_, ⟨fun z => (by cases z), fun z => ?_⟩, fun x hx => ?_, Nat.le_refl _⟩
    · show judgeT n B (.S "odd") [.I (a : Int), .I (b : Int)] = true
      unfold judgeT
      rw [if_neg (fun z => ne1 (At.S.inj z)), if_pos rfl]
      show oddP n B (.I (a : Int)) (.I (b : Int)) = true
      unfold oddP hasW
      rw [wordOf_nat ha, wordOf_nat hb]
      show (decide (rem B a = 0) && decide (rem B b = 0) && decide (pop (a &&& b) % 2 = 1)) = true
      rw [decide_eq_true (rem_mem h.bas.rr h1), decide_eq_true (rem_mem h.bas.rr h2), decide_eq_true h3]
      rfl
    · have := own_even h z a h1 b h2
      omega
    · rcases List.mem_cons.mp hx with z | hx
      · subst z; exact ok_odd
      rcases List.mem_cons.mp hx with z | hx
      · subst z; rfl
      · rw [List.mem_singleton.mp hx]; rfl
  | none =>
    have he := firstOdd_none hf
    have hsub : ∀ r ∈ B, Sp (checksOf n B) r := fun r hr => (checksOf_dual h.bas.rr h.bas.lt r).mpr ⟨h.bas.lt r hr, fun w hw => even_dot (he r hr w hw)⟩
    show judge n B (.t (match (checksOf n B).find? fun w => !decide (rem B w = 0) with | some w => [.S "outside", .I (w : Int)] | none => [.S "own"])) = true ∧ _
    cases hc : (checksOf n B).find? fun w => !decide (rem B w = 0) with
    | some w =>
      have hm := List.mem_of_find?_eq_some hc
      have hr : ¬ rem B w = 0 := by
        have := List.find?_some hc
        simpa using this
      have hw : w < 2 ^ n := checksOf_lt h.bas.rr h.bas.lt w hm
      have hd := (checksOf_dual h.bas.rr h.bas.lt w).mp (.mem hm)
      refine ⟨?_, ⟨fun z => (by cases z), fun z => ?_⟩, fun x hx => ?_, by show 2 ≤ 3; decide⟩
      · show judgeT n B (.S "outside") [.I (w : Int)] = true
        unfold judgeT
        rw [if_neg (fun z => ne2 (At.S.inj z)), if_neg (fun z => ne3 (At.S.inj z)), if_pos rfl]
        show outP n B (.I (w : Int)) = true
        unfold outP
        rw [wordOf_nat hw]
        show (!decide (rem B w = 0) && B.all fun r => decide (pop (w &&& r) % 2 = 0)) = true
        rw [decide_eq_false hr, Bool.not_false, Bool.true_and, List.all_eq_true]
        intro r hr2
        have := of_decide_eq_false (hd.2 r hr2)
        exact decide_eq_true (by omega)
      · rw [z] at hm
        exact absurd (rem_mem h.bas.rr hm) hr
      · rcases List.mem_cons.mp hx with z | hx
        · subst z; exact ok_out
        · rw [List.mem_singleton.mp hx]; rfl
    | none =>
      have ho : checksOf n B = B := by
        have q : Same (checksOf n B) B := .of (fun w hw => by
          have := List.find?_eq_none.mp hc w hw
          exact (rem_zero_iff h.bas.rr).mp (by simpa using this)) hsub
        have e1 := basisOf_congr q
        rw [h.self, h.dual.self] at e1
        exact e1
      refine ⟨?_, ⟨fun _ => ho, fun _ => rfl⟩, fun x hx => ?_, by show 1 ≤ 3; decide⟩
      · show judgeT n B (.S "own") [] = true
        unfold judgeT own
        rw [if_pos rfl, decide_eq_true ho]
        rfl
      · rw [List.mem_singleton.mp hx]
        exact ok_own
/-! what a walk has met -/
theorem odd_at {B : List Nat} {i j a b : Nat} (ha : B[i]? = some a) (hb : B[j]? = some b) (h1 : ∀ x ∈ B.take i, ∀ y ∈ B, pop (x &&& y) % 2 = 0) (h2 : ∀ y ∈ B.take j, pop (a &&& y) % 2 = 0) (h3 : pop (a &&& b) % 2 = 1) : firstOdd B = some (a, b) := by
  have split : ∀ {k c : Nat}, B[k]? = some c → B = B.take k ++ c :: B.drop (k + 1) := fun {k c} hk => by
    obtain ⟨h, e⟩ := List.getElem?_eq_some_iff.mp hk
    rw [← e, ← List.drop_eq_getElem_cons h, List.take_append_drop]
  have hf : (B.find? fun y => decide (pop (a &&& y) % 2 = 1)) = some b := by
    rw [split hb, List.find?_append]
    have e1 : ((B.take j).find? fun y => decide (pop (a &&& y) % 2 = 1)) = none := List.find?_eq_none.mpr fun y hy => by
      have := h2 y hy
      simp
      omega
    rw [e1, List.find?_cons, decide_eq_true h3]
    rfl
  unfold firstOdd
  have key : ∀ (l m : List Nat) (f : Nat → Option (Nat × Nat)), (∀ x ∈ l, f x = none) → (l ++ a :: m).findSome? f = (f a).or (m.findSome? f) := by
    intro l m f hl
    induction l with
    | nil =>
      show (a :: m).findSome? f = _
      rw [List.findSome?_cons]
      cases f a <;> rfl
    | cons x l ih =>
      rw [List.cons_append, List.findSome?_cons, hl x List.mem_cons_self]
      exact ih fun y hy => hl y (List.mem_cons_of_mem _ hy)
  generalize hg : (fun x => (B.find? fun b => decide (pop (x &&& b) % 2 = 1)).map fun b => (x, b)) = g
  have ga : g a = some (a, b) := by
    rw [← hg]
    show ((B.find? fun y => decide (pop (a &&& y) % 2 = 1)).map fun b => (a, b)) = _
    rw [hf]
    rfl
  have gl : ∀ x ∈ B.take i, g x = none := fun x hx => by
    rw [← hg]
    have : (B.find? fun b => decide (pop (x &&& b) % 2 = 1)) = none := List.find?_eq_none.mpr fun y hy => by
      have := h1 x hx y hy
      simp
      omega
    show ((B.find? fun b => decide (pop (x &&& b) % 2 = 1)).map fun b => (x, b)) = none
    rw [this]
    rfl
  have e := key (B.take i) (B.drop (i + 1)) g gl
  rw [← split ha] at e
  rw [e, ga]
  rfl
theorem odd_none {B : List Nat} (h : ∀ x ∈ B, ∀ y ∈ B, pop (x &&& y) % 2 = 0) : firstOdd B = none := by
  unfold firstOdd
  refine List.findSome?_eq_none_iff.mpr fun x hx => ?_
  have : (B.find? fun b => decide (pop (x &&& b) % 2 = 1)) = none := List.find?_eq_none.mpr fun y hy => by
    have := h x hx y hy
    simp
    omega
  rw [this]
  rfl
theorem find_at {l : List Nat} {p : Nat → Bool} {i w : Nat} (hw : l[i]? = some w) (h1 : ∀ x ∈ l.take i, p x = false) (h2 : p w = true) : l.find? p = some w := by
  obtain ⟨h, e⟩ := List.getElem?_eq_some_iff.mp hw
  have es : l = l.take i ++ w :: l.drop (i + 1) := by rw [← e, ← List.drop_eq_getElem_cons h, List.take_append_drop]
  rw [es, List.find?_append]
  have e1 : (l.take i).find? p = none := List.find?_eq_none.mpr fun y hy => by rw [h1 y hy]; decide
  rw [e1, List.find?_cons, h2]
  rfl
theorem take_succ_mem {l : List Nat} {i a x : Nat} (ha : l[i]? = some a) (hx : x ∈ l.take (i + 1)) : x ∈ l.take i ∨ x = a := by
  rw [List.take_add_one, ha] at hx
  rcases List.mem_append.mp hx with z | z
  · exact .inl z
  · exact .inr (by simpa using z)
end Ju
set_option Elab.async false
set_option linter.all false
set_option maxRecDepth 100000
set_option maxHeartbeats 2000000
/-! str by an own __str__, texts, == of an object and any value -/
namespace Fx
open PySem L2 PyProof.Rows
/-- the class has its own __str__ -/
structure StrHas (P : Program) (w : World) (K : PySem.W.Frag) (mg : Str → Option Value) (base : Heap) (C : Addr) (k : Nat) (sp : Sp) : Prop where
  c : Cls K C
  ex : ∃ f fd ps, PySem.W.findIn K (.ref C) "__str__" = some (some (.ref f)) ∧ PySem.W.isFn K (.ref f) = true ∧ FnOk P w K mg base CX0 k f fd ps sp ∧ Binds K fd ps []
def rStrO (C : Addr) (sp : Sp) : List V → Hp → VK → Prop := fun xs H Q => ∃ a dx fs, xs = [.ref a] ∧ H a = some (.ins C dx fs) ∧ sp xs H (fun v H' => ∃ z, v = .str z ∧ Q (.str z) H') E0
/-- == with any value -/
def rEqY (K : PySem.W.Frag) (C : Addr) (sp : Sp) : R2 := fun x y H Q => ∃ a dx fs t, x = .ref a ∧ H a = some (.ins C dx fs) ∧ TyX K H y t ∧ PySem.W.notFirst K C t = true ∧ sp [x, y] H (fun v H' => ∃ bb, v = .bl bb ∧ Q (.bl bb) H') E0
section
variable {X : Cx} {C : Addr} {k : Nat} {sp : Sp}
theorem run_ownN {A : Around} {pins : List (Addr × Obj)} {σ : L2.St} {H : Hp} {s : Shared} {f : Addr} {fd : FuncData} {ps : List Str} {Q : VK} {R : Value → Shared → Prop} {vs : List V} {us : List Value} (r2 : Vals vs us) (F : FnOk X.prog X.w X.K X.mg X.base CX0 k f fd ps sp) (hb : Binds X.K fd ps []) (hr : Room k A) (e0 : Env0 X.prog X.w X.K X.mg X.base A X.stack s H) (I : Inv X pins σ H s)
    (h : sp vs H Q E0) (q : ∀ v u H' s', Inv X pins σ H' s' → RelV v u → Q v H' → R u s') : wpAny (model X.prog X.w) A (call (.ref f) us) R X.xe s := by
  have hl := F.len _ _ _ _ h
  refine wpAny_call (codeAny_mono (F.run A X.stack s H ⟨us, []⟩ us vs _ E0 hr e0 (by
    have := hb s us I.kIn (by rw [List.append_nil]; have := r2.length; omega)
    simpa using this) r2 h) fun r s' hq => ?_)
  cases r with
  | error e => exact pass0 pins σ H s e s' I hq
  | ok fl =>
    cases fl with
    | ret w =>
      obtain ⟨z, H', I', rz, ez⟩ := I.after hq
      exact q z w H' s' I' rz ez
    | next => exact False.elim hq
    | brk => exact False.elim hq
    | cont => exact False.elim hq
theorem call_strO (h : StrHas X.prog X.w X.K X.mg X.base C k sp) (hr : Room (k + 2) X.A) : CallR X (.type "str") (rStrO C sp) := by
  intro pins s σ H xs us Q I r hh
  obtain ⟨a, dx, fs, rfl, ha, q⟩ := hh
  obtain ⟨u, rfl, ru⟩ := vals1 r
  cases ru
  obtain ⟨c, f, fd, ps, hs, hf, F, hb⟩ := h
  obtain ⟨mA, J, _⟩ := ins_get I.hok ha
  obtain ⟨od, J, _⟩ := J.look
  refine PySem.W.kso_call hr.in1.in1.units0 I.kIn J hs hf ?_
  refine run_ownN (vs := [.ref a]) (.cons rfl .nil) F hb hr.in1.in1 I.env0.in1.in1 I q fun v u H' s' I' rv ⟨z, e, qq⟩ => ?_
  subst e
  obtain ⟨t, rfl⟩ := rv
  exact ⟨.str z, H', I', ⟨t, rfl⟩, qq⟩
theorem op_eqY (h : EqHas X.prog X.w X.K X.mg X.base C k sp) (hr : Room k X.A) : OpR X (compareOp .Eq) (rEqY X.K C sp) := by
  intro pins s σ H x y v u Q I rx ry hh
  obtain ⟨a, dx, fs, t, rfl, ha, ty, nf, q⟩ := hh
  cases rx
  obtain ⟨c, ne, f, fd, ps, hs, hf, F, hb⟩ := h
  obtain ⟨mA, J, _⟩ := ins_get I.hok ha
  obtain ⟨od, J, _⟩ := J.look
  obtain ⟨P, Z, p, hx⟩ := kit_of I ry ty
  obtain ⟨m, hF⟩ := I.fr
  refine PySem.W.cmp_K (op := .Eq) (tb := t) hr.units0 hF I.ok.mod.kin J (Z.ty _ _ I.kIn p) nf hs hf ?_
  refine run_ownN (vs := [.ref a, y]) (.cons rfl (.cons ry .nil)) F hb hr I.env0 I q fun v u H' s' I' rv ⟨bb, e, qq⟩ => ?_
  subst e
  cases rv
  exact ⟨.bl bb, H', I', rfl, qq⟩
end
section
variable {K : PySem.W.Frag} {C : Addr} {E : List Sl} {te ta tb : TE} {Φ : Sl → List Sl → Prop} {i j s : Nat} {nx : List Sl → Prop} {rt : Sl → List Sl → Prop} {bk ct : List Sl → Prop} {ts : TS} {wi : TI}
theorem cpr_strO {A : Type} {par : A → List Ck} {pre : A → Prop} {res : A → Str} {fs : List (Str × Rp)} (a : A) (hp : pre a) (e : par a = [.im (rIns C fs)]) : CPR K (rStrO C (spP K par pre fun a => .im (rS (res a)))) [.im (rIns C fs)] (.im (rS (res a))) := fun H vs hv Q q => by
  cases hv with
  | cons h t =>
    cases t
    obtain ⟨b, dx, us, e1, g1, g2, g3⟩ := id h
    refine ⟨b, dx, us, by rw [e1], g1, a, hp, ?_, fun v H' r => ?_⟩
    · rw [e]
      exact .cons h .nil
    · obtain ⟨w, e3, hw⟩ := r.ok.head
      cases e3
      exact ⟨res a, hw, q _ H' (res_im (fun a u z => r.ok.fr a u z (by simp)) rfl)⟩
theorem opc_eqY {A : Type} {par : A → List Ck} {pre : A → Prop} {res : A → Bool} {fs : List (Str × Rp)} {R : Rp} {t : Value} (a : A) (hp : pre a) (e : par a = [.im (rIns C fs), .im R]) (ty : ∀ v H, R.r v H → TyX K H v t) (nf : PySem.W.notFirst K C t = true) : OPC K (rEqY K C (spP K par pre fun a => .im (rB (res a)))) (.im (rIns C fs)) (.im R) (.im (rB (res a))) := fun H x y h1 h2 Q q => by
  obtain ⟨b1, dx1, us1, e1, g1, _⟩ := id h1
  refine ⟨b1, dx1, us1, t, e1, g1, ty _ _ h2, nf, a, hp, ?_, fun v H' r => ?_⟩
  · rw [e]
    exact .cons h1 (.cons h2 .nil)
  · obtain ⟨w, e3, hw⟩ := r.ok.head
    cases e3
    exact ⟨res a, hw, q _ H' (res_im (fun a u z => r.ok.fr a u z (by simp)) rfl)⟩
/-! texts -/
theorem opr_addS {a b : Str} (h : a.length + b.length ≤ sizeLine) : OPR K (fun x y H Q => ∃ i j, x = .str i ∧ y = .str j ∧ i.length + j.length ≤ sizeLine ∧ Q (.str (i ++ j)) H) (.im (rS a)) (.im (rS b)) (.im (rS (a ++ b))) := opr_im fun x y H h1 h2 Q q => by
  have h1 : x = V.str a := h1
  have h2 : y = V.str b := h2
  subst h1 h2
  exact ⟨a, b, rfl, rfl, h, q _ rfl⟩
theorem opr_neSt {a b : Str} : OPR K rNe (.im (rS a)) (.im (rS b)) (.im (rB (!decide (a = b)))) := opr_im fun x y H h1 h2 Q q => by
  have h1 : x = V.str a := h1
  have h2 : y = V.str b := h2
  subst h1 h2
  refine ⟨rfl, q _ ?_⟩
  show V.bl (!decide (V.str a = V.str b)) = V.bl (!decide (a = b))
  simp
theorem cpr_strI {n : Int} (h : n.natAbs.log2 < 1920) : CPR K (fun xs H Q => ∃ i : Int, xs = [.int i] ∧ i.natAbs.log2 < 1920 ∧ Q (.str (toString i)) H) [.im (rI n)] (.im (rS (toString n))) := fun H vs hv Q q => by
  cases hv with
  | cons h1 t =>
    cases t
    have h1 : _ = V.int n := h1
    subst h1
    exact ⟨n, rfl, h, q _ _ (res_here rfl)⟩
/-- {e}, an int -/
theorem we_fmtI (h : WE K te E fun k E1 => ∃ n : Int, k = .im (rI n) ∧ n.natAbs.log2 < 1920 ∧ Φ (.im (rS (toString n))) E1) : WE K (tFmt te) E Φ := fun H0 O0 σ T H hl ok Q q =>
  h H0 O0 σ T H hl ok _ fun k E1 ⟨n, e, hn, p⟩ l v H2 ok2 => by
    subst e
    obtain ⟨w, e, hw⟩ := ok2.head
    cases e
    have hw : v = .int n := hw
    exact .inr ⟨n, hw, hn, q _ E1 p l _ H2 (ok2.tail.im (R := rS (toString n)) rfl)⟩
def WJ (K : PySem.W.Frag) : List TE → Str → List Sl → (Str → List Sl → Prop) → Prop
  | [], acc, E, Φ => Φ acc E
  | t :: ts, acc, E, Φ => WE K t E fun k E1 => ∃ y : Str, k = .im (rS y) ∧ (acc ++ y).length ≤ sizeLine ∧ WJ K ts (acc ++ y) E1 Φ
theorem wj_run {Φ : Str → List Sl → Prop} : ∀ (ts : List TE) (acc : Str) (E : List Sl), WJ K ts acc E Φ → ∀ (H0 : Hp) (O0 : List Addr) (σ : L2.St) (T : List (Option V × Sl)) (H : Hp), σ.length = E.length → Ok K H0 O0 H (T ++ σ.zip E) → ∀ Q : Str → Hp → Prop, (∀ z E', Φ z E' → E'.length = E.length → ∀ H2, Ok K H0 O0 H2 (T ++ σ.zip E') → Q z H2) → tJs ts acc σ H Q
  | [], acc, E, h, H0, O0, σ, T, H, hl, ok, Q, q => q acc E h rfl H ok
  | t :: ts, acc, E, h, H0, O0, σ, T, H, hl, ok, Q, q => h H0 O0 σ T H hl ok _ fun k E1 ⟨y, e, hz, h2⟩ l v H2 ok2 => by
    subst e
    obtain ⟨w, e, hw⟩ := ok2.head
    cases e
    have hw : v = .str y := hw
    exact ⟨y, hw, hz, wj_run ts (acc ++ y) E1 h2 H0 O0 σ T H2 (by omega) ok2.tail Q fun z E' p l2 => q z E' p (by omega)⟩
theorem we_joined {tl : List TE} (h : WJ K tl Str.empty E fun z E' => Φ (.im (rS z)) E') : WE K (fun σ H Q => tJs tl Str.empty σ H fun out H1 => Q (.str out) H1) E Φ := fun H0 O0 σ T H hl ok Q q =>
  wj_run tl Str.empty E h H0 O0 σ T H hl ok _ fun z E' p l H2 ok2 => q _ E' p l _ H2 (ok2.im (R := rS z) rfl)
/-! for a, b in pairs -/
theorem for_coreP {H0 : Hp} {O0 : List Addr} {σ : L2.St} {T : List (Option V × Sl)} {H : Hp} {D : Ends} {J : It} {rs : List Rp} {τ : Option V × Sl} {E1 : List Sl} {I : Nat → List Sl → Prop} (hJ : Walks K J rs τ) (hl : σ.length = E1.length) (ok : Ok K H0 O0 H (τ :: (T ++ σ.zip E1)))
    (h0 : I 0 E1)
    (hd : ∀ E', I rs.length E' → ∀ (σ' : L2.St) H2, σ'.length = E'.length → Ok K H0 O0 H2 (τ :: (T ++ σ'.zip E')) → D.nx σ' H2) (hb : ∀ E', nx E' → ∀ (σ' : L2.St) H2, σ'.length = E'.length → Ok K H0 O0 H2 (τ :: (T ++ σ'.zip E')) → D.nx σ' H2)
    (hr : ∀ k E', rt k E' → ∀ (σ' : L2.St) v H2, σ'.length = E'.length → Ok K H0 O0 H2 ((some v, k) :: τ :: (T ++ σ'.zip E')) → D.rt v H2) {tb : TS} (hs : ∀ m R E', rs[m]? = some R → I m E' → ∃ Ra Rb, R = rT K [Ra, Rb] ∧ WS K tb ((E'.set i (.im Ra)).set j (.im Rb)) (I (m + 1)) rt nx (I (m + 1))) :
    ∃ W : Nat → Nat → L2.St → Hp → Prop, (∃ m, W 0 m σ H) ∧ ∀ i1 m σ H, W i1 m σ H →
      (J.stop i1 H ∧ D.nx σ H) ∨ (J.go i1 H ∧ ∃ N : L2.St → Hp → Prop, (∀ σ' H', N σ' H' → ∃ m', m' < m ∧ W (i1 + 1) m' σ' H') ∧ ∀ x H', J.yld i1 H x H' → gPair K i j x σ H' fun σ2 H2 => tb { D with nx := N, ct := N, bk := D.nx } σ2 H2) := by
  refine ⟨fun m c σ H => c = rs.length - m ∧ m ≤ rs.length ∧ ∃ E', I m E' ∧ σ.length = E'.length ∧ Ok K H0 O0 H (τ :: (T ++ σ.zip E')), ⟨rs.length, by simp, Nat.zero_le _, E1, h0, hl, ok⟩, ?_⟩
  rintro m c σ H ⟨rfl, hi, E', hI, hl', ok'⟩
  by_cases hlt : m < rs.length
  · obtain ⟨g, y⟩ := hJ.go H0 O0 H _ ok' m rs[m] (List.getElem?_eq_getElem hlt)
    refine .inr ⟨g, fun σ H => ∃ E', I (m + 1) E' ∧ σ.length = E'.length ∧ Ok K H0 O0 H (τ :: (T ++ σ.zip E')), fun σ' H' ⟨E2, a, b, c⟩ => ⟨rs.length - (m + 1), by omega, rfl, hlt, E2, a, b, c⟩, fun x H' hy => ?_⟩
    have ok2 := y x H' hy
    obtain ⟨Ra, Rb, eR, hW⟩ := hs m rs[m] E' (List.getElem?_eq_getElem hlt) hI
    rw [eR] at ok2
    obtain ⟨w, e, a, us, h1, h2, h3⟩ := ok2.head
    cases e
    subst h1
    match us, h3 with
    | [u1, u2], .cons hu1 (.cons hu2 .nil) =>
      have ok3 : Ok K H0 O0 H' ((some u1, .im Ra) :: (((some u2, .im Rb) :: τ :: T) ++ σ.zip E')) := (ok2.tail.im hu2).im hu1
      have s1 := Ok.store (T := (some u2, .im Rb) :: τ :: T) i hl' ok3
      have s2 := Ok.store (T := τ :: T) j (by simp [hl']) s1
      refine ⟨a, [u1, u2], rfl, SqT.of h2, rfl, u1, [u2], rfl, u2, [], rfl, rfl, ?_⟩
      exact hW H0 O0 _ (τ :: T) H' _ (by simp [hl']) s2 (fun E2 p σ' H2 l o => ⟨E2, p, l, o⟩) (fun k E2 p σ' v H2 l o => hr k E2 p σ' v H2 l o) (fun E2 p σ' H2 l o => hb E2 p σ' H2 l o) (fun E2 p σ' H2 l o => ⟨E2, p, l, o⟩)
  · have e : m = rs.length := by omega
    subst e
    exact .inl ⟨hJ.stop H0 O0 H _ ok', hd E' hI σ H hl' ok'⟩
theorem ws_forP (h : WI K wi E fun rs E1 => ∃ I : Nat → List Sl → Prop, I 0 E1 ∧ (∀ m R E', rs[m]? = some R → I m E' → ∃ Ra Rb, R = rT K [Ra, Rb] ∧ WS K ts ((E'.set i (.im Ra)).set j (.im Rb)) (I (m + 1)) rt nx (I (m + 1))) ∧ ∀ E', I rs.length E' → nx E') :
    WS K (tFor wi (gPair K i j) ts) E nx rt bk ct := fun H0 O0 σ T H D hl ok n r b c =>
  h H0 O0 σ T H hl ok _ fun rs E1 ⟨I, h0, hs, hd⟩ l J τ H2 hJ ok2 => for_coreP hJ (by omega) ok2 h0 (fun E' p σ' H3 ls o => n E' (hd E' p) σ' H3 ls o.tail) (fun E' p σ' H3 ls o => n E' p σ' H3 ls o.tail)
    (fun k E' p σ' v H3 ls o => r k E' p σ' v H3 ls (o.sub drop2)) hs
end
end Fx
namespace Fx
open PySem L2 PyProof.Rows
theorem kEqY {X : Cx} {K : PySem.W.Frag} {C : Addr} {k : Nat} {sp : Sp} (h0 : X.K = K) (h : EqHas X.prog X.w X.K X.mg X.base C k sp) (hr : Room k X.A) : OpR X (compareOp .Eq) (rEqY K C sp) := by subst h0; exact op_eqY h hr
end Fx
set_option Elab.async false
set_option linter.all false
set_option maxRecDepth 100000
set_option maxHeartbeats 2000000
/-! even parts, what holds what, texts of codes -/
namespace Jv
open PySem Fx Wd Gf Du Cu
theorem asc_eq {l m : List Nat} (hl : l.Pairwise (· < ·)) (hm : m.Pairwise (· < ·)) (h : ∀ x, x ∈ l ↔ x ∈ m) : l = m :=
  List.Perm.eq_of_pairwise (fun a b _ _ h1 h2 => by omega) hl hm ((List.perm_ext_iff_of_nodup (hl.imp Nat.ne_of_lt) (hm.imp Nat.ne_of_lt)).mpr h)
/-! even parts -/
def odds (B : List Nat) : List Nat := B.filter fun b => decide (pop b % 2 = 1)
def evns (B : List Nat) : List Nat := B.filter fun b => decide (pop b % 2 = 0)
def evenL2 (B : List Nat) : List Nat := evns B ++ ((odds B).drop 1).map fun b => b ^^^ (odds B).headD 0
def evenP (B : List Nat) : List Nat := basisOf (evenL2 B)
theorem two_len (B : List Nat) : (evns B).length + (odds B).length = B.length := by
  have h := filter_two (fun b => decide (pop b % 2 = 0)) B
  have e : (B.filter fun i => !decide (pop i % 2 = 0)) = odds B := by
    unfold odds
    congr 1
    funext b
    rcases Nat.mod_two_eq_zero_or_one (pop b) with z | z <;> simp [z]
  rw [e] at h
  exact h
theorem evenL2_len (B : List Nat) : (evenL2 B).length = B.length - (if odds B = [] then 0 else 1) := by
  unfold evenL2
  rw [List.length_append, List.length_map, List.length_drop]
  have h := two_len B
  by_cases z : odds B = []
  · rw [if_pos z]
    rw [z] at h ⊢
    simp at h ⊢
    omega
  · rw [if_neg z]
    have := List.length_pos_iff.mpr z
    omega
theorem evenL2_lt {n : Nat} {B : List Nat} (h : ∀ b ∈ B, b < 2 ^ n) : ∀ a ∈ evenL2 B, a < 2 ^ n := fun a ha => by
  have ho : ∀ b ∈ odds B, b < 2 ^ n := fun b hb => h b (List.mem_filter.mp hb).1
  rcases List.mem_append.mp ha with z | z
  · exact h a (List.mem_filter.mp z).1
  · obtain ⟨b, hb, e⟩ := List.mem_map.mp z
    have h1 := ho b (List.mem_of_mem_drop hb)
    have h2 : (odds B).headD 0 < 2 ^ n := by
      cases hq : odds B with
      | nil => exact Nat.two_pow_pos n
      | cons c l =>
        refine ho c ?_
        rw [hq]
        exact List.mem_cons_self
    rw [← e]
    exact Nat.xor_lt_two_pow h1 h2
theorem even_dim {n : Nat} {B : List Nat} (h : CodeOk n B) : ((evenP B).length = B.length) ↔ odds B = [] := by
  have h1 : (evenP B).length ≤ (evenL2 B).length := basisOf_len _
  have h2 := evenL2_len B
  constructor
  · intro e
    by_cases z : odds B = []
    · exact z
    · rw [if_neg z] at h2
      have h3 := two_len B
      have := List.length_pos_iff.mpr z
      omega
  · intro z
    have e : evenL2 B = B := by
      unfold evenL2 evns
      rw [z]
      simp
      intro b hb
      by_cases q : pop b % 2 = 1
      · have : b ∈ odds B := List.mem_filter.mpr ⟨hb, decide_eq_true q⟩
        rw [z] at this
        cases this
      · omega
    unfold evenP
    rw [e, h.self]
theorem even_sp {B : List Nat} {x : Nat} : Sp (evenL2 B) x ↔ Sp B x ∧ pop x % 2 = 0 := by
  have oddm : ∀ o l, odds B = o :: l → o ∈ B ∧ pop o % 2 = 1 := fun o l e => by
    have : o ∈ odds B := by rw [e]; exact List.mem_cons_self
    obtain ⟨a, b⟩ := List.mem_filter.mp this
    exact ⟨a, of_decide_eq_true b⟩
  constructor
  · intro h
    induction h with
    | zero => exact ⟨.zero, by rw [pop_zero]⟩
    | @add y w _ hw ih =>
      have hw2 : Sp B w ∧ pop w % 2 = 0 := by
        rcases List.mem_append.mp hw with z | z
        · obtain ⟨a, b⟩ := List.mem_filter.mp z
          exact ⟨.mem a, of_decide_eq_true b⟩
        · obtain ⟨b, hb, e⟩ := List.mem_map.mp z
          cases hq : odds B with
          | nil => rw [hq] at hb; cases hb
          | cons o l =>
            obtain ⟨o1, o2⟩ := oddm o l hq
            obtain ⟨b1, b2⟩ := List.mem_filter.mp (List.mem_of_mem_drop hb)
            have b2 := of_decide_eq_true b2
            rw [hq] at e
            have e : b ^^^ o = w := e
            rw [← e]
            refine ⟨(Sp.mem b1).xor (.mem o1), ?_⟩
            rw [pop_xor_par]
            omega
      exact ⟨ih.1.xor hw2.1, by rw [pop_xor_par]; omega⟩
  · rintro ⟨h, hp⟩
    have key : (pop x % 2 = 0 → Sp (evenL2 B) x) ∧ (pop x % 2 = 1 → Sp (evenL2 B) (x ^^^ (odds B).headD 0)) := by
      clear hp
      induction h with
      | zero => exact ⟨fun _ => .zero, fun z => by rw [pop_zero] at z; cases z⟩
      | @add y w _ hw ih =>
        have par := pop_xor_par y w
        by_cases q : pop w % 2 = 1
        · have hwo : w ∈ odds B := List.mem_filter.mpr ⟨hw, decide_eq_true q⟩
          have hs : Sp (evenL2 B) (w ^^^ (odds B).headD 0) := by
            cases hq : odds B with
            | nil => rw [hq] at hwo; cases hwo
            | cons o l =>
              rw [hq] at hwo
              show Sp (evenL2 B) (w ^^^ o)
              rcases List.mem_cons.mp hwo with e | e
              · rw [e, Nat.xor_self]
                exact .zero
              · refine .mem (List.mem_append_right _ (List.mem_map.mpr ⟨w, ?_, ?_⟩))
                · rw [hq]
                  exact e
                · rw [hq]
                  rfl
          constructor
          · intro z
            have h1 := (ih.2 (by omega)).xor hs
            have e : (y ^^^ (odds B).headD 0) ^^^ (w ^^^ (odds B).headD 0) = y ^^^ w := by
              rw [← Nat.xor_assoc, xor_swap y, Nat.xor_assoc (y ^^^ w), Nat.xor_self, Nat.xor_zero]
            rwa [e] at h1
          · intro z
            have h1 := (ih.1 (by omega)).xor hs
            rwa [← Nat.xor_assoc] at h1
        · have hwe : Sp (evenL2 B) w := .mem (List.mem_append_left _ (List.mem_filter.mpr ⟨hw, decide_eq_true (by omega)⟩))
          constructor
          · intro z
            exact (ih.1 (by omega)).xor hwe
          · intro z
            rw [xor_swap]
            exact (ih.2 (by omega)).xor hwe
    exact key.1 hp
theorem even_ok {n : Nat} {B : List Nat} (h : CodeOk n B) : CodeOk n (evenP B) := .of h.n1 h.n24 (evenL2_lt h.bas.lt)
theorem even_span {n : Nat} {B : List Nat} (h : CodeOk n B) : spanOf (evenP B) = (spanOf B).filter fun w => decide (pop w % 2 = 0) := by
  refine asc_eq (span_ord (basisOf_rr _) (basis_ord _)) ((span_ord h.bas.rr h.o).filter _) fun x => ?_
  rw [span_mem, List.mem_filter, span_mem, decide_eq_true_eq]
  exact (basisOf_same _ x).trans even_sp
theorem dual_span {n : Nat} {B : List Nat} (h : CodeOk n B) : spanOf (checksOf n B) = (List.range (2 ^ n)).filter fun w => decide ((B.filter fun b => decide (pop (w &&& b) % 2 = 1)) = []) := by
  refine asc_eq (span_ord (basisOf_rr _) (basis_ord _)) (List.pairwise_lt_range.filter _) fun x => ?_
  show x ∈ spanOf (checksOf n B) ↔ _
  rw [span_mem, List.mem_filter, List.mem_range, decide_eq_true_eq, checksOf_dual h.bas.rr h.bas.lt]
  unfold Dl
  rw [List.filter_eq_nil_iff]
  exact ⟨fun ⟨a, b⟩ => ⟨a, fun r hr z => by
    have := b r hr
    unfold dot at this
    rw [z] at this
    cases this⟩, fun ⟨a, b⟩ => ⟨a, fun r hr => by
    have := b r hr
    unfold dot
    cases hq : decide (pop (x &&& r) % 2 = 1) with
    | false => rfl
    | true => exact absurd hq this⟩⟩
/-! what holds what -/
def holds (A B : List Nat) : Bool := B.all fun w => decide (rem A w = 0)
theorem holds_iff {A B : List Nat} (hA : RR A) : holds A B = true ↔ ∀ w ∈ B, Sp A w := by
  unfold holds
  rw [List.all_eq_true]
  exact ⟨fun h w hw => (rem_zero_iff hA).mp (of_decide_eq_true (h w hw)), fun h w hw => decide_eq_true ((rem_zero_iff hA).mpr (h w hw))⟩
theorem holds_filter (A B : List Nat) : decide ((B.filter fun w => decide (0 < rem A w)) = []) = holds A B := by
  rw [Bool.eq_iff_iff, decide_eq_true_eq, List.filter_eq_nil_iff]
  unfold holds
  rw [List.all_eq_true]
  exact ⟨fun h w hw => decide_eq_true (by have := h w hw; rw [decide_eq_true_eq] at this; omega), fun h w hw z => by
    have h1 := of_decide_eq_true (h w hw)
    have h2 := of_decide_eq_true z
    omega⟩
theorem holds_dual {n : Nat} {A B : List Nat} (hA : CodeOk n A) (hB : CodeOk n B) : holds (checksOf n B) (checksOf n A) = holds A B := by
  have hRR : RR (checksOf n B) := basisOf_rr _
  rw [Bool.eq_iff_iff, holds_iff hRR, holds_iff hA.bas.rr]
  constructor
  · intro h w hw
    refine dual_dual hA.bas.rr hA.bas.lt (hB.bas.lt w hw) fun x hx => ?_
    have h1 : Sp (checksOf n A) x := (checksOf_dual hA.bas.rr hA.bas.lt x).mpr hx
    have h2 : Sp (checksOf n B) x := Sp.sub h h1
    have h3 := ((checksOf_dual hB.bas.rr hB.bas.lt x).mp h2).2 w hw
    rw [dot_comm]
    exact h3
  · intro h w hw
    refine (checksOf_dual hB.bas.rr hB.bas.lt w).mpr ⟨hA.dual.bas.lt w hw, fun b hb => ?_⟩
    have h1 := (checksOf_dual hA.bas.rr hA.bas.lt w).mp (.mem hw)
    exact h1.sp (h b hb)
/-! texts -/
def textOf (n d : Nat) : Str := ((Str.ofString "code of length " ++ (toString (n : Int) : Str)) ++ Str.ofString ", dimension ") ++ (toString (d : Int) : Str)
theorem app_len (a b : Str) : (a ++ b).length = a.length + b.length := by
  show (a.cps ++ b.cps).size = _
  rw [Array.size_append]
  rfl
theorem emp_app (a : Str) : Str.empty ++ a = a := by
  show Str.append Str.empty a = a
  unfold Str.append Str.empty
  cases a
  simp
theorem int_len {n : Nat} (h : n ≤ 24) : (Str.ofString (toString (n : Int))).length ≤ 10 := by
  have e := int_text_length_le10 (a := (n : Int)) (k := 2) (by decide) (by rw [Int.natAbs_natCast]; omega)
  rw [ofString_length]
  omega
theorem int_log {n : Nat} (h : n ≤ 24) : ((n : Int)).natAbs.log2 < 1920 := by
  rw [Int.natAbs_natCast]
  have := Nat.log2_le_self n
  omega
theorem len1 : (Str.ofString "code of length ").length = 15 := by decide +kernel
theorem len2 : (Str.ofString ", dimension ").length = 12 := by decide +kernel
end Jv
set_option Elab.async false
set_option linter.all false
set_option maxRecDepth 100000
set_option maxHeartbeats 2000000
/-! indices of told words whose sum is a word, or a check -/
namespace Pa
open PySem Fx Wd Gf Du Cu
/-- the sum of the words at the bits of u that lie below n -/
def sel (ws : List Nat) (u : Nat) : Nat → Nat
  | 0 => 0
  | n + 1 => sel ws u n ^^^ (if u.testBit n = true then ws.getD n 0 else 0)
theorem sel_zero (ws : List Nat) : ∀ n, sel ws 0 n = 0
  | 0 => rfl
  | n + 1 => by
    show sel ws 0 n ^^^ (if (0 : Nat).testBit n = true then ws.getD n 0 else 0) = 0
    rw [sel_zero ws n]
    simp
theorem sel_xor (ws : List Nat) (u v : Nat) : ∀ n, sel ws (u ^^^ v) n = sel ws u n ^^^ sel ws v n
  | 0 => (Nat.xor_self 0).symm
  | n + 1 => by
    show sel ws (u ^^^ v) n ^^^ (if (u ^^^ v).testBit n = true then ws.getD n 0 else 0) = (sel ws u n ^^^ (if u.testBit n = true then ws.getD n 0 else 0)) ^^^ (sel ws v n ^^^ (if v.testBit n = true then ws.getD n 0 else 0))
    rw [sel_xor ws u v n, xor_bit]
    generalize ws.getD n 0 = w
    generalize sel ws u n = a
    generalize sel ws v n = b
    cases u.testBit n <;> cases v.testBit n
    · simp
    · simp [Nat.xor_assoc]
    · simp only [Bool.xor_false, Bool.true_xor, Bool.not_false, if_true]
      simp
      rw [Nat.xor_assoc, Nat.xor_comm b w, ← Nat.xor_assoc]
    · have e : (a ^^^ w) ^^^ (b ^^^ w) = a ^^^ b := by
        rw [← Nat.xor_assoc, xor_swap a w b, Nat.xor_assoc (a ^^^ b), Nat.xor_self, Nat.xor_zero]
      simp [e]
theorem sel_low (ws : List Nat) {u : Nat} : ∀ n, (∀ i, i < n → u.testBit i = false) → sel ws u n = 0
  | 0, _ => rfl
  | n + 1, h => by
    show sel ws u n ^^^ (if u.testBit n = true then ws.getD n 0 else 0) = 0
    rw [sel_low ws n fun i hi => h i (by omega), h n (by omega)]
    simp
theorem sel_bit (ws : List Nat) (i : Nat) : ∀ n, i < n → sel ws (2 ^ i) n = ws.getD i 0
  | n + 1, h => by
    show sel ws (2 ^ i) n ^^^ (if (2 ^ i).testBit n = true then ws.getD n 0 else 0) = ws.getD i 0
    rw [Nat.testBit_two_pow]
    by_cases e : i = n
    · subst e
      rw [sel_low ws i fun j hj => by rw [Nat.testBit_two_pow]; exact decide_eq_false (by omega)]
      simp
    · rw [sel_bit ws i n (by omega)]
      simp [e]
theorem sel_sp (ws : List Nat) (u : Nat) : ∀ n, Sp ws (sel ws u n)
  | 0 => .zero
  | n + 1 => by
    show Sp ws (sel ws u n ^^^ (if u.testBit n = true then ws.getD n 0 else 0))
    have ih := sel_sp ws u n
    by_cases h : u.testBit n = true
    · rw [if_pos h]
      rcases Nat.lt_or_ge n ws.length with z | z
      · have e : ws.getD n 0 = ws[n] := by simp [List.getD, z]
        rw [e]
        exact ih.add (List.getElem_mem z)
      · have e : ws.getD n 0 = 0 := by simp [List.getD, List.getElem?_eq_none z]
        rw [e, Nat.xor_zero]
        exact ih
    · rw [if_neg h, Nat.xor_zero]
      exact ih
/-- the sum along the places -/
theorem fold_get (ws : List Nat) (l : List Nat) (a : Nat) : (l.map fun i => ws.getD i 0).foldl (· ^^^ ·) a = a ^^^ xsum (l.map fun i => ws.getD i 0) := by
  have key : ∀ (m : List Nat) (a : Nat), m.foldl (· ^^^ ·) a = a ^^^ m.foldl (· ^^^ ·) 0 := by
    intro m
    induction m with
    | nil => intro a; simp
    | cons x m ih =>
      intro a
      rw [List.foldl_cons, List.foldl_cons, ih (a ^^^ x), ih (0 ^^^ x), Nat.zero_xor, Nat.xor_assoc]
  exact key _ a
theorem xsum_app (a b : List Nat) : xsum (a ++ b) = xsum a ^^^ xsum b := by
  have key : ∀ (m : List Nat) (a : Nat), m.foldl (· ^^^ ·) a = a ^^^ m.foldl (· ^^^ ·) 0 := by
    intro m
    induction m with
    | nil => intro a; simp
    | cons x m ih =>
      intro a
      rw [List.foldl_cons, List.foldl_cons, ih (a ^^^ x), ih (0 ^^^ x), Nat.zero_xor, Nat.xor_assoc]
  unfold xsum
  rw [List.foldl_append, key b]
theorem sel_range (ws : List Nat) (u : Nat) : ∀ n, xsum (((List.range n).filter fun i => decide (u / 2 ^ i % 2 = 1)).map fun i => ws.getD i 0) = sel ws u n
  | 0 => rfl
  | n + 1 => by
    rw [List.range_succ, List.filter_append, List.map_append, xsum_app, sel_range ws u n]
    show _ = sel ws u n ^^^ (if u.testBit n = true then ws.getD n 0 else 0)
    congr 1
    by_cases h : u.testBit n = true
    · rw [if_pos h, List.filter_cons, decide_eq_true ((bit_eq u n).mpr h)]
      simp [xsum]
    · rw [if_neg h, List.filter_cons, decide_eq_false fun z => h ((bit_eq u n).mp z)]
      rfl
theorem sel_places {ws : List Nat} {u : Nat} (h : u < 2 ^ ws.length) : xsum ((placesOf u).map fun i => ws.getD i 0) = sel ws u ws.length := by
  rw [← bits_n h]
  exact sel_range ws u ws.length
/-! rows with what was added to them -/
def low1 (p r : Nat × Nat) : Nat × Nat := if p.1 ^^^ r.1 < p.1 then (p.1 ^^^ r.1, p.2 ^^^ r.2) else p
def low (rows : List (Nat × Nat)) (w u : Nat) : Nat × Nat := rows.foldl low1 (w, u)
def rowStep (rows : List (Nat × Nat)) (iw : Nat × Nat) : List (Nat × Nat) :=
  if (low rows iw.2 (2 ^ iw.1)).1 = 0 then rows else rows ++ [low rows iw.2 (2 ^ iw.1)]
def rowsP (ws : List Nat) : Nat → List (Nat × Nat)
  | 0 => []
  | m + 1 => rowStep (rowsP ws m) (m, ws.getD m 0)
def partsOf (ws : List Nat) (word : Nat) : Option (List Nat) := if (low (rowsP ws ws.length) word 0).1 = 0 then some (placesOf (low (rowsP ws ws.length) word 0).2) else none
/-- each has 0 at the heads of those ahead -/
def Ech (rows : List Nat) : Prop := (∀ r ∈ rows, r ≠ 0) ∧ rows.Pairwise fun r s => s.testBit (hd r) = false
theorem Ech.zero : ∀ {rows : List Nat}, Ech rows → ∀ {y : Nat}, Sp rows y → (∀ r ∈ rows, y.testBit (hd r) = false) → y = 0
  | [], _, y, hy, _ => by
    cases hy with
    | zero => rfl
    | add _ h => cases h
  | r :: rows, h, y, hy, hb => by
    have split : ∀ {z : Nat}, Sp (r :: rows) z → Sp rows z ∨ Sp rows (z ^^^ r) := by
      intro z hz
      induction hz with
      | zero => exact .inl .zero
      | @add x w _ hw ih =>
        rcases List.mem_cons.mp hw with e | e
        · subst e
          rcases ih with ih | ih
          · exact .inr (by rw [xor_cancel]; exact ih)
          · exact .inl ih
        · rcases ih with ih | ih
          · exact .inl (ih.add e)
          · exact .inr (by rw [xor_swap]; exact ih.add e)
    obtain ⟨p1, p2⟩ := List.pairwise_cons.mp h.2
    have ht : Ech rows := ⟨fun s hs => h.1 s (List.mem_cons_of_mem _ hs), p2⟩
    rcases split hy with z | z
    · exact Ech.zero ht z fun s hs => hb s (List.mem_cons_of_mem _ hs)
    · exfalso
      have h1 : (y ^^^ r).testBit (hd r) = false := Sp.bits p1 z
      rw [xor_bit, hb r List.mem_cons_self, bit_hd (h.1 r List.mem_cons_self)] at h1
      cases h1
theorem low_fst (rows : List (Nat × Nat)) : ∀ (p : Nat × Nat), (rows.foldl low1 p).1 = rem (rows.map (·.1)) p.1 := by
  induction rows with
  | nil => intro p; rfl
  | cons r rows ih =>
    intro p
    show ((rows.foldl low1 (low1 p r)).1) = rem (rows.map (·.1)) (red p.1 r.1)
    rw [ih]
    congr 1
    unfold low1 red
    split <;> rfl
theorem low_heads : ∀ {rows : List Nat}, Ech rows → ∀ (w : Nat), ∀ r ∈ rows, (rem rows w).testBit (hd r) = false
  | [], _, _, r, hr => by cases hr
  | a :: rows, h, w, r, hr => by
    obtain ⟨p1, p2⟩ := List.pairwise_cons.mp h.2
    have ht : Ech rows := ⟨fun s hs => h.1 s (List.mem_cons_of_mem _ hs), p2⟩
    show (rem rows (red w a)).testBit (hd r) = false
    rcases List.mem_cons.mp hr with e | e
    · subst e
      rw [rem_keep p1, red_bit (h.1 r List.mem_cons_self)]
      by_cases hb : w.testBit (hd r) = true
      · rw [if_pos hb, xor_bit, hb, bit_hd (h.1 r List.mem_cons_self)]
        rfl
      · rw [if_neg hb]
        simpa using hb
    · exact low_heads ht _ r e
/-- what the rows stand for -/
structure Good (ws : List Nat) (m : Nat) (rows : List (Nat × Nat)) : Prop where
  e : Ech (rows.map (·.1))
  s : ∀ r ∈ rows, sel ws r.2 ws.length = r.1 ∧ r.2 < 2 ^ m
  c : ∀ i, i < m → Sp (rows.map (·.1)) (ws.getD i 0)
theorem low_sel {ws : List Nat} {m : Nat} : ∀ {rows : List (Nat × Nat)}, (∀ r ∈ rows, sel ws r.2 ws.length = r.1 ∧ r.2 < 2 ^ m) → ∀ (p : Nat × Nat), sel ws (rows.foldl low1 p).2 ws.length ^^^ (rows.foldl low1 p).1 = sel ws p.2 ws.length ^^^ p.1 ∧ (∀ k, m ≤ k → p.2 < 2 ^ k → (rows.foldl low1 p).2 < 2 ^ k)
  | [], _, p => ⟨rfl, fun _ _ h => h⟩
  | r :: rows, h, p => by
    obtain ⟨h1, h2⟩ := h r List.mem_cons_self
    obtain ⟨a, b⟩ := low_sel (fun s hs => h s (List.mem_cons_of_mem _ hs)) (low1 p r)
    have e : sel ws (low1 p r).2 ws.length ^^^ (low1 p r).1 = sel ws p.2 ws.length ^^^ p.1 ∧ ∀ k, m ≤ k → p.2 < 2 ^ k → (low1 p r).2 < 2 ^ k := by
      unfold low1
      split
      · refine ⟨?_, fun k hk hp => Nat.xor_lt_two_pow hp (Nat.lt_of_lt_of_le h2 (Nat.pow_le_pow_right (n := 2) (by decide) hk))⟩
        show sel ws (p.2 ^^^ r.2) ws.length ^^^ (p.1 ^^^ r.1) = _
        rw [sel_xor, h1, ← Nat.xor_assoc, xor_swap (sel ws p.2 ws.length), Nat.xor_assoc _ r.1 r.1, Nat.xor_self, Nat.xor_zero]
      · exact ⟨rfl, fun k hk hp => hp⟩
    exact ⟨a.trans e.1, fun k hk hp => b k hk (e.2 k hk hp)⟩
theorem low_sp (rows : List (Nat × Nat)) (w u : Nat) : Sp (rows.map (·.1)) (w ^^^ (low rows w u).1) := by
  unfold low
  rw [low_fst]
  exact rem_span _ _
theorem good_rows {ws : List Nat} : ∀ m, m ≤ ws.length → Good ws m (rowsP ws m)
  | 0, _ => ⟨⟨fun _ h => (by cases h), .nil⟩, fun _ h => (by cases h), fun _ h => (by omega)⟩
  | m + 1, hm => by
    have ih : Good ws m (rowsP ws m) := good_rows m (by omega)
    have hl := low_sel ih.s (ws.getD m 0, 2 ^ m)
    have hs := low_sp (rowsP ws m) (ws.getD m 0) (2 ^ m)
    have hf : (low (rowsP ws m) (ws.getD m 0) (2 ^ m)).1 = rem ((rowsP ws m).map (·.1)) (ws.getD m 0) := low_fst _ _
    have hh := low_heads ih.e (ws.getD m 0)
    rw [← hf] at hh
    have hl1 : sel ws (low (rowsP ws m) (ws.getD m 0) (2 ^ m)).2 ws.length = (low (rowsP ws m) (ws.getD m 0) (2 ^ m)).1 := by
      have := hl.1
      rw [sel_bit ws m ws.length (by omega), Nat.xor_self] at this
      exact xor_zero_eq this
    have hl2 : (low (rowsP ws m) (ws.getD m 0) (2 ^ m)).2 < 2 ^ (m + 1) := hl.2 (m + 1) (by omega) (Nat.pow_lt_pow_right (by decide) (by omega))
    show Good ws (m + 1) (rowStep (rowsP ws m) (m, ws.getD m 0))
    unfold rowStep
    show Good ws (m + 1) (if (low (rowsP ws m) (ws.getD m 0) (2 ^ m)).1 = 0 then rowsP ws m else rowsP ws m ++ [low (rowsP ws m) (ws.getD m 0) (2 ^ m)])
    generalize low (rowsP ws m) (ws.getD m 0) (2 ^ m) = q at hs hh hl1 hl2 ⊢
    by_cases z : q.1 = 0
    · rw [if_pos z]
      refine ⟨ih.e, fun r hr => ⟨(ih.s r hr).1, Nat.lt_trans (ih.s r hr).2 (Nat.pow_lt_pow_right (by decide) (by omega))⟩, fun i hi => ?_⟩
      by_cases e : i = m
      · subst e
        rw [z, Nat.xor_zero] at hs
        exact hs
      · exact ih.c i (by omega)
    · rw [if_neg z]
      have em : (rowsP ws m ++ [q]).map (·.1) = (rowsP ws m).map (·.1) ++ [q.1] := by rw [List.map_append]; rfl
      have sub : ∀ {x : Nat}, Sp ((rowsP ws m).map (·.1)) x → Sp ((rowsP ws m).map (·.1) ++ [q.1]) x := fun h => Sp.left h
      refine ⟨?_, fun r hr => ?_, fun i hi => ?_⟩
      · rw [em]
        refine ⟨fun r hr => ?_, List.pairwise_append.mpr ⟨ih.e.2, List.pairwise_singleton _ _, fun r hr s hs => ?_⟩⟩
        · rcases List.mem_append.mp hr with y | y
          · exact ih.e.1 r y
          · rw [List.mem_singleton.mp y]; exact z
        · rw [List.mem_singleton.mp hs]
          exact hh r hr
      · rcases List.mem_append.mp hr with y | y
        · exact ⟨(ih.s r y).1, Nat.lt_trans (ih.s r y).2 (Nat.pow_lt_pow_right (by decide) (by omega))⟩
        · rw [List.mem_singleton.mp y]
          exact ⟨hl1, hl2⟩
      · rw [em]
        by_cases e : i = m
        · subst e
          have h2 := (sub hs).xor (.mem (List.mem_append_right _ (List.mem_singleton.mpr rfl)) : Sp ((rowsP ws i).map (·.1) ++ [q.1]) q.1)
          rw [xor_cancel] at h2
          exact h2
        · exact sub (ih.c i (by omega))
theorem rows_sp {ws : List Nat} {x : Nat} (h : Sp ws x) : Sp ((rowsP ws ws.length).map (·.1)) x := by
  refine h.sub fun w hw => ?_
  obtain ⟨i, hi, e⟩ := List.getElem_of_mem hw
  have := (good_rows (ws := ws) ws.length (Nat.le_refl _)).c i hi
  have e2 : ws.getD i 0 = w := by simp [List.getD, hi, e]
  rwa [e2] at this
theorem parts_some {ws : List Nat} {word : Nat} {L : List Nat} (h : partsOf ws word = some L) : xsum (L.map fun i => ws.getD i 0) = word ∧ Sp ws word ∧ L.Pairwise (· < ·) ∧ ∀ i ∈ L, i < ws.length := by
  unfold partsOf at h
  by_cases z : (low (rowsP ws ws.length) word 0).1 = 0
  · rw [if_pos z] at h
    have hg := good_rows (ws := ws) ws.length (Nat.le_refl _)
    obtain ⟨a, b⟩ := low_sel hg.s (word, 0)
    have b := b ws.length (Nat.le_refl _) (Nat.two_pow_pos _)
    have a : sel ws (low (rowsP ws ws.length) word 0).2 ws.length ^^^ (low (rowsP ws ws.length) word 0).1 = sel ws 0 ws.length ^^^ word := a
    have b : (low (rowsP ws ws.length) word 0).2 < 2 ^ ws.length := b
    rw [z, Nat.xor_zero, sel_zero, Nat.zero_xor] at a
    cases h
    refine ⟨(sel_places b).trans a, ?_, places_asc _, fun i hi => places_lt b hi⟩
    rw [← a]
    exact sel_sp ws _ _
  · rw [if_neg z] at h
    cases h
theorem parts_none {ws : List Nat} {word : Nat} (h : partsOf ws word = none) : ¬ Sp ws word := fun hs => by
  unfold partsOf at h
  by_cases z : (low (rowsP ws ws.length) word 0).1 = 0
  · rw [if_pos z] at h
    cases h
  · have hg := good_rows (ws := ws) ws.length (Nat.le_refl _)
    have h1 := low_sp (rowsP ws ws.length) word 0
    have h2 : Sp ((rowsP ws ws.length).map (·.1)) (low (rowsP ws ws.length) word 0).1 := by
      have := (rows_sp hs).xor h1
      rw [← Nat.xor_assoc, Nat.xor_self, Nat.zero_xor] at this
      exact this
    refine z (Ech.zero hg.e h2 fun r hr => ?_)
    have hf : (low (rowsP ws ws.length) word 0).1 = rem ((rowsP ws ws.length).map (·.1)) word := low_fst _ _
    rw [hf]
    exact low_heads hg.e word r hr
theorem parts_iff {ws : List Nat} {word : Nat} : (partsOf ws word).isSome = true ↔ Sp ws word := by
  cases h : partsOf ws word with
  | some L => exact ⟨fun _ => (parts_some h).2.1, fun _ => rfl⟩
  | none => exact ⟨fun z => (by cases z), fun z => absurd z (parts_none h)⟩
/-! the check -/
theorem check_dot {n : Nat} {B : List Nat} (h : RR B) {z p : Nat} (hp : p ∈ freeOf n B) : dot (rem B z) (checkAt B p) = (rem B z).testBit p := by
  have e : rem B z &&& checkAt B p = if (rem B z).testBit p = true then 2 ^ p else 0 := by
    refine Nat.eq_of_testBit_eq fun i => ?_
    rw [Nat.testBit_and, check_bit h hp]
    by_cases hi : i = p
    · subst hi
      cases (rem B z).testBit i with
      | true => simp [Nat.testBit_two_pow]
      | false => simp
    · have h0 : ((rem B z).testBit i && decide (i = p ∨ ∃ r ∈ B, r.testBit p = true ∧ hd r = i)) = false := by
        rcases Classical.em (∃ r ∈ B, r.testBit p = true ∧ hd r = i) with ⟨r, hr, _, e⟩ | z
        · rw [← e, rem_heads h hr]
          rfl
        · rw [decide_eq_false fun y => y.elim hi z]
          simp
      rw [h0]
      cases (rem B z).testBit p with
      | true =>
        have hi2 : ¬ p = i := fun z => hi z.symm
        simp [Nat.testBit_two_pow, hi2]
      | false => simp
  unfold dot
  rw [e]
  cases hb : (rem B z).testBit p with
  | false => simp [pop_zero]
  | true =>
    rw [if_pos rfl, pop_two]
    rfl
/-- the check that is told -/
def chk (ws : List Nat) (word : Nat) : Nat := checkAt (basisOf ws) (hd (rem (basisOf ws) word))
theorem chk_ok {n : Nat} {ws : List Nat} {word : Nat} (hl : ∀ a ∈ ws, a < 2 ^ n) (hw : word < 2 ^ n) (h : ¬ Sp ws word) : rem (basisOf ws) word ≠ 0 ∧ hd (rem (basisOf ws) word) < n ∧ chk ws word < 2 ^ n ∧ (∀ a ∈ ws, dot (chk ws word) a = false) ∧ dot (chk ws word) word = true := by
  have hR : RR (basisOf ws) := basisOf_rr ws
  have hB : ∀ r ∈ basisOf ws, r < 2 ^ n := fun r hr => basisOf_lt hl hr
  have h0 : rem (basisOf ws) word ≠ 0 := fun z => h ((basisOf_same ws word).mp ((rem_zero_iff hR).mp z))
  have hr : rem (basisOf ws) word < 2 ^ n := rem_lt hB hw
  have hp : hd (rem (basisOf ws) word) < n := (Nat.log2_lt h0).mpr hr
  have hf : hd (rem (basisOf ws) word) ∈ freeOf n (basisOf ws) := by
    refine List.mem_filter.mpr ⟨List.mem_range.mpr hp, decide_eq_true fun z => ?_⟩
    obtain ⟨r, hr, e⟩ := List.mem_map.mp z
    have := rem_heads hR (w := word) hr
    rw [e, bit_hd h0] at this
    cases this
  have hc : Dl n (basisOf ws) (chk ws word) := ⟨check_lt hR hB hf, fun b hb => check_even hR hf hb⟩
  refine ⟨h0, hp, hc.1, fun a ha => hc.sp ((basisOf_same ws a).mpr (.mem ha)), ?_⟩
  have h1 : dot (chk ws word) (word ^^^ rem (basisOf ws) word) = false := hc.sp (rem_span _ _)
  rw [dot_xor] at h1
  have h2 : dot (chk ws word) (rem (basisOf ws) word) = true := by
    rw [dot_comm]
    exact (check_dot hR hf).trans (bit_hd h0)
  rw [h2] at h1
  simpa using h1
end Pa
set_option Elab.async false
set_option linter.all false
set_option maxRecDepth 100000
set_option maxHeartbeats 2000000
/-! values near parts and checks: pairs of a kind and of what is told, tuples in tuples, lists, dicts -/
namespace Fx
open PySem L2 PyProof.Rows
inductive El where
  | a (x : At)
  | t (l : List At)
  | l
inductive Cd where
  | a (x : At)
  | e
  | t (k : At) (r : List El)
  | l
  | d
/-- a dict, no more said -/
def rD : Rp := ⟨fun v H => ∃ a us, v = .ref a ∧ H a = some (.dK us), fun e ⟨a, us, h1, h2⟩ => by
  obtain ⟨ws, hw⟩ := e.dk a us h2
  exact ⟨a, ws, h1, hw⟩, false, fun _ {v H a} h e xs hx => by
  obtain ⟨b, us, h1, h2⟩ := h
  rw [h1] at e
  cases e
  rw [h2] at hx
  cases hx⟩
def rEl (K : PySem.W.Frag) : El → Rp
  | .a x => rA x
  | .t l => rT K (l.map rA)
  | .l => rL
def rCd (K : PySem.W.Frag) : Cd → Rp
  | .a x => rA x
  | .e => rT K []
  | .t k r => rT K (rA k :: r.map (rEl K))
  | .l => rL
  | .d => rD
def El.isT : El → Bool
  | .t _ => true
  | _ => false
def Cd.isT : Cd → Bool
  | .t _ _ => true
  | .e => true
  | _ => false
section
variable {K : PySem.W.Frag} {E : List Sl} {te ta tb : TE} {Φ : Sl → List Sl → Prop} {R : Rp} {i j s : Nat} {rs : List Rp} {nx : List Sl → Prop} {rt : Sl → List Sl → Prop} {bk ct : List Sl → Prop}
theorem ty_L : ∀ v H, (rL).r v H → TyX K H v (.type "list") := fun v H ⟨a, xs, h1, h2⟩ => by
  subst h1
  exact .base (.lst h2)
theorem ty_D : ∀ v H, (rD).r v H → TyX K H v (.type "dict") := fun v H ⟨a, xs, h1, h2⟩ => by
  subst h1
  exact .base (.dK h2)
theorem cpr_isEl (c : El) : CPR K (rIsi K) [.im (rEl K c), .im (rTy "tuple")] (.im (rB c.isT)) := by
  cases c with
  | a x =>
    have h := cpr_isi (knd_A (K := K) x) (kit_tuple x.knd)
    cases x <;> exact h
  | t l => exact cpr_isi knd_tup (kit_tuple .tup)
  | l => exact cpr_isiN (nm := "list") ty_L (kit_ty (by decide +kernel))
theorem cpr_isCd (c : Cd) : CPR K (rIsi K) [.im (rCd K c), .im (rTy "tuple")] (.im (rB c.isT)) := by
  cases c with
  | a x =>
    have h := cpr_isi (knd_A (K := K) x) (kit_tuple x.knd)
    cases x <;> exact h
  | e => exact cpr_isi knd_tup (kit_tuple .tup)
  | t k r => exact cpr_isi knd_tup (kit_tuple .tup)
  | l => exact cpr_isiN (nm := "list") ty_L (kit_ty (by decide +kernel))
  | d => exact cpr_isiN (nm := "dict") ty_D (kit_ty (by decide +kernel))
/-- like an int, of any kind -/
theorem opr_isN {b : Bool} (h : ∀ v H, R.r v H → decide (v = V.non) = b) : OPR K (fun x y H Q => y = V.non ∧ Q (V.bl (decide (x = V.non))) H) (.im R) (.im rU) (.im (rB b)) := opr_im fun x y H h1 h2 Q q => by
  have h2 : y = V.non := h2
  subst h2
  refine ⟨rfl, q _ ?_⟩
  show V.bl (decide (x = V.non)) = V.bl b
  rw [h x H h1]
theorem isN_U : ∀ v H, (rU).r v H → decide (v = V.non) = true := fun v H h => by
  have h : v = V.non := h
  subst h
  rfl
theorem isN_T : ∀ v H, (rT K rs).r v H → decide (v = V.non) = false := fun v H ⟨a, us, h1, _⟩ => by
  subst h1
  rfl
end
end Fx
namespace Pa
open PySem Fx Wd Gf Du Cu
abbrev kP : At := .S "parts"
abbrev kC : At := .S "check"
theorem ok_P : kP.ok := by decide +kernel
theorem ok_C : kC.ok := by decide +kernel
theorem ne_CP : kC ≠ kP := by decide +kernel
def kndE : El → Knd
  | .a x => x.knd
  | .t _ => .tup
  | .l => .lst
def intE : El → Option Int
  | .a x => intOf x
  | _ => none
/-- the indices are ascending, below many, and their words add up -/
def partJ (ws : List Nat) (word : Nat) : El → Bool
  | .t l => ascB (ws.length : Int) (l.map intOf) 0 && decide (xsum (l.map fun x => ws.getD ((intOf x).getD 0).toNat 0) = word)
  | _ => false
def checkJ (n : Nat) (ws : List Nat) (word : Nat) : El → Bool
  | .a (.I c) => decide (0 ≤ c) && decide (c < ((2 ^ n : Nat) : Int)) && (dot c.toNat word && ws.all fun w => !dot c.toNat w)
  | _ => false
def judgeP (n : Nat) (ws : List Nat) (word : Nat) : Cd → Bool
  | .t k [v] => if k = kP then partJ ws word v else if k = kC then checkJ n ws word v else false
  | _ => false
def okE : El → Prop
  | .t l => l.length ≤ 50 ∧ ∀ x ∈ l, x.ok
  | .a x => x.ok
  | .l => True
def Cd.ok : Cd → Prop
  | .t k r => k.ok ∧ ∀ v ∈ r, okE v
  | _ => True
end Pa
namespace Fx
open PySem L2 PyProof.Rows
section
variable {K : PySem.W.Frag} {E : List Sl} {i j s : Nat} {nx : List Sl → Prop} {rt : Sl → List Sl → Prop} {bk ct : List Sl → Prop} {ts : TS}
/-- for a, b in enumerate(t) -/
theorem ws_forE {xs : List Nat} (hs : E[s]? = some (.im (rT K (xs.map rN)))) (h : ∃ I : Nat → List Sl → Prop, I 0 E ∧ (∀ m E', m < xs.length → I m E' → WS K ts ((E'.set i (.im (rN m))).set j (.im (rN (xs.getD m 0)))) (I (m + 1)) rt nx (I (m + 1))) ∧ ∀ E', I xs.length E' → nx E') :
    WS K (tFor (iEnumX K (tCons (tVar s) tNil)) (gPair K i j) ts) E nx rt bk ct := fun H0 O0 σ T H D hl ok n r b c => by
  obtain ⟨I, h0, hst, hd⟩ := h
  obtain ⟨o, h1, h2⟩ := zip_get hl hs
  have hm := List.mem_append_right T h2
  obtain ⟨w, e, a, vs, e2, h3, h4⟩ := ok.sl _ hm
  have e : o = some w := e
  subst e e2
  have ok2 : Ok K H0 O0 H ((some (.ref a), .im (rT K (xs.map rN))) :: (T ++ σ.zip E)) := ok.im (R := rT K (xs.map rN)) ⟨a, vs, rfl, h3, h4⟩
  refine ⟨.ref a, h1, true, a, vs, rfl, SqT.of h3, ?_⟩
  have hW : Walks2 K (IteX K true a) xs.length [(some (.ref a), .im (rT K (xs.map rN)))] (fun i => rN i) (fun i => rN (xs.getD i 0)) := walks2_enumT
  refine ⟨fun m c σ H => c = xs.length - m ∧ m ≤ xs.length ∧ ∃ E', I m E' ∧ σ.length = E'.length ∧ Ok K H0 O0 H ((some (.ref a), .im (rT K (xs.map rN))) :: (T ++ σ.zip E')), ⟨xs.length, by simp, Nat.zero_le _, E, h0, hl, ok2⟩, ?_⟩
  rintro m c σ H ⟨rfl, hi, E', hI, hl', ok'⟩
  have hmem : ∀ t ∈ [((some (V.ref a), Sl.im (rT K (xs.map rN))) : Option V × Sl)], t ∈ ((some (V.ref a), Sl.im (rT K (xs.map rN))) :: (T ++ σ.zip E')) := fun t ht => by
    rw [List.mem_singleton.mp ht]
    exact List.mem_cons_self
  by_cases hlt : m < xs.length
  · obtain ⟨g, y⟩ := hW.go H0 O0 H _ hmem ok' m hlt
    refine .inr ⟨g, fun σ H => ∃ E', I (m + 1) E' ∧ σ.length = E'.length ∧ Ok K H0 O0 H ((some (.ref a), .im (rT K (xs.map rN))) :: (T ++ σ.zip E')), fun σ' H' ⟨E2, a, b, c⟩ => ⟨xs.length - (m + 1), by omega, rfl, hlt, E2, a, b, c⟩, fun x H' hy => ?_⟩
    obtain ⟨P, u1, u2, e, hP, ok2⟩ := y x H' hy
    subst e
    have ok3 : Ok K H0 O0 H' ((some u1, .im (rN m)) :: (((some u2, .im (rN (xs.getD m 0))) :: (some (.ref a), .im (rT K (xs.map rN))) :: T) ++ σ.zip E')) := ok2
    have s1 := Ok.store (T := (some u2, .im (rN (xs.getD m 0))) :: (some (.ref a), .im (rT K (xs.map rN))) :: T) i hl' ok3
    have s2 := Ok.store (T := (some (.ref a), .im (rT K (xs.map rN))) :: T) j (by simp [hl']) s1
    refine ⟨P, [u1, u2], rfl, SqT.of hP, rfl, u1, [u2], rfl, u2, [], rfl, rfl, ?_⟩
    exact hst m E' hlt hI H0 O0 _ ((some (.ref a), .im (rT K (xs.map rN))) :: T) H' _ (by simp [hl']) s2 (fun E2 p σ' H2 l o => ⟨E2, p, l, o⟩) (fun k E2 p σ' v H2 l o => r k E2 p σ' v H2 l (o.sub drop2)) (fun E2 p σ' H2 l o => n E2 p σ' H2 l o.tail) (fun E2 p σ' H2 l o => ⟨E2, p, l, o⟩)
  · have e : m = xs.length := by omega
    subst e
    exact .inl ⟨hW.stop H0 O0 H _ hmem ok', n E' (hd E' hI) σ H hl' ok'.tail⟩
end
end Fx
set_option Elab.async false
set_option linter.all false
set_option maxRecDepth 100000
set_option maxHeartbeats 2000000
/-! sorted(set(t)) of a tuple of naturals -/
namespace Fx
open PySem L2 PyProof.Rows
def rSetTI (K : PySem.W.Frag) (w : World) : List V → Hp → VK → Prop := fun xs H Q => ∃ (p : Addr) (ns : List Int), xs = [.ref p] ∧ SqT K H p (ns.map V.int) ∧ ns.length ≤ 100 ∧ ∀ (a : Addr) (c : Nat), H a = none → c ≤ ns.length → Q (.ref a) (upd H a (SetO w a (fun j => decide (j ∈ ns)) c))
theorem ints_are : ∀ {ns : List Int} {its : List Value}, Vals (ns.map V.int) its → IntsAre its ns
  | [], _, h => by cases h; exact .nil
  | n :: ns, _, h => by
    cases h with
    | cons h t =>
      obtain ⟨tk, rfl⟩ := h
      exact .cons n tk (ints_are t)
theorem call_setT {X : Cx} (hc : X.calm = true) : CallR X (.type "set") (rSetTI X.K X.w) := by
  intro pins s σ H xs us Q I r hh
  obtain ⟨p, ns, rfl, hp, hl, q⟩ := hh
  obtain ⟨u, rfl, ru⟩ := vals1 r
  cases ru
  obtain ⟨its, rv, ht, _⟩ := I.tuple hp
  have hz : ns.length + 1 < scanBound := Nat.lt_of_le_of_lt (by omega : ns.length + 1 ≤ 200) (by decide +kernel)
  refine call_set_tupI (items := its.toArray) ns (I.ok.hd hc) ht (ints_are rv) hz fun h' tk c hs hcl hk => ?_
  have hO : ObjOk X.prog X.w (upd H s.heap.objs.size (SetO X.w s.heap.objs.size (fun j => decide (j ∈ ns)) c)) h' s.heap.objs.size (SetO X.w s.heap.objs.size (fun j => decide (j ∈ ns)) c) :=
    ⟨hs, (by obtain ⟨o, _, _, _, h1, _⟩ := hs; exact ⟨o, h1⟩), fun h1 h2 g e => SetR.at g e⟩
  exact ⟨.ref s.heap.objs.size, _, I.laid (t' := tk) hk (Nat.le_refl _) hO, rfl, q _ c (I.hok.fresh (Nat.le_refl _)) hcl⟩
theorem kSetT {X : Cx} {K : PySem.W.Frag} (h : X.K = K) (hc : X.calm = true) : CallR X (.type "set") (rSetTI K X.w) := by subst h; exact call_setT hc
section
variable {K : PySem.W.Frag} {w : World} {E : List Sl} {te : TE} {Φ : Sl → List Sl → Prop}
theorem vals_ints {H : Hp} : ∀ {ws : List Nat} {vs : List V}, Vr H vs (ws.map rN) → vs = (ws.map fun (n : Nat) => (n : Int)).map V.int
  | [], _, h => by cases h; rfl
  | n :: ws, _, h => by
    cases h with
    | cons h t =>
      have h : _ = V.int (n : Int) := h
      rw [h, vals_ints t]
      rfl
theorem nats_ints {H : Hp} : ∀ (us : List Nat), Vr H ((us.map fun (n : Nat) => (n : Int)).map V.int) (us.map rN)
  | [] => .nil
  | n :: us => .cons rfl (nats_ints us)
/-- sorted(set(t)) -/
theorem we_sortSet (h : WE K te E fun k E1 => ∃ ws : List Nat, k = .im (rT K (ws.map rN)) ∧ ws.length < 60 ∧ ∀ us : List Nat, us.Pairwise (· < ·) → (∀ n, n ∈ us ↔ n ∈ ws) → Φ (.own (us.map rN)) E1) :
    WE K (tCB (rSortedSet w) (tCons (tCB (rSetTI K w) (tCons te tNil)) tNil)) E Φ := fun H0 O0 σ T H hl ok Q q =>
  h H0 O0 σ T H hl ok _ fun k E1 ⟨ws, e, hz, p⟩ l v H2 ok2 => by
    subst e
    obtain ⟨x, e, a, vs, h1, h2, h3⟩ := ok2.head
    cases e
    subst h1
    have ev := vals_ints h3
    subst ev
    refine ⟨a, ws.map fun (n : Nat) => (n : Int), rfl, SqT.of h2, by rw [List.length_map]; omega, fun b c hb hc => ?_⟩
    refine ⟨b, _, c, rfl, upd_same, by rw [List.length_map] at hc; omega, fun ns d ho hm hn hd => ?_⟩
    rw [List.length_map] at hc
    have hpos : ∀ k ∈ ns, ∃ n : Nat, k = (n : Int) := fun k hk => by
      have := of_decide_eq_true ((hm k).mp hk)
      obtain ⟨n, _, e⟩ := List.mem_map.mp this
      exact ⟨n, e.symm⟩
    have en : (ns.map Int.toNat).map (fun (n : Nat) => (n : Int)) = ns := by
      rw [List.map_map]
      conv => rhs; rw [← List.map_id ns]
      refine List.map_congr_left fun k hk => ?_
      obtain ⟨n, e⟩ := hpos k hk
      subst e
      rfl
    have eb : ∀ b' u, H2 b' = some u → upd (upd H2 b (SetO w b (fun j => decide (j ∈ ws.map fun (n : Nat) => (n : Int))) c)) d (.lst (ns.map V.int)) b' = some u := fun b' u z => by
      have hbd : d ≠ b := fun z => by rw [z, upd_same] at hd; cases hd
      have n1 : b' ≠ b := ne_of_none z hb
      have hd2 : H2 d = none := by rw [upd_ne hbd] at hd; exact hd
      rw [upd_ne (ne_of_none z hd2), upd_ne n1]
      exact z
    have ok3 : Ok K H0 O0 (upd H2 b (SetO w b (fun j => decide (j ∈ ws.map fun (n : Nat) => (n : Int))) c)) (T ++ σ.zip E1) := ok2.tail.ext fun b' u z => by rw [upd_ne (ne_of_none z hb)]; exact z
    have hv : Vr (upd H2 b (SetO w b (fun j => decide (j ∈ ws.map fun (n : Nat) => (n : Int))) c)) (ns.map V.int) ((ns.map Int.toNat).map rN) := by
      have := nats_ints (H := upd H2 b (SetO w b (fun j => decide (j ∈ ws.map fun (n : Nat) => (n : Int))) c)) (ns.map Int.toNat)
      rwa [en] at this
    refine q _ E1 (p (ns.map Int.toNat) ?_ fun n => ?_) l _ _ (ok3.newL hd hv)
    · rw [List.pairwise_map]
      refine ho.imp_of_mem fun {x y} hx hy hxy => ?_
      obtain ⟨m, rfl⟩ := hpos x hx
      obtain ⟨n, rfl⟩ := hpos y hy
      show m < n
      omega
    · constructor
      · intro h
        obtain ⟨k, hk, e⟩ := List.mem_map.mp h
        have := of_decide_eq_true ((hm k).mp hk)
        obtain ⟨m, hm2, e2⟩ := List.mem_map.mp this
        subst e2
        rw [← e]
        exact hm2
      · intro h
        refine List.mem_map.mpr ⟨(n : Int), (hm n).mpr (decide_eq_true (List.mem_map.mpr ⟨n, h, rfl⟩)), rfl⟩
theorem we_revLV {s : Nat} {rs : List Rp} (hi : E[s]? = some (.own rs)) (p : Φ (.own rs.reverse) E) : WE K (tRevL K (tVar s)) E Φ := fun H0 O0 σ T H hl ok Q q => by
  obtain ⟨o, h1, h2⟩ := zip_get hl hi
  have hm := List.mem_append_right T h2
  obtain ⟨a, us, e, g1, g2, g3⟩ := ok.sl _ hm
  have e : o = some (.ref a) := e
  subst e
  exact ⟨.ref a, h1, a, us, rfl, SqL.of g1, fun b hb => q _ _ p rfl _ _ (ok.newL hb g2.rev)⟩
/-- a new dict, no more than a dict from now on -/
theorem we_forgetD (h : WE K te E fun k E1 => ∃ m, k = .dic (dk m) ∧ Φ (.im rD) E1) : WE K te E Φ := fun H0 O0 σ T H hl ok Q q =>
  h H0 O0 σ T H hl ok _ fun k E1 ⟨m, e, p⟩ l v H2 ok2 => by
    subst e
    obtain ⟨a, us, e, h2, _, _⟩ := ok2.head
    cases e
    exact q _ E1 p l _ H2 (ok2.tail.im (R := rD) ⟨a, us, rfl, h2⟩)
end
end Fx
set_option Elab.async false
set_option linter.all false
set_option maxRecDepth 100000
set_option maxHeartbeats 2000000
/-! own codes and their neighbours -/
namespace Nb
open PySem Fx Wd Gf Du Cu
def evw (B : List Nat) (w : Nat) : List Nat := evenB B w ++ ((oddL B w).drop 1).map fun b => b ^^^ (oddL B w).headD 0
theorem beside_eq (B : List Nat) (w : Nat) : besideL B w = evw B w ++ [w] := rfl
theorem even_iff {a w : Nat} : pop (a &&& w) % 2 = 0 ↔ dot a w = false := by
  unfold dot
  rcases Nat.mod_two_eq_zero_or_one (pop (a &&& w)) with z | z <;> simp [z]
theorem odd_iff {a w : Nat} : pop (a &&& w) % 2 = 1 ↔ dot a w = true := by
  unfold dot
  simp
theorem mem_even {B : List Nat} {w b : Nat} : b ∈ evenB B w ↔ b ∈ B ∧ dot b w = false := by
  unfold evenB
  rw [List.mem_filter, decide_eq_true_eq, even_iff]
theorem mem_odd {B : List Nat} {w b : Nat} : b ∈ oddL B w ↔ b ∈ B ∧ dot b w = true := by
  unfold oddL
  rw [List.mem_filter, decide_eq_true_eq, odd_iff]
theorem evw_sp {B : List Nat} {w x : Nat} : Sp (evw B w) x ↔ Sp B x ∧ dot x w = false := by
  have oddm : ∀ o l, oddL B w = o :: l → o ∈ B ∧ dot o w = true := fun o l e => mem_odd.mp (by rw [e]; exact List.mem_cons_self)
  constructor
  · intro h
    induction h with
    | zero => exact ⟨.zero, zero_dot w⟩
    | @add y v _ hv ih =>
      have hv2 : Sp B v ∧ dot v w = false := by
        rcases List.mem_append.mp hv with z | z
        · obtain ⟨a, b⟩ := mem_even.mp z
          exact ⟨.mem a, b⟩
        · obtain ⟨b, hb, e⟩ := List.mem_map.mp z
          cases hq : oddL B w with
          | nil => rw [hq] at hb; cases hb
          | cons o l =>
            obtain ⟨o1, o2⟩ := oddm o l hq
            obtain ⟨b1, b2⟩ := mem_odd.mp (List.mem_of_mem_drop hb)
            rw [hq] at e
            have e : b ^^^ o = v := e
            rw [← e]
            exact ⟨(Sp.mem b1).xor (.mem o1), by rw [xor_dot, b2, o2]; rfl⟩
      exact ⟨ih.1.xor hv2.1, by rw [xor_dot, ih.2, hv2.2]; rfl⟩
  · rintro ⟨h, hp⟩
    have key : (dot x w = false → Sp (evw B w) x) ∧ (dot x w = true → Sp (evw B w) (x ^^^ (oddL B w).headD 0)) := by
      clear hp
      induction h with
      | zero => exact ⟨fun _ => .zero, fun z => by rw [zero_dot] at z; cases z⟩
      | @add y v _ hv ih =>
        rw [xor_dot]
        cases q : dot v w with
        | true =>
          have hwo : v ∈ oddL B w := mem_odd.mpr ⟨hv, q⟩
          have hs : Sp (evw B w) (v ^^^ (oddL B w).headD 0) := by
            cases hq : oddL B w with
            | nil => rw [hq] at hwo; cases hwo
            | cons o l =>
              rw [hq] at hwo
              show Sp (evw B w) (v ^^^ o)
              rcases List.mem_cons.mp hwo with e | e
              · rw [e, Nat.xor_self]
                exact .zero
              · refine .mem (List.mem_append_right _ (List.mem_map.mpr ⟨v, ?_, ?_⟩))
                · rw [hq]
                  exact e
                · rw [hq]
                  rfl
          constructor
          · intro z
            have z : dot y w = true := by revert z; cases dot y w <;> decide
            have h1 := (ih.2 z).xor hs
            have e : (y ^^^ (oddL B w).headD 0) ^^^ (v ^^^ (oddL B w).headD 0) = y ^^^ v := by
              rw [← Nat.xor_assoc, xor_swap y, Nat.xor_assoc (y ^^^ v), Nat.xor_self, Nat.xor_zero]
            rwa [e] at h1
          · intro z
            have z : dot y w = false := by revert z; cases dot y w <;> decide
            have h1 := (ih.1 z).xor hs
            rwa [← Nat.xor_assoc] at h1
        | false =>
          have hwe : Sp (evw B w) v := .mem (List.mem_append_left _ (mem_even.mpr ⟨hv, q⟩))
          rw [Bool.xor_false]
          constructor
          · intro z
            exact (ih.1 z).xor hwe
          · intro z
            rw [xor_swap]
            exact (ih.2 z).xor hwe
    exact key.1 hp
theorem sp_snoc {A : List Nat} {w x : Nat} : Sp (A ++ [w]) x ↔ Sp A x ∨ Sp A (x ^^^ w) := by
  constructor
  · intro h
    induction h with
    | zero => exact .inl .zero
    | @add y v _ hv ih =>
      rcases List.mem_append.mp hv with z | z
      · rcases ih with ih | ih
        · exact .inl (.add ih z)
        · refine .inr ?_
          rw [xor_swap]
          exact .add ih z
      · rw [List.mem_singleton.mp z]
        rcases ih with ih | ih
        · refine .inr ?_
          rwa [xor_cancel]
        · exact .inl ih
  · rintro (h | h)
    · exact Sp.left h
    · have := (Sp.left (B := [w]) h).xor (Sp.right (A := A) (Sp.mem (List.mem_singleton.mpr rfl)))
      rwa [xor_cancel] at this
theorem beside_sp {B : List Nat} {w x : Nat} (hw : dot w w = false) : Sp (besideL B w) x ↔ dot x w = false ∧ (Sp B x ∨ Sp B (x ^^^ w)) := by
  rw [beside_eq, sp_snoc, evw_sp, evw_sp, xor_dot, hw, Bool.xor_false]
  constructor
  · rintro (⟨a, b⟩ | ⟨a, b⟩)
    · exact ⟨b, .inl a⟩
    · exact ⟨b, .inr a⟩
  · rintro ⟨b, a | a⟩
    · exact .inl ⟨a, b⟩
    · exact .inr ⟨a, b⟩
/-- own -/
structure Own (n : Nat) (B : List Nat) : Prop where
  ok : CodeOk n B
  eq : checksOf n B = B
theorem Own.sp {n : Nat} {B : List Nat} (h : Own n B) {x : Nat} : Sp B x ↔ Dl n B x := by
  have := checksOf_dual h.ok.bas.rr h.ok.bas.lt x
  rwa [h.eq] at this
theorem Own.of {n : Nat} {B : List Nat} (h : CodeOk n B) (s : ∀ x, Sp B x ↔ Dl n B x) : Own n B :=
  ⟨h, (basis_uniq h.bas.rr h.o fun x => (s x).trans (checks_dual h.bas.rr h.bas.lt x).symm).symm⟩
theorem Own.own {n : Nat} {B : List Nat} (h : Own n B) : Ju.own n B = true := decide_eq_true h.eq
theorem Own.two {n : Nat} {B : List Nat} (h : Own n B) : 2 * B.length = n := by
  have := checks_dim h.ok.bas.rr h.ok.bas.lt
  rw [h.eq] at this
  omega
theorem Own.dot {n : Nat} {B : List Nat} (h : Own n B) {x y : Nat} (hx : Sp B x) (hy : Sp B y) : dot x y = false := (h.sp.mp hx).sp hy
theorem Own.lt {n : Nat} {B : List Nat} (h : Own n B) {x : Nat} (hx : Sp B x) : x < 2 ^ n := Sp.lt h.ok.bas.lt hx
def nb (B : List Nat) (w : Nat) : List Nat := basisOf (besideL B w)
theorem nb_sp {B : List Nat} {w x : Nat} (hw : dot w w = false) : Sp (nb B w) x ↔ dot x w = false ∧ (Sp B x ∨ Sp B (x ^^^ w)) := (basisOf_same _ x).trans (beside_sp hw)
theorem nb_own {n : Nat} {B : List Nat} {w : Nat} (h : Own n B) (hl : w < 2 ^ n) (hw : Du.dot w w = false) : Own n (nb B w) := by
  refine .of (.of h.ok.n1 h.ok.n24 (beside_lt h.ok.bas.lt hl)) fun x => ?_
  have hsw : ∀ y, Sp (nb B w) y ↔ _ := fun y => nb_sp hw
  constructor
  · intro hx
    refine ⟨?_, fun y hy => ?_⟩
    · rcases ((hsw x).mp hx).2 with z | z
      · exact h.lt z
      · have := Nat.xor_lt_two_pow (h.lt z) hl
        rwa [xor_cancel] at this
    · obtain ⟨x1, x2⟩ := (hsw x).mp hx
      obtain ⟨y1, y2⟩ := (hsw y).mp (.mem hy)
      rcases x2 with x2 | x2 <;> rcases y2 with y2 | y2
      · exact h.dot x2 y2
      · have := h.dot x2 y2
        rwa [dot_xor, x1, Bool.xor_false] at this
      · have := h.dot x2 y2
        rw [xor_dot, dot_comm w y, y1, Bool.xor_false] at this
        exact this
      · have := h.dot x2 y2
        rw [xor_dot, dot_xor, dot_xor, x1, dot_comm w y, y1, hw] at this
        simpa using this
  · intro hx
    have hB2 : ∀ a ∈ B ++ [w], a < 2 ^ n := fun a ha => by
      rcases List.mem_append.mp ha with z | z
      · exact h.ok.bas.lt a z
      · rw [List.mem_singleton.mp z]; exact hl
    have hwx : Du.dot x w = false := hx.sp ((hsw w).mpr ⟨hw, .inr (by rw [Nat.xor_self]; exact .zero)⟩)
    have h1 : Sp (basisOf (B ++ [w])) x := by
      refine dual_dual (n := n) (basisOf_rr _) (fun r hr => basisOf_lt hB2 hr) hx.1 fun y hy => ?_
      have hy2 : Dl n (B ++ [w]) y := (Dl.same (basisOf_same _)).mp hy
      refine hx.sp ((hsw y).mpr ⟨hy2.2 w (List.mem_append_right _ (List.mem_singleton.mpr rfl)), .inl (h.sp.mpr ⟨hy2.1, fun b hb => hy2.2 b (List.mem_append_left _ hb)⟩)⟩)
    exact (hsw x).mpr ⟨hwx, sp_snoc.mp ((basisOf_same _ x).mp h1)⟩
/-- words outside -/
structure Out (n : Nat) (B : List Nat) (w : Nat) : Prop where
  lt : w < 2 ^ n
  ev : Du.dot w w = false
  ns : ¬ Sp B w
theorem dot_self (w : Nat) : Du.dot w w = decide (pop w % 2 = 1) := by unfold Du.dot; rw [Nat.and_self]
theorem snoc_rest {B : List Nat} (w : Nat) (h : RR B) : (basisOf (B ++ [w])).length = B.length + (basisOf [rem B w]).length := rest_dim h [w]
theorem snoc_in {B : List Nat} {w : Nat} (h : RR B) (hs : Sp B w) : (basisOf (B ++ [w])).length = B.length := by
  rw [snoc_rest w h, (rem_zero_iff h).mpr hs]
  have : basisOf [0] = [] := by rw [Sn.basC_eq]; decide +kernel
  rw [this]
  rfl
theorem snoc_out {B : List Nat} {w : Nat} (h : RR B) (hs : ¬ Sp B w) : (basisOf (B ++ [w])).length = B.length + 1 := by
  rw [snoc_rest w h]
  have h0 : rem B w ≠ 0 := fun z => hs ((rem_zero_iff h).mp z)
  have h3 := basis_ne (ws := [rem B w]) (List.mem_singleton.mpr rfl) h0
  have h4 := basisOf_len [rem B w]
  have h5 := List.length_pos_iff.mpr h3
  have h6 : [rem B w].length = 1 := rfl
  omega
theorem more_iff {B : List Nat} {w : Nat} (h : RR B) : B.length < (basisOf (B ++ [w])).length ↔ ¬ Sp B w :=
  ⟨fun z hs => by rw [snoc_in h hs] at z; omega, fun hs => by rw [snoc_out h hs]; omega⟩
theorem same_iff {B : List Nat} {w : Nat} (h : RR B) : (basisOf (B ++ [w])).length = B.length ↔ Sp B w :=
  ⟨fun z => Classical.byContradiction fun hs => by rw [snoc_out h hs] at z; omega, snoc_in h⟩
/-- the distance of a neighbour -/
theorem nb_far {n : Nat} {B : List Nat} {w : Nat} (h : Own n B) (g : Out n B w) : (basisOf (B ++ nb B w)).length = B.length + 1 := by
  have e : basisOf (B ++ nb B w) = basisOf (B ++ [w]) := by
    refine basisOf_congr (.of (fun a ha => ?_) fun a ha => ?_)
    · rcases List.mem_append.mp ha with z | z
      · exact Sp.left (.mem z)
      · exact sp_snoc.mpr ((nb_sp g.ev).mp (.mem z)).2
    · rcases List.mem_append.mp ha with z | z
      · exact Sp.left (.mem z)
      · rw [List.mem_singleton.mp z]
        exact Sp.right ((nb_sp g.ev).mpr ⟨g.ev, .inr (by rw [Nat.xor_self]; exact .zero)⟩)
  rw [e, snoc_out h.ok.bas.rr g.ns]
theorem nb_mem {B : List Nat} {w : Nat} (hw : Du.dot w w = false) : Sp (nb B w) w := (nb_sp hw).mpr ⟨hw, .inr (by rw [Nat.xor_self]; exact .zero)⟩
theorem nb_ne {n : Nat} {B : List Nat} {w : Nat} (g : Out n B w) : nb B w ≠ B := fun e => g.ns (by have := nb_mem (B := B) g.ev; rwa [e] at this)
/-- by another word of the same coset -/
theorem Out.add {n : Nat} {B : List Nat} {w o : Nat} (h : Own n B) (g : Out n B w) (ho : Sp B o) : Out n B (w ^^^ o) :=
  ⟨Nat.xor_lt_two_pow g.lt (h.lt ho), by rw [xor_dot, dot_xor, dot_xor, g.ev, h.dot ho ho, dot_comm o w]; cases Du.dot w o <;> rfl,
    fun z => g.ns (by have := z.xor ho; rwa [xor_cancel] at this)⟩
theorem nb_add {n : Nat} {B : List Nat} {w o : Nat} (h : Own n B) (g : Out n B w) (ho : Sp B o) : nb B (w ^^^ o) = nb B w ↔ Du.dot o w = false := by
  have g2 := g.add h ho
  constructor
  · intro e
    have h1 : Sp (nb B (w ^^^ o)) (w ^^^ o) := nb_mem g2.ev
    rw [e] at h1
    have h2 := ((nb_sp g.ev).mp h1).1
    rwa [xor_dot, g.ev, Bool.false_xor] at h2
  · intro e
    refine basisOf_congr fun x => ?_
    rw [beside_sp g2.ev, beside_sp g.ev, dot_xor]
    have k : Sp B (x ^^^ (w ^^^ o)) ↔ Sp B (x ^^^ w) := by
      rw [← Nat.xor_assoc]
      exact ⟨fun z => by have := z.xor ho; rwa [xor_cancel] at this, fun z => z.xor ho⟩
    rw [k]
    constructor
    · rintro ⟨a, b | b⟩
      · rw [h.dot b ho, Bool.xor_false] at a
        exact ⟨a, .inl b⟩
      · have hb := h.dot b ho
        rw [xor_dot, dot_comm w o, e, Bool.xor_false] at hb
        rw [hb, Bool.xor_false] at a
        exact ⟨a, .inr b⟩
    · rintro ⟨a, b | b⟩
      · exact ⟨by rw [a, h.dot b ho]; rfl, .inl b⟩
      · have hb := h.dot b ho
        rw [xor_dot, dot_comm w o, e, Bool.xor_false] at hb
        exact ⟨by rw [a, hb]; rfl, .inr b⟩
theorem nb_far2 {n : Nat} {B : List Nat} {w o : Nat} (h : Own n B) (g : Out n B w) (ho : Sp B o) : (basisOf (nb B w ++ nb B (w ^^^ o))).length = (nb B w).length + (if Du.dot o w = true then 1 else 0) := by
  have hN := nb_own h g.lt g.ev
  cases e : Du.dot o w with
  | false =>
    rw [(nb_add h g ho).mpr e, if_neg Bool.false_ne_true]
    have : basisOf (nb B w ++ nb B w) = nb B w := by
      have s : Same (nb B w ++ nb B w) (nb B w) := .of (fun a ha => by rcases List.mem_append.mp ha with z | z <;> exact .mem z) fun a ha => Sp.left (.mem ha)
      rw [basisOf_congr s]
      exact hN.ok.self
    rw [this]
    rfl
  | true =>
    have g2 := g.add h ho
    have hns : ¬ Sp (nb B w) (w ^^^ o) := fun z => by
      have := ((nb_sp g.ev).mp z).1
      rw [xor_dot, g.ev, e] at this
      cases this
    have s : basisOf (nb B w ++ nb B (w ^^^ o)) = basisOf (nb B w ++ [w ^^^ o]) := by
      refine basisOf_congr (.of (fun a ha => ?_) fun a ha => ?_)
      · rcases List.mem_append.mp ha with z | z
        · exact Sp.left (.mem z)
        · obtain ⟨a1, a2⟩ := (nb_sp g2.ev).mp (.mem z)
          rw [sp_snoc, nb_sp g.ev, nb_sp g.ev]
          rw [dot_xor] at a1
          rcases a2 with a2 | a2
          · rw [h.dot a2 ho, Bool.xor_false] at a1
            exact .inl ⟨a1, .inl a2⟩
          · -- a is b + w + o
            have hb := h.dot a2 ho
            rw [xor_dot, xor_dot, h.dot ho ho, dot_comm w o, e, Bool.xor_false] at hb
            have hao : Du.dot a o = true := by revert hb; cases Du.dot a o <;> decide
            rw [hao] at a1
            have haw : Du.dot a w = true := by revert a1; cases Du.dot a w <;> decide
            refine .inr ⟨?_, .inl a2⟩
            rw [xor_dot, haw, xor_dot, g.ev, e]
            rfl
      · rcases List.mem_append.mp ha with z | z
        · exact Sp.left (.mem z)
        · rw [List.mem_singleton.mp z]
          exact Sp.right (nb_mem g2.ev)
    rw [s, snoc_out hN.ok.bas.rr hns, if_pos rfl]
end Nb
set_option Elab.async false
set_option linter.all false
set_option maxRecDepth 100000
set_option maxHeartbeats 2000000
/-! own codes: places exchanged, plain ones, a word outside; a slice of a tuple -/
namespace Nb
open PySem Fx Wd Gf Du Cu Pa
theorem two_add : ∀ (p x : Nat), x.testBit p = false → 2 ^ p ^^^ x = 2 ^ p + x
  | 0, x, h => by
    have h0 : x % 2 = 0 := by
      have z : ¬ x / 2 ^ 0 % 2 = 1 := fun z => by rw [(bit_eq x 0).mp z] at h; cases h
      rw [Nat.pow_zero, Nat.div_one] at z
      omega
    have e1 : (2 ^ 0 ^^^ x) / 2 = 2 ^ 0 / 2 ^^^ x / 2 := by
      have := Nat.shiftRight_xor_distrib (a := 2 ^ 0) (b := x) (i := 1)
      simpa [Nat.shiftRight_eq_div_pow] using this
    have e2 : (2 ^ 0 ^^^ x) % 2 = 1 := by
      have := Nat.xor_mod_two_pow (a := 2 ^ 0) (b := x) (n := 1)
      simp only [Nat.pow_one] at this
      rw [this, h0]
      rfl
    have e3 : (2 : Nat) ^ 0 / 2 ^^^ x / 2 = x / 2 := by simp
    have e4 : (2 : Nat) ^ 0 = 1 := rfl
    rw [e3] at e1
    omega
  | p + 1, x, h => by
    have e1 : (2 ^ (p + 1) ^^^ x) / 2 = 2 ^ p ^^^ x / 2 := by
      have := Nat.shiftRight_xor_distrib (a := 2 ^ (p + 1)) (b := x) (i := 1)
      have e : (2 : Nat) ^ (p + 1) / 2 = 2 ^ p := by rw [Nat.pow_succ]; omega
      simpa [Nat.shiftRight_eq_div_pow, e] using this
    have e2 : (2 ^ (p + 1) ^^^ x) % 2 = x % 2 := by
      have := Nat.xor_mod_two_pow (a := 2 ^ (p + 1)) (b := x) (n := 1)
      simp only [Nat.pow_one] at this
      have e : (2 : Nat) ^ (p + 1) % 2 = 0 := by rw [Nat.pow_succ]; omega
      rw [this, e, Nat.zero_xor]
    have e3 := two_add p (x / 2) (by rw [Nat.testBit_div_two]; exact h)
    rw [e3] at e1
    have e4 : (2 : Nat) ^ (p + 1) = 2 ^ p * 2 := Nat.pow_succ ..
    omega
theorem wordAt_cons (p : Nat) (ps : List Nat) : wordAt (p :: ps) = 2 ^ p ^^^ wordAt ps := by
  unfold wordAt xsum
  rw [List.map_cons, List.foldl_cons, Nat.zero_xor, List.foldl_map, xfold, List.foldl_map]
theorem sum_nodup : ∀ ps : List Nat, ps.Nodup → (ps.map fun p => 2 ^ p).sum = wordAt ps
  | [], _ => rfl
  | p :: ps, h => by
    have nd := List.nodup_cons.mp h
    rw [List.map_cons, List.sum_cons, sum_nodup ps nd.2, wordAt_cons, two_add]
    rw [wordAt_bit ps nd.2]
    exact decide_eq_false nd.1
/-! places exchanged -/
def mv (L : List Nat) (x : Nat) : Nat := sel (L.map fun p => 2 ^ p) x L.length
theorem mv_zero (L : List Nat) : mv L 0 = 0 := sel_zero _ _
theorem mv_xor (L : List Nat) (x y : Nat) : mv L (x ^^^ y) = mv L x ^^^ mv L y := sel_xor _ x y _
structure Prm (n : Nat) (L : List Nat) : Prop where
  perm : L.Perm (List.range n)
section
variable {n : Nat} {L B : List Nat}
theorem Prm.len (h : Prm n L) : L.length = n := by rw [h.perm.length_eq, List.length_range]
theorem Prm.nd (h : Prm n L) : L.Nodup := h.perm.nodup_iff.mpr List.nodup_range
theorem Prm.lt (h : Prm n L) : ∀ p ∈ L, p < n := fun p hp => List.mem_range.mp (h.perm.mem_iff.mp hp)
theorem prm_inj (hL : L.Nodup) {i j : Nat} (hi : i < L.length) (hj : j < L.length) (e : L.getD i 0 = L.getD j 0) : i = j := by
  rw [List.getD_eq_getElem?_getD, List.getElem?_eq_getElem hi, List.getD_eq_getElem?_getD, List.getElem?_eq_getElem hj] at e
  have ho := List.pairwise_iff_getElem.mp hL
  rcases Nat.lt_trichotomy i j with z | z | z
  · exact absurd e (ho i j hi hj z)
  · exact z
  · exact absurd e.symm (ho j i hj hi z)
theorem mv_word (h : Prm n L) {x : Nat} (hx : x < 2 ^ n) : mv L x = wordAt ((placesOf x).map fun i => L.getD i 0) := by
  unfold mv
  have hx2 : x < 2 ^ (L.map fun p => 2 ^ p).length := by rw [List.length_map, h.len]; exact hx
  have e := sel_places (ws := L.map fun p => 2 ^ p) hx2
  rw [List.length_map] at e
  rw [← e]
  unfold wordAt
  rw [List.map_map]
  refine congrArg xsum (List.map_congr_left fun i hi => ?_)
  have hi2 : i < L.length := by rw [h.len]; exact places_lt hx hi
  show (L.map fun p => 2 ^ p).getD i 0 = 2 ^ L.getD i 0
  rw [List.getD_eq_getElem?_getD, List.getD_eq_getElem?_getD, List.getElem?_map, List.getElem?_eq_getElem hi2]
  rfl
theorem mv_nd (h : Prm n L) {x : Nat} (hx : x < 2 ^ n) : ((placesOf x).map fun i => L.getD i 0).Nodup :=
  nodup_map (places_asc x |>.imp Nat.ne_of_lt) fun a ha b hb e => prm_inj h.nd (by rw [h.len]; exact places_lt hx ha) (by rw [h.len]; exact places_lt hx hb) e
theorem mv_bit (h : Prm n L) {x : Nat} (hx : x < 2 ^ n) {i : Nat} (hi : i < n) : (mv L x).testBit (L.getD i 0) = x.testBit i := by
  rw [mv_word h hx, wordAt_bit _ (mv_nd h hx)]
  cases hb : x.testBit i with
  | true => exact decide_eq_true (List.mem_map.mpr ⟨i, mem_places.mpr hb, rfl⟩)
  | false =>
    refine decide_eq_false fun z => ?_
    obtain ⟨j, hj, e⟩ := List.mem_map.mp z
    have := prm_inj h.nd (by rw [h.len]; exact places_lt hx hj) (by rw [h.len]; exact hi) e
    subst this
    rw [mem_places.mp hj] at hb
    cases hb
theorem mv_lt (h : Prm n L) {x : Nat} (hx : x < 2 ^ n) : mv L x < 2 ^ n := lt_of_bits fun i hi => by
  rw [mv_word h hx, wordAt_bit _ (mv_nd h hx)]
  refine decide_eq_false fun z => ?_
  obtain ⟨j, hj, e⟩ := List.mem_map.mp z
  have := h.lt _ (get_mem (L := L) (i := j) (by rw [h.len]; exact places_lt hx hj))
  omega
theorem mv_dot (h : Prm n L) {x y : Nat} (hx : x < 2 ^ n) (hy : y < 2 ^ n) : Du.dot (mv L x) (mv L y) = Du.dot x y := by
  conv => lhs; rw [mv_word h hx]
  rw [dot_word, dot_fold]
  rw [fold_same (g := fun i => y.testBit i) _ _ fun i hi => mv_bit h hy (places_lt hx hi)]
  rw [← dot_word, wordAt_places]
theorem prm_get (h : Prm n L) {j : Nat} (hj : j < n) : ∃ i, i < n ∧ L.getD i 0 = j := by
  have hm : j ∈ L := h.perm.mem_iff.mpr (List.mem_range.mpr hj)
  obtain ⟨i, hi, e⟩ := mem_get hm
  exact ⟨i, by rw [← h.len]; exact hi, e⟩
theorem mv_sur (h : Prm n L) {y : Nat} (hy : y < 2 ^ n) : ∃ x, x < 2 ^ n ∧ mv L x = y := by
  have hx : cutW L y < 2 ^ n := by
    have := cut_lt L y
    rwa [h.len] at this
  refine ⟨cutW L y, hx, Nat.eq_of_testBit_eq fun j => ?_⟩
  by_cases hj : j < n
  · obtain ⟨i, hi, e⟩ := prm_get h hj
    rw [← e, mv_bit h hx hi, cut_bit, h.len, decide_eq_true hi, Bool.true_and]
  · have h1 := mv_lt h hx
    rw [Nat.testBit_lt_two_pow (Nat.lt_of_lt_of_le h1 (Nat.pow_le_pow_right (by decide) (by omega))), Nat.testBit_lt_two_pow (Nat.lt_of_lt_of_le hy (Nat.pow_le_pow_right (by decide) (by omega)))]
theorem mv_own (h : Own n B) (hL : Prm n L) : Own n (basisOf (B.map (mv L))) := by
  have hlt : ∀ a ∈ B.map (mv L), a < 2 ^ n := fun a ha => by
    obtain ⟨b, hb, e⟩ := List.mem_map.mp ha
    rw [← e]
    exact mv_lt hL (h.ok.bas.lt b hb)
  refine .of (.of h.ok.n1 h.ok.n24 hlt) fun y => ?_
  have hs : Sp (basisOf (B.map (mv L))) y ↔ ∃ x, Sp B x ∧ mv L x = y := (basisOf_same _ y).trans (sp_map (mv_zero L) (mv_xor L))
  have hd : Dl n (basisOf (B.map (mv L))) y ↔ Dl n (B.map (mv L)) y := Dl.same (basisOf_same _)
  rw [hs, hd]
  constructor
  · rintro ⟨x, hx, rfl⟩
    refine ⟨mv_lt hL (h.lt hx), fun a ha => ?_⟩
    obtain ⟨b, hb, e⟩ := List.mem_map.mp ha
    rw [← e, mv_dot hL (h.lt hx) (h.ok.bas.lt b hb)]
    exact h.dot hx (.mem hb)
  · rintro ⟨hy, ha⟩
    obtain ⟨x, hx, e⟩ := mv_sur hL hy
    refine ⟨x, h.sp.mpr ⟨hx, fun b hb => ?_⟩, e⟩
    have := ha (mv L b) (List.mem_map.mpr ⟨b, hb, rfl⟩)
    rwa [← e, mv_dot hL hx (h.ok.bas.lt b hb)] at this
end
/-! plain ones -/
theorem plain_all : (evens.all fun n => decide (Sn.basC (checkL n (startL n)) = startL n)) = true := by decide +kernel
theorem plain_own {n : Nat} (h : n ∈ evens) : Own n (startL n) := by
  refine ⟨start_ok h, ?_⟩
  have h1 := List.all_eq_true.mp plain_all n h
  unfold checksOf
  rw [Sn.basC_eq]
  exact of_decide_eq_true h1
theorem ev_dot (w : Nat) : Du.dot (w ^^^ pop w % 2) (w ^^^ pop w % 2) = false := by
  rw [dot_self]
  refine decide_eq_false ?_
  rw [pop_xor_par]
  rcases Nat.mod_two_eq_zero_or_one (pop w) with z | z
  · rw [z, pop_zero]; omega
  · rw [z]
    have : pop 1 = 1 := by decide +kernel
    omega
theorem pair_dot {p : Nat} (h : 1 ≤ p) : Du.dot (1 ^^^ 2 ^ p) (1 ^^^ 2 ^ p) = false := by
  rw [dot_self]
  refine decide_eq_false ?_
  rw [pop_xor_par, pop_two]
  have : pop 1 = 1 := by decide +kernel
  omega
theorem pair_lt {n p : Nat} (h : p < n) : 1 ^^^ 2 ^ p < 2 ^ n := Nat.xor_lt_two_pow (Nat.one_lt_two_pow (by omega)) (Nat.pow_lt_pow_right (by decide) h)
theorem two_out {n : Nat} {B : List Nat} (h : Own n B) : ¬ Sp B (1 ^^^ 2 ^ 1) ∨ ¬ Sp B (1 ^^^ 2 ^ 2) := by
  by_cases z : Sp B (1 ^^^ 2 ^ 1)
  · refine .inr fun y => ?_
    have := h.dot z y
    have e : Du.dot (1 ^^^ 2 ^ 1) (1 ^^^ 2 ^ 2) = true := by decide +kernel
    rw [e] at this
    cases this
  · exact .inl z
/-! own by a look at pairs -/
theorem sub_eq {B C : List Nat} (hB : RR B) (oB : B.Pairwise (· ≥ ·)) (hC : RR C) (oC : C.Pairwise (· ≥ ·)) (s : ∀ b ∈ B, Sp C b) (l : C.length ≤ B.length) : B = C := by
  have e1 : Same (B ++ C) C := .of (fun a ha => by rcases List.mem_append.mp ha with z | z; exact s a z; exact .mem z) fun a ha => Sp.right (.mem ha)
  have h1 := rest_dim hB C
  rw [dim_congr e1, dim_rr hC] at h1
  have h2 : restL B C = [] := List.length_eq_zero_iff.mp (by omega)
  have h3 : ∀ c ∈ C, Sp B c := fun c hc => by
    rw [← rem_zero_iff hB]
    refine Classical.byContradiction fun z => ?_
    exact basis_ne (ws := C.map (rem B)) (List.mem_map.mpr ⟨c, hc, rfl⟩) z h2
  have e2 : B = basisOf C := basis_uniq hB oB (.of s h3)
  have e3 : C = basisOf C := basis_uniq hC oC (.refl C)
  rw [e2, ← e3]
theorem own_pairs {n : Nat} {B : List Nat} (h : CodeOk n B) : checksOf n B = B ↔ 2 * B.length = n ∧ ∀ a ∈ B, ∀ b ∈ B, Du.dot a b = false := by
  constructor
  · intro e
    have o : Own n B := ⟨h, e⟩
    exact ⟨o.two, fun a ha b hb => o.dot (.mem ha) (.mem hb)⟩
  · rintro ⟨h1, h2⟩
    have hd := checks_dim h.bas.rr h.bas.lt
    refine (sub_eq h.bas.rr h.o (basisOf_rr _) (basis_ord _) (fun b hb => ?_) (by show (checksOf n B).length ≤ B.length; omega)).symm
    exact (checksOf_dual h.bas.rr h.bas.lt b).mpr ⟨h.bas.lt b hb, fun a ha => h2 b hb a ha⟩
end Nb
namespace Fx
open PySem L2 PyProof.Rows
section
variable {K : PySem.W.Frag} {E : List Sl} {te tb : TE} {Φ : Sl → List Sl → Prop}
theorem isN_int {n : Int} : ∀ v H, (rI n).r v H → decide (v = V.non) = false := fun v H h => by
  have h : v = V.int n := h
  subst h
  simp
theorem we_slTe (ht : WE K te E fun k E1 => ∃ rs, k = .im (rT K rs) ∧ WE K tb E1 fun k2 E2 => ∃ n : Nat, k2 = .im (rN n) ∧ Φ (.im (rT K (rs.take n))) E2) : WE K (tSl (rSlA K) te tNoPart (tPart tb)) E Φ := fun H0 O0 σ T H hl ok Q q =>
  ht H0 O0 σ T H hl ok _ fun k E1 ⟨rs, e, hb⟩ l v H2 ok2 => by
    subst e
    refine hb H0 O0 σ ((some v, .im (rT K rs)) :: T) H2 (by omega) ok2 _ fun k2 E2 ⟨n, e2, p⟩ l2 u H3 ok3 => ?_
    subst e2
    obtain ⟨u2, e3, h0⟩ := ok3.head
    have e3 : some u = some u2 := e3
    have e4 : u = u2 := Option.some.inj e3
    rw [← e4] at h0
    have h0 : u = V.int (n : Int) := h0
    subst h0
    obtain ⟨w, e, a, us, h1, h2, h3⟩ := ok3.tail.head
    cases e
    subst h1
    refine ⟨(n : Int), rfl, a, us, rfl, SqT.of h2, fun hw => ?_, fun hw b hb => ?_⟩
    · have e1 : HT.sIx us.length us.length (some (n : Int)) = min n us.length := HT.sIx_nat _ _ n
      have hw := hw.2
      rw [e1] at hw
      have hz : us.length ≤ n := by omega
      have e2 : rs.take n = rs := List.take_of_length_le (by rw [← h3.len]; exact hz)
      rw [e2] at p
      exact q _ _ p (by omega) _ H3 (ok3.tail.tail.im ⟨a, us, rfl, h2, h3⟩)
    · rw [cut_take]
      exact q _ _ p (by omega) _ _ (ok_tup ok3.tail.tail hb (h3.take n))
end
end Fx
set_option Elab.async false
set_option linter.all false
set_option maxRecDepth 100000
set_option maxHeartbeats 2000000
/-! lists of one's own: by name as a value, gone through; tests against [] -/
namespace Fx
open PySem L2 PyProof.Rows
section
variable {K : PySem.W.Frag} {E : List Sl} {te tb : TE} {Φ : Sl → List Sl → Prop} {ts : TS} {nx : List Sl → Prop} {rt : Sl → List Sl → Prop} {bk ct : List Sl → Prop} {i j s : Nat} {rs : List Rp}
/-- its name as a value: the name tells nothing from then on -/
theorem we_own (hi : E[i]? = some (.own rs)) (p : Φ (.own rs) (E.set i .no)) : WE K (tVar i) E Φ := fun H0 O0 σ T H hl ok Q q => by
  obtain ⟨o, L, ho, ok2, back⟩ := ok.at' hl hi
  obtain ⟨a, vs, e, h2, h3, _⟩ := ok2.head
  have e : o = some (.ref a) := e
  subst e
  exact ⟨.ref a, ho, q _ _ p (by simp) _ _ (back ((some (.ref a), .own rs) :: T) .no H ok2.nil1)⟩
/-- for x in xs, xs a list of one's own: within, its name tells nothing -/
theorem ws_forV (hs : E[s]? = some (.own rs)) (h : ∀ A : Sl, ∃ I : Nat → List Sl → Prop, I 0 (E.set s A) ∧ (∀ m R E', rs[m]? = some R → I m E' → WS K ts (E'.set j (.im R)) (I (m + 1)) rt (fun _ => False) (I (m + 1))) ∧
      (∀ m E', I m E' → E'[s]? = some A) ∧ ∀ E', I rs.length E' → nx (E'.set s (.own rs))) :
    WS K (tFor (iList K (tVar s)) (gName j) ts) E nx rt bk ct := fun H0 O0 σ T H D hl ok n r b c => by
  obtain ⟨o, L, ho, ok1, back⟩ := ok.at' hl hs
  obtain ⟨a, vs, e, h2, h3, _⟩ := ok1.head
  have e : o = some (.ref a) := e
  subst e
  obtain ⟨I, h0, hb, hk, hd⟩ := h (.al (.ref a))
  have q : Ok K H0 O0 H ((some (.ref a), .al (.ref a)) :: (((some (.ref a), .own rs) :: T) ++ L)) := ok1.al
  have ok2 := back ((some (.ref a), .own rs) :: T) _ _ q
  refine ⟨.ref a, ho, a, rfl, ⟨vs, SqL.of h2⟩, ?_⟩
  refine for_core walks_own (by simp [hl]) ok2 h0 (fun E' p σ' H3 ls o => ?_) (fun E' p => p.elim) (fun k E' p σ' v H3 ls o => r k E' p σ' v H3 ls (o.sub drop2)) hb
  have hE := hk _ E' p
  obtain ⟨o', ho', hm⟩ := zip_get ls hE
  have ha : o' = some (.ref a) := o.sl _ (List.mem_cons_of_mem _ (List.mem_append_right _ hm))
  rw [ha] at ho'
  have q := Ok.store (T := T) (v := some (.ref a)) (k := .own rs) s ls o
  have e : σ'.set s (some (.ref a)) = σ' := by
    have hi := (List.getElem?_eq_some_iff.mp ho').1
    have e2 := (List.getElem?_eq_some_iff.mp ho').2
    have := List.set_getElem_self (as := σ') hi
    rw [e2] at this
    exact this
  rw [e] at q
  exact n _ (hd E' p) σ' H3 (by simpa using ls) q
theorem opc_neNilM {α : Type} {l : List α} {f : α → Nat} : OPC K (rNeD K) (.lst (l.map fun x => rN (f x))) (.lst []) (.im (rB (decide (l ≠ [])))) := by
  have h := opc_neNil (K := K) (ws := l.map f)
  rw [List.map_map] at h
  have e : decide (l.map f ≠ []) = decide (l ≠ []) := decide_eq_decide.mpr (by simp)
  rw [e] at h
  exact h
theorem opc_eqNilM {α : Type} {l : List α} {f : α → Nat} : OPC K (rEqD K) (.lst (l.map fun x => rN (f x))) (.lst []) (.im (rB (decide (l = [])))) := by
  have h := opc_eqNil (K := K) (ws := l.map f)
  rw [List.map_map] at h
  have e : decide (l.map f = []) = decide (l = []) := decide_eq_decide.mpr (by simp)
  rw [e] at h
  exact h
end
end Fx
set_option Elab.async false
set_option linter.all false
set_option maxRecDepth 100000
set_option maxHeartbeats 2000000
/-! children of own codes at two places -/
namespace Nb
open PySem Fx Wd Gf Du Cu
def sk (p q i : Nat) : Nat := if i < p then i else if i + 1 < q then i + 1 else i + 2
def restP (n p q : Nat) : List Nat := (List.range n).filter fun x => !decide (x ∈ [p, q])
theorem mem_rest {n p q x : Nat} : x ∈ restP n p q ↔ x < n ∧ x ≠ p ∧ x ≠ q := by
  unfold restP
  rw [List.mem_filter, List.mem_range]
  simp
theorem rest_eq {n p q : Nat} (h1 : p < q) (h2 : q < n) : restP n p q = (List.range (n - 2)).map (sk p q) := by
  refine Jv.asc_eq (List.pairwise_lt_range.filter _) ?_ fun x => ?_
  · rw [List.pairwise_map]
    refine List.pairwise_lt_range.imp fun {a b} hab => ?_
    unfold sk
    split <;> split <;> (try split) <;> (try split) <;> omega
  · rw [mem_rest, List.mem_map]
    constructor
    · rintro ⟨a, b, c⟩
      refine ⟨if x < p then x else if x < q then x - 1 else x - 2, List.mem_range.mpr ?_, ?_⟩
      · split <;> (try split) <;> omega
      · unfold sk
        by_cases h3 : x < p
        · rw [if_pos h3, if_pos h3]
        · rw [if_neg h3]
          by_cases h4 : x < q
          · rw [if_pos h4, if_neg (by omega), if_pos (by omega)]
            omega
          · rw [if_neg h4, if_neg (by omega), if_neg (by omega)]
            omega
    · rintro ⟨i, hi, e⟩
      have hi := List.mem_range.mp hi
      rw [← e]
      unfold sk
      split
      · omega
      · split <;> omega
theorem rest_lot (n p q : Nat) : Lot n (restP n p q) := ⟨List.pairwise_lt_range.filter _, fun x hx => (mem_rest.mp hx).1⟩
theorem rest_len {n p q : Nat} (h1 : p < q) (h2 : q < n) : (restP n p q).length = n - 2 := by rw [rest_eq h1 h2, List.length_map, List.length_range]
theorem rest_get {n p q i : Nat} (h1 : p < q) (h2 : q < n) (hi : i < n - 2) : (restP n p q).getD i 0 = sk p q i := by
  rw [rest_eq h1 h2, List.getD_eq_getElem?_getD, List.getElem?_map, List.getElem?_range hi]
  rfl
theorem two_bits {x p q : Nat} : Du.dot x (2 ^ p ^^^ 2 ^ q) = (x.testBit p ^^ x.testBit q) := by rw [dot_xor, dot_comm, two_dot, dot_comm x, two_dot]
theorem alike_iff {x p q : Nat} : Du.dot x (2 ^ p ^^^ 2 ^ q) = false ↔ x.testBit p = x.testBit q := by
  rw [two_bits]
  cases x.testBit p <;> cases x.testBit q <;> decide
section
variable {n p q : Nat} {B : List Nat}
theorem pq_self (h : p ≠ q) : Du.dot (2 ^ p ^^^ 2 ^ q) (2 ^ p ^^^ 2 ^ q) = false := by
  rw [alike_iff, xor_bit, xor_bit, Nat.testBit_two_pow, Nat.testBit_two_pow, Nat.testBit_two_pow, Nat.testBit_two_pow]
  simp [h, h.symm]
theorem pq_lt (h1 : p < q) (h2 : q < n) : 2 ^ p ^^^ 2 ^ q < 2 ^ n := Nat.xor_lt_two_pow (Nat.pow_lt_pow_right (by decide) (by omega)) (Nat.pow_lt_pow_right (by decide) h2)
theorem cut_pq : cutW (restP n p q) (2 ^ p ^^^ 2 ^ q) = 0 := by
  refine Nat.eq_of_testBit_eq fun i => ?_
  rw [cut_bit, Nat.zero_testBit]
  by_cases hi : i < (restP n p q).length
  · obtain ⟨a, b, c⟩ := mem_rest.mp (get_mem hi)
    rw [xor_bit, Nat.testBit_two_pow, Nat.testBit_two_pow, decide_eq_false (Ne.symm b), decide_eq_false (Ne.symm c)]
    simp
  · rw [decide_eq_false hi]
    rfl
/-- what is even with the words that are alike at both places -/
theorem perp (h : Own n B) {w y : Nat} (hw : w < 2 ^ n) (hy : y < 2 ^ n) (hd : ∀ x, Sp B x → Du.dot x w = false → Du.dot y x = false) : Sp B y ∨ Sp B (y ^^^ w) := by
  have hB2 : ∀ a ∈ B ++ [w], a < 2 ^ n := fun a ha => by
    rcases List.mem_append.mp ha with z | z
    · exact h.ok.bas.lt a z
    · rw [List.mem_singleton.mp z]; exact hw
  have h1 : Sp (basisOf (B ++ [w])) y := by
    refine dual_dual (n := n) (basisOf_rr _) (fun r hr => basisOf_lt hB2 hr) hy fun x hx => ?_
    have hx2 : Dl n (B ++ [w]) x := (Dl.same (basisOf_same _)).mp hx
    exact hd x (h.sp.mpr ⟨hx2.1, fun b hb => hx2.2 b (List.mem_append_left _ hb)⟩) (hx2.2 w (List.mem_append_right _ (List.mem_singleton.mpr rfl)))
  exact sp_snoc.mp ((basisOf_same _ y).mp h1)
theorem cut_dot {x y : Nat} (h1 : p < q) (h2 : q < n) (hx : x < 2 ^ n) (ax : x.testBit p = x.testBit q) (ay : y.testBit p = y.testBit q) :
    Du.dot (cutW (restP n p q) x) (cutW (restP n p q) y) = Du.dot x y := by
  have hL := rest_lot n p q
  have key : ∀ z, z < 2 ^ n → z.testBit p = false → z.testBit q = false → Du.dot (cutW (restP n p q) z) (cutW (restP n p q) y) = Du.dot z y := fun z hz a b => by
    rw [← dot_ext hL (cut_lt _ _), ext_cut hL fun i hi => ?_]
    refine mem_rest.mpr ⟨?_, fun e => (by rw [e, a] at hi; cases hi), fun e => (by rw [e, b] at hi; cases hi)⟩
    rcases Nat.lt_or_ge i n with z | z
    · exact z
    · rw [Nat.testBit_lt_two_pow (Nat.lt_of_lt_of_le hz (Nat.pow_le_pow_right (by decide) z))] at hi
      cases hi
  cases hp : x.testBit p with
  | false => exact key x hx hp (by rw [← ax]; exact hp)
  | true =>
    have hq : x.testBit q = true := by rw [← ax]; exact hp
    have ne : p ≠ q := by omega
    have b1 : (x ^^^ (2 ^ p ^^^ 2 ^ q)).testBit p = false := by
      rw [xor_bit, xor_bit, hp, Nat.testBit_two_pow, Nat.testBit_two_pow, decide_eq_true rfl, decide_eq_false (Ne.symm ne)]
      rfl
    have b2 : (x ^^^ (2 ^ p ^^^ 2 ^ q)).testBit q = false := by
      rw [xor_bit, xor_bit, hq, Nat.testBit_two_pow, Nat.testBit_two_pow, decide_eq_false ne, decide_eq_true rfl]
      rfl
    have k := key (x ^^^ (2 ^ p ^^^ 2 ^ q)) (Nat.xor_lt_two_pow hx (pq_lt h1 h2)) b1 b2
    rw [cut_xor, cut_pq, Nat.xor_zero, xor_dot, dot_comm (2 ^ p ^^^ 2 ^ q) y, alike_iff.mpr ay, Bool.xor_false] at k
    exact k
def chB (n : Nat) (B : List Nat) (p q : Nat) : List Nat := basisOf ((evw B (2 ^ p ^^^ 2 ^ q)).map (cutW (restP n p q)))
theorem ch_sp {y : Nat} : Sp (chB n B p q) y ↔ ∃ x, (Sp B x ∧ x.testBit p = x.testBit q) ∧ cutW (restP n p q) x = y := by
  refine (basisOf_same _ y).trans ((sp_map (cut_zero _) (cut_xor _)).trans ?_)
  constructor
  · rintro ⟨x, hx, e⟩
    exact ⟨x, ⟨(evw_sp.mp hx).1, alike_iff.mp (evw_sp.mp hx).2⟩, e⟩
  · rintro ⟨x, ⟨a, b⟩, e⟩
    exact ⟨x, evw_sp.mpr ⟨a, alike_iff.mpr b⟩, e⟩
theorem ch_own (h : Own n B) (h1 : p < q) (h2 : q < n) (h4 : 4 ≤ n) : Own (n - 2) (chB n B p q) := by
  have hL := rest_lot n p q
  have hl := rest_len h1 h2
  have n24 := h.ok.n24
  have clt : ∀ x, cutW (restP n p q) x < 2 ^ (n - 2) := fun x => by
    have := cut_lt (restP n p q) x
    rwa [hl] at this
  refine .of (.of (by omega) (by omega) fun a ha => ?_) fun y => ?_
  · obtain ⟨b, _, e⟩ := List.mem_map.mp ha
    rw [← e]
    exact clt b
  constructor
  · intro hy
    obtain ⟨x, ⟨x1, x2⟩, e⟩ := ch_sp.mp hy
    refine ⟨by rw [← e]; exact clt x, fun b hb => ?_⟩
    obtain ⟨z, ⟨z1, z2⟩, e2⟩ := ch_sp.mp (.mem hb)
    rw [← e, ← e2, cut_dot h1 h2 (h.lt x1) x2 z2]
    exact h.dot x1 z1
  · intro hy
    have hyl : y < 2 ^ (restP n p q).length := by rw [hl]; exact hy.1
    have hel := ext_lt hL hyl
    have e0 : ∀ i, i = p ∨ i = q → (extW (restP n p q) y).testBit i = false := fun i hi => by
      cases hb : (extW (restP n p q) y).testBit i with
      | false => rfl
      | true =>
        obtain ⟨_, a, b⟩ := mem_rest.mp (ext_in hL hyl hb)
        omega
    have al : (extW (restP n p q) y).testBit p = (extW (restP n p q) y).testBit q := by rw [e0 p (.inl rfl), e0 q (.inr rfl)]
    have hp := perp h (pq_lt h1 h2) hel fun x hx ha => by
      rw [dot_ext hL hyl]
      exact hy.sp (ch_sp.mpr ⟨x, ⟨hx, alike_iff.mp ha⟩, rfl⟩)
    rcases hp with z | z
    · exact ch_sp.mpr ⟨_, ⟨z, al⟩, cut_ext hL hyl⟩
    · refine ch_sp.mpr ⟨_, ⟨z, ?_⟩, by rw [cut_xor, cut_pq, Nat.xor_zero]; exact cut_ext hL hyl⟩
      rw [← alike_iff, xor_dot, alike_iff.mpr al, pq_self (by omega)]
      rfl
/-- by a list of all its words -/
theorem ch_list (h : Own n B) : basisOf (((lawSpan B).filter fun x => decide (x / 2 ^ p % 2 = x / 2 ^ q % 2)).map (cutW (restP n p q))) = chB n B p q := by
  have bits : ∀ x : Nat, decide (x / 2 ^ p % 2 = x / 2 ^ q % 2) = true ↔ x.testBit p = x.testBit q := fun x => by
    rw [decide_eq_true_eq]
    have a := bit_eq x p
    have b := bit_eq x q
    rcases Nat.mod_two_eq_zero_or_one (x / 2 ^ p) with u | u <;> rcases Nat.mod_two_eq_zero_or_one (x / 2 ^ q) with v | v <;> rw [u, v] <;> rw [u] at a <;> rw [v] at b <;> cases hc : x.testBit p <;> cases hd : x.testBit q <;> rw [hc] at a <;> rw [hd] at b <;> simp_all
  have hm : ∀ x, x ∈ ((lawSpan B).filter fun x => decide (x / 2 ^ p % 2 = x / 2 ^ q % 2)) ↔ Sp B x ∧ x.testBit p = x.testBit q := fun x => by
    rw [List.mem_filter, (law_span_perm B).mem_iff, span_mem, bits]
  refine basisOf_congr fun y => ?_
  rw [show Sp ((evw B (2 ^ p ^^^ 2 ^ q)).map (cutW (restP n p q))) y ↔ _ from (basisOf_same _ y).symm.trans ch_sp]
  have hsp : ∀ x, Sp ((lawSpan B).filter fun x => decide (x / 2 ^ p % 2 = x / 2 ^ q % 2)) x → Sp B x ∧ x.testBit p = x.testBit q := fun x hx => by
    induction hx with
    | zero => exact ⟨.zero, by simp⟩
    | @add u v _ hv ih =>
      obtain ⟨a, b⟩ := (hm v).mp hv
      exact ⟨ih.1.xor a, by rw [xor_bit, xor_bit, ih.2, b]⟩
  constructor
  · intro hy
    obtain ⟨x, hx, e⟩ := (sp_map (cut_zero _) (cut_xor _)).mp hy
    exact ⟨x, hsp x hx, e⟩
  · rintro ⟨x, hx, e⟩
    rw [← e]
    exact .mem (List.mem_map.mpr ⟨x, (hm x).mpr hx, rfl⟩)
/-- four places -/
theorem ch_twice {a b c d : Nat} (h1 : a < b) (h2 : b < c) (h3 : c < d) (h4 : d < n) : chB (n - 2) (chB n B c d) a b = chB (n - 2) (chB n B a b) (c - 2) (d - 2) := by
  have lcd := rest_len h3 h4
  have lab := rest_len (n := n) h1 (by omega : b < n)
  have lab2 := rest_len (n := n - 2) h1 (by omega : b < n - 2)
  have lcd2 := rest_len (n := n - 2) (p := c - 2) (q := d - 2) (by omega) (by omega)
  have bcd : ∀ x i, i < n - 2 → (cutW (restP n c d) x).testBit i = x.testBit (sk c d i) := fun x i hi => by
    rw [cut_bit, lcd, decide_eq_true hi, rest_get h3 h4 hi]
    rfl
  have bab : ∀ x i, i < n - 2 → (cutW (restP n a b) x).testBit i = x.testBit (sk a b i) := fun x i hi => by
    rw [cut_bit, lab, decide_eq_true hi, rest_get h1 (by omega) hi]
    rfl
  have s1 : sk c d a = a := by unfold sk; rw [if_pos (by omega)]
  have s2 : sk c d b = b := by unfold sk; rw [if_pos (by omega)]
  have s3 : sk a b (c - 2) = c := by unfold sk; rw [if_neg (by omega), if_neg (by omega)]; omega
  have s4 : sk a b (d - 2) = d := by unfold sk; rw [if_neg (by omega), if_neg (by omega)]; omega
  have two : ∀ x, cutW (restP (n - 2) a b) (cutW (restP n c d) x) = cutW (restP (n - 2) (c - 2) (d - 2)) (cutW (restP n a b) x) := fun x => by
    refine Nat.eq_of_testBit_eq fun i => ?_
    rw [cut_bit (restP (n - 2) a b), cut_bit (restP (n - 2) (c - 2) (d - 2)), lab2, lcd2]
    by_cases hi : i < n - 2 - 2
    · rw [rest_get h1 (by omega) hi, rest_get (by omega) (by omega) hi]
      have g1 : sk a b i < n - 2 := by unfold sk; split <;> (try split) <;> omega
      have g2 : sk (c - 2) (d - 2) i < n - 2 := by unfold sk; split <;> (try split) <;> omega
      rw [bcd x _ g1, bab x _ g2]
      have e : sk c d (sk a b i) = sk a b (sk (c - 2) (d - 2) i) := by
        unfold sk
        repeat' split
        all_goals omega
      rw [e]
    · rw [decide_eq_false hi]
      rfl
  have key : ∀ y, Sp (chB (n - 2) (chB n B c d) a b) y ↔ Sp (chB (n - 2) (chB n B a b) (c - 2) (d - 2)) y := fun y => by
    rw [ch_sp, ch_sp]
    constructor
    · rintro ⟨z, ⟨hz, az⟩, e⟩
      obtain ⟨x, ⟨hx, ax⟩, e2⟩ := ch_sp.mp hz
      subst e2
      rw [bcd x _ (by omega), bcd x _ (by omega), s1, s2] at az
      refine ⟨cutW (restP n a b) x, ⟨ch_sp.mpr ⟨x, ⟨hx, az⟩, rfl⟩, ?_⟩, by rw [← two]; exact e⟩
      rw [bab x _ (by omega), bab x _ (by omega), s3, s4]
      exact ax
    · rintro ⟨z, ⟨hz, az⟩, e⟩
      obtain ⟨x, ⟨hx, ax⟩, e2⟩ := ch_sp.mp hz
      subst e2
      rw [bab x _ (by omega), bab x _ (by omega), s3, s4] at az
      refine ⟨cutW (restP n c d) x, ⟨ch_sp.mpr ⟨x, ⟨hx, az⟩, rfl⟩, ?_⟩, by rw [two]; exact e⟩
      rw [bcd x _ (by omega), bcd x _ (by omega), s1, s2]
      exact ax
  have k2 := basisOf_congr key
  rw [show basisOf (chB (n - 2) (chB n B c d) a b) = _ from basisOf_idem _, show basisOf (chB (n - 2) (chB n B a b) (c - 2) (d - 2)) = _ from basisOf_idem _] at k2
  exact k2
end
end Nb
namespace Nb
open PySem Fx Wd Gf Du Cu
theorem alike_dec (x p q : Nat) : decide (((x / 2 ^ p % 2 : Nat) : Int) = ((x / 2 ^ q % 2 : Nat) : Int)) = decide (pop (x &&& (2 ^ p ^^^ 2 ^ q)) % 2 = 0) := decide_eq_decide.mpr (by
  rw [even_iff, alike_iff]
  have a := bit_eq x p
  have b := bit_eq x q
  rcases Nat.mod_two_eq_zero_or_one (x / 2 ^ p) with u | u <;> rcases Nat.mod_two_eq_zero_or_one (x / 2 ^ q) with v | v <;> rw [u, v] <;> rw [u] at a <;> rw [v] at b <;> cases hc : x.testBit p <;> cases hd : x.testBit q <;> rw [hc] at a <;> rw [hd] at b <;> simp_all)
theorem odd_dec (x p q : Nat) : (!decide (((x / 2 ^ p % 2 : Nat) : Int) = ((x / 2 ^ q % 2 : Nat) : Int))) = decide (pop (x &&& (2 ^ p ^^^ 2 ^ q)) % 2 = 1) := by
  rw [alike_dec]
  rcases Nat.mod_two_eq_zero_or_one (pop (x &&& (2 ^ p ^^^ 2 ^ q))) with z | z <;> simp [z]
theorem cut_snoc (L : List Nat) (x w : Nat) : cutW (L ++ [x]) w = cutW L w + (w / 2 ^ x % 2) * 2 ^ L.length := by
  have key : cutW (L ++ [x]) w = cutW L w ^^^ (w / 2 ^ x % 2) * 2 ^ L.length := by
    refine Nat.eq_of_testBit_eq fun i => ?_
    rw [xor_bit, cut_bit, cut_bit, List.length_append, List.length_singleton]
    have hb := bit_eq w x
    rcases Nat.lt_trichotomy i L.length with z | z | z
    · have e : (L ++ [x]).getD i 0 = L.getD i 0 := by rw [List.getD_eq_getElem?_getD, List.getD_eq_getElem?_getD, List.getElem?_append_left z]
      rw [decide_eq_true (by omega), decide_eq_true z, e]
      have : ((w / 2 ^ x % 2) * 2 ^ L.length).testBit i = false := by
        rcases Nat.mod_two_eq_zero_or_one (w / 2 ^ x) with u | u
        · rw [u, Nat.zero_mul, Nat.zero_testBit]
        · rw [u, Nat.one_mul, Nat.testBit_two_pow]
          exact decide_eq_false (by omega)
      rw [this, Bool.xor_false]
    · subst z
      rw [decide_eq_true (by omega), decide_eq_false (Nat.lt_irrefl _), Bool.true_and, Bool.false_and, Bool.false_xor]
      have e : (L ++ [x]).getD L.length 0 = x := by simp
      rw [e]
      rcases Nat.mod_two_eq_zero_or_one (w / 2 ^ x) with u | u
      · rw [u, Nat.zero_mul, Nat.zero_testBit]
        rw [u] at hb
        cases hc : w.testBit x with
        | false => rfl
        | true => exact absurd (hb.mpr hc) (by decide)
      · rw [u, Nat.one_mul, Nat.testBit_two_pow, decide_eq_true rfl]
        exact hb.mp u
    · rw [decide_eq_false (by omega), decide_eq_false (by omega), Bool.false_and, Bool.false_and, Bool.false_xor]
      rcases Nat.mod_two_eq_zero_or_one (w / 2 ^ x) with u | u
      · rw [u, Nat.zero_mul, Nat.zero_testBit]
      · rw [u, Nat.one_mul, Nat.testBit_two_pow]
        exact (decide_eq_false (by omega)).symm
  rw [key]
  rcases Nat.mod_two_eq_zero_or_one (w / 2 ^ x) with u | u
  · rw [u, Nat.zero_mul, Nat.xor_zero, Nat.add_zero]
  · rw [u, Nat.one_mul]
    exact add_two (cut_lt L w)
theorem rest_succ (i p q : Nat) : restP (i + 1) p q = restP i p q ++ (if i ∈ [p, q] then [] else [i]) := by
  unfold restP
  rw [List.range_succ, List.filter_append, List.filter_cons, List.filter_nil]
  by_cases h : i ∈ [p, q]
  · rw [if_pos h, if_neg (by simp only [decide_eq_true h]; decide)]
  · rw [if_neg h, if_pos (by simp only [decide_eq_false h]; rfl)]
theorem cut_more {n m p q w : Nat} (h1 : p < q) (h2 : q < n) (h3 : n ≤ m) (hw : w < 2 ^ n) : cutW (restP m p q) w = cutW (restP n p q) w := by
  refine Nat.eq_of_testBit_eq fun i => ?_
  rw [cut_bit, cut_bit, rest_len h1 h2, rest_len h1 (by omega)]
  by_cases hi : i < n - 2
  · rw [decide_eq_true hi, decide_eq_true (by omega), rest_get h1 h2 hi, rest_get h1 (by omega) (by omega)]
  · rw [decide_eq_false hi]
    by_cases hm : i < m - 2
    · rw [rest_get h1 (by omega) hm]
      have : n ≤ sk p q i := by unfold sk; split <;> (try split) <;> omega
      rw [Nat.testBit_lt_two_pow (Nat.lt_of_lt_of_le hw (Nat.pow_le_pow_right (by decide) this))]
      simp
    · rw [decide_eq_false hm, Bool.false_and, Bool.false_and]
theorem rest_le (i p q : Nat) : (restP i p q).length ≤ i := by
  have := List.length_filter_le (fun x => !decide (x ∈ [p, q])) (List.range i)
  rw [List.length_range] at this
  exact this
end Nb
set_option Elab.async false
set_option linter.all false
set_option maxRecDepth 100000
set_option maxHeartbeats 4000000
/-! set(list of ints); a parameter that is a list or a tuple; a, b, c, d = list; | -/
namespace Fx
open PySem PySem.Spec L2 PyProof.Rows
abbrev nS (w : World) : Obj := { cls := .type "set", dict := none, data := .set #[] 0 (.fresh 0 0 (!w.params.followText "set-order")) }
section
variable {P : Program} {w : World} {A : Around} {E : Value → Shared → Prop} {s : Shared}
set_option maxHeartbeats 3200000 in
theorem set_ofL {l : Addr} {items : Array Value} (ns : List Int) {Q : Value → Shared → Prop} (hh : A.handled = none) (hl : s.heap.IsList l items) (hit : IntsAre items.toList ns) (hb : ns.length + 1 < scanBound)
    (fin : ∀ (h' : Heap) (tk c : Nat), SetR w h' s.heap.objs.size (fun j => decide (j ∈ ns)) c → c ≤ ns.length → (∀ b o, s.heap.get? b = some o → h'.get? b = some o) → Q (.ref s.heap.objs.size) { s with heap := h', toks := tk }) : wpAny (model P w) A (call (.type "set") [.ref l]) Q E s := by
  have hisz : items.size = ns.length := by rw [← IntsAre.length hit, Array.length_toList]
  obtain ⟨c, tl, hmro⟩ := F.called_set.mro; have hmade := F.called_set.made; have hsub := F.called_set.sub
  refine wpAny_call (codeAny_of_tree ?_); show wpAny _ _ (callAny (.type "set") _) _ _ _
  refine wpAny_pure ⟨Code.quiet_builtin _ (by decide +kernel), codeAny_builtin F.entry_type_call ?_⟩; rw [Around.under_plain (weight_type_call_type "set" [.ref l] []) rfl]
  have h1 := F.called_set.notType; have h2 := F.called_set.canCreate; have hct := F.typeCall_set_1 (.ref l)
  repeat (any_goals (first | assumption | wp_step))
  refine codeAny_mono (code_set_led1 (.ref l) (E := E) (Q₁ := fun obj s₁ => obj = .ref s.heap.objs.size ∧ s₁ = { s with heap := s.heap.push (nS w) }) ⟨rfl, rfl⟩) fun r s₁ hr => ?_
  rcases r with e | fl
  · exact hr
  cases fl with
  | ret obj =>
    obtain ⟨rfl, rfl⟩ := hr
    have hS : (s.heap.push (nS w)).get? s.heap.objs.size = some (nS w) := Heap.get?_push_size _ rfl
    have hT : Shared.TypeIs { s with heap := s.heap.push (nS w) } (.ref s.heap.objs.size) "set" := ⟨_, hS, rfl⟩
    have hli := F.called_set.init.lookup; have hbi := F.called_set.init.bind (.ref s.heap.objs.size)
    repeat (any_goals (first | assumption | wp_step))
    refine codeAny_mono (codeAny_call_builtin (R := wants (fun r s₂ => r = .none ∧ ∃ h' tk c, s₂ = { s with heap := h', toks := tk } ∧ SetR w h' s.heap.objs.size (fun j => decide (j ∈ ns)) c ∧ c ≤ ns.length ∧ (∀ b o, s.heap.get? b = some o → h'.get? b = some o)) E) F.called_set.init.plain F.entry_set_init (check_set_init_1 hT ?_)) fun r₂ s₂ hr₂ => ?_
    · obtain ⟨⟨ocls, odict, odata, oslots⟩, hol, hcl, nl, hdl⟩ := hl
      simp only at hcl hdl; subst hcl; subst hdl
      have hol' : (s.heap.push (nS w)).get? l = some { cls := .type "list", dict := odict, data := .seq items nl, slots := oslots } := Heap.get?_push_of_some _ hol
      have k1 := F.sub_list_set; have k2 := F.sub_list_frozenset; have k3 : (Value.type "list" == Value.type "dict") = false := by decide
      have hl1 : (s.heap.push (nS w)).IsList l items := ⟨_, hol', rfl, nl, rfl⟩
      unfold Builtin.«set.__init__» noKeywords Builtin.Frozenset.updateFrom; generalize hPI : pyIter = PI
      wp_walk
      subst hPI
      refine wpAny_pyIter_list hl1 (wpAny_bind (wpAny_runValue ?_))
      have lt : l < s.heap.objs.size := Heap.lt_size hol; have hh3 : A.in1.in1.in1.handled = none := by simp [hh]
      have n1 : l ≠ (s.heap.push (nS w)).objs.size := by rw [Heap.size_push]; exact Nat.ne_of_lt (Nat.lt_succ_of_lt lt)
      have n2 : s.heap.objs.size ∉ [(s.heap.push (nS w)).objs.size, l] := by
        rw [Heap.size_push]; simp only [List.mem_cons, List.not_mem_nil, or_false, not_or]; exact ⟨Nat.ne_of_lt (Nat.lt_succ_self _), Nat.ne_of_gt lt⟩
      have hval : ∀ (i : Nat) (v : Value), items[i]? = some v → ∃ k t, ns[i]? = some k ∧ v = .int k t := fun i v hv => by
        have hi : i < ns.length := by rw [← hisz]; exact (Array.getElem?_eq_some_iff.mp hv).1
        obtain ⟨t, e⟩ := PyProof.Rows.IntsAre.int_at hit i v (by rw [Array.getElem?_toList]; exact hv); refine ⟨ns[i], t, List.getElem?_eq_getElem hi, ?_⟩
        rw [e, List.getD_eq_getElem?_getD, List.getElem?_eq_getElem hi] <;> rfl
      refine set_update_ints ((Walks.list hh3 _ l n1 items).toS) s.heap.objs.size n2 ns hisz hb hval (items.size - 0) 0 _ (by omega) (Nat.zero_le _) ⟨⟨_, Heap.get?_push_size _ rfl, rfl, rfl⟩, (hl1.push _)⟩ ?_ ?_
      · exact ⟨0, Nat.le_refl 0, setR_new_at (Heap.get?_push_of_some _ hS)⟩
      · rintro ⟨h', g2, d', tk', os'⟩ c' hm hc' hS'
        have eg : g2 = s.gens := hm.gens; have ed : d' = s.drawn := hm.drawn; have eo : os' = s.os := hm.os
        subst eg; subst ed; subst eo; rw [hisz] at hc'
        show wpAny _ _ _ _ _ _
        refine wpAny_pure ?_; show wpAny _ _ (ret Value.none) _ _ _
        refine wpAny_pure ⟨rfl, h', tk', c', rfl, hS', hc', fun b o e => ?_⟩
        have hb0 : b < s.heap.objs.size := Heap.lt_size e
        exact hm.heap b o (by rw [Heap.size_push]; simp only [List.mem_cons, List.not_mem_nil, or_false, not_or]; exact ⟨Nat.ne_of_lt hb0, Nat.ne_of_lt (Nat.lt_succ_of_lt hb0)⟩) (Heap.get?_push_of_some _ (Heap.get?_push_of_some _ e))
    · rcases r₂ with e | fl₂
      · exact hr₂
      cases fl₂ with
      | ret r =>
        obtain ⟨rfl, h', tk, c', rfl, hS', hc', hk'⟩ := hr₂
        repeat (any_goals (first | assumption | wp_step))
        exact fin _ _ _ hS' hc' hk'
      | _ => exact hr₂.elim
  | _ => exact hr.elim
end
end Fx
set_option Elab.async false
set_option linter.all false
set_option maxRecDepth 100000
set_option maxHeartbeats 2000000
/-! readings of these -/
namespace Fx
open PySem L2 PyProof.Rows
def rSetLI (K : PySem.W.Frag) (w : World) : List V → Hp → VK → Prop := fun xs H Q => ∃ (p : Addr) (ns : List Int), xs = [.ref p] ∧ SqL K H p (ns.map V.int) ∧ ns.length ≤ 100 ∧ ∀ (a : Addr) (c : Nat), H a = none → c ≤ ns.length → Q (.ref a) (upd H a (SetO w a (fun j => decide (j ∈ ns)) c))
theorem call_setL {X : Cx} (hc : X.calm = true) : CallR X (.type "set") (rSetLI X.K X.w) := by
  intro pins s σ H xs us Q I r hh
  obtain ⟨p, ns, rfl, hp, hl, q⟩ := hh
  obtain ⟨u, rfl, ru⟩ := vals1 r
  cases ru
  obtain ⟨its, rv, ht, _⟩ := I.list hp
  have hz : ns.length + 1 < scanBound := Nat.lt_of_le_of_lt (by omega : ns.length + 1 ≤ 200) (by decide +kernel)
  refine set_ofL (items := its.toArray) ns (I.ok.hd hc) ht.isList (ints_are rv) hz fun h' tk c hs hcl hk => ?_
  have hO : ObjOk X.prog X.w (upd H s.heap.objs.size (SetO X.w s.heap.objs.size (fun j => decide (j ∈ ns)) c)) h' s.heap.objs.size (SetO X.w s.heap.objs.size (fun j => decide (j ∈ ns)) c) :=
    ⟨hs, (by obtain ⟨o, _, _, _, h1, _⟩ := hs; exact ⟨o, h1⟩), fun h1 h2 g e => SetR.at g e⟩
  exact ⟨.ref s.heap.objs.size, _, I.laid (t' := tk) hk (Nat.le_refl _) hO, rfl, q _ c (I.hok.fresh (Nat.le_refl _)) hcl⟩
theorem kSetL {X : Cx} {K : PySem.W.Frag} (h : X.K = K) (hc : X.calm = true) : CallR X (.type "set") (rSetLI K X.w) := by subst h; exact call_setL hc
theorem kPgL {X : Cx} {K : PySem.W.Frag} {pos : Pos} {es : List Expr} {k : Nat} {t : TGs} {n : Nat} (e : X.K = K) (hc : X.calm = true) (h : PGs X es t)
    (hn : (assignEach es X.env).length = n := by rfl) (hst : (assignEach es X.env).findIdx? (·.1) = none := by rfl) : PG X (.Tuple es k pos) (gLst K n t) := by subst e; exact pg_lst hc h hn hst
section
variable {K : PySem.W.Frag} {w : World} {E : List Sl} {te : TE} {Φ : Sl → List Sl → Prop} {s i j l m : Nat} {rs : List Rp} {ts : TS} {nx : List Sl → Prop} {rt : Sl → List Sl → Prop} {bk ct : List Sl → Prop}
/-- sorted(set(xs)), xs a list of one's own -/
theorem we_sortSetL {ws : List Nat} (hi : E[s]? = some (.own (ws.map rN))) (hz : ws.length < 60) (p : ∀ us : List Nat, us.Pairwise (· < ·) → (∀ n, n ∈ us ↔ n ∈ ws) → Φ (.own (us.map rN)) E) :
    WE K (tCB (rSortedSet w) (tCons (tCB (rSetLI K w) (tCons (tVar s) tNil)) tNil)) E Φ := fun H0 O0 σ T H2 hl ok Q q => by
  obtain ⟨o, h1, h2⟩ := zip_get hl hi
  have hm := List.mem_append_right T h2
  obtain ⟨a, us, e, g1, g2, g3⟩ := ok.sl _ hm
  have e : o = some (.ref a) := e
  subst e
  have ev := vals_ints g2
  subst ev
  refine ⟨.ref a, h1, a, ws.map fun (n : Nat) => (n : Int), rfl, SqL.of g1, by rw [List.length_map]; omega, fun b c hb hc => ?_⟩
  rw [List.length_map] at hc
  refine ⟨b, _, c, rfl, upd_same, by omega, fun ns d ho hmm hn hd => ?_⟩
  have hpos : ∀ k ∈ ns, ∃ n : Nat, k = (n : Int) := fun k hk => by
    have := of_decide_eq_true ((hmm k).mp hk)
    obtain ⟨n, _, e⟩ := List.mem_map.mp this
    exact ⟨n, e.symm⟩
  have en : (ns.map Int.toNat).map (fun (n : Nat) => (n : Int)) = ns := by
    rw [List.map_map]
    conv => rhs; rw [← List.map_id ns]
    refine List.map_congr_left fun k hk => ?_
    obtain ⟨n, e⟩ := hpos k hk
    subst e
    rfl
  have ok3 : Ok K H0 O0 (upd H2 b (SetO w b (fun j => decide (j ∈ ws.map fun (n : Nat) => (n : Int))) c)) (T ++ σ.zip E) := ok.ext fun b' u z => by rw [upd_ne (ne_of_none z hb)]; exact z
  have hv : Vr (upd H2 b (SetO w b (fun j => decide (j ∈ ws.map fun (n : Nat) => (n : Int))) c)) (ns.map V.int) ((ns.map Int.toNat).map rN) := by
    have := nats_ints (H := upd H2 b (SetO w b (fun j => decide (j ∈ ws.map fun (n : Nat) => (n : Int))) c)) (ns.map Int.toNat)
    rwa [en] at this
  refine q _ E (p (ns.map Int.toNat) ?_ fun n => ?_) rfl _ _ (ok3.newL hd hv)
  · rw [List.pairwise_map]
    refine ho.imp_of_mem fun {x y} hx hy hxy => ?_
    obtain ⟨m, rfl⟩ := hpos x hx
    obtain ⟨n, rfl⟩ := hpos y hy
    show m < n
    omega
  · constructor
    · intro h
      obtain ⟨k, hk, e⟩ := List.mem_map.mp h
      have := of_decide_eq_true ((hmm k).mp hk)
      obtain ⟨m, hm2, e2⟩ := List.mem_map.mp this
      subst e2
      rw [← e]
      exact hm2
    · intro h
      exact List.mem_map.mpr ⟨(n : Int), (hmm n).mpr (decide_eq_true (List.mem_map.mpr ⟨n, h, rfl⟩)), rfl⟩
/-- xs[:n], xs a list of one's own -/
theorem we_slLn {n : Nat} (hi : E[s]? = some (.own rs)) (p : Φ (.own (rs.take n)) E) : WE K (tSl (rSlL K) (tVar s) tNoPart (tPart (tC (.int (n : Int))))) E Φ := fun H0 O0 σ T H hl ok Q q => by
  obtain ⟨o, h1, h2⟩ := zip_get hl hi
  have hm := List.mem_append_right T h2
  obtain ⟨a, us, e, g1, g2, g3⟩ := ok.sl _ hm
  have e : o = some (.ref a) := e
  subst e
  refine ⟨.ref a, h1, (n : Int), rfl, a, us, rfl, SqL.of g1, fun b hb => ?_⟩
  rw [cut_take]
  exact q _ _ p rfl _ _ (ok.newL hb (g2.take n))
/-- a, b, c, d = list -/
theorem ws_asgL4 (h : WE K te E fun k E1 => ∃ R1 R2 R3 R4, k = .own [R1, R2, R3, R4] ∧ nx ((((E1.set i (.im R1)).set j (.im R2)).set l (.im R3)).set m (.im R4))) : WS K (tAsg te (gLst K 4 (gCons (gName i) (gCons (gName j) (gCons (gName l) (gCons (gName m) gNil)))))) E nx rt bk ct := fun H0 O0 σ T H D hl ok n r b c =>
  h H0 O0 σ T H hl ok _ fun k E1 ⟨R1, R2, R3, R4, e, p⟩ l' v H2 ok2 => by
    subst e
    obtain ⟨a, vs, e1, h2, h3, _⟩ := ok2.head
    cases e1
    cases h3 with
    | cons q1 t =>
    cases t with
    | cons q2 t =>
    cases t with
    | cons q3 t =>
    cases t with
    | cons q4 t =>
    cases t
    refine ⟨a, [_, _, _, _], rfl, SqL.of h2, rfl, _, _, rfl, _, _, rfl, _, _, rfl, _, _, rfl, rfl, n _ p _ H2 (by simp [l', hl]) ?_⟩
    exact (((((ok2.tail.im q1).store i (by omega)).im q2 |>.store j (by simp [l', hl])).im q3 |>.store l (by simp [l', hl])).im q4 |>.store m (by simp [l', hl]))
/-- a parameter that is a list or a tuple: either -/
theorem ws_seqCase (hi : E[i]? = some (.seq rs)) (h1 : WS K ts (E.set i (.im (rTQ K rs))) nx rt bk ct) (h2 : WS K ts (E.set i (.bor rs)) nx rt bk ct) : WS K ts E nx rt bk ct := fun H0 O0 σ T H D hl ok n r b c => by
  obtain ⟨o, L, ho, ok2, back⟩ := ok.at' hl hi
  obtain ⟨a, vs, e, h3, h4⟩ := ok2.head
  have e : o = some (.ref a) := e
  subst e
  rcases h3 with ⟨h3, h5⟩ | h3
  · refine h2 H0 O0 σ T H D (by simpa using hl) (back T (.bor rs) H ?_) n r b c
    refine ⟨ok2.fr, fun p hp => ?_, List.pairwise_cons.mpr ⟨fun _ _ z => (by cases z), (List.pairwise_cons.mp ok2.ap).2⟩⟩
    rcases List.mem_cons.mp hp with z | z
    · subst z
      exact ⟨a, vs, rfl, h3, h5, h4⟩
    · exact ok2.sl p (List.mem_cons_of_mem _ z)
  · refine h1 H0 O0 σ T H D (by simpa using hl) (back T (.im (rTQ K rs)) H ?_) n r b c
    exact ok2.tail.im (R := rTQ K rs) ⟨a, vs, rfl, h3, h4⟩
theorem walks2_enumB {p : Addr} {xs : List Nat} : Walks2 K (IteX K false p) xs.length [(some (.ref p), .bor (xs.map rN))] (fun i => rN i) (fun i => rN (xs.getD i 0)) := by
  refine ⟨fun H0 O0 H L hm ok i hi => ?_, fun H0 O0 H L hm ok => ?_⟩
  · obtain ⟨q, vs, e, h1, h2, h3⟩ := ok.sl _ (hm _ List.mem_cons_self)
    cases e
    obtain ⟨x, hx, hr⟩ := rN_get h3 hi
    have hq := sqL_fr ok h1 h2
    refine ⟨⟨vs, x, hq, hx⟩, fun v H' y => ?_⟩
    obtain ⟨T, x', e1, hT, e2, hu⟩ := y
    have z := hu vs hq
    rw [hx] at z
    cases z
    subst e1 e2
    exact ⟨T, .int (i : Nat), x, rfl, upd_same, ok_pair ok hT rfl hr⟩
  · obtain ⟨q, vs, e, h1, h2, h3⟩ := ok.sl _ (hm _ List.mem_cons_self)
    cases e
    exact ⟨vs, sqL_fr ok h1 h2, by have := h3.len; simpa using this⟩
theorem wi2_enumB {Θ : Nat → (Nat → Rp) → (Nat → Rp) → Prop} {xs : List Nat} (hs : E[s]? = some (.bor (xs.map rN))) (p : Θ xs.length (fun i => rN i) (fun i => rN (xs.getD i 0))) : WI2 K (iEnumX K (tCons (tVar s) tNil)) E Θ := fun H0 O0 σ T H hl ok Q q => by
  obtain ⟨o, h1, h2⟩ := zip_get hl hs
  have hm := List.mem_append_right T h2
  obtain ⟨a, vs, e, h3, h5, h4⟩ := ok.sl _ hm
  have e : o = some (.ref a) := e
  subst e
  exact ⟨.ref a, h1, false, a, vs, rfl, sqL_fr ok h3 h5, q _ _ _ _ _ p walks2_enumB fun t ht => by rw [List.mem_singleton.mp ht]; exact hm⟩
theorem opr_or {a b : Nat} : OPR K (rI0 fun i j => .int (Builtin.bitOr i j)) (.im (rN a)) (.im (rN b)) (.im (rN (a ||| b))) := opr_I0 fun _ => by
  have e : Builtin.bitOr (a : Int) (b : Int) = ((a ||| b : Nat) : Int) := by
    have n1 : ∀ z : Int, Builtin.bitNot (Builtin.bitNot z) = z := fun z => by unfold Builtin.bitNot; omega
    have f : ∀ z : Nat, decide (0 ≤ Builtin.bitNot (z : Int)) = false := fun z => decide_eq_false (by unfold Builtin.bitNot; omega)
    unfold Builtin.bitOr Builtin.bitAnd
    rw [f a, f b]
    simp only [n1, Int.toNat_natCast]
  show V.int _ = V.int _
  rw [e]
theorem two_or {p q : Nat} (h : p ≠ q) : 2 ^ p ||| 2 ^ q = 2 ^ p ^^^ 2 ^ q := Nat.eq_of_testBit_eq fun i => by
  rw [Nat.testBit_or, Nat.testBit_xor, Nat.testBit_two_pow, Nat.testBit_two_pow]
  by_cases h1 : p = i
  · subst h1
    simp [h.symm]
  · simp [h1]
end
end Fx
set_option Elab.async false
set_option linter.all false
set_option maxRecDepth 100000
set_option maxHeartbeats 2000000
/-! range with a step; halves of own codes: half the weight, taken even or odd -/
namespace Fx
open PySem L2 PyProof.Rows
section
variable {K : PySem.W.Frag} {E : List Sl} {Θ : List Rp → List Sl → Prop}
theorem walks_rngC {lo c : Int} {n : Nat} : Walks K (Itc lo c n) ((List.range n).map fun (i : Nat) => rI (lo + (i : Int) * c)) (none, .no) := by
  refine ⟨fun H0 O0 H L ok i R hi => ?_, fun H0 O0 H L ok => ?_⟩
  · rw [List.getElem?_map] at hi
    have hn : i < n := by
      rcases Nat.lt_or_ge i n with z | z
      · exact z
      · rw [List.getElem?_eq_none (by simpa using z)] at hi
        cases hi
    rw [List.getElem?_range hn] at hi
    cases hi
    refine ⟨hn, fun x H' y => ?_⟩
    obtain ⟨e, y⟩ := y
    subst e y
    exact ok.im (R := rI (lo + (i : Int) * c)) rfl
  · show n ≤ ((List.range n).map _).length
    simp
theorem ims3 {H0 : Hp} {O0 : List Addr} {H : Hp} {L : List (Option V × Sl)} {vs : List V} {a b c : Int} (hl : vs.length = 3) (ok : Ok K H0 O0 H ((vs.map some).zip [.im (rI a), .im (rI b), .im (rI c)] ++ L)) : vs = [.int a, .int b, .int c] ∧ Ok K H0 O0 H L := by
  match vs, hl with
  | [v, w, z], _ =>
    obtain ⟨u, e, h⟩ := ok.head
    cases e
    have h : v = .int a := h
    subst h
    have ok2 : Ok K H0 O0 H (((([w, z] : List V).map some).zip [.im (rI b), .im (rI c)]) ++ L) := ok.tail
    obtain ⟨e, h⟩ := ims2 rfl ok2
    cases e
    exact ⟨rfl, h⟩
theorem wi_rng3 {tr : TA} (h : WA K tr E fun ks E1 => ∃ (i j c : Int) (n : Nat), ks = [.im (rI i), .im (rI j), .im (rI c)] ∧ RgC i j c n ∧ Θ ((List.range n).map fun (m : Nat) => rI (i + (m : Int) * c)) E1) : WI K (iRng3 tr) E Θ := fun H0 O0 σ T H hl ok Q q =>
  h H0 O0 σ T H hl ok _ fun ks E1 ⟨i, j, c, n, e, hb, p⟩ l vs H2 lv ok2 => by
    subst e
    obtain ⟨e, ok3⟩ := ims3 lv ok2
    subst e
    exact ⟨i, j, c, n, rfl, hb, q _ E1 p l _ _ H2 walks_rngC ok3.nil1⟩
end
end Fx
namespace Fo
open PySem Fx Wd Gf Du Cu Nb Jv
def hv (x : Nat) : Bool := decide (pop x / 2 % 2 = 1)
theorem four_hv {x : Nat} (h : pop x % 2 = 0) : decide (pop x % 4 = 0) = !hv x := by
  unfold hv
  by_cases z : pop x / 2 % 2 = 1
  · rw [decide_eq_true z, decide_eq_false (by omega)]
    rfl
  · rw [decide_eq_false z, decide_eq_true (by omega)]
    rfl
section
variable {n : Nat} {B : List Nat} {x y : Nat}
theorem sp_even (h : Own n B) (hx : Sp B x) : pop x % 2 = 0 := by
  have := h.dot hx hx
  rw [dot_self] at this
  have := of_decide_eq_false this
  omega
theorem hv_xor (h : Own n B) (hx : Sp B x) (hy : Sp B y) : hv (x ^^^ y) = (hv x ^^ hv y) := by
  have a := pop_xor_and x y
  have e1 := sp_even h hx
  have e2 := sp_even h hy
  have e3 : pop (x &&& y) % 2 = 0 := even_iff.mpr (h.dot hx hy)
  have key : pop (x ^^^ y) / 2 % 2 = (pop x / 2 + pop y / 2) % 2 := by omega
  unfold hv
  rw [key]
  rcases Nat.mod_two_eq_zero_or_one (pop x / 2) with p | p <;> rcases Nat.mod_two_eq_zero_or_one (pop y / 2) with q | q <;> rw [Nat.add_mod, p, q] <;> rfl
end
/-- words that span those of a span at which a bit that adds up is 0 -/
def krn (χ : Nat → Bool) (B : List Nat) : List Nat := (B.filter fun b => !χ b) ++ ((B.filter χ).drop 1).map fun b => (B.filter χ).headD 0 ^^^ b
section
variable {χ : Nat → Bool} {B : List Nat} {x : Nat}
theorem krn_sp (hχ : ∀ x y, Sp B x → Sp B y → χ (x ^^^ y) = (χ x ^^ χ y)) : Sp (krn χ B) x ↔ Sp B x ∧ χ x = false := by
  have h0 : χ 0 = false := by
    have := hχ 0 0 .zero .zero
    rw [Nat.xor_self] at this
    rw [this]
    cases χ 0 <;> rfl
  have om : ∀ o l, B.filter χ = o :: l → o ∈ B ∧ χ o = true := fun o l e => List.mem_filter.mp (by rw [e]; exact List.mem_cons_self)
  constructor
  · intro h
    induction h with
    | zero => exact ⟨.zero, h0⟩
    | @add y w _ hw ih =>
      have hw2 : Sp B w ∧ χ w = false := by
        rcases List.mem_append.mp hw with z | z
        · obtain ⟨a, b⟩ := List.mem_filter.mp z
          exact ⟨.mem a, by simpa using b⟩
        · obtain ⟨b, hb, e⟩ := List.mem_map.mp z
          cases hq : B.filter χ with
          | nil => rw [hq] at hb; cases hb
          | cons o l =>
            obtain ⟨o1, o2⟩ := om o l hq
            obtain ⟨b1, b2⟩ := List.mem_filter.mp (List.mem_of_mem_drop hb)
            rw [hq] at e
            have e : o ^^^ b = w := e
            rw [← e]
            refine ⟨(Sp.mem o1).xor (.mem b1), ?_⟩
            rw [hχ _ _ (.mem o1) (.mem b1), o2, b2]
            rfl
      refine ⟨ih.1.xor hw2.1, ?_⟩
      rw [hχ _ _ ih.1 hw2.1, ih.2, hw2.2]
      rfl
  · rintro ⟨h, hp⟩
    have key : (χ x = false → Sp (krn χ B) x) ∧ (χ x = true → Sp (krn χ B) ((B.filter χ).headD 0 ^^^ x)) := by
      clear hp
      induction h with
      | zero => exact ⟨fun _ => .zero, fun z => by rw [h0] at z; cases z⟩
      | @add y w hy hw ih =>
        have par := hχ y w hy (.mem hw)
        cases q : χ w with
        | true =>
          have hwo : w ∈ B.filter χ := List.mem_filter.mpr ⟨hw, q⟩
          have hs : Sp (krn χ B) ((B.filter χ).headD 0 ^^^ w) := by
            cases hq : B.filter χ with
            | nil => rw [hq] at hwo; cases hwo
            | cons o l =>
              rw [hq] at hwo
              show Sp (krn χ B) (o ^^^ w)
              rcases List.mem_cons.mp hwo with e | e
              · rw [e, Nat.xor_self]
                exact .zero
              · refine .mem (List.mem_append_right _ (List.mem_map.mpr ⟨w, ?_, ?_⟩))
                · rw [hq]
                  exact e
                · rw [hq]
                  rfl
          rw [q] at par
          constructor
          · intro z
            rw [par] at z
            have h1 := (ih.2 (by revert z; cases χ y <;> decide)).xor hs
            have e : ((B.filter χ).headD 0 ^^^ y) ^^^ ((B.filter χ).headD 0 ^^^ w) = y ^^^ w := by
              rw [Nat.xor_comm _ y, ← Nat.xor_assoc, xor_cancel]
            rwa [e] at h1
          · intro z
            rw [par] at z
            have h1 := (ih.1 (by revert z; cases χ y <;> decide)).xor hs
            have e : y ^^^ ((B.filter χ).headD 0 ^^^ w) = (B.filter χ).headD 0 ^^^ (y ^^^ w) := by
              rw [← Nat.xor_assoc, Nat.xor_comm y, Nat.xor_assoc]
            rwa [e] at h1
        | false =>
          have hwe : Sp (krn χ B) w := .mem (List.mem_append_left _ (List.mem_filter.mpr ⟨hw, by rw [q]; rfl⟩))
          rw [q, Bool.xor_false] at par
          constructor
          · intro z
            exact (ih.1 (by rw [← par]; exact z)).xor hwe
          · intro z
            rw [← Nat.xor_assoc]
            exact (ih.2 (by rw [← par]; exact z)).xor hwe
    exact key.1 hp
theorem krn_len (χ : Nat → Bool) (B : List Nat) : (krn χ B).length ≤ B.length := by
  have a : ∀ l : List Nat, (l.filter fun b => !χ b).length + (l.filter χ).length = l.length := by
    intro l
    induction l with
    | nil => rfl
    | cons b l ih =>
      rw [List.filter_cons, List.filter_cons]
      cases χ b with
      | true =>
        rw [if_neg (by decide), if_pos rfl, List.length_cons, List.length_cons]
        omega
      | false =>
        rw [if_pos (by decide), if_neg (by decide), List.length_cons, List.length_cons]
        omega
  have := a B
  unfold krn
  rw [List.length_append, List.length_map, List.length_drop]
  omega
theorem krn_lt {n : Nat} (h : ∀ b ∈ B, b < 2 ^ n) : ∀ a ∈ krn χ B, a < 2 ^ n := fun a ha => by
  rcases List.mem_append.mp ha with z | z
  · exact h a (List.mem_filter.mp z).1
  · obtain ⟨b, hb, e⟩ := List.mem_map.mp z
    subst e
    refine Nat.xor_lt_two_pow ?_ (h b (List.mem_filter.mp (List.mem_of_mem_drop hb)).1)
    cases hq : B.filter χ with
    | nil => rw [hq] at hb; cases hb
    | cons o l => exact h o (List.mem_filter.mp (by rw [hq]; exact List.mem_cons_self)).1
end
def halfB (B : List Nat) : List Nat := basisOf (krn hv B)
section
variable {n : Nat} {B : List Nat} {x w : Nat}
theorem half_sp (h : Own n B) : Sp (halfB B) x ↔ Sp B x ∧ hv x = false := (basisOf_same _ x).trans (krn_sp fun _ _ a b => hv_xor h a b)
theorem half_ok (h : Own n B) : CodeOk n (halfB B) := .of h.ok.n1 h.ok.n24 (krn_lt h.ok.bas.lt)
theorem half_span (h : Own n B) : spanOf (halfB B) = (spanOf B).filter fun w => decide (pop w % 4 = 0) := by
  refine asc_eq (span_ord (basisOf_rr _) (basis_ord _)) ((span_ord h.ok.bas.rr h.ok.o).filter _) fun x => ?_
  rw [span_mem, List.mem_filter, span_mem]
  refine (half_sp h).trans ⟨fun ⟨a, b⟩ => ⟨a, ?_⟩, fun ⟨a, b⟩ => ⟨a, ?_⟩⟩
  · rw [four_hv (sp_even h a), b]
    rfl
  · rw [four_hv (sp_even h a)] at b
    simpa using b
/-- the own code is by fours -/
def fours (B : List Nat) : Bool := B.all fun b => !hv b
theorem fours_sp (h : Own n B) (hf : fours B = true) (hx : Sp B x) : hv x = false := by
  induction hx with
  | zero =>
    unfold hv
    rw [pop_zero]
    rfl
  | @add y r hy hr ih =>
    rw [hv_xor h hy (.mem hr), ih]
    have := List.all_eq_true.mp hf r hr
    simpa using this
theorem four_mem (h : Own n B) {b : Nat} (hb : b ∈ B) : decide (pop b % 4 = 0) = !hv b := four_hv (sp_even h (.mem hb))
theorem out_odd (h : Own n B) (g : Out n B w) : oddL B w ≠ [] := fun z => g.ns (h.sp.mpr ⟨g.lt, fun b hb => by
  cases q : Du.dot w b with
  | false => rfl
  | true =>
    have : b ∈ oddL B w := mem_odd.mpr ⟨hb, by rw [dot_comm]; exact q⟩
    rw [z] at this
    cases this⟩)
theorem odd_head (h : Own n B) (g : Out n B w) : (oddL B w).headD 0 ∈ oddL B w := by
  cases q : oddL B w with
  | nil => exact absurd q (out_odd h g)
  | cons o l => exact List.mem_cons_self
/-- a word of the same coset of which half the weight is even -/
def fnw (B : List Nat) (w : Nat) : Nat := if hv w = true then w ^^^ (oddL B w).headD 0 else w
theorem fnw_out (h : Own n B) (g : Out n B w) : Out n B (fnw B w) := by
  unfold fnw
  split
  · exact g.add h (.mem (mem_odd.mp (odd_head h g)).1)
  · exact g
end
/-- eights side by side -/
def eightsL (n : Nat) : List Nat := (List.range (n / 8)).flatMap fun i => [15 * 2 ^ (8 * i), 51 * 2 ^ (8 * i), 85 * 2 ^ (8 * i), 150 * 2 ^ (8 * i)]
def pairsL (n : Nat) : List Nat := (List.range (n / 2)).map fun a => 3 * 2 ^ (2 * a)
/-- eights as far as they go, then pairs -/
def mixL (n : Nat) : List Nat := eightsL (n - n % 8) ++ (pairsL n).drop ((n - n % 8) / 2)
def okL (n : Nat) (ws : List Nat) : Bool := decide (1 ≤ n) && decide (n ≤ 24) && (ws.all fun a => decide (a < 2 ^ n)) && decide (Sn.basC (checkL n (Sn.basC ws)) = Sn.basC ws)
theorem own_ok {n : Nat} {ws : List Nat} (h : okL n ws = true) : Own n (basisOf ws) := by
  simp only [okL, Bool.and_eq_true, decide_eq_true_eq, List.all_eq_true] at h
  obtain ⟨⟨⟨h1, h2⟩, h3⟩, h4⟩ := h
  refine ⟨.of h1 h2 h3, ?_⟩
  unfold checksOf
  rw [Sn.basC_eq, Sn.basC_eq]
  exact h4
theorem start_all : (evens.all fun n => okL n (pairsL n) && okL n (mixL n)) = true := by decide +kernel
theorem start_pairs {n : Nat} (h : n ∈ evens) : Own n (basisOf (pairsL n)) := own_ok (by
  have := List.all_eq_true.mp start_all n h
  rw [Bool.and_eq_true] at this
  exact this.1)
theorem start_mix {n : Nat} (h : n ∈ evens) : Own n (basisOf (mixL n)) := own_ok (by
  have := List.all_eq_true.mp start_all n h
  rw [Bool.and_eq_true] at this
  exact this.2)
theorem start_eights {n : Nat} (h : n ∈ evens) (h8 : n % 8 = 0) : Own n (basisOf (eightsL n)) := by
  have a := start_mix h
  have e : mixL n = eightsL n := by
    unfold mixL pairsL
    rw [h8, Nat.sub_zero, List.drop_eq_nil_of_le (by rw [List.length_map, List.length_range]; omega), List.append_nil]
  rwa [e] at a
end Fo
set_option Elab.async false
set_option linter.all false
set_option maxRecDepth 100000
set_option maxHeartbeats 2000000
/-! sorted(t) for a list or a tuple of ints -/
namespace Fx
open PySem L2 PyProof.Rows
/-- a new list of us, the first thing that is laid -/
def gathH (h : Heap) (us : List Value) : Heap := (h.push (seqObj "list" #[] 0)).update h.objs.size (Obj.mapSeq (· ++ us.toArray))
section
variable {pr : Program} {w : World} {A : Around} {E : Value → Shared → Prop} {s : Shared}
theorem gatherT {a : Addr} {us : List Value} {R : List Value → Shared → Prop} (ha : s.heap.IsTuple a us.toArray) (hz : us.length ≤ sizeLine)
    (h : R us { s with heap := gathH s.heap us }) : wpAny (model pr w) A (collect (.ref a)) R E s := by
  obtain ⟨ob, go, gc, ep, gd⟩ := id ha
  have go2 : (s.heap.push (seqObj "list" #[] 0)).get? a = some ob := Heap.get?_push_of_some _ go
  have own : (s.heap.push (seqObj "list" #[] 0)).get? s.heap.objs.size = some (seqObj "list" #[] 0) := Heap.get?_push_size _ rfl
  have room : ((#[] : Array Value) ++ us.toArray).size ≤ sizeLine + 1 := by
    rw [Array.size_append, List.size_toArray]
    show 0 + us.length ≤ _
    omega
  unfold collect
  refine wpAny_bind <| wpAny_runValue <| codeAny_builtin entry_proto_collect' ?_
  show wpAny _ _ (do again (.builtin "list.__iadd__" ⟨[← newList [], Value.ref a], []⟩)) _ _ s
  refine wpAny_bind <| wpAny_newList <| wpAny_pure ⟨Code.quiet_builtin _ (by decide +kernel), codeAny_builtin entry_list_iadd' ?_⟩
  show wpAny _ _ (Builtin.List.listExtendWith (.ref s.heap.objs.size) (Value.ref a) (.ref s.heap.objs.size)) _ _ { s with heap := s.heap.push (seqObj "list" #[] 0) }
  unfold Builtin.List.listExtendWith
  refine wpAny_bind <| wpAny_typeOf (T := "tuple") ⟨ob, go2, gc⟩ ?_
  have tt : (Value.type "tuple" == Value.type "tuple") = true := by rfl
  rw [if_pos (by simp [tt])]
  refine wpAny_bind <| listItems_at go2 gd ?_
  refine wpAny_bind <| listItems_at own rfl ?_
  rw [if_neg (by simp)]
  refine wpAny_bind <| listUpdate_at own rfl ?_ (Nat.zero_le _) room
  refine wpAny_pure ?_
  refine wpAny_bind <| wpAny_load (get?_update_seq own _) ?_
  refine wpAny_pure ?_
  have e : ((#[] : Array Value) ++ us.toArray).toList = us := by simp
  show R ((#[] : Array Value) ++ us.toArray).toList _
  rw [e]
  exact h
/-- sorted(t): the new list stands at size + 1 -/
theorem sortedT {a : Addr} {us : List Value} {lt : Value → Value → Bool} {Q : Value → Shared → Prop} (O : SrtO.Swo lt) (ha : s.heap.IsTuple a us.toArray) (hz : us.length ≤ sizeLine)
    (hS : 2 ≤ us.length → ∀ (h1 : Heap) (b : Addr), h1.get? b = some (seqObj "list" us.toArray 0) → (∀ c o, s.heap.get? c = some o → c ≠ b ∧ h1.get? c = some o) → SrtO.SortableO pr w A.in1.in1 { s with heap := h1 } b us lt)
    (h : ∀ out : List Value, SrtO.Srtd lt out → SrtO.Stb lt out us → Q (.ref (s.heap.objs.size + 1)) { s with heap := sortedAll s.heap us out.toArray }) :
    wpAny (model pr w) A (call (.builtin "sorted") [.ref a]) Q E s := by
  have sz : (gathH s.heap us).objs.size = s.heap.objs.size + 1 := by
    unfold gathH
    rw [Heap.size_update]
    rw [size_push']
  have laid : ((gathH s.heap us).push (seqObj "list" us.toArray 0)).get? (s.heap.objs.size + 1) = some (seqObj "list" us.toArray 0) := by
    have := Heap.get?_push_size (gathH s.heap us) (o := seqObj "list" us.toArray 0) rfl
    rwa [sz] at this
  have old : ∀ c o, s.heap.get? c = some o → c ≠ s.heap.objs.size + 1 ∧ ((gathH s.heap us).push (seqObj "list" us.toArray 0)).get? c = some o := fun c o q => by
    have lt : c < s.heap.objs.size := Heap.lt_size q
    refine ⟨Nat.ne_of_lt (Nat.lt_succ_of_lt lt), Heap.get?_push_of_some _ ?_⟩
    unfold gathH
    rw [Heap.get?_update_ne _ _ _ _ (Nat.ne_of_lt lt)]
    exact (Heap.get?_push_of_some _ q)
  refine Calls.call_function_entry kind_sorted plain_sorted entry_sorted (args_sorted1 _) <| ?_
  unfold Builtin.«sorted»
  refine wpAny_bind (m := checkCount "sorted" 1 1 _) <| wpAny_pure ?_
  refine wpAny_bind <| gatherT ha hz ?_
  refine wpAny_bind <| wpAny_newList ?_ hz
  show wpAny _ _ _ _ _ { s with heap := (gathH s.heap us).push (seqObj "list" us.toArray 0) }
  rw [show ({ s with heap := gathH s.heap us } : Shared).heap.objs.size = s.heap.objs.size + 1 from sz]
  refine wpAny_bind <| wpAny_holding <| wpAny_call_entry slot_list_sort ⟨_, laid, rfl⟩ entry_list_sort ?_ (args_list_sort _)
  exact SrtO.list_sort_ord O laid hz (fun h2 => hS h2 _ _ laid old) fun out h1 h2 => ⟨_, rfl, wpAny_pure ⟨_, rfl, h out h1 h2⟩⟩
end
/-- sorted of a list or a tuple of ints -/
def rSortQ (K : PySem.W.Frag) : List V → Hp → VK → Prop := fun vs H Q => ∃ (b : Bool) (a : Addr) (ns : List Int), vs = [V.ref a] ∧ Sq K b H a (ns.map V.int) ∧
  ∀ (ms : List Int) (p : Addr), ms.Perm ns → ms.Pairwise (· ≤ ·) → H p = none → Q (.ref p) (upd H p (.lst (ms.map V.int)))
theorem call_sortQ {X : Cx} : CallR X (.builtin "sorted") (rSortQ X.K) := by
  intro pins s σ H vs us Q I r h
  obtain ⟨b, a, ns, rfl, hs, q⟩ := h
  cases b with
  | false => exact cr_sortedI pins s σ H _ us Q I r ⟨a, ns, rfl, hs, q⟩
  | true =>
    have hs : SqT X.K H a (ns.map V.int) := hs
    obtain ⟨its, rv, p, zz⟩ := I.tuple hs
    have li := rv.ints
    have ln := rv.length
    have zz : its.length ≤ sizeLine := by
      rw [← ln]
      exact zz
    rw [Vals.ref1 r]
    refine sortedT SrtO.swo_int p zz (fun h2 _ _ _ _ => SrtO.ints_sortable li h2) fun out g1 g2 => ?_
    obtain ⟨k1, k2, k3⟩ := SrtO.ints_out li g1 g2
    obtain ⟨ep, he⟩ := PyProof.Rows.sortedAll_at s.heap its out.toArray
    have ll : ((out.map SrtO.iv).map V.int).length ≤ sizeLine := by
      rw [List.length_map]
      rw [k2.length_eq]
      rw [List.length_map] at ln
      omega
    refine ⟨.ref _, upd H (s.heap.objs.size + 1) (.lst ((out.map SrtO.iv).map V.int)), ?_, rfl, q _ _ k2 k3 (I.hok.fresh (Nat.le_succ _))⟩
    exact I.laid (t' := s.toks) (fun _ _ => PyProof.Rows.sortedAll_old) (Nat.le_succ _) ⟨ll, out, ep, vals_of_ints k1, he⟩
theorem kSortQ {X : Cx} {K : PySem.W.Frag} (h : X.K = K) : CallR X (.builtin "sorted") (rSortQ K) := by subst h; exact call_sortQ
section
variable {K : PySem.W.Frag}
theorem cpr_sortQ {ws : List Nat} : CPR K (rSortQ K) [.seq (ws.map rN)] (.own ((asort ws).map rN)) := fun H vs hv Q q => by
  cases hv with
  | cons h1 t =>
    cases t
    obtain ⟨a, us, e1, h2, h3⟩ := h1
    subst e1
    have sq : ∃ b, Sq K b H a ((castL ws).map V.int) := by
      rw [← h3.nats]
      rcases h2 with h2 | h2
      · exact ⟨false, h2⟩
      · exact ⟨true, h2⟩
    obtain ⟨b, sq⟩ := sq
    refine ⟨b, a, castL ws, rfl, sq, fun ms p hp ho hn => ?_⟩
    obtain ⟨us', e⟩ := cast_back hp
    subst e
    have e2 : us' = asort ws := asort_uniq (cast_perm hp) (by
      rw [List.pairwise_map] at ho
      exact ho.imp fun h => by omega)
    rw [e2]
    exact q _ _ (res_newL hn Vr.of_nats)
end
section
variable {K : PySem.W.Frag} {E : List Sl} {tb : TE} {Φ : Sl → List Sl → Prop} {rs : List Rp} {s : Nat}
theorem cut_dropN (xs : List V) (n : Nat) : cutV xs (some (n : Int)) none = xs.drop n := by
  unfold cutV
  have e1 : HT.sIx xs.length 0 (some (n : Int)) = min n xs.length := HT.sIx_nat _ _ _
  have e2 : HT.sIx xs.length xs.length none = xs.length := rfl
  rw [e1, e2]
  rcases Nat.le_total n xs.length with z | z
  · rw [Nat.min_eq_left z]
    exact List.take_of_length_le (by rw [List.length_drop]; exact Nat.le_refl _)
  · rw [Nat.min_eq_right z, Nat.sub_self, List.take_zero, List.drop_eq_nil_of_le z]
/-- xs[e:], xs a list of one's own -/
theorem we_slLe (hi : E[s]? = some (.own rs)) (hb : WE K tb E fun k E1 => ∃ n : Nat, k = .im (rN n) ∧ E1 = E ∧ Φ (.own (rs.drop n)) E) : WE K (tSl (rSlL K) (tVar s) (tPart tb) tNoPart) E Φ := fun H0 O0 σ T H hl ok Q q => by
  obtain ⟨o, h1, h2⟩ := zip_get hl hi
  have hm := List.mem_append_right T h2
  obtain ⟨a, us, e, g1, g2, g3⟩ := ok.sl _ hm
  have e : o = some (.ref a) := e
  subst e
  refine ⟨.ref a, h1, ?_⟩
  refine hb H0 O0 σ T H hl ok _ fun k E1 ⟨n, ek, eE, p⟩ l u H2 ok2 => ?_
  subst ek eE
  obtain ⟨u2, e3, h0⟩ := ok2.head
  cases e3
  have h0 : u = V.int (n : Int) := h0
  subst h0
  have ok3 := ok2.tail
  obtain ⟨a', us', e', g1', g2', g3'⟩ := ok3.sl _ hm
  cases e'
  refine ⟨(n : Int), rfl, a, us', rfl, SqL.of g1', fun b hb => ?_⟩
  rw [cut_dropN]
  exact q _ _ p l _ _ (ok3.newL hb (g2'.drop n))
end
end Fx
set_option Elab.async false
set_option linter.all false
set_option maxRecDepth 100000
set_option maxHeartbeats 2000000
/-! answers ("name",) or ("word", w), and values near them -/
namespace Fo
open PySem Fx Wd Gf Du Cu Nb Jv
abbrev kW : At := .S "word"
theorem ok_W : kW.ok := by decide +kernel
/-- a word of the length with p -/
def wordQ (n : Nat) (p : Nat → Bool) : El → Bool
  | .a (.I c) => (decide (0 ≤ c) && decide (c < ((2 ^ n : Nat) : Int))) && p c.toNat
  | _ => false
/-- a value is (name,) where b holds, or ("word", w) with a right w -/
def judgeQ (kk : At) (b : Bool) (n : Nat) (p : Nat → Bool) : Cd → Bool
  | .t k [] => decide (k = kk) && b
  | .t k [v] => decide (k = kW) && wordQ n p v
  | _ => false
def inW (n : Nat) : El → Bool := wordQ n fun _ => true
theorem wordQ_in {n : Nat} {p : Nat → Bool} {v : El} (h : inW n v = true) : ∃ c : Nat, v = .a (.I (c : Int)) ∧ c < 2 ^ n ∧ wordQ n p v = p c := by
  match v, h with
  | .a (.I c), h =>
    have h : ((decide (0 ≤ c) && decide (c < ((2 ^ n : Nat) : Int))) && true) = true := h
    rw [Bool.and_true] at h
    have h2 := h
    rw [Bool.and_eq_true, decide_eq_true_eq, decide_eq_true_eq] at h2
    have e : c = ((c.toNat : Nat) : Int) := by omega
    refine ⟨c.toNat, congrArg (fun z => El.a (.I z)) e, by omega, ?_⟩
    show ((decide (0 ≤ c) && decide (c < ((2 ^ n : Nat) : Int))) && p c.toNat) = p c.toNat
    rw [h, Bool.true_and]
theorem wordQ_out {n : Nat} {p : Nat → Bool} {v : El} (h : inW n v = false) : wordQ n p v = false := by
  match v, h with
  | .a (.I c), h =>
    have h : ((decide (0 ≤ c) && decide (c < ((2 ^ n : Nat) : Int))) && true) = false := h
    rw [Bool.and_true] at h
    show ((decide (0 ≤ c) && decide (c < ((2 ^ n : Nat) : Int))) && p c.toNat) = false
    rw [h, Bool.false_and]
  | .a (.B _), _ => rfl
  | .a (.S _), _ => rfl
  | .a .U, _ => rfl
  | .t _, _ => rfl
  | .l, _ => rfl
theorem inW_nat {n c : Nat} (h : c < 2 ^ n) : inW n (.a (.I (c : Int))) = true := by
  show ((decide (0 ≤ (c : Int)) && decide ((c : Int) < ((2 ^ n : Nat) : Int))) && true) = true
  rw [decide_eq_true (by omega), decide_eq_true (by omega)]
  rfl
theorem wordQ_nat {n c : Nat} {p : Nat → Bool} (h : c < 2 ^ n) : wordQ n p (.a (.I (c : Int))) = p c := by
  show ((decide (0 ≤ (c : Int)) && decide ((c : Int) < ((2 ^ n : Nat) : Int))) && p (c : Int).toNat) = p c
  rw [decide_eq_true (by omega), decide_eq_true (by omega)]
  rfl
/-- no list in it, no overlong string -/
def okD : El → Prop
  | .t l => l.length ≤ 50 ∧ ∀ x ∈ l, x.ok
  | .a x => x.ok
  | .l => False
def Ck : Cd → Prop
  | .t k r => k.ok ∧ r.length ≤ 50 ∧ ∀ v ∈ r, okD v
  | _ => True
def dE : El → PyData
  | .a x => dA x
  | .t l => .tuple (l.map dA)
  | .l => .none
end Fo
namespace Fx
open PySem L2 PyProof.Rows
section
variable {K : PySem.W.Frag}
theorem like_E (K : PySem.W.Frag) (v : El) : IntLike K (rEl K v) (Pa.intE v) := by
  cases v with
  | a x => exact like_A x
  | t l => exact ⟨.tup, knd_tup, by decide⟩
  | l => exact ⟨.lst, ty_L, by decide⟩
theorem knd_E (K : PySem.W.Frag) (v : El) : HasKnd K (rEl K v) (Pa.kndE v) := by
  cases v with
  | a x => exact knd_A x
  | t l => exact knd_tup
  | l => exact ty_L
theorem range_E (n : Nat) (v : El) : inRange 0 (((2 ^ n : Nat) : Int) - 1) (Pa.intE v) = Fo.inW n v := by
  match v with
  | .a (.I c) =>
    show (decide (0 ≤ c) && decide (c ≤ ((2 ^ n : Nat) : Int) - 1)) = ((decide (0 ≤ c) && decide (c < ((2 ^ n : Nat) : Int))) && true)
    rw [Bool.and_true]
    congr 1
    exact decide_eq_decide.mpr ⟨fun h => by omega, fun h => by omega⟩
  | .a (.B _) => rfl
  | .a (.S _) => rfl
  | .a .U => rfl
  | .t _ => rfl
  | .l => rfl
theorem dp_E {v : El} (h : Fo.okD v) : DpR K (rEl K v) (Fo.dE v) := by
  cases v with
  | a x => exact dp_A x
  | t l => exact dp_T dp_As
  | l => exact h.elim
theorem dp_Es : ∀ {r : List El}, (∀ v ∈ r, Fo.okD v) → Paired (DpR K) (r.map (rEl K)) (r.map Fo.dE)
  | [], _ => .nil
  | v :: r, h => .cons (dp_E (h v List.mem_cons_self)) (dp_Es fun x hx => h x (List.mem_cons_of_mem _ hx))
theorem lay_Es : ∀ r : List El, (∀ v ∈ r, Fo.okD v) → PyData.canLayAll0 (r.map Fo.dE) = true
  | [], _ => rfl
  | v :: r, h => by
    have h2 := lay_Es r fun x hx => h x (List.mem_cons_of_mem _ hx)
    have h3 := h v List.mem_cons_self
    have h4 : (Fo.dE v).canLay0 = true := by
      cases v with
      | a x => exact h3
      | t l =>
        show PyData.canLay0 (.tuple (l.map dA)) = true
        rw [PyData.canLay0]
        exact lay_A l h3.2
      | l => exact h3.elim
    rw [List.map_cons, PyData.canLayAll0, h2, h4]
    rfl
theorem dep_Es : ∀ r : List El, PyData.depthAll (r.map Fo.dE) ≤ 4
  | [] => by show 0 ≤ 4; decide
  | v :: r => by
    have h := dep_Es r
    rw [List.map_cons, PyData.depthAll]
    have hv : (Fo.dE v).depth ≤ 4 := by
      cases v with
      | a x => cases x <;> (show PyData.depth _ ≤ 4; simp [Fo.dE, dA, PyData.depth])
      | t l =>
        have h2 := dep_A l
        show PyData.depth (.tuple (l.map dA)) ≤ 4
        simp only [PyData.depth]
        omega
      | l => show PyData.depth .none ≤ 4; simp [PyData.depth]
    omega
theorem sh_tup4 {ds : List PyData} (h1 : PyData.canLayAll0 ds = true) (h2 : PyData.depthAll ds ≤ 8) : SeqAt.shaped (.tuple ds) = true := by
  have a : PyData.canLay0 (.tuple ds) = true := by
    simp only [PyData.canLay0]
    exact h1
  have b : PyData.depth (.tuple ds) ≤ 64 := by
    simp only [PyData.depth]
    omega
  unfold SeqAt.shaped
  rw [a, decide_eq_true b]
  rfl
/-- (k, ..) == () -/
theorem opc_cdNil {k : At} {r : List El} (h : Fo.Ck (.t k r)) : OPC K (rEqD K) (.im (rCd K (.t k r))) (.im (rT K [])) (.im (rB false)) := by
  obtain ⟨h1, _, h2⟩ := h
  have la : PyData.canLayAll0 (dA k :: r.map Fo.dE) = true := by
    have q : (dA k).canLay0 = true := h1
    rw [PyData.canLayAll0, q, lay_Es r h2]
    rfl
  have de : PyData.depthAll (dA k :: r.map Fo.dE) ≤ 8 := by
    have q := dep_Es r
    rw [PyData.depthAll]
    have : (dA k).depth ≤ 4 := by cases k <;> simp [dA, PyData.depth]
    omega
  exact opc_eqD (K := K) (d := .tuple (dA k :: r.map Fo.dE)) (e := .tuple []) (dpc_im (dp_T (.cons (dp_A k) (dp_Es h2)))) (dpc_im (dp_T (rs := []) (ds := []) .nil)) (sh_tup4 la de) (sh_tup rfl (by decide))
theorem opc_nilNil : OPC K (rEqD K) (.im (rT K [])) (.im (rT K [])) (.im (rB true)) := opc_eqS (K := K) (d := .tuple []) (dpc_im (dp_T (rs := []) (ds := []) .nil)) (dpc_im (dp_T (rs := []) (ds := []) .nil)) (sh_tup rfl (by decide))
end
section
variable {K : PySem.W.Frag} {E : List Sl} {Φ : Sl → List Sl → Prop} {k : At} {v : El} {r : List El} {R : Rp} {s : Nat}
theorem we_k0 (h : E[s]? = some (.im (rCd K (.t k r)))) (p : Φ (.im (rA k)) E) : WE K (tOp (rIxT K) (tVar s) (tC (.int 0))) E Φ := we_opc (wc_im (we_var h ⟨_, rfl, wc_im (we_int ⟨_, rfl, wc_nil ⟨_, _, _, rfl, opc_ixT (m := 0) rfl (R := rA k) rfl, p⟩⟩)⟩))
theorem we_k1 (h : E[s]? = some (.im (rCd K (.t k (v :: r))))) (e : rEl K v = R) (p : Φ (.im R) E) : WE K (tOp (rIxT K) (tVar s) (tC (.int 1))) E Φ := we_opc (wc_im (we_var h ⟨_, rfl, wc_im (we_int ⟨_, rfl, wc_nil ⟨_, _, _, rfl, opc_ixT (m := 1) rfl (R := rEl K v) rfl, e ▸ p⟩⟩)⟩))
end
end Fx
set_option Elab.async false
set_option linter.all false
set_option maxRecDepth 100000
set_option maxHeartbeats 2000000
/-! shadows and quarters -/
namespace Fo
open PySem Fx Wd Gf Du Cu Nb Jv
section
variable {n : Nat} {B : List Nat} {s t x y : Nat}
/-- s is in the shadow -/
def Shd (n : Nat) (B : List Nat) (s : Nat) : Prop := s < 2 ^ n ∧ ∀ c ∈ B, Du.dot s c = hv c
def shL (B : List Nat) : List Nat := (B.filter hv).map hd
def shW (B : List Nat) : Nat := wordAt (shL B)
theorem sh_dot_aux (h : RR B) {c : Nat} (hc : c ∈ B) : ∀ L : List Nat, L.Nodup → (∀ r ∈ L, r ∈ B) → Du.dot (wordAt (shL L)) c = (decide (c ∈ L) && hv c)
  | [], _, _ => by
    show Du.dot 0 c = _
    rw [zero_dot]
    rfl
  | r :: L, nd, hL => by
    obtain ⟨n1, n2⟩ := List.nodup_cons.mp nd
    have ih := sh_dot_aux h hc L n2 fun a ha => hL a (List.mem_cons_of_mem _ ha)
    have hr := hL r List.mem_cons_self
    have bit : c.testBit (hd r) = decide (c = r) := by
      by_cases e : c = r
      · rw [decide_eq_true e, e]
        exact bit_hd (h.nz r hr)
      · rw [decide_eq_false e]
        exact h.at hr hc fun z => e z.symm
    cases hq : hv r with
    | true =>
      have e : shL (r :: L) = hd r :: shL L := by
        unfold shL
        rw [List.filter_cons, if_pos hq]
        rfl
      rw [e, wordAt_cons, xor_dot, two_dot, bit, ih]
      by_cases e : c = r
      · subst e
        rw [decide_eq_true rfl, decide_eq_false n1, decide_eq_true List.mem_cons_self, hq]
        rfl
      · rw [decide_eq_false e, show decide (c ∈ r :: L) = decide (c ∈ L) from decide_eq_decide.mpr (by simp [e])]
        cases decide (c ∈ L) <;> cases hv c <;> rfl
    | false =>
      have e : shL (r :: L) = shL L := by
        unfold shL
        rw [List.filter_cons, if_neg (by rw [hq]; decide)]
      rw [e, ih]
      by_cases e : c = r
      · subst e
        rw [hq]
        simp
      · rw [show decide (c ∈ r :: L) = decide (c ∈ L) from decide_eq_decide.mpr (by simp [e])]
theorem sh_lt (h : Own n B) : shW B < 2 ^ n := wordAt_lt fun p hp => by
  obtain ⟨r, hr, e⟩ := List.mem_map.mp hp
  have hrB := (List.mem_filter.mp hr).1
  have h1 := h.ok.bas.lt r hrB
  have h0 := h.ok.bas.rr.nz r hrB
  rw [← e]
  rcases Nat.lt_or_ge (hd r) n with z | z
  · exact z
  · have := Nat.testBit_lt_two_pow (Nat.lt_of_lt_of_le h1 (Nat.pow_le_pow_right (by decide) z))
    rw [bit_hd h0] at this
    cases this
theorem sh_shd (h : Own n B) : Shd n B (shW B) := ⟨sh_lt h, fun c hc => by
  have := sh_dot_aux h.ok.bas.rr hc B h.ok.bas.rr.nodup fun r hr => hr
  rw [decide_eq_true hc, Bool.true_and] at this
  exact this⟩
theorem hv_zero : hv 0 = false := by
  unfold hv
  rw [pop_zero]
  rfl
theorem Shd.sp (g : Shd n B s) (h : Own n B) (hx : Sp B x) : Du.dot s x = hv x := by
  induction hx with
  | zero => rw [dot_zero, hv_zero]
  | @add y r hy hr ih => rw [dot_xor, ih, g.2 r hr, hv_xor h hy (.mem hr)]
theorem Shd.add (g : Shd n B s) (h : Own n B) (hx : Sp B x) : Shd n B (s ^^^ x) := ⟨Nat.xor_lt_two_pow g.1 (h.lt hx), fun c hc => by rw [xor_dot, h.dot hx (.mem hc), Bool.xor_false]; exact g.2 c hc⟩
theorem Shd.diff (g : Shd n B s) (g' : Shd n B t) (h : Own n B) : Sp B (s ^^^ t) := h.sp.mpr ⟨Nat.xor_lt_two_pow g.1 g'.1, fun c hc => by rw [xor_dot, g.2 c hc, g'.2 c hc]; cases hv c <;> rfl⟩
theorem shd_iff (h : Own n B) (hs : s < 2 ^ n) : Shd n B s ↔ Sp B (s ^^^ shW B) := ⟨fun g => g.diff (sh_shd h) h, fun g => by
  have := (sh_shd h).add h g
  rwa [Nat.xor_comm s, ← Nat.xor_assoc, Nat.xor_self, Nat.zero_xor] at this⟩
/-- the least word of the shadow -/
def shR (B : List Nat) : Nat := rem B (shW B)
theorem shR_sp (B : List Nat) : Sp B (shW B ^^^ shR B) := rem_span B (shW B)
theorem shR_shd (h : Own n B) : Shd n B (shR B) := by
  have := (sh_shd h).add h (shR_sp B)
  rwa [← Nat.xor_assoc, Nat.xor_self, Nat.zero_xor] at this
theorem shR_zero (h : Own n B) : decide (shR B = 0) = fours B := by
  rw [Bool.eq_iff_iff, decide_eq_true_eq]
  constructor
  · intro z
    have g := shR_shd h
    rw [z] at g
    refine List.all_eq_true.mpr fun c hc => ?_
    have := g.2 c hc
    rw [zero_dot] at this
    rw [← this]
    rfl
  · intro z
    refine (rem_zero_iff h.ok.bas.rr).mpr (h.sp.mpr ⟨sh_lt h, fun c hc => ?_⟩)
    rw [(sh_shd h).2 c hc]
    have := List.all_eq_true.mp z c hc
    simpa using this
theorem all_own (h : Own n B) : Sp B (2 ^ n - 1) := h.sp.mpr ⟨by have := Nat.two_pow_pos n; omega, fun c hc => by
  have hl := h.ok.bas.lt c hc
  have e := h.dot (.mem hc) (.mem hc)
  have ea : (2 ^ n - 1) &&& c = c := by rw [Nat.and_comm, Nat.and_two_pow_sub_one_eq_mod, Nat.mod_eq_of_lt hl]
  unfold Du.dot at e ⊢
  rw [Nat.and_self] at e
  rw [ea]
  exact e⟩
theorem pop_all (n : Nat) : pop (2 ^ n - 1) = n := by
  induction n with
  | zero => exact pop_zero
  | succ n ih =>
    have hp := Nat.two_pow_pos n
    have e : 2 ^ (n + 1) - 1 = 2 * (2 ^ n - 1) + 1 := by
      rw [Nat.pow_succ]
      omega
    rw [e, pop_eq]
    have a : (2 * (2 ^ n - 1) + 1) % 2 = 1 := by omega
    have b : (2 * (2 ^ n - 1) + 1) / 2 = 2 ^ n - 1 := by omega
    rw [a, b, ih]
    omega
/-- a word of the shadow is odd just if half the length is -/
theorem Shd.self (g : Shd n B s) (h : Own n B) : Du.dot s s = decide (n / 2 % 2 = 1) := by
  have e := g.sp h (all_own h)
  have ea : s &&& (2 ^ n - 1) = s := by rw [Nat.and_two_pow_sub_one_eq_mod, Nat.mod_eq_of_lt g.1]
  unfold Du.dot at e ⊢
  rw [ea] at e
  rw [Nat.and_self, e]
  unfold hv
  rw [pop_all]
end
end Fo
set_option Elab.async false
set_option linter.all false
set_option maxRecDepth 100000
set_option maxHeartbeats 2000000
/-! lists that are extended, enumerate of a list that is lent; shadows of sums and of led codes -/
namespace Fx
open PySem L2 PyProof.Rows
theorem kExtend {X : Cx} {K : PySem.W.Frag} {pos apos : Pos} {o e : Expr} {to : TE} {t : TA} {es : List Expr} (h : X.K = K) (ho : PE X o to) (ha : PA X (e :: es) t)
    (h1 : attributeBase o "extend" X.env (eval o X.env) = eval o X.env := by rfl)
    (h2 : ((backTo pos (starEach (e :: es) X.env)).all (fun x => !x.1) && (backToKw pos (keywordEach [] X.env)).all (fun x => x.1.isSome) && decide ((e :: es).length + ([] : List Keyword).length + (if ([] : List Keyword).isEmpty then 0 else 1) < 30)) = true := by rfl)
    (h3 : (apos.endLine == pos.line) = true := by rfl) (h4 : starEach (e :: es) X.env = (false, eval e X.env) :: starEach es X.env := by rfl) (h5 : (backTo pos (starEach es X.env)).any (·.1) = false := by rfl) :
    PE X (.Call (.Attribute o "extend" apos) (e :: es) [] pos) (tBM K "list" rExtend to t) := by subst h; exact pe_bm PySem.F.plainAttrs_list PySem.F.slot_list_extend PySem.F.type_list_extend mt_extend ho ha h1 h2 h3 h4 h5
section
variable {K : PySem.W.Frag} {E : List Sl} {te : TE} {Φ : Sl → List Sl → Prop} {rs : List Rp} {i s : Nat} {nx : List Sl → Prop} {rt : Sl → List Sl → Prop} {bk ct : List Sl → Prop}
/-- xs.extend(ys) -/
theorem ws_ext (hi : E[i]? = some (.own rs)) (h : WE K te E fun k E1 => ∃ ss, k = .own ss ∧ E1[i]? = some (.own rs) ∧ rs.length + ss.length ≤ sizeLine ∧ nx (E1.set i (.own (rs ++ ss)))) : WS K (tDrop (tBM K "list" rExtend (tVar i) (tCons te tNil))) E nx rt bk ct := fun H0 O0 σ T H D hl ok n r b c => by
  obtain ⟨o, L, ho, ok1, _⟩ := ok.at hl hi
  obtain ⟨a, us, e, h2, _⟩ := ok1.head
  subst e
  refine ⟨.ref a, ho, Or.inl ⟨rfl, _, Or.inl (Or.inl h2)⟩, h H0 O0 σ T H hl ok _ fun k E1 ⟨ss, e, h1, hz, p⟩ l v H2 ok2 => ?_⟩
  subst e
  obtain ⟨d, zs, e, g2, g3, _⟩ := ok2.head
  cases e
  obtain ⟨o', L', ho', ok3, back⟩ := ok2.tail.at (by omega) h1
  obtain ⟨a', us', e, h3, h4, _⟩ := ok3.head
  subst e
  rw [ho] at ho'
  cases ho'
  refine ⟨a, d, us', zs, rfl, rfl, h3, g2, by rw [h4.len, g3.len]; exact hz, ?_⟩
  have ok4 := ok3.chL rfl (h4.app g3)
  exact n _ p σ _ (by simp [l, hl]) (back _ _ ok4)
/-- (k, ..) == (z,) -/
theorem opc_cdOne {k : At} {r : List El} {z : Str} (h : Fo.Ck (.t k r)) (hz : (At.S z).ok) : OPC K (rEqD K) (.im (rCd K (.t k r))) (.im (rT K [rS z])) (.im (rB (decide (k = .S z) && r.isEmpty))) := by
  obtain ⟨h1, _, h2⟩ := h
  have la : PyData.canLayAll0 (dA k :: r.map Fo.dE) = true := by
    have q : (dA k).canLay0 = true := h1
    rw [PyData.canLayAll0, q, lay_Es r h2]
    rfl
  have de : PyData.depthAll (dA k :: r.map Fo.dE) ≤ 8 := by
    have q := dep_Es r
    rw [PyData.depthAll]
    have : (dA k).depth ≤ 4 := by cases k <;> simp [dA, PyData.depth]
    omega
  have q := opc_eqD (K := K) (d := .tuple (dA k :: r.map Fo.dE)) (e := .tuple ([At.S z].map dA)) (dpc_im (dp_T (.cons (dp_A k) (dp_Es h2)))) (dpc_im (dp_T (dp_As (l := [.S z])))) (sh_tup4 la de) (sh_tA fun x hx => by rw [List.mem_singleton.mp hx]; exact hz)
  have e : PyData.eqv (.tuple (dA k :: r.map Fo.dE)) (.tuple ([At.S z].map dA)) = (decide (k = .S z) && r.isEmpty) := by
    show PyData.eqvAll (dA k :: r.map Fo.dE) [.str z] = _
    rw [PyData.eqvAll, eqv_AS]
    cases r with
    | nil => rfl
    | cons b l =>
      show (decide (k = .S z) && false) = (decide (k = .S z) && false)
      rfl
  rw [e] at q
  exact q
end
end Fx
namespace Fo
open PySem Fx Wd Gf Du Cu Nb Jv
section
variable {n m : Nat} {A B L : List Nat} {s x y c : Nat}
/-- all words of the shadow, ascending -/
def shT (B : List Nat) : List Nat := asort ((spanOf B).map (shR B ^^^ ·))
theorem mem_shT (h : Own n B) : x ∈ shT B ↔ Shd n B x := by
  unfold shT
  rw [(asort_perm _).mem_iff, List.mem_map]
  constructor
  · rintro ⟨u, hu, rfl⟩
    exact (shR_shd h).add h ((span_mem u B).mp hu)
  · intro g
    refine ⟨shR B ^^^ x, (span_mem _ B).mpr ((shR_shd h).diff g h), ?_⟩
    rw [← Nat.xor_assoc, Nat.xor_self, Nat.zero_xor]
theorem xor_inj {a : Nat} (e : a ^^^ x = a ^^^ y) : x = y := by
  have := congrArg (a ^^^ ·) e
  simp only [← Nat.xor_assoc, Nat.xor_self, Nat.zero_xor] at this
  exact this
theorem nodup_map_inj {α β : Type} {f : α → β} : ∀ {l : List α}, l.Nodup → (∀ a ∈ l, ∀ b ∈ l, f a = f b → a = b) → (l.map f).Nodup
  | [], _, _ => List.nodup_nil
  | a :: l, nd, hi => by
    obtain ⟨n1, n2⟩ := List.nodup_cons.mp nd
    refine List.nodup_cons.mpr ⟨fun z => ?_, nodup_map_inj n2 fun x hx y hy => hi x (List.mem_cons_of_mem _ hx) y (List.mem_cons_of_mem _ hy)⟩
    obtain ⟨b, hb, e⟩ := List.mem_map.mp z
    exact n1 (hi b (List.mem_cons_of_mem _ hb) a List.mem_cons_self e ▸ hb)
theorem nodup_lt {l : List Nat} (h : l.Pairwise (· < ·)) : l.Nodup := h.imp Nat.ne_of_lt
theorem shT_asc (h : Own n B) : (shT B).Pairwise (· < ·) := Lb.asort_lt (nodup_map_inj (nodup_lt (span_ord h.ok.bas.rr h.ok.o)) fun _ _ _ _ e => xor_inj e)
theorem shT_len (B : List Nat) : (shT B).length = 2 ^ B.length := by
  unfold shT
  rw [(asort_perm _).length_eq, List.length_map, span_length]
theorem shR_least (h : Own n B) (g : Shd n B s) : shR B ≤ s := by
  have := rem_le h.ok.bas.rr (w := shW B) ((sh_shd h).diff g h)
  rwa [← Nat.xor_assoc, Nat.xor_self, Nat.zero_xor] at this
theorem shd_gen (h : Own n B) {ws : List Nat} (sm : Same B ws) : Shd n B s ↔ s < 2 ^ n ∧ ∀ c ∈ ws, Du.dot s c = hv c := by
  constructor
  · exact fun g => ⟨g.1, fun c hc => g.sp h ((sm c).mpr (.mem hc))⟩
  · rintro ⟨h1, h2⟩
    have key : ∀ x, Sp ws x → Du.dot s x = hv x := fun x hx => by
      induction hx with
      | zero => rw [dot_zero, hv_zero]
      | @add y r hy hr ih => rw [dot_xor, ih, h2 r hr, hv_xor h ((sm y).mpr hy) ((sm r).mpr (.mem hr))]
    exact ⟨h1, fun c hc => key c ((sm c).mp (.mem hc))⟩
/-! led -/
theorem pop_put {p : Nat} (h : x.testBit p = false) : pop (2 ^ p ^^^ x) = pop x + 1 := by
  have a := pop_xor_and (2 ^ p) x
  rw [two_and, if_neg (by rw [h]; decide), pop_zero, pop_two] at a
  omega
theorem pop_word : ∀ {ps : List Nat}, ps.Nodup → pop (wordAt ps) = ps.length
  | [], _ => pop_zero
  | p :: ps, nd => by
    obtain ⟨n1, n2⟩ := List.nodup_cons.mp nd
    rw [wordAt_cons, pop_put, pop_word n2]
    · rfl
    · rw [wordAt_bit _ n2]
      exact decide_eq_false n1
theorem pop_places (x : Nat) : pop x = (placesOf x).length := by
  have nd : (placesOf x).Nodup := List.nodup_range.filter _
  have := pop_word nd
  rwa [wordAt_places] at this
theorem pop_mv (hL : Prm n L) (hx : x < 2 ^ n) : pop (mv L x) = pop x := by
  rw [mv_word hL hx, pop_word (mv_nd hL hx), List.length_map, pop_places x]
theorem hv_mv (hL : Prm n L) (hx : x < 2 ^ n) : hv (mv L x) = hv x := by
  unfold hv
  rw [pop_mv hL hx]
theorem mv_inj (hL : Prm n L) (hx : x < 2 ^ n) (hy : y < 2 ^ n) (e : mv L x = mv L y) : x = y := by
  refine Nat.eq_of_testBit_eq fun i => ?_
  rcases Nat.lt_or_ge i n with z | z
  · rw [← mv_bit hL hx z, ← mv_bit hL hy z, e]
  · rw [Nat.testBit_lt_two_pow (Nat.lt_of_lt_of_le hx (Nat.pow_le_pow_right (by decide) z)), Nat.testBit_lt_two_pow (Nat.lt_of_lt_of_le hy (Nat.pow_le_pow_right (by decide) z))]
theorem shd_mv (h : Own n B) (hL : Prm n L) (hs : s < 2 ^ n) : Shd n (basisOf (B.map (mv L))) (mv L s) ↔ Shd n B s := by
  rw [shd_gen (mv_own h hL) (basisOf_same _)]
  constructor
  · rintro ⟨_, h2⟩
    refine ⟨hs, fun c hc => ?_⟩
    have hl := h.ok.bas.lt c hc
    have := h2 (mv L c) (List.mem_map.mpr ⟨c, hc, rfl⟩)
    rwa [mv_dot hL hs hl, hv_mv hL hl] at this
  · rintro ⟨_, h2⟩
    refine ⟨mv_lt hL hs, fun c hc => ?_⟩
    obtain ⟨d, hd, rfl⟩ := List.mem_map.mp hc
    have hl := h.ok.bas.lt d hd
    rw [mv_dot hL hs hl, hv_mv hL hl]
    exact h2 d hd
/-- the shadow of a led code -/
theorem shT_mv (h : Own n B) (hL : Prm n L) : asort ((shT B).map (mv L)) = shT (basisOf (B.map (mv L))) := by
  refine asc_eq (Lb.asort_lt (nodup_map_inj (nodup_lt (shT_asc h)) fun a ha b hb e => mv_inj hL ((mem_shT h).mp ha).1 ((mem_shT h).mp hb).1 e)) (shT_asc (mv_own h hL)) fun x => ?_
  rw [(asort_perm _).mem_iff, List.mem_map, mem_shT (mv_own h hL)]
  constructor
  · rintro ⟨s, hs, rfl⟩
    have g := (mem_shT h).mp hs
    exact (shd_mv h hL g.1).mpr g
  · intro g
    obtain ⟨s, hs, rfl⟩ := mv_sur hL g.1
    exact ⟨s, (mem_shT h).mpr ((shd_mv h hL hs).mp g), rfl⟩
/-! by the half -/
theorem fours_half (h : Own n B) : halfB B = B ↔ fours B = true := by
  constructor
  · intro e
    refine List.all_eq_true.mpr fun c hc => ?_
    have : Sp (halfB B) c := by
      rw [e]
      exact .mem hc
    rw [((half_sp h).mp this).2]
    rfl
  · intro hf
    refine (basis_uniq h.ok.bas.rr h.ok.o fun x => ?_).symm
    rw [krn_sp fun _ _ a b => hv_xor h a b]
    exact ⟨fun q => ⟨q, fours_sp h hf q⟩, fun q => q.1⟩
theorem shd_half (h : Own n B) (hs : s < 2 ^ n) : Shd n B s ↔ (∀ c ∈ halfB B, Du.dot c s = false) ∧ (halfB B = B ∨ ∃ c ∈ B, Du.dot c s = true) := by
  constructor
  · intro g
    refine ⟨fun c hc => ?_, ?_⟩
    · obtain ⟨a, b⟩ := (half_sp h).mp (.mem hc)
      rw [dot_comm, g.sp h a, b]
    · cases hf : fours B with
      | true => exact .inl ((fours_half h).mpr hf)
      | false =>
        right
        have hn : ¬ ∀ c ∈ B, (!hv c) = true := fun z => by
          have : fours B = true := List.all_eq_true.mpr z
          rw [hf] at this
          cases this
        rcases Classical.not_forall.mp hn with ⟨c, hc⟩
        rcases Classical.not_imp.mp hc with ⟨c1, c2⟩
        refine ⟨c, c1, ?_⟩
        rw [dot_comm, g.2 c c1]
        simpa using c2
  · rintro ⟨h1, h2⟩
    have ev : ∀ c, Sp B c → hv c = false → Du.dot s c = false := fun c a b => by
      rw [dot_comm]
      have q : Sp (halfB B) c := (half_sp h).mpr ⟨a, b⟩
      rw [dot_comm]
      exact dot_sp (fun d hd => by rw [dot_comm]; exact h1 d hd) q
    refine ⟨hs, fun c hc => ?_⟩
    cases hq : hv c with
    | false => exact ev c (.mem hc) hq
    | true =>
      rcases h2 with h2 | ⟨d, hd, hd1⟩
      · have := (fours_half h).mp h2
        have := List.all_eq_true.mp this c hc
        rw [hq] at this
        cases this
      · cases hqd : hv d with
        | false =>
          have := ev d (.mem hd) hqd
          rw [dot_comm, hd1] at this
          cases this
        | true =>
          have e : hv (c ^^^ d) = false := by
            rw [hv_xor h (.mem hc) (.mem hd), hq, hqd]
            rfl
          have := ev _ ((Sp.mem hc).xor (.mem hd)) e
          rw [dot_xor, dot_comm s d, hd1] at this
          revert this
          cases Du.dot s c <;> decide
end
end Fo
set_option Elab.async false
set_option linter.all false
set_option maxRecDepth 100000
set_option maxHeartbeats 2000000
/-! two codes side by side -/
namespace Fo
open PySem Fx Wd Gf Du Cu Nb Jv
section
variable {n m k : Nat} {A B L : List Nat} {s x y c : Nat}
theorem pop_dbl (x : Nat) : pop (2 * x) = pop x := by
  rw [pop_eq, show 2 * x % 2 = 0 by omega, show 2 * x / 2 = x by omega, Nat.zero_add]
theorem pop_shl (x : Nat) : ∀ k, pop (x * 2 ^ k) = pop x
  | 0 => by rw [Nat.pow_zero, Nat.mul_one]
  | k + 1 => by
    rw [show x * 2 ^ (k + 1) = 2 * (x * 2 ^ k) by rw [Nat.pow_succ, Nat.mul_comm (2 ^ k), ← Nat.mul_assoc, Nat.mul_comm x 2, Nat.mul_assoc], pop_dbl, pop_shl x k]
theorem hv_shl (x k : Nat) : hv (x * 2 ^ k) = hv x := by
  unfold hv
  rw [pop_shl]
theorem bit_shl (x k i : Nat) : (x * 2 ^ k).testBit i = (decide (k ≤ i) && x.testBit (i - k)) := by
  rw [← Nat.shiftLeft_eq, Nat.testBit_shiftLeft]
theorem bit_shr (x k i : Nat) : (x / 2 ^ k).testBit i = x.testBit (i + k) := by
  rw [← Nat.shiftRight_eq_div_pow, Nat.testBit_shiftRight, Nat.add_comm]
theorem and_shl (x c k : Nat) : x &&& (c * 2 ^ k) = (x / 2 ^ k &&& c) * 2 ^ k := by
  refine Nat.eq_of_testBit_eq fun i => ?_
  rw [Nat.testBit_and, bit_shl, bit_shl, Nat.testBit_and, bit_shr]
  by_cases h : k ≤ i
  · rw [decide_eq_true h, Nat.sub_add_cancel h]
    simp
  · rw [decide_eq_false h]
    simp
theorem dot_shl (x c k : Nat) : Du.dot x (c * 2 ^ k) = Du.dot (x / 2 ^ k) c := by
  unfold Du.dot
  rw [and_shl, pop_shl]
theorem dot_low (x : Nat) (hc : c < 2 ^ k) : Du.dot x c = Du.dot (x % 2 ^ k) c := by
  have e : x &&& c = (x % 2 ^ k) &&& c := by
    refine Nat.eq_of_testBit_eq fun i => ?_
    rw [Nat.testBit_and, Nat.testBit_and, Nat.testBit_mod_two_pow]
    by_cases h : i < k
    · rw [decide_eq_true h]
      simp
    · rw [Nat.testBit_lt_two_pow (Nat.lt_of_lt_of_le hc (Nat.pow_le_pow_right (by decide) (by omega)))]
      simp
  unfold Du.dot
  rw [e]
theorem xor_lo (x y k : Nat) : (x ^^^ y) % 2 ^ k = x % 2 ^ k ^^^ y % 2 ^ k := by
  refine Nat.eq_of_testBit_eq fun i => ?_
  rw [Nat.testBit_xor, Nat.testBit_mod_two_pow, Nat.testBit_mod_two_pow, Nat.testBit_mod_two_pow, Nat.testBit_xor]
  cases decide (i < k) <;> simp
theorem xor_hi (x y k : Nat) : (x ^^^ y) / 2 ^ k = x / 2 ^ k ^^^ y / 2 ^ k := by
  refine Nat.eq_of_testBit_eq fun i => ?_
  rw [Nat.testBit_xor, bit_shr, bit_shr, bit_shr, Nat.testBit_xor]
theorem xor_up (x y k : Nat) : (x ^^^ y) * 2 ^ k = x * 2 ^ k ^^^ y * 2 ^ k := by
  refine Nat.eq_of_testBit_eq fun i => ?_
  rw [Nat.testBit_xor, bit_shl, bit_shl, bit_shl, Nat.testBit_xor]
  cases decide (k ≤ i) <;> simp
theorem two_parts (x k : Nat) : x = x % 2 ^ k ^^^ x / 2 ^ k * 2 ^ k := by
  refine Nat.eq_of_testBit_eq fun i => ?_
  rw [Nat.testBit_xor, Nat.testBit_mod_two_pow, bit_shl, bit_shr]
  by_cases h : k ≤ i
  · rw [decide_eq_true h, decide_eq_false (by omega), Nat.sub_add_cancel h]
    simp
  · rw [decide_eq_false h, decide_eq_true (by omega)]
    simp
theorem or_parts {h w : Nat} (hh : h < 2 ^ k) : (h ||| w * 2 ^ k) % 2 ^ k = h ∧ (h ||| w * 2 ^ k) / 2 ^ k = w := by
  have e : h ||| w * 2 ^ k = w * 2 ^ k + h := by
    have := Nat.shiftLeft_add_eq_or_of_lt hh w
    rw [Nat.shiftLeft_eq] at this
    rw [this, Nat.or_comm]
  have pos := Nat.two_pow_pos k
  rw [e]
  constructor
  · rw [Nat.add_comm, Nat.add_mul_mod_self_right, Nat.mod_eq_of_lt hh]
  · rw [Nat.add_comm, Nat.add_mul_div_right _ _ pos, Nat.div_eq_of_lt hh, Nat.zero_add]
def sumL (n : Nat) (A B : List Nat) : List Nat := A ++ B.map fun b => b * 2 ^ n
theorem sumL_lt (hA : ∀ a ∈ A, a < 2 ^ n) (hB : ∀ b ∈ B, b < 2 ^ m) : ∀ x ∈ sumL n A B, x < 2 ^ (n + m) := fun x hx => by
  rcases List.mem_append.mp hx with z | z
  · exact Nat.lt_of_lt_of_le (hA x z) (Nat.pow_le_pow_right (by decide) (by omega))
  · obtain ⟨b, hb, rfl⟩ := List.mem_map.mp z
    rw [Nat.pow_add, Nat.mul_comm (2 ^ n)]
    exact Nat.mul_lt_mul_of_pos_right (hB b hb) (Nat.two_pow_pos n)
theorem sum_sp (hA : ∀ a ∈ A, a < 2 ^ n) : Sp (sumL n A B) x ↔ Sp A (x % 2 ^ n) ∧ Sp B (x / 2 ^ n) := by
  constructor
  · intro h
    induction h with
    | zero => exact ⟨by rw [Nat.zero_mod]; exact .zero, by rw [Nat.zero_div]; exact .zero⟩
    | @add y r _ hr ih =>
      rw [xor_lo, xor_hi]
      rcases List.mem_append.mp hr with z | z
      · rw [Nat.mod_eq_of_lt (hA r z), Nat.div_eq_of_lt (hA r z), Nat.xor_zero]
        exact ⟨ih.1.xor (.mem z), ih.2⟩
      · obtain ⟨b, hb, rfl⟩ := List.mem_map.mp z
        rw [Nat.mul_mod_left, Nat.mul_div_cancel _ (Nat.two_pow_pos n), Nat.xor_zero]
        exact ⟨ih.1, ih.2.xor (.mem hb)⟩
  · rintro ⟨h1, h2⟩
    rw [two_parts x n]
    refine (Sp.sub (fun a ha => .mem (List.mem_append_left _ ha)) h1).xor ?_
    generalize x / 2 ^ n = y at h2
    induction h2 with
    | zero => rw [Nat.zero_mul]; exact .zero
    | @add z r _ hr ih =>
      rw [xor_up]
      exact ih.xor (.mem (List.mem_append_right _ (List.mem_map.mpr ⟨r, hr, rfl⟩)))
theorem hi_lt (h : x < 2 ^ (n + m)) : x / 2 ^ n < 2 ^ m := by
  rw [Nat.div_lt_iff_lt_mul (Nat.two_pow_pos n), ← Nat.pow_add, Nat.add_comm m]
  exact h
theorem whole_lt (h : x / 2 ^ n < 2 ^ m) : x < 2 ^ (n + m) := by
  rw [Nat.div_lt_iff_lt_mul (Nat.two_pow_pos n), ← Nat.pow_add, Nat.add_comm m] at h
  exact h
theorem sum_dl (hA : ∀ a ∈ A, a < 2 ^ n) : Dl (n + m) (sumL n A B) x ↔ Dl n A (x % 2 ^ n) ∧ Dl m B (x / 2 ^ n) := by
  constructor
  · rintro ⟨h1, h2⟩
    refine ⟨⟨Nat.mod_lt _ (Nat.two_pow_pos n), fun a ha => ?_⟩, hi_lt h1, fun b hb => ?_⟩
    · rw [← dot_low x (hA a ha)]
      exact h2 a (List.mem_append_left _ ha)
    · rw [← dot_shl]
      exact h2 _ (List.mem_append_right _ (List.mem_map.mpr ⟨b, hb, rfl⟩))
  · rintro ⟨⟨_, h1⟩, h2, h3⟩
    refine ⟨whole_lt h2, fun c hc => ?_⟩
    rcases List.mem_append.mp hc with z | z
    · rw [dot_low x (hA c z)]
      exact h1 c z
    · obtain ⟨b, hb, rfl⟩ := List.mem_map.mp z
      rw [dot_shl]
      exact h3 b hb
theorem sum_own (h : Own n A) (g : Own m B) (h24 : n + m ≤ 24) : Own (n + m) (basisOf (sumL n A B)) := by
  have lt := sumL_lt h.ok.bas.lt g.ok.bas.lt
  have n1 := h.ok.n1
  refine .of (.of (by omega) h24 lt) fun x => ?_
  rw [basisOf_same _ x, Dl.same (basisOf_same _), sum_sp h.ok.bas.lt, sum_dl h.ok.bas.lt, h.sp, g.sp]
theorem sum_shd (h : Own n A) (g : Own m B) (h24 : n + m ≤ 24) : Shd (n + m) (basisOf (sumL n A B)) s ↔ Shd n A (s % 2 ^ n) ∧ Shd m B (s / 2 ^ n) := by
  rw [shd_gen (sum_own h g h24) (basisOf_same _)]
  constructor
  · rintro ⟨h1, h2⟩
    refine ⟨⟨Nat.mod_lt _ (Nat.two_pow_pos n), fun a ha => ?_⟩, hi_lt h1, fun b hb => ?_⟩
    · rw [← dot_low s (h.ok.bas.lt a ha)]
      exact h2 a (List.mem_append_left _ ha)
    · rw [← dot_shl, ← hv_shl b n]
      exact h2 _ (List.mem_append_right _ (List.mem_map.mpr ⟨b, hb, rfl⟩))
  · rintro ⟨⟨_, h1⟩, h2, h3⟩
    refine ⟨whole_lt h2, fun c hc => ?_⟩
    rcases List.mem_append.mp hc with z | z
    · rw [dot_low s (h.ok.bas.lt c z)]
      exact h1 c z
    · obtain ⟨b, hb, rfl⟩ := List.mem_map.mp z
      rw [dot_shl, hv_shl]
      exact h3 b hb
/-- the words of both shadows -/
def dueL (n : Nat) (S T : List Nat) : List Nat := T.flatMap fun w => S.map fun h => h ||| w * 2 ^ n
theorem mem_due {S T : List Nat} (hS : ∀ h ∈ S, h < 2 ^ n) : x ∈ dueL n S T ↔ x % 2 ^ n ∈ S ∧ x / 2 ^ n ∈ T := by
  unfold dueL
  rw [List.mem_flatMap]
  constructor
  · rintro ⟨w, hw, hx⟩
    obtain ⟨h, hh, rfl⟩ := List.mem_map.mp hx
    obtain ⟨e1, e2⟩ := or_parts (w := w) (hS h hh)
    rw [e1, e2]
    exact ⟨hh, hw⟩
  · rintro ⟨h1, h2⟩
    refine ⟨_, h2, List.mem_map.mpr ⟨_, h1, ?_⟩⟩
    have hl : x % 2 ^ n < 2 ^ n := Nat.mod_lt _ (Nat.two_pow_pos n)
    have e := Nat.shiftLeft_add_eq_or_of_lt hl (x / 2 ^ n)
    rw [Nat.shiftLeft_eq] at e
    rw [Nat.or_comm, ← e]
    exact Nat.div_add_mod' x (2 ^ n)
theorem due_nodup {S : List Nat} (hS : ∀ h ∈ S, h < 2 ^ n) (nS : S.Nodup) : ∀ {T : List Nat}, T.Nodup → (dueL n S T).Nodup
  | [], _ => List.nodup_nil
  | w :: T, nd => by
    obtain ⟨n1, n2⟩ := List.nodup_cons.mp nd
    have ih := due_nodup hS nS n2
    have e : dueL n S (w :: T) = (S.map fun h => h ||| w * 2 ^ n) ++ dueL n S T := rfl
    rw [e, List.nodup_append]
    refine ⟨nodup_map_inj nS fun a ha b hb q => ?_, ih, fun a ha b hb q => ?_⟩
    · rw [← (or_parts (w := w) (hS a ha)).1, ← (or_parts (w := w) (hS b hb)).1, q]
    · obtain ⟨h, hh, rfl⟩ := List.mem_map.mp ha
      rw [← q] at hb
      have := ((mem_due hS).mp hb).2
      rw [(or_parts (w := w) (hS h hh)).2] at this
      exact n1 this
theorem due_shT (h : Own n A) (g : Own m B) (h24 : n + m ≤ 24) : asort (dueL n (shT A) (shT B)) = shT (basisOf (sumL n A B)) := by
  have hS : ∀ x ∈ shT A, x < 2 ^ n := fun x hx => ((mem_shT h).mp hx).1
  refine asc_eq (Lb.asort_lt (due_nodup hS (nodup_lt (shT_asc h)) (nodup_lt (shT_asc g)))) (shT_asc (sum_own h g h24)) fun x => ?_
  rw [(asort_perm _).mem_iff, mem_due hS, mem_shT h, mem_shT g, mem_shT (sum_own h g h24), sum_shd h g h24]
theorem due_min (h : Own n A) (g : Own m B) (h24 : n + m ≤ 24) : shR (basisOf (sumL n A B)) ∈ dueL n (shT A) (shT B) ∧ ∀ y ∈ dueL n (shT A) (shT B), shR (basisOf (sumL n A B)) ≤ y := by
  have o := sum_own h g h24
  have e : ∀ x, x ∈ dueL n (shT A) (shT B) ↔ Shd (n + m) (basisOf (sumL n A B)) x := fun x => by
    rw [← mem_shT o, ← due_shT h g h24, (asort_perm _).mem_iff]
  exact ⟨(e _).mpr (shR_shd o), fun y hy => shR_least o ((e y).mp hy)⟩
end
end Fo
set_option Elab.async false
set_option linter.all false
set_option maxRecDepth 100000
set_option maxHeartbeats 2000000
/-! tuples that are written here and asked for a member's place -/
namespace Fx
open PySem L2 PyProof.Rows
/-- a tuple that was written here -/
def rTN (K : PySem.W.Frag) (rs : List Rp) : Rp := ⟨fun v H => ∃ (a : Addr) (o : Obj) (vs : List V), v = .ref a ∧ H a = some (.frz o (.tup vs)) ∧ o.cls = .type "tuple" ∧ o.dict = none ∧ Vr H vs rs, fun e ⟨a, o, vs, h1, h2, h3, h4, h5⟩ => ⟨a, o, vs, h1, e.im _ _ rfl h2, h3, h4, h5.im e⟩, false, fun _ => fun ⟨a, o, vs, h1, h2, _⟩ e xs z => by rw [h1] at e; cases e; rw [h2] at z; cases z⟩
def tTupN (t : TA) : TE := fun σ H Q => t σ H fun xs H1 => xs.length ≤ sizeLine ∧ ∀ (p : Addr) (o : Obj), H1 p = none → o.cls = .type "tuple" → o.dict = none → Q (.ref p) (upd H1 p (.frz o (.tup xs)))
theorem kTupN {X : Cx} {K : PySem.W.Frag} {pos : Pos} {es : List Expr} {t : TA} {x1} (_ : X.K = K) (h : PA X es t) : PE X (.Tuple es x1 pos) (tTupN t) := by
  refine ⟨fun pins s σ H Q I hq => wpAny_Tuple_spliced (thn (h.run pos pins s σ H _ I hq) fun us s1 ⟨xs, H1, I1, r, z, q⟩ => ⟨by rw [← r.length]; exact z, ?_⟩)⟩
  have hf : H1 s1.heap.objs.size = none := I1.hok.fresh (Nat.le_refl _)
  refine ⟨.ref s1.heap.objs.size, upd H1 s1.heap.objs.size (.frz { cls := .type "tuple", data := .seq us.toArray } (.tup xs)), I1.laid (t' := s1.toks) (fun b u e => Heap.get?_push_of_some _ e) (Nat.le_refl _) ?_, rfl, q _ _ hf rfl rfl⟩
  exact ⟨Heap.get?_push_size _ rfl, z, us, r, ⟨_, Heap.get?_push_size _ rfl, rfl, _, rfl⟩⟩
def tTix (to : TE) (t : TA) : TE := fun σ H Q => to σ H fun x H1 => (∃ (a : Addr) (o : Obj) (vs : List V), x = .ref a ∧ H1 a = some (.frz o (.tup vs)) ∧ o.cls = .type "tuple" ∧ o.dict = none) ∧
  t σ H1 fun xs H2 => ∃ (a : Addr) (o : Obj) (ns : List Int) (n : Int), x = .ref a ∧ xs = [.int n] ∧ H2 a = some (.frz o (.tup (ns.map V.int))) ∧ n ∈ ns ∧ Q (.int (ns.idxOf n : Nat)) H2
theorem kTix {X : Cx} {K : PySem.W.Frag} {pos apos : Pos} {o e : Expr} {to : TE} {t : TA} {es : List Expr} (_ : X.K = K) (ho : PE X o to) (ha : PA X (e :: es) t)
    (h1 : attributeBase o "index" X.env (eval o X.env) = eval o X.env := by rfl)
    (h2 : ((backTo pos (starEach (e :: es) X.env)).all (fun x => !x.1) && (backToKw pos (keywordEach [] X.env)).all (fun x => x.1.isSome) && decide ((e :: es).length + ([] : List Keyword).length + (if ([] : List Keyword).isEmpty then 0 else 1) < 30)) = true := by rfl)
    (h3 : (apos.endLine == pos.line) = true := by rfl) (h4 : starEach (e :: es) X.env = (false, eval e X.env) :: starEach es X.env := by rfl) (h5 : (backTo pos (starEach es X.env)).any (·.1) = false := by rfl) :
    PE X (.Call (.Attribute o "index" apos) (e :: es) [] pos) (tTix to t) := by
  refine ⟨fun pins s σ H Q I h => wpAny_Call_method_late h1 h2 h3 rfl (thn (ho.run pins s σ H _ I h) fun v s1 ⟨x, H1, I1, r1, ⟨a, ob, vs, e1, g, hc, hd⟩, q1⟩ => ?_)⟩
  subst e1
  cases r1
  obtain ⟨g, _⟩ := I1.hok a _ g
  refine ⟨"tuple", "tuple.index", PySem.F.plainAttrs_tuple, PySem.F.slot_tuple_index, PySem.F.type_tuple_index, ⟨ob, g, hc⟩, fun b z => by cases z; exact ⟨ob, g, hd⟩, ?_⟩
  have hA := ha.run pos pins s1 σ H1 _ I1 q1
  rw [h4] at hA ⊢
  refine Calls.callWith_builtin (by show (false || (backTo pos (starEach es X.env)).any (·.1)) = false; rw [h5] <;> rfl) (Calls.evalArgs_plain ?_)
  refine thn hA fun us s2 ⟨xs, H2, I2, r2, a', ob', ns, n, z1, z2, g2, hn, q2⟩ => ?_
  cases z1
  subst z2
  obtain ⟨u, rfl, k, rfl⟩ := vals1 r2
  obtain ⟨its, r, pl, _⟩ := I2.tuple (a := a) (xs := ns.map V.int) (.inl (.inr ⟨ob', g2⟩))
  exact PySem.SeqAt.tuple_index_ints pl (ints_are r) hn ⟨.int (ns.idxOf n : Nat), H2, I2.tok _, ⟨_, rfl⟩, q2⟩
/-- a number or None -/
def rON : Option Nat → Rp
  | some n => rN n
  | none => rU
def dON : Option Nat → PyData
  | some n => .int (n : Int)
  | none => .none
theorem dp_ON {K : PySem.W.Frag} : ∀ {o : Option Nat}, DpR K (rON o) (dON o)
  | some _ => dp_I
  | none => dp_U
section
variable {K : PySem.W.Frag} {E : List Sl} {te : TE} {Φ : Sl → List Sl → Prop} {rs : List Rp} {i : Nat}
theorem idx_cast (n : Nat) : ∀ ns : List Nat, (ns.map fun (n : Nat) => (n : Int)).idxOf (n : Int) = ns.idxOf n
  | [] => rfl
  | m :: t => by
    rw [List.map_cons, List.idxOf_cons, List.idxOf_cons, idx_cast n t]
    by_cases h : m = n
    · subst h
      simp
    · have h1 : (m == n) = false := beq_eq_false_iff_ne.mpr h
      have h2 : ((m : Int) == (n : Int)) = false := beq_eq_false_iff_ne.mpr (by omega)
      rw [h1, h2]
theorem we_tupN {tr : TA} (h : WA K tr E fun ks E1 => ∃ rs : List Rp, ks = rs.map Sl.im ∧ rs.length ≤ sizeLine ∧ Φ (.im (rTN K rs)) E1) : WE K (tTupN tr) E Φ := fun H0 O0 σ T H hl ok Q q =>
  h H0 O0 σ T H hl ok _ fun ks E1 ⟨rs, e, z, p⟩ l1 vs H1 lv ok1 => by
    subst e
    obtain ⟨hv, ok2⟩ := ok1.vals lv
    refine ⟨by rw [hv.len]; exact z, fun a o ha hc hd => q _ E1 p l1 _ _ ?_⟩
    have e : ∀ b u, H1 b = some u → upd H1 a (.frz o (.tup vs)) b = some u := fun b u z => by rw [upd_ne (ne_of_none z ha)]; exact z
    exact (ok2.ext e).im ⟨a, o, vs, rfl, upd_same, hc, hd, hv.im (.of e)⟩
theorem we_tix {ns : List Nat} (hi : E[i]? = some (.im (rTN K (ns.map rN)))) (h : WE K te E fun k E1 => ∃ n : Nat, k = .im (rN n) ∧ E1[i]? = some (.im (rTN K (ns.map rN))) ∧ n ∈ ns ∧ Φ (.im (rN (ns.idxOf n))) E1) : WE K (tTix (tVar i) (tCons te tNil)) E Φ := fun H0 O0 σ T H hl ok Q q => by
  obtain ⟨v, L, hv, ok1, _⟩ := ok.at hl hi
  obtain ⟨w0, e0, a, o, vs, e, g, hc, hd, _⟩ := ok1.head
  cases e0
  subst e
  refine ⟨.ref a, hv, ⟨a, o, vs, rfl, g, hc, hd⟩, h H0 O0 σ T H hl ok _ fun k E1 ⟨n, e, h1, hn, p⟩ l w H2 ok2 => ?_⟩
  subst e
  obtain ⟨w1, e1, hw⟩ := ok2.head
  cases e1
  have hw : w = V.int (n : Int) := hw
  obtain ⟨v', L', hv', ok3, _⟩ := ok2.tail.at (by omega) h1
  obtain ⟨w2, e2, a', o', vs', e, g', _, _, hr⟩ := ok3.head
  cases e2
  subst e hw
  rw [hv] at hv'
  cases hv'
  rw [hr.nats] at g'
  refine ⟨a, o', ns.map fun (n : Nat) => (n : Int), (n : Int), rfl, rfl, g', List.mem_map_of_mem hn, ?_⟩
  rw [idx_cast]
  exact q _ E1 p l _ _ (ok2.tail.im rfl)
theorem sqN {H : Hp} {a : Addr} {o : Obj} {vs : List V} (h : H a = some (.frz o (.tup vs))) : SqT K H a vs := .inl (.inr ⟨o, h⟩)
theorem opc_inN {n : Nat} {ws : List Nat} {neg : Bool} : OPC K (rIn K neg) (.im (rN n)) (.im (rTN K (ws.map rN))) (.im (rB (if neg then !decide (n ∈ ws) else decide (n ∈ ws)))) := fun H x y h1 ⟨b, o, us, e1, e2, _, _, e3⟩ Q q => by
  subst e1
  have h1 : x = .int (n : Int) := h1
  subst h1
  obtain ⟨a1, a2⟩ := inV_nat (n := n) e3
  refine ⟨b, us, rfl, .inr (sqN e2), rfl, a2, q _ _ (res_here ?_)⟩
  show V.bl _ = V.bl _
  rw [a1]
theorem opc_ixN {n : Int} {m : Nat} {R : Rp} (hn : n = (m : Int)) (h : rs[m]? = some R) : OPC K (rIxT K) (.im (rTN K rs)) (.im (rI n)) (.im R) := fun H x y ⟨a, o, vs, h1, h2, _, _, h3⟩ e1 Q q => by
  subst h1
  have e1 : y = .int n := e1
  subst e1
  obtain ⟨v, hv, hr⟩ := h3.get h
  exact ⟨a, vs, n, v, rfl, rfl, sqN h2, by rw [hn]; exact atI_nat hv, q _ _ (res_here hr)⟩
theorem eqv_nat (ws us : List Nat) : PyData.eqv (.tuple (nd ws)) (.tuple (nd us)) = decide (ws = us) := eqv_tup ws us
theorem dp_TN {ds : List PyData} (h : Paired (DpR K) rs ds) : DpR K (rTN K rs) (.tuple ds) := fun v H ⟨a, o, vs, h1, h2, _, _, h3⟩ => by
  subst h1
  exact .tup (sqN h2) (dpAll_of h3 h)
/-- two of them, unlike -/
theorem opc_neN {ws us : List Nat} : OPC K (rNeD K) (.im (rTN K (ws.map rN))) (.im (rTN K (us.map rN))) (.im (rB (!decide (ws = us)))) := by
  have h := opc_neD (K := K) (dpc_im (dp_TN (dp_nd (ws := ws)))) (dpc_im (dp_TN (dp_nd (ws := us)))) sh_tn sh_tn
  rw [eqv_nat] at h
  exact h
end
end Fx
set_option Elab.async false
set_option linter.all false
set_option maxRecDepth 100000
set_option maxHeartbeats 2000000
/-! the quarters of a code that is not by fours -/
namespace Fo
open PySem Fx Wd Gf Du Cu Nb Jv
section
variable {n : Nat} {B : List Nat} {s t x y : Nat}
/-- a word of the basis whose weight isn't by four -/
def oh (B : List Nat) : Nat := (B.filter hv).headD 0
theorem oh_mem (nf : fours B = false) : oh B ∈ B ∧ hv (oh B) = true := by
  have : oh B ∈ B.filter hv := by
    unfold oh
    cases q : B.filter hv with
    | nil =>
      exfalso
      have : fours B = true := List.all_eq_true.mpr fun b hb => by
        cases z : hv b with
        | false => rfl
        | true =>
          have := List.mem_filter.mpr ⟨hb, z⟩
          rw [q] at this
          cases this
      rw [this] at nf
      cases nf
    | cons a l => exact List.mem_cons_self
  exact ⟨(List.mem_filter.mp this).1, (List.mem_filter.mp this).2⟩
theorem oh_sp (nf : fours B = false) : Sp B (oh B) := .mem (oh_mem nf).1
def r2 (B : List Nat) : Nat := rem (halfB B) (oh B)
def qrt (B : List Nat) : List Nat := [0, shR B, r2 B, rem (halfB B) (shR B ^^^ oh B)]
theorem half_rr (h : Own n B) : RR (halfB B) := (half_ok h).bas.rr
theorem half_sub (h : Own n B) (hx : Sp (halfB B) x) : Sp B x := ((half_sp h).mp hx).1
/-- the least word of the shadow is a remainder by the half too -/
theorem sh_rem (h : Own n B) : rem (halfB B) (shR B) = shR B := by
  have a : rem (halfB B) (shR B) ≤ shR B := by
    have := rem_le (half_rr h) (w := shR B) (x := 0) .zero
    rwa [Nat.xor_zero] at this
  have hs : Sp B (shW B ^^^ rem (halfB B) (shR B)) := by
    have := (shR_sp B).xor (half_sub h (rem_span (halfB B) (shR B)))
    rwa [Nat.xor_assoc, ← Nat.xor_assoc (shR B) (shR B), Nat.xor_self, Nat.zero_xor] at this
  have b := rem_le h.ok.bas.rr (w := shW B) hs
  rw [← Nat.xor_assoc, Nat.xor_self, Nat.zero_xor] at b
  exact Nat.le_antisymm a b
theorem r3_eq (h : Own n B) : rem (halfB B) (shR B ^^^ oh B) = shR B ^^^ r2 B := by
  rw [rem_xor (half_rr h), sh_rem h]
  rfl
theorem r2_rem (h : Own n B) : rem (halfB B) (r2 B) = r2 B := by
  have := rem_again (half_rr h) (w := oh B) (x := 0) .zero
  rwa [Nat.xor_zero] at this
theorem r2_ne (h : Own n B) (nf : fours B = false) : r2 B ≠ 0 := fun z => by
  have := ((half_sp h).mp ((rem_zero_iff (half_rr h)).mp z)).2
  rw [(oh_mem nf).2] at this
  cases this
theorem sh_ne (h : Own n B) (nf : fours B = false) : shR B ≠ 0 := fun z => by
  have := shR_zero h
  rw [decide_eq_true z, nf] at this
  cases this
theorem sh_out (h : Own n B) (nf : fours B = false) : ¬ Sp B (shR B) := fun z => by
  have a := h.dot z (oh_sp nf)
  rw [(shR_shd h).sp h (oh_sp nf), (oh_mem nf).2] at a
  cases a
theorem sh_r2 (h : Own n B) (nf : fours B = false) : shR B ≠ r2 B := fun z => sh_out h nf (by
  have a := half_sub h (rem_span (halfB B) (oh B))
  have b := a.xor (oh_sp nf)
  rw [Nat.xor_comm, ← Nat.xor_assoc, Nat.xor_self, Nat.zero_xor] at b
  rw [z]
  exact b)
theorem xor_two (u a c : Nat) : (u ^^^ a) ^^^ (u ^^^ c) = c ^^^ a := Nat.eq_of_testBit_eq fun i => by
  simp only [Nat.testBit_xor]
  cases u.testBit i <;> cases a.testBit i <;> cases c.testBit i <;> rfl
theorem xor_back (p q z : Nat) : p ^^^ z = q ^^^ ((p ^^^ q) ^^^ z) := Nat.eq_of_testBit_eq fun i => by
  simp only [Nat.testBit_xor]
  cases p.testBit i <;> cases q.testBit i <;> cases z.testBit i <;> rfl
def c4 (a r i : Nat) : Nat := (if i % 2 = 1 then a else 0) ^^^ (if i / 2 % 2 = 1 then r else 0)
theorem lt4 {i : Nat} (h : i < 4) : i = 0 ∨ i = 1 ∨ i = 2 ∨ i = 3 := by omega
theorem qrt_get (h : Own n B) {i : Nat} (hi : i < 4) : (qrt B)[i]? = some (c4 (shR B) (r2 B) i) := by
  unfold qrt
  rw [r3_eq h]
  rcases lt4 hi with rfl | rfl | rfl | rfl
  · show some 0 = some (0 ^^^ 0)
    rfl
  · show some (shR B) = some (shR B ^^^ 0)
    rw [Nat.xor_zero]
  · show some (r2 B) = some (0 ^^^ r2 B)
    rw [Nat.zero_xor]
  · rfl
theorem c4_xor (a r : Nat) {i j : Nat} (hi : i < 4) (hj : j < 4) : c4 a r i ^^^ c4 a r j = c4 a r (i ^^^ j) := by
  have e1 : a ^^^ (a ^^^ r) = r := by rw [← Nat.xor_assoc, Nat.xor_self, Nat.zero_xor]
  have e2 : r ^^^ (a ^^^ r) = a := by rw [Nat.xor_comm a, ← Nat.xor_assoc, Nat.xor_self, Nat.zero_xor]
  have e3 : (a ^^^ r) ^^^ a = r := by rw [Nat.xor_comm, e1]
  have e4 : (a ^^^ r) ^^^ r = a := by rw [Nat.xor_comm, e2]
  rcases lt4 hi with rfl | rfl | rfl | rfl <;> rcases lt4 hj with rfl | rfl | rfl | rfl <;> simp [c4, e1, e2, e3, e4, Nat.xor_comm r a]
theorem c4_rem (h : Own n B) (i : Nat) : rem (halfB B) (c4 (shR B) (r2 B) i) = c4 (shR B) (r2 B) i := by
  have z : rem (halfB B) 0 = 0 := rem_zero (half_rr h)
  unfold c4
  rw [rem_xor (half_rr h)]
  congr 1
  · split
    · exact sh_rem h
    · exact z
  · split
    · exact r2_rem h
    · exact z
theorem qrt_nodup (h : Own n B) (nf : fours B = false) : (qrt B).Nodup := by
  have a1 := sh_ne h nf
  have a2 := r2_ne h nf
  have a3 := sh_r2 h nf
  unfold qrt
  rw [r3_eq h]
  have b1 : shR B ^^^ r2 B ≠ 0 := fun z => a3 (xor_zero_eq z)
  have b2 : shR B ^^^ r2 B ≠ shR B := fun z => a2 (by
    have := congrArg (shR B ^^^ ·) z
    rwa [← Nat.xor_assoc, Nat.xor_self, Nat.zero_xor] at this)
  have b3 : shR B ^^^ r2 B ≠ r2 B := fun z => a1 (by
    have := congrArg (· ^^^ r2 B) z
    rwa [Nat.xor_assoc, Nat.xor_self, Nat.xor_zero] at this)
  refine .cons ?_ (.cons ?_ (.cons ?_ (.cons (fun _ h => (by cases h)) .nil)))
  · intro x hx
    simp only [List.mem_cons, List.not_mem_nil, or_false] at hx
    rcases hx with rfl | rfl | rfl
    · exact a1.symm
    · exact a2.symm
    · exact b1.symm
  · intro x hx
    simp only [List.mem_cons, List.not_mem_nil, or_false] at hx
    rcases hx with rfl | rfl
    · exact a3
    · exact b2.symm
  · intro x hx
    simp only [List.mem_cons, List.not_mem_nil, or_false] at hx
    subst hx
    exact b3.symm
/-- the quarter of a word -/
def quO (B : List Nat) (w : Nat) : Option Nat := if rem (halfB B) w ∈ qrt B then some ((qrt B).idxOf (rem (halfB B) w)) else none
theorem idx_get {l : List Nat} (nd : l.Nodup) {i a : Nat} (h : l[i]? = some a) : a ∈ l ∧ l.idxOf a = i := by
  obtain ⟨hi, e⟩ := List.getElem?_eq_some_iff.mp h
  subst e
  exact ⟨List.getElem_mem hi, nd.idxOf_getElem i hi⟩
theorem quO_at (h : Own n B) (nf : fours B = false) {i : Nat} (hi : i < 4) (hx : Sp (halfB B) x) : quO B (c4 (shR B) (r2 B) i ^^^ x) = some i := by
  have e : rem (halfB B) (c4 (shR B) (r2 B) i ^^^ x) = c4 (shR B) (r2 B) i := by
    rw [rem_xor (half_rr h), c4_rem h, (rem_zero_iff (half_rr h)).mpr hx, Nat.xor_zero]
  obtain ⟨a, b⟩ := idx_get (qrt_nodup h nf) (qrt_get h hi)
  unfold quO
  rw [e, if_pos a, b]
/-- the least words again, by one word of the shadow -/
theorem qrt_min (h : Own n B) (nf : fours B = false) : Nat.min (rem (halfB B) (shW B)) (rem (halfB B) (rem (halfB B) (shW B) ^^^ oh B)) = shR B ∧ Nat.max (rem (halfB B) (shW B)) (rem (halfB B) (rem (halfB B) (shW B) ^^^ oh B)) = rem (halfB B) (shR B ^^^ oh B) := by
  have e0 : ∀ w, rem (halfB B) (rem (halfB B) w) = rem (halfB B) w := fun w => by
    have := rem_again (half_rr h) (w := w) (x := 0) .zero
    rwa [Nat.xor_zero] at this
  have e1 : rem (halfB B) (rem (halfB B) (shW B) ^^^ oh B) = rem (halfB B) (shW B) ^^^ r2 B := by
    rw [rem_xor (half_rr h), e0]
    rfl
  have hle : shR B ≤ shR B ^^^ r2 B := by
    rw [← r3_eq h]
    have hs : Sp B (shW B ^^^ rem (halfB B) (shR B ^^^ oh B)) := by
      have q := half_sub h (rem_span (halfB B) (shR B ^^^ oh B))
      have p := ((shR_sp B).xor (oh_sp nf)).xor q
      have e : shW B ^^^ shR B ^^^ oh B ^^^ (shR B ^^^ oh B ^^^ rem (halfB B) (shR B ^^^ oh B)) = shW B ^^^ rem (halfB B) (shR B ^^^ oh B) := by
        rw [← Nat.xor_assoc, Nat.xor_assoc (shW B) (shR B) (oh B), Nat.xor_assoc (shW B), Nat.xor_self, Nat.xor_zero]
      rwa [e] at p
    have b := rem_le h.ok.bas.rr (w := shW B) hs
    rwa [← Nat.xor_assoc, Nat.xor_self, Nat.zero_xor] at b
  rw [e1, r3_eq h]
  have hd := shR_sp B
  cases q : hv (shW B ^^^ shR B) with
  | false =>
    have : rem (halfB B) (shW B) = shR B := by
      rw [(rem_eq_iff (half_rr h)).mpr ((half_sp h).mpr ⟨hd, q⟩), sh_rem h]
    rw [this]
    exact ⟨Nat.min_eq_left hle, Nat.max_eq_right hle⟩
  | true =>
    have : rem (halfB B) (shW B) = shR B ^^^ r2 B := by
      rw [← r3_eq h]
      refine (rem_eq_iff (half_rr h)).mpr ((half_sp h).mpr ⟨?_, ?_⟩)
      · rw [← Nat.xor_assoc]
        exact hd.xor (oh_sp nf)
      · rw [← Nat.xor_assoc, hv_xor h hd (oh_sp nf), q, (oh_mem nf).2]
        rfl
    rw [this]
    have e2 : shR B ^^^ r2 B ^^^ r2 B = shR B := by rw [Nat.xor_assoc, Nat.xor_self, Nat.xor_zero]
    rw [e2]
    exact ⟨Nat.min_eq_right hle, Nat.max_eq_left hle⟩
def tabB (odd : Bool) (i j : Nat) : Bool := ((decide (i % 2 = 1) && decide (j % 2 = 1) && odd) ^^ (decide (i % 2 = 1) && decide (j / 2 % 2 = 1))) ^^ (decide (i / 2 % 2 = 1) && decide (j % 2 = 1))
/-- the table of their products -/
def tabL (o : Bool) : List (List Nat) := if o then [[0, 0, 0, 0], [0, 1, 1, 0], [0, 1, 0, 1], [0, 0, 1, 1]] else [[0, 0, 0, 0], [0, 0, 1, 1], [0, 1, 0, 1], [0, 1, 1, 0]]
theorem tabL_get (o : Bool) {i j : Nat} (hi : i < 4) (hj : j < 4) : ∃ r, (tabL o)[i]? = some r ∧ r[j]? = some (if tabB o i j then 1 else 0) := by
  rcases lt4 hi with rfl | rfl | rfl | rfl <;> rcases lt4 hj with rfl | rfl | rfl | rfl <;> cases o <;> exact ⟨_, rfl, rfl⟩
theorem c4_half (h : Own n B) (i : Nat) : Sp (halfB B) (c4 (shR B) (r2 B) i ^^^ c4 (shR B) (oh B) i) := by
  have e := rem_span (halfB B) (oh B)
  unfold c4
  have z : ∀ u : Nat, (u ^^^ (if i / 2 % 2 = 1 then r2 B else 0)) ^^^ (u ^^^ (if i / 2 % 2 = 1 then oh B else 0)) = if i / 2 % 2 = 1 then oh B ^^^ r2 B else 0 := fun u => by
    rw [xor_two]
    split
    · rfl
    · rfl
  rw [z]
  split
  · exact e
  · exact .zero
theorem dot_c4 (h : Own n B) (nf : fours B = false) (i j : Nat) (hx : Sp (halfB B) x) (hy : Sp (halfB B) y) : Du.dot (c4 (shR B) (oh B) i ^^^ x) (c4 (shR B) (oh B) j ^^^ y) = tabB (decide (n / 2 % 2 = 1)) i j := by
  have g := shR_shd h
  have hx' := (half_sp h).mp hx
  have hy' := (half_sp h).mp hy
  have a1 := g.self h
  have a2 : Du.dot (shR B) (oh B) = true := by rw [g.sp h (oh_sp nf), (oh_mem nf).2]
  have a3 : Du.dot (oh B) (shR B) = true := by rw [dot_comm, a2]
  have a4 := h.dot (oh_sp nf) (oh_sp nf)
  have a5 : Du.dot (shR B) y = false := by rw [g.sp h hy'.1, hy'.2]
  have a6 : Du.dot x (shR B) = false := by rw [dot_comm, g.sp h hx'.1, hx'.2]
  have a7 := h.dot (oh_sp nf) hy'.1
  have a8 := h.dot hx'.1 (oh_sp nf)
  have a9 := h.dot hx'.1 hy'.1
  unfold c4 tabB
  by_cases p1 : i % 2 = 1 <;> by_cases p2 : i / 2 % 2 = 1 <;> by_cases p3 : j % 2 = 1 <;> by_cases p4 : j / 2 % 2 = 1 <;>
    simp only [p1, p2, p3, p4, if_true, if_false, decide_true, decide_false, xor_dot, dot_xor, a1, a2, a3, a4, a5, a6, a7, a8, a9, zero_dot, dot_zero] <;>
    generalize decide (n / 2 % 2 = 1) = o <;> cases o <;> rfl
/-- products of words of quarters -/
theorem dot_q (h : Own n B) (nf : fours B = false) {i j : Nat} (hx : Sp (halfB B) x) (hy : Sp (halfB B) y) : Du.dot (c4 (shR B) (r2 B) i ^^^ x) (c4 (shR B) (r2 B) j ^^^ y) = tabB (decide (n / 2 % 2 = 1)) i j := by
  rw [xor_back _ (c4 (shR B) (oh B) i) x, xor_back _ (c4 (shR B) (oh B) j) y]
  exact dot_c4 h nf i j ((c4_half h i).xor hx) ((c4_half h j).xor hy)
end
end Fo
set_option Elab.async false
set_option linter.all false
set_option maxRecDepth 100000
set_option maxHeartbeats 2000000
namespace K58
open PySem L2 Fx Wd Gf Lb Px PyProof.Rows RT
def topS (i : Nat) : Stmt := PySem.Challenge.pw_ownchecks_k58_whole_quarters_of_words.main.body.getD i (.Pass ⟨0, 0, 0, 0⟩)
structure Bt (mg : Str → Option Value) : Prop where
  b_len : mg "len" = none
  b_tuple : mg "tuple" = none
  b_range : mg "range" = none
  b_min : mg "min" = none
  b_sorted : mg "sorted" = none
  b_reversed : mg "reversed" = none
  b_abs : mg "abs" = none
  b_max : mg "max" = none
  b_list : mg "list" = none
  b_sum : mg "sum" = none
  b_isinstance : mg "isinstance" = none
  b_int : mg "int" = none
  b_bool : mg "bool" = none
  b_all : mg "all" = none
  b_set : mg "set" = none
  b_str : mg "str" = none
  b_repr : mg "repr" = none
  b_enumerate : mg "enumerate" = none
  b_zip : mg "zip" = none
  b_divmod : mg "divmod" = none
structure Ct (mg : Str → Option Value) : Prop where
  c_MOST_LENGTH : ∃ t, mg "MOST_LENGTH" = some (Value.int 24 t)
  c_MOST_WORDS : ∃ t, mg "MOST_WORDS" = some (Value.int 64 t)
structure Txt (K : PySem.W.Frag) (mg : Str → Option Value) (C : Addr) : Prop where
  m : mg "Code" = some (.ref C)
  is : ClsIs K C
  nL : NoAttr K C "_length"
  nB : NoAttr K C "_basis"
local macro_rules | `(tactic| walk_at "fx") => `(tactic| first
  | with_reducible refine ws_seq ?_
  | with_reducible refine ws_asg ?_
  | with_reducible refine ws_ret ?_
  | with_reducible refine ws_drop ?_
  | with_reducible refine ws_if ?_
  | with_reducible refine ws_next ?_
  | with_reducible refine wt_not ?_
  | with_reducible refine wt_B ?_
  | with_reducible refine wt_test ?_
  | with_reducible refine wt_and ?_
  | with_reducible refine wt_or ?_
  | with_reducible refine wt_yes ?_
  | refine wt_tru ?_
  | refine we_var rfl ?_
  | with_reducible refine we_int ?_
  | with_reducible refine we_bl ?_
  | with_reducible refine we_str ?_
  | with_reducible refine we_non ?_
  | with_reducible refine we_ty ?_
  | with_reducible refine we_if ?_
  | with_reducible refine we_andV ?_
  | with_reducible refine we_orV ?_
  | with_reducible refine we_notV ?_
  | with_reducible refine we_un ?_
  | with_reducible refine we_tup ?_
  | with_reducible refine we_lst ?_
  | with_reducible refine we_bits ?_
  | with_reducible refine we_chain ?_
  | with_reducible refine we_call ?_
  | with_reducible refine we_cb ?_
  | refine we_ixBox (m := 0) rfl rfl rfl ?_
  | refine we_ixBox (m := 1) rfl rfl rfl ?_
  | refine we_ixBox (m := 2) rfl rfl rfl ?_
  | with_reducible refine we_opc (r := rCat) ?_
  | with_reducible refine we_opc (r := rIn _ _) ?_
  | with_reducible refine we_opc (r := rIxL _) ?_
  | with_reducible refine we_opc (r := rIxT _) ?_
  | with_reducible refine we_opc (r := rIx _) ?_
  | with_reducible refine we_op ?_
  | with_reducible refine wa_nil ?_
  | with_reducible refine wa_cons ?_
  | refine wc_nil ?_
  | refine wc_im (we_var rfl ⟨_, rfl, ?_⟩)
  | refine wc_var rfl ?_
  | refine wc_seq rfl ?_
  | refine wc_bor rfl ?_
  | with_reducible refine wc_im ?_
  | refine wq_nil ?_
  | refine wq_im (we_var rfl ⟨_, rfl, rfl, ?_⟩)
  | refine wq_var rfl ?_
  | with_reducible refine wq_im ?_
  | with_reducible refine ⟨_, opr_add, ?_⟩
  | with_reducible refine ⟨_, opr_sub, ?_⟩
  | with_reducible refine ⟨_, opr_xor, ?_⟩
  | with_reducible refine ⟨_, opr_and1, ?_⟩
  | with_reducible refine ⟨_, opr_and, ?_⟩
  | with_reducible refine ⟨_, opr_shr, ?_⟩
  | with_reducible refine ⟨_, opr_lt, ?_⟩
  | with_reducible refine ⟨_, opr_le, ?_⟩
  | with_reducible refine ⟨_, opr_gt, ?_⟩
  | with_reducible refine ⟨_, opr_ge, ?_⟩
  | with_reducible refine ⟨_, opr_eqI, ?_⟩
  | with_reducible refine ⟨_, opr_neI, ?_⟩
  | with_reducible refine ⟨_, opr_mod (by first | assumption | omega), ?_⟩
  | with_reducible refine ⟨_, cpr_int, ?_⟩
  | with_reducible refine ⟨_, cpr_intB, ?_⟩
  | with_reducible refine ⟨_, cpr_abs, ?_⟩
  | with_reducible refine ⟨_, cpr_max2, ?_⟩
  | with_reducible refine ⟨_, cpr_min2N, ?_⟩
  | with_reducible refine ⟨_, cpr_len, ?_⟩
  | with_reducible refine ⟨_, cpr_len.cv (.cons cv_ls .nil), ?_⟩
  | with_reducible refine ⟨_, cpr_len.cv (.cons cv_ts .nil), ?_⟩
  | with_reducible refine ⟨_, cpr_len.cv (.cons cv_bs .nil), ?_⟩
  | with_reducible refine ⟨_, cpr_tup.cv (.cons cv_lb .nil), ?_⟩
  | with_reducible refine ⟨_, cpr_sorted.cv (.cons cv_lb .nil), ?_⟩
  | with_reducible refine ⟨_, opr_mul (by assumption), ?_⟩
  | with_reducible refine ⟨_, rfl, ?_⟩
  | refine ⟨(show _[_]? = some _ from rfl), ?_⟩
  | fail)

section
variable {P : Program} {w : World} {K : PySem.W.Frag} {mg : Str → Option Value} {base : Heap} {f C : Addr} {fd : FuncData}
abbrev s_is_integer : Stmt := topS 1
theorem sc_is_integer : FnScope ["value"] ["value"] (defScope s_is_integer) := ⟨rfl, rfl, rfl, by decide +kernel, rfl, by decide +kernel, by decide +kernel⟩
abbrev Sp_is_integer (K : PySem.W.Frag) : Sp := spP K (fun (p : Rp × Knd) => [.im p.1]) (fun p => HasKnd K p.1 p.2) (fun p => .im (rB (p.2 == .int)))
theorem ok_is_integer (d : DefAt K mg "is_integer" s_is_integer ["value"] f fd) (B : Bt mg) : Has P w K mg base "is_integer" ["value"] 1 (Sp_is_integer K) := by
  refine mk_has d sc_is_integer (fun _ => rfl) (fun _ _ => rfl) fun cdv A outer s H E hr => ⟨_,
    (pss_one (ps_ret (pe_and (pe_callB (kIsi (K := K) rfl) (by rfl) B.b_isinstance (by decide +kernel) (pa_cons (pv 0) (pa_cons (pe_bltn (v := .ty "int") (by rfl) B.b_int (by decide +kernel) rfl) pa_nil))) (pe_one (pe_not (pe_callB (kIsi (K := K) rfl) (by rfl) B.b_isinstance (by decide +kernel) (pa_cons (pv 0) (pa_cons (pe_bltn (v := .ty "bool") (by rfl) B.b_bool (by decide +kernel) rfl) pa_nil)))))))), fun p hp => ?_⟩
  refine ws_ret (we_andV (we_cb (wc_im (we_var rfl ⟨_, rfl, wc_im (we_ty ⟨_, rfl, wc_nil ⟨_, cpr_isi hp (kit_int p.2), _, rfl, ?_⟩⟩)⟩))))
  have hn : WE K (tNotV (tCB (rIsi K) (tCons (tVar 0) (tCons (tC (.ty "bool")) tNil)))) [.im p.1] (fun k _ => k = .im (rB (!(p.2 == .bl)))) := we_notV (we_cb (wc_im (we_var rfl ⟨_, rfl, wc_im (we_ty ⟨_, rfl, wc_nil ⟨_, cpr_isi hp (kit_bool p.2), _, rfl, rfl⟩⟩)⟩)))
  obtain ⟨R, k⟩ := p
  cases k with
  | int => exact hn
  | bl => exact hn
  | non => rfl
  | str => rfl
  | tup => rfl
  | lst => rfl
  | dic => rfl
abbrev s_is_from_to : Stmt := topS 2
theorem sc_is_from_to : FnScope ["value", "least", "most"] ["value", "least", "most"] (defScope s_is_from_to) := ⟨rfl, rfl, rfl, by decide +kernel, rfl, by decide +kernel, by decide +kernel⟩
abbrev Sp_is_from_to (K : PySem.W.Frag) : Sp := spP K (fun (p : Rp × Option Int × Int × Int) => [.im p.1, .im (rI p.2.2.1), .im (rI p.2.2.2)]) (fun p => IntLike K p.1 p.2.1) (fun p => .im (rB (inRange p.2.2.1 p.2.2.2 p.2.1)))
theorem ok_is_from_to (d : DefAt K mg "is_from_to" s_is_from_to ["value", "least", "most"] f fd) (h_is_integer : Has P w K mg base "is_integer" ["value"] 1 (Sp_is_integer K)) : Has P w K mg base "is_from_to" ["value", "least", "most"] 2 (Sp_is_from_to K) := by
  refine mk_has d sc_is_from_to (fun _ => rfl) (fun _ _ => rfl) fun cdv A outer s H E hr => ⟨_,
    (pss_one (ps_ret (pe_and (pe_use h_is_integer (hr.mono (by decide)) (pa_cons (pv 0) pa_nil)) (pe_one (pe_chain op_le op_le (pv 1) (pv 0) (pv 2)))))), fun ⟨R, o, lo, hi⟩ hp => ?_⟩
  obtain ⟨k, hk, e⟩ := hp.knd
  refine ws_ret (we_andV (we_call (wc_im (we_var rfl ⟨_, rfl, wc_nil ⟨(R, k), hk, .cons cv_refl .nil, _, rfl, ?_⟩⟩))))
  show if (k == Knd.int) = true then _ else _
  rw [e]
  cases o with
  | none => rfl
  | some n =>
    have hp : R = rI n := hp
    subst hp
    refine we_chain (we_var rfl (we_var rfl ⟨_, _, rfl, opr_le, ?_⟩))
    show if decide (lo ≤ n) = true then _ else _
    by_cases h : lo ≤ n
    · rw [if_pos (decide_eq_true h)]
      exact we_var rfl ⟨_, opr_le, by show _ = Sl.im (rB (decide (lo ≤ n) && decide (n ≤ hi))); rw [decide_eq_true h]; rfl⟩
    · rw [if_neg (by simpa using h)]
      show _ = Sl.im (rB (decide (lo ≤ n) && decide (n ≤ hi)))
      rw [decide_eq_false h]
      rfl
abbrev s_is_word_of : Stmt := topS 3
theorem sc_is_word_of : FnScope ["length", "value"] ["length", "value"] (defScope s_is_word_of) := ⟨rfl, rfl, rfl, by decide +kernel, rfl, by decide +kernel, by decide +kernel⟩
abbrev Sp_is_word_of (K : PySem.W.Frag) : Sp := spP K (fun (p : Nat × Rp × Option Int) => [.im (rN p.1), .im p.2.1]) (fun p => p.1 ≤ 1000 ∧ IntLike K p.2.1 p.2.2) (fun p => .im (rB (inRange 0 (((2 ^ p.1 : Nat) : Int) - 1) p.2.2)))
theorem ok_is_word_of (d : DefAt K mg "is_word_of" s_is_word_of ["length", "value"] f fd) (h_is_from_to : Has P w K mg base "is_from_to" ["value", "least", "most"] 2 (Sp_is_from_to K)) : Has P w K mg base "is_word_of" ["length", "value"] 3 (Sp_is_word_of K) := by
  refine mk_has d sc_is_word_of (fun _ => rfl) (fun _ _ => rfl) fun cdv A outer s H E hr => ⟨_,
    (pss_one (ps_ret (pe_use h_is_from_to (hr.mono (by decide)) (pa_cons (pv 1) (pa_cons pe_int (pa_cons (pe_op op_sub (pe_op op_shlW pe_int (pv 0)) pe_int) pa_nil)))))), fun ⟨n, R, o⟩ ⟨h1, h2⟩ => ?_⟩
  have h1 : n ≤ 1000 := h1
  exact ws_ret (we_call (wc_im (we_var rfl ⟨_, rfl, wc_im (we_int ⟨_, rfl, wc_im (we_op (we_op (we_int (we_var rfl ⟨_, opr_shl1 (by omega), we_int ⟨_, opr_sub, _, rfl, wc_nil ⟨(R, o, 0, _), h2, .cons cv_refl (.cons cv_refl (.cons cv_refl .nil)), rfl⟩⟩⟩))))⟩)⟩)))
abbrev s_need_code : Stmt := topS 29
theorem sc_need_code : FnScope ["code"] ["code"] (defScope s_need_code) := ⟨rfl, rfl, rfl, by decide +kernel, rfl, by decide +kernel, by decide +kernel⟩
abbrev Sp_need_code (K : PySem.W.Frag) (C : Addr) : Sp := spP K (fun (p : Nat × List Nat) => [.im (rCode K C p.1 p.2)]) (fun _ => True) (fun _ => .im Fx.rU)
theorem ok_need_code (d : DefAt K mg "need_code" s_need_code ["code"] f fd) (B : Bt mg) (T : Txt K mg C) : Has P w K mg base "need_code" ["code"] 1 (Sp_need_code K C) := by
  refine mk_has d sc_need_code (fun _ => rfl) (fun _ _ => rfl) fun cdv A outer s H E hr => ⟨_,
    (pss_one (ps_if (pt_not (pt_val (pe_callB (kIsi (K := K) rfl) (by rfl) B.b_isinstance (by decide +kernel) (pa_cons (pv 0) (pa_cons (pe_cls T.m) pa_nil))))) (pss_one ps_never) pss_nil)), fun p _ => ?_⟩
  refine ws_if (wt_not (wt_B (we_isiO (we_var rfl ⟨_, true, rfl, isiO_ins T.is, true, rfl, ?_⟩))))
  exact ws_next rfl
abbrev s_remainder_by : Stmt := topS 8
theorem sc_remainder_by : FnScope ["basis", "word", "row"] ["basis", "word"] (defScope s_remainder_by) := ⟨rfl, rfl, rfl, by decide +kernel, rfl, by decide +kernel, by decide +kernel⟩
abbrev Sp_remainder_by (K : PySem.W.Frag) : Sp := spP K (fun (p : List Nat × Nat) => [.seq (NL p.1), .im (rN p.2)]) (fun _ => True) (fun p => .im (rN (rem p.1 p.2)))
theorem ok_remainder_by (d : DefAt K mg "remainder_by" s_remainder_by ["basis", "word"] f fd) (B : Bt mg) : Has P w K mg base "remainder_by" ["basis", "word"] 1 (Sp_remainder_by K) := by
  refine mk_has d sc_remainder_by (fun _ => rfl) (fun _ _ => rfl) fun cdv A outer s H E hr => ⟨_,
    (pss_cons (ps_for PassesOwn.never rfl (kPiS (K := K) rfl (pv 0)) (pg_name (i := 2) sc_remainder_by.nd rfl (Or.inl rfl)) (pss_one (ps_set (i := 1) sc_remainder_by.nd rfl (Or.inl rfl) (pe_callB (call_min2 (by rfl)) (by rfl) B.b_min (by decide +kernel) (pa_cons (pv 1) (pa_cons (pe_op op_xor (pv 1) (pv 2)) pa_nil))))))
      (pss_one (ps_ret (pv 1)))), fun p _ => ?_⟩
  refine ws_seq (ws_forF p.1 rN (fun s k => [.seq (NL p.1), .im (rN s), k]) (fun w r => if w ^^^ r < w then w ^^^ r else w) p.2 (wi_seq rfl ⟨rfl, ⟨_, rfl⟩, fun i x s k hx _ => ?_, fun k => ?_⟩))
  · refine ws_asg (we_cb (wc_im (we_var rfl ⟨_, rfl, wc_im (we_op (we_var rfl (we_var rfl ⟨_, opr_xor, _, rfl, wc_nil ⟨_, cpr_min2N, _, rfl⟩⟩)))⟩)))
  · exact ws_ret (we_var rfl rfl)
abbrev s_head_place : Stmt := topS 7
theorem sc_head_place : FnScope ["word"] ["word"] (defScope s_head_place) := ⟨rfl, rfl, rfl, by decide +kernel, rfl, by decide +kernel, by decide +kernel⟩
abbrev Sp_head_place (K : PySem.W.Frag) : Sp := spP K (fun (n : Nat) => [.im (rN n)]) (fun n => n ≠ 0) (fun n => .im (rN (hd n)))
theorem ok_head_place (d : DefAt K mg "head_place" s_head_place ["word"] f fd) : Has P w K mg base "head_place" ["word"] 1 (Sp_head_place K) := by
  refine mk_has d sc_head_place (fun _ => rfl) (fun _ _ => rfl) fun cdv A outer s H E hr => ⟨_,
    (pss_one (ps_ret (pe_op op_sub (pe_bits (pv 0)) pe_int))), fun n hn => ?_⟩
  refine ws_ret (we_op (we_bits (we_var rfl ⟨n, rfl, we_int ⟨_, opr_sub, ?_⟩⟩)))
  rw [blen_hd hn]
  show Sl.im (rI _) = Sl.im (rI _)
  congr 2
  omega
abbrev s_basis_by : Stmt := topS 9
theorem sc_basis_by : FnScope ["words", "rows", "word", "rest", "head", "row"] ["words"] (defScope s_basis_by) := ⟨rfl, rfl, rfl, by decide +kernel, rfl, by decide +kernel, by decide +kernel⟩
abbrev Sp_basis_by (K : PySem.W.Frag) : Sp := spP K (fun (ws : List Nat) => [.seq (NL ws)]) (fun ws => ws.length ≤ 100000) (fun ws => .im (rT K (NL (basisOf ws))))
theorem ok_basis_by (d : DefAt K mg "basis_by" s_basis_by ["words"] f fd) (B : Bt mg) (h_remainder_by : Has P w K mg base "remainder_by" ["basis", "word"] 1 (Sp_remainder_by K)) (h_head_place : Has P w K mg base "head_place" ["word"] 1 (Sp_head_place K)) : Has P w K mg base "basis_by" ["words"] 2 (Sp_basis_by K) := by
  refine mk_has d sc_basis_by (fun _ => rfl) (fun _ _ => rfl) fun cdv A outer s H E hr => ⟨_,
    (pss_cons (ps_set (i := 1) sc_basis_by.nd rfl (Or.inl rfl) (pe_lst pa_nil))
      (pss_cons (ps_for PassesOwn.never rfl (kPiS (K := K) rfl (pv 0)) (pg_name (i := 2) sc_basis_by.nd rfl (Or.inl rfl)) (pss_cons (ps_set (i := 3) sc_basis_by.nd rfl (Or.inr rfl) (pe_use h_remainder_by (hr.mono (by decide)) (pa_cons (pv 1) (pa_cons (pv 2) pa_nil))))
      (pss_one (ps_if (kTru (K := K) rfl (pv 3)) (pss_cons (ps_set (i := 4) sc_basis_by.nd rfl (Or.inr rfl) (pe_use h_head_place (hr.mono (by decide)) (pa_cons (pv 3) pa_nil)))
      (pss_one (ps_set (i := 1) sc_basis_by.nd rfl (Or.inl rfl) (pe_op op_cat (pe_lc (own := [("row", 5)]) (g := gName 5) (by rfl) sc_basis_by.nd (kPiL (K := K) rfl (pv 1)) (blkOk_by (own := [("row", 5)]) (N := ["words", "rows", "word", "rest", "head", "row"]) (sc := defScope s_basis_by) (by decide +kernel)) (fun _ _ _ _ _ => pg_name (i := 5) sc_basis_by.nd rfl (Or.inl rfl)) (fun _ _ _ _ _ => pts_nil) (fun _ _ _ _ _ => (pe_ifExp (kTru (K := K) rfl (pe_op op_and (pe_op op_shr (pv 5) (pv 4)) pe_int)) (pe_op op_xor (pv 5) (pv 3)) (pv 5)))) (pe_lst (pa_cons (pv 3) pa_nil)))))) pss_nil))))
      (pss_one (ps_ret (pe_callTy (kTup (K := K) rfl) (by rfl) B.b_tuple (by decide +kernel) (pa_cons (pe_callBK (kSortR (K := K) (b := true) rfl) (by rfl) B.b_sorted (by decide +kernel) (pa_cons (pv 1) pa_nil) (pk_cons pe_bl pk_nil)) pa_nil)))))), fun ws hl => ?_⟩
  refine ws_seq (ws_asg (we_lst (wa_nil ⟨[], rfl, Nat.zero_le _, ?_⟩)))
  refine ws_seq (ws_for (wi_seq rfl ⟨fun i E' => ∃ k1 k2 k3, E' = [.seq (NL ws), .own (NL ((ws.take i).foldl step [])), k1, k2, k3, .no], ⟨_, _, _, rfl⟩, ?_, ?_⟩))
  · rintro i R E' hi ⟨k1, k2, k3, rfl⟩
    obtain ⟨x, hx, rfl⟩ := map_get hi
    have e : (ws.take (i + 1)).foldl step [] = step ((ws.take i).foldl step []) x := by
      rw [List.take_add_one, hx, List.foldl_append]
      rfl
    have hlen : ((ws.take i).foldl step []).length ≤ ws.length := Nat.le_trans (rowsOf_len (ws.take i)) (by rw [List.length_take]; omega)
    dsimp only
    rw [e]
    generalize (ws.take i).foldl step [] = rows at hlen ⊢
    refine ws_seq (ws_asg (we_call (wc_var rfl (wc_im (we_var rfl ⟨_, rfl, wc_nil ⟨rfl, (rows, x), trivial, .cons cv_ls (.cons cv_refl .nil), ?_⟩⟩)))))
    refine ws_if (wt_tru (we_var rfl ⟨_, rfl, ?_⟩))
    show if (((rem rows x : Nat) : Int) != 0) = true then _ else _
    by_cases h0 : rem rows x = 0
    · rw [if_neg (by rw [h0]; decide)]
      exact ws_next ⟨_, _, _, by unfold Wd.step; rw [if_pos h0]; rfl⟩
    · rw [if_pos (by simp [h0])]
      refine ws_seq (ws_asg (we_call (wc_im (we_var rfl ⟨_, rfl, wc_nil ⟨rem rows x, h0, .cons cv_refl .nil, ?_⟩⟩))))
      refine ws_asg (we_opc (wc_own (we_lcV rows rN (fun _ => true) (fun row => rN (if row / 2 ^ hd (rem rows x) % 2 = 1 then row ^^^ rem rows x else row)) rfl rfl (by decide) (by rw [sizeLine_eq]; omega) (fun A row hr => wt_yes ⟨rfl, rfl, fun _ => ?_⟩)
        ⟨_, rfl, wc_own (we_lst (wa_cons (we_var rfl (wa_nil ⟨[rN (rem rows x)], rfl, by rw [sizeLine_eq]; show 1 ≤ _; decide, _, rfl, wc_nil ⟨_, _, _, rfl, opc_cat ?_, .im (rN x), .im (rN (rem rows x)), .im (rN (hd (rem rows x))), ?_⟩⟩))))⟩)))
      · refine we_if (wt_tru (we_op (we_op (we_var rfl (we_var rfl ⟨_, opr_shr, we_int ⟨_, opr_and1, _, rfl, ?_⟩⟩)))))
        rw [odd_ne]
        by_cases hb : row / 2 ^ hd (rem rows x) % 2 = 1
        · rw [if_pos (decide_eq_true hb), if_pos hb]
          exact we_op (we_var rfl (we_var rfl ⟨_, opr_xor, rfl, rfl⟩))
        · rw [if_neg (by simpa using hb), if_neg hb]
          exact we_var rfl ⟨rfl, rfl⟩
      · rw [List.filter_true', List.length_map, sizeLine_eq]
        show rows.length + 1 ≤ _
        omega
      · refine congrArg (fun z => [Sl.seq (NL ws), Sl.own z, Sl.im (rN x), Sl.im (rN (rem rows x)), Sl.im (rN (hd (rem rows x))), Sl.no]) ?_
        unfold Wd.step
        rw [if_neg h0, List.filter_true']
        unfold NL
        rw [List.map_append, List.map_map]
        rfl
  · rintro E' ⟨k1, k2, k3, rfl⟩
    rw [List.length_map, List.take_length]
    exact ws_ret (we_cb (wc_own (we_sortR (wc_var rfl (wc_nil ⟨rfl, rowsOf ws, rfl, fun _ _ _ h => h, _, rfl, wc_nil ⟨_, cpr_tup.cv (.cons cv_lb .nil), rfl⟩⟩)))))
abbrev s_added : Stmt := topS 5
theorem sc_added : FnScope ["words", "total", "word"] ["words"] (defScope s_added) := ⟨rfl, rfl, rfl, by decide +kernel, rfl, by decide +kernel, by decide +kernel⟩
abbrev Sp_added (K : PySem.W.Frag) : Sp := spP K (fun (ws : List Nat) => [.seq (NL ws)]) (fun _ => True) (fun ws => .im (rN (xsum ws)))
theorem ok_added (d : DefAt K mg "added" s_added ["words"] f fd) : Has P w K mg base "added" ["words"] 1 (Sp_added K) := by
  refine mk_has d sc_added (fun _ => rfl) (fun _ _ => rfl) fun cdv A outer s H E hr => ⟨_,
    (pss_cons (ps_set (i := 1) sc_added.nd rfl (Or.inl rfl) pe_int)
      (pss_cons (ps_for PassesOwn.never rfl (kPiS (K := K) rfl (pv 0)) (pg_name (i := 2) sc_added.nd rfl (Or.inl rfl)) (pss_one (ps_aug (i := 1) sc_added.nd rfl (Or.inl rfl) (pv 2) iop_xor)))
      (pss_one (ps_ret (pv 1))))), fun ws _ => ?_⟩
  refine ws_seq (ws_asg (we_int ?_))
  refine ws_seq (ws_forF ws rN (fun s k => [.seq (NL ws), .im (rN s), k]) (· ^^^ ·) 0 (wi_seq rfl ⟨rfl, ⟨_, rfl⟩, fun i x s k hx _ => ?_, fun k => ?_⟩))
  · exact ws_aug rfl (we_var rfl ⟨_, rfl, opr_xor, _, rfl⟩)
  · exact ws_ret (we_var rfl rfl)
abbrev s_word_at : Stmt := topS 6
theorem sc_word_at : FnScope ["places", "place"] ["places"] (defScope s_word_at) := ⟨rfl, rfl, rfl, by decide +kernel, rfl, by decide +kernel, by decide +kernel⟩
abbrev Sp_word_at (K : PySem.W.Frag) : Sp := spP K (fun (ps : List Nat) => [.seq (NL ps)]) (fun ps => ps.length ≤ 100000 ∧ ∀ p ∈ ps, p ≤ 1000) (fun ps => .im (rN (wordAt ps)))
theorem ok_word_at (d : DefAt K mg "word_at" s_word_at ["places"] f fd) (h_added : Has P w K mg base "added" ["words"] 1 (Sp_added K)) : Has P w K mg base "word_at" ["places"] 2 (Sp_word_at K) := by
  refine mk_has d sc_word_at (fun _ => rfl) (fun _ _ => rfl) fun cdv A outer s H E hr => ⟨_,
    (pss_one (ps_ret (pe_use h_added (hr.mono (by decide)) (pa_cons (pe_lc (own := [("place", 1)]) (g := gName 1) (by rfl) sc_word_at.nd (kPiS (K := K) rfl (pv 0)) (blkOk_by (own := [("place", 1)]) (N := ["places", "place"]) (sc := defScope s_word_at) (by decide +kernel)) (fun _ _ _ _ _ => pg_name (i := 1) sc_word_at.nd rfl (Or.inl rfl)) (fun _ _ _ _ _ => pts_nil) (fun _ _ _ _ _ => (pe_op op_shlW pe_int (pv 1)))) pa_nil)))), fun ps ⟨hl, hp⟩ => ?_⟩
  refine ws_ret (we_call (wc_own (we_lcM (α := Nat) (wi_seq rfl ⟨rfl, rfl, ps, rN, fun _ => true, fun p => rN (2 ^ p), rfl, by rw [sizeLine_eq]; omega, fun x hx => ?_, _, rfl, wc_nil ⟨ps.map fun p => 2 ^ p, trivial, .cons ?_ .nil, rfl⟩⟩))))
  · exact wt_yes ⟨rfl, rfl, fun _ => we_op (we_int (we_var rfl ⟨_, opr_shl1 (by have := hp x hx; omega), rfl, rfl⟩))⟩
  · unfold NL
    rw [List.filter_true', List.map_map]
    exact cv_ls
abbrev s_check_at : Stmt := topS 11
theorem sc_check_at : FnScope ["basis", "place", "row"] ["basis", "place"] (defScope s_check_at) := ⟨rfl, rfl, rfl, by decide +kernel, rfl, by decide +kernel, by decide +kernel⟩
abbrev Sp_check_at (K : PySem.W.Frag) : Sp := spP K (fun (p : List Nat × Nat) => [.seq (NL p.1), .im (rN p.2)]) (fun p => p.2 ≤ 1000 ∧ p.1.length ≤ 1000 ∧ ∀ r ∈ p.1, r ≠ 0 ∧ hd r ≤ 1000) (fun p => .im (rN (Du.checkAt p.1 p.2)))
theorem ok_check_at (d : DefAt K mg "check_at" s_check_at ["basis", "place"] f fd) (h_word_at : Has P w K mg base "word_at" ["places"] 2 (Sp_word_at K)) (h_head_place : Has P w K mg base "head_place" ["word"] 1 (Sp_head_place K)) : Has P w K mg base "check_at" ["basis", "place"] 3 (Sp_check_at K) := by
  refine mk_has d sc_check_at (fun _ => rfl) (fun _ _ => rfl) fun cdv A outer s H E hr => ⟨_,
    (pss_one (ps_ret (pe_use h_word_at (hr.mono (by decide)) (pa_cons (pe_op op_cat (pe_lst (pa_cons (pv 1) pa_nil)) (pe_lc (own := [("row", 2)]) (g := gName 2) (by rfl) sc_check_at.nd (kPiS (K := K) rfl (pv 0)) (blkOk_by (own := [("row", 2)]) (N := ["basis", "place", "row"]) (sc := defScope s_check_at) (by decide +kernel)) (fun _ _ _ _ _ => pg_name (i := 2) sc_check_at.nd rfl (Or.inl rfl)) (fun _ _ _ _ _ => (pts_one (kTru (K := K) rfl (pe_op op_and (pe_op op_shr (pv 2) (pv 1)) pe_int)))) (fun _ _ _ _ _ => (pe_use h_head_place (hr.mono (by decide)) (pa_cons (pv 2) pa_nil))))) pa_nil)))), fun ⟨B0, q⟩ ⟨h1, h2, h3⟩ => ?_⟩
  have h1 : q ≤ 1000 := h1
  have h2 : B0.length ≤ 1000 := h2
  have hf : (B0.filter fun r => decide (r / 2 ^ q % 2 = 1)).length ≤ 1000 := Nat.le_trans (List.length_filter_le _ _) h2
  have e : [rN q] ++ (B0.filter fun r => decide (r / 2 ^ q % 2 = 1)).map (fun r => rN (hd r)) = NL (q :: (B0.filter fun r => decide (r / 2 ^ q % 2 = 1)).map hd) := by
    show rN q :: _ = rN q :: _
    rw [List.map_map]
    rfl
  refine ws_ret (we_call (wc_own (we_opc (wc_own (we_lst (wa_cons (we_var rfl (wa_nil ⟨[rN q], rfl, by rw [sizeLine_eq]; show 1 ≤ _; decide, _, rfl, wc_own (we_lcM (α := Nat) (wi_seq rfl ⟨rfl, rfl, B0, rN, fun r => decide (r / 2 ^ q % 2 = 1), fun r => rN (hd r), rfl, by rw [sizeLine_eq]; omega, fun x hx => ?_, _, rfl, wc_nil ⟨_, _, _, rfl, opc_cat ?_, _, rfl, wc_nil ⟨q :: (B0.filter fun r => decide (r / 2 ^ q % 2 = 1)).map hd, ⟨?_, ?_⟩, .cons (by rw [e]; exact cv_ls) .nil, rfl⟩⟩⟩))⟩))))))))
  · refine wt_tru (we_op (we_op (we_var rfl (we_var rfl ⟨_, opr_shr, we_int ⟨_, opr_and1, _, rfl, odd_ne _, rfl, fun _ => we_call (wc_im (we_var rfl ⟨_, rfl, wc_nil ⟨x, (h3 x hx).1, .cons cv_refl .nil, rfl, rfl⟩⟩))⟩⟩))))
  · rw [List.length_map, sizeLine_eq]
    show 1 + _ ≤ _
    omega
  · show ((B0.filter fun r => decide (r / 2 ^ q % 2 = 1)).map hd).length + 1 ≤ 100000
    rw [List.length_map]
    omega
  · intro y hy
    rcases List.mem_cons.mp hy with z | z
    · rw [z]
      exact h1
    · obtain ⟨r, hr, ee⟩ := List.mem_map.mp z
      rw [← ee]
      exact (h3 r (List.mem_filter.mp hr).1).2
abbrev s_free_by : Stmt := topS 10
theorem sc_free_by : FnScope ["length", "basis", "heads", "row", "place"] ["length", "basis"] (defScope s_free_by) := ⟨rfl, rfl, rfl, by decide +kernel, rfl, by decide +kernel, by decide +kernel⟩
abbrev Sp_free_by (K : PySem.W.Frag) : Sp := spP K (fun (p : Nat × List Nat) => [.im (rN p.1), .seq (NL p.2)]) (fun p => p.1 ≤ 1000 ∧ p.2.length ≤ 100000 ∧ ∀ r ∈ p.2, r ≠ 0) (fun p => .im (rT K (NL (freeOf p.1 p.2))))
theorem ok_free_by (d : DefAt K mg "free_by" s_free_by ["length", "basis"] f fd) (B : Bt mg) (h_head_place : Has P w K mg base "head_place" ["word"] 1 (Sp_head_place K)) : Has P w K mg base "free_by" ["length", "basis"] 2 (Sp_free_by K) := by
  refine mk_has d sc_free_by (fun _ => rfl) (fun _ _ => rfl) fun cdv A outer s H E hr => ⟨_,
    (pss_cons (ps_set (i := 2) sc_free_by.nd rfl (Or.inr rfl) (pe_lc (own := [("row", 3)]) (g := gName 3) (by rfl) sc_free_by.nd (kPiS (K := K) rfl (pv 1)) (blkOk_by (own := [("row", 3)]) (N := ["length", "basis", "heads", "row", "place"]) (sc := defScope s_free_by) (by decide +kernel)) (fun _ _ _ _ _ => pg_name (i := 3) sc_free_by.nd rfl (Or.inl rfl)) (fun _ _ _ _ _ => pts_nil) (fun _ _ _ _ _ => (pe_use h_head_place (hr.mono (by decide)) (pa_cons (pv 3) pa_nil)))))
      (pss_one (ps_ret (pe_callTy (kTup (K := K) rfl) (by rfl) B.b_tuple (by decide +kernel) (pa_cons (pe_lc (own := [("place", 4)]) (g := gName 4) (by rfl) sc_free_by.nd (pi_range1 (by rfl) B.b_range (pa_cons (pv 0) pa_nil)) (blkOk_by (own := [("place", 4)]) (N := ["length", "basis", "heads", "row", "place"]) (sc := defScope s_free_by) (by decide +kernel)) (fun _ _ _ _ _ => pg_name (i := 4) sc_free_by.nd rfl (Or.inl rfl)) (fun _ _ _ _ _ => (pts_one (pt_cmpR (kNotIn (K := K) rfl) (pv 4) (pv 2) (by rfl)))) (fun _ _ _ _ _ => (pv 4))) pa_nil))))), fun p ⟨h1, h2, h3⟩ => ?_⟩
  refine ws_seq (ws_asg (we_lcM (α := Nat) (wi_seq rfl ⟨rfl, rfl, p.2, rN, fun _ => true, fun r => rN (hd r), rfl, by rw [sizeLine_eq]; omega, fun x hx => wt_yes ⟨rfl, rfl, fun _ => ?_⟩, ?_⟩)))
  · exact we_call (wc_im (we_var rfl ⟨_, rfl, wc_nil ⟨x, h3 x hx, .cons cv_refl .nil, rfl, rfl⟩⟩))
  refine ws_ret (we_cb (wc_own (we_lcM (α := Nat) (wi_rngN (wa_cons (we_var rfl (wa_nil ?_)))))))
  refine ⟨p.1, rfl, by omega, rfl, rfl, List.range p.1, rN, fun i => decide (i ∉ p.2.map hd), rN, rfl, by rw [List.length_range, sizeLine_eq]; omega, fun x hx => ?_, _, rfl, wc_nil ⟨_, cpr_tup.cv (.cons cv_lb .nil), rfl⟩⟩
  have e : (p.2.filter fun _ => true).map (fun r => rN (hd r)) = NL (p.2.map hd) := by
    unfold NL
    rw [List.filter_true', List.map_map]
    rfl
  refine wt_test (we_opc (wc_im (we_var rfl ⟨_, rfl, wc_var rfl (wc_nil ⟨rfl, _, _, _, rfl, by rw [e]; exact opc_in.cv cv_refl cv_ls, _, rfl, ?_, rfl, fun _ => we_var rfl ⟨rfl, rfl⟩⟩)⟩)))
  show (!decide (x ∈ p.2.map hd)) = decide (x ∉ p.2.map hd)
  simp only [decide_not]
abbrev s_checks_by : Stmt := topS 12
theorem sc_checks_by : FnScope ["length", "basis", "place"] ["length", "basis"] (defScope s_checks_by) := ⟨rfl, rfl, rfl, by decide +kernel, rfl, by decide +kernel, by decide +kernel⟩
abbrev Sp_checks_by (K : PySem.W.Frag) : Sp := spP K (fun (p : Nat × List Nat) => [.im (rN p.1), .seq (NL p.2)]) (fun p => Du.Bas p.1 p.2) (fun p => .im (rT K (NL (Du.checksOf p.1 p.2))))
theorem ok_checks_by (d : DefAt K mg "checks_by" s_checks_by ["length", "basis"] f fd) (h_basis_by : Has P w K mg base "basis_by" ["words"] 2 (Sp_basis_by K)) (h_free_by : Has P w K mg base "free_by" ["length", "basis"] 2 (Sp_free_by K)) (h_check_at : Has P w K mg base "check_at" ["basis", "place"] 3 (Sp_check_at K)) : Has P w K mg base "checks_by" ["length", "basis"] 4 (Sp_checks_by K) := by
  refine mk_has d sc_checks_by (fun _ => rfl) (fun _ _ => rfl) fun cdv A outer s H E hr => ⟨_,
    (pss_one (ps_ret (pe_use h_basis_by (hr.mono (by decide)) (pa_cons (pe_lc (own := [("place", 2)]) (g := gName 2) (by rfl) sc_checks_by.nd (kPiT (K := K) rfl (pe_use h_free_by (hr.mono (by decide)) (pa_cons (pv 0) (pa_cons (pv 1) pa_nil)))) (blkOk_by (own := [("place", 2)]) (N := ["length", "basis", "place"]) (sc := defScope s_checks_by) (by decide +kernel)) (fun _ _ _ _ _ => pg_name (i := 2) sc_checks_by.nd rfl (Or.inl rfl)) (fun _ _ _ _ _ => pts_nil) (fun _ _ _ _ _ => (pe_use h_check_at (hr.mono (by decide)) (pa_cons (pv 1) (pa_cons (pv 2) pa_nil))))) pa_nil)))), fun ⟨n, B0⟩ h => ?_⟩
  have h : Du.Bas n B0 := h
  have hn := h.n1000
  have hl := h.len
  have e : ((freeOf n B0).filter fun _ => true).map (fun p => rN (Du.checkAt B0 p)) = NL (Du.checkL n B0) := by
    unfold NL Du.checkL
    rw [List.filter_true', List.map_map]
    rfl
  have hc : (freeOf n B0).length ≤ n := by
    have := Du.free_length h.rr h.lt
    omega
  refine ws_ret (we_call (wc_own (we_lcM (α := Nat) (wi_tup (we_call (wc_im (we_var rfl ⟨_, rfl, wc_seq rfl (wc_nil ⟨rfl, (n, B0), ⟨hn, by show B0.length ≤ _; omega, fun r hr => h.rr.nz r hr⟩, .cons cv_refl (.cons cv_refl .nil), _, rfl, rfl, rfl, freeOf n B0, rN, fun _ => true, fun p => rN (Du.checkAt B0 p), rfl, by rw [sizeLine_eq]; omega, fun x hx => ?_, _, rfl, ?_⟩)⟩)))))))
  · refine wt_yes ⟨rfl, rfl, fun _ => we_call (wc_seq rfl (wc_im (we_var rfl ⟨_, rfl, wc_nil ⟨rfl, (B0, x), ⟨by have := (Du.mem_free.mp hx).1; show x ≤ 1000; omega, by show B0.length ≤ 1000; omega, fun r hr => ⟨h.rr.nz r hr, by have := h.hd hr; omega⟩⟩, .cons cv_refl (.cons cv_refl .nil), rfl, rfl⟩⟩)))⟩
  · refine wc_nil ⟨Du.checkL n B0, by have := Du.checkL_length n B0; show _ ≤ 100000; omega, .cons (by rw [e]; exact cv_ls) .nil, rfl⟩
abbrev s_need_number : Stmt := topS 22
theorem sc_need_number : FnScope ["given", "least", "most"] ["given", "least", "most"] (defScope s_need_number) := ⟨rfl, rfl, rfl, by decide +kernel, rfl, by decide +kernel, by decide +kernel⟩
abbrev Sp_need_number (K : PySem.W.Frag) : Sp := spP K (fun (p : Nat × Nat × Nat) => [.im (rN p.1), .im (rN p.2.1), .im (rN p.2.2)]) (fun p => p.2.1 ≤ p.1 ∧ p.1 ≤ p.2.2) (fun _ => .im Fx.rU)
theorem ok_need_number (d : DefAt K mg "need_number" s_need_number ["given", "least", "most"] f fd) (h_is_from_to : Has P w K mg base "is_from_to" ["value", "least", "most"] 2 (Sp_is_from_to K)) : Has P w K mg base "need_number" ["given", "least", "most"] 3 (Sp_need_number K) := by
  refine mk_has d sc_need_number (fun _ => rfl) (fun _ _ => rfl) fun cdv A outer s H E hr => ⟨_,
    (pss_one (ps_if (pt_not (pt_val (pe_use h_is_from_to (hr.mono (by decide)) (pa_cons (pv 0) (pa_cons (pv 1) (pa_cons (pv 2) pa_nil)))))) (pss_one ps_never) pss_nil)), fun ⟨n, a, b⟩ ⟨h1, h2⟩ => ?_⟩
  have h1 : a ≤ n := h1
  have h2 : n ≤ b := h2
  refine ws_if (wt_not (wt_B (we_call (wc_im (we_var rfl ⟨_, rfl, wc_im (we_var rfl ⟨_, rfl, wc_im (we_var rfl ⟨_, rfl, wc_nil ⟨(_, some (n : Int), (a : Int), (b : Int)), rfl, .cons cv_refl (.cons cv_refl (.cons cv_refl .nil)), _, rfl, ?_⟩⟩)⟩)⟩)))))
  show if (!(decide ((a : Int) ≤ n) && decide ((n : Int) ≤ b))) = true then _ else _
  rw [decide_eq_true (by omega), decide_eq_true (by omega)]
  exact ws_next rfl
abbrev s_need_length : Stmt := topS 24
theorem sc_need_length : FnScope ["length"] ["length"] (defScope s_need_length) := ⟨rfl, rfl, rfl, by decide +kernel, rfl, by decide +kernel, by decide +kernel⟩
abbrev Sp_need_length (K : PySem.W.Frag) : Sp := spP K (fun (n : Nat) => [.im (rN n)]) (fun n => 1 ≤ n ∧ n ≤ 24) (fun _ => .im Fx.rU)
theorem ok_need_length (d : DefAt K mg "need_length" s_need_length ["length"] f fd) (Cc : Ct mg) (h_need_number : Has P w K mg base "need_number" ["given", "least", "most"] 3 (Sp_need_number K)) : Has P w K mg base "need_length" ["length"] 4 (Sp_need_length K) := by
  refine mk_has d sc_need_length (fun _ => rfl) (fun _ _ => rfl) fun cdv A outer s H E hr => ⟨_,
    (pss_one (ps_expr (pe_use h_need_number (hr.mono (by decide)) (pa_cons (pv 0) (pa_cons pe_int (pa_cons (pe_const Cc.c_MOST_LENGTH) pa_nil)))))), fun n ⟨h1, h2⟩ => ?_⟩
  exact ws_drop (we_call (wc_im (we_var rfl ⟨_, rfl, wc_im (we_int ⟨_, rfl, wc_im (we_int ⟨_, rfl, wc_nil ⟨(n, 1, 24), ⟨h1, h2⟩, .cons cv_refl (.cons cv_refl (.cons cv_refl .nil)), rfl⟩⟩)⟩)⟩)))
abbrev s_need_word : Stmt := topS 25
theorem sc_need_word : FnScope ["length", "word"] ["length", "word"] (defScope s_need_word) := ⟨rfl, rfl, rfl, by decide +kernel, rfl, by decide +kernel, by decide +kernel⟩
abbrev Sp_need_word (K : PySem.W.Frag) : Sp := spP K (fun (p : Nat × Nat) => [.im (rN p.1), .im (rN p.2)]) (fun p => p.1 ≤ 1000 ∧ p.2 < 2 ^ p.1) (fun _ => .im Fx.rU)
theorem ok_need_word (d : DefAt K mg "need_word" s_need_word ["length", "word"] f fd) (h_is_word_of : Has P w K mg base "is_word_of" ["length", "value"] 3 (Sp_is_word_of K)) : Has P w K mg base "need_word" ["length", "word"] 4 (Sp_need_word K) := by
  refine mk_has d sc_need_word (fun _ => rfl) (fun _ _ => rfl) fun cdv A outer s H E hr => ⟨_,
    (pss_one (ps_if (pt_not (pt_val (pe_use h_is_word_of (hr.mono (by decide)) (pa_cons (pv 0) (pa_cons (pv 1) pa_nil))))) (pss_one ps_never) pss_nil)), fun ⟨n, a⟩ ⟨h1, h2⟩ => ?_⟩
  refine ws_if (wt_not (wt_B (we_call (wc_im (we_var rfl ⟨_, rfl, wc_im (we_var rfl ⟨_, rfl, wc_nil ⟨(n, _, some (a : Int)), ⟨h1, rfl⟩, .cons cv_refl (.cons cv_refl .nil), _, rfl, ?_⟩⟩)⟩)))))
  rw [in_word h2]
  exact ws_next rfl
abbrev s_need_words : Stmt := topS 26
theorem sc_need_words : FnScope ["length", "words", "word"] ["length", "words"] (defScope s_need_words) := ⟨rfl, rfl, rfl, by decide +kernel, rfl, by decide +kernel, by decide +kernel⟩
abbrev Sp_need_words (K : PySem.W.Frag) : Sp := spP K (fun (p : Nat × List Nat) => [.im (rN p.1), .im (rT K (NL p.2))]) (fun p => p.1 ≤ 1000 ∧ p.2.length ≤ 64 ∧ ∀ a ∈ p.2, a < 2 ^ p.1) (fun _ => .im Fx.rU)
theorem ok_need_words (d : DefAt K mg "need_words" s_need_words ["length", "words"] f fd) (B : Bt mg) (Cc : Ct mg) (h_need_word : Has P w K mg base "need_word" ["length", "word"] 4 (Sp_need_word K)) : Has P w K mg base "need_words" ["length", "words"] 5 (Sp_need_words K) := by
  refine mk_has d sc_need_words (fun _ => rfl) (fun _ _ => rfl) fun cdv A outer s H E hr => ⟨_,
    (pss_cons (ps_if (PW.pt (pw_or (pt_not (pt_val (pe_callB (kIsi (K := K) rfl) (by rfl) B.b_isinstance (by decide +kernel) (pa_cons (pv 1) (pa_cons (pe_bltn (v := .ty "tuple") (by rfl) B.b_tuple (by decide +kernel) rfl) pa_nil))))) (pw_or1 (pt_cmpR op_gt (pe_callB (kLen (K := K) rfl) (by rfl) B.b_len PySem.boot_len (pa_cons (pv 1) pa_nil)) (pe_const Cc.c_MOST_WORDS) (nomark _))))) (pss_one ps_never) pss_nil)
      (pss_one (ps_for PassesOwn.never rfl (kPiT (K := K) rfl (pv 1)) (pg_name (i := 2) sc_need_words.nd rfl (Or.inl rfl)) (pss_one (ps_expr (pe_use h_need_word (hr.mono (by decide)) (pa_cons (pv 0) (pa_cons (pv 2) pa_nil)))))))), fun ⟨n, ws⟩ ⟨h1, h2, h3⟩ => ?_⟩
  refine ws_seq (ws_if (wt_or (wt_not (wt_B (we_cb (wc_im (we_var rfl ⟨_, rfl, wc_im (we_ty ⟨_, rfl, wc_nil ⟨_, cpr_isi knd_tup (kit_tuple .tup), _, rfl, ?_⟩⟩)⟩)))))))
  refine wt_test (we_op (we_cb (wc_im (we_var rfl ⟨_, rfl, wc_nil ⟨_, cpr_len.cv (.cons cv_ts .nil), we_int ⟨_, opr_gt, _, rfl, ?_⟩⟩⟩))))
  have h2 : ws.length ≤ 64 := h2
  rw [List.length_map, if_neg (by simp; omega)]
  refine ws_next (ws_forF ws rN (fun (_ : Unit) k => [.im (rN n), .im (rT K (NL ws)), k]) (fun _ _ => ()) () (wi_tup (we_var rfl ⟨_, rfl, rfl, ⟨_, rfl⟩, fun i x s k hx _ => ?_, fun k => rfl⟩)))
  exact ws_drop (we_call (wc_im (we_var rfl ⟨_, rfl, wc_im (we_var rfl ⟨_, rfl, wc_nil ⟨(n, x), ⟨h1, h3 x (List.mem_of_getElem? hx)⟩, .cons cv_refl (.cons cv_refl .nil), _, rfl⟩⟩)⟩)))
abbrev s_Code___init__ : Stmt := inClass (topS 28) 0
theorem sc_Code___init__ : FnScope ["self", "length", "words"] ["self", "length", "words"] (defScope s_Code___init__) := ⟨rfl, rfl, rfl, by decide +kernel, rfl, by decide +kernel, by decide +kernel⟩
abbrev Sp_Code___init__ (K : PySem.W.Frag) (C : Addr) : Sp := spI K C (fun (p : Nat × List Nat) => [rN p.1, rT K (NL p.2)]) (fun p => Span p.1 p.2) (fun p => rCode K C p.1 (basisOf p.2))
theorem ok_Code___init__ (F : Fun K "__init__" "Code.__init__" s_Code___init__ f fd) (T : Txt K mg C) (h_need_length : Has P w K mg base "need_length" ["length"] 4 (Sp_need_length K)) (h_need_words : Has P w K mg base "need_words" ["length", "words"] 5 (Sp_need_words K)) (h_basis_by : Has P w K mg base "basis_by" ["words"] 2 (Sp_basis_by K)) : FnOk P w K mg base CX0 6 f fd ["self", "length", "words"] (Sp_Code___init__ K C) := by
  refine mk_init F sc_Code___init__ (fun _ => rfl) fun cdv A outer s H E hr => ⟨_,
    (pss_cons (ps_expr (pe_use h_need_length (hr.mono (by decide)) (pa_cons (pv 1) pa_nil)))
      (pss_cons (ps_expr (pe_use h_need_words (hr.mono (by decide)) (pa_cons (pv 1) (pa_cons (pv 2) pa_nil))))
      (pss_cons (kSFld (K := K) rfl (pv 0) (pv 1))
      (pss_one (kSFld (K := K) rfl (pv 0) (pe_use h_basis_by (hr.mono (by decide)) (pa_cons (pv 2) pa_nil))))))), fun ⟨n, ws⟩ p h => ?_⟩
  have h : Span n ws := h
  have hn := h.2.1
  show WS K _ [.obj p C [], .im (rN n), .im (rT K (NL ws))] _ _ _ _
  refine ws_seq (ws_drop (we_call (wc_im (we_var rfl ⟨_, rfl, wc_nil ⟨n, ⟨h.1, h.2.1⟩, .cons cv_refl .nil, ?_⟩⟩))))
  refine ws_seq (ws_drop (we_call (wc_im (we_var rfl ⟨_, rfl, wc_im (we_var rfl ⟨_, rfl, wc_nil ⟨(n, ws), ⟨by show n ≤ 1000; omega, h.2.2⟩, .cons cv_refl (.cons cv_refl .nil), ?_⟩⟩)⟩))))
  refine ws_seq (ws_fld1 T.is.c T.nL (i := 0) (we_var rfl ⟨_, rfl, rfl, ?_⟩))
  exact ws_fld2 T.is.c T.nB two_ne (i := 0) (we_call (wc_im (we_var rfl ⟨_, rfl, wc_nil ⟨ws, Nat.le_trans h.2.2.1 (by decide), .cons cv_ts .nil, _, rfl, rfl, rfl⟩⟩)))
abbrev s_Code_length : Stmt := inClass (topS 28) 1
theorem sc_Code_length : FnScope ["self"] ["self"] (defScope s_Code_length) := ⟨rfl, rfl, rfl, by decide +kernel, rfl, by decide +kernel, by decide +kernel⟩
abbrev Sp_Code_length (K : PySem.W.Frag) (C : Addr) : Sp := spP K (fun (p : Nat × List Nat) => [.im (rCode K C p.1 p.2)]) (fun _ => True) (fun p => .im (rN p.1))
theorem ok_Code_length (F : Fun K "length" "Code.length" s_Code_length f fd) (T : Txt K mg C) : FnOk P w K mg base CX0 1 f fd ["self"] (Sp_Code_length K C) := by
  refine mk_fn F sc_Code_length (fun _ => rfl) (fun _ _ => rfl) fun cdv A outer s H E hr => ⟨_,
    (pss_one (ps_ret (kFld (K := K) rfl (pv 0)))), fun p _ => ?_⟩
  exact ws_ret (we_fL (B := p.2) T.is.c T.nL (we_var rfl ⟨rfl, rfl⟩))
abbrev s_Code_basis : Stmt := inClass (topS 28) 2
theorem sc_Code_basis : FnScope ["self"] ["self"] (defScope s_Code_basis) := ⟨rfl, rfl, rfl, by decide +kernel, rfl, by decide +kernel, by decide +kernel⟩
abbrev Sp_Code_basis (K : PySem.W.Frag) (C : Addr) : Sp := spP K (fun (p : Nat × List Nat) => [.im (rCode K C p.1 p.2)]) (fun _ => True) (fun p => .im (rT K (NL p.2)))
theorem ok_Code_basis (F : Fun K "basis" "Code.basis" s_Code_basis f fd) (T : Txt K mg C) : FnOk P w K mg base CX0 1 f fd ["self"] (Sp_Code_basis K C) := by
  refine mk_fn F sc_Code_basis (fun _ => rfl) (fun _ _ => rfl) fun cdv A outer s H E hr => ⟨_,
    (pss_one (ps_ret (kFld (K := K) rfl (pv 0)))), fun p _ => ?_⟩
  exact ws_ret (we_fB (n := p.1) T.is.c T.nB (we_var rfl ⟨rfl, rfl⟩))
abbrev s_Code___eq__ : Stmt := inClass (topS 28) 4
theorem sc_Code___eq__ : FnScope ["self", "other"] ["self", "other"] (defScope s_Code___eq__) := ⟨rfl, rfl, rfl, by decide +kernel, rfl, by decide +kernel, by decide +kernel⟩
abbrev Sp_Code___eq__ (K : PySem.W.Frag) (C : Addr) : Sp := spP K (fun (p : (Nat × List Nat) × Nat × List Nat) => [.im (rCode K C p.1.1 p.1.2), .im (rCode K C p.2.1 p.2.2)]) (fun _ => True) (fun p => .im (rB (decide (p.1 = p.2))))
theorem ok_Code___eq__ (F : Fun K "__eq__" "Code.__eq__" s_Code___eq__ f fd) (T : Txt K mg C) (B : Bt mg) : FnOk P w K mg base CX0 1 f fd ["self", "other"] (Sp_Code___eq__ K C) := by
  refine mk_fn F sc_Code___eq__ (fun _ => rfl) (fun _ _ => rfl) fun cdv A outer s H E hr => ⟨_,
    (pss_one (ps_ret (pe_and (pe_callB (kIsi (K := K) rfl) (by rfl) B.b_isinstance (by decide +kernel) (pa_cons (pv 1) (pa_cons (pe_cls T.m) pa_nil))) (pe_and (pe_cmpR op_eq (kFld (K := K) rfl (pv 0)) (kFld (K := K) rfl (pv 1)) (nomark _)) (pe_one (pe_cmpR (kEqD (K := K) rfl hr.units) (kFld (K := K) rfl (pv 0)) (kFld (K := K) rfl (pv 1)) (nomark _))))))), fun ⟨⟨n, A⟩, m, B⟩ _ => ?_⟩
  refine ws_ret (we_andV (we_isiO (we_var rfl ⟨_, true, rfl, isiO_ins T.is, true, rfl, ?_⟩)))
  rw [if_pos rfl]
  refine we_andV (we_op (we_fL (B := A) T.is.c T.nL (we_var rfl ⟨rfl, we_fL (B := B) T.is.c T.nL (we_var rfl ⟨rfl, _, opr_eqI, _, rfl, ?_⟩)⟩)))
  by_cases hn : n = m
  · subst hn
    rw [if_pos (by simp)]
    refine we_opc (wc_im (we_fB (n := n) T.is.c T.nB (we_var rfl ⟨rfl, _, rfl, wc_im (we_fB (n := n) T.is.c T.nB (we_var rfl ⟨rfl, _, rfl, wc_nil ⟨_, _, _, rfl, opc_eqT, ?_⟩⟩))⟩)))
    have e : decide (A = B) = decide ((n, A) = (n, B)) := decide_eq_decide.mpr (by simp)
    rw [e]
  · rw [if_neg (by simpa using fun z => hn (by omega))]
    have e : false = decide ((n, A) = (m, B)) := (decide_eq_false fun z => hn (Prod.mk.inj z).1).symm
    show Sl.im (rB false) = Sl.im (rB (decide ((n, A) = (m, B))))
    rw [← e]
abbrev s_is_own : Stmt := topS 32
theorem sc_is_own : FnScope ["code"] ["code"] (defScope s_is_own) := ⟨rfl, rfl, rfl, by decide +kernel, rfl, by decide +kernel, by decide +kernel⟩
abbrev Sp_is_own (K : PySem.W.Frag) (C : Addr) : Sp := spP K (fun (p : Nat × List Nat) => [.im (rCode K C p.1 p.2)]) (fun p => Cu.CodeOk p.1 p.2) (fun p => .im (rB (Ju.own p.1 p.2)))
theorem ok_is_own (d : DefAt K mg "is_own" s_is_own ["code"] f fd) (T : Txt K mg C) (h_need_code : Has P w K mg base "need_code" ["code"] 1 (Sp_need_code K C)) (h_checks_by : Has P w K mg base "checks_by" ["length", "basis"] 4 (Sp_checks_by K)) (h_Code_length : PropHas P w K mg base C "length" 1 (Sp_Code_length K C)) (h_Code_basis : PropHas P w K mg base C "basis" 1 (Sp_Code_basis K C)) : Has P w K mg base "is_own" ["code"] 5 (Sp_is_own K C) := by
  refine mk_has d sc_is_own (fun _ => rfl) (fun _ _ => rfl) fun cdv A outer s H E hr => ⟨_,
    (pss_cons (ps_expr (pe_use h_need_code (hr.mono (by decide)) (pa_cons (pv 0) pa_nil)))
      (pss_one (ps_ret (pe_cmpR (kEqD (K := K) rfl hr.units) (pe_use h_checks_by (hr.mono (by decide)) (pa_cons (pe_useP h_Code_length (hr.mono (by decide)) (pv 0)) (pa_cons (pe_useP h_Code_basis (hr.mono (by decide)) (pv 0)) pa_nil))) (pe_useP h_Code_basis (hr.mono (by decide)) (pv 0)) (nomark _))))), fun ⟨n, B0⟩ h => ?_⟩
  have h : Cu.CodeOk n B0 := h
  refine ws_seq (ws_drop (we_call (wc_im (we_var rfl ⟨_, rfl, wc_nil ⟨(n, B0), trivial, .cons cv_refl .nil, ?_⟩⟩))))
  exact ws_ret (we_opc (wc_im (we_call (wc_im (we_prop (we_var rfl ⟨(n, B0), _, rfl, rfl, trivial, _, rfl, wc_im (we_prop (we_var rfl ⟨(n, B0), _, rfl, rfl, trivial, _, rfl, wc_nil ⟨(n, B0), h.bas, .cons cv_refl (.cons cv_ts .nil), _, rfl, wc_im (we_prop (we_var rfl ⟨(n, B0), _, rfl, rfl, trivial, _, rfl, wc_nil ⟨_, _, _, rfl, opc_eqT, rfl⟩⟩))⟩⟩))⟩))))))
abbrev s_need_own : Stmt := topS 30
theorem sc_need_own : FnScope ["code"] ["code"] (defScope s_need_own) := ⟨rfl, rfl, rfl, by decide +kernel, rfl, by decide +kernel, by decide +kernel⟩
abbrev Sp_need_own (K : PySem.W.Frag) (C : Addr) : Sp := spP K (fun (p : Nat × List Nat) => [.im (rCode K C p.1 p.2)]) (fun p => Nb.Own p.1 p.2) (fun _ => .im Fx.rU)
theorem ok_need_own (d : DefAt K mg "need_own" s_need_own ["code"] f fd) (B : Bt mg) (T : Txt K mg C) (h_is_own : Has P w K mg base "is_own" ["code"] 5 (Sp_is_own K C)) : Has P w K mg base "need_own" ["code"] 6 (Sp_need_own K C) := by
  refine mk_has d sc_need_own (fun _ => rfl) (fun _ _ => rfl) fun cdv A outer s H E hr => ⟨_,
    (pss_one (ps_if (PW.pt (pw_or (pt_not (pt_val (pe_callB (kIsi (K := K) rfl) (by rfl) B.b_isinstance (by decide +kernel) (pa_cons (pv 0) (pa_cons (pe_cls T.m) pa_nil))))) (pw_or1 (pt_not (pt_val (pe_use h_is_own (hr.mono (by decide)) (pa_cons (pv 0) pa_nil))))))) (pss_one ps_never) pss_nil)), fun ⟨n, B0⟩ h => ?_⟩
  have h : Nb.Own n B0 := h
  refine ws_if (wt_or (wt_not (wt_B (we_isiO (we_var rfl ⟨_, true, rfl, isiO_ins T.is, true, rfl, ?_⟩)))))
  rw [if_neg (by decide)]
  refine wt_not (wt_B (we_call (wc_im (we_var rfl ⟨_, rfl, wc_nil ⟨(n, B0), h.ok, .cons cv_refl .nil, _, rfl, ?_⟩⟩))))
  show if (!Ju.own n B0) = true then _ else _
  rw [h.own, if_neg (by decide)]
  exact ws_next rfl
abbrev s_ones_in : Stmt := topS 4
theorem sc_ones_in : FnScope ["word", "many"] ["word"] (defScope s_ones_in) := ⟨rfl, rfl, rfl, by decide +kernel, rfl, by decide +kernel, by decide +kernel⟩
abbrev Sp_ones_in (K : PySem.W.Frag) : Sp := spP K (fun (n : Nat) => [.im (rN n)]) (fun _ => True) (fun n => .im (rN (pop n)))
theorem ok_ones_in (d : DefAt K mg "ones_in" s_ones_in ["word"] f fd) : Has P w K mg base "ones_in" ["word"] 1 (Sp_ones_in K) := by
  refine mk_has d sc_ones_in (fun _ => rfl) (fun _ _ => rfl) fun cdv A outer s H E hr => ⟨_,
    (pss_cons (ps_set (i := 1) sc_ones_in.nd rfl (Or.inl rfl) pe_int)
      (pss_cons (ps_while PassesOwn.never (kTru (K := K) rfl (pv 0)) (pss_cons (ps_aug (i := 0) sc_ones_in.nd rfl (Or.inl rfl) (pe_op op_sub (pv 0) pe_int) iop_and)
      (pss_one (ps_aug (i := 1) sc_ones_in.nd rfl (Or.inl rfl) pe_int iop_add))))
      (pss_one (ps_ret (pv 1))))), fun w0 _ => ?_⟩
  refine ws_seq (ws_asg (we_int ?_))
  refine ws_seq (ws_while (fun m E' => ∃ (n c : Nat), m = n ∧ E' = [.im (rN n), .im (rN c)] ∧ c + pop n = pop w0) w0 ⟨w0, 0, rfl, rfl, by omega⟩ ?_)
  rintro m E' ⟨n, c, hm, rfl, hc⟩
  refine wt_tru (we_var rfl ⟨(n : Int), rfl, ?_⟩)
  by_cases hn : n = 0
  · subst hn
    rw [if_neg (by decide)]
    rw [pop_zero] at hc
    exact ws_ret (we_var rfl (by rw [← hc]; rfl))
  · rw [if_pos (by simp [hn])]
    have e : (n : Int) - 1 = ((n - 1 : Nat) : Int) := by omega
    have h := pop_clear n hn
    refine ws_seq (ws_aug rfl (we_op (we_var rfl (we_int ⟨_, opr_sub, _, rfl, opr_I0 (R := rN (n &&& (n - 1))) (fun _ => by show V.int _ = V.int _; rw [e, and_nat]), ?_⟩))))
    exact ws_aug rfl (we_int ⟨_, rfl, opr_add, n &&& (n - 1), by omega, n &&& (n - 1), c + 1, rfl, rfl, by omega⟩)
abbrev s_is_four : Stmt := topS 34
theorem sc_is_four : FnScope ["word"] ["word"] (defScope s_is_four) := ⟨rfl, rfl, rfl, by decide +kernel, rfl, by decide +kernel, by decide +kernel⟩
abbrev Sp_is_four (K : PySem.W.Frag) : Sp := spP K (fun (n : Nat) => [.im (rN n)]) (fun _ => True) (fun n => .im (rB (decide (pop n % 4 = 0))))
theorem ok_is_four (d : DefAt K mg "is_four" s_is_four ["word"] f fd) (h_ones_in : Has P w K mg base "ones_in" ["word"] 1 (Sp_ones_in K)) : Has P w K mg base "is_four" ["word"] 2 (Sp_is_four K) := by
  refine mk_has d sc_is_four (fun _ => rfl) (fun _ _ => rfl) fun cdv A outer s H E hr => ⟨_,
    (pss_one (ps_ret (pe_cmpR op_eq (pe_op op_and (pe_use h_ones_in (hr.mono (by decide)) (pa_cons (pv 0) pa_nil)) pe_int) pe_int (nomark _)))), fun n _ => ?_⟩
  have e3 : pop n &&& 3 = pop n % 4 := Nat.and_two_pow_sub_one_eq_mod (pop n) 2
  refine ws_ret (we_op (we_op (we_call (wc_im (we_var rfl ⟨_, rfl, wc_nil ⟨n, trivial, .cons cv_refl .nil, we_int ⟨_, opr_and (b := 3), we_int ⟨_, opr_eqI, ?_⟩⟩⟩⟩)))))
  show Sl.im (rB (decide (((pop n &&& 3 : Nat) : Int) = 0))) = Sl.im (rB (decide (pop n % 4 = 0)))
  rw [e3, show decide (((pop n % 4 : Nat) : Int) = 0) = decide (pop n % 4 = 0) from decide_eq_decide.mpr ⟨fun h => by omega, fun h => by omega⟩]
abbrev s_has_fours_alone : Stmt := topS 35
theorem sc_has_fours_alone : FnScope ["code", "row"] ["code"] (defScope s_has_fours_alone) := ⟨rfl, rfl, rfl, by decide +kernel, rfl, by decide +kernel, by decide +kernel⟩
theorem all_four {n : Nat} {B : List Nat} (h : Nb.Own n B) : (B.all fun b => decide (pop b % 4 = 0)) = Fo.fours B := by
  unfold Fo.fours
  rw [Bool.eq_iff_iff, List.all_eq_true, List.all_eq_true]
  exact ⟨fun q b hb => by rw [← Fo.four_mem h hb]; exact q b hb, fun q b hb => by rw [Fo.four_mem h hb]; exact q b hb⟩
abbrev Sp_has_fours_alone (K : PySem.W.Frag) (C : Addr) : Sp := spP K (fun (p : Nat × List Nat) => [.im (rCode K C p.1 p.2)]) (fun p => Nb.Own p.1 p.2) (fun p => .im (rB (Fo.fours p.2)))
theorem ok_has_fours_alone (d : DefAt K mg "has_fours_alone" s_has_fours_alone ["code"] f fd) (B : Bt mg) (T : Txt K mg C) (h_Code_basis : PropHas P w K mg base C "basis" 1 (Sp_Code_basis K C)) (h_is_four : Has P w K mg base "is_four" ["word"] 2 (Sp_is_four K)) : Has P w K mg base "has_fours_alone" ["code"] 3 (Sp_has_fours_alone K C) := by
  refine mk_has d sc_has_fours_alone (fun _ => rfl) (fun _ _ => rfl) fun cdv A outer s H E hr => ⟨_,
    (pss_one (ps_ret (pe_callB (kAll (K := K) rfl (by rfl)) (by rfl) B.b_all (by decide +kernel) (pa_cons (pe_lc (own := [("row", 1)]) (g := gName 1) (by rfl) sc_has_fours_alone.nd (kPiT (K := K) rfl (pe_useP h_Code_basis (hr.mono (by decide)) (pv 0))) (blkOk_by (own := [("row", 1)]) (N := ["code", "row"]) (sc := defScope s_has_fours_alone) (by decide +kernel)) (fun _ _ _ _ _ => pg_name (i := 1) sc_has_fours_alone.nd rfl (Or.inl rfl)) (fun _ _ _ _ _ => pts_nil) (fun _ _ _ _ _ => (pe_use h_is_four (hr.mono (by decide)) (pa_cons (pv 1) pa_nil)))) pa_nil)))), fun ⟨n, B0⟩ h => ?_⟩
  have h : Nb.Own n B0 := h
  have hbl := h.ok.len
  have n24 := h.ok.n24
  have s16 : sizeLine = 16777216 := sizeLine_eq
  refine ws_ret (we_cb (wc_own (we_lcM (α := Nat) (wi_tup (we_prop (we_var rfl ⟨(n, B0), _, rfl, rfl, trivial, _, rfl, rfl, rfl, B0, rN, fun _ => true, fun b => rB (decide (pop b % 4 = 0)), rfl, by omega, fun x hx => wt_yes ⟨rfl, rfl, fun _ => ?_⟩, _, rfl, wc_nil ⟨_, (cpr_all (bs := B0.map fun b => decide (pop b % 4 = 0))).cv (.cons ?_ .nil), ?_⟩⟩))))))
  · exact we_call (wc_im (we_var rfl ⟨_, rfl, wc_nil ⟨x, trivial, .cons cv_refl .nil, rfl, rfl⟩⟩))
  · rw [List.filter_true', List.map_map]
    exact cv_lb
  · show Sl.im (rB ((B0.map fun b => decide (pop b % 4 = 0)).all id)) = Sl.im (rB (Fo.fours B0))
    rw [List.all_map]
    exact congrArg (fun z => Sl.im (rB z)) (all_four h)
abbrev s_half_by : Stmt := topS 36
theorem sc_half_by : FnScope ["basis", "odd", "row"] ["basis"] (defScope s_half_by) := ⟨rfl, rfl, rfl, by decide +kernel, rfl, by decide +kernel, by decide +kernel⟩
abbrev Sp_half_by (K : PySem.W.Frag) : Sp := spP K (fun (p : Nat × List Nat) => [.im (rT K (NL p.2))]) (fun p => Nb.Own p.1 p.2) (fun p => .own (NL (Fo.krn Fo.hv p.2)))
theorem ok_half_by (d : DefAt K mg "half_by" s_half_by ["basis"] f fd) (h_is_four : Has P w K mg base "is_four" ["word"] 2 (Sp_is_four K)) : Has P w K mg base "half_by" ["basis"] 3 (Sp_half_by K) := by
  refine mk_has d sc_half_by (fun _ => rfl) (fun _ _ => rfl) fun cdv A outer s H E hr => ⟨_,
    (pss_cons (ps_set (i := 1) sc_half_by.nd rfl (Or.inr rfl) (pe_lc (own := [("row", 2)]) (g := gName 2) (by rfl) sc_half_by.nd (kPiT (K := K) rfl (pv 0)) (blkOk_by (own := [("row", 2)]) (N := ["basis", "odd", "row"]) (sc := defScope s_half_by) (by decide +kernel)) (fun _ _ _ _ _ => pg_name (i := 2) sc_half_by.nd rfl (Or.inl rfl)) (fun _ _ _ _ _ => (pts_one (pt_not (pt_val (pe_use h_is_four (hr.mono (by decide)) (pa_cons (pv 2) pa_nil)))))) (fun _ _ _ _ _ => (pv 2))))
      (pss_one (ps_ret (pe_op op_cat (pe_lc (own := [("row", 2)]) (g := gName 2) (by rfl) sc_half_by.nd (kPiT (K := K) rfl (pv 0)) (blkOk_by (own := [("row", 2)]) (N := ["basis", "odd", "row"]) (sc := defScope s_half_by) (by decide +kernel)) (fun _ _ _ _ _ => pg_name (i := 2) sc_half_by.nd rfl (Or.inl rfl)) (fun _ _ _ _ _ => (pts_one (pt_val (pe_use h_is_four (hr.mono (by decide)) (pa_cons (pv 2) pa_nil))))) (fun _ _ _ _ _ => (pv 2))) (pe_lc (own := [("row", 2)]) (g := gName 2) (by rfl) sc_half_by.nd (kPiL (K := K) rfl (pe_slice (kSlL (K := K) rfl) (pv 1) (po_some pe_int) po_none)) (blkOk_by (own := [("row", 2)]) (N := ["basis", "odd", "row"]) (sc := defScope s_half_by) (by decide +kernel)) (fun _ _ _ _ _ => pg_name (i := 2) sc_half_by.nd rfl (Or.inl rfl)) (fun _ _ _ _ _ => pts_nil) (fun _ _ _ _ _ => (pe_op op_xor (pe_ix (kIxL (K := K) rfl) (pv 1) pe_int (fun _ _ => rfl)) (pv 2)))))))), fun ⟨n, B0⟩ h => ?_⟩
  have h : Nb.Own n B0 := h
  have hl := h.ok.len
  have n24 := h.ok.n24
  have s16 : sizeLine = 16777216 := sizeLine_eq
  have hol : (B0.filter Fo.hv).length ≤ B0.length := List.length_filter_le _ _
  have hel : (B0.filter fun b => !Fo.hv b).length ≤ B0.length := List.length_filter_le _ _
  show WS K _ [.im (rT K (NL B0)), .no, .no] _ _ _ _
  refine ws_seq (ws_asg (we_lcM (α := Nat) (wi_tup (we_var rfl ⟨_, rfl, rfl, rfl, B0, rN, Fo.hv, rN, rfl, by omega, fun x hx => ?_, ?_⟩))))
  · refine wt_not (wt_B (we_call (wc_im (we_var rfl ⟨_, rfl, wc_nil ⟨x, trivial, .cons cv_refl .nil, _, rfl, ?_⟩⟩))))
    refine ⟨?_, rfl, fun _ => we_var rfl ⟨rfl, rfl⟩⟩
    rw [Fo.four_mem h hx]
    cases Fo.hv x <;> rfl
  show WS K _ [.im (rT K (NL B0)), .own (NL (B0.filter Fo.hv)), .no] _ _ _ _
  refine ws_ret (we_opc (wc_own (we_lcM (α := Nat) (wi_tup (we_var rfl ⟨_, rfl, rfl, rfl, B0, rN, fun b => !Fo.hv b, rN, rfl, by omega, fun x hx => ?_, _, rfl, ?_⟩)))))
  · refine wt_B (we_call (wc_im (we_var rfl ⟨_, rfl, wc_nil ⟨x, trivial, .cons cv_refl .nil, _, rfl, ?_⟩⟩)))
    refine ⟨?_, rfl, fun _ => we_var rfl ⟨rfl, rfl⟩⟩
    rw [Fo.four_mem h hx]
  refine wc_own (we_lcM (α := Nat) (wi_lst (we_slTailV rfl ⟨_, rfl, rfl, rfl, (B0.filter Fo.hv).drop 1, rN, fun _ => true, fun b => rN ((B0.filter Fo.hv).headD 0 ^^^ b), ?_, ?_, fun x hx => ?_, _, rfl, ?_⟩)))
  · unfold NL
    rw [List.map_drop]
  · rw [List.length_drop]
    omega
  · refine wt_yes ⟨rfl, rfl, fun _ => we_op (we_opc (wc_var rfl (wc_im (we_int ⟨_, rfl, wc_nil ⟨rfl, _, _, _, rfl, (opc_ixL (m := 0) rfl (R := rN ((B0.filter Fo.hv).headD 0)) ?_).cv cv_lb cv_refl, we_var rfl ⟨_, opr_xor, rfl, rfl⟩⟩⟩))))⟩
    rw [List.getElem?_map, Cu.drop_head hx]
    rfl
  have e : (NL (B0.filter fun b => !Fo.hv b)) ++ (((B0.filter Fo.hv).drop 1).filter fun _ => true).map (fun b => rN ((B0.filter Fo.hv).headD 0 ^^^ b)) = NL (Fo.krn Fo.hv B0) := by
    unfold NL Fo.krn
    rw [List.filter_true', List.map_append, List.map_map]
    rfl
  refine wc_nil ⟨_, _, _, rfl, opc_cat ?_, ?_⟩
  · rw [List.length_map, List.length_map, List.filter_true', List.length_drop]
    omega
  · show Sl.own ((NL (B0.filter fun b => !Fo.hv b)) ++ (((B0.filter Fo.hv).drop 1).filter fun _ => true).map (fun b => rN ((B0.filter Fo.hv).headD 0 ^^^ b))) = Sl.own (NL (Fo.krn Fo.hv B0))
    rw [e]
abbrev s_need_not_by_fours : Stmt := topS 38
theorem sc_need_not_by_fours : FnScope ["code"] ["code"] (defScope s_need_not_by_fours) := ⟨rfl, rfl, rfl, by decide +kernel, rfl, by decide +kernel, by decide +kernel⟩
abbrev Sp_need_not_by_fours (K : PySem.W.Frag) (C : Addr) : Sp := spP K (fun (p : Nat × List Nat) => [.im (rCode K C p.1 p.2)]) (fun p => Nb.Own p.1 p.2 ∧ Fo.fours p.2 = false) (fun _ => .im Fx.rU)
theorem ok_need_not_by_fours (d : DefAt K mg "need_not_by_fours" s_need_not_by_fours ["code"] f fd) (h_has_fours_alone : Has P w K mg base "has_fours_alone" ["code"] 3 (Sp_has_fours_alone K C)) : Has P w K mg base "need_not_by_fours" ["code"] 4 (Sp_need_not_by_fours K C) := by
  refine mk_has d sc_need_not_by_fours (fun _ => rfl) (fun _ _ => rfl) fun cdv A outer s H E hr => ⟨_,
    (pss_one (ps_if (pt_val (pe_use h_has_fours_alone (hr.mono (by decide)) (pa_cons (pv 0) pa_nil))) (pss_one ps_never) pss_nil)), fun ⟨n, B0⟩ ⟨h, nf⟩ => ?_⟩
  have nf : Fo.fours B0 = false := nf
  refine ws_if (wt_test (we_call (wc_im (we_var rfl ⟨_, rfl, wc_nil ⟨(n, B0), h, .cons cv_refl .nil, _, rfl, ?_⟩⟩))))
  show if Fo.fours B0 = true then _ else _
  rw [if_neg (by rw [nf]; decide)]
  exact ws_next rfl
abbrev s_least_shadow_by : Stmt := topS 39
theorem sc_least_shadow_by : FnScope ["basis", "row"] ["basis"] (defScope s_least_shadow_by) := ⟨rfl, rfl, rfl, by decide +kernel, rfl, by decide +kernel, by decide +kernel⟩
abbrev Sp_least_shadow_by (K : PySem.W.Frag) : Sp := spP K (fun (p : Nat × List Nat) => [.im (rT K (NL p.2))]) (fun p => Nb.Own p.1 p.2) (fun p => .im (rN (Fo.shR p.2)))
theorem ok_least_shadow_by (d : DefAt K mg "least_shadow_by" s_least_shadow_by ["basis"] f fd) (h_remainder_by : Has P w K mg base "remainder_by" ["basis", "word"] 1 (Sp_remainder_by K)) (h_word_at : Has P w K mg base "word_at" ["places"] 2 (Sp_word_at K)) (h_is_four : Has P w K mg base "is_four" ["word"] 2 (Sp_is_four K)) (h_head_place : Has P w K mg base "head_place" ["word"] 1 (Sp_head_place K)) : Has P w K mg base "least_shadow_by" ["basis"] 3 (Sp_least_shadow_by K) := by
  refine mk_has d sc_least_shadow_by (fun _ => rfl) (fun _ _ => rfl) fun cdv A outer s H E hr => ⟨_,
    (pss_one (ps_ret (pe_use h_remainder_by (hr.mono (by decide)) (pa_cons (pv 0) (pa_cons (pe_use h_word_at (hr.mono (by decide)) (pa_cons (pe_lc (own := [("row", 1)]) (g := gName 1) (by rfl) sc_least_shadow_by.nd (kPiT (K := K) rfl (pv 0)) (blkOk_by (own := [("row", 1)]) (N := ["basis", "row"]) (sc := defScope s_least_shadow_by) (by decide +kernel)) (fun _ _ _ _ _ => pg_name (i := 1) sc_least_shadow_by.nd rfl (Or.inl rfl)) (fun _ _ _ _ _ => (pts_one (pt_not (pt_val (pe_use h_is_four (hr.mono (by decide)) (pa_cons (pv 1) pa_nil)))))) (fun _ _ _ _ _ => (pe_use h_head_place (hr.mono (by decide)) (pa_cons (pv 1) pa_nil)))) pa_nil)) pa_nil))))), fun ⟨n, B0⟩ h => ?_⟩
  have h : Nb.Own n B0 := h
  have hbl := h.ok.len
  have n24 := h.ok.n24
  have s16 : sizeLine = 16777216 := sizeLine_eq
  have hfl : (B0.filter Fo.hv).length ≤ B0.length := List.length_filter_le _ _
  refine ws_ret (we_call (wc_im (we_var rfl ⟨_, rfl, wc_im (we_call (wc_own (we_lcM (α := Nat) (wi_tup (we_var rfl ⟨_, rfl, rfl, rfl, B0, rN, Fo.hv, fun r => rN (hd r), rfl, by omega, fun x hx => ?_, _, rfl, ?_⟩)))))⟩)))
  · refine wt_not (wt_B (we_call (wc_im (we_var rfl ⟨_, rfl, wc_nil ⟨x, trivial, .cons cv_refl .nil, _, rfl, ?_⟩⟩))))
    refine ⟨?_, rfl, fun _ => we_call (wc_im (we_var rfl ⟨_, rfl, wc_nil ⟨x, h.ok.bas.rr.nz x hx, .cons cv_refl .nil, rfl, rfl⟩⟩))⟩
    rw [Fo.four_mem h hx, Bool.not_not]
  · have e : (B0.filter Fo.hv).map (fun r => rN (hd r)) = NL (Fo.shL B0) := by
      unfold NL Fo.shL
      rw [List.map_map]
      rfl
    rw [e]
    refine wc_nil ⟨Fo.shL B0, ⟨by show (Fo.shL B0).length ≤ 100000; unfold Fo.shL; rw [List.length_map]; omega, fun p hp => ?_⟩, .cons cv_ls .nil, _, rfl, wc_nil ⟨(B0, Fo.shW B0), trivial, .cons cv_ts (.cons cv_refl .nil), rfl⟩⟩
    obtain ⟨r, hr, e⟩ := List.mem_map.mp hp
    have hrB := (List.mem_filter.mp hr).1
    have h0 := h.ok.bas.rr.nz r hrB
    have h1 := h.ok.bas.lt r hrB
    rw [← e]
    have := hd_le (Nat.lt_of_lt_of_le h1 (Nat.pow_le_pow_right (by decide) (by omega))) h0
    exact this
abbrev s_quarters_by : Stmt := topS 40
theorem sc_quarters_by : FnScope ["basis", "half_basis", "other", "one", "row"] ["basis", "half_basis"] (defScope s_quarters_by) := ⟨rfl, rfl, rfl, by decide +kernel, rfl, by decide +kernel, by decide +kernel⟩
abbrev Sp_quarters_by (K : PySem.W.Frag) : Sp := spP K (fun (p : Nat × List Nat) => [.im (rT K (NL p.2)), .im (rT K (NL (Fo.halfB p.2)))]) (fun p => Nb.Own p.1 p.2 ∧ Fo.fours p.2 = false) (fun p => .im (rTN K (NL (Fo.qrt p.2))))
theorem ok_quarters_by (d : DefAt K mg "quarters_by" s_quarters_by ["basis", "half_basis"] f fd) (h_is_four : Has P w K mg base "is_four" ["word"] 2 (Sp_is_four K)) (h_least_shadow_by : Has P w K mg base "least_shadow_by" ["basis"] 3 (Sp_least_shadow_by K)) (h_remainder_by : Has P w K mg base "remainder_by" ["basis", "word"] 1 (Sp_remainder_by K)) : Has P w K mg base "quarters_by" ["basis", "half_basis"] 4 (Sp_quarters_by K) := by
  refine mk_has d sc_quarters_by (fun _ => rfl) (fun _ _ => rfl) fun cdv A outer s H E hr => ⟨_,
    (pss_cons (ps_set (i := 2) sc_quarters_by.nd rfl (Or.inl rfl) (pe_ix (kIxL (K := K) rfl) (pe_lc (own := [("row", 4)]) (g := gName 4) (by rfl) sc_quarters_by.nd (kPiT (K := K) rfl (pv 0)) (blkOk_by (own := [("row", 4)]) (N := ["basis", "half_basis", "other", "one", "row"]) (sc := defScope s_quarters_by) (by decide +kernel)) (fun _ _ _ _ _ => pg_name (i := 4) sc_quarters_by.nd rfl (Or.inl rfl)) (fun _ _ _ _ _ => (pts_one (pt_not (pt_val (pe_use h_is_four (hr.mono (by decide)) (pa_cons (pv 4) pa_nil)))))) (fun _ _ _ _ _ => (pv 4))) pe_int (fun _ _ => rfl)))
      (pss_cons (ps_set (i := 3) sc_quarters_by.nd rfl (Or.inl rfl) (pe_use h_least_shadow_by (hr.mono (by decide)) (pa_cons (pv 0) pa_nil)))
      (pss_one (ps_ret (kTupN (K := K) rfl (pa_cons pe_int (pa_cons (pv 3) (pa_cons (pe_use h_remainder_by (hr.mono (by decide)) (pa_cons (pv 1) (pa_cons (pv 2) pa_nil))) (pa_cons (pe_use h_remainder_by (hr.mono (by decide)) (pa_cons (pv 1) (pa_cons (pe_op op_xor (pv 3) (pv 2)) pa_nil))) pa_nil))))))))), fun ⟨n, B0⟩ ⟨h, nf⟩ => ?_⟩
  have h : Nb.Own n B0 := h
  have nf : Fo.fours B0 = false := nf
  have hbl := h.ok.len
  have n24 := h.ok.n24
  have s16 : sizeLine = 16777216 := sizeLine_eq
  show WS K _ [.im (rT K (NL B0)), .im (rT K (NL (Fo.halfB B0))), .no, .no, .no] _ _ _ _
  refine ws_seq (ws_asg (we_opc (wc_own (we_lcM (α := Nat) (wi_tup (we_var rfl ⟨_, rfl, rfl, rfl, B0, rN, Fo.hv, rN, rfl, by omega, fun x hx => ?_, _, rfl, wc_im (we_int ⟨_, rfl, wc_nil ⟨_, _, _, rfl, (opc_ixL (m := 0) rfl (R := rN (Fo.oh B0)) ?_).cv cv_lb cv_refl, ?_⟩⟩)⟩))))))
  · refine wt_not (wt_test (we_call (wc_im (we_var rfl ⟨_, rfl, wc_nil ⟨x, trivial, .cons cv_refl .nil, _, rfl, ?_⟩⟩))))
    refine ⟨?_, rfl, fun _ => we_var rfl ⟨rfl, rfl⟩⟩
    rw [Fo.four_mem h hx, Bool.not_not]
  · rw [List.getElem?_map]
    have e : (B0.filter Fo.hv)[0]? = some (Fo.oh B0) := by
      have hm : Fo.oh B0 ∈ B0.filter Fo.hv := List.mem_filter.mpr (Fo.oh_mem nf)
      unfold Fo.oh at hm ⊢
      cases q : B0.filter Fo.hv with
      | nil =>
        rw [q] at hm
        cases hm
      | cons a l => rfl
    rw [e]
    rfl
  show WS K _ [.im (rT K (NL B0)), .im (rT K (NL (Fo.halfB B0))), .im (rN (Fo.oh B0)), .no, .no] _ _ _ _
  refine ws_seq (ws_asg (we_call (wc_im (we_var rfl ⟨_, rfl, wc_nil ⟨(n, B0), h, .cons cv_refl .nil, ?_⟩⟩))))
  show WS K _ [.im (rT K (NL B0)), .im (rT K (NL (Fo.halfB B0))), .im (rN (Fo.oh B0)), .im (rN (Fo.shR B0)), .no] _ _ _ _
  refine ws_ret (we_tupN (wa_cons (we_int (wa_cons (we_var rfl (wa_cons (we_call (wc_im (we_var rfl ⟨_, rfl, wc_im (we_var rfl ⟨_, rfl, wc_nil ⟨(Fo.halfB B0, Fo.oh B0), trivial, .cons cv_ts (.cons cv_refl .nil), ?_⟩⟩)⟩)))))))))
  refine wa_cons (we_call (wc_im (we_var rfl ⟨_, rfl, wc_im (we_op (we_var rfl (we_var rfl ⟨_, opr_xor, _, rfl, wc_nil ⟨(Fo.halfB B0, Fo.shR B0 ^^^ Fo.oh B0), trivial, .cons cv_ts (.cons cv_refl .nil), wa_nil ⟨NL (Fo.qrt B0), rfl, by rw [s16]; show 4 ≤ _; decide, rfl⟩⟩⟩)))⟩)))
abbrev s_quarters : Stmt := topS 41
theorem sc_quarters : FnScope ["code"] ["code"] (defScope s_quarters) := ⟨rfl, rfl, rfl, by decide +kernel, rfl, by decide +kernel, by decide +kernel⟩
abbrev Sp_quarters (K : PySem.W.Frag) (C : Addr) : Sp := spP K (fun (p : Nat × List Nat) => [.im (rCode K C p.1 p.2)]) (fun p => Nb.Own p.1 p.2 ∧ Fo.fours p.2 = false) (fun p => .im (rTN K (NL (Fo.qrt p.2))))
theorem ok_quarters (d : DefAt K mg "quarters" s_quarters ["code"] f fd) (T : Txt K mg C) (h_need_own : Has P w K mg base "need_own" ["code"] 6 (Sp_need_own K C)) (h_need_not_by_fours : Has P w K mg base "need_not_by_fours" ["code"] 4 (Sp_need_not_by_fours K C)) (h_quarters_by : Has P w K mg base "quarters_by" ["basis", "half_basis"] 4 (Sp_quarters_by K)) (h_Code_basis : PropHas P w K mg base C "basis" 1 (Sp_Code_basis K C)) (h_basis_by : Has P w K mg base "basis_by" ["words"] 2 (Sp_basis_by K)) (h_half_by : Has P w K mg base "half_by" ["basis"] 3 (Sp_half_by K)) : Has P w K mg base "quarters" ["code"] 7 (Sp_quarters K C) := by
  refine mk_has d sc_quarters (fun _ => rfl) (fun _ _ => rfl) fun cdv A outer s H E hr => ⟨_,
    (pss_cons (ps_expr (pe_use h_need_own (hr.mono (by decide)) (pa_cons (pv 0) pa_nil)))
      (pss_cons (ps_expr (pe_use h_need_not_by_fours (hr.mono (by decide)) (pa_cons (pv 0) pa_nil)))
      (pss_one (ps_ret (pe_use h_quarters_by (hr.mono (by decide)) (pa_cons (pe_useP h_Code_basis (hr.mono (by decide)) (pv 0)) (pa_cons (pe_use h_basis_by (hr.mono (by decide)) (pa_cons (pe_use h_half_by (hr.mono (by decide)) (pa_cons (pe_useP h_Code_basis (hr.mono (by decide)) (pv 0)) pa_nil)) pa_nil)) pa_nil))))))), fun ⟨n, B0⟩ ⟨h, nf⟩ => ?_⟩
  have h : Nb.Own n B0 := h
  have nf : Fo.fours B0 = false := nf
  have hbl := h.ok.len
  have n24 := h.ok.n24
  have hkl := Fo.krn_len Fo.hv B0
  refine ws_seq (ws_drop (we_call (wc_im (we_var rfl ⟨_, rfl, wc_nil ⟨(n, B0), h, .cons cv_refl .nil, ?_⟩⟩))))
  refine ws_seq (ws_drop (we_call (wc_im (we_var rfl ⟨_, rfl, wc_nil ⟨(n, B0), ⟨h, nf⟩, .cons cv_refl .nil, ?_⟩⟩))))
  refine ws_ret (we_call (wc_im (we_prop (we_var rfl ⟨(n, B0), _, rfl, rfl, trivial, _, rfl, ?_⟩))))
  refine wc_im (we_call (wc_own (we_call (wc_im (we_prop (we_var rfl ⟨(n, B0), _, rfl, rfl, trivial, _, rfl, wc_nil ⟨(n, B0), h, .cons cv_refl .nil, _, rfl, wc_nil ⟨Fo.krn Fo.hv B0, by show (Fo.krn Fo.hv B0).length ≤ 100000; omega, .cons cv_ls .nil, _, rfl, ?_⟩⟩⟩))))))
  exact wc_nil ⟨(n, B0), ⟨h, nf⟩, .cons cv_refl (.cons cv_refl .nil), rfl⟩
abbrev s_quarter_of : Stmt := topS 42
theorem sc_quarter_of : FnScope ["code", "word", "half_basis", "least", "rest"] ["code", "word"] (defScope s_quarter_of) := ⟨rfl, rfl, rfl, by decide +kernel, rfl, by decide +kernel, by decide +kernel⟩
abbrev Sp_quarter_of (K : PySem.W.Frag) (C : Addr) : Sp := spP K (fun (p : (Nat × List Nat) × Nat) => [.im (rCode K C p.1.1 p.1.2), .im (rN p.2)]) (fun p => Nb.Own p.1.1 p.1.2 ∧ Fo.fours p.1.2 = false ∧ p.2 < 2 ^ p.1.1) (fun p => .im (rON (Fo.quO p.1.2 p.2)))
theorem ok_quarter_of (d : DefAt K mg "quarter_of" s_quarter_of ["code", "word"] f fd) (T : Txt K mg C) (h_need_own : Has P w K mg base "need_own" ["code"] 6 (Sp_need_own K C)) (h_need_word : Has P w K mg base "need_word" ["length", "word"] 4 (Sp_need_word K)) (h_Code_length : PropHas P w K mg base C "length" 1 (Sp_Code_length K C)) (h_need_not_by_fours : Has P w K mg base "need_not_by_fours" ["code"] 4 (Sp_need_not_by_fours K C)) (h_basis_by : Has P w K mg base "basis_by" ["words"] 2 (Sp_basis_by K)) (h_half_by : Has P w K mg base "half_by" ["basis"] 3 (Sp_half_by K)) (h_Code_basis : PropHas P w K mg base C "basis" 1 (Sp_Code_basis K C)) (h_quarters_by : Has P w K mg base "quarters_by" ["basis", "half_basis"] 4 (Sp_quarters_by K)) (h_remainder_by : Has P w K mg base "remainder_by" ["basis", "word"] 1 (Sp_remainder_by K)) : Has P w K mg base "quarter_of" ["code", "word"] 7 (Sp_quarter_of K C) := by
  refine mk_has d sc_quarter_of (fun _ => rfl) (fun _ _ => rfl) fun cdv A outer s H E hr => ⟨_,
    (pss_cons (ps_expr (pe_use h_need_own (hr.mono (by decide)) (pa_cons (pv 0) pa_nil)))
      (pss_cons (ps_expr (pe_use h_need_word (hr.mono (by decide)) (pa_cons (pe_useP h_Code_length (hr.mono (by decide)) (pv 0)) (pa_cons (pv 1) pa_nil))))
      (pss_cons (ps_expr (pe_use h_need_not_by_fours (hr.mono (by decide)) (pa_cons (pv 0) pa_nil)))
      (pss_cons (ps_set (i := 2) sc_quarter_of.nd rfl (Or.inl rfl) (pe_use h_basis_by (hr.mono (by decide)) (pa_cons (pe_use h_half_by (hr.mono (by decide)) (pa_cons (pe_useP h_Code_basis (hr.mono (by decide)) (pv 0)) pa_nil)) pa_nil)))
      (pss_cons (ps_set (i := 3) sc_quarter_of.nd rfl (Or.inl rfl) (pe_use h_quarters_by (hr.mono (by decide)) (pa_cons (pe_useP h_Code_basis (hr.mono (by decide)) (pv 0)) (pa_cons (pv 2) pa_nil))))
      (pss_cons (ps_set (i := 4) sc_quarter_of.nd rfl (Or.inl rfl) (pe_use h_remainder_by (hr.mono (by decide)) (pa_cons (pv 2) (pa_cons (pv 1) pa_nil))))
      (pss_one (ps_ret (pe_ifExp (pt_cmpR (kIn (K := K) rfl) (pv 4) (pv 3) (by rfl)) (kTix (K := K) rfl (pv 3) (pa_cons (pv 4) pa_nil)) pe_non))))))))), fun ⟨⟨n, B0⟩, w⟩ ⟨h, nf, hw⟩ => ?_⟩
  have h : Nb.Own n B0 := h
  have nf : Fo.fours B0 = false := nf
  have hw : w < 2 ^ n := hw
  have hbl := h.ok.len
  have n24 := h.ok.n24
  have hkl := Fo.krn_len Fo.hv B0
  refine ws_seq (ws_drop (we_call (wc_im (we_var rfl ⟨_, rfl, wc_nil ⟨(n, B0), h, .cons cv_refl .nil, ?_⟩⟩))))
  refine ws_seq (ws_drop (we_call (wc_im (we_prop (we_var rfl ⟨(n, B0), _, rfl, rfl, trivial, _, rfl, wc_im (we_var rfl ⟨_, rfl, wc_nil ⟨(n, w), ⟨by show n ≤ 1000; omega, hw⟩, .cons cv_refl (.cons cv_refl .nil), ?_⟩⟩)⟩)))))
  refine ws_seq (ws_drop (we_call (wc_im (we_var rfl ⟨_, rfl, wc_nil ⟨(n, B0), ⟨h, nf⟩, .cons cv_refl .nil, ?_⟩⟩))))
  show WS K _ [.im (rCode K C n B0), .im (rN w), .no, .no, .no] _ _ _ _
  refine ws_seq (ws_asg (we_call (wc_own (we_call (wc_im (we_prop (we_var rfl ⟨(n, B0), _, rfl, rfl, trivial, _, rfl, wc_nil ⟨(n, B0), h, .cons cv_refl .nil, _, rfl, wc_nil ⟨Fo.krn Fo.hv B0, by show (Fo.krn Fo.hv B0).length ≤ 100000; omega, .cons cv_ls .nil, ?_⟩⟩⟩)))))))
  show WS K _ [.im (rCode K C n B0), .im (rN w), .im (rT K (NL (Fo.halfB B0))), .no, .no] _ _ _ _
  refine ws_seq (ws_asg (we_call (wc_im (we_prop (we_var rfl ⟨(n, B0), _, rfl, rfl, trivial, _, rfl, wc_im (we_var rfl ⟨_, rfl, wc_nil ⟨(n, B0), ⟨h, nf⟩, .cons cv_refl (.cons cv_refl .nil), ?_⟩⟩)⟩)))))
  show WS K _ [.im (rCode K C n B0), .im (rN w), .im (rT K (NL (Fo.halfB B0))), .im (rTN K (NL (Fo.qrt B0))), .no] _ _ _ _
  refine ws_seq (ws_asg (we_call (wc_im (we_var rfl ⟨_, rfl, wc_im (we_var rfl ⟨_, rfl, wc_nil ⟨(Fo.halfB B0, w), trivial, .cons cv_ts (.cons cv_refl .nil), ?_⟩⟩)⟩))))
  show WS K _ [.im (rCode K C n B0), .im (rN w), .im (rT K (NL (Fo.halfB B0))), .im (rTN K (NL (Fo.qrt B0))), .im (rN (rem (Fo.halfB B0) w))] _ _ _ _
  refine ws_ret (we_if (wt_test (we_opc (wc_im (we_var rfl ⟨_, rfl, wc_im (we_var rfl ⟨_, rfl, wc_nil ⟨_, _, _, rfl, opc_inN, _, rfl, ?_⟩⟩)⟩)))))
  show if decide (rem (Fo.halfB B0) w ∈ Fo.qrt B0) = true then _ else _
  by_cases hm : rem (Fo.halfB B0) w ∈ Fo.qrt B0
  · rw [if_pos (decide_eq_true hm)]
    refine we_tix (ns := Fo.qrt B0) rfl (we_var rfl ⟨_, rfl, rfl, hm, ?_⟩)
    show Sl.im _ = Sl.im (rON (Fo.quO B0 w))
    unfold Fo.quO
    rw [if_pos hm]
    rfl
  · rw [if_neg (by simpa using hm)]
    refine we_non ?_
    show Sl.im _ = Sl.im (rON (Fo.quO B0 w))
    unfold Fo.quO
    rw [if_neg hm]
    rfl
abbrev s_need_even : Stmt := topS 23
theorem sc_need_even : FnScope ["given", "least", "most"] ["given", "least", "most"] (defScope s_need_even) := ⟨rfl, rfl, rfl, by decide +kernel, rfl, by decide +kernel, by decide +kernel⟩
abbrev Sp_need_even (K : PySem.W.Frag) : Sp := spP K (fun (p : Nat × Nat × Nat) => [.im (rN p.1), .im (rN p.2.1), .im (rN p.2.2)]) (fun p => p.2.1 ≤ p.1 ∧ p.1 ≤ p.2.2 ∧ p.1 % 2 = 0) (fun _ => .im Fx.rU)
theorem ok_need_even (d : DefAt K mg "need_even" s_need_even ["given", "least", "most"] f fd) (h_need_number : Has P w K mg base "need_number" ["given", "least", "most"] 3 (Sp_need_number K)) : Has P w K mg base "need_even" ["given", "least", "most"] 4 (Sp_need_even K) := by
  refine mk_has d sc_need_even (fun _ => rfl) (fun _ _ => rfl) fun cdv A outer s H E hr => ⟨_,
    (pss_cons (ps_expr (pe_use h_need_number (hr.mono (by decide)) (pa_cons (pv 0) (pa_cons (pv 1) (pa_cons (pv 2) pa_nil)))))
      (pss_one (ps_if (kTru (K := K) rfl (pe_op op_and (pv 0) pe_int)) (pss_one ps_never) pss_nil))), fun ⟨n, a, b⟩ ⟨h1, h2, h3⟩ => ?_⟩
  have h3 : n % 2 = 0 := h3
  refine ws_seq (ws_drop (we_call (wc_im (we_var rfl ⟨_, rfl, wc_im (we_var rfl ⟨_, rfl, wc_im (we_var rfl ⟨_, rfl, wc_nil ⟨(n, a, b), ⟨h1, h2⟩, .cons cv_refl (.cons cv_refl (.cons cv_refl .nil)), ?_⟩⟩)⟩)⟩))))
  refine ws_if (wt_tru (we_op (we_var rfl (we_int ⟨_, opr_and1, _, rfl, ?_⟩))))
  rw [h3, if_neg (by decide)]
  exact ws_next rfl
abbrev s_need_own_length : Stmt := topS 31
theorem sc_need_own_length : FnScope ["length"] ["length"] (defScope s_need_own_length) := ⟨rfl, rfl, rfl, by decide +kernel, rfl, by decide +kernel, by decide +kernel⟩
abbrev Sp_need_own_length (K : PySem.W.Frag) : Sp := spP K (fun (n : Nat) => [.im (rN n)]) (fun n => 1 ≤ n ∧ n ≤ 24 ∧ n % 2 = 0) (fun _ => .im Fx.rU)
theorem ok_need_own_length (d : DefAt K mg "need_own_length" s_need_own_length ["length"] f fd) (Cc : Ct mg) (h_need_even : Has P w K mg base "need_even" ["given", "least", "most"] 4 (Sp_need_even K)) : Has P w K mg base "need_own_length" ["length"] 5 (Sp_need_own_length K) := by
  refine mk_has d sc_need_own_length (fun _ => rfl) (fun _ _ => rfl) fun cdv A outer s H E hr => ⟨_,
    (pss_one (ps_expr (pe_use h_need_even (hr.mono (by decide)) (pa_cons (pv 0) (pa_cons pe_int (pa_cons (pe_const Cc.c_MOST_LENGTH) pa_nil)))))), fun n ⟨h1, h2, h3⟩ => ?_⟩
  have h1 : 1 ≤ n := h1
  have h3 : n % 2 = 0 := h3
  exact ws_drop (we_call (wc_im (we_var rfl ⟨_, rfl, wc_im (we_int ⟨_, rfl, wc_im (we_int ⟨_, rfl, wc_nil ⟨(n, 2, 24), ⟨by show 2 ≤ n; omega, h2, h3⟩, .cons cv_refl (.cons cv_refl (.cons cv_refl .nil)), rfl⟩⟩)⟩)⟩)))
end
end K58
set_option Elab.async false
set_option linter.all false
set_option maxRecDepth 100000
set_option maxHeartbeats 2000000
namespace K58
open PySem L2 Fx Wd Gf Lb Px PyProof.Rows RT
local macro_rules | `(tactic| walk_at "fx") => `(tactic| first
  | with_reducible refine ws_seq ?_
  | with_reducible refine ws_asg ?_
  | with_reducible refine ws_ret ?_
  | with_reducible refine ws_drop ?_
  | with_reducible refine ws_if ?_
  | with_reducible refine ws_next ?_
  | with_reducible refine wt_not ?_
  | with_reducible refine wt_B ?_
  | with_reducible refine wt_test ?_
  | with_reducible refine wt_and ?_
  | with_reducible refine wt_or ?_
  | with_reducible refine wt_yes ?_
  | refine wt_tru ?_
  | refine we_var rfl ?_
  | with_reducible refine we_int ?_
  | with_reducible refine we_bl ?_
  | with_reducible refine we_str ?_
  | with_reducible refine we_non ?_
  | with_reducible refine we_ty ?_
  | with_reducible refine we_if ?_
  | with_reducible refine we_andV ?_
  | with_reducible refine we_orV ?_
  | with_reducible refine we_notV ?_
  | with_reducible refine we_un ?_
  | with_reducible refine we_tup ?_
  | with_reducible refine we_lst ?_
  | with_reducible refine we_bits ?_
  | with_reducible refine we_chain ?_
  | with_reducible refine we_call ?_
  | with_reducible refine we_cb ?_
  | refine we_ixBox (m := 0) rfl rfl rfl ?_
  | refine we_ixBox (m := 1) rfl rfl rfl ?_
  | refine we_ixBox (m := 2) rfl rfl rfl ?_
  | with_reducible refine we_opc (r := rCat) ?_
  | with_reducible refine we_opc (r := rIn _ _) ?_
  | with_reducible refine we_opc (r := rIxL _) ?_
  | with_reducible refine we_opc (r := rIxT _) ?_
  | with_reducible refine we_opc (r := rIx _) ?_
  | with_reducible refine we_op ?_
  | with_reducible refine wa_nil ?_
  | with_reducible refine wa_cons ?_
  | refine wc_nil ?_
  | refine wc_im (we_var rfl ⟨_, rfl, ?_⟩)
  | refine wc_var rfl ?_
  | refine wc_seq rfl ?_
  | refine wc_bor rfl ?_
  | with_reducible refine wc_im ?_
  | refine wq_nil ?_
  | refine wq_im (we_var rfl ⟨_, rfl, rfl, ?_⟩)
  | refine wq_var rfl ?_
  | with_reducible refine wq_im ?_
  | with_reducible refine ⟨_, opr_add, ?_⟩
  | with_reducible refine ⟨_, opr_sub, ?_⟩
  | with_reducible refine ⟨_, opr_xor, ?_⟩
  | with_reducible refine ⟨_, opr_and1, ?_⟩
  | with_reducible refine ⟨_, opr_and, ?_⟩
  | with_reducible refine ⟨_, opr_shr, ?_⟩
  | with_reducible refine ⟨_, opr_lt, ?_⟩
  | with_reducible refine ⟨_, opr_le, ?_⟩
  | with_reducible refine ⟨_, opr_gt, ?_⟩
  | with_reducible refine ⟨_, opr_ge, ?_⟩
  | with_reducible refine ⟨_, opr_eqI, ?_⟩
  | with_reducible refine ⟨_, opr_neI, ?_⟩
  | with_reducible refine ⟨_, opr_mod (by first | assumption | omega), ?_⟩
  | with_reducible refine ⟨_, cpr_int, ?_⟩
  | with_reducible refine ⟨_, cpr_intB, ?_⟩
  | with_reducible refine ⟨_, cpr_abs, ?_⟩
  | with_reducible refine ⟨_, cpr_max2, ?_⟩
  | with_reducible refine ⟨_, cpr_min2N, ?_⟩
  | with_reducible refine ⟨_, cpr_len, ?_⟩
  | with_reducible refine ⟨_, cpr_len.cv (.cons cv_ls .nil), ?_⟩
  | with_reducible refine ⟨_, cpr_len.cv (.cons cv_ts .nil), ?_⟩
  | with_reducible refine ⟨_, cpr_len.cv (.cons cv_bs .nil), ?_⟩
  | with_reducible refine ⟨_, cpr_tup.cv (.cons cv_lb .nil), ?_⟩
  | with_reducible refine ⟨_, cpr_sorted.cv (.cons cv_lb .nil), ?_⟩
  | with_reducible refine ⟨_, opr_mul (by assumption), ?_⟩
  | with_reducible refine ⟨_, rfl, ?_⟩
  | refine ⟨(show _[_]? = some _ from rfl), ?_⟩
  | fail)

section
variable {P : Program} {w : World} {K : PySem.W.Frag} {mg : Str → Option Value} {base : Heap} {f C : Addr} {fd : FuncData}
abbrev s_quarter_products : Stmt := topS 43
theorem sc_quarter_products : FnScope ["length", "odd"] ["length"] (defScope s_quarter_products) := ⟨rfl, rfl, rfl, by decide +kernel, rfl, by decide +kernel, by decide +kernel⟩
abbrev Sp_quarter_products (K : PySem.W.Frag) : Sp := spP K (fun (n : Nat) => [.im (rN n)]) (fun n => 1 ≤ n ∧ n ≤ 24 ∧ n % 2 = 0) (fun n => .im (rT K ((Fo.tabL (decide (n / 2 % 2 = 1))).map fun r => rT K (NL r))))
theorem ok_quarter_products (d : DefAt K mg "quarter_products" s_quarter_products ["length"] f fd) (h_need_own_length : Has P w K mg base "need_own_length" ["length"] 5 (Sp_need_own_length K)) : Has P w K mg base "quarter_products" ["length"] 6 (Sp_quarter_products K) := by
  refine mk_has d sc_quarter_products (fun _ => rfl) (fun _ _ => rfl) fun cdv A outer s H E hr => ⟨_,
    (pss_cons (ps_expr (pe_use h_need_own_length (hr.mono (by decide)) (pa_cons (pv 0) pa_nil)))
      (pss_cons (ps_set (i := 1) sc_quarter_products.nd rfl (Or.inl rfl) (pe_op op_and (pe_op op_fdivW (pv 0) pe_int) pe_int))
      (pss_one (ps_ret (pe_tup (pa_cons (pe_tup (pa_cons pe_int (pa_cons pe_int (pa_cons pe_int (pa_cons pe_int pa_nil))))) (pa_cons (pe_tup (pa_cons pe_int (pa_cons (pv 1) (pa_cons pe_int (pa_cons (pe_op op_sub pe_int (pv 1)) pa_nil))))) (pa_cons (pe_tup (pa_cons pe_int (pa_cons pe_int (pa_cons pe_int (pa_cons pe_int pa_nil))))) (pa_cons (pe_tup (pa_cons pe_int (pa_cons (pe_op op_sub pe_int (pv 1)) (pa_cons pe_int (pa_cons (pv 1) pa_nil))))) pa_nil))))))))), fun n hn => ?_⟩
  have s16 : sizeLine = 16777216 := sizeLine_eq
  have z4 : 4 ≤ sizeLine := by rw [s16]; decide
  refine ws_seq (ws_drop (we_call (wc_im (we_var rfl ⟨_, rfl, wc_nil ⟨n, hn, .cons cv_refl .nil, ?_⟩⟩))))
  refine ws_seq (ws_asg (we_op (we_op (we_var rfl (we_int ⟨_, opr_div (n := 10) (by decide) (by decide) (by decide) (by decide), we_int ⟨_, opr_and1 (a := n / 2), ?_⟩⟩)))))
  have e : n / 2 % 2 = 0 ∨ n / 2 % 2 = 1 := by omega
  rcases e with e | e
  · rw [e]
    refine ws_ret (we_tup (wa_cons (we_tup (wa_cons (we_int (wa_cons (we_int (wa_cons (we_int (wa_cons (we_int (wa_nil ⟨NL [0, 0, 0, 0], rfl, z4, ?_⟩))))))))))))
    refine wa_cons (we_tup (wa_cons (we_int (wa_cons (we_var rfl (wa_cons (we_int (wa_cons (we_op (we_int (we_var rfl ⟨_, opr_sub, wa_nil ⟨NL [0, 0, 1, 1], rfl, z4, ?_⟩⟩)))))))))))
    refine wa_cons (we_tup (wa_cons (we_int (wa_cons (we_int (wa_cons (we_int (wa_cons (we_int (wa_nil ⟨NL [0, 1, 0, 1], rfl, z4, ?_⟩))))))))))
    exact wa_cons (we_tup (wa_cons (we_int (wa_cons (we_op (we_int (we_var rfl ⟨_, opr_sub, wa_cons (we_int (wa_cons (we_var rfl (wa_nil ⟨NL [0, 1, 1, 0], rfl, z4, wa_nil ⟨(Fo.tabL false).map fun r => rT K (NL r), rfl, z4, rfl⟩⟩))))⟩)))))))
  · rw [e]
    refine ws_ret (we_tup (wa_cons (we_tup (wa_cons (we_int (wa_cons (we_int (wa_cons (we_int (wa_cons (we_int (wa_nil ⟨NL [0, 0, 0, 0], rfl, z4, ?_⟩))))))))))))
    refine wa_cons (we_tup (wa_cons (we_int (wa_cons (we_var rfl (wa_cons (we_int (wa_cons (we_op (we_int (we_var rfl ⟨_, opr_sub, wa_nil ⟨NL [0, 1, 1, 0], rfl, z4, ?_⟩⟩)))))))))))
    refine wa_cons (we_tup (wa_cons (we_int (wa_cons (we_int (wa_cons (we_int (wa_cons (we_int (wa_nil ⟨NL [0, 1, 0, 1], rfl, z4, ?_⟩))))))))))
    exact wa_cons (we_tup (wa_cons (we_int (wa_cons (we_op (we_int (we_var rfl ⟨_, opr_sub, wa_cons (we_int (wa_cons (we_var rfl (wa_nil ⟨NL [0, 0, 1, 1], rfl, z4, wa_nil ⟨(Fo.tabL true).map fun r => rT K (NL r), rfl, z4, rfl⟩⟩))))⟩)))))))
abbrev s__law_pack : Stmt := topS 45
theorem sc__law_pack : FnScope ["script", "spot", "cell", "great"] ["script", "spot"] (defScope s__law_pack) := ⟨rfl, rfl, rfl, by decide +kernel, rfl, by decide +kernel, by decide +kernel⟩
def cellOf (script : List Int) (spot : Nat) : Int := if h : spot < script.length then script[spot] else 197 * (spot : Int) + 53
def greatOf (cell : Int) : Int := (if cell < 0 then -cell else cell) % ((10 ^ 59) ^ 6)
def pailX (cell : Int) : Int := if greatOf cell - 10 ^ 16 > 0 then greatOf cell - 10 ^ 16 else 0
def pailY (cell : Int) (spot : Nat) : Int := greatOf cell % 2147483549 * 151 + 599 * (spot : Int) + 47 * (if decide (cell < 0) then 1 else 0) + 11
theorem pail_good {m : Nat} {cell : Int} {spot : Nat} (hs : spot ≤ 100) (h : m ≤ 2 ^ 60) : Good m (pailX cell) (pailY cell spot) 0 := by
  have h1 : greatOf cell < (10 ^ 59) ^ 6 := Int.emod_lt_of_pos _ (by decide)
  have h2 : ((10 ^ 59) ^ 6 : Int) < 2 ^ 1400 := by decide +kernel
  have g0 : 0 ≤ greatOf cell % 2147483549 := Int.emod_nonneg _ (by decide)
  have g1 : greatOf cell % 2147483549 < 2147483549 := Int.emod_lt_of_pos _ (by decide)
  have h3 : 0 ≤ pailY cell spot := by unfold pailY; split <;> omega
  have h4 : pailY cell spot < 2 ^ 80 := by unfold pailY; split <;> omega
  have h5 : 0 ≤ pailX cell := by unfold pailX; split <;> omega
  have h6 : pailX cell ≤ greatOf cell := by
    unfold pailX
    have : 0 ≤ greatOf cell := Int.emod_nonneg _ (by decide)
    split <;> omega
  exact ⟨h5, by omega, h3, h4, Int.le_refl _, by omega⟩
abbrev Sp__law_pack (K : PySem.W.Frag) : Sp := spP K (fun (p : List Int × Nat) => [.bor (p.1.map rI), .im (rN p.2)]) (fun p => p.2 ≤ 100) (fun p => .own [rI (pailX (cellOf p.1 p.2)), rI (pailY (cellOf p.1 p.2) p.2), rI 0])
theorem ok__law_pack (d : DefAt K mg "_law_pack" s__law_pack ["script", "spot"] f fd) (B : Bt mg) : Has P w K mg base "_law_pack" ["script", "spot"] 1 (Sp__law_pack K) := by
  refine mk_has d sc__law_pack (fun _ => rfl) (fun _ _ => rfl) fun cdv A outer s H E hr => ⟨_,
    (pss_cons (ps_set (i := 2) sc__law_pack.nd rfl (Or.inl rfl) (pe_ifExp (pt_cmpR op_lt (pv 1) (pe_callB (kLen (K := K) rfl) (by rfl) B.b_len PySem.boot_len (pa_cons (pv 0) pa_nil)) (nomark _)) (pe_callTy call_int1 (by rfl) B.b_int (by decide +kernel) (pa_cons (pe_ix (kIxL (K := K) rfl) (pv 0) (pv 1) (fun _ _ => rfl)) pa_nil)) (pe_op op_add (pe_op op_mulX pe_int (pv 1)) pe_int)))
      (pss_cons (ps_set (i := 3) sc__law_pack.nd rfl (Or.inl rfl) (pe_op op_mod (pe_callTy call_int1 (by rfl) B.b_int (by decide +kernel) (pa_cons (pe_callB call_abs (by rfl) B.b_abs (by decide +kernel) (pa_cons (pv 2) pa_nil)) pa_nil)) (pe_op op_powW (pe_op op_powW pe_int pe_int) pe_int)))
      (pss_one (ps_ret (pe_lst (pa_cons (pe_callB (call_max2 (by rfl)) (by rfl) B.b_max (by decide +kernel) (pa_cons pe_int (pa_cons (pe_op op_sub (pv 3) (pe_op op_powW pe_int pe_int)) pa_nil))) (pa_cons (pe_op op_add (pe_op op_add (pe_op op_add (pe_op op_mulX (pe_op op_mod (pe_callTy call_int1 (by rfl) B.b_int (by decide +kernel) (pa_cons (pv 3) pa_nil)) pe_int) pe_int) (pe_op op_mulX pe_int (pv 1))) (pe_op op_mulX pe_int (pe_callTy call_int1 (by rfl) B.b_int (by decide +kernel) (pa_cons (pe_cmpR op_lt (pv 2) pe_int (nomark _)) pa_nil)))) pe_int) (pa_cons pe_int pa_nil)))))))), fun ⟨ns, spot⟩ hs => ?_⟩
  have hs : spot ≤ 100 := hs
  show WS K _ [.bor (ns.map rI), .im (rN spot), .no, .no] _ _ _ _
  have b1 : CPowW 10 (59 : Nat) := ⟨by decide, by decide⟩
  have b2 : CPowW (10 ^ 59) (6 : Nat) := ⟨by decide, by decide +kernel⟩
  have b3 : CPowW 10 (16 : Nat) := ⟨by decide, by decide⟩
  have p0 : (0 : Int) < (10 ^ 59) ^ 6 := by decide +kernel
  have g0 : ∀ x : Int, 0 ≤ x % 2147483549 := fun x => Int.emod_nonneg _ (by decide)
  have g1 : ∀ x : Int, x % 2147483549 < 2 ^ 62 := fun x => Int.lt_of_lt_of_le (Int.emod_lt_of_pos _ (by decide)) (by decide)
  have m1 : CMulX 197 (spot : Int) := mul_ok (m := 10) (n := 10) (by decide) (by decide) (Int.natCast_nonneg _) (by omega) (by decide)
  have m2 : CMulX 599 (spot : Int) := mul_ok (m := 20) (n := 10) (by decide) (by decide) (Int.natCast_nonneg _) (by omega) (by decide)
  have m3 : ∀ b : Bool, CMulX 47 (if b = true then 1 else 0) := fun b => mul_ok (m := 10) (n := 10) (by decide) (by decide) (by cases b <;> decide) (by cases b <;> decide) (by decide)
  refine ws_seq (ws_asg ?_)
  refine we_mono (Φ := fun k E1 => k = .im (rI (cellOf ns spot)) ∧ E1 = [.bor (ns.map rI), .im (rN spot), .no, .no]) ?_ ?_
  · refine we_if ?_
    repeat' walk_at "fx"
    rw [List.length_map]
    by_cases h : spot < ns.length
    · rw [if_pos (decide_eq_true (by omega))]
      have e : cellOf ns spot = ns[spot] := by unfold cellOf; rw [dif_pos h]
      repeat' walk_at "fx"
      refine ⟨_, _, _, rfl, opc_ixL rfl (R := rI ns[spot]) (by rw [List.getElem?_map, List.getElem?_eq_getElem h]; rfl), ?_⟩
      repeat' walk_at "fx"
      exact ⟨by rw [e], rfl⟩
    · rw [if_neg (by simp; omega)]
      have e : cellOf ns spot = 197 * (spot : Int) + 53 := by unfold cellOf; rw [dif_neg h]
      repeat' walk_at "fx"
      exact ⟨by rw [e], rfl⟩
  rintro k E1 ⟨rfl, rfl⟩
  generalize cellOf ns spot = cell
  have m4 := m3 (decide (cell < 0))
  have m5 : CMulX (greatOf cell % 2147483549) 151 := mul_ok (m := 62) (n := 10) (g0 _) (g1 _) (by decide) (by decide) (by decide)
  repeat' walk_at "fx"
  refine ⟨_, opr_pow b1, ?_⟩
  repeat' walk_at "fx"
  refine ⟨_, opr_pow b2, ?_⟩
  refine ⟨_, opr_mod p0, ?_⟩
  show WS K _ [.bor (ns.map rI), .im (rN spot), .im (rI cell), .im (rI (greatOf cell))] _ _ _ _
  repeat' walk_at "fx"
  refine ⟨_, opr_pow b3, ?_⟩
  repeat' walk_at "fx"
  exact ⟨[_, _, _], rfl, by rw [sizeLine_eq]; show 3 ≤ _; decide, rfl⟩
abbrev s__law_left : Stmt := topS 50
theorem sc__law_left : FnScope ["basis", "word", "one"] ["basis", "word"] (defScope s__law_left) := ⟨rfl, rfl, rfl, by decide +kernel, rfl, by decide +kernel, by decide +kernel⟩
theorem rev_asort (l : List Nat) : (asort l).reverse = dsort l := dsort_uniq ((List.reverse_perm _).trans (asort_perm l)) (by rw [List.pairwise_reverse]; exact asort_ord l)
abbrev Sp__law_left (K : PySem.W.Frag) : Sp := spP K (fun (p : List Nat × Nat) => [.seq (NL p.1), .im (rN p.2)]) (fun p => RR p.1) (fun p => .im (rN (rem p.1 p.2)))
theorem ok__law_left (d : DefAt K mg "_law_left" s__law_left ["basis", "word"] f fd) (B : Bt mg) : Has P w K mg base "_law_left" ["basis", "word"] 1 (Sp__law_left K) := by
  refine mk_has d sc__law_left (fun _ => rfl) (fun _ _ => rfl) fun cdv A outer s H E hr => ⟨_,
    (pss_cons (ps_for PassesOwn.never rfl (kPiL (K := K) rfl (kRevL (K := K) rfl (pe_callB (kSortQ (K := K) rfl) (by rfl) B.b_sorted (by decide +kernel) (pa_cons (pv 0) pa_nil)))) (pg_name (i := 2) sc__law_left.nd rfl (Or.inl rfl)) (pss_one (ps_set (i := 1) sc__law_left.nd rfl (Or.inl rfl) (pe_callB (call_min2 (by rfl)) (by rfl) B.b_min (by decide +kernel) (pa_cons (pv 1) (pa_cons (pe_op op_xor (pv 1) (pv 2)) pa_nil))))))
      (pss_one (ps_ret (pv 1)))), fun ⟨ws, w⟩ h => ?_⟩
  have h : RR ws := h
  refine ws_seq (ws_forF (dsort ws) rN (fun s k => [.seq (NL ws), .im (rN s), k]) (fun w r => if w ^^^ r < w then w ^^^ r else w) w (wi_lst (we_revL (we_cb (wc_seq rfl (wc_nil ⟨rfl, _, cpr_sortQ, _, rfl, _, rfl, ?_, ⟨_, rfl⟩, fun i x s k hx _ => ?_, fun k => ?_⟩))))))
  · rw [← List.map_reverse, rev_asort]
  · refine ws_asg (we_cb (wc_im (we_var rfl ⟨_, rfl, wc_im (we_op (we_var rfl (we_var rfl ⟨_, opr_xor, _, rfl, wc_nil ⟨_, cpr_min2N, _, rfl⟩⟩)))⟩)))
  · exact ws_ret (we_var rfl (by show _ = Sl.im (rN (rem ws w)); rw [← Cu.rem_sorted h]; rfl))
abbrev s__law_basis : Stmt := topS 51
theorem sc__law_basis : FnScope ["words", "found", "word", "rest", "head", "one"] ["words"] (defScope s__law_basis) := ⟨rfl, rfl, rfl, by decide +kernel, rfl, by decide +kernel, by decide +kernel⟩
theorem take_step {ws : List Nat} {i x : Nat} (hx : ws[i]? = some x) : (ws.take (i + 1)).foldl step [] = step ((ws.take i).foldl step []) x := by
  rw [List.take_add_one, hx, List.foldl_append]
  rfl
abbrev Sp__law_basis (K : PySem.W.Frag) : Sp := spP K (fun (ws : List Nat) => [.seq (NL ws)]) (fun ws => ws.length ≤ 100000) (fun ws => .im (rT K (NL (basisOf ws))))
theorem ok__law_basis (d : DefAt K mg "_law_basis" s__law_basis ["words"] f fd) (B : Bt mg) (h__law_left : Has P w K mg base "_law_left" ["basis", "word"] 1 (Sp__law_left K)) : Has P w K mg base "_law_basis" ["words"] 2 (Sp__law_basis K) := by
  refine mk_has d sc__law_basis (fun _ => rfl) (fun _ _ => rfl) fun cdv A outer s H E hr => ⟨_,
    (pss_cons (ps_set (i := 1) sc__law_basis.nd rfl (Or.inl rfl) (pe_lst pa_nil))
      (pss_cons (ps_for PassesOwn.never rfl (kPiS (K := K) rfl (pv 0)) (pg_name (i := 2) sc__law_basis.nd rfl (Or.inl rfl)) (pss_cons (ps_set (i := 3) sc__law_basis.nd rfl (Or.inr rfl) (pe_use h__law_left (hr.mono (by decide)) (pa_cons (pv 1) (pa_cons (pv 2) pa_nil))))
      (pss_one (ps_if (pt_cmpR op_gt (pv 3) pe_int (nomark _)) (pss_cons (ps_set (i := 4) sc__law_basis.nd rfl (Or.inr rfl) (pe_op op_sub (pe_bits (pv 3)) pe_int))
      (pss_one (ps_set (i := 1) sc__law_basis.nd rfl (Or.inl rfl) (pe_op op_cat (pe_lc (own := [("one", 5)]) (g := gName 5) (by rfl) sc__law_basis.nd (kPiL (K := K) rfl (pv 1)) (blkOk_by (own := [("one", 5)]) (N := ["words", "found", "word", "rest", "head", "one"]) (sc := defScope s__law_basis) (by decide +kernel)) (fun _ _ _ _ _ => pg_name (i := 5) sc__law_basis.nd rfl (Or.inl rfl)) (fun _ _ _ _ _ => pts_nil) (fun _ _ _ _ _ => (pe_ifExp (pt_cmpR op_eq (pe_op op_and (pe_op op_shr (pv 5) (pv 4)) pe_int) pe_int (nomark _)) (pe_op op_xor (pv 5) (pv 3)) (pv 5)))) (pe_lst (pa_cons (pv 3) pa_nil)))))) pss_nil))))
      (pss_one (ps_ret (pe_callTy (kTup (K := K) rfl) (by rfl) B.b_tuple (by decide +kernel) (pa_cons (kRevL (K := K) rfl (pe_callB (kSorted (K := K) rfl) (by rfl) B.b_sorted (by decide +kernel) (pa_cons (pv 1) pa_nil))) pa_nil)))))), fun ws hl => ?_⟩
  have hl : ws.length ≤ 100000 := hl
  have s16 : sizeLine = 16777216 := sizeLine_eq
  refine ws_seq (ws_asg (we_lst (wa_nil ⟨[], rfl, Nat.zero_le _, ?_⟩)))
  refine ws_seq (ws_for (wi_seq rfl ⟨fun i E' => ∃ k1 k2 k3, E' = [.seq (NL ws), .own (NL ((ws.take i).foldl step [])), k1, k2, k3, .no], ⟨_, _, _, rfl⟩, ?_, ?_⟩))
  · rintro i R E' hi ⟨k1, k2, k3, rfl⟩
    obtain ⟨x, hx, rfl⟩ := map_get hi
    have hlen : ((ws.take i).foldl step []).length ≤ ws.length := Nat.le_trans (rowsOf_len (ws.take i)) (by rw [List.length_take]; omega)
    have hrr : RR ((ws.take i).foldl step []) := (rowsOf_rr (ws.take i)).1
    dsimp only
    rw [take_step hx]
    generalize (ws.take i).foldl step [] = rows at hlen hrr ⊢
    refine ws_seq (ws_asg (we_call (wc_var rfl (wc_im (we_var rfl ⟨_, rfl, wc_nil ⟨rfl, (rows, x), hrr, .cons cv_ls (.cons cv_refl .nil), ?_⟩⟩)))))
    refine ws_if (wt_test (we_op (we_var rfl (we_int ⟨_, opr_gt, _, rfl, ?_⟩))))
    show if decide ((0 : Int) < ((rem rows x : Nat) : Int)) = true then _ else _
    by_cases h0 : rem rows x = 0
    · rw [if_neg (by rw [h0]; decide)]
      exact ws_next ⟨_, _, _, by unfold Wd.step; rw [if_pos h0]; rfl⟩
    · rw [if_pos (decide_eq_true (by omega))]
      have eh : ((blen (rem rows x) : Nat) : Int) - 1 = ((hd (rem rows x) : Nat) : Int) := by
        rw [blen_hd h0]
        omega
      refine ws_seq (ws_asg (we_op (we_bits (we_var rfl ⟨rem rows x, rfl, we_int ⟨_, opr_sub, ?_⟩⟩))))
      rw [eh]
      show WS K _ [.seq (NL ws), .own (NL rows), .im (rN x), .im (rN (rem rows x)), .im (rN (hd (rem rows x))), .no] _ _ _ _
      refine ws_asg (we_opc (wc_own (we_lcV rows rN (fun _ => true) (fun row => rN (if row / 2 ^ hd (rem rows x) % 2 = 1 then row ^^^ rem rows x else row)) rfl rfl (by decide) (by omega) (fun A row hr => wt_yes ⟨rfl, rfl, fun _ => ?_⟩) ⟨_, rfl, wc_own (we_lst (wa_cons (we_var rfl (wa_nil ⟨[rN (rem rows x)], rfl, by rw [s16]; show 1 ≤ _; decide, _, rfl, wc_nil ⟨_, _, _, rfl, opc_cat ?_, .im (rN x), .im (rN (rem rows x)), .im (rN (hd (rem rows x))), ?_⟩⟩))))⟩)))
      · refine we_if (wt_test (we_op (we_op (we_op (we_var rfl (we_var rfl ⟨_, opr_shr, we_int ⟨_, opr_and1, we_int ⟨_, opr_eqI, _, rfl, ?_⟩⟩⟩))))))
        rw [odd_eq]
        by_cases hb : row / 2 ^ hd (rem rows x) % 2 = 1
        · rw [if_pos (decide_eq_true hb), if_pos hb]
          exact we_op (we_var rfl (we_var rfl ⟨_, opr_xor, rfl, rfl⟩))
        · rw [if_neg (by simpa using hb), if_neg hb]
          exact we_var rfl ⟨rfl, rfl⟩
      · rw [List.filter_true', List.length_map, s16]
        show rows.length + 1 ≤ _
        omega
      · refine congrArg (fun z => [Sl.seq (NL ws), Sl.own z, Sl.im (rN x), Sl.im (rN (rem rows x)), Sl.im (rN (hd (rem rows x))), Sl.no]) ?_
        unfold Wd.step
        rw [if_neg h0, List.filter_true']
        unfold NL
        rw [List.map_append, List.map_map]
        rfl
  · rintro E' ⟨k1, k2, k3, rfl⟩
    rw [List.length_map, List.take_length]
    refine ws_ret (we_cb (wc_own (we_revL (we_cb (wc_var rfl (wc_nil ⟨rfl, _, cpr_sorted.cv (.cons cv_lb .nil), _, rfl, _, rfl, wc_nil ⟨_, cpr_tup.cv (.cons cv_lb .nil), ?_⟩⟩))))))
    rw [← List.map_reverse, rev_asort]
    rfl
abbrev s__law_dealt : Stmt := topS 46
theorem sc__law_dealt : FnScope ["pack", "total", "found", "one", "two"] ["pack", "total"] (defScope s__law_dealt) := ⟨rfl, rfl, rfl, by decide +kernel, rfl, by decide +kernel, by decide +kernel⟩
abbrev Sp__law_dealt (K : PySem.W.Frag) : Sp := spQ K (fun (p : Nat × Nat) => p.2 + 1) (fun p => p.2) (fun p => [.im (rN p.1)]) (fun p => 1 ≤ p.1 ∧ p.1 < 2 ^ 1000) (fun p (r : Nat) => r < p.1) (fun _ r => .im (rN r))
theorem ok__law_dealt (d : DefAt K mg "_law_dealt" s__law_dealt ["pack", "total"] f fd) (B : Bt mg) : Has P w K mg base "_law_dealt" ["pack", "total"] 1 (Sp__law_dealt K) := by
  refine mk_hasQ d sc__law_dealt (fun _ => rfl) fun cdv A outer s H E hr => ⟨_,
    (pss_cons (ps_if (pt_cmpR op_gt (pe_ix (kIxL (K := K) rfl) (pv 0) pe_int (fun _ _ => rfl)) pe_int (nomark _)) (pss_cons (ps_set (i := 2) sc__law_dealt.nd rfl (Or.inl rfl) (pe_op op_mod (pe_callTy call_int1 (by rfl) B.b_int (by decide +kernel) (pa_cons (pe_ix (kIxL (K := K) rfl) (pv 0) pe_int (fun _ _ => rfl)) pa_nil)) (pv 1)))
      (pss_cons (ps_asg (pe_op op_fdivW (pe_ix (kIxL (K := K) rfl) (pv 0) pe_int (fun _ _ => rfl)) (pv 1)) (pg_sub (pv 0) pe_int set_list))
      (pss_one (ps_ret (pv 2))))) pss_nil)
      (pss_cons (ps_asg (pe_op op_add (pe_ix (kIxL (K := K) rfl) (pv 0) pe_int (fun _ _ => rfl)) pe_int) (pg_sub (pv 0) pe_int set_list))
      (pss_cons (ps_set (i := 3) sc__law_dealt.nd rfl (Or.inl rfl) (pe_op op_mod (pe_callTy call_int1 (by rfl) B.b_int (by decide +kernel) (pa_cons (pe_op op_add (pe_ix (kIxL (K := K) rfl) (pv 0) pe_int (fun _ _ => rfl)) (pe_op op_mulX pe_int (pe_ix (kIxL (K := K) rfl) (pv 0) pe_int (fun _ _ => rfl)))) pa_nil)) pe_int))
      (pss_cons (ps_set (i := 4) sc__law_dealt.nd rfl (Or.inl rfl) (pe_op op_add (pe_op op_mulX (pe_op op_mod (pe_callTy call_int1 (by rfl) B.b_int (by decide +kernel) (pa_cons (pe_op op_add (pe_op op_mulX (pv 3) (pv 3)) (pe_op op_mulX pe_int (pe_ix (kIxL (K := K) rfl) (pv 0) pe_int (fun _ _ => rfl)))) pa_nil)) pe_int) pe_int) (pv 3)))
      (pss_one (ps_ret (pe_op op_mod (pe_callTy call_int1 (by rfl) B.b_int (by decide +kernel) (pa_cons (pe_op op_fdivW (pv 4) pe_int) pa_nil)) (pv 1)))))))), fun ⟨t, m⟩ p ⟨h1, h2⟩ => ?_⟩
  have h1 : 1 ≤ t := h1
  have h2 : t < 2 ^ 1000 := h2
  have t0 : (0 : Int) < (t : Int) := by omega
  have t1 : (t : Int) < 2 ^ 1000 := by rw [two_pow_cast]; exact Int.ofNat_lt.mpr h2
  have ret : ∀ x : Int, ∃ r : Nat, x % (t : Int) = (r : Int) ∧ r < t := fun x => by
    have a := Int.emod_nonneg x (show (t : Int) ≠ 0 by omega)
    have b := Int.emod_lt_of_pos x t0
    exact ⟨(x % (t : Int)).toNat, by omega, by omega⟩
  refine ws_open (i := 0) rfl fun vs ⟨a, b, c, e, g⟩ => ?_
  subst e
  obtain ⟨a0, a1, b0, b1, c0, c1⟩ := g
  show WS K _ [.box p (· = [.int a, .int b, .int c]), .im (rN t), .no, .no, .no] _ _ _ _
  refine ws_seq (ws_if (wt_test ?_))
  repeat' walk_at "fx"
  by_cases ha : 0 < a
  · rw [if_pos (decide_eq_true ha)]
    obtain ⟨r, er, hr⟩ := ret a
    repeat' walk_at "fx"
    refine ws_setBox (p := p) (m := 0) rfl ?_
    repeat' walk_at "fx"
    refine ⟨_, opr_div t0 t1 (by decide) (by decide), _, _, rfl, rfl, (by show 0 < 3; decide), ?_⟩
    repeat' walk_at "fx"
    refine ⟨r, _, hr, rfl, by rw [er], rfl, ?_⟩
    rintro vs rfl
    refine ⟨a / t, b, c, rfl, Int.ediv_nonneg a0 (by omega), ?_, b0, b1, c0, by omega⟩
    exact Int.lt_of_le_of_lt (Int.ediv_le_self _ a0) a1
  · rw [if_neg (by simpa using ha)]
    have d0 : 0 ≤ c + 1 := by omega
    have d1 : c + 1 < 2 ^ 61 := by omega
    have k1 : CMulX 15486719 (c + 1) := mul_ok (m := 30) (n := 61) (by decide) (by decide) d0 d1 (by decide)
    have k2 : CMulX 103 (c + 1) := mul_ok (m := 30) (n := 61) (by decide) (by decide) d0 d1 (by decide)
    repeat' walk_at "fx"
    refine ws_setBox (p := p) (m := 2) rfl ?_
    repeat' walk_at "fx"
    refine ⟨_, _, rfl, rfl, (by show 2 < 3; decide), ?_⟩
    show WS K _ [.box p (· = [.int a, .int b, .int (c + 1)]), .im (rN t), .no, .no, .no] _ _ _ _
    refine ws_seq (ws_asg ?_)
    repeat' walk_at "fx"
    generalize ho : (b + 15486719 * (c + 1)) % 2305843009213693951 = one
    have o0 : 0 ≤ one := by rw [← ho]; exact Int.emod_nonneg _ (by decide)
    have o1 : one < 2 ^ 62 := by rw [← ho]; exact Int.lt_of_lt_of_le (Int.emod_lt_of_pos _ (by decide)) (by decide)
    have k3 : CMulX one one := mul_ok (m := 62) (n := 62) o0 o1 o0 o1 (by decide)
    have q0 : 0 ≤ (one * one + 103 * (c + 1)) % 2305843009213693921 := Int.emod_nonneg _ (by decide)
    have q1 : (one * one + 103 * (c + 1)) % 2305843009213693921 < 2 ^ 62 := Int.lt_of_lt_of_le (Int.emod_lt_of_pos _ (by decide)) (by decide)
    have k4 : CMulX ((one * one + 103 * (c + 1)) % 2305843009213693921) 7370221 := mul_ok (m := 62) (n := 30) q0 q1 (by decide) (by decide) (by decide)
    repeat' walk_at "fx"
    generalize (one * one + 103 * (c + 1)) % 2305843009213693921 * 7370221 + one = two
    obtain ⟨r, er, hr⟩ := ret (two / 65543)
    repeat' walk_at "fx"
    refine ⟨_, opr_div (n := 20) (by decide) (by decide) (by decide) (by decide), ?_⟩
    repeat' walk_at "fx"
    refine ⟨r, _, hr, rfl, by rw [er], rfl, ?_⟩
    rintro vs rfl
    exact ⟨a, b, c + 1, rfl, a0, a1, b0, b1, d0, by omega⟩
abbrev s__law_weight : Stmt := topS 48
theorem sc__law_weight : FnScope ["word", "found"] ["word"] (defScope s__law_weight) := ⟨rfl, rfl, rfl, by decide +kernel, rfl, by decide +kernel, by decide +kernel⟩
abbrev Sp__law_weight (K : PySem.W.Frag) : Sp := spP K (fun (n : Nat) => [.im (rN n)]) (fun _ => True) (fun n => .im (rN (pop n)))
theorem ok__law_weight (d : DefAt K mg "_law_weight" s__law_weight ["word"] f fd) : Has P w K mg base "_law_weight" ["word"] 1 (Sp__law_weight K) := by
  refine mk_has d sc__law_weight (fun _ => rfl) (fun _ _ => rfl) fun cdv A outer s H E hr => ⟨_,
    (pss_cons (ps_set (i := 1) sc__law_weight.nd rfl (Or.inl rfl) pe_int)
      (pss_cons (ps_while PassesOwn.never (pt_cmpR op_gt (pv 0) pe_int (nomark _)) (pss_one (ps_par (i := 0) (j := 1) (by rfl) sc__law_weight.nd rfl rfl (by decide) rfl rfl (pa_cons (pe_op op_and (pv 0) (pe_op op_sub (pv 0) pe_int)) (pa_cons (pe_op op_add (pv 1) pe_int) pa_nil)) (by rfl))))
      (pss_one (ps_ret (pv 1))))), fun w0 _ => ?_⟩
  refine ws_seq (ws_asg (we_int ?_))
  refine ws_seq (ws_while (fun m E' => ∃ (n c : Nat), m = n ∧ E' = [.im (rN n), .im (rN c)] ∧ c + pop n = pop w0) w0 ⟨w0, 0, rfl, rfl, by omega⟩ ?_)
  rintro m E' ⟨n, c, hm, rfl, hc⟩
  refine wt_test (we_op (we_var rfl (we_int ⟨_, opr_gt, _, rfl, ?_⟩)))
  by_cases hn : n = 0
  · subst hn
    rw [if_neg (by simp)]
    rw [pop_zero] at hc
    exact ws_ret (we_var rfl (by rw [← hc]; rfl))
  · rw [if_pos (decide_eq_true (by omega))]
    have e : (n : Int) - 1 = ((n - 1 : Nat) : Int) := by omega
    have h := pop_clear n hn
    refine ws_par (wa_cons (we_op (we_var rfl (we_op (we_var rfl (we_int ⟨_, opr_sub, _, opr_I0 (R := rN (n &&& (n - 1))) (fun _ => by show V.int _ = V.int _; rw [e, and_nat]), wa_cons (we_op (we_var rfl (we_int ⟨_, opr_add, wa_nil ⟨_, _, rfl, ?_⟩⟩)))⟩))))))
    exact ⟨n &&& (n - 1), by omega, n &&& (n - 1), c + 1, rfl, rfl, by omega⟩
abbrev s__law_outside : Stmt := topS 54
theorem sc__law_outside : FnScope ["pack", "length", "basis", "turn", "word"] ["pack", "length", "basis"] (defScope s__law_outside) := ⟨rfl, rfl, rfl, by decide +kernel, rfl, by decide +kernel, by decide +kernel⟩
def outR : Option Nat → Rp
  | some w => rN w
  | none => Fx.rU
abbrev Sp__law_outside (K : PySem.W.Frag) : Sp := spQ K (fun (p : (Nat × List Nat) × Nat) => p.2 + 9) (fun p => p.2) (fun p => [.im (rN p.1.1), .im (rT K (NL p.1.2))]) (fun p => Cu.CodeOk p.1.1 p.1.2) (fun p (r : Option Nat) => ∀ w, r = some w → Nb.Out p.1.1 p.1.2 w) (fun _ r => .im (outR r))
theorem ok__law_outside (d : DefAt K mg "_law_outside" s__law_outside ["pack", "length", "basis"] f fd) (B : Bt mg) (h__law_dealt : Has P w K mg base "_law_dealt" ["pack", "total"] 1 (Sp__law_dealt K)) (h__law_weight : Has P w K mg base "_law_weight" ["word"] 1 (Sp__law_weight K)) (h__law_left : Has P w K mg base "_law_left" ["basis", "word"] 1 (Sp__law_left K)) : Has P w K mg base "_law_outside" ["pack", "length", "basis"] 2 (Sp__law_outside K) := by
  refine mk_hasQ d sc__law_outside (fun _ => rfl) fun cdv A outer s H E hr => ⟨_,
    (pss_cons (ps_for PassesOwn.never rfl (pi_range1 (by rfl) B.b_range (pa_cons pe_int pa_nil)) (pg_name (i := 3) sc__law_outside.nd rfl (Or.inl rfl)) (pss_cons (ps_set (i := 4) sc__law_outside.nd rfl (Or.inl rfl) (pe_use h__law_dealt (hr.mono (by decide)) (pa_cons (pv 0) (pa_cons (pe_op op_shlW pe_int (pv 1)) pa_nil))))
      (pss_cons (ps_set (i := 4) sc__law_outside.nd rfl (Or.inl rfl) (pe_ifExp (pt_cmpR op_eq (pe_op op_mod (pe_callTy call_int1 (by rfl) B.b_int (by decide +kernel) (pa_cons (pe_use h__law_weight (hr.mono (by decide)) (pa_cons (pv 4) pa_nil)) pa_nil)) pe_int) pe_int (nomark _)) (pv 4) (pe_op op_xor (pv 4) pe_int)))
      (pss_one (ps_if (pt_cmpR op_gt (pe_use h__law_left (hr.mono (by decide)) (pa_cons (pv 2) (pa_cons (pv 4) pa_nil))) pe_int (nomark _)) (pss_one (ps_ret (pv 4))) pss_nil)))))
      (pss_one (ps_ret pe_non))), fun ⟨⟨n, B0⟩, m⟩ p h => ?_⟩
  have h : Cu.CodeOk n B0 := h
  have n1 := h.n1
  have n24 := h.n24
  have pos : 1 ≤ 2 ^ n := Nat.one_le_two_pow
  have two : 2 ≤ 2 ^ n := by
    have := Nat.pow_le_pow_right (n := 2) (by decide) n1
    omega
  have n9 : (2 : Nat) ^ n < 2 ^ 1000 := Nat.pow_lt_pow_right (by decide) (by omega)
  show WS K _ [.box p (PailOk (m + 9)), .im (rN n), .im (rT K (NL B0)), .no, .no] _ _ _ _
  refine ws_seq (ws_post (nx' := fun E' => ∃ (φ : List V → Prop) (k3 k4 : Sl), E' = [.box p φ, .im (rN n), .im (rT K (NL B0)), k3, k4] ∧ ∀ vs, φ vs → PailOk m vs) (ws_for (wi_rngN (wa_cons (we_int (wa_nil ⟨9, rfl, by omega, fun i E' => ∃ (φ : List V → Prop) (k3 k4 : Sl), E' = [.box p φ, .im (rN n), .im (rT K (NL B0)), k3, k4] ∧ ∀ vs, φ vs → PailOk (m + (9 - i)) vs, ⟨_, _, _, rfl, fun _ h => h⟩, ?_, ?_⟩))))) ?_)
  · rintro i R E' hi ⟨φ, k3, k4, rfl, hφ⟩
    have him : i < 9 := by
      have := (List.getElem?_eq_some_iff.mp hi).1
      simpa using this
    have eb : m + (9 - i) = m + (9 - (i + 1)) + 1 := by omega
    rw [eb] at hφ
    generalize hq : m + (9 - (i + 1)) = q at hφ
    refine ws_seq (ws_asg (we_callQ rfl (wq_im (we_op (we_int (we_var rfl ⟨_, opr_shl1 (by omega), _, rfl, rfl, wq_nil ⟨(2 ^ n, q), φ, rfl, hφ, ⟨pos, n9⟩, .cons cv_refl .nil, fun w hw _ => ?_⟩⟩))))))
    have hw : w < 2 ^ n := hw
    show WS K _ [.box p (PailOk q), .im (rN n), .im (rT K (NL B0)), .im R, .im (rN w)] _ _ _ _
    refine ws_seq (ws_asg (we_mono (Φ := fun k E1 => k = .im (rN (w ^^^ pop w % 2)) ∧ E1 = [.box p (PailOk q), .im (rN n), .im (rT K (NL B0)), .im R, .im (rN w)]) ?_ ?_))
    · refine we_if (wt_test (we_op (we_op (we_cb (wc_im (we_call (wc_im (we_var rfl ⟨_, rfl, wc_nil ⟨w, trivial, .cons cv_refl .nil, _, rfl, wc_nil ⟨_, cpr_int, we_int ⟨_, opr_mod (by decide), we_int ⟨_, opr_eqI, _, rfl, ?_⟩⟩⟩⟩⟩))))))))
      by_cases hb : pop w % 2 = 0
      · rw [if_pos (decide_eq_true (by omega))]
        exact we_var rfl ⟨by rw [hb, Nat.xor_zero], rfl⟩
      · rw [if_neg (by simp; omega)]
        exact we_op (we_var rfl (we_int ⟨_, opr_xor (b := 1), by rw [show pop w % 2 = 1 by omega], rfl⟩))
    rintro k E1 ⟨rfl, rfl⟩
    have h1 : w ^^^ pop w % 2 < 2 ^ n := Nat.xor_lt_two_pow hw (by omega)
    have h2 := Nb.ev_dot w
    generalize w ^^^ pop w % 2 = u at h1 h2 ⊢
    show WS K _ [.box p (PailOk q), .im (rN n), .im (rT K (NL B0)), .im R, .im (rN u)] _ _ _ _
    refine ws_if (wt_test (we_op (we_call (wc_im (we_var rfl ⟨_, rfl, wc_im (we_var rfl ⟨_, rfl, wc_nil ⟨(B0, u), h.bas.rr, .cons cv_ts (.cons cv_refl .nil), we_int ⟨_, opr_gt, _, rfl, ?_⟩⟩⟩)⟩)))))
    show if decide ((0 : Int) < ((rem B0 u : Nat) : Int)) = true then _ else _
    by_cases hs : rem B0 u = 0
    · rw [if_neg (by rw [hs]; decide)]
      exact ws_next ⟨_, _, _, rfl, fun _ h => hq ▸ h⟩
    · rw [if_pos (decide_eq_true (by omega))]
      exact ws_ret (we_var rfl ⟨some u, PailOk q, fun w hw => by cases hw; exact ⟨h1, h2, fun z => hs ((rem_zero_iff h.bas.rr).mpr z)⟩, rfl, rfl, rfl, fun vs g => g.less (by show m ≤ q; omega)⟩)
  · rintro E' ⟨φ, k3, k4, rfl, hφ⟩
    exact ⟨φ, k3, k4, rfl, fun vs g => (hφ vs g).less (by omega)⟩
  rintro E' ⟨φ, k3, k4, rfl, hφ⟩
  exact ws_ret (we_non ⟨none, φ, fun w hw => (by cases hw), rfl, rfl, rfl, hφ⟩)
abbrev s__law_mixed : Stmt := topS 55
theorem sc__law_mixed : FnScope ["pack", "length", "basis", "left", "order", "words", "word", "place"] ["pack", "length", "basis"] (defScope s__law_mixed) := ⟨rfl, rfl, rfl, by decide +kernel, rfl, by decide +kernel, by decide +kernel⟩
def movedS (n : Nat) (L : List Nat) (w : Nat) : Nat := (((List.range n).filter fun i => decide (w / 2 ^ i % 2 = 1)).map fun i => 2 ^ L.getD i 0).sum
theorem movedS_eq {n : Nat} {L : List Nat} (hL : Nb.Prm n L) {w : Nat} (hw : w < 2 ^ n) : movedS n L w = Nb.mv L w := by
  unfold movedS
  rw [bits_n hw, Nb.mv_word hL hw, ← Nb.sum_nodup _ (Nb.mv_nd hL hw), List.map_map]
  rfl
abbrev Sp__law_mixed (K : PySem.W.Frag) : Sp := spQ K (fun (p : (Nat × List Nat) × Nat) => p.2 + 24) (fun p => p.2) (fun p => [.im (rN p.1.1), .im (rT K (NL p.1.2))]) (fun p => Nb.Own p.1.1 p.1.2) (fun p (B : List Nat) => ∃ L, Nb.Prm p.1.1 L ∧ B = basisOf (p.1.2.map (Nb.mv L))) (fun _ B => .im (rT K (NL B)))
theorem ok__law_mixed (d : DefAt K mg "_law_mixed" s__law_mixed ["pack", "length", "basis"] f fd) (B : Bt mg) (h__law_dealt : Has P w K mg base "_law_dealt" ["pack", "total"] 1 (Sp__law_dealt K)) (h__law_basis : Has P w K mg base "_law_basis" ["words"] 2 (Sp__law_basis K)) : Has P w K mg base "_law_mixed" ["pack", "length", "basis"] 3 (Sp__law_mixed K) := by
  refine mk_hasQ d sc__law_mixed (fun _ => rfl) fun cdv A outer s H E hr => ⟨_,
    (pss_cons (ps_asg (pe_tup (pa_cons (pe_listRg (by rfl) (by rfl) B.b_list (prg_1 (by rfl) B.b_range (pv 1))) (pa_cons (pe_lst pa_nil) pa_nil))) (pg_tup (by rfl) (pgs_cons (pg_name (i := 3) sc__law_mixed.nd rfl (Or.inl rfl)) (pgs_cons (pg_name (i := 4) sc__law_mixed.nd rfl (Or.inr rfl)) pgs_nil))))
      (pss_cons (ps_while PassesOwn.never (pt_cmpR (kNeD (K := K) rfl hr.units) (pv 3) (pe_lst pa_nil) (nomark _)) (pss_one (ps_expr (kAppend (K := K) rfl (pv 4) (pa_cons (kPopAt (K := K) rfl (pv 3) (pa_cons (pe_use h__law_dealt (hr.mono (by decide)) (pa_cons (pv 0) (pa_cons (pe_callB (kLen (K := K) rfl) (by rfl) B.b_len PySem.boot_len (pa_cons (pv 3) pa_nil)) pa_nil))) pa_nil)) pa_nil)))))
      (pss_cons (ps_set (i := 5) sc__law_mixed.nd rfl (Or.inl rfl) (pe_lst pa_nil))
      (pss_cons (ps_for PassesOwn.never rfl (kPiT (K := K) rfl (pv 2)) (pg_name (i := 6) sc__law_mixed.nd rfl (Or.inr rfl)) (pss_one (ps_expr (kAppend (K := K) rfl (pv 5) (pa_cons (pe_callB (kSum (K := K) rfl (by rfl)) (by rfl) B.b_sum (by decide +kernel) (pa_cons (pe_lc (own := [("place", 7)]) (g := gName 7) (by rfl) sc__law_mixed.nd (pi_range1 (by rfl) B.b_range (pa_cons (pv 1) pa_nil)) (blkOk_by (own := [("place", 7)]) (N := ["pack", "length", "basis", "left", "order", "words", "word", "place"]) (sc := defScope s__law_mixed) (by decide +kernel)) (fun _ _ _ _ _ => pg_name (i := 7) sc__law_mixed.nd rfl (Or.inl rfl)) (fun _ _ _ _ _ => (pts_one (pt_cmpR op_eq (pe_op op_and (pe_op op_shr (pv 6) (pv 7)) pe_int) pe_int (nomark _)))) (fun _ _ _ _ _ => (pe_op op_shlW pe_int (pe_ix (kIxL (K := K) rfl) (pv 4) (pv 7) (fun _ _ => rfl))))) pa_nil)) pa_nil)))))
      (pss_one (ps_ret (pe_use h__law_basis (hr.mono (by decide)) (pa_cons (pv 5) pa_nil)))))))), fun ⟨⟨n, F⟩, m⟩ p hF => ?_⟩
  have hF : Nb.Own n F := hF
  have n1 := hF.ok.n1
  have n24 := hF.ok.n24
  have hFl := hF.ok.len
  have s16 : sizeLine = 16777216 := sizeLine_eq
  have lt6 : ∀ t, t < 2 ^ 6 → t < 2 ^ 1000 := fun t ht => lt1000 ht (by decide)
  show WS K _ [.box p (PailOk (m + 24)), .im (rN n), .im (rT K (NL F)), .no, .no, .no, .no, .no] _ _ _ _
  refine ws_seq (ws_asgTu (wa_cons (we_lstRg (n := n) (we_var rfl ⟨n, rfl, by omega, wa_cons (we_lst (wa_nil ⟨[], rfl, Nat.zero_le _, wa_nil ⟨_, _, rfl, ?_⟩⟩))⟩))))
  show WS K _ [.box p (PailOk (m + 24)), .im (rN n), .im (rT K (NL F)), .own (NL (List.range n)), .own (NL []), .no, .no, .no] _ _ _ _
  refine ws_seq (ws_post (nx' := fun E' => ∃ (f : List Nat) (φ : List V → Prop), E' = [.box p φ, .im (rN n), .im (rT K (NL F)), .own (NL []), .own (NL f), .no, .no, .no] ∧ f.Perm (List.range n) ∧ ∀ vs, φ vs → PailOk m vs) (ws_while (fun t E' => ∃ (l f : List Nat) (φ : List V → Prop), E' = [.box p φ, .im (rN n), .im (rT K (NL F)), .own (NL l), .own (NL f), .no, .no, .no] ∧ t = l.length ∧ (f ++ l).Perm (List.range n) ∧ ∀ vs, φ vs → PailOk (m + l.length) vs) n ⟨List.range n, [], _, rfl, by rw [List.length_range], .refl _, fun vs h => h.less (by rw [List.length_range]; omega)⟩ ?_) ?_)
  · rintro t E' ⟨l, f, φ, rfl, ht, hp, hφ⟩
    refine wt_test (we_opc (wc_var rfl (wc_own (we_lst (wa_nil ⟨[], rfl, Nat.zero_le _, _, rfl, wc_nil ⟨rfl, _, _, _, rfl, opc_neNil, _, rfl, ?_⟩⟩)))))
    by_cases h0 : l = []
    · rw [if_neg (by simp [h0])]
      subst h0
      exact ⟨f, φ, rfl, by rw [List.append_nil] at hp; exact hp, hφ⟩
    · rw [if_pos (decide_eq_true h0)]
      have hl0 : 0 < l.length := List.length_pos_iff.mpr h0
      have hlw : f.length + l.length = n := by rw [← List.length_append, hp.length_eq, List.length_range]
      refine ws_app rfl (we_popAt rfl (we_callQ rfl (wq_im (we_cb (wc_var rfl (wc_nil ⟨rfl, _, cpr_len.cv (.cons cv_ls .nil), _, rfl, rfl, wq_nil ⟨((NL l).length, m + l.length - 1), φ, rfl, fun vs h => (hφ vs h).less (by show m + l.length - 1 + 1 ≤ _; omega), ⟨by rw [List.length_map]; omega, by rw [List.length_map]; exact lt6 _ (by omega)⟩, .cons cv_refl .nil, fun r hr _ => ?_⟩⟩))))))
      have hr : r < (NL l).length := hr
      have hr' : r < l.length := by rw [List.length_map] at hr; exact hr
      refine ⟨r, rN l[r], NL l, rfl, rfl, by rw [List.getElem?_map, List.getElem?_eq_getElem hr']; rfl, by omega, _, rfl, rfl, by rw [List.length_map, sizeLine_eq]; omega, l.length - 1, by omega, l.eraseIdx r, f ++ [l[r]], PailOk (m + l.length - 1), ?_, ?_, ?_, ?_⟩
      · show [Sl.box p (PailOk (m + l.length - 1)), .im (rN n), .im (rT K (NL F)), .own ((NL l).eraseIdx r), .own (NL f ++ [rN l[r]]), .no, .no, .no] = _
        unfold NL
        rw [map_era, List.map_append]
        rfl
      · rw [List.length_eraseIdx_of_lt hr']
      · rw [List.append_assoc]
        exact (List.Perm.append_left f (era_perm hr')).trans hp
      · intro vs h
        exact h.less (by rw [List.length_eraseIdx_of_lt hr']; omega)
  rintro E' ⟨L, φ2, rfl, hL, hφ2⟩
  replace hL : Nb.Prm n L := ⟨hL⟩
  have hLl := hL.len
  -- moved
  refine ws_seq (ws_asg (we_lst (wa_nil ⟨[], rfl, Nat.zero_le _, ?_⟩)))
  refine ws_seq (ws_for (wi_tup (we_var rfl ⟨_, rfl, fun i E' => ∃ k6 : Sl, E' = [.box p φ2, .im (rN n), .im (rT K (NL F)), .own (NL []), .own (NL L), .own (NL ((F.take i).map (Nb.mv L))), k6, .no], ⟨_, rfl⟩, ?_, ?_⟩)))
  · rintro i R E' hi ⟨k6, rfl⟩
    obtain ⟨x, hx, rfl⟩ := map_get hi
    have hxl := hF.ok.bas.lt x (List.mem_of_getElem? hx)
    have hil : ((F.take i).map (Nb.mv L)).length ≤ 24 := by
      rw [List.length_map, List.length_take]
      omega
    refine ws_app rfl (we_cb (wc_own (we_lcM (α := Nat) (wi_rngN (wa_cons (we_var rfl (wa_nil ⟨n, rfl, by omega, rfl, rfl, List.range n, rN, fun i => decide (x / 2 ^ i % 2 = 1), fun i => rN (2 ^ L.getD i 0), rfl, by rw [List.length_range]; omega, fun y hy => ?_, _, rfl, wc_nil ⟨_, (cpr_sumN (ws := ((List.range n).filter fun i => decide (x / 2 ^ i % 2 = 1)).map fun i => 2 ^ L.getD i 0)).cv (.cons ?_ .nil), ?_⟩⟩)))))))
    · have hy := List.mem_range.mp hy
      refine wt_test (we_op (we_op (we_op (we_var rfl (we_var rfl ⟨_, opr_shr, we_int ⟨_, opr_and1, we_int ⟨_, opr_eqI, _, rfl, ?_⟩⟩⟩)))))
      refine ⟨odd_eq _, rfl, fun _ => we_op (we_int (we_opc (wc_var rfl (wc_im (we_var rfl ⟨_, rfl, wc_nil ⟨rfl, _, _, _, rfl, (opc_ixL (m := y) rfl (R := rN (L.getD y 0)) ?_).cv cv_lb cv_refl, _, opr_shl1 ?_, rfl, rfl⟩⟩)))))⟩
      · rw [List.getElem?_map, List.getD_eq_getElem?_getD, List.getElem?_eq_getElem (by omega)]
        rfl
      · have := hL.lt _ (Cu.get_mem (L := L) (i := y) (by omega))
        omega
    · rw [List.map_map]
      exact cv_lb
    have e : (((List.range n).filter fun i => decide (x / 2 ^ i % 2 = 1)).map fun i => 2 ^ L.getD i 0).sum = Nb.mv L x := movedS_eq hL hxl
    rw [e]
    refine ⟨_, rfl, rfl, by rw [List.length_map]; omega, .im (rN x), ?_⟩
    have e2 : NL ((F.take (i + 1)).map (Nb.mv L)) = NL ((F.take i).map (Nb.mv L)) ++ [rN (Nb.mv L x)] := by
      rw [List.take_add_one, hx]
      unfold NL
      rw [List.map_append, List.map_append]
      rfl
    rw [e2]
    rfl
  · rintro E' ⟨k6, rfl⟩
    rw [List.length_map, List.take_length]
    refine ws_ret (we_call (wc_var rfl (wc_nil ⟨rfl, F.map (Nb.mv L), by rw [List.length_map]; omega, .cons cv_ls .nil, ?_⟩)))
    exact ⟨basisOf (F.map (Nb.mv L)), φ2, ⟨L, hL, rfl⟩, rfl, rfl, rfl, hφ2⟩
abbrev s__law_eights : Stmt := topS 56
theorem sc__law_eights : FnScope ["length", "found", "at", "one"] ["length"] (defScope s__law_eights) := ⟨rfl, rfl, rfl, by decide +kernel, rfl, by decide +kernel, by decide +kernel⟩
theorem rg8 : ∀ n : Nat, n ≤ 24 → n % 8 = 0 → L2.RgC 0 (n : Int) 8 (n / 8) := fun n h1 h2 => by
  have : n = 0 ∨ n = 8 ∨ n = 16 ∨ n = 24 := by omega
  rcases this with rfl | rfl | rfl | rfl <;> exact ⟨by decide, by decide, by decide, by decide⟩
def eightAt (i : Nat) : List Nat := [15 * 2 ^ (8 * i), 51 * 2 ^ (8 * i), 85 * 2 ^ (8 * i), 150 * 2 ^ (8 * i)]
theorem eights_succ (i : Nat) : (List.range (i + 1)).flatMap eightAt = (List.range i).flatMap eightAt ++ eightAt i := by
  rw [List.range_succ, List.flatMap_append]
  simp
theorem eights_len (i : Nat) : ((List.range i).flatMap eightAt).length = 4 * i := by
  induction i with
  | zero => rfl
  | succ i ih =>
    rw [eights_succ, List.length_append, ih]
    show 4 * i + 4 = _
    omega
abbrev Sp__law_eights (K : PySem.W.Frag) : Sp := spP K (fun (n : Nat) => [.im (rN n)]) (fun n => n ≤ 24 ∧ n % 8 = 0) (fun n => .own (NL (Fo.eightsL n)))
theorem ok__law_eights (d : DefAt K mg "_law_eights" s__law_eights ["length"] f fd) (B : Bt mg) : Has P w K mg base "_law_eights" ["length"] 1 (Sp__law_eights K) := by
  refine mk_has d sc__law_eights (fun _ => rfl) (fun _ _ => rfl) fun cdv A outer s H E hr => ⟨_,
    (pss_cons (ps_set (i := 1) sc__law_eights.nd rfl (Or.inl rfl) (pe_lst pa_nil))
      (pss_cons (ps_for PassesOwn.never rfl (pi_range3 (by rfl) B.b_range (pa_cons pe_int (pa_cons (pv 0) (pa_cons pe_int pa_nil)))) (pg_name (i := 2) sc__law_eights.nd rfl (Or.inr rfl)) (pss_one (ps_set (i := 1) sc__law_eights.nd rfl (Or.inl rfl) (pe_op op_cat (pv 1) (pe_lc (own := [("one", 3)]) (g := gName 3) (by rfl) sc__law_eights.nd (kPiT (K := K) rfl (pe_tup (pa_cons pe_int (pa_cons pe_int (pa_cons pe_int (pa_cons pe_int pa_nil)))))) (blkOk_by (own := [("one", 3)]) (N := ["length", "found", "at", "one"]) (sc := defScope s__law_eights) (by decide +kernel)) (fun _ _ _ _ _ => pg_name (i := 3) sc__law_eights.nd rfl (Or.inl rfl)) (fun _ _ _ _ _ => pts_nil) (fun _ _ _ _ _ => (pe_op op_shlW (pv 3) (pv 2))))))))
      (pss_one (ps_ret (pv 1))))), fun n ⟨h1, h2⟩ => ?_⟩
  have h1 : n ≤ 24 := h1
  have h2 : n % 8 = 0 := h2
  have s16 : sizeLine = 16777216 := sizeLine_eq
  show WS K _ [.im (rN n), .no, .no, .no] _ _ _ _
  refine ws_seq (ws_asg (we_lst (wa_nil ⟨[], rfl, Nat.zero_le _, ?_⟩)))
  refine ws_seq (ws_for (wi_rng3 (wa_cons (we_int (wa_cons (we_var rfl (wa_cons (we_int (wa_nil ⟨0, (n : Int), 8, n / 8, rfl, rg8 n h1 h2, fun i E' => ∃ k2 : Sl, E' = [.im (rN n), .own (NL ((List.range i).flatMap eightAt)), k2, .no], ⟨_, rfl⟩, ?_, ?_⟩)))))))))
  · rintro i R E' hi ⟨k2, rfl⟩
    obtain ⟨x, hx, rfl⟩ := map_get hi
    have hin : i < n / 8 := by
      have := (List.getElem?_eq_some_iff.mp hx).1
      simpa using this
    rw [List.getElem?_range hin] at hx
    cases hx
    have ei : (0 : Int) + (i : Int) * 8 = ((8 * i : Nat) : Int) := by omega
    rw [ei]
    have hl := eights_len i
    show WS K _ [.im (rN n), .own (NL ((List.range i).flatMap eightAt)), .im (rN (8 * i)), .no] _ _ _ _
    refine ws_asg (we_opc (wc_var rfl (wc_own (we_lcM (α := Nat) (wi_tup (we_tup (wa_cons (we_int (wa_cons (we_int (wa_cons (we_int (wa_cons (we_int (wa_nil ⟨NL [15, 51, 85, 150], rfl, by rw [s16]; show 4 ≤ _; decide, _, rfl, rfl, rfl, [15, 51, 85, 150], rN, fun _ => true, fun y => rN (y * 2 ^ (8 * i)), rfl, by rw [s16]; show 4 < _; decide, fun y hy => wt_yes ⟨rfl, rfl, fun _ => ?_⟩, _, rfl, wc_nil ⟨rfl, _, _, _, rfl, opc_cat ?_, ?_⟩⟩)))))))))))))))
    · have hy8 : y < 2 ^ 8 := by
        simp only [List.mem_cons, List.not_mem_nil, or_false] at hy
        rcases hy with rfl | rfl | rfl | rfl <;> decide
      exact we_op (we_var rfl (we_var rfl ⟨_, opr_shlN (a := y) (b := 8 * i) (n := 8) hy8 (by omega), rfl, rfl⟩))
    · rw [List.length_map, hl, s16]
      show 4 * i + 4 ≤ _
      omega
    · refine ⟨.im (rN (8 * i)), ?_⟩
      rw [eights_succ]
      refine congrArg (fun z => [Sl.im (rN n), Sl.own z, Sl.im (rN (8 * i)), Sl.no]) ?_
      unfold NL
      rw [List.map_append]
      rfl
  · rintro E' ⟨k2, rfl⟩
    rw [List.length_map, List.length_range]
    exact ws_ret (we_own rfl rfl)
abbrev s__law_product : Stmt := topS 49
theorem sc__law_product : FnScope ["one", "other"] ["one", "other"] (defScope s__law_product) := ⟨rfl, rfl, rfl, by decide +kernel, rfl, by decide +kernel, by decide +kernel⟩
abbrev Sp__law_product (K : PySem.W.Frag) : Sp := spP K (fun (p : Nat × Nat) => [.im (rN p.1), .im (rN p.2)]) (fun _ => True) (fun p => .im (rN (pop (p.1 &&& p.2) % 2)))
theorem ok__law_product (d : DefAt K mg "_law_product" s__law_product ["one", "other"] f fd) (h__law_weight : Has P w K mg base "_law_weight" ["word"] 1 (Sp__law_weight K)) : Has P w K mg base "_law_product" ["one", "other"] 2 (Sp__law_product K) := by
  refine mk_has d sc__law_product (fun _ => rfl) (fun _ _ => rfl) fun cdv A outer s H E hr => ⟨_,
    (pss_one (ps_ret (pe_op op_mod (pe_use h__law_weight (hr.mono (by decide)) (pa_cons (pe_op op_and (pv 0) (pv 1)) pa_nil)) pe_int))), fun ⟨a, b⟩ _ => ?_⟩
  exact ws_ret (we_op (we_call (wc_im (we_op (we_var rfl (we_var rfl ⟨_, opr_and, _, rfl, wc_nil ⟨a &&& b, trivial, .cons cv_refl .nil, we_int ⟨_, opr_mod (by decide), rfl⟩⟩⟩))))))
abbrev s__law_kept : Stmt := topS 52
theorem sc__law_kept : FnScope ["basis", "word", "odd", "one"] ["basis", "word"] (defScope s__law_kept) := ⟨rfl, rfl, rfl, by decide +kernel, rfl, by decide +kernel, by decide +kernel⟩
abbrev Sp__law_kept (K : PySem.W.Frag) : Sp := spP K (fun (p : List Nat × Nat) => [.im (rT K (NL p.1)), .im (rN p.2)]) (fun p => p.1.length ≤ 1000) (fun p => .own (NL (Nb.evw p.1 p.2)))
theorem ok__law_kept (d : DefAt K mg "_law_kept" s__law_kept ["basis", "word"] f fd) (h__law_product : Has P w K mg base "_law_product" ["one", "other"] 2 (Sp__law_product K)) : Has P w K mg base "_law_kept" ["basis", "word"] 3 (Sp__law_kept K) := by
  refine mk_has d sc__law_kept (fun _ => rfl) (fun _ _ => rfl) fun cdv A outer s H E hr => ⟨_,
    (pss_cons (ps_set (i := 2) sc__law_kept.nd rfl (Or.inr rfl) (pe_lc (own := [("one", 3)]) (g := gName 3) (by rfl) sc__law_kept.nd (kPiT (K := K) rfl (pv 0)) (blkOk_by (own := [("one", 3)]) (N := ["basis", "word", "odd", "one"]) (sc := defScope s__law_kept) (by decide +kernel)) (fun _ _ _ _ _ => pg_name (i := 3) sc__law_kept.nd rfl (Or.inl rfl)) (fun _ _ _ _ _ => (pts_one (pt_cmpR op_eq (pe_use h__law_product (hr.mono (by decide)) (pa_cons (pv 3) (pa_cons (pv 1) pa_nil))) pe_int (nomark _)))) (fun _ _ _ _ _ => (pv 3))))
      (pss_one (ps_ret (pe_op op_cat (pe_lc (own := [("one", 3)]) (g := gName 3) (by rfl) sc__law_kept.nd (kPiT (K := K) rfl (pv 0)) (blkOk_by (own := [("one", 3)]) (N := ["basis", "word", "odd", "one"]) (sc := defScope s__law_kept) (by decide +kernel)) (fun _ _ _ _ _ => pg_name (i := 3) sc__law_kept.nd rfl (Or.inl rfl)) (fun _ _ _ _ _ => (pts_one (pt_cmpR (kNotIn (K := K) rfl) (pv 3) (pv 2) (by rfl)))) (fun _ _ _ _ _ => (pv 3))) (pe_lc (own := [("one", 3)]) (g := gName 3) (by rfl) sc__law_kept.nd (kPiL (K := K) rfl (pe_slice (kSlL (K := K) rfl) (pv 2) (po_some pe_int) po_none)) (blkOk_by (own := [("one", 3)]) (N := ["basis", "word", "odd", "one"]) (sc := defScope s__law_kept) (by decide +kernel)) (fun _ _ _ _ _ => pg_name (i := 3) sc__law_kept.nd rfl (Or.inl rfl)) (fun _ _ _ _ _ => pts_nil) (fun _ _ _ _ _ => (pe_op op_xor (pe_ix (kIxL (K := K) rfl) (pv 2) pe_int (fun _ _ => rfl)) (pv 3)))))))), fun ⟨B0, w⟩ hl => ?_⟩
  have hl : B0.length ≤ 1000 := hl
  have s16 : sizeLine = 16777216 := sizeLine_eq
  have cnv : ∀ a b : Nat, decide (((a % 2 : Nat) : Int) = (b : Int)) = decide (a % 2 = b) := fun a b => decide_eq_decide.mpr ⟨fun h => by omega, fun h => by omega⟩
  show WS K _ [.im (rT K (NL B0)), .im (rN w), .no, .no] _ _ _ _
  refine ws_seq (ws_asg (we_lcM (α := Nat) (wi_tup (we_var rfl ⟨_, rfl, rfl, rfl, B0, rN, fun b => decide (pop (b &&& w) % 2 = 1), rN, rfl, by omega, fun x hx => ?_, ?_⟩))))
  · refine wt_test (we_op (we_call (wc_im (we_var rfl ⟨_, rfl, wc_im (we_var rfl ⟨_, rfl, wc_nil ⟨(x, w), trivial, .cons cv_refl (.cons cv_refl .nil), we_int ⟨_, opr_eqI, _, rfl, ?_⟩⟩⟩)⟩))))
    exact ⟨cnv _ 1, rfl, fun _ => we_var rfl ⟨rfl, rfl⟩⟩
  show WS K _ [.im (rT K (NL B0)), .im (rN w), .own (NL (Cu.oddL B0 w)), .no] _ _ _ _
  have hol : (Cu.oddL B0 w).length ≤ 1000 := Nat.le_trans (List.length_filter_le _ _) hl
  have hel : (Cu.evenB B0 w).length ≤ 1000 := Nat.le_trans (List.length_filter_le _ _) hl
  refine ws_ret (we_opc (wc_own (we_lcM (α := Nat) (wi_tup (we_var rfl ⟨_, rfl, rfl, rfl, B0, rN, fun b => decide (pop (b &&& w) % 2 = 0), rN, rfl, by omega, fun x hx => ?_, _, rfl, ?_⟩)))))
  · refine wt_test (we_opc (wc_im (we_var rfl ⟨_, rfl, wc_var rfl (wc_nil ⟨rfl, _, _, _, rfl, opc_in.cv cv_refl cv_ls, _, rfl, ?_, rfl, fun _ => we_var rfl ⟨rfl, rfl⟩⟩)⟩)))
    show (!decide (x ∈ Cu.oddL B0 w)) = decide (pop (x &&& w) % 2 = 0)
    have e : x ∈ Cu.oddL B0 w ↔ pop (x &&& w) % 2 = 1 := ⟨fun h => of_decide_eq_true (List.mem_filter.mp h).2, fun h => List.mem_filter.mpr ⟨hx, decide_eq_true h⟩⟩
    by_cases z : pop (x &&& w) % 2 = 1
    · rw [decide_eq_true (e.mpr z), decide_eq_false (by omega)]
      rfl
    · rw [decide_eq_false fun q => z (e.mp q), decide_eq_true (by omega)]
      rfl
  refine wc_own (we_lcM (α := Nat) (wi_lst (we_slTailV rfl ⟨_, rfl, rfl, rfl, (Cu.oddL B0 w).drop 1, rN, fun _ => true, fun b => rN (b ^^^ (Cu.oddL B0 w).headD 0), ?_, ?_, fun x hx => ?_, _, rfl, ?_⟩)))
  · unfold NL
    rw [List.map_drop]
  · rw [List.length_drop]
    omega
  · refine wt_yes ⟨rfl, rfl, fun _ => we_op (we_opc (wc_var rfl (wc_im (we_int ⟨_, rfl, wc_nil ⟨rfl, _, _, _, rfl, (opc_ixL (m := 0) rfl (R := rN ((Cu.oddL B0 w).headD 0)) ?_).cv cv_lb cv_refl, we_var rfl ⟨_, opr_xor, ?_, rfl⟩⟩⟩))))⟩
    · rw [List.getElem?_map, Cu.drop_head hx]
      rfl
    · rw [Nat.xor_comm]
  have e : (NL (Cu.evenB B0 w)) ++ (((Cu.oddL B0 w).drop 1).filter fun _ => true).map (fun b => rN (b ^^^ (Cu.oddL B0 w).headD 0)) = NL (Nb.evw B0 w) := by
    unfold NL Nb.evw
    rw [List.filter_true', List.map_append, List.map_map]
    rfl
  refine wc_nil ⟨_, _, _, rfl, opc_cat ?_, ?_⟩
  · rw [List.length_map, List.length_map, List.filter_true', List.length_drop]
    show (Cu.evenB B0 w).length + _ ≤ _
    omega
  show Sl.own ((NL (Cu.evenB B0 w)) ++ (((Cu.oddL B0 w).drop 1).filter fun _ => true).map (fun b => rN (b ^^^ (Cu.oddL B0 w).headD 0))) = Sl.own (NL (Nb.evw B0 w))
  rw [e]
abbrev s__law_next : Stmt := topS 53
theorem sc__law_next : FnScope ["basis", "word"] ["basis", "word"] (defScope s__law_next) := ⟨rfl, rfl, rfl, by decide +kernel, rfl, by decide +kernel, by decide +kernel⟩
abbrev Sp__law_next (K : PySem.W.Frag) : Sp := spP K (fun (p : List Nat × Nat) => [.im (rT K (NL p.1)), .im (rN p.2)]) (fun p => p.1.length ≤ 1000) (fun p => .im (rT K (NL (Nb.nb p.1 p.2))))
theorem ok__law_next (d : DefAt K mg "_law_next" s__law_next ["basis", "word"] f fd) (h__law_basis : Has P w K mg base "_law_basis" ["words"] 2 (Sp__law_basis K)) (h__law_kept : Has P w K mg base "_law_kept" ["basis", "word"] 3 (Sp__law_kept K)) : Has P w K mg base "_law_next" ["basis", "word"] 4 (Sp__law_next K) := by
  refine mk_has d sc__law_next (fun _ => rfl) (fun _ _ => rfl) fun cdv A outer s H E hr => ⟨_,
    (pss_one (ps_ret (pe_use h__law_basis (hr.mono (by decide)) (pa_cons (pe_op op_cat (pe_use h__law_kept (hr.mono (by decide)) (pa_cons (pv 0) (pa_cons (pv 1) pa_nil))) (pe_lst (pa_cons (pv 1) pa_nil))) pa_nil)))), fun ⟨B0, w⟩ hl => ?_⟩
  have hl : B0.length ≤ 1000 := hl
  have s16 : sizeLine = 16777216 := sizeLine_eq
  have hbl := Cu.beside_len B0 w
  have hel : (Nb.evw B0 w).length + 1 = (Cu.besideL B0 w).length := by
    rw [Nb.beside_eq, List.length_append]
    rfl
  refine ws_ret (we_call (wc_own (we_opc (wc_own (we_call (wc_im (we_var rfl ⟨_, rfl, wc_im (we_var rfl ⟨_, rfl, wc_nil ⟨(B0, w), hl, .cons cv_refl (.cons cv_refl .nil), _, rfl, wc_own (we_lst (wa_cons (we_var rfl (wa_nil ⟨[rN w], rfl, by rw [s16]; show 1 ≤ _; decide, _, rfl, wc_nil ⟨_, _, _, rfl, opc_cat ?_, _, rfl, wc_nil ⟨Cu.besideL B0 w, by show (Cu.besideL B0 w).length ≤ 100000; omega, .cons ?_ .nil, rfl⟩⟩⟩))))⟩⟩)⟩)))))))
  · rw [List.length_map]
    show (Nb.evw B0 w).length + 1 ≤ _
    omega
  · have e2 : NL (Nb.evw B0 w) ++ [rN w] = NL (Cu.besideL B0 w) := by
      rw [Nb.beside_eq]
      unfold NL
      rw [List.map_append]
      rfl
    show Cv K (Ck.lst (NL (Nb.evw B0 w) ++ [rN w])) _
    rw [e2]
    exact cv_ls
abbrev s__law_own : Stmt := topS 57
theorem sc__law_own : FnScope ["pack", "length", "words", "whole", "basis", "turn", "word", "place"] ["pack", "length"] (defScope s__law_own) := ⟨rfl, rfl, rfl, by decide +kernel, rfl, by decide +kernel, by decide +kernel⟩
theorem evs : ∀ n ∈ Cu.evens, n % 2 = 0 ∧ 2 ≤ n ∧ n ≤ 24 := by decide
theorem rg2 : ∀ n : Nat, n ≤ 24 → n % 2 = 0 → L2.RgC 0 (n : Int) 2 (n / 2) := fun n h1 h2 => by
  have : n = 0 ∨ n = 2 ∨ n = 4 ∨ n = 6 ∨ n = 8 ∨ n = 10 ∨ n = 12 ∨ n = 14 ∨ n = 16 ∨ n = 18 ∨ n = 20 ∨ n = 22 ∨ n = 24 := by omega
  rcases this with rfl | rfl | rfl | rfl | rfl | rfl | rfl | rfl | rfl | rfl | rfl | rfl | rfl <;> exact ⟨by decide, by decide, by decide, by decide⟩
theorem pairs_len (n : Nat) : (Fo.pairsL n).length = n / 2 := by
  unfold Fo.pairsL
  rw [List.length_map, List.length_range]
theorem eightsL_len (n : Nat) : (Fo.eightsL n).length = 4 * (n / 8) := eights_len _
abbrev Sp__law_own (K : PySem.W.Frag) : Sp := spQ K (fun (p : Nat × Nat) => p.2 + 70) (fun p => p.2) (fun p => [.im (rN p.1)]) (fun p => p.1 ∈ Cu.evens) (fun p (B : List Nat) => Nb.Own p.1 B) (fun _ B => .im (rT K (NL B)))
theorem ok__law_own (d : DefAt K mg "_law_own" s__law_own ["pack", "length"] f fd) (B : Bt mg) (h__law_dealt : Has P w K mg base "_law_dealt" ["pack", "total"] 1 (Sp__law_dealt K)) (h__law_eights : Has P w K mg base "_law_eights" ["length"] 1 (Sp__law_eights K)) (h__law_basis : Has P w K mg base "_law_basis" ["words"] 2 (Sp__law_basis K)) (h__law_outside : Has P w K mg base "_law_outside" ["pack", "length", "basis"] 2 (Sp__law_outside K)) (h__law_next : Has P w K mg base "_law_next" ["basis", "word"] 4 (Sp__law_next K)) (h__law_mixed : Has P w K mg base "_law_mixed" ["pack", "length", "basis"] 3 (Sp__law_mixed K)) : Has P w K mg base "_law_own" ["pack", "length"] 5 (Sp__law_own K) := by
  refine mk_hasQ d sc__law_own (fun _ => rfl) fun cdv A outer s H E hr => ⟨_,
    (pss_cons (ps_par (i := 2) (j := 3) (by rfl) sc__law_own.nd rfl rfl (by decide) rfl rfl (pa_cons (pe_lc (own := [("place", 7)]) (g := gName 7) (by rfl) sc__law_own.nd (pi_range3 (by rfl) B.b_range (pa_cons pe_int (pa_cons (pv 1) (pa_cons pe_int pa_nil)))) (blkOk_by (own := [("place", 7)]) (N := ["pack", "length", "words", "whole", "basis", "turn", "word", "place"]) (sc := defScope s__law_own) (by decide +kernel)) (fun _ _ _ _ _ => pg_name (i := 7) sc__law_own.nd rfl (Or.inl rfl)) (fun _ _ _ _ _ => pts_nil) (fun _ _ _ _ _ => (pe_op op_shlW pe_int (pv 7)))) (pa_cons (pe_op op_sub (pv 1) (pe_op op_mod (pe_callTy call_int1 (by rfl) B.b_int (by decide +kernel) (pa_cons (pv 1) pa_nil)) pe_int)) pa_nil)) (by rfl))
      (pss_cons (ps_if (pt_cmpR op_eq (pe_use h__law_dealt (hr.mono (by decide)) (pa_cons (pv 0) (pa_cons pe_int pa_nil))) pe_int (nomark _)) (pss_one (ps_set (i := 2) sc__law_own.nd rfl (Or.inl rfl) (pe_op op_cat (pe_use h__law_eights (hr.mono (by decide)) (pa_cons (pv 3) pa_nil)) (pe_slice (kSlL (K := K) rfl) (pv 2) (po_some (pe_op op_fdivW (pv 3) pe_int)) po_none)))) pss_nil)
      (pss_cons (ps_set (i := 4) sc__law_own.nd rfl (Or.inl rfl) (pe_use h__law_basis (hr.mono (by decide)) (pa_cons (pv 2) pa_nil)))
      (pss_cons (ps_for PassesOwn.never rfl (pi_range1 (by rfl) B.b_range (pa_cons (pe_use h__law_dealt (hr.mono (by decide)) (pa_cons (pv 0) (pa_cons pe_int pa_nil))) pa_nil)) (pg_name (i := 5) sc__law_own.nd rfl (Or.inl rfl)) (pss_cons (ps_set (i := 6) sc__law_own.nd rfl (Or.inl rfl) (pe_use h__law_outside (hr.mono (by decide)) (pa_cons (pv 0) (pa_cons (pv 1) (pa_cons (pv 4) pa_nil)))))
      (pss_one (ps_set (i := 4) sc__law_own.nd rfl (Or.inl rfl) (pe_ifExp (pt_cmpR op_isN (pv 6) pe_non (nomark _)) (pv 4) (pe_use h__law_next (hr.mono (by decide)) (pa_cons (pv 4) (pa_cons (pv 6) pa_nil))))))))
      (pss_one (ps_ret (pe_ifExp (pt_cmpR op_eq (pe_use h__law_dealt (hr.mono (by decide)) (pa_cons (pv 0) (pa_cons pe_int pa_nil))) pe_int (nomark _)) (pe_use h__law_mixed (hr.mono (by decide)) (pa_cons (pv 0) (pa_cons (pv 1) (pa_cons (pv 4) pa_nil)))) (pv 4)))))))), fun ⟨n, m⟩ p hev => ?_⟩
  have hev : n ∈ Cu.evens := hev
  obtain ⟨ev1, ev2, ev3⟩ := evs n hev
  have s16 : sizeLine = 16777216 := sizeLine_eq
  have lt6 : ∀ t, t < 2 ^ 6 → t < 2 ^ 1000 := fun t ht => lt1000 ht (by decide)
  show WS K _ [.box p (PailOk (m + 70)), .im (rN n), .no, .no, .no, .no, .no, .no] _ _ _ _
  refine ws_seq (ws_par (wa_cons (we_lcM (α := Nat) (wi_rng3 (wa_cons (we_int (wa_cons (we_var rfl (wa_cons (we_int (wa_nil ⟨0, (n : Int), 2, n / 2, rfl, rg2 n ev3 ev1, rfl, rfl, List.range (n / 2), fun i => rN (2 * i), fun _ => true, fun i => rN (3 * 2 ^ (2 * i)), List.map_congr_left fun i _ => (by show Fx.rI _ = Fx.rI _; congr 1; omega), by rw [List.length_range]; omega, fun x hx => ?_, ?_⟩)))))))))))
  · have hx2 := List.mem_range.mp hx
    refine wt_yes ⟨rfl, rfl, fun _ => ?_⟩
    exact we_op (we_int (we_var rfl ⟨_, opr_shlN (a := 3) (b := 2 * x) (n := 2) (by decide) (by omega), rfl, rfl⟩))
  have e : ((List.range (n / 2)).filter fun _ => true).map (fun i => rN (3 * 2 ^ (2 * i))) = NL (Fo.pairsL n) := by
    unfold NL Fo.pairsL
    rw [List.filter_true', List.map_map]
    rfl
  rw [e]
  refine wa_cons (we_op (we_var rfl (we_op (we_cb (wc_im (we_var rfl ⟨_, rfl, wc_nil ⟨_, cpr_int, we_int ⟨_, opr_mod (by decide), _, opr_sub, wa_nil ⟨_, _, rfl, ?_⟩⟩⟩⟩))))))
  have ew : (n : Int) - (n : Int) % 8 = ((n - n % 8 : Nat) : Int) := by omega
  rw [ew]
  have w8 : (n - n % 8) % 8 = 0 := by omega
  have wl : n - n % 8 ≤ 24 := by omega
  have hpl := pairs_len n
  have hel := eightsL_len (n - n % 8)
  show WS K _ [.box p (PailOk (m + 70)), .im (rN n), .own (NL (Fo.pairsL n)), .im (rN (n - n % 8)), .no, .no, .no, .no] _ _ _ _
  refine ws_seq (ws_post (nx' := fun E' => ∃ W : List Nat, E' = [.box p (PailOk (m + 69)), .im (rN n), .own (NL W), .im (rN (n - n % 8)), .no, .no, .no, .no] ∧ Nb.Own n (basisOf W) ∧ W.length ≤ 100) (ws_if (wt_test (we_op (we_callQ rfl (wq_im (we_int ⟨_, rfl, rfl, wq_nil ⟨(2, m + 69), _, rfl, fun _ h => h, ⟨by show 1 ≤ 2; decide, lt6 2 (by decide)⟩, .cons cv_refl .nil, fun r hr _ => we_int ⟨_, opr_eqI, _, rfl, ?_⟩⟩⟩)))))) ?_)
  · by_cases h0 : r = 0
    · rw [if_pos (decide_eq_true (by omega))]
      refine ws_asg (we_opc (wc_own (we_call (wc_im (we_var rfl ⟨_, rfl, wc_nil ⟨n - n % 8, ⟨wl, w8⟩, .cons cv_refl .nil, _, rfl, wc_own (we_slLe rfl (we_op (we_var rfl (we_int ⟨_, opr_div (n := 10) (by decide) (by decide) (by decide) (by decide), (n - n % 8) / 2, rfl, rfl, _, rfl, wc_nil ⟨_, _, _, rfl, opc_cat ?_, ?_⟩⟩))))⟩⟩)))))
      · rw [List.length_map, List.length_drop, List.length_map, hel, hpl]
        omega
      · refine ⟨Fo.mixL n, ?_, Fo.start_mix hev, ?_⟩
        · refine congrArg (fun z => [Sl.box p (PailOk (m + 69)), .im (rN n), Sl.own z, .im (rN (n - n % 8)), .no, .no, .no, .no]) ?_
          unfold NL Fo.mixL
          rw [List.map_append, List.map_drop]
        · unfold Fo.mixL
          rw [List.length_append, List.length_drop, hel, hpl]
          omega
    · rw [if_neg (by simp; omega)]
      exact ws_next ⟨Fo.pairsL n, rfl, Fo.start_pairs hev, by omega⟩
  rintro E' ⟨W, rfl, hW, hWl⟩
  refine ws_seq (ws_asg (we_call (wc_var rfl (wc_nil ⟨rfl, W, by show W.length ≤ 100000; omega, .cons cv_ls .nil, ?_⟩))))
  show WS K _ [.box p (PailOk (m + 69)), .im (rN n), .own (NL W), .im (rN (n - n % 8)), .im (rT K (NL (basisOf W))), .no, .no, .no] _ _ _ _
  refine ws_seq (ws_post (nx' := fun E' => ∃ (F : List Nat) (φ : List V → Prop) (k5 k6 : Sl), E' = [.box p φ, .im (rN n), .own (NL W), .im (rN (n - n % 8)), .im (rT K (NL F)), k5, k6, .no] ∧ Nb.Own n F ∧ ∀ vs, φ vs → PailOk (m + 30) vs) (ws_for ?_) ?_)
  · refine wi_rngN (wa_cons (we_callQ rfl (wq_im (we_int ⟨_, rfl, rfl, wq_nil ⟨(5, m + 68), _, rfl, fun _ h => h, ⟨by show 1 ≤ 5; decide, lt6 5 (by decide)⟩, .cons cv_refl .nil, fun c hc _ => wa_nil ⟨c, rfl, ?_⟩⟩⟩))))
    have hc : c < 5 := hc
    refine ⟨by omega, fun i E' => ∃ (F : List Nat) (φ : List V → Prop) (k5 k6 : Sl), E' = [.box p φ, .im (rN n), .own (NL W), .im (rN (n - n % 8)), .im (rT K (NL F)), k5, k6, .no] ∧ Nb.Own n F ∧ ∀ vs, φ vs → PailOk (m + 30 + 9 * (c - i)) vs, ⟨_, _, _, _, rfl, hW, fun _ h => h.less (by show m + 30 + 9 * (c - 0) ≤ m + 68; omega)⟩, ?_, ?_⟩
    · rintro i R E' hi ⟨F, φ, k5, k6, rfl, hF, hφ⟩
      have hic : i < c := by
        have := (List.getElem?_eq_some_iff.mp hi).1
        simpa using this
      have eb : m + 30 + 9 * (c - i) = m + 30 + 9 * (c - (i + 1)) + 9 := by omega
      rw [eb] at hφ
      have hFl := hF.ok.len
      refine ws_seq (ws_asg (we_callQ rfl (wq_im (we_var rfl ⟨_, rfl, rfl, wq_im (we_var rfl ⟨_, rfl, rfl, wq_nil ⟨((n, F), m + 30 + 9 * (c - (i + 1))), φ, rfl, hφ, hF.ok, .cons cv_refl (.cons cv_refl .nil), fun r hr _ => ?_⟩⟩)⟩))))
      have hr1 : ∀ w, r = some w → Nb.Out n F w := hr
      show WS K _ [.box p (PailOk (m + 30 + 9 * (c - (i + 1)))), .im (rN n), .own (NL W), .im (rN (n - n % 8)), .im (rT K (NL F)), .im R, .im (outR r), .no] _ _ _ _
      cases r with
      | none =>
        refine ws_asg (we_if (wt_test (we_op (we_var rfl (we_non ⟨_, opr_isN (R := outR none) isN_U, _, rfl, ?_⟩)))))
        rw [if_pos rfl]
        exact we_var rfl ⟨F, _, _, _, rfl, hF, fun _ h => h⟩
      | some w =>
        have hw := hr1 w rfl
        refine ws_asg (we_if (wt_test (we_op (we_var rfl (we_non ⟨_, opr_isN (R := outR (some w)) isN_int, _, rfl, ?_⟩)))))
        rw [if_neg Bool.false_ne_true]
        exact we_call (wc_im (we_var rfl ⟨_, rfl, wc_im (we_var rfl ⟨_, rfl, wc_nil ⟨(F, w), by show F.length ≤ 1000; omega, .cons cv_refl (.cons cv_refl .nil), Nb.nb F w, _, _, _, rfl, Nb.nb_own hF hw.lt hw.ev, fun _ h => h⟩⟩)⟩))
    · rintro E' ⟨F, φ, k5, k6, rfl, hF, hφ⟩
      exact ⟨F, φ, k5, k6, rfl, hF, fun vs h => (hφ vs h).less (by omega)⟩
  rintro E' ⟨F, φ, k5, k6, rfl, hF, hφ⟩
  refine ws_ret (we_if (wt_test (we_op (we_callQ rfl (wq_im (we_int ⟨_, rfl, rfl, wq_nil ⟨(3, m + 24), φ, rfl, fun vs h => (hφ vs h).less (by show m + 24 + 1 ≤ m + 30; omega), ⟨by show 1 ≤ 3; decide, lt6 3 (by decide)⟩, .cons cv_refl .nil, fun r hr _ => we_int ⟨_, opr_eqI, _, rfl, ?_⟩⟩⟩))))))
  by_cases h0 : r = 0
  · rw [if_pos (decide_eq_true (by omega))]
    refine we_callQ rfl (wq_im (we_var rfl ⟨_, rfl, rfl, wq_im (we_var rfl ⟨_, rfl, rfl, wq_nil ⟨((n, F), m), _, rfl, fun _ h => h, hF, .cons cv_refl (.cons cv_refl .nil), fun B hB _ => ?_⟩⟩)⟩))
    obtain ⟨L, hL, e⟩ := hB
    have e : B = basisOf (F.map (Nb.mv L)) := e
    exact ⟨B, PailOk m, by rw [e]; exact Nb.mv_own hF hL, rfl, rfl, rfl, fun _ h => h⟩
  · rw [if_neg (by simp; omega)]
    exact we_var rfl ⟨F, PailOk (m + 24), hF, rfl, rfl, rfl, fun vs h => h.less (by show m ≤ m + 24; omega)⟩
abbrev s__law_heavy : Stmt := topS 58
theorem sc__law_heavy : FnScope ["word"] ["word"] (defScope s__law_heavy) := ⟨rfl, rfl, rfl, by decide +kernel, rfl, by decide +kernel, by decide +kernel⟩
def hN (x : Nat) : Nat := pop x / 2 % 2
theorem hN_hv (x : Nat) : decide (hN x = 1) = Fo.hv x := rfl
theorem hN_int (x : Nat) : decide (((hN x : Nat) : Int) = 1) = Fo.hv x := by
  show _ = decide (hN x = 1)
  exact decide_eq_decide.mpr ⟨fun h => by omega, fun h => by omega⟩
abbrev Sp__law_heavy (K : PySem.W.Frag) : Sp := spP K (fun (n : Nat) => [.im (rN n)]) (fun _ => True) (fun n => .im (rN (hN n)))
theorem ok__law_heavy (d : DefAt K mg "_law_heavy" s__law_heavy ["word"] f fd) (B : Bt mg) (h__law_weight : Has P w K mg base "_law_weight" ["word"] 1 (Sp__law_weight K)) : Has P w K mg base "_law_heavy" ["word"] 2 (Sp__law_heavy K) := by
  refine mk_has d sc__law_heavy (fun _ => rfl) (fun _ _ => rfl) fun cdv A outer s H E hr => ⟨_,
    (pss_one (ps_ret (pe_op op_mod (pe_op op_fdivW (pe_callTy call_int1 (by rfl) B.b_int (by decide +kernel) (pa_cons (pe_use h__law_weight (hr.mono (by decide)) (pa_cons (pv 0) pa_nil)) pa_nil)) pe_int) pe_int))), fun n _ => ?_⟩
  exact ws_ret (we_op (we_op (we_cb (wc_im (we_call (wc_im (we_var rfl ⟨_, rfl, wc_nil ⟨n, trivial, .cons cv_refl .nil, _, rfl, wc_nil ⟨_, cpr_int, we_int ⟨_, opr_div (n := 10) (by decide) (by decide) (by decide) (by decide), we_int ⟨_, opr_mod (by decide), rfl⟩⟩⟩⟩⟩)))))))
abbrev s__law_is_fours : Stmt := topS 59
theorem sc__law_is_fours : FnScope ["basis", "word"] ["basis"] (defScope s__law_is_fours) := ⟨rfl, rfl, rfl, by decide +kernel, rfl, by decide +kernel, by decide +kernel⟩
abbrev Sp__law_is_fours (K : PySem.W.Frag) : Sp := spP K (fun (B : List Nat) => [.im (rT K (NL B))]) (fun B => B.length ≤ 1000) (fun B => .im (rB (Fo.fours B)))
theorem fours_eq (B : List Nat) : decide (B.filter Fo.hv = []) = Fo.fours B := by
  rw [Bool.eq_iff_iff, decide_eq_true_eq, List.filter_eq_nil_iff]
  unfold Fo.fours
  rw [List.all_eq_true]
  exact ⟨fun h b hb => by
    have := h b hb
    cases q : Fo.hv b with
    | false => rfl
    | true => exact absurd q this, fun h b hb z => by
    have := h b hb
    rw [z] at this
    cases this⟩
theorem ok__law_is_fours (d : DefAt K mg "_law_is_fours" s__law_is_fours ["basis"] f fd) (h__law_heavy : Has P w K mg base "_law_heavy" ["word"] 2 (Sp__law_heavy K)) : Has P w K mg base "_law_is_fours" ["basis"] 3 (Sp__law_is_fours K) := by
  refine mk_has d sc__law_is_fours (fun _ => rfl) (fun _ _ => rfl) fun cdv A outer s H E hr => ⟨_,
    (pss_one (ps_ret (pe_cmpR (kEqD (K := K) rfl hr.units) (pe_lc (own := [("word", 1)]) (g := gName 1) (by rfl) sc__law_is_fours.nd (kPiT (K := K) rfl (pv 0)) (blkOk_by (own := [("word", 1)]) (N := ["basis", "word"]) (sc := defScope s__law_is_fours) (by decide +kernel)) (fun _ _ _ _ _ => pg_name (i := 1) sc__law_is_fours.nd rfl (Or.inl rfl)) (fun _ _ _ _ _ => (pts_one (pt_cmpR op_eq (pe_use h__law_heavy (hr.mono (by decide)) (pa_cons (pv 1) pa_nil)) pe_int (nomark _)))) (fun _ _ _ _ _ => (pv 1))) (pe_lst pa_nil) (nomark _)))), fun B0 hl => ?_⟩
  have hl : B0.length ≤ 1000 := hl
  have s16 : sizeLine = 16777216 := sizeLine_eq
  show WS K _ [.im (rT K (NL B0)), .no] _ _ _ _
  refine ws_ret (we_opc (wc_own (we_lcM (α := Nat) (wi_tup (we_var rfl ⟨_, rfl, rfl, rfl, B0, rN, Fo.hv, rN, rfl, by omega, fun x hx => ?_, _, rfl, wc_own (we_lst (wa_nil ⟨[], rfl, Nat.zero_le _, _, rfl, wc_nil ⟨_, _, _, rfl, opc_eqNil, ?_⟩⟩))⟩)))))
  · refine wt_test (we_op (we_call (wc_im (we_var rfl ⟨_, rfl, wc_nil ⟨x, trivial, .cons cv_refl .nil, we_int ⟨_, opr_eqI, _, rfl, ?_⟩⟩⟩))))
    exact ⟨hN_int x, rfl, fun _ => we_var rfl ⟨rfl, rfl⟩⟩
  · show Sl.im (rB (decide (B0.filter Fo.hv = []))) = Sl.im (rB (Fo.fours B0))
    rw [fours_eq]
abbrev s__law_half : Stmt := topS 60
theorem sc__law_half : FnScope ["basis", "odd", "word"] ["basis"] (defScope s__law_half) := ⟨rfl, rfl, rfl, by decide +kernel, rfl, by decide +kernel, by decide +kernel⟩
abbrev Sp__law_half (K : PySem.W.Frag) : Sp := spP K (fun (B : List Nat) => [.im (rT K (NL B))]) (fun B => B.length ≤ 1000) (fun B => .im (rT K (NL (Fo.halfB B))))
theorem ok__law_half (d : DefAt K mg "_law_half" s__law_half ["basis"] f fd) (h__law_heavy : Has P w K mg base "_law_heavy" ["word"] 2 (Sp__law_heavy K)) (h__law_basis : Has P w K mg base "_law_basis" ["words"] 2 (Sp__law_basis K)) : Has P w K mg base "_law_half" ["basis"] 3 (Sp__law_half K) := by
  refine mk_has d sc__law_half (fun _ => rfl) (fun _ _ => rfl) fun cdv A outer s H E hr => ⟨_,
    (pss_cons (ps_set (i := 1) sc__law_half.nd rfl (Or.inr rfl) (pe_lc (own := [("word", 2)]) (g := gName 2) (by rfl) sc__law_half.nd (kPiT (K := K) rfl (pv 0)) (blkOk_by (own := [("word", 2)]) (N := ["basis", "odd", "word"]) (sc := defScope s__law_half) (by decide +kernel)) (fun _ _ _ _ _ => pg_name (i := 2) sc__law_half.nd rfl (Or.inl rfl)) (fun _ _ _ _ _ => (pts_one (pt_cmpR op_eq (pe_use h__law_heavy (hr.mono (by decide)) (pa_cons (pv 2) pa_nil)) pe_int (nomark _)))) (fun _ _ _ _ _ => (pv 2))))
      (pss_one (ps_ret (pe_use h__law_basis (hr.mono (by decide)) (pa_cons (pe_op op_cat (pe_lc (own := [("word", 2)]) (g := gName 2) (by rfl) sc__law_half.nd (kPiT (K := K) rfl (pv 0)) (blkOk_by (own := [("word", 2)]) (N := ["basis", "odd", "word"]) (sc := defScope s__law_half) (by decide +kernel)) (fun _ _ _ _ _ => pg_name (i := 2) sc__law_half.nd rfl (Or.inl rfl)) (fun _ _ _ _ _ => (pts_one (pt_cmpR (kNotIn (K := K) rfl) (pv 2) (pv 1) (by rfl)))) (fun _ _ _ _ _ => (pv 2))) (pe_lc (own := [("word", 2)]) (g := gName 2) (by rfl) sc__law_half.nd (kPiL (K := K) rfl (pe_slice (kSlL (K := K) rfl) (pv 1) (po_some pe_int) po_none)) (blkOk_by (own := [("word", 2)]) (N := ["basis", "odd", "word"]) (sc := defScope s__law_half) (by decide +kernel)) (fun _ _ _ _ _ => pg_name (i := 2) sc__law_half.nd rfl (Or.inl rfl)) (fun _ _ _ _ _ => pts_nil) (fun _ _ _ _ _ => (pe_op op_xor (pe_ix (kIxL (K := K) rfl) (pv 1) pe_int (fun _ _ => rfl)) (pv 2))))) pa_nil))))), fun B0 hl => ?_⟩
  have hl : B0.length ≤ 1000 := hl
  have s16 : sizeLine = 16777216 := sizeLine_eq
  have hkl := Fo.krn_len Fo.hv B0
  have hol : (B0.filter Fo.hv).length ≤ 1000 := Nat.le_trans (List.length_filter_le _ _) hl
  have hel : (B0.filter fun b => !Fo.hv b).length ≤ 1000 := Nat.le_trans (List.length_filter_le _ _) hl
  show WS K _ [.im (rT K (NL B0)), .no, .no] _ _ _ _
  refine ws_seq (ws_asg (we_lcM (α := Nat) (wi_tup (we_var rfl ⟨_, rfl, rfl, rfl, B0, rN, Fo.hv, rN, rfl, by omega, fun x hx => ?_, ?_⟩))))
  · refine wt_test (we_op (we_call (wc_im (we_var rfl ⟨_, rfl, wc_nil ⟨x, trivial, .cons cv_refl .nil, we_int ⟨_, opr_eqI, _, rfl, ?_⟩⟩⟩))))
    exact ⟨hN_int x, rfl, fun _ => we_var rfl ⟨rfl, rfl⟩⟩
  show WS K _ [.im (rT K (NL B0)), .own (NL (B0.filter Fo.hv)), .no] _ _ _ _
  refine ws_ret (we_call (wc_own (we_opc (wc_own (we_lcM (α := Nat) (wi_tup (we_var rfl ⟨_, rfl, rfl, rfl, B0, rN, fun b => !Fo.hv b, rN, rfl, by omega, fun x hx => ?_, _, rfl, ?_⟩)))))))
  · refine wt_test (we_opc (wc_im (we_var rfl ⟨_, rfl, wc_var rfl (wc_nil ⟨rfl, _, _, _, rfl, opc_in.cv cv_refl cv_ls, _, rfl, ?_, rfl, fun _ => we_var rfl ⟨rfl, rfl⟩⟩)⟩)))
    show (!decide (x ∈ B0.filter Fo.hv)) = !Fo.hv x
    rw [show decide (x ∈ B0.filter Fo.hv) = Fo.hv x by
      rw [Bool.eq_iff_iff, decide_eq_true_eq, List.mem_filter]
      exact ⟨fun h => h.2, fun h => ⟨hx, h⟩⟩]
  refine wc_own (we_lcM (α := Nat) (wi_lst (we_slTailV rfl ⟨_, rfl, rfl, rfl, (B0.filter Fo.hv).drop 1, rN, fun _ => true, fun b => rN ((B0.filter Fo.hv).headD 0 ^^^ b), ?_, ?_, fun x hx => ?_, _, rfl, ?_⟩)))
  · unfold NL
    rw [List.map_drop]
  · rw [List.length_drop]
    omega
  · refine wt_yes ⟨rfl, rfl, fun _ => we_op (we_opc (wc_var rfl (wc_im (we_int ⟨_, rfl, wc_nil ⟨rfl, _, _, _, rfl, (opc_ixL (m := 0) rfl (R := rN ((B0.filter Fo.hv).headD 0)) ?_).cv cv_lb cv_refl, we_var rfl ⟨_, opr_xor, rfl, rfl⟩⟩⟩))))⟩
    rw [List.getElem?_map, Cu.drop_head hx]
    rfl
  have e : (NL (B0.filter fun b => !Fo.hv b)) ++ (((B0.filter Fo.hv).drop 1).filter fun _ => true).map (fun b => rN ((B0.filter Fo.hv).headD 0 ^^^ b)) = NL (Fo.krn Fo.hv B0) := by
    unfold NL Fo.krn
    rw [List.filter_true', List.map_append, List.map_map]
    rfl
  refine wc_nil ⟨_, _, _, rfl, opc_cat ?_, _, rfl, wc_nil ⟨Fo.krn Fo.hv B0, by show (Fo.krn Fo.hv B0).length ≤ 100000; omega, .cons ?_ .nil, rfl⟩⟩
  · rw [List.length_map, List.length_map, List.filter_true', List.length_drop]
    omega
  · show Cv K (Ck.lst ((NL (B0.filter fun b => !Fo.hv b)) ++ (((B0.filter Fo.hv).drop 1).filter fun _ => true).map (fun b => rN ((B0.filter Fo.hv).headD 0 ^^^ b)))) _
    rw [e]
    exact cv_ls
abbrev s__law_shadow : Stmt := topS 61
theorem sc__law_shadow : FnScope ["length", "basis", "found", "one"] ["length", "basis"] (defScope s__law_shadow) := ⟨rfl, rfl, rfl, by decide +kernel, rfl, by decide +kernel, by decide +kernel⟩
theorem sh_bits : ∀ (L : List Nat) (s i : Nat), (L.foldl (fun s r => s ||| hN r * 2 ^ hd r) s).testBit i = (s.testBit i || L.any fun r => Fo.hv r && decide (hd r = i))
  | [], s, i => by simp
  | r :: L, s, i => by
    rw [List.foldl_cons, sh_bits L, List.any_cons, Nat.testBit_or, Bool.or_assoc]
    congr 2
    have e : hN r = 0 ∨ hN r = 1 := by
      unfold hN
      omega
    have q := hN_hv r
    rcases e with e | e
    · rw [← q, e, Nat.zero_mul, Nat.zero_testBit]
      rfl
    · rw [← q, e, Nat.one_mul, Nat.testBit_two_pow]
      rfl
theorem heads_nd {B : List Nat} (h : RR B) : (Fo.shL B).Nodup := by
  unfold Fo.shL
  refine List.pairwise_map.mpr ((h.nodup.filter _).imp_of_mem fun {a b} ha hb n e => ?_)
  have ha' := (List.mem_filter.mp ha).1
  have hb' := (List.mem_filter.mp hb).1
  have q := h.at ha' hb' n
  rw [e] at q
  rw [bit_hd (h.nz b hb')] at q
  cases q
theorem sh_fold {B : List Nat} (h : RR B) : B.foldl (fun s r => s ||| hN r * 2 ^ hd r) 0 = Fo.shW B := by
  refine Nat.eq_of_testBit_eq fun i => ?_
  rw [sh_bits, Nat.zero_testBit, Bool.false_or]
  unfold Fo.shW
  rw [wordAt_bit _ (heads_nd h) i, Bool.eq_iff_iff, List.any_eq_true, decide_eq_true_eq]
  unfold Fo.shL
  constructor
  · rintro ⟨r, hr, z⟩
    rw [Bool.and_eq_true, decide_eq_true_eq] at z
    exact List.mem_map.mpr ⟨r, List.mem_filter.mpr ⟨hr, z.1⟩, z.2⟩
  · intro z
    obtain ⟨r, hr, e⟩ := List.mem_map.mp z
    obtain ⟨hr, hv⟩ := List.mem_filter.mp hr
    exact ⟨r, hr, by rw [Bool.and_eq_true, decide_eq_true_eq]; exact ⟨hv, e⟩⟩
abbrev Sp__law_shadow (K : PySem.W.Frag) : Sp := spP K (fun (p : Nat × List Nat) => [.im (rN p.1), .im (rT K (NL p.2))]) (fun p => Nb.Own p.1 p.2) (fun p => .im (rN (Fo.shW p.2)))
theorem ok__law_shadow (d : DefAt K mg "_law_shadow" s__law_shadow ["length", "basis"] f fd) (h__law_heavy : Has P w K mg base "_law_heavy" ["word"] 2 (Sp__law_heavy K)) : Has P w K mg base "_law_shadow" ["length", "basis"] 3 (Sp__law_shadow K) := by
  refine mk_has d sc__law_shadow (fun _ => rfl) (fun _ _ => rfl) fun cdv A outer s H E hr => ⟨_,
    (pss_cons (ps_set (i := 2) sc__law_shadow.nd rfl (Or.inl rfl) pe_int)
      (pss_cons (ps_for PassesOwn.never rfl (kPiT (K := K) rfl (pv 1)) (pg_name (i := 3) sc__law_shadow.nd rfl (Or.inl rfl)) (pss_one (ps_set (i := 2) sc__law_shadow.nd rfl (Or.inl rfl) (pe_op op_or (pv 2) (pe_op op_shlW (pe_use h__law_heavy (hr.mono (by decide)) (pa_cons (pv 3) pa_nil)) (pe_op op_sub (pe_bits (pv 3)) pe_int))))))
      (pss_one (ps_ret (pv 2))))), fun ⟨n, B0⟩ h => ?_⟩
  have h : Nb.Own n B0 := h
  have n24 := h.ok.n24
  refine ws_seq (ws_asg (we_int ?_))
  show WS K _ [.im (rN n), .im (rT K (NL B0)), .im (rN 0), .no] _ _ _ _
  refine ws_seq (ws_forF B0 rN (fun s k => [.im (rN n), .im (rT K (NL B0)), .im (rN s), k]) (fun s r => s ||| hN r * 2 ^ hd r) 0 (wi_tup (we_var rfl ⟨_, rfl, rfl, ⟨_, rfl⟩, fun i x s k hx _ => ?_, fun k => ?_⟩)))
  · have hxB := List.mem_of_getElem? hx
    have h0 := h.ok.bas.rr.nz x hxB
    have hlt := h.ok.bas.lt x hxB
    have hh := hd_le (Nat.lt_of_lt_of_le hlt (Nat.pow_le_pow_right (by decide) (by omega))) h0
    have eh : ((blen x : Nat) : Int) - 1 = ((hd x : Nat) : Int) := by
      rw [blen_hd h0]
      omega
    have hN2 : hN x < 2 ^ 1 := by
      unfold hN
      omega
    refine ws_asg (we_op (we_var rfl (we_op (we_call (wc_im (we_var rfl ⟨_, rfl, wc_nil ⟨x, trivial, .cons cv_refl .nil, we_op (we_bits (we_var rfl ⟨x, rfl, we_int ⟨_, opr_sub, ?_⟩⟩))⟩⟩))))))
    rw [eh]
    exact ⟨_, opr_shlN hN2 (by omega), _, opr_or, _, rfl⟩
  · refine ws_ret (we_var rfl ?_)
    show Sl.im _ = Sl.im (rN (Fo.shW B0))
    rw [← sh_fold h.ok.bas.rr]
abbrev s__law_quarters : Stmt := topS 62
theorem sc__law_quarters : FnScope ["length", "basis", "inner", "heavy", "first", "other", "word"] ["length", "basis"] (defScope s__law_quarters) := ⟨rfl, rfl, rfl, by decide +kernel, rfl, by decide +kernel, by decide +kernel⟩
abbrev Sp__law_quarters (K : PySem.W.Frag) : Sp := spP K (fun (p : Nat × List Nat) => [.im (rN p.1), .im (rT K (NL p.2))]) (fun p => Nb.Own p.1 p.2 ∧ Fo.fours p.2 = false) (fun p => .im (rTN K (NL (Fo.qrt p.2))))
theorem ok__law_quarters (d : DefAt K mg "_law_quarters" s__law_quarters ["length", "basis"] f fd) (B : Bt mg) (h__law_half : Has P w K mg base "_law_half" ["basis"] 3 (Sp__law_half K)) (h__law_heavy : Has P w K mg base "_law_heavy" ["word"] 2 (Sp__law_heavy K)) (h__law_left : Has P w K mg base "_law_left" ["basis", "word"] 1 (Sp__law_left K)) (h__law_shadow : Has P w K mg base "_law_shadow" ["length", "basis"] 3 (Sp__law_shadow K)) : Has P w K mg base "_law_quarters" ["length", "basis"] 4 (Sp__law_quarters K) := by
  refine mk_has d sc__law_quarters (fun _ => rfl) (fun _ _ => rfl) fun cdv A outer s H E hr => ⟨_,
    (pss_cons (ps_set (i := 2) sc__law_quarters.nd rfl (Or.inl rfl) (pe_use h__law_half (hr.mono (by decide)) (pa_cons (pv 1) pa_nil)))
      (pss_cons (ps_set (i := 3) sc__law_quarters.nd rfl (Or.inl rfl) (pe_ix (kIxL (K := K) rfl) (pe_lc (own := [("word", 6)]) (g := gName 6) (by rfl) sc__law_quarters.nd (kPiT (K := K) rfl (pv 1)) (blkOk_by (own := [("word", 6)]) (N := ["length", "basis", "inner", "heavy", "first", "other", "word"]) (sc := defScope s__law_quarters) (by decide +kernel)) (fun _ _ _ _ _ => pg_name (i := 6) sc__law_quarters.nd rfl (Or.inl rfl)) (fun _ _ _ _ _ => (pts_one (pt_cmpR op_eq (pe_use h__law_heavy (hr.mono (by decide)) (pa_cons (pv 6) pa_nil)) pe_int (nomark _)))) (fun _ _ _ _ _ => (pv 6))) pe_int (fun _ _ => rfl)))
      (pss_cons (ps_set (i := 4) sc__law_quarters.nd rfl (Or.inl rfl) (pe_use h__law_left (hr.mono (by decide)) (pa_cons (pv 2) (pa_cons (pe_use h__law_shadow (hr.mono (by decide)) (pa_cons (pv 0) (pa_cons (pv 1) pa_nil))) pa_nil))))
      (pss_cons (ps_set (i := 5) sc__law_quarters.nd rfl (Or.inl rfl) (pe_use h__law_left (hr.mono (by decide)) (pa_cons (pv 2) (pa_cons (pe_op op_xor (pv 4) (pv 3)) pa_nil))))
      (pss_one (ps_ret (kTupN (K := K) rfl (pa_cons pe_int (pa_cons (pe_callB (call_min2 (by rfl)) (by rfl) B.b_min (by decide +kernel) (pa_cons (pv 4) (pa_cons (pv 5) pa_nil))) (pa_cons (pe_use h__law_left (hr.mono (by decide)) (pa_cons (pv 2) (pa_cons (pv 3) pa_nil))) (pa_cons (pe_callB (call_max2 (by rfl)) (by rfl) B.b_max (by decide +kernel) (pa_cons (pv 4) (pa_cons (pv 5) pa_nil))) pa_nil))))))))))), fun ⟨n, B0⟩ ⟨h, nf⟩ => ?_⟩
  have h : Nb.Own n B0 := h
  have nf : Fo.fours B0 = false := nf
  have hbl := h.ok.len
  have n24 := h.ok.n24
  have s16 : sizeLine = 16777216 := sizeLine_eq
  have hrr := Fo.half_rr h
  refine ws_seq (ws_asg (we_call (wc_im (we_var rfl ⟨_, rfl, wc_nil ⟨B0, by show B0.length ≤ 1000; omega, .cons cv_refl .nil, ?_⟩⟩))))
  show WS K _ [.im (rN n), .im (rT K (NL B0)), .im (rT K (NL (Fo.halfB B0))), .no, .no, .no, .no] _ _ _ _
  refine ws_seq (ws_asg (we_opc (wc_own (we_lcM (α := Nat) (wi_tup (we_var rfl ⟨_, rfl, rfl, rfl, B0, rN, Fo.hv, rN, rfl, by omega, fun x hx => ?_, _, rfl, wc_im (we_int ⟨_, rfl, wc_nil ⟨_, _, _, rfl, (opc_ixL (m := 0) rfl (R := rN (Fo.oh B0)) ?_).cv cv_lb cv_refl, ?_⟩⟩)⟩))))))
  · refine wt_test (we_op (we_call (wc_im (we_var rfl ⟨_, rfl, wc_nil ⟨x, trivial, .cons cv_refl .nil, we_int ⟨_, opr_eqI, _, rfl, ?_⟩⟩⟩))))
    exact ⟨hN_int x, rfl, fun _ => we_var rfl ⟨rfl, rfl⟩⟩
  · rw [List.getElem?_map]
    have e : (B0.filter Fo.hv)[0]? = some (Fo.oh B0) := by
      have hm : Fo.oh B0 ∈ B0.filter Fo.hv := List.mem_filter.mpr (Fo.oh_mem nf)
      unfold Fo.oh at hm ⊢
      cases q : B0.filter Fo.hv with
      | nil =>
        rw [q] at hm
        cases hm
      | cons a l => rfl
    rw [e]
    rfl
  show WS K _ [.im (rN n), .im (rT K (NL B0)), .im (rT K (NL (Fo.halfB B0))), .im (rN (Fo.oh B0)), .no, .no, .no] _ _ _ _
  refine ws_seq (ws_asg (we_call (wc_im (we_var rfl ⟨_, rfl, wc_im (we_call (wc_im (we_var rfl ⟨_, rfl, wc_im (we_var rfl ⟨_, rfl, wc_nil ⟨(n, B0), h, .cons cv_refl (.cons cv_refl .nil), _, rfl, wc_nil ⟨(Fo.halfB B0, Fo.shW B0), hrr, .cons cv_ts (.cons cv_refl .nil), ?_⟩⟩⟩)⟩)))⟩))))
  show WS K _ [.im (rN n), .im (rT K (NL B0)), .im (rT K (NL (Fo.halfB B0))), .im (rN (Fo.oh B0)), .im (rN (rem (Fo.halfB B0) (Fo.shW B0))), .no, .no] _ _ _ _
  obtain ⟨q1, q2⟩ := Fo.qrt_min h nf
  generalize rem (Fo.halfB B0) (Fo.shW B0) = a at q1 q2 ⊢
  refine ws_seq (ws_asg (we_call (wc_im (we_var rfl ⟨_, rfl, wc_im (we_op (we_var rfl (we_var rfl ⟨_, opr_xor, _, rfl, wc_nil ⟨(Fo.halfB B0, a ^^^ Fo.oh B0), hrr, .cons cv_ts (.cons cv_refl .nil), ?_⟩⟩)))⟩))))
  show WS K _ [.im (rN n), .im (rT K (NL B0)), .im (rT K (NL (Fo.halfB B0))), .im (rN (Fo.oh B0)), .im (rN a), .im (rN (rem (Fo.halfB B0) (a ^^^ Fo.oh B0))), .no] _ _ _ _
  generalize rem (Fo.halfB B0) (a ^^^ Fo.oh B0) = b at q1 q2 ⊢
  have m1 : (if b < a then b else a) = Fo.shR B0 := by
    rw [← q1]
    show _ = (if a ≤ b then a else b)
    split <;> split <;> omega
  have m2 : (if (b : Int) > (a : Int) then (b : Int) else (a : Int)) = ((rem (Fo.halfB B0) (Fo.shR B0 ^^^ Fo.oh B0) : Nat) : Int) := by
    rw [← q2]
    show _ = (((if a ≤ b then b else a) : Nat) : Int)
    split <;> split <;> omega
  refine ws_ret (we_tupN (wa_cons (we_int (wa_cons (we_cb (wc_im (we_var rfl ⟨_, rfl, wc_im (we_var rfl ⟨_, rfl, wc_nil ⟨_, cpr_min2N, ?_⟩⟩)⟩)))))))
  rw [m1]
  refine wa_cons (we_call (wc_im (we_var rfl ⟨_, rfl, wc_im (we_var rfl ⟨_, rfl, wc_nil ⟨(Fo.halfB B0, Fo.oh B0), hrr, .cons cv_ts (.cons cv_refl .nil), ?_⟩⟩)⟩)))
  refine wa_cons (we_cb (wc_im (we_var rfl ⟨_, rfl, wc_im (we_var rfl ⟨_, rfl, wc_nil ⟨_, cpr_max2, ?_⟩⟩)⟩)))
  rw [m2]
  exact wa_nil ⟨NL (Fo.qrt B0), rfl, by rw [s16]; show 4 ≤ _; decide, rfl⟩
abbrev s__law_one_of : Stmt := topS 47
theorem sc__law_one_of : FnScope ["pack", "items"] ["pack", "items"] (defScope s__law_one_of) := ⟨rfl, rfl, rfl, by decide +kernel, rfl, by decide +kernel, by decide +kernel⟩
abbrev Sp__law_one_of (K : PySem.W.Frag) : Sp := spQ K (fun (p : List Rp × Nat) => p.2 + 1) (fun p => p.2) (fun p => [.seq p.1]) (fun p => 1 ≤ p.1.length ∧ p.1.length ≤ 100000) (fun p (R : Rp) => R ∈ p.1) (fun _ R => .im R)
theorem ok__law_one_of (d : DefAt K mg "_law_one_of" s__law_one_of ["pack", "items"] f fd) (B : Bt mg) (h__law_dealt : Has P w K mg base "_law_dealt" ["pack", "total"] 1 (Sp__law_dealt K)) : Has P w K mg base "_law_one_of" ["pack", "items"] 2 (Sp__law_one_of K) := by
  refine mk_hasQ d sc__law_one_of (fun _ => rfl) fun cdv A outer s H E hr => ⟨_,
    (pss_one (ps_ret (pe_ix (kIx (K := K) rfl) (pv 1) (pe_use h__law_dealt (hr.mono (by decide)) (pa_cons (pv 0) (pa_cons (pe_callB (kLen (K := K) rfl) (by rfl) B.b_len PySem.boot_len (pa_cons (pv 1) pa_nil)) pa_nil))) (fun _ _ => rfl)))), fun ⟨rs, m⟩ p ⟨h1, h2⟩ => ?_⟩
  have h1 : 1 ≤ rs.length := h1
  have h2 : rs.length ≤ 100000 := h2
  refine ws_ret (we_opc (wc_seq rfl (wc_im (we_callQ rfl (wq_im (we_cb (wc_seq rfl (wc_nil ⟨rfl, _, cpr_len, _, rfl, rfl, wq_nil ⟨(rs.length, m), _, rfl, fun _ h => h, ⟨h1, Nat.lt_of_le_of_lt h2 (Nat.lt_of_lt_of_le (by decide : 100000 < 2 ^ 17) (Nat.pow_le_pow_right (n := 2) (by decide) (by decide)))⟩, .cons cv_refl .nil, fun r hr _ => ?_⟩⟩))))))))
  have hr : r < rs.length := hr
  exact ⟨_, rfl, wc_nil ⟨rfl, _, _, _, rfl, opc_ixS rfl (List.getElem?_eq_getElem hr), _, _, List.getElem_mem hr, rfl, rfl, rfl, fun _ h => h⟩⟩
end
end K58
set_option Elab.async false
set_option linter.all false
set_option maxRecDepth 100000
set_option maxHeartbeats 2000000
namespace K58
open PySem L2 Fx Wd Gf Lb Px PyProof.Rows RT
local macro_rules | `(tactic| walk_at "fx") => `(tactic| first
  | with_reducible refine ws_seq ?_
  | with_reducible refine ws_asg ?_
  | with_reducible refine ws_ret ?_
  | with_reducible refine ws_drop ?_
  | with_reducible refine ws_if ?_
  | with_reducible refine ws_next ?_
  | with_reducible refine wt_not ?_
  | with_reducible refine wt_B ?_
  | with_reducible refine wt_test ?_
  | with_reducible refine wt_and ?_
  | with_reducible refine wt_or ?_
  | with_reducible refine wt_yes ?_
  | refine wt_tru ?_
  | refine we_var rfl ?_
  | with_reducible refine we_int ?_
  | with_reducible refine we_bl ?_
  | with_reducible refine we_str ?_
  | with_reducible refine we_non ?_
  | with_reducible refine we_ty ?_
  | with_reducible refine we_if ?_
  | with_reducible refine we_andV ?_
  | with_reducible refine we_orV ?_
  | with_reducible refine we_notV ?_
  | with_reducible refine we_un ?_
  | with_reducible refine we_tup ?_
  | with_reducible refine we_lst ?_
  | with_reducible refine we_bits ?_
  | with_reducible refine we_chain ?_
  | with_reducible refine we_call ?_
  | with_reducible refine we_cb ?_
  | refine we_ixBox (m := 0) rfl rfl rfl ?_
  | refine we_ixBox (m := 1) rfl rfl rfl ?_
  | refine we_ixBox (m := 2) rfl rfl rfl ?_
  | with_reducible refine we_opc (r := rCat) ?_
  | with_reducible refine we_opc (r := rIn _ _) ?_
  | with_reducible refine we_opc (r := rIxL _) ?_
  | with_reducible refine we_opc (r := rIxT _) ?_
  | with_reducible refine we_opc (r := rIx _) ?_
  | with_reducible refine we_op ?_
  | with_reducible refine wa_nil ?_
  | with_reducible refine wa_cons ?_
  | refine wc_nil ?_
  | refine wc_im (we_var rfl ⟨_, rfl, ?_⟩)
  | refine wc_var rfl ?_
  | refine wc_seq rfl ?_
  | refine wc_bor rfl ?_
  | with_reducible refine wc_im ?_
  | refine wq_nil ?_
  | refine wq_im (we_var rfl ⟨_, rfl, rfl, ?_⟩)
  | refine wq_var rfl ?_
  | with_reducible refine wq_im ?_
  | with_reducible refine ⟨_, opr_add, ?_⟩
  | with_reducible refine ⟨_, opr_sub, ?_⟩
  | with_reducible refine ⟨_, opr_xor, ?_⟩
  | with_reducible refine ⟨_, opr_and1, ?_⟩
  | with_reducible refine ⟨_, opr_and, ?_⟩
  | with_reducible refine ⟨_, opr_shr, ?_⟩
  | with_reducible refine ⟨_, opr_lt, ?_⟩
  | with_reducible refine ⟨_, opr_le, ?_⟩
  | with_reducible refine ⟨_, opr_gt, ?_⟩
  | with_reducible refine ⟨_, opr_ge, ?_⟩
  | with_reducible refine ⟨_, opr_eqI, ?_⟩
  | with_reducible refine ⟨_, opr_neI, ?_⟩
  | with_reducible refine ⟨_, opr_mod (by first | assumption | omega), ?_⟩
  | with_reducible refine ⟨_, cpr_int, ?_⟩
  | with_reducible refine ⟨_, cpr_intB, ?_⟩
  | with_reducible refine ⟨_, cpr_abs, ?_⟩
  | with_reducible refine ⟨_, cpr_max2, ?_⟩
  | with_reducible refine ⟨_, cpr_min2N, ?_⟩
  | with_reducible refine ⟨_, cpr_len, ?_⟩
  | with_reducible refine ⟨_, cpr_len.cv (.cons cv_ls .nil), ?_⟩
  | with_reducible refine ⟨_, cpr_len.cv (.cons cv_ts .nil), ?_⟩
  | with_reducible refine ⟨_, cpr_len.cv (.cons cv_bs .nil), ?_⟩
  | with_reducible refine ⟨_, cpr_tup.cv (.cons cv_lb .nil), ?_⟩
  | with_reducible refine ⟨_, cpr_sorted.cv (.cons cv_lb .nil), ?_⟩
  | with_reducible refine ⟨_, opr_mul (by assumption), ?_⟩
  | with_reducible refine ⟨_, rfl, ?_⟩
  | refine ⟨(show _[_]? = some _ from rfl), ?_⟩
  | fail)

section
variable {P : Program} {w : World} {K : PySem.W.Frag} {mg : Str → Option Value} {base : Heap} {f C : Addr} {fd : FuncData}
abbrev s__law_right : Stmt := topS 63
theorem sc__law_right : FnScope ["pack", "length", "basis", "code", "due", "inner", "table", "half", "turn", "one", "other", "here", "there", "word", "lies", "at"] ["pack"] (defScope s__law_right) := ⟨rfl, rfl, rfl, by decide +kernel, rfl, by decide +kernel, by decide +kernel⟩
theorem ev58 : ∀ r, r < 12 → 2 + 2 * r ∈ Cu.evens := by decide
theorem pairs_all : (Cu.evens.all fun n => !Fo.fours (Sn.basC (Fo.pairsL n))) = true := by decide +kernel
theorem pairs_nf {n : Nat} (h : n ∈ Cu.evens) : Fo.fours (basisOf (Fo.pairsL n)) = false := by
  have := List.all_eq_true.mp pairs_all n h
  simp only [Sn.basC_eq] at this ⊢
  simpa using this
theorem x4 (a b u v : Nat) : (a ^^^ u) ^^^ (b ^^^ v) = (a ^^^ b) ^^^ (u ^^^ v) := Nat.eq_of_testBit_eq fun i => by
  simp only [Nat.testBit_xor]
  cases a.testBit i <;> cases b.testBit i <;> cases u.testBit i <;> cases v.testBit i <;> rfl
theorem sh_int (n : Int) : SeqAt.shaped (.int n) = true := sh_A (x := .I n) rfl
theorem sh_ON : ∀ o : Option Nat, SeqAt.shaped (dON o) = true
  | some n => sh_int n
  | none => sh_A (x := .U) rfl
theorem dot_nat (a b : Nat) : pop (a &&& b) % 2 = if Du.dot a b = true then 1 else 0 := by
  unfold Du.dot
  by_cases h : pop (a &&& b) % 2 = 1
  · rw [if_pos (decide_eq_true h), h]
  · rw [if_neg (by simpa using h)]
    omega
theorem c4_lt {n : Nat} {B : List Nat} (h : Nb.Own n B) (i : Nat) : Fo.c4 (Fo.shR B) (Fo.r2 B) i < 2 ^ n := by
  have p := Nat.two_pow_pos n
  have a := (Fo.shR_shd h).1
  have b : Fo.r2 B < 2 ^ n := rem_lt (Fo.half_ok h).bas.lt (by
    show Fo.oh B < 2 ^ n
    by_cases q : Fo.fours B = false
    · exact h.lt (Fo.oh_sp q)
    · have q : Fo.fours B = true := by simpa using q
      have e : B.filter Fo.hv = [] := List.filter_eq_nil_iff.mpr fun b hb z => by
        have := List.all_eq_true.mp q b hb
        rw [z] at this
        cases this
      unfold Fo.oh
      rw [e]
      exact p)
  unfold Fo.c4
  exact Nat.xor_lt_two_pow (by split <;> assumption) (by split <;> assumption)
theorem hf_sp {B : List Nat} {x : Nat} (hx : x ∈ Fo.halfB B ++ [0]) : Gf.Sp (Fo.halfB B) x := by
  rcases List.mem_append.mp hx with z | z
  · exact .mem z
  · rw [List.mem_singleton.mp z]
    exact .zero
abbrev Sp__law_right (K : PySem.W.Frag) (C : Addr) : Sp := spQ K (fun (m : Nat) => m + 120) (fun m => m) (fun _ => []) (fun _ => True) (fun _ (_ : Unit) => True) (fun _ _ => .im (rB true))
theorem ok__law_right (d : DefAt K mg "_law_right" s__law_right ["pack"] f fd) (B : Bt mg) (T : Txt K mg C) (h__law_dealt : Has P w K mg base "_law_dealt" ["pack", "total"] 1 (Sp__law_dealt K)) (h__law_own : Has P w K mg base "_law_own" ["pack", "length"] 5 (Sp__law_own K)) (h__law_is_fours : Has P w K mg base "_law_is_fours" ["basis"] 3 (Sp__law_is_fours K)) (h__law_basis : Has P w K mg base "_law_basis" ["words"] 2 (Sp__law_basis K)) (h_Code___init__ : MakeHas P w K mg base "Code" C 6 (Sp_Code___init__ K C)) (h__law_quarters : Has P w K mg base "_law_quarters" ["length", "basis"] 4 (Sp__law_quarters K)) (h__law_half : Has P w K mg base "_law_half" ["basis"] 3 (Sp__law_half K)) (h_quarters : Has P w K mg base "quarters" ["code"] 7 (Sp_quarters K C)) (h_quarter_products : Has P w K mg base "quarter_products" ["length"] 6 (Sp_quarter_products K)) (h__law_one_of : Has P w K mg base "_law_one_of" ["pack", "items"] 2 (Sp__law_one_of K)) (h_quarter_of : Has P w K mg base "quarter_of" ["code", "word"] 7 (Sp_quarter_of K C)) (h__law_product : Has P w K mg base "_law_product" ["one", "other"] 2 (Sp__law_product K)) (h__law_left : Has P w K mg base "_law_left" ["basis", "word"] 1 (Sp__law_left K)) : Has P w K mg base "_law_right" ["pack"] 8 (Sp__law_right K C) := by
  refine mk_hasQ d sc__law_right (fun _ => rfl) fun cdv A outer s H E hr => ⟨_,
    (pss_cons (ps_set (i := 1) sc__law_right.nd rfl (Or.inl rfl) (pe_op op_add pe_int (pe_op op_mulX pe_int (pe_use h__law_dealt (hr.mono (by decide)) (pa_cons (pv 0) (pa_cons pe_int pa_nil))))))
      (pss_cons (ps_set (i := 2) sc__law_right.nd rfl (Or.inl rfl) (pe_use h__law_own (hr.mono (by decide)) (pa_cons (pv 0) (pa_cons (pv 1) pa_nil))))
      (pss_cons (ps_if (pt_val (pe_use h__law_is_fours (hr.mono (by decide)) (pa_cons (pv 2) pa_nil))) (pss_one (ps_set (i := 2) sc__law_right.nd rfl (Or.inl rfl) (pe_use h__law_basis (hr.mono (by decide)) (pa_cons (pe_lc (own := [("at", 15)]) (g := gName 15) (by rfl) sc__law_right.nd (pi_range3 (by rfl) B.b_range (pa_cons pe_int (pa_cons (pv 1) (pa_cons pe_int pa_nil)))) (blkOk_by (own := [("at", 15)]) (N := ["pack", "length", "basis", "code", "due", "inner", "table", "half", "turn", "one", "other", "here", "there", "word", "lies", "at"]) (sc := defScope s__law_right) (by decide +kernel)) (fun _ _ _ _ _ => pg_name (i := 15) sc__law_right.nd rfl (Or.inl rfl)) (fun _ _ _ _ _ => pts_nil) (fun _ _ _ _ _ => (pe_op op_shlW pe_int (pv 15)))) pa_nil)))) pss_nil)
      (pss_cons (ps_par3 (i := 3) (j := 4) (l := 5) (by rfl) sc__law_right.nd rfl rfl rfl (by decide) (by decide) (by decide) rfl rfl rfl (pa_cons (pe_new h_Code___init__ (hr.mono (by decide)) (pa_cons (pv 1) (pa_cons (pv 2) pa_nil))) (pa_cons (pe_use h__law_quarters (hr.mono (by decide)) (pa_cons (pv 1) (pa_cons (pv 2) pa_nil))) (pa_cons (pe_use h__law_half (hr.mono (by decide)) (pa_cons (pv 2) pa_nil)) pa_nil))) (by rfl))
      (pss_cons (ps_if (pt_cmpR (kNeD (K := K) rfl hr.units) (pe_use h_quarters (hr.mono (by decide)) (pa_cons (pv 3) pa_nil)) (pv 4) (nomark _)) (pss_one (ps_ret pe_bl)) pss_nil)
      (pss_cons (ps_par (i := 6) (j := 7) (by rfl) sc__law_right.nd rfl rfl (by decide) rfl rfl (pa_cons (pe_use h_quarter_products (hr.mono (by decide)) (pa_cons (pv 1) pa_nil)) (pa_cons (pe_op op_cat (pe_callTy (kLst (K := K) rfl) (by rfl) B.b_list (by decide +kernel) (pa_cons (pv 5) pa_nil)) (pe_lst (pa_cons pe_int pa_nil))) pa_nil)) (by rfl))
      (pss_cons (ps_for PassesOwn.never rfl (pi_range1 (by rfl) B.b_range (pa_cons pe_int pa_nil)) (pg_name (i := 8) sc__law_right.nd rfl (Or.inl rfl)) (pss_cons (ps_par (i := 9) (j := 10) (by rfl) sc__law_right.nd rfl rfl (by decide) rfl rfl (pa_cons (pe_use h__law_dealt (hr.mono (by decide)) (pa_cons (pv 0) (pa_cons pe_int pa_nil))) (pa_cons (pe_use h__law_dealt (hr.mono (by decide)) (pa_cons (pv 0) (pa_cons pe_int pa_nil))) pa_nil)) (by rfl))
      (pss_cons (ps_set (i := 11) sc__law_right.nd rfl (Or.inl rfl) (pe_op op_xor (pe_op op_xor (pe_ix (kIxT (K := K) rfl) (pv 4) (pv 9) (fun _ _ => rfl)) (pe_use h__law_one_of (hr.mono (by decide)) (pa_cons (pv 0) (pa_cons (pv 7) pa_nil)))) (pe_use h__law_one_of (hr.mono (by decide)) (pa_cons (pv 0) (pa_cons (pv 7) pa_nil)))))
      (pss_cons (ps_set (i := 12) sc__law_right.nd rfl (Or.inl rfl) (pe_op op_xor (pe_op op_xor (pe_ix (kIxT (K := K) rfl) (pv 4) (pv 10) (fun _ _ => rfl)) (pe_use h__law_one_of (hr.mono (by decide)) (pa_cons (pv 0) (pa_cons (pv 7) pa_nil)))) (pe_use h__law_one_of (hr.mono (by decide)) (pa_cons (pv 0) (pa_cons (pv 7) pa_nil)))))
      (pss_cons (ps_if (PW.pt (pw_or (pt_cmpR (kNeD (K := K) rfl hr.units) (pe_use h_quarter_of (hr.mono (by decide)) (pa_cons (pv 3) (pa_cons (pv 11) pa_nil))) (pv 9) (nomark _)) (pw_or1 (pt_cmpR (kNeD (K := K) rfl hr.units) (pe_use h_quarter_of (hr.mono (by decide)) (pa_cons (pv 3) (pa_cons (pe_op op_xor (pv 11) (pv 12)) pa_nil))) (pe_op op_xor (pv 9) (pv 10)) (nomark _))))) (pss_one (ps_ret pe_bl)) pss_nil)
      (pss_cons (ps_if (pt_cmpR op_ne (pe_ix (kIxT (K := K) rfl) (pe_ix (kIxT (K := K) rfl) (pv 6) (pv 9) (fun _ _ => rfl)) (pv 10) (fun _ _ => rfl)) (pe_use h__law_product (hr.mono (by decide)) (pa_cons (pv 11) (pa_cons (pv 12) pa_nil))) (nomark _)) (pss_one (ps_ret pe_bl)) pss_nil)
      (pss_cons (ps_set (i := 13) sc__law_right.nd rfl (Or.inl rfl) (pe_use h__law_dealt (hr.mono (by decide)) (pa_cons (pv 0) (pa_cons (pe_op op_shlW pe_int (pv 1)) pa_nil))))
      (pss_cons (ps_set (i := 14) sc__law_right.nd rfl (Or.inl rfl) (pe_ifExp (pt_cmpR (kIn (K := K) rfl) (pe_use h__law_left (hr.mono (by decide)) (pa_cons (pv 5) (pa_cons (pv 13) pa_nil))) (pv 4) (by rfl)) (pe_lst (pa_cons (kTix (K := K) rfl (pv 4) (pa_cons (pe_use h__law_left (hr.mono (by decide)) (pa_cons (pv 5) (pa_cons (pv 13) pa_nil))) pa_nil)) pa_nil)) (pe_lst (pa_cons pe_non pa_nil))))
      (pss_one (ps_if (pt_cmpR (kNeD (K := K) rfl hr.units) (pe_use h_quarter_of (hr.mono (by decide)) (pa_cons (pv 3) (pa_cons (pv 13) pa_nil))) (pe_ix (kIxL (K := K) rfl) (pv 14) pe_int (fun _ _ => rfl)) (nomark _)) (pss_one (ps_ret pe_bl)) pss_nil))))))))))
      (pss_one (ps_ret pe_bl))))))))), fun m p _ => ?_⟩
  have s16 : sizeLine = 16777216 := sizeLine_eq
  have zz : ∀ {k : Nat}, k ≤ 100 → k ≤ sizeLine := fun hk => by omega
  have lt6 : ∀ t, t < 2 ^ 6 → t < 2 ^ 1000 := fun t ht => lt1000 ht (by decide)
  show WS K _ [.box p (PailOk (m + 120)), .no, .no, .no, .no, .no, .no, .no, .no, .no, .no, .no, .no, .no, .no, .no] _ _ _ _
  refine ws_seq (ws_asg (we_op (we_int (we_op (we_int (we_callQ rfl (wq_im (we_int ⟨_, rfl, rfl, wq_nil ⟨(12, m + 119), _, rfl, fun _ h => h, ⟨by show 1 ≤ 12; decide, lt6 12 (by decide)⟩, .cons cv_refl .nil, fun r hr _ => ?_⟩⟩))))))))
  have hr : r < 12 := hr
  have hev := ev58 r hr
  refine ⟨_, opr_mul (mul_ok (m := 10) (n := 10) (by decide) (by decide) (by omega) (by omega) (by decide)), _, opr_add, ?_⟩
  have en : (2 : Int) + 2 * (r : Int) = ((2 + 2 * r : Nat) : Int) := by omega
  rw [en]
  generalize 2 + 2 * r = n at hev ⊢
  clear hr en
  obtain ⟨ev1, ev2, ev3⟩ := evs n hev
  refine ws_seq (ws_asg (we_callQ rfl (wq_im (we_var rfl ⟨_, rfl, rfl, wq_nil ⟨(n, m + 49), _, rfl, fun _ h => h, hev, .cons cv_refl .nil, fun B1 hB1 _ => ?_⟩⟩))))
  have hB1 : Nb.Own n B1 := hB1
  have hBl1 := hB1.ok.len
  show WS K _ [.box p (PailOk (m + 49)), .im (rN n), .im (rT K (NL B1)), .no, .no, .no, .no, .no, .no, .no, .no, .no, .no, .no, .no, .no] _ _ _ _
  refine ws_seq (ws_post (nx' := fun E' => ∃ B : List Nat, E' = [.box p (PailOk (m + 49)), .im (rN n), .im (rT K (NL B)), .no, .no, .no, .no, .no, .no, .no, .no, .no, .no, .no, .no, .no] ∧ Nb.Own n B ∧ Fo.fours B = false) (ws_if (wt_test (we_call (wc_im (we_var rfl ⟨_, rfl, wc_nil ⟨B1, by show B1.length ≤ 1000; omega, .cons cv_refl .nil, _, rfl, ?_⟩⟩))))) ?_)
  · show if Fo.fours B1 = true then _ else _
    cases nf : Fo.fours B1 with
    | true =>
      rw [if_pos rfl]
      have hpl := pairs_len n
      refine ws_asg (we_call (wc_own (we_lcM (α := Nat) (wi_rng3 (wa_cons (we_int (wa_cons (we_var rfl (wa_cons (we_int (wa_nil ⟨0, (n : Int), 2, n / 2, rfl, rg2 n ev3 ev1, rfl, rfl, List.range (n / 2), fun i => rN (2 * i), fun _ => true, fun i => rN (3 * 2 ^ (2 * i)), List.map_congr_left fun i _ => (by show Fx.rI _ = Fx.rI _; congr 1; omega), by rw [List.length_range]; omega, fun x hx => ?_, _, rfl, ?_⟩)))))))))))
      · have hx2 := List.mem_range.mp hx
        refine wt_yes ⟨rfl, rfl, fun _ => ?_⟩
        exact we_op (we_int (we_var rfl ⟨_, opr_shlN (a := 3) (b := 2 * x) (n := 2) (by decide) (by omega), rfl, rfl⟩))
      have e : ((List.range (n / 2)).filter fun _ => true).map (fun i => rN (3 * 2 ^ (2 * i))) = NL (Fo.pairsL n) := by
        unfold NL Fo.pairsL
        rw [List.filter_true', List.map_map]
        rfl
      rw [e]
      exact wc_nil ⟨Fo.pairsL n, by show (Fo.pairsL n).length ≤ 100000; omega, .cons cv_ls .nil, _, rfl, Fo.start_pairs hev, pairs_nf hev⟩
    | false =>
      rw [if_neg Bool.false_ne_true]
      exact ws_next ⟨B1, rfl, hB1, nf⟩
  clear hB1 hBl1
  rintro E' ⟨B0, rfl, hB, nf⟩
  have n24 := hB.ok.n24
  have htwo := hB.two
  have hBl := hB.ok.len
  have es : basisOf B0 = B0 := hB.ok.self
  have hhl : (Fo.halfB B0).length ≤ B0.length := by
    have := Fo.krn_len Fo.hv B0
    have := basisOf_len (Fo.krn Fo.hv B0)
    show (basisOf (Fo.krn Fo.hv B0)).length ≤ _
    omega
  have hrr := Fo.half_rr hB
  refine ws_seq (ws_par3 (wa_cons (we_new (wc_im (we_var rfl ⟨_, rfl, wc_im (we_var rfl ⟨_, rfl, wc_nil ⟨(n, B0), hB.ok.span, .cons cv_refl (.cons cv_refl .nil), ?_⟩⟩)⟩)))))
  refine wa_cons (we_call (wc_im (we_var rfl ⟨_, rfl, wc_im (we_var rfl ⟨_, rfl, wc_nil ⟨(n, B0), ⟨hB, nf⟩, .cons cv_refl (.cons cv_refl .nil), ?_⟩⟩)⟩)))
  refine wa_cons (we_call (wc_im (we_var rfl ⟨_, rfl, wc_nil ⟨B0, by show B0.length ≤ 1000; omega, .cons cv_refl .nil, wa_nil ⟨_, _, _, rfl, ?_⟩⟩⟩)))
  show WS K _ [.box p (PailOk (m + 49)), .im (rN n), .im (rT K (NL B0)), .im (rCode K C n (basisOf B0)), .im (rTN K (NL (Fo.qrt B0))), .im (rT K (NL (Fo.halfB B0))), .no, .no, .no, .no, .no, .no, .no, .no, .no, .no] _ _ _ _
  rw [es]
  refine ws_seq (ws_if (wt_test (we_opc (wc_im (we_call (wc_im (we_var rfl ⟨_, rfl, wc_nil ⟨(n, B0), ⟨hB, nf⟩, .cons cv_refl .nil, _, rfl, wc_im (we_var rfl ⟨_, rfl, wc_nil ⟨_, _, _, rfl, opc_neN, _, rfl, ?_⟩⟩)⟩⟩)))))))
  rw [if_neg (by simp)]
  refine ws_next ?_
  refine ws_seq (ws_par (wa_cons (we_call (wc_im (we_var rfl ⟨_, rfl, wc_nil ⟨n, ⟨by omega, ev3, ev1⟩, .cons cv_refl .nil, ?_⟩⟩)))))
  refine wa_cons (we_opc (wc_own (we_cb (wc_im (we_var rfl ⟨_, rfl, wc_nil ⟨_, cpr_list.cv (.cons cv_ts .nil), _, rfl, wc_own (we_lst (wa_cons (we_int (wa_nil ⟨[rN 0], rfl, zz (by show 1 ≤ 100; decide), _, rfl, wc_nil ⟨_, _, _, rfl, opc_cat (zz (by rw [List.length_map]; show _ + 1 ≤ 100; omega)), wa_nil ⟨_, _, rfl, ?_⟩⟩⟩))))⟩⟩)))))
  have eh : NL (Fo.halfB B0) ++ [rN 0] = NL (Fo.halfB B0 ++ [0]) := by
    unfold NL
    rw [List.map_append]
    rfl
  show WS K _ [.box p (PailOk (m + 49)), .im (rN n), .im (rT K (NL B0)), .im (rCode K C n B0), .im (rTN K (NL (Fo.qrt B0))), .im (rT K (NL (Fo.halfB B0))), .im (rT K ((Fo.tabL (decide (n / 2 % 2 = 1))).map fun r => rT K (NL r))), .own (NL (Fo.halfB B0) ++ [rN 0]), .no, .no, .no, .no, .no, .no, .no, .no] _ _ _ _
  rw [eh]
  have hfl : (Fo.halfB B0 ++ [0]).length ≤ 60 := by
    rw [List.length_append]
    show _ + 1 ≤ 60
    omega
  have hf1 : 1 ≤ (NL (Fo.halfB B0 ++ [0])).length ∧ (NL (Fo.halfB B0 ++ [0])).length ≤ 100000 := by
    rw [List.length_map, List.length_append]
    exact ⟨by show 1 ≤ _ + 1; omega, by show _ + 1 ≤ 100000; omega⟩
  have pos : 1 ≤ 2 ^ n := Nat.one_le_two_pow
  have n9 : (2 : Nat) ^ n < 2 ^ 1000 := Nat.pow_lt_pow_right (by decide) (by omega)
  have hsl : ∀ {x : Nat}, Gf.Sp (Fo.halfB B0) x → x < 2 ^ n := fun hx => hB.lt (Fo.half_sub hB hx)
  refine ws_seq (ws_post (nx' := fun E' => ∃ (φ : List V → Prop) (E2 : List Sl), E' = .box p φ :: E2 ∧ ∀ vs, φ vs → PailOk m vs) (ws_for (wi_rngN (wa_cons (we_int (wa_nil ⟨6, rfl, by omega, fun i E' => ∃ (φ : List V → Prop) (k8 k9 k10 k11 k12 k13 k14 : Sl), E' = [.box p φ, .im (rN n), .im (rT K (NL B0)), .im (rCode K C n B0), .im (rTN K (NL (Fo.qrt B0))), .im (rT K (NL (Fo.halfB B0))), .im (rT K ((Fo.tabL (decide (n / 2 % 2 = 1))).map fun r => rT K (NL r))), .own (NL (Fo.halfB B0 ++ [0])), k8, k9, k10, k11, k12, k13, k14, .no] ∧ ∀ vs, φ vs → PailOk (m + 7 * (6 - i)) vs, ⟨_, _, _, _, _, _, _, _, rfl, fun _ h => h.less (by show m + 7 * (6 - 0) ≤ m + 49; omega)⟩, ?_, ?_⟩))))) ?_)
  · rintro t R E' hi ⟨φ, k8, k9, k10, k11, k12, k13, k14, rfl, hφ⟩
    have him : t < 6 := by
      have := (List.getElem?_eq_some_iff.mp hi).1
      simpa using this
    have eb : m + 7 * (6 - t) = m + 7 * (6 - (t + 1)) + 7 := by omega
    rw [eb] at hφ
    generalize hq : m + 7 * (6 - (t + 1)) = q at hφ
    refine ws_seq (ws_par (wa_cons (we_callQ rfl (wq_im (we_int ⟨_, rfl, rfl, wq_nil ⟨(4, q + 6), φ, rfl, hφ, ⟨by show 1 ≤ 4; decide, lt6 4 (by decide)⟩, .cons cv_refl .nil, fun i hi4 _ => ?_⟩⟩)))))
    have hi4 : i < 4 := hi4
    refine wa_cons (we_callQ rfl (wq_im (we_int ⟨_, rfl, rfl, wq_nil ⟨(4, q + 5), _, rfl, fun _ h => h, ⟨by show 1 ≤ 4; decide, lt6 4 (by decide)⟩, .cons cv_refl .nil, fun j hj4 _ => wa_nil ⟨_, _, rfl, ?_⟩⟩⟩)))
    have hj4 : j < 4 := hj4
    have qi : (NL (Fo.qrt B0))[i]? = some (rN (Fo.c4 (Fo.shR B0) (Fo.r2 B0) i)) := by
      unfold NL
      rw [List.getElem?_map, Fo.qrt_get hB hi4]
      rfl
    have qj : (NL (Fo.qrt B0))[j]? = some (rN (Fo.c4 (Fo.shR B0) (Fo.r2 B0) j)) := by
      unfold NL
      rw [List.getElem?_map, Fo.qrt_get hB hj4]
      rfl
    show WS K _ [.box p (PailOk (q + 5)), .im (rN n), .im (rT K (NL B0)), .im (rCode K C n B0), .im (rTN K (NL (Fo.qrt B0))), .im (rT K (NL (Fo.halfB B0))), .im (rT K ((Fo.tabL (decide (n / 2 % 2 = 1))).map fun r => rT K (NL r))), .own (NL (Fo.halfB B0 ++ [0])), .im R, .im (rN i), .im (rN j), k11, k12, k13, k14, .no] _ _ _ _
    refine ws_seq (ws_asg (we_op (we_op (we_opc (wc_im (we_var rfl ⟨_, rfl, wc_im (we_var rfl ⟨_, rfl, wc_nil ⟨_, _, _, rfl, opc_ixN rfl qi, ?_⟩⟩)⟩))))))
    refine we_callQ rfl (wq_var rfl (wq_nil ⟨rfl, (NL (Fo.halfB B0 ++ [0]), q + 4), _, rfl, fun _ h => h, hf1, .cons cv_ls .nil, fun R1 hR1 _ => ?_⟩))
    have hR1 : R1 ∈ NL (Fo.halfB B0 ++ [0]) := hR1
    obtain ⟨x1, hx1, rfl⟩ := List.mem_map.mp hR1
    refine ⟨_, opr_xor, ?_⟩
    refine we_callQ rfl (wq_var rfl (wq_nil ⟨rfl, (NL (Fo.halfB B0 ++ [0]), q + 3), _, rfl, fun _ h => h, hf1, .cons cv_ls .nil, fun R2 hR2 _ => ?_⟩))
    have hR2 : R2 ∈ NL (Fo.halfB B0 ++ [0]) := hR2
    obtain ⟨x2, hx2, rfl⟩ := List.mem_map.mp hR2
    refine ⟨_, opr_xor, ?_⟩
    rw [Nat.xor_assoc]
    have hu := (hf_sp hx1).xor (hf_sp hx2)
    generalize x1 ^^^ x2 = u at hu ⊢
    show WS K _ [.box p (PailOk (q + 3)), .im (rN n), .im (rT K (NL B0)), .im (rCode K C n B0), .im (rTN K (NL (Fo.qrt B0))), .im (rT K (NL (Fo.halfB B0))), .im (rT K ((Fo.tabL (decide (n / 2 % 2 = 1))).map fun r => rT K (NL r))), .own (NL (Fo.halfB B0 ++ [0])), .im R, .im (rN i), .im (rN j), .im (rN (Fo.c4 (Fo.shR B0) (Fo.r2 B0) i ^^^ u)), k12, k13, k14, .no] _ _ _ _
    refine ws_seq (ws_asg (we_op (we_op (we_opc (wc_im (we_var rfl ⟨_, rfl, wc_im (we_var rfl ⟨_, rfl, wc_nil ⟨_, _, _, rfl, opc_ixN rfl qj, ?_⟩⟩)⟩))))))
    refine we_callQ rfl (wq_var rfl (wq_nil ⟨rfl, (NL (Fo.halfB B0 ++ [0]), q + 2), _, rfl, fun _ h => h, hf1, .cons cv_ls .nil, fun R3 hR3 _ => ?_⟩))
    have hR3 : R3 ∈ NL (Fo.halfB B0 ++ [0]) := hR3
    obtain ⟨x3, hx3, rfl⟩ := List.mem_map.mp hR3
    refine ⟨_, opr_xor, ?_⟩
    refine we_callQ rfl (wq_var rfl (wq_nil ⟨rfl, (NL (Fo.halfB B0 ++ [0]), q + 1), _, rfl, fun _ h => h, hf1, .cons cv_ls .nil, fun R4 hR4 _ => ?_⟩))
    have hR4 : R4 ∈ NL (Fo.halfB B0 ++ [0]) := hR4
    obtain ⟨x4, hx4, rfl⟩ := List.mem_map.mp hR4
    refine ⟨_, opr_xor, ?_⟩
    rw [Nat.xor_assoc]
    have hv := (hf_sp hx3).xor (hf_sp hx4)
    generalize x3 ^^^ x4 = v at hv ⊢
    have l1 : Fo.c4 (Fo.shR B0) (Fo.r2 B0) i ^^^ u < 2 ^ n := Nat.xor_lt_two_pow (c4_lt hB i) (hsl hu)
    have l2 : Fo.c4 (Fo.shR B0) (Fo.r2 B0) j ^^^ v < 2 ^ n := Nat.xor_lt_two_pow (c4_lt hB j) (hsl hv)
    have o1 := Fo.quO_at hB nf hi4 hu
    have o2 : Fo.quO B0 ((Fo.c4 (Fo.shR B0) (Fo.r2 B0) i ^^^ u) ^^^ (Fo.c4 (Fo.shR B0) (Fo.r2 B0) j ^^^ v)) = some (i ^^^ j) := by
      rw [K58.x4, Fo.c4_xor _ _ hi4 hj4]
      exact Fo.quO_at hB nf (Nat.xor_lt_two_pow (n := 2) hi4 hj4) (hu.xor hv)
    have o3 := Fo.dot_q hB nf (i := i) (j := j) hu hv
    generalize Fo.c4 (Fo.shR B0) (Fo.r2 B0) i ^^^ u = g1 at l1 o1 o2 o3 ⊢
    generalize Fo.c4 (Fo.shR B0) (Fo.r2 B0) j ^^^ v = g2 at l2 o2 o3 ⊢
    show WS K _ [.box p (PailOk (q + 1)), .im (rN n), .im (rT K (NL B0)), .im (rCode K C n B0), .im (rTN K (NL (Fo.qrt B0))), .im (rT K (NL (Fo.halfB B0))), .im (rT K ((Fo.tabL (decide (n / 2 % 2 = 1))).map fun r => rT K (NL r))), .own (NL (Fo.halfB B0 ++ [0])), .im R, .im (rN i), .im (rN j), .im (rN g1), .im (rN g2), k13, k14, .no] _ _ _ _
    refine ws_seq (ws_if (wt_or (wt_test (we_opc (wc_im (we_call (wc_im (we_var rfl ⟨_, rfl, wc_im (we_var rfl ⟨_, rfl, wc_nil ⟨((n, B0), g1), ⟨hB, nf, l1⟩, .cons cv_refl (.cons cv_refl .nil), _, rfl, wc_im (we_var rfl ⟨_, rfl, wc_nil ⟨_, _, _, rfl, opc_neS (d := .int (i : Int)) (dpc_im (by show DpR K (rON (Fo.quO B0 g1)) _; rw [o1]; exact dp_I)) (dpc_im dp_I) (sh_int _), _, rfl, ?_⟩⟩)⟩⟩)⟩))))))))
    rw [if_neg Bool.false_ne_true]
    refine wt_test (we_opc (wc_im (we_call (wc_im (we_var rfl ⟨_, rfl, wc_im (we_op (we_var rfl (we_var rfl ⟨_, opr_xor, _, rfl, wc_nil ⟨((n, B0), g1 ^^^ g2), ⟨hB, nf, Nat.xor_lt_two_pow l1 l2⟩, .cons cv_refl (.cons cv_refl .nil), _, rfl, wc_im (we_op (we_var rfl (we_var rfl ⟨_, opr_xor, _, rfl, wc_nil ⟨_, _, _, rfl, opc_neS (d := .int ((i ^^^ j : Nat) : Int)) (dpc_im (by show DpR K (rON (Fo.quO B0 (g1 ^^^ g2))) _; rw [o2]; exact dp_I)) (dpc_im dp_I) (sh_int _), _, rfl, ?_⟩⟩)))⟩⟩)))⟩)))))
    rw [if_neg Bool.false_ne_true]
    refine ws_next ?_
    obtain ⟨rw4, ht, hc⟩ := Fo.tabL_get (decide (n / 2 % 2 = 1)) hi4 hj4
    have ht' : ((Fo.tabL (decide (n / 2 % 2 = 1))).map fun r => rT K (NL r))[i]? = some (rT K (NL rw4)) := by
      rw [List.getElem?_map, ht]
      rfl
    have hc' : (NL rw4)[j]? = some (rN (pop (g1 &&& g2) % 2)) := by
      unfold NL
      rw [List.getElem?_map, hc, dot_nat, o3]
      rfl
    refine ws_seq (ws_if (wt_test (we_op (we_opc (wc_im (we_opc (wc_im (we_var rfl ⟨_, rfl, wc_im (we_var rfl ⟨_, rfl, wc_nil ⟨_, _, _, rfl, opc_ixT rfl ht', _, rfl, wc_im (we_var rfl ⟨_, rfl, wc_nil ⟨_, _, _, rfl, opc_ixT rfl hc', we_call (wc_im (we_var rfl ⟨_, rfl, wc_im (we_var rfl ⟨_, rfl, wc_nil ⟨(g1, g2), trivial, .cons cv_refl (.cons cv_refl .nil), _, opr_neI, _, rfl, ?_⟩⟩)⟩))⟩⟩)⟩⟩)⟩))))))))
    rw [if_neg (by simp)]
    refine ws_next ?_
    refine ws_seq (ws_asg (we_callQ rfl (wq_im (we_op (we_int (we_var rfl ⟨_, opr_shl1 (by omega), _, rfl, rfl, wq_nil ⟨(2 ^ n, q), _, rfl, fun _ h => h, ⟨pos, n9⟩, .cons cv_refl .nil, fun w hw _ => ?_⟩⟩))))))
    have hw : w < 2 ^ n := hw
    show WS K _ [.box p (PailOk q), .im (rN n), .im (rT K (NL B0)), .im (rCode K C n B0), .im (rTN K (NL (Fo.qrt B0))), .im (rT K (NL (Fo.halfB B0))), .im (rT K ((Fo.tabL (decide (n / 2 % 2 = 1))).map fun r => rT K (NL r))), .own (NL (Fo.halfB B0 ++ [0])), .im R, .im (rN i), .im (rN j), .im (rN g1), .im (rN g2), .im (rN w), k14, .no] _ _ _ _
    refine ws_seq (ws_asg (we_mono (Φ := fun k E1 => k = .own [rON (Fo.quO B0 w)] ∧ E1 = [.box p (PailOk q), .im (rN n), .im (rT K (NL B0)), .im (rCode K C n B0), .im (rTN K (NL (Fo.qrt B0))), .im (rT K (NL (Fo.halfB B0))), .im (rT K ((Fo.tabL (decide (n / 2 % 2 = 1))).map fun r => rT K (NL r))), .own (NL (Fo.halfB B0 ++ [0])), .im R, .im (rN i), .im (rN j), .im (rN g1), .im (rN g2), .im (rN w), k14, .no]) ?_ ?_))
    · refine we_if (wt_test (we_opc (wc_im (we_call (wc_im (we_var rfl ⟨_, rfl, wc_im (we_var rfl ⟨_, rfl, wc_nil ⟨(Fo.halfB B0, w), hrr, .cons cv_ts (.cons cv_refl .nil), _, rfl, wc_im (we_var rfl ⟨_, rfl, wc_nil ⟨_, _, _, rfl, opc_inN, _, rfl, ?_⟩⟩)⟩⟩)⟩))))))
      show if decide (rem (Fo.halfB B0) w ∈ Fo.qrt B0) = true then _ else _
      by_cases hm : rem (Fo.halfB B0) w ∈ Fo.qrt B0
      · rw [if_pos (decide_eq_true hm)]
        refine we_lst (wa_cons (we_tix (ns := Fo.qrt B0) rfl (we_call (wc_im (we_var rfl ⟨_, rfl, wc_im (we_var rfl ⟨_, rfl, wc_nil ⟨(Fo.halfB B0, w), hrr, .cons cv_ts (.cons cv_refl .nil), rem (Fo.halfB B0) w, rfl, rfl, hm, wa_nil ⟨[_], rfl, zz (by show 1 ≤ 100; decide), ?_, rfl⟩⟩⟩)⟩)))))
        unfold Fo.quO
        rw [if_pos hm]
        rfl
      · rw [if_neg (by simpa using hm)]
        refine we_lst (wa_cons (we_non (wa_nil ⟨[rU], rfl, zz (by show 1 ≤ 100; decide), ?_, rfl⟩)))
        unfold Fo.quO
        rw [if_neg hm]
        rfl
    rintro k E1 ⟨rfl, rfl⟩
    show WS K _ [.box p (PailOk q), .im (rN n), .im (rT K (NL B0)), .im (rCode K C n B0), .im (rTN K (NL (Fo.qrt B0))), .im (rT K (NL (Fo.halfB B0))), .im (rT K ((Fo.tabL (decide (n / 2 % 2 = 1))).map fun r => rT K (NL r))), .own (NL (Fo.halfB B0 ++ [0])), .im R, .im (rN i), .im (rN j), .im (rN g1), .im (rN g2), .im (rN w), .own [rON (Fo.quO B0 w)], .no] _ _ _ _
    refine ws_if (wt_test (we_opc (wc_im (we_call (wc_im (we_var rfl ⟨_, rfl, wc_im (we_var rfl ⟨_, rfl, wc_nil ⟨((n, B0), w), ⟨hB, nf, hw⟩, .cons cv_refl (.cons cv_refl .nil), _, rfl, wc_im (we_opc (wc_var rfl (wc_im (we_int ⟨_, rfl, wc_nil ⟨rfl, _, _, _, rfl, (opc_ixL (m := 0) rfl (R := rON (Fo.quO B0 w)) rfl).cv cv_lb cv_refl, _, rfl, wc_nil ⟨_, _, _, rfl, opc_neS (d := dON (Fo.quO B0 w)) (dpc_im dp_ON) (dpc_im dp_ON) (sh_ON _), _, rfl, ?_⟩⟩⟩))))⟩⟩)⟩))))))
    rw [if_neg Bool.false_ne_true]
    exact ws_next ⟨_, _, _, _, _, _, _, _, rfl, fun vs h => hq ▸ h⟩
  · rintro E' ⟨φ, k8, k9, k10, k11, k12, k13, k14, rfl, hφ⟩
    exact ⟨φ, _, rfl, fun vs h => (hφ vs h).less (by omega)⟩
  rintro E' ⟨φ, E2, rfl, hφ⟩
  exact ws_ret (we_bl ⟨(), φ, trivial, rfl, rfl, rfl, hφ⟩)
end
end K58
set_option Elab.async false
set_option linter.all false
set_option maxRecDepth 100000
set_option maxHeartbeats 2000000
namespace K58
open PySem L2 Fx Wd Gf Lb Px PyProof.Rows RT
local macro_rules | `(tactic| walk_at "fx") => `(tactic| first
  | with_reducible refine ws_seq ?_
  | with_reducible refine ws_asg ?_
  | with_reducible refine ws_ret ?_
  | with_reducible refine ws_drop ?_
  | with_reducible refine ws_if ?_
  | with_reducible refine ws_next ?_
  | with_reducible refine wt_not ?_
  | with_reducible refine wt_B ?_
  | with_reducible refine wt_test ?_
  | with_reducible refine wt_and ?_
  | with_reducible refine wt_or ?_
  | with_reducible refine wt_yes ?_
  | refine wt_tru ?_
  | refine we_var rfl ?_
  | with_reducible refine we_int ?_
  | with_reducible refine we_bl ?_
  | with_reducible refine we_str ?_
  | with_reducible refine we_non ?_
  | with_reducible refine we_ty ?_
  | with_reducible refine we_if ?_
  | with_reducible refine we_andV ?_
  | with_reducible refine we_orV ?_
  | with_reducible refine we_notV ?_
  | with_reducible refine we_un ?_
  | with_reducible refine we_tup ?_
  | with_reducible refine we_lst ?_
  | with_reducible refine we_bits ?_
  | with_reducible refine we_chain ?_
  | with_reducible refine we_call ?_
  | with_reducible refine we_cb ?_
  | refine we_ixBox (m := 0) rfl rfl rfl ?_
  | refine we_ixBox (m := 1) rfl rfl rfl ?_
  | refine we_ixBox (m := 2) rfl rfl rfl ?_
  | with_reducible refine we_opc (r := rCat) ?_
  | with_reducible refine we_opc (r := rIn _ _) ?_
  | with_reducible refine we_opc (r := rIxL _) ?_
  | with_reducible refine we_opc (r := rIxT _) ?_
  | with_reducible refine we_opc (r := rIx _) ?_
  | with_reducible refine we_op ?_
  | with_reducible refine wa_nil ?_
  | with_reducible refine wa_cons ?_
  | refine wc_nil ?_
  | refine wc_im (we_var rfl ⟨_, rfl, ?_⟩)
  | refine wc_var rfl ?_
  | refine wc_seq rfl ?_
  | refine wc_bor rfl ?_
  | with_reducible refine wc_im ?_
  | refine wq_nil ?_
  | refine wq_im (we_var rfl ⟨_, rfl, rfl, ?_⟩)
  | refine wq_var rfl ?_
  | with_reducible refine wq_im ?_
  | with_reducible refine ⟨_, opr_add, ?_⟩
  | with_reducible refine ⟨_, opr_sub, ?_⟩
  | with_reducible refine ⟨_, opr_xor, ?_⟩
  | with_reducible refine ⟨_, opr_and1, ?_⟩
  | with_reducible refine ⟨_, opr_and, ?_⟩
  | with_reducible refine ⟨_, opr_shr, ?_⟩
  | with_reducible refine ⟨_, opr_lt, ?_⟩
  | with_reducible refine ⟨_, opr_le, ?_⟩
  | with_reducible refine ⟨_, opr_gt, ?_⟩
  | with_reducible refine ⟨_, opr_ge, ?_⟩
  | with_reducible refine ⟨_, opr_eqI, ?_⟩
  | with_reducible refine ⟨_, opr_neI, ?_⟩
  | with_reducible refine ⟨_, opr_mod (by first | assumption | omega), ?_⟩
  | with_reducible refine ⟨_, cpr_int, ?_⟩
  | with_reducible refine ⟨_, cpr_intB, ?_⟩
  | with_reducible refine ⟨_, cpr_abs, ?_⟩
  | with_reducible refine ⟨_, cpr_max2, ?_⟩
  | with_reducible refine ⟨_, cpr_min2N, ?_⟩
  | with_reducible refine ⟨_, cpr_len, ?_⟩
  | with_reducible refine ⟨_, cpr_len.cv (.cons cv_ls .nil), ?_⟩
  | with_reducible refine ⟨_, cpr_len.cv (.cons cv_ts .nil), ?_⟩
  | with_reducible refine ⟨_, cpr_len.cv (.cons cv_bs .nil), ?_⟩
  | with_reducible refine ⟨_, cpr_tup.cv (.cons cv_lb .nil), ?_⟩
  | with_reducible refine ⟨_, cpr_sorted.cv (.cons cv_lb .nil), ?_⟩
  | with_reducible refine ⟨_, opr_mul (by assumption), ?_⟩
  | with_reducible refine ⟨_, rfl, ?_⟩
  | refine ⟨(show _[_]? = some _ from rfl), ?_⟩
  | fail)

section
variable {P : Program} {w : World} {K : PySem.W.Frag} {mg : Str → Option Value} {base : Heap} {f C : Addr} {fd : FuncData}
theorem we_cb_range {K : PySem.W.Frag} {E : List Sl} {rs : List Rp} (hi : E[0]? = some (.bor rs)) : WE K (tCB (fun xs H Q => ∃ i j, xs = [.int i, .int j] ∧ Q (.int (if j > i then j else i)) H) (tCons (tC (.int 1)) (tCons (tCB rMin2 (tCons (tC (.int 3)) (tCons (tCB (Fx.rLen K) (tCons (tVar 0) tNil)) tNil))) tNil))) E fun k E1 => ∃ c : Nat, k = .im (rN c) ∧ c ≤ 3 ∧ E1 = E := by
  refine we_cb (wc_im (we_int ⟨_, rfl, wc_im (we_cb (wc_im (we_int ⟨_, rfl, wc_im (we_cb (wc_bor hi (wc_nil ⟨hi, _, cpr_len.cv (.cons cv_bs .nil), _, rfl, wc_nil ⟨_, cpr_min2, _, rfl, wc_nil ⟨_, cpr_max2, ?_⟩⟩⟩)))⟩)))⟩))
  by_cases h : (rs.length : Int) < 3
  · rw [if_pos h]
    by_cases h2 : (rs.length : Int) > 1
    · rw [if_pos h2]
      exact ⟨rs.length, rfl, by omega, rfl⟩
    · rw [if_neg h2]
      exact ⟨1, rfl, by omega, rfl⟩
  · rw [if_neg h]
    exact ⟨3, rfl, by omega, rfl⟩
theorem code_ok {n : Nat} {ws : List Nat} (h : (decide (1 ≤ n) && decide (n ≤ 24) && decide (ws.length ≤ 64) && ws.all fun a => decide (a < 2 ^ n)) = true) : Span n ws ∧ Cu.CodeOk n (basisOf ws) := by
  simp only [Bool.and_eq_true, decide_eq_true_eq, List.all_eq_true] at h
  exact ⟨⟨h.1.1.1, h.1.1.2, h.1.2, h.2⟩, .of h.1.1.1 h.1.1.2 h.2⟩
abbrev PL : List Nat := [192, 48, 12, 3]
theorem c_p : basisOf [3, 12, 48, 192] = PL := by
  simp only [Sn.basC_eq]
  decide +kernel
theorem own_p : Nb.Own 8 PL := by
  refine ⟨by rw [← c_p]; exact (code_ok (n := 8) (ws := [3, 12, 48, 192]) (by decide)).2, ?_⟩
  unfold Du.checksOf
  simp only [Sn.basC_eq]
  decide +kernel
theorem c_3 : basisOf [3] = [3] := by
  simp only [Sn.basC_eq]
  decide +kernel
theorem own_3 : Nb.Own 2 [3] := by
  refine ⟨by rw [← c_3]; exact (code_ok (n := 2) (ws := [3]) (by decide)).2, ?_⟩
  unfold Du.checksOf
  simp only [Sn.basC_eq]
  decide +kernel
theorem f_p : Fo.fours PL = false := by decide +kernel
theorem f_3 : Fo.fours [3] = false := by decide +kernel
theorem q_p : Fo.qrt PL = [0, 85, 3, 86] := by
  unfold Fo.qrt Fo.r2 Fo.halfB
  simp only [Sn.basC_eq]
  decide +kernel
theorem q_3 : Fo.qrt [3] = [0, 1, 3, 2] := by
  unfold Fo.qrt Fo.r2 Fo.halfB
  simp only [Sn.basC_eq]
  decide +kernel
theorem o_170 : Fo.quO PL 170 = some 1 := by
  have e : rem (Fo.halfB PL) 170 = 85 := by
    unfold Fo.halfB
    simp only [Sn.basC_eq]
    decide +kernel
  unfold Fo.quO
  rw [e, q_p]
  rfl
theorem o_169 : Fo.quO PL 169 = some 3 := by
  have e : rem (Fo.halfB PL) 169 = 86 := by
    unfold Fo.halfB
    simp only [Sn.basC_eq]
    decide +kernel
  unfold Fo.quO
  rw [e, q_p]
  rfl
theorem o_1 : Fo.quO PL 1 = none := by
  have e : rem (Fo.halfB PL) 1 ∉ [0, 85, 3, 86] := by
    unfold Fo.halfB
    simp only [Sn.basC_eq]
    decide +kernel
  unfold Fo.quO
  rw [q_p, if_neg e]
abbrev s_law : Stmt := topS 64
theorem sc_law : FnScope ["script", "spot", "pack", "turn", "plain", "told", "length", "odd"] ["script"] (defScope s_law) := ⟨rfl, rfl, rfl, by decide +kernel, rfl, by decide +kernel, by decide +kernel⟩
abbrev Sp_law (K : PySem.W.Frag) (C : Addr) : Sp := spP K (fun (ns : List Int) => [.bor (ns.map rI)]) (fun _ => True) (fun _ => .im (rB true))
theorem ok_law (d : DefAt K mg "law" s_law ["script"] f fd) (B : Bt mg) (T : Txt K mg C) (h__law_pack : Has P w K mg base "_law_pack" ["script", "spot"] 1 (Sp__law_pack K)) (h__law_right : Has P w K mg base "_law_right" ["pack"] 8 (Sp__law_right K C)) (h_Code___init__ : MakeHas P w K mg base "Code" C 6 (Sp_Code___init__ K C)) (h_quarters : Has P w K mg base "quarters" ["code"] 7 (Sp_quarters K C)) (h_quarter_of : Has P w K mg base "quarter_of" ["code", "word"] 7 (Sp_quarter_of K C)) (h_quarter_products : Has P w K mg base "quarter_products" ["length"] 6 (Sp_quarter_products K)) : HasAt P w K mg base "law" ["script"] 9 (Sp_law K C) f fd := by
  refine mk_hasA d sc_law (fun _ => rfl) (fun _ _ => rfl) fun cdv A outer s H E hr => ⟨_,
    (pss_cons (ps_for PassesOwn.never rfl (pi_range1 (by rfl) B.b_range (pa_cons (pe_callB (call_max2 (by rfl)) (by rfl) B.b_max (by decide +kernel) (pa_cons pe_int (pa_cons (pe_callB (call_min2 (by rfl)) (by rfl) B.b_min (by decide +kernel) (pa_cons pe_int (pa_cons (pe_callB (kLen (K := K) rfl) (by rfl) B.b_len PySem.boot_len (pa_cons (pv 0) pa_nil)) pa_nil))) pa_nil))) pa_nil)) (pg_name (i := 1) sc_law.nd rfl (Or.inl rfl)) (pss_cons (ps_set (i := 2) sc_law.nd rfl (Or.inl rfl) (pe_use h__law_pack (hr.mono (by decide)) (pa_cons (pv 0) (pa_cons (pv 1) pa_nil))))
      (pss_one (ps_for PassesOwn.never rfl (pi_range1 (by rfl) B.b_range (pa_cons pe_int pa_nil)) (pg_name (i := 3) sc_law.nd rfl (Or.inl rfl)) (pss_one (ps_if (pt_not (pt_val (pe_use h__law_right (hr.mono (by decide)) (pa_cons (pv 2) pa_nil)))) (pss_one (ps_ret pe_bl)) pss_nil))))))
      (pss_cons (ps_set (i := 4) sc_law.nd rfl (Or.inl rfl) (pe_new h_Code___init__ (hr.mono (by decide)) (pa_cons pe_int (pa_cons (pe_tup (pa_cons pe_int (pa_cons pe_int (pa_cons pe_int (pa_cons pe_int pa_nil))))) pa_nil))))
      (pss_cons (ps_set (i := 5) sc_law.nd rfl (Or.inl rfl) (pe_lst (pa_cons (pe_use h_quarters (hr.mono (by decide)) (pa_cons (pv 4) pa_nil)) (pa_cons (pe_use h_quarter_of (hr.mono (by decide)) (pa_cons (pv 4) (pa_cons pe_int pa_nil))) (pa_cons (pe_use h_quarter_of (hr.mono (by decide)) (pa_cons (pv 4) (pa_cons pe_int pa_nil))) (pa_cons (pe_use h_quarter_of (hr.mono (by decide)) (pa_cons (pv 4) (pa_cons pe_int pa_nil))) (pa_cons (pe_use h_quarters (hr.mono (by decide)) (pa_cons (pe_new h_Code___init__ (hr.mono (by decide)) (pa_cons pe_int (pa_cons (pe_tup (pa_cons pe_int pa_nil)) pa_nil))) pa_nil)) pa_nil)))))))
      (pss_cons (ps_if (pt_cmpR (kNeD (K := K) rfl hr.units) (pv 5) (pe_lst (pa_cons (pe_tup (pa_cons pe_int (pa_cons pe_int (pa_cons pe_int (pa_cons pe_int pa_nil))))) (pa_cons pe_int (pa_cons pe_int (pa_cons pe_non (pa_cons (pe_tup (pa_cons pe_int (pa_cons pe_int (pa_cons pe_int (pa_cons pe_int pa_nil))))) pa_nil)))))) (nomark _)) (pss_one (ps_ret pe_bl)) pss_nil)
      (pss_cons (ps_for PassesOwn.never rfl (pi_range3 (by rfl) B.b_range (pa_cons pe_int (pa_cons pe_int (pa_cons pe_int pa_nil)))) (pg_name (i := 6) sc_law.nd rfl (Or.inl rfl)) (pss_cons (ps_set (i := 7) sc_law.nd rfl (Or.inl rfl) (pe_op op_mod (pe_op op_fdivW (pv 6) pe_int) pe_int))
      (pss_one (ps_if (pt_cmpR (kNeD (K := K) rfl hr.units) (pe_use h_quarter_products (hr.mono (by decide)) (pa_cons (pv 6) pa_nil)) (pe_tup (pa_cons (pe_tup (pa_cons pe_int (pa_cons pe_int (pa_cons pe_int (pa_cons pe_int pa_nil))))) (pa_cons (pe_tup (pa_cons pe_int (pa_cons (pv 7) (pa_cons pe_int (pa_cons (pe_op op_sub pe_int (pv 7)) pa_nil))))) (pa_cons (pe_tup (pa_cons pe_int (pa_cons pe_int (pa_cons pe_int (pa_cons pe_int pa_nil))))) (pa_cons (pe_tup (pa_cons pe_int (pa_cons (pe_op op_sub pe_int (pv 7)) (pa_cons pe_int (pa_cons (pv 7) pa_nil))))) pa_nil))))) (nomark _)) (pss_one (ps_ret pe_bl)) pss_nil))))
      (pss_one (ps_ret pe_bl))))))), fun ns _ => ?_⟩
  show WS K _ [.bor (ns.map rI), .no, .no, .no, .no, .no, .no, .no] _ _ _ _
  refine ws_seq (ws_post (nx' := fun E' => ∃ k1 k2 k3, E' = [.bor (ns.map rI), k1, k2, k3, .no, .no, .no, .no]) (ws_for (wi_rngN (wa_cons (we_mono (we_cb_range rfl) ?_)))) ?_)
  · rintro k E1 ⟨c, rfl, hc, rfl⟩
    refine wa_nil ⟨c, rfl, by omega, fun i E' => ∃ k1 k2 k3, E' = [.bor (ns.map rI), k1, k2, k3, .no, .no, .no, .no], ⟨_, _, _, rfl⟩, ?_, fun E' h => h⟩
    rintro i R E' hi ⟨k1, k2, k3, rfl⟩
    obtain ⟨x, hx, rfl⟩ := map_get hi
    have hxc : x < c := List.mem_range.mp (List.mem_of_getElem? hx)
    refine ws_seq (ws_asg (we_call (wc_bor rfl (wc_im (we_var rfl ⟨_, rfl, wc_nil ⟨rfl, (ns, x), by show x ≤ 100; omega, .cons cv_refl (.cons cv_refl .nil), ?_⟩⟩)))))
    show WS K _ [.bor (ns.map rI), .im (rN x), .own [rI (pailX (cellOf ns x)), rI (pailY (cellOf ns x) x), rI 0], k3, .no, .no, .no, .no] _ _ _ _
    refine ws_box (i := 2) rfl (φ := PailOk 360) (fun H vs hv => ?_) fun p => ?_
    · cases hv with
      | cons a t =>
        cases t with
        | cons b t =>
          cases t with
          | cons c t =>
            cases t
            have a : _ = V.int _ := a
            have b : _ = V.int _ := b
            have c : _ = V.int _ := c
            subst a b c
            exact ⟨_, _, _, rfl, pail_good (by omega) (by decide)⟩
    show WS K _ [.bor (ns.map rI), .im (rN x), .box p (PailOk 360), k3, .no, .no, .no, .no] _ _ _ _
    refine ws_for (wi_rngN (wa_cons (we_int (wa_nil ⟨3, rfl, by omega, fun i E' => ∃ (φ : List V → Prop) (k3 : Sl), E' = [.bor (ns.map rI), .im (rN x), .box p φ, k3, .no, .no, .no, .no] ∧ ∀ vs, φ vs → PailOk (120 * (3 - i)) vs, ⟨_, _, rfl, fun _ h => h⟩, ?_, ?_⟩))))
    · rintro j R E' hj ⟨φ, k3, rfl, hφ⟩
      have hj4 : j < 3 := by
        have := (List.getElem?_eq_some_iff.mp hj).1
        simpa using this
      have eb : 120 * (3 - j) = 120 * (3 - (j + 1)) + 120 := by omega
      rw [eb] at hφ
      dsimp only
      generalize 120 * (3 - (j + 1)) = b at hφ ⊢
      refine ws_if (wt_not (wt_B (we_callQ rfl (wq_nil ⟨b, φ, rfl, hφ, trivial, .nil, fun _ _ _ => ⟨true, rfl, ?_⟩⟩))))
      exact ws_next ⟨_, _, rfl, fun _ h => h⟩
    · rintro E' ⟨φ, k3, rfl, hφ⟩
      exact ⟨_, _, _, rfl⟩
  rintro E' ⟨k1, k2, k3, rfl⟩
  refine ws_weak (E' := [.bor (ns.map rI), .no, .no, .no, .no, .no, .no, .no]) (.cons (.inl rfl) (.cons (.inr rfl) (.cons (.inr rfl) (.cons (.inr rfl) (.cons (.inl rfl) (.cons (.inl rfl) (.cons (.inl rfl) (.cons (.inl rfl) .nil)))))))) ?_
  have s16 : sizeLine = 16777216 := sizeLine_eq
  have zz : ∀ {n : Nat}, n ≤ 100 → n ≤ sizeLine := fun h => by omega
  obtain ⟨d1, d2⟩ := code_ok (n := 2) (ws := [3]) (by decide)
  obtain ⟨b1, b2⟩ := code_ok (n := 8) (ws := [3, 12, 48, 192]) (by decide)
  refine ws_seq (ws_asg (we_new (wc_im (we_int ⟨_, rfl, wc_im (we_tup (wa_cons (we_int (wa_cons (we_int (wa_cons (we_int (wa_cons (we_int (wa_nil ⟨NL [3, 12, 48, 192], rfl, zz (by show 4 ≤ 100; decide), _, rfl, wc_nil ⟨(8, [3, 12, 48, 192]), b1, .cons cv_refl (.cons cv_refl .nil), ?_⟩⟩))))))))))⟩))))
  show WS K _ [.bor (ns.map rI), .no, .no, .no, .im (rCode K C 8 (basisOf [3, 12, 48, 192])), .no, .no, .no] _ _ _ _
  rw [c_p]
  refine ws_seq (ws_asg (we_lst (wa_cons (we_call (wc_im (we_var rfl ⟨_, rfl, wc_nil ⟨(8, PL), ⟨own_p, f_p⟩, .cons cv_refl .nil, ?_⟩⟩))))))
  refine wa_cons (we_call (wc_im (we_var rfl ⟨_, rfl, wc_im (we_int ⟨_, rfl, wc_nil ⟨((8, PL), 170), ⟨own_p, f_p, by decide⟩, .cons cv_refl (.cons cv_refl .nil), ?_⟩⟩)⟩)))
  refine wa_cons (we_call (wc_im (we_var rfl ⟨_, rfl, wc_im (we_int ⟨_, rfl, wc_nil ⟨((8, PL), 169), ⟨own_p, f_p, by decide⟩, .cons cv_refl (.cons cv_refl .nil), ?_⟩⟩)⟩)))
  refine wa_cons (we_call (wc_im (we_var rfl ⟨_, rfl, wc_im (we_int ⟨_, rfl, wc_nil ⟨((8, PL), 1), ⟨own_p, f_p, by decide⟩, .cons cv_refl (.cons cv_refl .nil), ?_⟩⟩)⟩)))
  refine wa_cons (we_call (wc_im (we_new (wc_im (we_int ⟨_, rfl, wc_im (we_tup (wa_cons (we_int (wa_nil ⟨NL [3], rfl, zz (by show 1 ≤ 100; decide), _, rfl, wc_nil ⟨(2, [3]), d1, .cons cv_refl (.cons cv_refl .nil), _, rfl, ?_⟩⟩))))⟩)))))
  show WC K tNil _ fun cs E2 => _
  rw [show rCode K C (2, [3]).1 (basisOf (2, [3]).2) = rCode K C 2 [3] by show rCode K C 2 (basisOf [3]) = _; rw [c_3]]
  refine wc_nil ⟨(2, [3]), ⟨own_3, f_3⟩, .cons cv_refl .nil, wa_nil ⟨[rTN K (NL (Fo.qrt PL)), rON (Fo.quO PL 170), rON (Fo.quO PL 169), rON (Fo.quO PL 1), rTN K (NL (Fo.qrt [3]))], rfl, zz (by show 5 ≤ 100; decide), ?_⟩⟩
  rw [q_p, o_170, o_169, o_1, q_3]
  show WS K _ [.bor (ns.map rI), .no, .no, .no, .im (rCode K C 8 PL), .own [rTN K (NL [0, 85, 3, 86]), rN 1, rN 3, rU, rTN K (NL [0, 1, 3, 2])], .no, .no] _ _ _ _
  refine ws_seq (ws_if (wt_test (we_opc (wc_var rfl (wc_own (we_lst (wa_cons (we_tup (wa_cons (we_int (wa_cons (we_int (wa_cons (we_int (wa_cons (we_int (wa_nil ⟨NL [0, 85, 3, 86], rfl, zz (by show 4 ≤ 100; decide), ?_⟩)))))))))))))))))
  refine wa_cons (we_int (wa_cons (we_int (wa_cons (we_non (wa_cons (we_tup (wa_cons (we_int (wa_cons (we_int (wa_cons (we_int (wa_cons (we_int (wa_nil ⟨NL [0, 1, 3, 2], rfl, zz (by show 4 ≤ 100; decide), wa_nil ⟨[rT K (NL [0, 85, 3, 86]), rN 1, rN 3, rU, rT K (NL [0, 1, 3, 2])], rfl, zz (by show 5 ≤ 100; decide), _, rfl, ?_⟩⟩))))))))))))))))
  refine wc_nil ⟨rfl, _, _, _, rfl, opc_neS (d := .list [.tuple (nd [0, 85, 3, 86]), .int ((1 : Nat) : Int), .int ((3 : Nat) : Int), .none, .tuple (nd [0, 1, 3, 2])]) (dpc_lst (.cons (dp_TN dp_nd) (.cons dp_I (.cons dp_I (.cons dp_U (.cons (dp_TN dp_nd) .nil)))))) (dpc_lst (.cons (dp_T dp_nd) (.cons dp_I (.cons dp_I (.cons dp_U (.cons (dp_T dp_nd) .nil)))))) (sh_list (by decide +kernel) (by decide +kernel)), _, rfl, ?_⟩
  rw [if_neg Bool.false_ne_true]
  refine ws_next ?_
  have z4 : 4 ≤ sizeLine := zz (by decide)
  refine ws_seq (ws_for (wi_rng3 (wa_cons (we_int (wa_cons (we_int (wa_cons (we_int (wa_nil ⟨2, 25, 2, 12, rfl, ⟨by decide, by decide, by decide, by decide⟩, fun i E' => ∃ k6 k7, E' = [.bor (ns.map rI), .no, .no, .no, .im (rCode K C 8 PL), .own [rTN K (NL [0, 85, 3, 86]), rN 1, rN 3, rU, rTN K (NL [0, 1, 3, 2])], k6, k7], ⟨_, _, rfl⟩, ?_, ?_⟩)))))))))
  · rintro i R E' hi ⟨k6, k7, rfl⟩
    obtain ⟨x, hx, rfl⟩ := map_get hi
    have hx12 : x < 12 := List.mem_range.mp (List.mem_of_getElem? hx)
    have en : (2 : Int) + (x : Int) * 2 = ((2 + 2 * x : Nat) : Int) := by omega
    dsimp only
    rw [en]
    have hn : 1 ≤ 2 + 2 * x ∧ 2 + 2 * x ≤ 24 ∧ (2 + 2 * x) % 2 = 0 := by omega
    generalize 2 + 2 * x = n at hn ⊢
    show WS K _ [.bor (ns.map rI), .no, .no, .no, .im (rCode K C 8 PL), .own [rTN K (NL [0, 85, 3, 86]), rN 1, rN 3, rU, rTN K (NL [0, 1, 3, 2])], .im (rN n), k7] _ _ _ _
    refine ws_seq (ws_asg (we_op (we_op (we_var rfl (we_int ⟨_, opr_div (n := 10) (by decide) (by decide) (by decide) (by decide), we_int ⟨_, opr_mod (by decide), ?_⟩⟩)))))
    have eo : ((n : Int) / 2 % 2) = ((n / 2 % 2 : Nat) : Int) := by omega
    rw [eo]
    show WS K _ [.bor (ns.map rI), .no, .no, .no, .im (rCode K C 8 PL), .own [rTN K (NL [0, 85, 3, 86]), rN 1, rN 3, rU, rTN K (NL [0, 1, 3, 2])], .im (rN n), .im (rN (n / 2 % 2))] _ _ _ _
    refine ws_if (wt_test (we_opc (wc_im (we_call (wc_im (we_var rfl ⟨_, rfl, wc_nil ⟨n, hn, .cons cv_refl .nil, _, rfl, ?_⟩⟩))))))
    have e : n / 2 % 2 = 0 ∨ n / 2 % 2 = 1 := by omega
    rcases e with e | e
    · rw [e]
      show WC K _ _ fun cs E2 => _
      refine wc_im (we_tup (wa_cons (we_tup (wa_cons (we_int (wa_cons (we_int (wa_cons (we_int (wa_cons (we_int (wa_nil ⟨NL [0, 0, 0, 0], rfl, z4, ?_⟩))))))))))))
      refine wa_cons (we_tup (wa_cons (we_int (wa_cons (we_var rfl (wa_cons (we_int (wa_cons (we_op (we_int (we_var rfl ⟨_, opr_sub, wa_nil ⟨NL [0, 0, 1, 1], rfl, z4, ?_⟩⟩)))))))))))
      refine wa_cons (we_tup (wa_cons (we_int (wa_cons (we_int (wa_cons (we_int (wa_cons (we_int (wa_nil ⟨NL [0, 1, 0, 1], rfl, z4, ?_⟩))))))))))
      refine wa_cons (we_tup (wa_cons (we_int (wa_cons (we_op (we_int (we_var rfl ⟨_, opr_sub, wa_cons (we_int (wa_cons (we_var rfl (wa_nil ⟨NL [0, 1, 1, 0], rfl, z4, wa_nil ⟨(Fo.tabL false).map fun r => rT K (NL r), rfl, z4, _, rfl, ?_⟩⟩))))⟩)))))))
      refine wc_nil ⟨_, _, _, rfl, opc_neS (d := .tuple (ndd (Fo.tabL false))) (dpc_im (dp_T dp_ndd)) (dpc_im (dp_T dp_ndd)) (sh_tup (by decide +kernel) (by decide +kernel)), _, rfl, ?_⟩
      rw [if_neg Bool.false_ne_true]
      exact ws_next ⟨_, _, rfl⟩
    · rw [e]
      show WC K _ _ fun cs E2 => _
      refine wc_im (we_tup (wa_cons (we_tup (wa_cons (we_int (wa_cons (we_int (wa_cons (we_int (wa_cons (we_int (wa_nil ⟨NL [0, 0, 0, 0], rfl, z4, ?_⟩))))))))))))
      refine wa_cons (we_tup (wa_cons (we_int (wa_cons (we_var rfl (wa_cons (we_int (wa_cons (we_op (we_int (we_var rfl ⟨_, opr_sub, wa_nil ⟨NL [0, 1, 1, 0], rfl, z4, ?_⟩⟩)))))))))))
      refine wa_cons (we_tup (wa_cons (we_int (wa_cons (we_int (wa_cons (we_int (wa_cons (we_int (wa_nil ⟨NL [0, 1, 0, 1], rfl, z4, ?_⟩))))))))))
      refine wa_cons (we_tup (wa_cons (we_int (wa_cons (we_op (we_int (we_var rfl ⟨_, opr_sub, wa_cons (we_int (wa_cons (we_var rfl (wa_nil ⟨NL [0, 0, 1, 1], rfl, z4, wa_nil ⟨(Fo.tabL true).map fun r => rT K (NL r), rfl, z4, _, rfl, ?_⟩⟩))))⟩)))))))
      refine wc_nil ⟨_, _, _, rfl, opc_neS (d := .tuple (ndd (Fo.tabL true))) (dpc_im (dp_T dp_ndd)) (dpc_im (dp_T dp_ndd)) (sh_tup (by decide +kernel) (by decide +kernel)), _, rfl, ?_⟩
      rw [if_neg Bool.false_ne_true]
      exact ws_next ⟨_, _, rfl⟩
  · rintro E' ⟨k6, k7, rfl⟩
    exact ws_ret (we_bl rfl)
end
end K58
set_option Elab.async false
set_option linter.all false
set_option maxRecDepth 100000
set_option maxHeartbeats 4000000
namespace K58
open PySem L2 Fx PyProof.Rows
theorem defAt_mk {K : PySem.W.Frag} {h : Heap} {mg : Str → Option Value} {x : Str} {st : Stmt} {ps : List Str} {f : Addr} {oc : Value} {od an : Option Addr} {osl : Array (Option Value)} {kV doc pm cdv ct : Value} (X : K.In h) (G : h.Ns mainGlobals mg) (a : PySem.W.nsIn K mainGlobals x = some (some (.ref f)))
    (l : K.lookup f = some ⟨oc, od, .func (PySem.W.fnOf x x (defArgs st) (defBody st) (defScope st) .none kV doc pm an cdv ct), osl⟩) (c : PySem.W.codeIn K cdv x = true) (k : PySem.W.keepIn K (.ref f) = true)
    (hb : ∀ (kV doc pm : Value) (an : Option Addr) (cdv ct : Value) (us : List Value), us.length = ps.length → bindArgs (PySem.W.fnOf x x (defArgs st) (defBody st) (defScope st) .none kV doc pm an cdv ct) ⟨us, []⟩ = pure (ps.zip us)) :
    DefAt K mg x st ps f (PySem.W.fnOf x x (defArgs st) (defBody st) (defScope st) .none kV doc pm an cdv ct) := ⟨fun_mk (st := st) l c k, PySem.W.mg_of X G a, (fun_mk (st := st) l c k).binds (ps := ps) hb⟩
theorem bnd__law_pack : ∀ (kV doc pm : Value) (an : Option Addr) (cdv ct : Value) (us : List Value), us.length = (["script", "spot"] : List Str).length → bindArgs (PySem.W.fnOf "_law_pack" "_law_pack" (defArgs s__law_pack) (defBody s__law_pack) (defScope s__law_pack) .none kV doc pm an cdv ct) ⟨us, []⟩ = pure ((["script", "spot"] : List Str).zip us) := fun _ _ _ _ _ _ us hl => match us, hl with | [_, _], _ => rfl
theorem bnd__law_dealt : ∀ (kV doc pm : Value) (an : Option Addr) (cdv ct : Value) (us : List Value), us.length = (["pack", "total"] : List Str).length → bindArgs (PySem.W.fnOf "_law_dealt" "_law_dealt" (defArgs s__law_dealt) (defBody s__law_dealt) (defScope s__law_dealt) .none kV doc pm an cdv ct) ⟨us, []⟩ = pure ((["pack", "total"] : List Str).zip us) := fun _ _ _ _ _ _ us hl => match us, hl with | [_, _], _ => rfl
theorem bnd__law_eights : ∀ (kV doc pm : Value) (an : Option Addr) (cdv ct : Value) (us : List Value), us.length = (["length"] : List Str).length → bindArgs (PySem.W.fnOf "_law_eights" "_law_eights" (defArgs s__law_eights) (defBody s__law_eights) (defScope s__law_eights) .none kV doc pm an cdv ct) ⟨us, []⟩ = pure ((["length"] : List Str).zip us) := fun _ _ _ _ _ _ us hl => match us, hl with | [_], _ => rfl
theorem bnd__law_left : ∀ (kV doc pm : Value) (an : Option Addr) (cdv ct : Value) (us : List Value), us.length = (["basis", "word"] : List Str).length → bindArgs (PySem.W.fnOf "_law_left" "_law_left" (defArgs s__law_left) (defBody s__law_left) (defScope s__law_left) .none kV doc pm an cdv ct) ⟨us, []⟩ = pure ((["basis", "word"] : List Str).zip us) := fun _ _ _ _ _ _ us hl => match us, hl with | [_, _], _ => rfl
theorem bnd__law_basis : ∀ (kV doc pm : Value) (an : Option Addr) (cdv ct : Value) (us : List Value), us.length = (["words"] : List Str).length → bindArgs (PySem.W.fnOf "_law_basis" "_law_basis" (defArgs s__law_basis) (defBody s__law_basis) (defScope s__law_basis) .none kV doc pm an cdv ct) ⟨us, []⟩ = pure ((["words"] : List Str).zip us) := fun _ _ _ _ _ _ us hl => match us, hl with | [_], _ => rfl
theorem bnd__law_weight : ∀ (kV doc pm : Value) (an : Option Addr) (cdv ct : Value) (us : List Value), us.length = (["word"] : List Str).length → bindArgs (PySem.W.fnOf "_law_weight" "_law_weight" (defArgs s__law_weight) (defBody s__law_weight) (defScope s__law_weight) .none kV doc pm an cdv ct) ⟨us, []⟩ = pure ((["word"] : List Str).zip us) := fun _ _ _ _ _ _ us hl => match us, hl with | [_], _ => rfl
theorem bnd__law_outside : ∀ (kV doc pm : Value) (an : Option Addr) (cdv ct : Value) (us : List Value), us.length = (["pack", "length", "basis"] : List Str).length → bindArgs (PySem.W.fnOf "_law_outside" "_law_outside" (defArgs s__law_outside) (defBody s__law_outside) (defScope s__law_outside) .none kV doc pm an cdv ct) ⟨us, []⟩ = pure ((["pack", "length", "basis"] : List Str).zip us) := fun _ _ _ _ _ _ us hl => match us, hl with | [_, _, _], _ => rfl
theorem bnd__law_product : ∀ (kV doc pm : Value) (an : Option Addr) (cdv ct : Value) (us : List Value), us.length = (["one", "other"] : List Str).length → bindArgs (PySem.W.fnOf "_law_product" "_law_product" (defArgs s__law_product) (defBody s__law_product) (defScope s__law_product) .none kV doc pm an cdv ct) ⟨us, []⟩ = pure ((["one", "other"] : List Str).zip us) := fun _ _ _ _ _ _ us hl => match us, hl with | [_, _], _ => rfl
theorem bnd__law_kept : ∀ (kV doc pm : Value) (an : Option Addr) (cdv ct : Value) (us : List Value), us.length = (["basis", "word"] : List Str).length → bindArgs (PySem.W.fnOf "_law_kept" "_law_kept" (defArgs s__law_kept) (defBody s__law_kept) (defScope s__law_kept) .none kV doc pm an cdv ct) ⟨us, []⟩ = pure ((["basis", "word"] : List Str).zip us) := fun _ _ _ _ _ _ us hl => match us, hl with | [_, _], _ => rfl
theorem bnd__law_next : ∀ (kV doc pm : Value) (an : Option Addr) (cdv ct : Value) (us : List Value), us.length = (["basis", "word"] : List Str).length → bindArgs (PySem.W.fnOf "_law_next" "_law_next" (defArgs s__law_next) (defBody s__law_next) (defScope s__law_next) .none kV doc pm an cdv ct) ⟨us, []⟩ = pure ((["basis", "word"] : List Str).zip us) := fun _ _ _ _ _ _ us hl => match us, hl with | [_, _], _ => rfl
theorem bnd__law_mixed : ∀ (kV doc pm : Value) (an : Option Addr) (cdv ct : Value) (us : List Value), us.length = (["pack", "length", "basis"] : List Str).length → bindArgs (PySem.W.fnOf "_law_mixed" "_law_mixed" (defArgs s__law_mixed) (defBody s__law_mixed) (defScope s__law_mixed) .none kV doc pm an cdv ct) ⟨us, []⟩ = pure ((["pack", "length", "basis"] : List Str).zip us) := fun _ _ _ _ _ _ us hl => match us, hl with | [_, _, _], _ => rfl
theorem bnd__law_own : ∀ (kV doc pm : Value) (an : Option Addr) (cdv ct : Value) (us : List Value), us.length = (["pack", "length"] : List Str).length → bindArgs (PySem.W.fnOf "_law_own" "_law_own" (defArgs s__law_own) (defBody s__law_own) (defScope s__law_own) .none kV doc pm an cdv ct) ⟨us, []⟩ = pure ((["pack", "length"] : List Str).zip us) := fun _ _ _ _ _ _ us hl => match us, hl with | [_, _], _ => rfl
theorem bnd__law_heavy : ∀ (kV doc pm : Value) (an : Option Addr) (cdv ct : Value) (us : List Value), us.length = (["word"] : List Str).length → bindArgs (PySem.W.fnOf "_law_heavy" "_law_heavy" (defArgs s__law_heavy) (defBody s__law_heavy) (defScope s__law_heavy) .none kV doc pm an cdv ct) ⟨us, []⟩ = pure ((["word"] : List Str).zip us) := fun _ _ _ _ _ _ us hl => match us, hl with | [_], _ => rfl
theorem bnd__law_is_fours : ∀ (kV doc pm : Value) (an : Option Addr) (cdv ct : Value) (us : List Value), us.length = (["basis"] : List Str).length → bindArgs (PySem.W.fnOf "_law_is_fours" "_law_is_fours" (defArgs s__law_is_fours) (defBody s__law_is_fours) (defScope s__law_is_fours) .none kV doc pm an cdv ct) ⟨us, []⟩ = pure ((["basis"] : List Str).zip us) := fun _ _ _ _ _ _ us hl => match us, hl with | [_], _ => rfl
theorem bnd_is_integer : ∀ (kV doc pm : Value) (an : Option Addr) (cdv ct : Value) (us : List Value), us.length = (["value"] : List Str).length → bindArgs (PySem.W.fnOf "is_integer" "is_integer" (defArgs s_is_integer) (defBody s_is_integer) (defScope s_is_integer) .none kV doc pm an cdv ct) ⟨us, []⟩ = pure ((["value"] : List Str).zip us) := fun _ _ _ _ _ _ us hl => match us, hl with | [_], _ => rfl
theorem bnd_is_from_to : ∀ (kV doc pm : Value) (an : Option Addr) (cdv ct : Value) (us : List Value), us.length = (["value", "least", "most"] : List Str).length → bindArgs (PySem.W.fnOf "is_from_to" "is_from_to" (defArgs s_is_from_to) (defBody s_is_from_to) (defScope s_is_from_to) .none kV doc pm an cdv ct) ⟨us, []⟩ = pure ((["value", "least", "most"] : List Str).zip us) := fun _ _ _ _ _ _ us hl => match us, hl with | [_, _, _], _ => rfl
theorem bnd_need_number : ∀ (kV doc pm : Value) (an : Option Addr) (cdv ct : Value) (us : List Value), us.length = (["given", "least", "most"] : List Str).length → bindArgs (PySem.W.fnOf "need_number" "need_number" (defArgs s_need_number) (defBody s_need_number) (defScope s_need_number) .none kV doc pm an cdv ct) ⟨us, []⟩ = pure ((["given", "least", "most"] : List Str).zip us) := fun _ _ _ _ _ _ us hl => match us, hl with | [_, _, _], _ => rfl
theorem bnd_need_length : ∀ (kV doc pm : Value) (an : Option Addr) (cdv ct : Value) (us : List Value), us.length = (["length"] : List Str).length → bindArgs (PySem.W.fnOf "need_length" "need_length" (defArgs s_need_length) (defBody s_need_length) (defScope s_need_length) .none kV doc pm an cdv ct) ⟨us, []⟩ = pure ((["length"] : List Str).zip us) := fun _ _ _ _ _ _ us hl => match us, hl with | [_], _ => rfl
theorem bnd_is_word_of : ∀ (kV doc pm : Value) (an : Option Addr) (cdv ct : Value) (us : List Value), us.length = (["length", "value"] : List Str).length → bindArgs (PySem.W.fnOf "is_word_of" "is_word_of" (defArgs s_is_word_of) (defBody s_is_word_of) (defScope s_is_word_of) .none kV doc pm an cdv ct) ⟨us, []⟩ = pure ((["length", "value"] : List Str).zip us) := fun _ _ _ _ _ _ us hl => match us, hl with | [_, _], _ => rfl
theorem bnd_need_word : ∀ (kV doc pm : Value) (an : Option Addr) (cdv ct : Value) (us : List Value), us.length = (["length", "word"] : List Str).length → bindArgs (PySem.W.fnOf "need_word" "need_word" (defArgs s_need_word) (defBody s_need_word) (defScope s_need_word) .none kV doc pm an cdv ct) ⟨us, []⟩ = pure ((["length", "word"] : List Str).zip us) := fun _ _ _ _ _ _ us hl => match us, hl with | [_, _], _ => rfl
theorem bnd_need_words : ∀ (kV doc pm : Value) (an : Option Addr) (cdv ct : Value) (us : List Value), us.length = (["length", "words"] : List Str).length → bindArgs (PySem.W.fnOf "need_words" "need_words" (defArgs s_need_words) (defBody s_need_words) (defScope s_need_words) .none kV doc pm an cdv ct) ⟨us, []⟩ = pure ((["length", "words"] : List Str).zip us) := fun _ _ _ _ _ _ us hl => match us, hl with | [_, _], _ => rfl
theorem bnd_remainder_by : ∀ (kV doc pm : Value) (an : Option Addr) (cdv ct : Value) (us : List Value), us.length = (["basis", "word"] : List Str).length → bindArgs (PySem.W.fnOf "remainder_by" "remainder_by" (defArgs s_remainder_by) (defBody s_remainder_by) (defScope s_remainder_by) .none kV doc pm an cdv ct) ⟨us, []⟩ = pure ((["basis", "word"] : List Str).zip us) := fun _ _ _ _ _ _ us hl => match us, hl with | [_, _], _ => rfl
theorem bnd_head_place : ∀ (kV doc pm : Value) (an : Option Addr) (cdv ct : Value) (us : List Value), us.length = (["word"] : List Str).length → bindArgs (PySem.W.fnOf "head_place" "head_place" (defArgs s_head_place) (defBody s_head_place) (defScope s_head_place) .none kV doc pm an cdv ct) ⟨us, []⟩ = pure ((["word"] : List Str).zip us) := fun _ _ _ _ _ _ us hl => match us, hl with | [_], _ => rfl
theorem bnd_basis_by : ∀ (kV doc pm : Value) (an : Option Addr) (cdv ct : Value) (us : List Value), us.length = (["words"] : List Str).length → bindArgs (PySem.W.fnOf "basis_by" "basis_by" (defArgs s_basis_by) (defBody s_basis_by) (defScope s_basis_by) .none kV doc pm an cdv ct) ⟨us, []⟩ = pure ((["words"] : List Str).zip us) := fun _ _ _ _ _ _ us hl => match us, hl with | [_], _ => rfl
theorem bnd_Code___init__ : ∀ (kV doc pm : Value) (an : Option Addr) (cdv ct : Value) (us : List Value), us.length = (["self", "length", "words"] : List Str).length → bindArgs (PySem.W.fnOf "__init__" "Code.__init__" (defArgs s_Code___init__) (defBody s_Code___init__) (defScope s_Code___init__) .none kV doc pm an cdv ct) ⟨us, []⟩ = pure ((["self", "length", "words"] : List Str).zip us) := fun _ _ _ _ _ _ us hl => match us, hl with | [_, _, _], _ => rfl
theorem bnd__law_half : ∀ (kV doc pm : Value) (an : Option Addr) (cdv ct : Value) (us : List Value), us.length = (["basis"] : List Str).length → bindArgs (PySem.W.fnOf "_law_half" "_law_half" (defArgs s__law_half) (defBody s__law_half) (defScope s__law_half) .none kV doc pm an cdv ct) ⟨us, []⟩ = pure ((["basis"] : List Str).zip us) := fun _ _ _ _ _ _ us hl => match us, hl with | [_], _ => rfl
theorem bnd__law_shadow : ∀ (kV doc pm : Value) (an : Option Addr) (cdv ct : Value) (us : List Value), us.length = (["length", "basis"] : List Str).length → bindArgs (PySem.W.fnOf "_law_shadow" "_law_shadow" (defArgs s__law_shadow) (defBody s__law_shadow) (defScope s__law_shadow) .none kV doc pm an cdv ct) ⟨us, []⟩ = pure ((["length", "basis"] : List Str).zip us) := fun _ _ _ _ _ _ us hl => match us, hl with | [_, _], _ => rfl
theorem bnd__law_quarters : ∀ (kV doc pm : Value) (an : Option Addr) (cdv ct : Value) (us : List Value), us.length = (["length", "basis"] : List Str).length → bindArgs (PySem.W.fnOf "_law_quarters" "_law_quarters" (defArgs s__law_quarters) (defBody s__law_quarters) (defScope s__law_quarters) .none kV doc pm an cdv ct) ⟨us, []⟩ = pure ((["length", "basis"] : List Str).zip us) := fun _ _ _ _ _ _ us hl => match us, hl with | [_, _], _ => rfl
theorem bnd_need_code : ∀ (kV doc pm : Value) (an : Option Addr) (cdv ct : Value) (us : List Value), us.length = (["code"] : List Str).length → bindArgs (PySem.W.fnOf "need_code" "need_code" (defArgs s_need_code) (defBody s_need_code) (defScope s_need_code) .none kV doc pm an cdv ct) ⟨us, []⟩ = pure ((["code"] : List Str).zip us) := fun _ _ _ _ _ _ us hl => match us, hl with | [_], _ => rfl
theorem bnd_free_by : ∀ (kV doc pm : Value) (an : Option Addr) (cdv ct : Value) (us : List Value), us.length = (["length", "basis"] : List Str).length → bindArgs (PySem.W.fnOf "free_by" "free_by" (defArgs s_free_by) (defBody s_free_by) (defScope s_free_by) .none kV doc pm an cdv ct) ⟨us, []⟩ = pure ((["length", "basis"] : List Str).zip us) := fun _ _ _ _ _ _ us hl => match us, hl with | [_, _], _ => rfl
theorem bnd_added : ∀ (kV doc pm : Value) (an : Option Addr) (cdv ct : Value) (us : List Value), us.length = (["words"] : List Str).length → bindArgs (PySem.W.fnOf "added" "added" (defArgs s_added) (defBody s_added) (defScope s_added) .none kV doc pm an cdv ct) ⟨us, []⟩ = pure ((["words"] : List Str).zip us) := fun _ _ _ _ _ _ us hl => match us, hl with | [_], _ => rfl
theorem bnd_word_at : ∀ (kV doc pm : Value) (an : Option Addr) (cdv ct : Value) (us : List Value), us.length = (["places"] : List Str).length → bindArgs (PySem.W.fnOf "word_at" "word_at" (defArgs s_word_at) (defBody s_word_at) (defScope s_word_at) .none kV doc pm an cdv ct) ⟨us, []⟩ = pure ((["places"] : List Str).zip us) := fun _ _ _ _ _ _ us hl => match us, hl with | [_], _ => rfl
theorem bnd_check_at : ∀ (kV doc pm : Value) (an : Option Addr) (cdv ct : Value) (us : List Value), us.length = (["basis", "place"] : List Str).length → bindArgs (PySem.W.fnOf "check_at" "check_at" (defArgs s_check_at) (defBody s_check_at) (defScope s_check_at) .none kV doc pm an cdv ct) ⟨us, []⟩ = pure ((["basis", "place"] : List Str).zip us) := fun _ _ _ _ _ _ us hl => match us, hl with | [_, _], _ => rfl
theorem bnd_checks_by : ∀ (kV doc pm : Value) (an : Option Addr) (cdv ct : Value) (us : List Value), us.length = (["length", "basis"] : List Str).length → bindArgs (PySem.W.fnOf "checks_by" "checks_by" (defArgs s_checks_by) (defBody s_checks_by) (defScope s_checks_by) .none kV doc pm an cdv ct) ⟨us, []⟩ = pure ((["length", "basis"] : List Str).zip us) := fun _ _ _ _ _ _ us hl => match us, hl with | [_, _], _ => rfl
theorem bnd_Code_length : ∀ (kV doc pm : Value) (an : Option Addr) (cdv ct : Value) (us : List Value), us.length = (["self"] : List Str).length → bindArgs (PySem.W.fnOf "length" "Code.length" (defArgs s_Code_length) (defBody s_Code_length) (defScope s_Code_length) .none kV doc pm an cdv ct) ⟨us, []⟩ = pure ((["self"] : List Str).zip us) := fun _ _ _ _ _ _ us hl => match us, hl with | [_], _ => rfl
theorem bnd_Code_basis : ∀ (kV doc pm : Value) (an : Option Addr) (cdv ct : Value) (us : List Value), us.length = (["self"] : List Str).length → bindArgs (PySem.W.fnOf "basis" "Code.basis" (defArgs s_Code_basis) (defBody s_Code_basis) (defScope s_Code_basis) .none kV doc pm an cdv ct) ⟨us, []⟩ = pure ((["self"] : List Str).zip us) := fun _ _ _ _ _ _ us hl => match us, hl with | [_], _ => rfl
theorem bnd_is_own : ∀ (kV doc pm : Value) (an : Option Addr) (cdv ct : Value) (us : List Value), us.length = (["code"] : List Str).length → bindArgs (PySem.W.fnOf "is_own" "is_own" (defArgs s_is_own) (defBody s_is_own) (defScope s_is_own) .none kV doc pm an cdv ct) ⟨us, []⟩ = pure ((["code"] : List Str).zip us) := fun _ _ _ _ _ _ us hl => match us, hl with | [_], _ => rfl
theorem bnd_need_own : ∀ (kV doc pm : Value) (an : Option Addr) (cdv ct : Value) (us : List Value), us.length = (["code"] : List Str).length → bindArgs (PySem.W.fnOf "need_own" "need_own" (defArgs s_need_own) (defBody s_need_own) (defScope s_need_own) .none kV doc pm an cdv ct) ⟨us, []⟩ = pure ((["code"] : List Str).zip us) := fun _ _ _ _ _ _ us hl => match us, hl with | [_], _ => rfl
theorem bnd_ones_in : ∀ (kV doc pm : Value) (an : Option Addr) (cdv ct : Value) (us : List Value), us.length = (["word"] : List Str).length → bindArgs (PySem.W.fnOf "ones_in" "ones_in" (defArgs s_ones_in) (defBody s_ones_in) (defScope s_ones_in) .none kV doc pm an cdv ct) ⟨us, []⟩ = pure ((["word"] : List Str).zip us) := fun _ _ _ _ _ _ us hl => match us, hl with | [_], _ => rfl
theorem bnd_is_four : ∀ (kV doc pm : Value) (an : Option Addr) (cdv ct : Value) (us : List Value), us.length = (["word"] : List Str).length → bindArgs (PySem.W.fnOf "is_four" "is_four" (defArgs s_is_four) (defBody s_is_four) (defScope s_is_four) .none kV doc pm an cdv ct) ⟨us, []⟩ = pure ((["word"] : List Str).zip us) := fun _ _ _ _ _ _ us hl => match us, hl with | [_], _ => rfl
theorem bnd_has_fours_alone : ∀ (kV doc pm : Value) (an : Option Addr) (cdv ct : Value) (us : List Value), us.length = (["code"] : List Str).length → bindArgs (PySem.W.fnOf "has_fours_alone" "has_fours_alone" (defArgs s_has_fours_alone) (defBody s_has_fours_alone) (defScope s_has_fours_alone) .none kV doc pm an cdv ct) ⟨us, []⟩ = pure ((["code"] : List Str).zip us) := fun _ _ _ _ _ _ us hl => match us, hl with | [_], _ => rfl
theorem bnd_need_not_by_fours : ∀ (kV doc pm : Value) (an : Option Addr) (cdv ct : Value) (us : List Value), us.length = (["code"] : List Str).length → bindArgs (PySem.W.fnOf "need_not_by_fours" "need_not_by_fours" (defArgs s_need_not_by_fours) (defBody s_need_not_by_fours) (defScope s_need_not_by_fours) .none kV doc pm an cdv ct) ⟨us, []⟩ = pure ((["code"] : List Str).zip us) := fun _ _ _ _ _ _ us hl => match us, hl with | [_], _ => rfl
theorem bnd_least_shadow_by : ∀ (kV doc pm : Value) (an : Option Addr) (cdv ct : Value) (us : List Value), us.length = (["basis"] : List Str).length → bindArgs (PySem.W.fnOf "least_shadow_by" "least_shadow_by" (defArgs s_least_shadow_by) (defBody s_least_shadow_by) (defScope s_least_shadow_by) .none kV doc pm an cdv ct) ⟨us, []⟩ = pure ((["basis"] : List Str).zip us) := fun _ _ _ _ _ _ us hl => match us, hl with | [_], _ => rfl
theorem bnd_quarters_by : ∀ (kV doc pm : Value) (an : Option Addr) (cdv ct : Value) (us : List Value), us.length = (["basis", "half_basis"] : List Str).length → bindArgs (PySem.W.fnOf "quarters_by" "quarters_by" (defArgs s_quarters_by) (defBody s_quarters_by) (defScope s_quarters_by) .none kV doc pm an cdv ct) ⟨us, []⟩ = pure ((["basis", "half_basis"] : List Str).zip us) := fun _ _ _ _ _ _ us hl => match us, hl with | [_, _], _ => rfl
theorem bnd_half_by : ∀ (kV doc pm : Value) (an : Option Addr) (cdv ct : Value) (us : List Value), us.length = (["basis"] : List Str).length → bindArgs (PySem.W.fnOf "half_by" "half_by" (defArgs s_half_by) (defBody s_half_by) (defScope s_half_by) .none kV doc pm an cdv ct) ⟨us, []⟩ = pure ((["basis"] : List Str).zip us) := fun _ _ _ _ _ _ us hl => match us, hl with | [_], _ => rfl
theorem bnd_quarters : ∀ (kV doc pm : Value) (an : Option Addr) (cdv ct : Value) (us : List Value), us.length = (["code"] : List Str).length → bindArgs (PySem.W.fnOf "quarters" "quarters" (defArgs s_quarters) (defBody s_quarters) (defScope s_quarters) .none kV doc pm an cdv ct) ⟨us, []⟩ = pure ((["code"] : List Str).zip us) := fun _ _ _ _ _ _ us hl => match us, hl with | [_], _ => rfl
theorem bnd_need_even : ∀ (kV doc pm : Value) (an : Option Addr) (cdv ct : Value) (us : List Value), us.length = (["given", "least", "most"] : List Str).length → bindArgs (PySem.W.fnOf "need_even" "need_even" (defArgs s_need_even) (defBody s_need_even) (defScope s_need_even) .none kV doc pm an cdv ct) ⟨us, []⟩ = pure ((["given", "least", "most"] : List Str).zip us) := fun _ _ _ _ _ _ us hl => match us, hl with | [_, _, _], _ => rfl
theorem bnd_need_own_length : ∀ (kV doc pm : Value) (an : Option Addr) (cdv ct : Value) (us : List Value), us.length = (["length"] : List Str).length → bindArgs (PySem.W.fnOf "need_own_length" "need_own_length" (defArgs s_need_own_length) (defBody s_need_own_length) (defScope s_need_own_length) .none kV doc pm an cdv ct) ⟨us, []⟩ = pure ((["length"] : List Str).zip us) := fun _ _ _ _ _ _ us hl => match us, hl with | [_], _ => rfl
theorem bnd_quarter_products : ∀ (kV doc pm : Value) (an : Option Addr) (cdv ct : Value) (us : List Value), us.length = (["length"] : List Str).length → bindArgs (PySem.W.fnOf "quarter_products" "quarter_products" (defArgs s_quarter_products) (defBody s_quarter_products) (defScope s_quarter_products) .none kV doc pm an cdv ct) ⟨us, []⟩ = pure ((["length"] : List Str).zip us) := fun _ _ _ _ _ _ us hl => match us, hl with | [_], _ => rfl
theorem bnd__law_one_of : ∀ (kV doc pm : Value) (an : Option Addr) (cdv ct : Value) (us : List Value), us.length = (["pack", "items"] : List Str).length → bindArgs (PySem.W.fnOf "_law_one_of" "_law_one_of" (defArgs s__law_one_of) (defBody s__law_one_of) (defScope s__law_one_of) .none kV doc pm an cdv ct) ⟨us, []⟩ = pure ((["pack", "items"] : List Str).zip us) := fun _ _ _ _ _ _ us hl => match us, hl with | [_, _], _ => rfl
theorem bnd_quarter_of : ∀ (kV doc pm : Value) (an : Option Addr) (cdv ct : Value) (us : List Value), us.length = (["code", "word"] : List Str).length → bindArgs (PySem.W.fnOf "quarter_of" "quarter_of" (defArgs s_quarter_of) (defBody s_quarter_of) (defScope s_quarter_of) .none kV doc pm an cdv ct) ⟨us, []⟩ = pure ((["code", "word"] : List Str).zip us) := fun _ _ _ _ _ _ us hl => match us, hl with | [_, _], _ => rfl
theorem bnd__law_right : ∀ (kV doc pm : Value) (an : Option Addr) (cdv ct : Value) (us : List Value), us.length = (["pack"] : List Str).length → bindArgs (PySem.W.fnOf "_law_right" "_law_right" (defArgs s__law_right) (defBody s__law_right) (defScope s__law_right) .none kV doc pm an cdv ct) ⟨us, []⟩ = pure ((["pack"] : List Str).zip us) := fun _ _ _ _ _ _ us hl => match us, hl with | [_], _ => rfl
theorem bnd_law : ∀ (kV doc pm : Value) (an : Option Addr) (cdv ct : Value) (us : List Value), us.length = (["script"] : List Str).length → bindArgs (PySem.W.fnOf "law" "law" (defArgs s_law) (defBody s_law) (defScope s_law) .none kV doc pm an cdv ct) ⟨us, []⟩ = pure ((["script"] : List Str).zip us) := fun _ _ _ _ _ _ us hl => match us, hl with | [_], _ => rfl
theorem all_mk {l : PySem.W.OpenLaw} {w : World} {K : PySem.W.Frag} {h : Heap} {mg : Str → Option Value} {fa C : Addr} (X : K.In h) (G : h.Ns mainGlobals mg) (hfa : mg "law" = some (.ref fa))
    {f0 : Addr} {oc0 kV0 dc0 pm0 cd0 ct0 : Value} {od0 an0 : Option Addr} {sl0 : Array (Option Value)}
    {f1 : Addr} {oc1 kV1 dc1 pm1 cd1 ct1 : Value} {od1 an1 : Option Addr} {sl1 : Array (Option Value)}
    {f2 : Addr} {oc2 kV2 dc2 pm2 cd2 ct2 : Value} {od2 an2 : Option Addr} {sl2 : Array (Option Value)}
    {f3 : Addr} {oc3 kV3 dc3 pm3 cd3 ct3 : Value} {od3 an3 : Option Addr} {sl3 : Array (Option Value)}
    {f4 : Addr} {oc4 kV4 dc4 pm4 cd4 ct4 : Value} {od4 an4 : Option Addr} {sl4 : Array (Option Value)}
    {f5 : Addr} {oc5 kV5 dc5 pm5 cd5 ct5 : Value} {od5 an5 : Option Addr} {sl5 : Array (Option Value)}
    {f6 : Addr} {oc6 kV6 dc6 pm6 cd6 ct6 : Value} {od6 an6 : Option Addr} {sl6 : Array (Option Value)}
    {f7 : Addr} {oc7 kV7 dc7 pm7 cd7 ct7 : Value} {od7 an7 : Option Addr} {sl7 : Array (Option Value)}
    {f8 : Addr} {oc8 kV8 dc8 pm8 cd8 ct8 : Value} {od8 an8 : Option Addr} {sl8 : Array (Option Value)}
    {f9 : Addr} {oc9 kV9 dc9 pm9 cd9 ct9 : Value} {od9 an9 : Option Addr} {sl9 : Array (Option Value)}
    {f10 : Addr} {oc10 kV10 dc10 pm10 cd10 ct10 : Value} {od10 an10 : Option Addr} {sl10 : Array (Option Value)}
    {f11 : Addr} {oc11 kV11 dc11 pm11 cd11 ct11 : Value} {od11 an11 : Option Addr} {sl11 : Array (Option Value)}
    {f12 : Addr} {oc12 kV12 dc12 pm12 cd12 ct12 : Value} {od12 an12 : Option Addr} {sl12 : Array (Option Value)}
    {f13 : Addr} {oc13 kV13 dc13 pm13 cd13 ct13 : Value} {od13 an13 : Option Addr} {sl13 : Array (Option Value)}
    {f14 : Addr} {oc14 kV14 dc14 pm14 cd14 ct14 : Value} {od14 an14 : Option Addr} {sl14 : Array (Option Value)}
    {f15 : Addr} {oc15 kV15 dc15 pm15 cd15 ct15 : Value} {od15 an15 : Option Addr} {sl15 : Array (Option Value)}
    {f16 : Addr} {oc16 kV16 dc16 pm16 cd16 ct16 : Value} {od16 an16 : Option Addr} {sl16 : Array (Option Value)}
    {f17 : Addr} {oc17 kV17 dc17 pm17 cd17 ct17 : Value} {od17 an17 : Option Addr} {sl17 : Array (Option Value)}
    {f18 : Addr} {oc18 kV18 dc18 pm18 cd18 ct18 : Value} {od18 an18 : Option Addr} {sl18 : Array (Option Value)}
    {f19 : Addr} {oc19 kV19 dc19 pm19 cd19 ct19 : Value} {od19 an19 : Option Addr} {sl19 : Array (Option Value)}
    {f20 : Addr} {oc20 kV20 dc20 pm20 cd20 ct20 : Value} {od20 an20 : Option Addr} {sl20 : Array (Option Value)}
    {f21 : Addr} {oc21 kV21 dc21 pm21 cd21 ct21 : Value} {od21 an21 : Option Addr} {sl21 : Array (Option Value)}
    {f22 : Addr} {oc22 kV22 dc22 pm22 cd22 ct22 : Value} {od22 an22 : Option Addr} {sl22 : Array (Option Value)}
    {f23 : Addr} {oc23 kV23 dc23 pm23 cd23 ct23 : Value} {od23 an23 : Option Addr} {sl23 : Array (Option Value)}
    {f24 : Addr} {oc24 kV24 dc24 pm24 cd24 ct24 : Value} {od24 an24 : Option Addr} {sl24 : Array (Option Value)}
    {f25 : Addr} {oc25 kV25 dc25 pm25 cd25 ct25 : Value} {od25 an25 : Option Addr} {sl25 : Array (Option Value)}
    {f26 : Addr} {oc26 kV26 dc26 pm26 cd26 ct26 : Value} {od26 an26 : Option Addr} {sl26 : Array (Option Value)}
    {f27 : Addr} {oc27 kV27 dc27 pm27 cd27 ct27 : Value} {od27 an27 : Option Addr} {sl27 : Array (Option Value)}
    {f28 : Addr} {oc28 kV28 dc28 pm28 cd28 ct28 : Value} {od28 an28 : Option Addr} {sl28 : Array (Option Value)}
    {f29 : Addr} {oc29 kV29 dc29 pm29 cd29 ct29 : Value} {od29 an29 : Option Addr} {sl29 : Array (Option Value)}
    {f30 : Addr} {oc30 kV30 dc30 pm30 cd30 ct30 : Value} {od30 an30 : Option Addr} {sl30 : Array (Option Value)}
    {f31 : Addr} {oc31 kV31 dc31 pm31 cd31 ct31 : Value} {od31 an31 : Option Addr} {sl31 : Array (Option Value)}
    {f32 : Addr} {oc32 kV32 dc32 pm32 cd32 ct32 : Value} {od32 an32 : Option Addr} {sl32 : Array (Option Value)}
    {f33 : Addr} {oc33 kV33 dc33 pm33 cd33 ct33 : Value} {od33 an33 : Option Addr} {sl33 : Array (Option Value)}
    {f34 : Addr} {oc34 kV34 dc34 pm34 cd34 ct34 : Value} {od34 an34 : Option Addr} {sl34 : Array (Option Value)}
    {f35 : Addr} {oc35 kV35 dc35 pm35 cd35 ct35 : Value} {od35 an35 : Option Addr} {sl35 : Array (Option Value)}
    {f36 : Addr} {oc36 kV36 dc36 pm36 cd36 ct36 : Value} {od36 an36 : Option Addr} {sl36 : Array (Option Value)}
    {f37 : Addr} {oc37 kV37 dc37 pm37 cd37 ct37 : Value} {od37 an37 : Option Addr} {sl37 : Array (Option Value)}
    {f38 : Addr} {oc38 kV38 dc38 pm38 cd38 ct38 : Value} {od38 an38 : Option Addr} {sl38 : Array (Option Value)}
    {f39 : Addr} {oc39 kV39 dc39 pm39 cd39 ct39 : Value} {od39 an39 : Option Addr} {sl39 : Array (Option Value)}
    {f40 : Addr} {oc40 kV40 dc40 pm40 cd40 ct40 : Value} {od40 an40 : Option Addr} {sl40 : Array (Option Value)}
    {f41 : Addr} {oc41 kV41 dc41 pm41 cd41 ct41 : Value} {od41 an41 : Option Addr} {sl41 : Array (Option Value)}
    {f42 : Addr} {oc42 kV42 dc42 pm42 cd42 ct42 : Value} {od42 an42 : Option Addr} {sl42 : Array (Option Value)}
    {f43 : Addr} {oc43 kV43 dc43 pm43 cd43 ct43 : Value} {od43 an43 : Option Addr} {sl43 : Array (Option Value)}
    {f44 : Addr} {oc44 kV44 dc44 pm44 cd44 ct44 : Value} {od44 an44 : Option Addr} {sl44 : Array (Option Value)}
    {f45 : Addr} {oc45 kV45 dc45 pm45 cd45 ct45 : Value} {od45 an45 : Option Addr} {sl45 : Array (Option Value)}
    {f46 : Addr} {oc46 kV46 dc46 pm46 cd46 ct46 : Value} {od46 an46 : Option Addr} {sl46 : Array (Option Value)}
    {f47 : Addr} {oc47 kV47 dc47 pm47 cd47 ct47 : Value} {od47 an47 : Option Addr} {sl47 : Array (Option Value)}
    {f48 : Addr} {oc48 kV48 dc48 pm48 cd48 ct48 : Value} {od48 an48 : Option Addr} {sl48 : Array (Option Value)}
    {f49 : Addr} {oc49 kV49 dc49 pm49 cd49 ct49 : Value} {od49 an49 : Option Addr} {sl49 : Array (Option Value)}
    {f50 : Addr} {oc50 kV50 dc50 pm50 cd50 ct50 : Value} {od50 an50 : Option Addr} {sl50 : Array (Option Value)}
    {f51 : Addr} {oc51 kV51 dc51 pm51 cd51 ct51 : Value} {od51 an51 : Option Addr} {sl51 : Array (Option Value)}
    {f52 : Addr} {oc52 kV52 dc52 pm52 cd52 ct52 : Value} {od52 an52 : Option Addr} {sl52 : Array (Option Value)}
    
    (a0 : PySem.W.nsIn K mainGlobals "_law_pack" = some (some (.ref f0))) (l0 : K.lookup f0 = some ⟨oc0, od0, .func (PySem.W.fnOf "_law_pack" "_law_pack" (defArgs s__law_pack) (defBody s__law_pack) (defScope s__law_pack) .none kV0 dc0 pm0 an0 cd0 ct0), sl0⟩) (c0 : PySem.W.codeIn K cd0 "_law_pack" = true) (k0 : PySem.W.keepIn K (.ref f0) = true)
    (a1 : PySem.W.nsIn K mainGlobals "_law_dealt" = some (some (.ref f1))) (l1 : K.lookup f1 = some ⟨oc1, od1, .func (PySem.W.fnOf "_law_dealt" "_law_dealt" (defArgs s__law_dealt) (defBody s__law_dealt) (defScope s__law_dealt) .none kV1 dc1 pm1 an1 cd1 ct1), sl1⟩) (c1 : PySem.W.codeIn K cd1 "_law_dealt" = true) (k1 : PySem.W.keepIn K (.ref f1) = true)
    (a2 : PySem.W.nsIn K mainGlobals "_law_eights" = some (some (.ref f2))) (l2 : K.lookup f2 = some ⟨oc2, od2, .func (PySem.W.fnOf "_law_eights" "_law_eights" (defArgs s__law_eights) (defBody s__law_eights) (defScope s__law_eights) .none kV2 dc2 pm2 an2 cd2 ct2), sl2⟩) (c2 : PySem.W.codeIn K cd2 "_law_eights" = true) (k2 : PySem.W.keepIn K (.ref f2) = true)
    (a3 : PySem.W.nsIn K mainGlobals "_law_left" = some (some (.ref f3))) (l3 : K.lookup f3 = some ⟨oc3, od3, .func (PySem.W.fnOf "_law_left" "_law_left" (defArgs s__law_left) (defBody s__law_left) (defScope s__law_left) .none kV3 dc3 pm3 an3 cd3 ct3), sl3⟩) (c3 : PySem.W.codeIn K cd3 "_law_left" = true) (k3 : PySem.W.keepIn K (.ref f3) = true)
    (a4 : PySem.W.nsIn K mainGlobals "_law_basis" = some (some (.ref f4))) (l4 : K.lookup f4 = some ⟨oc4, od4, .func (PySem.W.fnOf "_law_basis" "_law_basis" (defArgs s__law_basis) (defBody s__law_basis) (defScope s__law_basis) .none kV4 dc4 pm4 an4 cd4 ct4), sl4⟩) (c4 : PySem.W.codeIn K cd4 "_law_basis" = true) (k4 : PySem.W.keepIn K (.ref f4) = true)
    (a5 : PySem.W.nsIn K mainGlobals "_law_weight" = some (some (.ref f5))) (l5 : K.lookup f5 = some ⟨oc5, od5, .func (PySem.W.fnOf "_law_weight" "_law_weight" (defArgs s__law_weight) (defBody s__law_weight) (defScope s__law_weight) .none kV5 dc5 pm5 an5 cd5 ct5), sl5⟩) (c5 : PySem.W.codeIn K cd5 "_law_weight" = true) (k5 : PySem.W.keepIn K (.ref f5) = true)
    (a6 : PySem.W.nsIn K mainGlobals "_law_outside" = some (some (.ref f6))) (l6 : K.lookup f6 = some ⟨oc6, od6, .func (PySem.W.fnOf "_law_outside" "_law_outside" (defArgs s__law_outside) (defBody s__law_outside) (defScope s__law_outside) .none kV6 dc6 pm6 an6 cd6 ct6), sl6⟩) (c6 : PySem.W.codeIn K cd6 "_law_outside" = true) (k6 : PySem.W.keepIn K (.ref f6) = true)
    (a7 : PySem.W.nsIn K mainGlobals "_law_product" = some (some (.ref f7))) (l7 : K.lookup f7 = some ⟨oc7, od7, .func (PySem.W.fnOf "_law_product" "_law_product" (defArgs s__law_product) (defBody s__law_product) (defScope s__law_product) .none kV7 dc7 pm7 an7 cd7 ct7), sl7⟩) (c7 : PySem.W.codeIn K cd7 "_law_product" = true) (k7 : PySem.W.keepIn K (.ref f7) = true)
    (a8 : PySem.W.nsIn K mainGlobals "_law_kept" = some (some (.ref f8))) (l8 : K.lookup f8 = some ⟨oc8, od8, .func (PySem.W.fnOf "_law_kept" "_law_kept" (defArgs s__law_kept) (defBody s__law_kept) (defScope s__law_kept) .none kV8 dc8 pm8 an8 cd8 ct8), sl8⟩) (c8 : PySem.W.codeIn K cd8 "_law_kept" = true) (k8 : PySem.W.keepIn K (.ref f8) = true)
    (a9 : PySem.W.nsIn K mainGlobals "_law_next" = some (some (.ref f9))) (l9 : K.lookup f9 = some ⟨oc9, od9, .func (PySem.W.fnOf "_law_next" "_law_next" (defArgs s__law_next) (defBody s__law_next) (defScope s__law_next) .none kV9 dc9 pm9 an9 cd9 ct9), sl9⟩) (c9 : PySem.W.codeIn K cd9 "_law_next" = true) (k9 : PySem.W.keepIn K (.ref f9) = true)
    (a10 : PySem.W.nsIn K mainGlobals "_law_mixed" = some (some (.ref f10))) (l10 : K.lookup f10 = some ⟨oc10, od10, .func (PySem.W.fnOf "_law_mixed" "_law_mixed" (defArgs s__law_mixed) (defBody s__law_mixed) (defScope s__law_mixed) .none kV10 dc10 pm10 an10 cd10 ct10), sl10⟩) (c10 : PySem.W.codeIn K cd10 "_law_mixed" = true) (k10 : PySem.W.keepIn K (.ref f10) = true)
    (a11 : PySem.W.nsIn K mainGlobals "_law_own" = some (some (.ref f11))) (l11 : K.lookup f11 = some ⟨oc11, od11, .func (PySem.W.fnOf "_law_own" "_law_own" (defArgs s__law_own) (defBody s__law_own) (defScope s__law_own) .none kV11 dc11 pm11 an11 cd11 ct11), sl11⟩) (c11 : PySem.W.codeIn K cd11 "_law_own" = true) (k11 : PySem.W.keepIn K (.ref f11) = true)
    (a12 : PySem.W.nsIn K mainGlobals "_law_heavy" = some (some (.ref f12))) (l12 : K.lookup f12 = some ⟨oc12, od12, .func (PySem.W.fnOf "_law_heavy" "_law_heavy" (defArgs s__law_heavy) (defBody s__law_heavy) (defScope s__law_heavy) .none kV12 dc12 pm12 an12 cd12 ct12), sl12⟩) (c12 : PySem.W.codeIn K cd12 "_law_heavy" = true) (k12 : PySem.W.keepIn K (.ref f12) = true)
    (a13 : PySem.W.nsIn K mainGlobals "_law_is_fours" = some (some (.ref f13))) (l13 : K.lookup f13 = some ⟨oc13, od13, .func (PySem.W.fnOf "_law_is_fours" "_law_is_fours" (defArgs s__law_is_fours) (defBody s__law_is_fours) (defScope s__law_is_fours) .none kV13 dc13 pm13 an13 cd13 ct13), sl13⟩) (c13 : PySem.W.codeIn K cd13 "_law_is_fours" = true) (k13 : PySem.W.keepIn K (.ref f13) = true)
    (a14 : PySem.W.nsIn K mainGlobals "is_integer" = some (some (.ref f14))) (l14 : K.lookup f14 = some ⟨oc14, od14, .func (PySem.W.fnOf "is_integer" "is_integer" (defArgs s_is_integer) (defBody s_is_integer) (defScope s_is_integer) .none kV14 dc14 pm14 an14 cd14 ct14), sl14⟩) (c14 : PySem.W.codeIn K cd14 "is_integer" = true) (k14 : PySem.W.keepIn K (.ref f14) = true)
    (a15 : PySem.W.nsIn K mainGlobals "is_from_to" = some (some (.ref f15))) (l15 : K.lookup f15 = some ⟨oc15, od15, .func (PySem.W.fnOf "is_from_to" "is_from_to" (defArgs s_is_from_to) (defBody s_is_from_to) (defScope s_is_from_to) .none kV15 dc15 pm15 an15 cd15 ct15), sl15⟩) (c15 : PySem.W.codeIn K cd15 "is_from_to" = true) (k15 : PySem.W.keepIn K (.ref f15) = true)
    (a16 : PySem.W.nsIn K mainGlobals "need_number" = some (some (.ref f16))) (l16 : K.lookup f16 = some ⟨oc16, od16, .func (PySem.W.fnOf "need_number" "need_number" (defArgs s_need_number) (defBody s_need_number) (defScope s_need_number) .none kV16 dc16 pm16 an16 cd16 ct16), sl16⟩) (c16 : PySem.W.codeIn K cd16 "need_number" = true) (k16 : PySem.W.keepIn K (.ref f16) = true)
    (a17 : PySem.W.nsIn K mainGlobals "need_length" = some (some (.ref f17))) (l17 : K.lookup f17 = some ⟨oc17, od17, .func (PySem.W.fnOf "need_length" "need_length" (defArgs s_need_length) (defBody s_need_length) (defScope s_need_length) .none kV17 dc17 pm17 an17 cd17 ct17), sl17⟩) (c17 : PySem.W.codeIn K cd17 "need_length" = true) (k17 : PySem.W.keepIn K (.ref f17) = true)
    (a18 : PySem.W.nsIn K mainGlobals "is_word_of" = some (some (.ref f18))) (l18 : K.lookup f18 = some ⟨oc18, od18, .func (PySem.W.fnOf "is_word_of" "is_word_of" (defArgs s_is_word_of) (defBody s_is_word_of) (defScope s_is_word_of) .none kV18 dc18 pm18 an18 cd18 ct18), sl18⟩) (c18 : PySem.W.codeIn K cd18 "is_word_of" = true) (k18 : PySem.W.keepIn K (.ref f18) = true)
    (a19 : PySem.W.nsIn K mainGlobals "need_word" = some (some (.ref f19))) (l19 : K.lookup f19 = some ⟨oc19, od19, .func (PySem.W.fnOf "need_word" "need_word" (defArgs s_need_word) (defBody s_need_word) (defScope s_need_word) .none kV19 dc19 pm19 an19 cd19 ct19), sl19⟩) (c19 : PySem.W.codeIn K cd19 "need_word" = true) (k19 : PySem.W.keepIn K (.ref f19) = true)
    (a20 : PySem.W.nsIn K mainGlobals "need_words" = some (some (.ref f20))) (l20 : K.lookup f20 = some ⟨oc20, od20, .func (PySem.W.fnOf "need_words" "need_words" (defArgs s_need_words) (defBody s_need_words) (defScope s_need_words) .none kV20 dc20 pm20 an20 cd20 ct20), sl20⟩) (c20 : PySem.W.codeIn K cd20 "need_words" = true) (k20 : PySem.W.keepIn K (.ref f20) = true)
    (a21 : PySem.W.nsIn K mainGlobals "remainder_by" = some (some (.ref f21))) (l21 : K.lookup f21 = some ⟨oc21, od21, .func (PySem.W.fnOf "remainder_by" "remainder_by" (defArgs s_remainder_by) (defBody s_remainder_by) (defScope s_remainder_by) .none kV21 dc21 pm21 an21 cd21 ct21), sl21⟩) (c21 : PySem.W.codeIn K cd21 "remainder_by" = true) (k21 : PySem.W.keepIn K (.ref f21) = true)
    (a22 : PySem.W.nsIn K mainGlobals "head_place" = some (some (.ref f22))) (l22 : K.lookup f22 = some ⟨oc22, od22, .func (PySem.W.fnOf "head_place" "head_place" (defArgs s_head_place) (defBody s_head_place) (defScope s_head_place) .none kV22 dc22 pm22 an22 cd22 ct22), sl22⟩) (c22 : PySem.W.codeIn K cd22 "head_place" = true) (k22 : PySem.W.keepIn K (.ref f22) = true)
    (a23 : PySem.W.nsIn K mainGlobals "basis_by" = some (some (.ref f23))) (l23 : K.lookup f23 = some ⟨oc23, od23, .func (PySem.W.fnOf "basis_by" "basis_by" (defArgs s_basis_by) (defBody s_basis_by) (defScope s_basis_by) .none kV23 dc23 pm23 an23 cd23 ct23), sl23⟩) (c23 : PySem.W.codeIn K cd23 "basis_by" = true) (k23 : PySem.W.keepIn K (.ref f23) = true)
    (a24 : PySem.W.findIn K (.ref C) "__init__" = some (some (.ref f24))) (i24 : PySem.W.isFn K (.ref f24) = true) (l24 : K.lookup f24 = some ⟨oc24, od24, .func (PySem.W.fnOf "__init__" "Code.__init__" (defArgs s_Code___init__) (defBody s_Code___init__) (defScope s_Code___init__) .none kV24 dc24 pm24 an24 cd24 ct24), sl24⟩) (c24 : PySem.W.codeIn K cd24 "Code.__init__" = true) (k24 : PySem.W.keepIn K (.ref f24) = true)
    (a25 : PySem.W.nsIn K mainGlobals "_law_half" = some (some (.ref f25))) (l25 : K.lookup f25 = some ⟨oc25, od25, .func (PySem.W.fnOf "_law_half" "_law_half" (defArgs s__law_half) (defBody s__law_half) (defScope s__law_half) .none kV25 dc25 pm25 an25 cd25 ct25), sl25⟩) (c25 : PySem.W.codeIn K cd25 "_law_half" = true) (k25 : PySem.W.keepIn K (.ref f25) = true)
    (a26 : PySem.W.nsIn K mainGlobals "_law_shadow" = some (some (.ref f26))) (l26 : K.lookup f26 = some ⟨oc26, od26, .func (PySem.W.fnOf "_law_shadow" "_law_shadow" (defArgs s__law_shadow) (defBody s__law_shadow) (defScope s__law_shadow) .none kV26 dc26 pm26 an26 cd26 ct26), sl26⟩) (c26 : PySem.W.codeIn K cd26 "_law_shadow" = true) (k26 : PySem.W.keepIn K (.ref f26) = true)
    (a27 : PySem.W.nsIn K mainGlobals "_law_quarters" = some (some (.ref f27))) (l27 : K.lookup f27 = some ⟨oc27, od27, .func (PySem.W.fnOf "_law_quarters" "_law_quarters" (defArgs s__law_quarters) (defBody s__law_quarters) (defScope s__law_quarters) .none kV27 dc27 pm27 an27 cd27 ct27), sl27⟩) (c27 : PySem.W.codeIn K cd27 "_law_quarters" = true) (k27 : PySem.W.keepIn K (.ref f27) = true)
    (a28 : PySem.W.nsIn K mainGlobals "need_code" = some (some (.ref f28))) (l28 : K.lookup f28 = some ⟨oc28, od28, .func (PySem.W.fnOf "need_code" "need_code" (defArgs s_need_code) (defBody s_need_code) (defScope s_need_code) .none kV28 dc28 pm28 an28 cd28 ct28), sl28⟩) (c28 : PySem.W.codeIn K cd28 "need_code" = true) (k28 : PySem.W.keepIn K (.ref f28) = true)
    (a29 : PySem.W.nsIn K mainGlobals "free_by" = some (some (.ref f29))) (l29 : K.lookup f29 = some ⟨oc29, od29, .func (PySem.W.fnOf "free_by" "free_by" (defArgs s_free_by) (defBody s_free_by) (defScope s_free_by) .none kV29 dc29 pm29 an29 cd29 ct29), sl29⟩) (c29 : PySem.W.codeIn K cd29 "free_by" = true) (k29 : PySem.W.keepIn K (.ref f29) = true)
    (a30 : PySem.W.nsIn K mainGlobals "added" = some (some (.ref f30))) (l30 : K.lookup f30 = some ⟨oc30, od30, .func (PySem.W.fnOf "added" "added" (defArgs s_added) (defBody s_added) (defScope s_added) .none kV30 dc30 pm30 an30 cd30 ct30), sl30⟩) (c30 : PySem.W.codeIn K cd30 "added" = true) (k30 : PySem.W.keepIn K (.ref f30) = true)
    (a31 : PySem.W.nsIn K mainGlobals "word_at" = some (some (.ref f31))) (l31 : K.lookup f31 = some ⟨oc31, od31, .func (PySem.W.fnOf "word_at" "word_at" (defArgs s_word_at) (defBody s_word_at) (defScope s_word_at) .none kV31 dc31 pm31 an31 cd31 ct31), sl31⟩) (c31 : PySem.W.codeIn K cd31 "word_at" = true) (k31 : PySem.W.keepIn K (.ref f31) = true)
    (a32 : PySem.W.nsIn K mainGlobals "check_at" = some (some (.ref f32))) (l32 : K.lookup f32 = some ⟨oc32, od32, .func (PySem.W.fnOf "check_at" "check_at" (defArgs s_check_at) (defBody s_check_at) (defScope s_check_at) .none kV32 dc32 pm32 an32 cd32 ct32), sl32⟩) (c32 : PySem.W.codeIn K cd32 "check_at" = true) (k32 : PySem.W.keepIn K (.ref f32) = true)
    (a33 : PySem.W.nsIn K mainGlobals "checks_by" = some (some (.ref f33))) (l33 : K.lookup f33 = some ⟨oc33, od33, .func (PySem.W.fnOf "checks_by" "checks_by" (defArgs s_checks_by) (defBody s_checks_by) (defScope s_checks_by) .none kV33 dc33 pm33 an33 cd33 ct33), sl33⟩) (c33 : PySem.W.codeIn K cd33 "checks_by" = true) (k33 : PySem.W.keepIn K (.ref f33) = true)
    {p34 : Addr} (a34 : PySem.W.findIn K (.ref C) "length" = some (some (.ref p34))) (g34 : PySem.W.specialIn K (.ref p34) "__get__" = some (some (.builtin "property.__get__"))) (t34 : PySem.W.takesIn K (.ref p34) = some true) (r34 : ∃ rest, PySem.W.recIn K p34 "property" = some (.ref f34 :: rest)) (l34 : K.lookup f34 = some ⟨oc34, od34, .func (PySem.W.fnOf "length" "Code.length" (defArgs s_Code_length) (defBody s_Code_length) (defScope s_Code_length) .none kV34 dc34 pm34 an34 cd34 ct34), sl34⟩) (c34 : PySem.W.codeIn K cd34 "Code.length" = true) (k34 : PySem.W.keepIn K (.ref f34) = true)
    {p35 : Addr} (a35 : PySem.W.findIn K (.ref C) "basis" = some (some (.ref p35))) (g35 : PySem.W.specialIn K (.ref p35) "__get__" = some (some (.builtin "property.__get__"))) (t35 : PySem.W.takesIn K (.ref p35) = some true) (r35 : ∃ rest, PySem.W.recIn K p35 "property" = some (.ref f35 :: rest)) (l35 : K.lookup f35 = some ⟨oc35, od35, .func (PySem.W.fnOf "basis" "Code.basis" (defArgs s_Code_basis) (defBody s_Code_basis) (defScope s_Code_basis) .none kV35 dc35 pm35 an35 cd35 ct35), sl35⟩) (c35 : PySem.W.codeIn K cd35 "Code.basis" = true) (k35 : PySem.W.keepIn K (.ref f35) = true)
    (a36 : PySem.W.nsIn K mainGlobals "is_own" = some (some (.ref f36))) (l36 : K.lookup f36 = some ⟨oc36, od36, .func (PySem.W.fnOf "is_own" "is_own" (defArgs s_is_own) (defBody s_is_own) (defScope s_is_own) .none kV36 dc36 pm36 an36 cd36 ct36), sl36⟩) (c36 : PySem.W.codeIn K cd36 "is_own" = true) (k36 : PySem.W.keepIn K (.ref f36) = true)
    (a37 : PySem.W.nsIn K mainGlobals "need_own" = some (some (.ref f37))) (l37 : K.lookup f37 = some ⟨oc37, od37, .func (PySem.W.fnOf "need_own" "need_own" (defArgs s_need_own) (defBody s_need_own) (defScope s_need_own) .none kV37 dc37 pm37 an37 cd37 ct37), sl37⟩) (c37 : PySem.W.codeIn K cd37 "need_own" = true) (k37 : PySem.W.keepIn K (.ref f37) = true)
    (a38 : PySem.W.nsIn K mainGlobals "ones_in" = some (some (.ref f38))) (l38 : K.lookup f38 = some ⟨oc38, od38, .func (PySem.W.fnOf "ones_in" "ones_in" (defArgs s_ones_in) (defBody s_ones_in) (defScope s_ones_in) .none kV38 dc38 pm38 an38 cd38 ct38), sl38⟩) (c38 : PySem.W.codeIn K cd38 "ones_in" = true) (k38 : PySem.W.keepIn K (.ref f38) = true)
    (a39 : PySem.W.nsIn K mainGlobals "is_four" = some (some (.ref f39))) (l39 : K.lookup f39 = some ⟨oc39, od39, .func (PySem.W.fnOf "is_four" "is_four" (defArgs s_is_four) (defBody s_is_four) (defScope s_is_four) .none kV39 dc39 pm39 an39 cd39 ct39), sl39⟩) (c39 : PySem.W.codeIn K cd39 "is_four" = true) (k39 : PySem.W.keepIn K (.ref f39) = true)
    (a40 : PySem.W.nsIn K mainGlobals "has_fours_alone" = some (some (.ref f40))) (l40 : K.lookup f40 = some ⟨oc40, od40, .func (PySem.W.fnOf "has_fours_alone" "has_fours_alone" (defArgs s_has_fours_alone) (defBody s_has_fours_alone) (defScope s_has_fours_alone) .none kV40 dc40 pm40 an40 cd40 ct40), sl40⟩) (c40 : PySem.W.codeIn K cd40 "has_fours_alone" = true) (k40 : PySem.W.keepIn K (.ref f40) = true)
    (a41 : PySem.W.nsIn K mainGlobals "need_not_by_fours" = some (some (.ref f41))) (l41 : K.lookup f41 = some ⟨oc41, od41, .func (PySem.W.fnOf "need_not_by_fours" "need_not_by_fours" (defArgs s_need_not_by_fours) (defBody s_need_not_by_fours) (defScope s_need_not_by_fours) .none kV41 dc41 pm41 an41 cd41 ct41), sl41⟩) (c41 : PySem.W.codeIn K cd41 "need_not_by_fours" = true) (k41 : PySem.W.keepIn K (.ref f41) = true)
    (a42 : PySem.W.nsIn K mainGlobals "least_shadow_by" = some (some (.ref f42))) (l42 : K.lookup f42 = some ⟨oc42, od42, .func (PySem.W.fnOf "least_shadow_by" "least_shadow_by" (defArgs s_least_shadow_by) (defBody s_least_shadow_by) (defScope s_least_shadow_by) .none kV42 dc42 pm42 an42 cd42 ct42), sl42⟩) (c42 : PySem.W.codeIn K cd42 "least_shadow_by" = true) (k42 : PySem.W.keepIn K (.ref f42) = true)
    (a43 : PySem.W.nsIn K mainGlobals "quarters_by" = some (some (.ref f43))) (l43 : K.lookup f43 = some ⟨oc43, od43, .func (PySem.W.fnOf "quarters_by" "quarters_by" (defArgs s_quarters_by) (defBody s_quarters_by) (defScope s_quarters_by) .none kV43 dc43 pm43 an43 cd43 ct43), sl43⟩) (c43 : PySem.W.codeIn K cd43 "quarters_by" = true) (k43 : PySem.W.keepIn K (.ref f43) = true)
    (a44 : PySem.W.nsIn K mainGlobals "half_by" = some (some (.ref f44))) (l44 : K.lookup f44 = some ⟨oc44, od44, .func (PySem.W.fnOf "half_by" "half_by" (defArgs s_half_by) (defBody s_half_by) (defScope s_half_by) .none kV44 dc44 pm44 an44 cd44 ct44), sl44⟩) (c44 : PySem.W.codeIn K cd44 "half_by" = true) (k44 : PySem.W.keepIn K (.ref f44) = true)
    (a45 : PySem.W.nsIn K mainGlobals "quarters" = some (some (.ref f45))) (l45 : K.lookup f45 = some ⟨oc45, od45, .func (PySem.W.fnOf "quarters" "quarters" (defArgs s_quarters) (defBody s_quarters) (defScope s_quarters) .none kV45 dc45 pm45 an45 cd45 ct45), sl45⟩) (c45 : PySem.W.codeIn K cd45 "quarters" = true) (k45 : PySem.W.keepIn K (.ref f45) = true)
    (a46 : PySem.W.nsIn K mainGlobals "need_even" = some (some (.ref f46))) (l46 : K.lookup f46 = some ⟨oc46, od46, .func (PySem.W.fnOf "need_even" "need_even" (defArgs s_need_even) (defBody s_need_even) (defScope s_need_even) .none kV46 dc46 pm46 an46 cd46 ct46), sl46⟩) (c46 : PySem.W.codeIn K cd46 "need_even" = true) (k46 : PySem.W.keepIn K (.ref f46) = true)
    (a47 : PySem.W.nsIn K mainGlobals "need_own_length" = some (some (.ref f47))) (l47 : K.lookup f47 = some ⟨oc47, od47, .func (PySem.W.fnOf "need_own_length" "need_own_length" (defArgs s_need_own_length) (defBody s_need_own_length) (defScope s_need_own_length) .none kV47 dc47 pm47 an47 cd47 ct47), sl47⟩) (c47 : PySem.W.codeIn K cd47 "need_own_length" = true) (k47 : PySem.W.keepIn K (.ref f47) = true)
    (a48 : PySem.W.nsIn K mainGlobals "quarter_products" = some (some (.ref f48))) (l48 : K.lookup f48 = some ⟨oc48, od48, .func (PySem.W.fnOf "quarter_products" "quarter_products" (defArgs s_quarter_products) (defBody s_quarter_products) (defScope s_quarter_products) .none kV48 dc48 pm48 an48 cd48 ct48), sl48⟩) (c48 : PySem.W.codeIn K cd48 "quarter_products" = true) (k48 : PySem.W.keepIn K (.ref f48) = true)
    (a49 : PySem.W.nsIn K mainGlobals "_law_one_of" = some (some (.ref f49))) (l49 : K.lookup f49 = some ⟨oc49, od49, .func (PySem.W.fnOf "_law_one_of" "_law_one_of" (defArgs s__law_one_of) (defBody s__law_one_of) (defScope s__law_one_of) .none kV49 dc49 pm49 an49 cd49 ct49), sl49⟩) (c49 : PySem.W.codeIn K cd49 "_law_one_of" = true) (k49 : PySem.W.keepIn K (.ref f49) = true)
    (a50 : PySem.W.nsIn K mainGlobals "quarter_of" = some (some (.ref f50))) (l50 : K.lookup f50 = some ⟨oc50, od50, .func (PySem.W.fnOf "quarter_of" "quarter_of" (defArgs s_quarter_of) (defBody s_quarter_of) (defScope s_quarter_of) .none kV50 dc50 pm50 an50 cd50 ct50), sl50⟩) (c50 : PySem.W.codeIn K cd50 "quarter_of" = true) (k50 : PySem.W.keepIn K (.ref f50) = true)
    (a51 : PySem.W.nsIn K mainGlobals "_law_right" = some (some (.ref f51))) (l51 : K.lookup f51 = some ⟨oc51, od51, .func (PySem.W.fnOf "_law_right" "_law_right" (defArgs s__law_right) (defBody s__law_right) (defScope s__law_right) .none kV51 dc51 pm51 an51 cd51 ct51), sl51⟩) (c51 : PySem.W.codeIn K cd51 "_law_right" = true) (k51 : PySem.W.keepIn K (.ref f51) = true)
    (a52 : PySem.W.nsIn K mainGlobals "law" = some (some (.ref f52))) (l52 : K.lookup f52 = some ⟨oc52, od52, .func (PySem.W.fnOf "law" "law" (defArgs s_law) (defBody s_law) (defScope s_law) .none kV52 dc52 pm52 an52 cd52 ct52), sl52⟩) (c52 : PySem.W.codeIn K cd52 "law" = true) (k52 : PySem.W.keepIn K (.ref f52) = true)
    (aC : PySem.W.nsIn K mainGlobals "Code" = some (some (.ref C))) (pg : PySem.W.plainGet K C Str.empty = true) (hd : PySem.W.hasDictIn K C = true) (po : PySem.W.plainOver K C = true) (sa : PySem.W.findIn K (.ref C) "__setattr__" = some (some (.builtin "object.__setattr__"))) (mk : PySem.W.makesIn K C = true) (kc : PySem.W.keepIn K (.ref C) = true)
    (ca : PySem.W.findIn K (.ref C) "__class__" = some (some (.builtin "object.__class__"))) (cn : PySem.W.specialIn K (.builtin "object.__class__") "__get__" = some (some (.builtin "getset_descriptor.__get__"))) (ctk : PySem.W.takesIn K (.builtin "object.__class__") = some true) (cm : PySem.W.mroIn K C (.type "object") = some true) (nL : PySem.W.findIn K (.ref C) "_length" = some none) (nB : PySem.W.findIn K (.ref C) "_basis" = some none) (nne : PySem.W.findIn K (.ref C) "__ne__" = some (some (.builtin "object.__ne__")))
    (z_max : PySem.W.nsIn K mainGlobals "max" = some none)
    (z_abs : PySem.W.nsIn K mainGlobals "abs" = some none)
    (z_int : PySem.W.nsIn K mainGlobals "int" = some none)
    (z_len : PySem.W.nsIn K mainGlobals "len" = some none)
    (z_range : PySem.W.nsIn K mainGlobals "range" = some none)
    (z_sorted : PySem.W.nsIn K mainGlobals "sorted" = some none)
    (z_min : PySem.W.nsIn K mainGlobals "min" = some none)
    (z_tuple : PySem.W.nsIn K mainGlobals "tuple" = some none)
    (z_sum : PySem.W.nsIn K mainGlobals "sum" = some none)
    (z_list : PySem.W.nsIn K mainGlobals "list" = some none)
    (z_isinstance : PySem.W.nsIn K mainGlobals "isinstance" = some none)
    (z_bool : PySem.W.nsIn K mainGlobals "bool" = some none)
    (z_all : PySem.W.nsIn K mainGlobals "all" = some none)
    (z_reversed : PySem.W.nsIn K mainGlobals "reversed" = some none)
    (z_set : PySem.W.nsIn K mainGlobals "set" = some none)
    (z_str : PySem.W.nsIn K mainGlobals "str" = some none)
    (z_repr : PySem.W.nsIn K mainGlobals "repr" = some none)
    (z_enumerate : PySem.W.nsIn K mainGlobals "enumerate" = some none)
    (z_zip : PySem.W.nsIn K mainGlobals "zip" = some none)
    (z_divmod : PySem.W.nsIn K mainGlobals "divmod" = some none)
    (y_MOST_LENGTH : ∃ t, PySem.W.nsIn K mainGlobals "MOST_LENGTH" = some (some (Value.int 24 t)))
    (y_MOST_WORDS : ∃ t, PySem.W.nsIn K mainGlobals "MOST_WORDS" = some (some (Value.int 64 t)))
    : ∃ fd : FuncData, (∀ (s : Shared) (v : Value), BindsTo s fd ⟨[v], []⟩ [("script", v)]) ∧ ∀ base : Heap, K.In base → base.Ns mainGlobals mg → FnOk l.prog w K mg base CX0 9 fa fd ["script"] (Sp_law K 0) := by
  have e := hfa.symm.trans (PySem.W.mg_of X G a52)
  cases e
  have B : Bt mg := by constructor <;> (first | exact PySem.W.mg_none_of X G z_max | exact PySem.W.mg_none_of X G z_abs | exact PySem.W.mg_none_of X G z_int | exact PySem.W.mg_none_of X G z_len | exact PySem.W.mg_none_of X G z_range | exact PySem.W.mg_none_of X G z_sorted | exact PySem.W.mg_none_of X G z_min | exact PySem.W.mg_none_of X G z_tuple | exact PySem.W.mg_none_of X G z_sum | exact PySem.W.mg_none_of X G z_list | exact PySem.W.mg_none_of X G z_isinstance | exact PySem.W.mg_none_of X G z_bool | exact PySem.W.mg_none_of X G z_all | exact PySem.W.mg_none_of X G z_reversed | exact PySem.W.mg_none_of X G z_set | exact PySem.W.mg_none_of X G z_str | exact PySem.W.mg_none_of X G z_repr | exact PySem.W.mg_none_of X G z_enumerate | exact PySem.W.mg_none_of X G z_zip | exact PySem.W.mg_none_of X G z_divmod)
  have T : Txt K mg C := ⟨PySem.W.mg_of X G aC, ⟨⟨pg, hd, po, sa⟩, ca, cn, ctk, cm, if_pos (beq_self_eq_true _)⟩, nL, nB⟩
  have Cc : Ct mg := by constructor <;> (first | (obtain ⟨t, e⟩ := y_MOST_LENGTH; exact ⟨t, PySem.W.mg_of X G e⟩) | (obtain ⟨t, e⟩ := y_MOST_WORDS; exact ⟨t, PySem.W.mg_of X G e⟩))
  refine ⟨PySem.W.fnOf "law" "law" (defArgs s_law) (defBody s_law) (defScope s_law) .none kV52 dc52 pm52 an52 cd52 ct52, fun s v => .of_eq rfl, fun base _ _ => ?_⟩
  have d0 := defAt_mk X G a0 l0 c0 k0 bnd__law_pack
  have d1 := defAt_mk X G a1 l1 c1 k1 bnd__law_dealt
  have d2 := defAt_mk X G a2 l2 c2 k2 bnd__law_eights
  have d3 := defAt_mk X G a3 l3 c3 k3 bnd__law_left
  have d4 := defAt_mk X G a4 l4 c4 k4 bnd__law_basis
  have d5 := defAt_mk X G a5 l5 c5 k5 bnd__law_weight
  have d6 := defAt_mk X G a6 l6 c6 k6 bnd__law_outside
  have d7 := defAt_mk X G a7 l7 c7 k7 bnd__law_product
  have d8 := defAt_mk X G a8 l8 c8 k8 bnd__law_kept
  have d9 := defAt_mk X G a9 l9 c9 k9 bnd__law_next
  have d10 := defAt_mk X G a10 l10 c10 k10 bnd__law_mixed
  have d11 := defAt_mk X G a11 l11 c11 k11 bnd__law_own
  have d12 := defAt_mk X G a12 l12 c12 k12 bnd__law_heavy
  have d13 := defAt_mk X G a13 l13 c13 k13 bnd__law_is_fours
  have d14 := defAt_mk X G a14 l14 c14 k14 bnd_is_integer
  have d15 := defAt_mk X G a15 l15 c15 k15 bnd_is_from_to
  have d16 := defAt_mk X G a16 l16 c16 k16 bnd_need_number
  have d17 := defAt_mk X G a17 l17 c17 k17 bnd_need_length
  have d18 := defAt_mk X G a18 l18 c18 k18 bnd_is_word_of
  have d19 := defAt_mk X G a19 l19 c19 k19 bnd_need_word
  have d20 := defAt_mk X G a20 l20 c20 k20 bnd_need_words
  have d21 := defAt_mk X G a21 l21 c21 k21 bnd_remainder_by
  have d22 := defAt_mk X G a22 l22 c22 k22 bnd_head_place
  have d23 := defAt_mk X G a23 l23 c23 k23 bnd_basis_by
  have F24 := fun_mk (st := s_Code___init__) l24 c24 k24
  have d25 := defAt_mk X G a25 l25 c25 k25 bnd__law_half
  have d26 := defAt_mk X G a26 l26 c26 k26 bnd__law_shadow
  have d27 := defAt_mk X G a27 l27 c27 k27 bnd__law_quarters
  have d28 := defAt_mk X G a28 l28 c28 k28 bnd_need_code
  have d29 := defAt_mk X G a29 l29 c29 k29 bnd_free_by
  have d30 := defAt_mk X G a30 l30 c30 k30 bnd_added
  have d31 := defAt_mk X G a31 l31 c31 k31 bnd_word_at
  have d32 := defAt_mk X G a32 l32 c32 k32 bnd_check_at
  have d33 := defAt_mk X G a33 l33 c33 k33 bnd_checks_by
  have F34 := fun_mk (st := s_Code_length) l34 c34 k34
  have F35 := fun_mk (st := s_Code_basis) l35 c35 k35
  have d36 := defAt_mk X G a36 l36 c36 k36 bnd_is_own
  have d37 := defAt_mk X G a37 l37 c37 k37 bnd_need_own
  have d38 := defAt_mk X G a38 l38 c38 k38 bnd_ones_in
  have d39 := defAt_mk X G a39 l39 c39 k39 bnd_is_four
  have d40 := defAt_mk X G a40 l40 c40 k40 bnd_has_fours_alone
  have d41 := defAt_mk X G a41 l41 c41 k41 bnd_need_not_by_fours
  have d42 := defAt_mk X G a42 l42 c42 k42 bnd_least_shadow_by
  have d43 := defAt_mk X G a43 l43 c43 k43 bnd_quarters_by
  have d44 := defAt_mk X G a44 l44 c44 k44 bnd_half_by
  have d45 := defAt_mk X G a45 l45 c45 k45 bnd_quarters
  have d46 := defAt_mk X G a46 l46 c46 k46 bnd_need_even
  have d47 := defAt_mk X G a47 l47 c47 k47 bnd_need_own_length
  have d48 := defAt_mk X G a48 l48 c48 k48 bnd_quarter_products
  have d49 := defAt_mk X G a49 l49 c49 k49 bnd__law_one_of
  have d50 := defAt_mk X G a50 l50 c50 k50 bnd_quarter_of
  have d51 := defAt_mk X G a51 l51 c51 k51 bnd__law_right
  have d52 := defAt_mk X G a52 l52 c52 k52 bnd_law
  have h__law_pack : Has l.prog w K mg base "_law_pack" ["script", "spot"] 1 (Sp__law_pack K) := ok__law_pack d0 B
  have h__law_dealt : Has l.prog w K mg base "_law_dealt" ["pack", "total"] 1 (Sp__law_dealt K) := ok__law_dealt d1 B
  have h__law_eights : Has l.prog w K mg base "_law_eights" ["length"] 1 (Sp__law_eights K) := ok__law_eights d2 B
  have h__law_left : Has l.prog w K mg base "_law_left" ["basis", "word"] 1 (Sp__law_left K) := ok__law_left d3 B
  have h__law_basis : Has l.prog w K mg base "_law_basis" ["words"] 2 (Sp__law_basis K) := ok__law_basis d4 B h__law_left
  have h__law_weight : Has l.prog w K mg base "_law_weight" ["word"] 1 (Sp__law_weight K) := ok__law_weight d5
  have h__law_outside : Has l.prog w K mg base "_law_outside" ["pack", "length", "basis"] 2 (Sp__law_outside K) := ok__law_outside d6 B h__law_dealt h__law_weight h__law_left
  have h__law_product : Has l.prog w K mg base "_law_product" ["one", "other"] 2 (Sp__law_product K) := ok__law_product d7 h__law_weight
  have h__law_kept : Has l.prog w K mg base "_law_kept" ["basis", "word"] 3 (Sp__law_kept K) := ok__law_kept d8 h__law_product
  have h__law_next : Has l.prog w K mg base "_law_next" ["basis", "word"] 4 (Sp__law_next K) := ok__law_next d9 h__law_basis h__law_kept
  have h__law_mixed : Has l.prog w K mg base "_law_mixed" ["pack", "length", "basis"] 3 (Sp__law_mixed K) := ok__law_mixed d10 B h__law_dealt h__law_basis
  have h__law_own : Has l.prog w K mg base "_law_own" ["pack", "length"] 5 (Sp__law_own K) := ok__law_own d11 B h__law_dealt h__law_eights h__law_basis h__law_outside h__law_next h__law_mixed
  have h__law_heavy : Has l.prog w K mg base "_law_heavy" ["word"] 2 (Sp__law_heavy K) := ok__law_heavy d12 B h__law_weight
  have h__law_is_fours : Has l.prog w K mg base "_law_is_fours" ["basis"] 3 (Sp__law_is_fours K) := ok__law_is_fours d13 h__law_heavy
  have h_is_integer : Has l.prog w K mg base "is_integer" ["value"] 1 (Sp_is_integer K) := ok_is_integer d14 B
  have h_is_from_to : Has l.prog w K mg base "is_from_to" ["value", "least", "most"] 2 (Sp_is_from_to K) := ok_is_from_to d15 h_is_integer
  have h_need_number : Has l.prog w K mg base "need_number" ["given", "least", "most"] 3 (Sp_need_number K) := ok_need_number d16 h_is_from_to
  have h_need_length : Has l.prog w K mg base "need_length" ["length"] 4 (Sp_need_length K) := ok_need_length d17 Cc h_need_number
  have h_is_word_of : Has l.prog w K mg base "is_word_of" ["length", "value"] 3 (Sp_is_word_of K) := ok_is_word_of d18 h_is_from_to
  have h_need_word : Has l.prog w K mg base "need_word" ["length", "word"] 4 (Sp_need_word K) := ok_need_word d19 h_is_word_of
  have h_need_words : Has l.prog w K mg base "need_words" ["length", "words"] 5 (Sp_need_words K) := ok_need_words d20 B Cc h_need_word
  have h_remainder_by : Has l.prog w K mg base "remainder_by" ["basis", "word"] 1 (Sp_remainder_by K) := ok_remainder_by d21 B
  have h_head_place : Has l.prog w K mg base "head_place" ["word"] 1 (Sp_head_place K) := ok_head_place d22
  have h_basis_by : Has l.prog w K mg base "basis_by" ["words"] 2 (Sp_basis_by K) := ok_basis_by d23 B h_remainder_by h_head_place
  have h_Code___init__ : MakeHas l.prog w K mg base "Code" C 6 (Sp_Code___init__ K C) := ⟨T.m, _, _, _, ⟨mk, a24, i24, kc⟩, (ok_Code___init__ F24 T h_need_length h_need_words h_basis_by), (F24.binds (ps := ["self", "length", "words"]) bnd_Code___init__)⟩
  have h__law_half : Has l.prog w K mg base "_law_half" ["basis"] 3 (Sp__law_half K) := ok__law_half d25 h__law_heavy h__law_basis
  have h__law_shadow : Has l.prog w K mg base "_law_shadow" ["length", "basis"] 3 (Sp__law_shadow K) := ok__law_shadow d26 h__law_heavy
  have h__law_quarters : Has l.prog w K mg base "_law_quarters" ["length", "basis"] 4 (Sp__law_quarters K) := ok__law_quarters d27 B h__law_half h__law_heavy h__law_left h__law_shadow
  have h_need_code : Has l.prog w K mg base "need_code" ["code"] 1 (Sp_need_code K C) := ok_need_code d28 B T
  have h_free_by : Has l.prog w K mg base "free_by" ["length", "basis"] 2 (Sp_free_by K) := ok_free_by d29 B h_head_place
  have h_added : Has l.prog w K mg base "added" ["words"] 1 (Sp_added K) := ok_added d30
  have h_word_at : Has l.prog w K mg base "word_at" ["places"] 2 (Sp_word_at K) := ok_word_at d31 h_added
  have h_check_at : Has l.prog w K mg base "check_at" ["basis", "place"] 3 (Sp_check_at K) := ok_check_at d32 h_word_at h_head_place
  have h_checks_by : Has l.prog w K mg base "checks_by" ["length", "basis"] 4 (Sp_checks_by K) := ok_checks_by d33 h_basis_by h_free_by h_check_at
  have h_Code_length : PropHas l.prog w K mg base C "length" 1 (Sp_Code_length K C) := ⟨T.is.c, _, _, _, _, ⟨a34, g34, t34, r34⟩, (ok_Code_length F34 T), (F34.binds (ps := ["self"]) bnd_Code_length)⟩
  have h_Code_basis : PropHas l.prog w K mg base C "basis" 1 (Sp_Code_basis K C) := ⟨T.is.c, _, _, _, _, ⟨a35, g35, t35, r35⟩, (ok_Code_basis F35 T), (F35.binds (ps := ["self"]) bnd_Code_basis)⟩
  have h_is_own : Has l.prog w K mg base "is_own" ["code"] 5 (Sp_is_own K C) := ok_is_own d36 T h_need_code h_checks_by h_Code_length h_Code_basis
  have h_need_own : Has l.prog w K mg base "need_own" ["code"] 6 (Sp_need_own K C) := ok_need_own d37 B T h_is_own
  have h_ones_in : Has l.prog w K mg base "ones_in" ["word"] 1 (Sp_ones_in K) := ok_ones_in d38
  have h_is_four : Has l.prog w K mg base "is_four" ["word"] 2 (Sp_is_four K) := ok_is_four d39 h_ones_in
  have h_has_fours_alone : Has l.prog w K mg base "has_fours_alone" ["code"] 3 (Sp_has_fours_alone K C) := ok_has_fours_alone d40 B T h_Code_basis h_is_four
  have h_need_not_by_fours : Has l.prog w K mg base "need_not_by_fours" ["code"] 4 (Sp_need_not_by_fours K C) := ok_need_not_by_fours d41 h_has_fours_alone
  have h_least_shadow_by : Has l.prog w K mg base "least_shadow_by" ["basis"] 3 (Sp_least_shadow_by K) := ok_least_shadow_by d42 h_remainder_by h_word_at h_is_four h_head_place
  have h_quarters_by : Has l.prog w K mg base "quarters_by" ["basis", "half_basis"] 4 (Sp_quarters_by K) := ok_quarters_by d43 h_is_four h_least_shadow_by h_remainder_by
  have h_half_by : Has l.prog w K mg base "half_by" ["basis"] 3 (Sp_half_by K) := ok_half_by d44 h_is_four
  have h_quarters : Has l.prog w K mg base "quarters" ["code"] 7 (Sp_quarters K C) := ok_quarters d45 T h_need_own h_need_not_by_fours h_quarters_by h_Code_basis h_basis_by h_half_by
  have h_need_even : Has l.prog w K mg base "need_even" ["given", "least", "most"] 4 (Sp_need_even K) := ok_need_even d46 h_need_number
  have h_need_own_length : Has l.prog w K mg base "need_own_length" ["length"] 5 (Sp_need_own_length K) := ok_need_own_length d47 Cc h_need_even
  have h_quarter_products : Has l.prog w K mg base "quarter_products" ["length"] 6 (Sp_quarter_products K) := ok_quarter_products d48 h_need_own_length
  have h__law_one_of : Has l.prog w K mg base "_law_one_of" ["pack", "items"] 2 (Sp__law_one_of K) := ok__law_one_of d49 B h__law_dealt
  have h_quarter_of : Has l.prog w K mg base "quarter_of" ["code", "word"] 7 (Sp_quarter_of K C) := ok_quarter_of d50 T h_need_own h_need_word h_Code_length h_need_not_by_fours h_basis_by h_half_by h_Code_basis h_quarters_by h_remainder_by
  have h__law_right : Has l.prog w K mg base "_law_right" ["pack"] 8 (Sp__law_right K C) := ok__law_right d51 B T h__law_dealt h__law_own h__law_is_fours h__law_basis h_Code___init__ h__law_quarters h__law_half h_quarters h_quarter_products h__law_one_of h_quarter_of h__law_product h__law_left
  exact (ok_law d52 B T h__law_pack h__law_right h_Code___init__ h_quarters h_quarter_of h_quarter_products).G
theorem walk {l : PySem.W.OpenLaw} {q : Program} {loose : List Str} {XP : (Str → Option Value) → Heap → Prop} {YP : World → Heap → Prop} {d : DefRec} {K : Params → PySem.W.Frag} (hn : l.most = some 63) (hdf : d.params.defaults = [])
    (hY : ∀ (w : World) (h : Heap), YP w h → (K w.params).In h)
    (F : ∀ (w : World) (mg : Str → Option Value) (fa : Addr) (h : Heap), (K w.params).In h → h.Ns mainGlobals mg → mg d.name = some (.ref fa) →
      ∃ fd : FuncData, (∀ (s : Shared) (u : Value), BindsTo s fd ⟨[u], []⟩ [("script", u)]) ∧ ∀ base : Heap, (K w.params).In base → base.Ns mainGlobals mg → FnOk l.prog w (K w.params) mg base CX0 9 fa fd ["script"] (Sp_law (K w.params) 0)) :
    PySem.W.WalkO q loose XP YP l.row.toRowW d [] (fun f vs => PySem.call f vs) :=
  L2.walk_of (n := 63) (k := 9) (x := "script") (CX := fun _ => CX0) (sp := fun w => Sp_law (K w.params) 0) hn (by decide) hdf ⟨rfl, by decide, by decide⟩ hY F
    (fun w H a ns hl _ hS => ⟨ns, trivial, .cons ⟨a, _, rfl, hS, Vr.of_ints⟩ .nil, fun v H2 r => by
      obtain ⟨u, e, hu⟩ := r.ok.head
      cases e
      exact hu⟩) fun _ _ _ _ _ z => z
end K58
open PySem PySem.W PyProof.Rows
set_option maxRecDepth 100000 in
set_option maxHeartbeats 0 in
theorem PySem.Challenge.cw_ownchecks_k58_whole_quarters_of_words_holds : PySem.Challenge.rw_ownchecks_k58_whole_quarters_of_words.Holds := by
  w_on; o_law; k_head; (case hw => w_witness2)
  k_fill
  refine K58.walk (l := PySem.Challenge.rw_ownchecks_k58_whole_quarters_of_words) rfl rfl (fun w h Y => PySem.W.kIn_of Y) ?F
  case F =>
    intro w mg fa h KX G hmg
    refine' K58.all_mk KX G hmg ?a0 ?l0 ?c0 ?k0 ?a1 ?l1 ?c1 ?k1 ?a2 ?l2 ?c2 ?k2 ?a3 ?l3 ?c3 ?k3 ?a4 ?l4 ?c4 ?k4 ?a5 ?l5 ?c5 ?k5 ?a6 ?l6 ?c6 ?k6 ?a7 ?l7 ?c7 ?k7 ?a8 ?l8 ?c8 ?k8 ?a9 ?l9 ?c9 ?k9 ?a10 ?l10 ?c10 ?k10 ?a11 ?l11 ?c11 ?k11 ?a12 ?l12 ?c12 ?k12 ?a13 ?l13 ?c13 ?k13 ?a14 ?l14 ?c14 ?k14 ?a15 ?l15 ?c15 ?k15 ?a16 ?l16 ?c16 ?k16 ?a17 ?l17 ?c17 ?k17 ?a18 ?l18 ?c18 ?k18 ?a19 ?l19 ?c19 ?k19 ?a20 ?l20 ?c20 ?k20 ?a21 ?l21 ?c21 ?k21 ?a22 ?l22 ?c22 ?k22 ?a23 ?l23 ?c23 ?k23 ?a24 ?i24 ?l24 ?c24 ?k24 ?a25 ?l25 ?c25 ?k25 ?a26 ?l26 ?c26 ?k26 ?a27 ?l27 ?c27 ?k27 ?a28 ?l28 ?c28 ?k28 ?a29 ?l29 ?c29 ?k29 ?a30 ?l30 ?c30 ?k30 ?a31 ?l31 ?c31 ?k31 ?a32 ?l32 ?c32 ?k32 ?a33 ?l33 ?c33 ?k33 ?a34 ?g34 ?t34 ?r34 ?l34 ?c34 ?k34 ?a35 ?g35 ?t35 ?r35 ?l35 ?c35 ?k35 ?a36 ?l36 ?c36 ?k36 ?a37 ?l37 ?c37 ?k37 ?a38 ?l38 ?c38 ?k38 ?a39 ?l39 ?c39 ?k39 ?a40 ?l40 ?c40 ?k40 ?a41 ?l41 ?c41 ?k41 ?a42 ?l42 ?c42 ?k42 ?a43 ?l43 ?c43 ?k43 ?a44 ?l44 ?c44 ?k44 ?a45 ?l45 ?c45 ?k45 ?a46 ?l46 ?c46 ?k46 ?a47 ?l47 ?c47 ?k47 ?a48 ?l48 ?c48 ?k48 ?a49 ?l49 ?c49 ?k49 ?a50 ?l50 ?c50 ?k50 ?a51 ?l51 ?c51 ?k51 ?a52 ?l52 ?c52 ?k52 ?aC ?pg ?hd ?po ?sa ?mk ?kc ?ca ?cn ?ctk ?cm ?nL ?nB ?nne ?z_max ?z_abs ?z_int ?z_len ?z_range ?z_sorted ?z_min ?z_tuple ?z_sum ?z_list ?z_isinstance ?z_bool ?z_all ?z_reversed ?z_set ?z_str ?z_repr ?z_enumerate ?z_zip ?z_divmod ?y_MOST_LENGTH ?y_MOST_WORDS
    (case aC => k_is)
    (case a0 => k_is)
    (case l0 => k_is)
    (case c0 => k_is)
    (case k0 => k_is)
    (case a1 => k_is)
    (case l1 => k_is)
    (case c1 => k_is)
    (case k1 => k_is)
    (case a2 => k_is)
    (case l2 => k_is)
    (case c2 => k_is)
    (case k2 => k_is)
    (case a3 => k_is)
    (case l3 => k_is)
    (case c3 => k_is)
    (case k3 => k_is)
    (case a4 => k_is)
    (case l4 => k_is)
    (case c4 => k_is)
    (case k4 => k_is)
    (case a5 => k_is)
    (case l5 => k_is)
    (case c5 => k_is)
    (case k5 => k_is)
    (case a6 => k_is)
    (case l6 => k_is)
    (case c6 => k_is)
    (case k6 => k_is)
    (case a7 => k_is)
    (case l7 => k_is)
    (case c7 => k_is)
    (case k7 => k_is)
    (case a8 => k_is)
    (case l8 => k_is)
    (case c8 => k_is)
    (case k8 => k_is)
    (case a9 => k_is)
    (case l9 => k_is)
    (case c9 => k_is)
    (case k9 => k_is)
    (case a10 => k_is)
    (case l10 => k_is)
    (case c10 => k_is)
    (case k10 => k_is)
    (case a11 => k_is)
    (case l11 => k_is)
    (case c11 => k_is)
    (case k11 => k_is)
    (case a12 => k_is)
    (case l12 => k_is)
    (case c12 => k_is)
    (case k12 => k_is)
    (case a13 => k_is)
    (case l13 => k_is)
    (case c13 => k_is)
    (case k13 => k_is)
    (case a14 => k_is)
    (case l14 => k_is)
    (case c14 => k_is)
    (case k14 => k_is)
    (case a15 => k_is)
    (case l15 => k_is)
    (case c15 => k_is)
    (case k15 => k_is)
    (case a16 => k_is)
    (case l16 => k_is)
    (case c16 => k_is)
    (case k16 => k_is)
    (case a17 => k_is)
    (case l17 => k_is)
    (case c17 => k_is)
    (case k17 => k_is)
    (case a18 => k_is)
    (case l18 => k_is)
    (case c18 => k_is)
    (case k18 => k_is)
    (case a19 => k_is)
    (case l19 => k_is)
    (case c19 => k_is)
    (case k19 => k_is)
    (case a20 => k_is)
    (case l20 => k_is)
    (case c20 => k_is)
    (case k20 => k_is)
    (case a21 => k_is)
    (case l21 => k_is)
    (case c21 => k_is)
    (case k21 => k_is)
    (case a22 => k_is)
    (case l22 => k_is)
    (case c22 => k_is)
    (case k22 => k_is)
    (case a23 => k_is)
    (case l23 => k_is)
    (case c23 => k_is)
    (case k23 => k_is)
    (case a24 => k_is)
    (case i24 => k_is)
    (case l24 => k_is)
    (case c24 => k_is)
    (case k24 => k_is)
    (case a25 => k_is)
    (case l25 => k_is)
    (case c25 => k_is)
    (case k25 => k_is)
    (case a26 => k_is)
    (case l26 => k_is)
    (case c26 => k_is)
    (case k26 => k_is)
    (case a27 => k_is)
    (case l27 => k_is)
    (case c27 => k_is)
    (case k27 => k_is)
    (case a28 => k_is)
    (case l28 => k_is)
    (case c28 => k_is)
    (case k28 => k_is)
    (case a29 => k_is)
    (case l29 => k_is)
    (case c29 => k_is)
    (case k29 => k_is)
    (case a30 => k_is)
    (case l30 => k_is)
    (case c30 => k_is)
    (case k30 => k_is)
    (case a31 => k_is)
    (case l31 => k_is)
    (case c31 => k_is)
    (case k31 => k_is)
    (case a32 => k_is)
    (case l32 => k_is)
    (case c32 => k_is)
    (case k32 => k_is)
    (case a33 => k_is)
    (case l33 => k_is)
    (case c33 => k_is)
    (case k33 => k_is)
    (case a34 => k_is)
    (case g34 => k_is)
    (case t34 => k_is)
    (case r34 => exact ⟨_, by k_is⟩)
    (case l34 => k_is)
    (case c34 => k_is)
    (case k34 => k_is)
    (case a35 => k_is)
    (case g35 => k_is)
    (case t35 => k_is)
    (case r35 => exact ⟨_, by k_is⟩)
    (case l35 => k_is)
    (case c35 => k_is)
    (case k35 => k_is)
    (case a36 => k_is)
    (case l36 => k_is)
    (case c36 => k_is)
    (case k36 => k_is)
    (case a37 => k_is)
    (case l37 => k_is)
    (case c37 => k_is)
    (case k37 => k_is)
    (case a38 => k_is)
    (case l38 => k_is)
    (case c38 => k_is)
    (case k38 => k_is)
    (case a39 => k_is)
    (case l39 => k_is)
    (case c39 => k_is)
    (case k39 => k_is)
    (case a40 => k_is)
    (case l40 => k_is)
    (case c40 => k_is)
    (case k40 => k_is)
    (case a41 => k_is)
    (case l41 => k_is)
    (case c41 => k_is)
    (case k41 => k_is)
    (case a42 => k_is)
    (case l42 => k_is)
    (case c42 => k_is)
    (case k42 => k_is)
    (case a43 => k_is)
    (case l43 => k_is)
    (case c43 => k_is)
    (case k43 => k_is)
    (case a44 => k_is)
    (case l44 => k_is)
    (case c44 => k_is)
    (case k44 => k_is)
    (case a45 => k_is)
    (case l45 => k_is)
    (case c45 => k_is)
    (case k45 => k_is)
    (case a46 => k_is)
    (case l46 => k_is)
    (case c46 => k_is)
    (case k46 => k_is)
    (case a47 => k_is)
    (case l47 => k_is)
    (case c47 => k_is)
    (case k47 => k_is)
    (case a48 => k_is)
    (case l48 => k_is)
    (case c48 => k_is)
    (case k48 => k_is)
    (case a49 => k_is)
    (case l49 => k_is)
    (case c49 => k_is)
    (case k49 => k_is)
    (case a50 => k_is)
    (case l50 => k_is)
    (case c50 => k_is)
    (case k50 => k_is)
    (case a51 => k_is)
    (case l51 => k_is)
    (case c51 => k_is)
    (case k51 => k_is)
    (case a52 => k_is)
    (case l52 => k_is)
    (case c52 => k_is)
    (case k52 => k_is)
    (case pg => k_is)
    (case hd => k_is)
    (case po => k_is)
    (case sa => k_is)
    (case mk => k_is)
    (case kc => k_is)
    (case ca => k_is)
    (case cn => k_is)
    (case ctk => k_is)
    (case cm => k_is)
    (case nL => k_is)
    (case nB => k_is)
    (case nne => k_is)
    (case z_max => k_is)
    (case z_abs => k_is)
    (case z_int => k_is)
    (case z_len => k_is)
    (case z_range => k_is)
    (case z_sorted => k_is)
    (case z_min => k_is)
    (case z_tuple => k_is)
    (case z_sum => k_is)
    (case z_list => k_is)
    (case z_isinstance => k_is)
    (case z_bool => k_is)
    (case z_all => k_is)
    (case z_reversed => k_is)
    (case z_set => k_is)
    (case z_str => k_is)
    (case z_repr => k_is)
    (case z_enumerate => k_is)
    (case z_zip => k_is)
    (case z_divmod => k_is)
    (case y_MOST_LENGTH => exact ⟨_, by k_is⟩)
    (case y_MOST_WORDS => exact ⟨_, by k_is⟩)
