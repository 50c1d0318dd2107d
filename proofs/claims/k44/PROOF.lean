import PyProof.Rows.All
import Wide.All
import OpenK.AllK
import Wide.FinOn
import HandS.ForMost
import HandS.Walk
import HandS.IsInst
import HandS.TupAny
import HandS.SortInts
import HandS.Conv
import HandS.Codes
import HandS.Defaults
import HandS.Property
import HandS.Style
import HandS.ClsMeth
import HandS.SlotsOwn
import HandS.Zip
import HandS.SetFor
import HandS.Strs
import HandS.DictComp
import HandS.Deep
import HandS.WordsDict
import HandS.Head0
import HandS.Head1
import HandS.Head2
import HandS.HeadEnd
import HandS.HeadHook1
import HandS.HeadHook2
import HandS.HeadHook3
import HandS.HeadHook4
import HandS.HeadNt
import PySem.Challenge.RW_newsbooks_k44_two_levels_and_sinks
set_option Elab.async false
set_option linter.all false
set_option maxRecDepth 100000
set_option autoImplicit false
section
set_option maxHeartbeats 4000000
namespace DT
open PySem PySem.Spec PyProof.Rows L2

/-- plain data -/
inductive D where
  | non | bl (b : Bool) | int (i : Int) | str (x : Str) | ty (n : String) | at (a : Addr)
  | tup (xs : List D) | lst (xs : List D) | row (xs : List D) | ins (C : Addr) (fs : List (Str × D)) | set (ns : List Int) | dic (ks : List (Int × D))

mutual
inductive Rep (K : PySem.W.Frag) (H : Hp) : V → D → Prop
  | non : Rep K H .non .non
  | bl (b : Bool) : Rep K H (.bl b) (.bl b)
  | int (i : Int) : Rep K H (.int i) (.int i)
  | str (x : Str) : Rep K H (.str x) (.str x)
  | ty (n : String) : Rep K H (.ty n) (.ty n)
  | at (a : Addr) : Rep K H (.ref a) (.at a)
  | tup {a : Addr} {vs : List V} {ds : List D} : SqT K H a vs → Reps K H vs ds → Rep K H (.ref a) (.tup ds)
  | lst {a : Addr} {vs : List V} {ds : List D} : H a = some (.lst vs) → Reps K H vs ds → Rep K H (.ref a) (.lst ds)
  | row {a : Addr} {vs : List V} {ds : List D} : SqL K H a vs → Reps K H vs ds → Rep K H (.ref a) (.row ds)
  | ins {a C dx : Addr} {fs : List (Str × V)} {gs : List (Str × D)} : H a = some (.ins C dx fs) → RepF K H fs gs → Rep K H (.ref a) (.ins C gs)
  | dic {a : Addr} {us : List (Key × V)} {ks : List (Int × D)} : H a = some (.dK us) → RepK K H us ks → Rep K H (.ref a) (.dic ks)
  | set {a : Addr} {S : Int → Bool} {ns : List Int} : H a = some (.set S ns.length) → (∀ i, S i = true ↔ i ∈ ns) → ns.Pairwise (· < ·) → Rep K H (.ref a) (.set ns)
inductive Reps (K : PySem.W.Frag) (H : Hp) : List V → List D → Prop
  | nil : Reps K H [] []
  | cons {v : V} {vs : List V} {d : D} {ds : List D} : Rep K H v d → Reps K H vs ds → Reps K H (v :: vs) (d :: ds)
inductive RepK (K : PySem.W.Frag) (H : Hp) : List (Key × V) → List (Int × D) → Prop
  | nil : RepK K H [] []
  | cons {k : Int} {v : V} {us : List (Key × V)} {d : D} {ks : List (Int × D)} : Rep K H v d → RepK K H us ks → RepK K H ((Sum.inl k, v) :: us) ((k, d) :: ks)
inductive RepF (K : PySem.W.Frag) (H : Hp) : List (Str × V) → List (Str × D) → Prop
  | nil : RepF K H [] []
  | cons {f : Str} {v : V} {fs : List (Str × V)} {d : D} {gs : List (Str × D)} : Rep K H v d → RepF K H fs gs → RepF K H ((f, v) :: fs) ((f, d) :: gs)
end

section
variable {K : PySem.W.Frag} {H H' : Hp}
theorem seqT {a : Addr} {xs : List V} (e : Same H H') (h : SqT K H a xs) : SqT K H' a xs := by
  rcases h with (h | ⟨o, h⟩) | h
  · exact .inl (.inl (e _ _ h))
  · exact .inl (.inr ⟨o, e _ _ h⟩)
  · exact .inr h
mutual
theorem Rep.mono (e : Same H H') : ∀ {v : V} {d : D}, Rep K H v d → Rep K H' v d
  | _, _, .non => .non
  | _, _, .bl b => .bl b
  | _, _, .int i => .int i
  | _, _, .str x => .str x
  | _, _, .ty n => .ty n
  | _, _, .at a => .at a
  | _, _, .tup h r => .tup (seqT e h) (Reps.mono e r)
  | _, _, .lst h r => .lst (e _ _ h) (Reps.mono e r)
  | _, _, .row h r => .row (e.seq h) (Reps.mono e r)
  | _, _, .ins h r => .ins (e _ _ h) (RepF.mono e r)
  | _, _, .set h r p => .set (e _ _ h) r p
  | _, _, .dic h r => .dic (e _ _ h) (RepK.mono e r)
theorem Reps.mono (e : Same H H') : ∀ {vs : List V} {ds : List D}, Reps K H vs ds → Reps K H' vs ds
  | _, _, .nil => .nil
  | _, _, .cons r t => .cons (Rep.mono e r) (Reps.mono e t)
theorem RepK.mono (e : Same H H') : ∀ {us : List (Key × V)} {ks : List (Int × D)}, RepK K H us ks → RepK K H' us ks
  | _, _, .nil => .nil
  | _, _, .cons r t => .cons (Rep.mono e r) (RepK.mono e t)
theorem RepF.mono (e : Same H H') : ∀ {fs : List (Str × V)} {gs : List (Str × D)}, RepF K H fs gs → RepF K H' fs gs
  | _, _, .nil => .nil
  | _, _, .cons r t => .cons (Rep.mono e r) (RepF.mono e t)
end
theorem Reps.length : ∀ {vs : List V} {ds : List D}, Reps K H vs ds → vs.length = ds.length
  | _, _, .nil => rfl
  | _, _, .cons _ t => by simp [t.length]
theorem Reps.get : ∀ {vs : List V} {ds : List D} {i : Nat} {v : V}, Reps K H vs ds → vs[i]? = some v → ∃ d, ds[i]? = some d ∧ Rep K H v d
  | _, _, _, _, .nil, e => by simp at e
  | _, _, 0, _, .cons r _, e => by simp at e; subst e; exact ⟨_, rfl, r⟩
  | _, _, i + 1, v, .cons _ t, e => by
    obtain ⟨d, h1, h2⟩ := Reps.get (i := i) (v := v) t (by simpa using e)
    exact ⟨d, by simpa using h1, h2⟩
theorem Reps.getD : ∀ {vs : List V} {ds : List D} {i : Nat} {d : D}, Reps K H vs ds → ds[i]? = some d → ∃ v, vs[i]? = some v ∧ Rep K H v d
  | _, _, _, _, .nil, e => by simp at e
  | _, _, 0, _, .cons r _, e => by simp at e; subst e; exact ⟨_, rfl, r⟩
  | _, _, i + 1, d, .cons _ t, e => by
    obtain ⟨v, h1, h2⟩ := Reps.getD (i := i) (d := d) t (by simpa using e)
    exact ⟨v, by simpa using h1, h2⟩
theorem Reps.append : ∀ {vs us : List V} {ds es : List D}, Reps K H vs ds → Reps K H us es → Reps K H (vs ++ us) (ds ++ es)
  | _, _, _, _, .nil, s => s
  | _, _, _, _, .cons r t, s => .cons r (t.append s)
theorem Reps.take : ∀ {vs : List V} {ds : List D} (n : Nat), Reps K H vs ds → Reps K H (vs.take n) (ds.take n)
  | _, _, 0, _ => by simp; exact .nil
  | _, _, n + 1, .nil => by simp; exact .nil
  | _, _, n + 1, .cons r t => .cons r (t.take n)
theorem Reps.drop : ∀ {vs : List V} {ds : List D} (n : Nat), Reps K H vs ds → Reps K H (vs.drop n) (ds.drop n)
  | _, _, 0, r => by simpa using r
  | _, _, n + 1, .nil => by simp; exact .nil
  | _, _, n + 1, .cons r t => by simpa using t.drop n
theorem Reps.set {v : V} {d : D} (q : Rep K H v d) : ∀ {vs : List V} {ds : List D} (i : Nat), Reps K H vs ds → Reps K H (vs.set i v) (ds.set i d)
  | _, _, _, .nil => .nil
  | _, _, 0, .cons r t => .cons q t
  | _, _, n + 1, .cons r t => .cons r (t.set q n)
theorem Reps.eraseIdx : ∀ {vs : List V} {ds : List D} (i : Nat), Reps K H vs ds → Reps K H (vs.eraseIdx i) (ds.eraseIdx i)
  | _, _, _, .nil => .nil
  | _, _, 0, .cons r t => t
  | _, _, n + 1, .cons r t => .cons r (t.eraseIdx n)
theorem Reps.ints {vs : List V} : ∀ {ns : List Int}, Reps K H vs (ns.map D.int) → vs = ns.map V.int
  | [], h => by cases h; rfl
  | n :: ns, h => by
    cases h with
    | cons r t => cases r; rw [t.ints]; rfl
theorem reps_ints : ∀ {ns : List Int}, Reps K H (ns.map V.int) (ns.map D.int)
  | [] => .nil
  | n :: ns => .cons (.int n) reps_ints
theorem Reps.bls {vs : List V} : ∀ {ns : List Bool}, Reps K H vs (ns.map D.bl) → vs = ns.map V.bl
  | [], h => by cases h; rfl
  | n :: ns, h => by
    cases h with
    | cons r t => cases r; rw [t.bls]; rfl
theorem RepF.look : ∀ {fs : List (Str × V)} {gs : List (Str × D)} {f : Str} {d : D}, RepF K H fs gs → gs.lookup f = some d → ∃ v, fs.lookup f = some v ∧ Rep K H v d
  | _, _, _, _, .nil, e => by simp at e
  | _, _, f, d, .cons (f := f') r t, e => by
    rw [List.lookup_cons] at e ⊢
    split at e
    · cases e; exact ⟨_, rfl, r⟩
    · exact t.look e
theorem RepF.lookN : ∀ {fs : List (Str × V)} {gs : List (Str × D)} {f : Str}, RepF K H fs gs → gs.lookup f = none → fs.lookup f = none
  | _, _, _, .nil, e => by simp
  | _, _, f, .cons (f := f') r t, e => by
    rw [List.lookup_cons] at e ⊢
    split at e
    · cases e
    · exact t.lookN e
end

/-- a slot, by data -/
inductive S where
  | un | dat (d : D) | own (ds : List D) | slf (C : Addr) (fs : List (Str × D))
/-- what the def alone may change -/
def S.mine : S → Bool
  | .own _ => true
  | .slf _ _ => true
  | _ => false

/-- a def's entry: the heap, its frozen part, the lists that it may change -/
structure Fm where
  H0 : Hp
  f0 : Hp
  io : List (Nat × Addr)

def SOk (K : PySem.W.Frag) (Hf H : Hp) (v : Option (Option V)) : S → Prop
  | .un => True
  | .dat d => ∃ x, v = some (some x) ∧ Rep K Hf x d
  | .own ds => ∃ a vs, v = some (some (.ref a)) ∧ H a = some (.lst vs) ∧ Hf a = none ∧ Reps K Hf vs ds
  | .slf C fs => ∃ a dx vs, v = some (some (.ref a)) ∧ H a = some (.ins C dx vs) ∧ Hf a = none ∧ RepF K Hf vs fs

structure Rel (K : PySem.W.Frag) (F : Fm) (Hf H : Hp) (σ : L2.St) (δ : List S) : Prop where
  sub : Same Hf H
  f0 : Same F.f0 Hf
  keep : ∀ b o, F.H0 b = some o → (∀ p ∈ F.io, p.2 ≠ b) → H b = some o
  nf : ∀ b o, F.H0 b = some o → F.f0 b = none → Hf b = none
  len : σ.length = δ.length
  sl : ∀ (i : Nat) (s : S), δ[i]? = some s → SOk K Hf H σ[i]? s
  dis : ∀ (i j : Nat) (a : Addr) (s t : S), δ[i]? = some s → s.mine = true → δ[j]? = some t → t.mine = true → σ[i]? = some (some (.ref a)) → σ[j]? = some (some (.ref a)) → i = j
  io : ∀ p ∈ F.io, σ[p.1]? = some (some (.ref p.2)) ∧ ∃ s, δ[p.1]? = some s ∧ s.mine = true
  fr : ∀ (i : Nat) (s : S) (a : Addr), δ[i]? = some s → s.mine = true → σ[i]? = some (some (.ref a)) → F.H0 a = none ∨ ∃ p ∈ F.io, p.1 = i

theorem SOk.there {K : PySem.W.Frag} {Hf H : Hp} {v : Option (Option V)} {s : S} (h : SOk K Hf H v s) (m : s.mine = true) : ∃ a o, v = some (some (.ref a)) ∧ H a = some o ∧ Hf a = none := by
  cases s with
  | own ds => obtain ⟨a, vs, h1, h2, h3, _⟩ := h; exact ⟨a, _, h1, h2, h3⟩
  | slf C fs => obtain ⟨a, dx, vs, h1, h2, h3, _⟩ := h; exact ⟨a, _, h1, h2, h3⟩
  | _ => cases m
/-- the slots are as they were, where what the def may change stands as it stood -/
theorem SOk.stay {K : PySem.W.Frag} {Hf H Hf' H' : Hp} {v : Option (Option V)} {s : S} (h : SOk K Hf H v s) (sm : Same Hf Hf') (k : s.mine = true → ∀ a o, v = some (some (.ref a)) → H a = some o → H' a = some o ∧ Hf' a = none) : SOk K Hf' H' v s := by
  cases s with
  | un => trivial
  | dat d => obtain ⟨x, h1, h2⟩ := h; exact ⟨x, h1, h2.mono sm⟩
  | own ds =>
    obtain ⟨a, vs, h1, h2, h3, h4⟩ := h
    obtain ⟨g1, g2⟩ := k rfl a _ h1 h2
    exact ⟨a, vs, h1, g1, g2, h4.mono sm⟩
  | slf C fs =>
    obtain ⟨a, dx, vs, h1, h2, h3, h4⟩ := h
    obtain ⟨g1, g2⟩ := k rfl a _ h1 h2
    exact ⟨a, dx, vs, h1, g1, g2, h4.mono sm⟩
section
variable {K : PySem.W.Frag} {F : Fm} {Hf H : Hp} {σ : L2.St} {δ : List S}
/-- an address that is not in use is the entry's neither -/
theorem Rel.none0 (R : Rel K F Hf H σ δ) {p : Addr} (hp : H p = none) : F.H0 p = none := by
  cases e : F.H0 p with
  | none => rfl
  | some u =>
    exfalso
    by_cases q : ∀ r ∈ F.io, r.2 ≠ p
    · rw [R.keep p u e q] at hp; cases hp
    · apply q
      intro r hr he
      obtain ⟨h1, s, h2, m⟩ := R.io r hr
      obtain ⟨a, o, q1, q2, _⟩ := (R.sl _ _ h2).there m
      rw [h1] at q1; cases q1
      rw [he, hp] at q2; cases q2
/-- a new object, frozen at once -/
theorem Rel.new (R : Rel K F Hf H σ δ) {p : Addr} {o : HO} (hp : H p = none) : Rel K F (upd Hf p o) (upd H p o) σ δ := by
  have hf : Hf p = none := R.sub.free hp
  have sm : Same Hf (upd Hf p o) := fun b u e => by rw [upd_ne (ne_of_none e hf)]; exact e
  refine ⟨fun b u e => ?_, R.f0.trans sm, fun b u e n => ?_, fun b u e n => ?_, R.len, fun i s e => ?_, R.dis, R.io, R.fr⟩
  · by_cases hb : b = p
    · subst hb; rw [upd_same] at e ⊢; exact e
    · rw [upd_ne hb] at e ⊢; exact R.sub b u e
  · have := R.keep b u e n
    rw [upd_ne (ne_of_none this hp)]; exact this
  · rw [upd_ne (ne_of_none e (R.none0 hp))]; exact R.nf b u e n
  · refine (R.sl i s e).stay sm fun m a u e1 e2 => ?_
    have ne : a ≠ p := ne_of_none e2 hp
    obtain ⟨a', o', q1, q2, q3⟩ := (R.sl i s e).there m
    rw [e1] at q1; cases q1
    exact ⟨by rw [upd_ne ne]; exact e2, by rw [upd_ne ne]; exact q3⟩
theorem Rel.same_new (R : Rel K F Hf H σ δ) {p : Addr} {o : HO} (hp : H p = none) : Same Hf (upd Hf p o) := fun b u e => by rw [upd_ne (ne_of_none e (R.sub.free hp))]; exact e
/-- a new object, not frozen -/
theorem Rel.newO (R : Rel K F Hf H σ δ) {p : Addr} {o : HO} (hp : H p = none) : Rel K F Hf (upd H p o) σ δ := by
  refine ⟨fun b u e => ?_, R.f0, fun b u e n => ?_, R.nf, R.len, fun i s e => ?_, R.dis, R.io, R.fr⟩
  · have := R.sub b u e
    rw [upd_ne (ne_of_none this hp)]; exact this
  · have := R.keep b u e n
    rw [upd_ne (ne_of_none this hp)]; exact this
  · refine (R.sl i s e).stay (Same.refl _) fun m a u e1 e2 => ?_
    obtain ⟨a', o', q1, q2, q3⟩ := (R.sl i s e).there m
    rw [e1] at q1; cases q1
    exact ⟨by rw [upd_ne (ne_of_none e2 hp)]; exact e2, q3⟩
/-- an own slot's list, frozen -/
theorem Rel.freeze (R : Rel K F Hf H σ δ) {i : Nat} {ds : List D} (h : δ[i]? = some (.own ds)) (hio : ∀ p ∈ F.io, p.1 ≠ i) :
    ∃ a vs, σ[i]? = some (some (.ref a)) ∧ Same Hf (upd Hf a (.lst vs)) ∧ Rel K F (upd Hf a (.lst vs)) H σ (δ.set i (.dat (.lst ds))) ∧ Rep K (upd Hf a (.lst vs)) (.ref a) (.lst ds) := by
  obtain ⟨a, vs, h1, h2, h3, h4⟩ := R.sl i _ h
  have sm : Same Hf (upd Hf a (.lst vs)) := fun b u e => by rw [upd_ne (ne_of_none e h3)]; exact e
  have rp : Rep K (upd Hf a (.lst vs)) (.ref a) (.lst ds) := .lst upd_same (h4.mono sm)
  have hl : i < δ.length := (List.getElem?_eq_some_iff.mp h).1
  have outside : ∀ {j : Nat} {s : S}, (δ.set i (.dat (.lst ds)))[j]? = some s → s.mine = true → j ≠ i ∧ δ[j]? = some s := fun {j s} e m => by
    by_cases hj : i = j
    · subst hj
      rw [List.getElem?_set_self hl] at e; cases e; cases m
    · rw [List.getElem?_set_ne hj] at e
      exact ⟨fun z => hj z.symm, e⟩
  refine ⟨a, vs, h1, sm, ⟨fun b u e => ?_, R.f0.trans sm, R.keep, fun b u e n => ?_, by rw [List.length_set]; exact R.len, fun j s e => ?_, fun j k b es fs e1 m1 e2 m2 e3 e4 => ?_, fun p hp => ?_, fun j s b e1 m e2 => ?_⟩, rp⟩
  · by_cases hb : b = a
    · subst hb; rw [upd_same] at e; cases e; exact h2
    · rw [upd_ne hb] at e; exact R.sub b u e
  · have ne : b ≠ a := fun z => by
      subst z
      rcases R.fr i _ b h rfl h1 with q | ⟨p, hp, q⟩
      · rw [q] at e; cases e
      · exact hio p hp q
    rw [upd_ne ne]; exact R.nf b u e n
  · by_cases hj : i = j
    · subst hj
      rw [List.getElem?_set_self hl] at e
      cases e
      exact ⟨_, h1, rp⟩
    · rw [List.getElem?_set_ne hj] at e
      refine (R.sl j s e).stay sm fun m b u e1 e2 => ?_
      obtain ⟨b', o', q1, q2, q3⟩ := (R.sl j s e).there m
      rw [e1] at q1; cases q1
      have ne : b ≠ a := fun z => by
        subst z
        exact hj (R.dis i j b _ _ h rfl e m h1 e1)
      exact ⟨e2, by rw [upd_ne ne]; exact q3⟩
  · exact R.dis j k b es fs (outside e1 m1).2 m1 (outside e2 m2).2 m2 e3 e4
  · obtain ⟨g1, s, g2, m⟩ := R.io p hp
    refine ⟨g1, s, ?_, m⟩
    rw [List.getElem?_set_ne (Ne.symm (hio p hp))]
    exact g2
  · exact R.fr j s b (outside e1 m).2 m e2
end
end DT
end
section
set_option maxHeartbeats 4000000
namespace DT
open PySem PySem.Spec PyProof.Rows L2

abbrev WE := List S → (D → List S → Prop) → Prop
abbrev WA := List S → (List D → List S → Prop) → Prop
abbrev WT := List S → (Bool → List S → Prop) → Prop
/-- an own list that stands stays with the same items -/
def Kp (δ δ' : List S) : Prop := ∀ (i : Nat) (ds : List D), δ[i]? = some (.own ds) → δ'[i]? = some (.own ds)
theorem Kp.refl (δ : List S) : Kp δ δ := fun _ _ h => h
/-- a value as it can be read: frozen data, or an own slot's list -/
def PRep (K : PySem.W.Frag) (Hf : Hp) (σ : L2.St) (δ : List S) (v : V) (d : D) : Prop :=
  Rep K Hf v d ∨ ∃ (i : Nat) (ds : List D), d = .lst ds ∧ δ[i]? = some (.own ds) ∧ σ[i]? = some (some v)
/-- a new list that nothing else knows -/
structure New (K : PySem.W.Frag) (F : Fm) (Hf H : Hp) (σ : L2.St) (δ : List S) (p : Addr) (ds : List D) : Prop where
  ex : ∃ vs, H p = some (.lst vs) ∧ Reps K Hf vs ds
  nf : Hf p = none
  h0 : F.H0 p = none
  ne : ∀ (i : Nat) (s : S) (a : Addr), δ[i]? = some s → s.mine = true → σ[i]? = some (some (.ref a)) → a ≠ p

def liftE (K : PySem.W.Frag) (F : Fm) (t : WE) : TE := fun σ H Q => ∃ Hf δ P, Rel K F Hf H σ δ ∧ t δ P ∧
  ∀ d δ', P d δ' → ∀ Hf' H' v, Same Hf Hf' → Rel K F Hf' H' σ δ' → Rep K Hf' v d → Q v H'
def liftP (K : PySem.W.Frag) (F : Fm) (t : WE) : TE := fun σ H Q => ∃ Hf δ P, Rel K F Hf H σ δ ∧ t δ P ∧
  ∀ d δ', P d δ' → ∀ Hf' H' v, Same Hf Hf' → Rel K F Hf' H' σ δ' → PRep K Hf' σ δ' v d → Q v H'
def liftN (K : PySem.W.Frag) (F : Fm) (t : WA) : TE := fun σ H Q => ∃ Hf δ P, Rel K F Hf H σ δ ∧ t δ P ∧
  ∀ ds δ', P ds δ' → ∀ Hf' H' p, Same Hf Hf' → Rel K F Hf' H' σ δ' → New K F Hf' H' σ δ' p ds → Q (.ref p) H'
def liftA (K : PySem.W.Frag) (F : Fm) (t : WA) : TA := fun σ H Q => ∃ Hf δ P, Rel K F Hf H σ δ ∧ t δ P ∧
  ∀ ds δ', P ds δ' → ∀ Hf' H' vs, Same Hf Hf' → Rel K F Hf' H' σ δ' → Reps K Hf' vs ds → Q vs H'
def liftT (K : PySem.W.Frag) (F : Fm) (t : WT) : TT := fun σ H Q => ∃ Hf δ P, Rel K F Hf H σ δ ∧ t δ P ∧
  ∀ b δ', P b δ' → ∀ Hf' H', Same Hf Hf' → Rel K F Hf' H' σ δ' → Q b H'
def DE (X : Cx) (F : Fm) (e : Expr) (t : WE) : Prop := PE X e (liftE X.K F t)
def DP (X : Cx) (F : Fm) (e : Expr) (t : WE) : Prop := PE X e (liftP X.K F t)
def DN (X : Cx) (F : Fm) (e : Expr) (t : WA) : Prop := PE X e (liftN X.K F t)
def DA (X : Cx) (F : Fm) (es : List Expr) (t : WA) : Prop := PA X es (liftA X.K F t)
def DTe (X : Cx) (F : Fm) (e : Expr) (t : WT) : Prop := PT X e (liftT X.K F t)
def DW (X : Cx) (F : Fm) (e : Expr) (t : WT) : Prop := PW X e (liftT X.K F t)

section
variable {X : Cx} {F : Fm} {e a b : Expr} {es : List Expr} {pos : Pos}
theorem PE.imp {t t' : TE} (h : PE X e t) (k : ∀ σ H Q, t' σ H Q → t σ H Q) : PE X e t' := ⟨fun pins s σ H Q I q => h.run pins s σ H Q I (k σ H Q q)⟩
theorem PT.imp {t t' : TT} (h : PT X e t) (k : ∀ σ H Q, t' σ H Q → t σ H Q) : PT X e t' := ⟨fun pins s σ H Q I q => h.run pins s σ H Q I (k σ H Q q)⟩
theorem PW.imp {t t' : TT} (h : PW X e t) (k : ∀ σ H Q, t' σ H Q → t σ H Q) : PW X e t' := ⟨fun w pins s σ H Q I q => h.run w pins s σ H Q I (k σ H Q q)⟩
theorem PA.imp {t t' : TA} (h : PA X es t) (k : ∀ σ H Q, t' σ H Q → t σ H Q) : PA X es t' := ⟨fun p pins s σ H Q I q => h.run p pins s σ H Q I (k σ H Q q)⟩

theorem DE.imp {t t' : WE} (h : DE X F e t) (k : ∀ δ P, t' δ P → t δ P) : DE X F e t' := PE.imp h fun σ H Q ⟨Hf, δ, P, R, q, z⟩ => ⟨Hf, δ, P, R, k _ _ q, z⟩
theorem DE.dp {t : WE} (h : DE X F e t) : DP X F e t := PE.imp h fun σ H Q ⟨Hf, δ, P, R, q, z⟩ => ⟨Hf, δ, P, R, q, fun d δ' p Hf' H' v s R' r => z d δ' p Hf' H' v s R' (.inl r)⟩

/-! ### a list of nobody, frozen -/
section
variable {K : PySem.W.Frag} {Hf H : Hp} {σ : L2.St} {δ : List S} {p : Addr} {ds : List D}
theorem Rel.frz (R : Rel K F Hf H σ δ) (n : New K F Hf H σ δ p ds) : ∃ vs, Same Hf (upd Hf p (.lst vs)) ∧ Rel K F (upd Hf p (.lst vs)) H σ δ ∧ Rep K (upd Hf p (.lst vs)) (.ref p) (.lst ds) := by
  obtain ⟨vs, h2, h4⟩ := n.ex
  have sm : Same Hf (upd Hf p (.lst vs)) := fun b u e => by rw [upd_ne (ne_of_none e n.nf)]; exact e
  have rp : Rep K (upd Hf p (.lst vs)) (.ref p) (.lst ds) := .lst upd_same (h4.mono sm)
  refine ⟨vs, sm, ⟨fun b u e => ?_, R.f0.trans sm, R.keep, fun b u e q => ?_, R.len, fun j s e => ?_, R.dis, R.io, R.fr⟩, rp⟩
  · by_cases hb : b = p
    · subst hb; rw [upd_same] at e; cases e; exact h2
    · rw [upd_ne hb] at e; exact R.sub b u e
  · rw [upd_ne (ne_of_none e n.h0)]; exact R.nf b u e q
  · refine (R.sl j s e).stay sm fun m b u e1 e2 => ?_
    obtain ⟨b', o', q1, q2, q3⟩ := (R.sl j s e).there m
    rw [e1] at q1; cases q1
    exact ⟨e2, by rw [upd_ne (n.ne j s b e m e1)]; exact q3⟩
theorem Rel.newN (R : Rel K F Hf H σ δ) {vs : List V} (hp : H p = none) (r : Reps K Hf vs ds) : Rel K F Hf (upd H p (.lst vs)) σ δ ∧ New K F Hf (upd H p (.lst vs)) σ δ p ds :=
  ⟨R.newO hp, ⟨vs, upd_same, r⟩, R.sub.free hp, R.none0 hp, fun i s a e m g => by
    obtain ⟨b, o, g1, g2, _⟩ := (R.sl i _ e).there m
    rw [g] at g1; cases g1
    exact ne_of_none g2 hp⟩
/-- what a readable list is -/
theorem PRep.seq (R : Rel K F Hf H σ δ) {v : V} (h : PRep K Hf σ δ v (.lst ds)) : ∃ a vs, v = .ref a ∧ H a = some (.lst vs) ∧ Reps K Hf vs ds := by
  rcases h with h | ⟨i, es, e, h1, h2⟩
  · cases h with
    | lst h r => exact ⟨_, _, rfl, R.sub _ _ h, r⟩
  · cases e
    obtain ⟨a, vs, g1, g2, g3, g4⟩ := R.sl i _ h1
    rw [h2] at g1; cases g1
    exact ⟨a, vs, rfl, g2, g4⟩
theorem PRep.tupS (R : Rel K F Hf H σ δ) {v : V} (h : PRep K Hf σ δ v (.tup ds)) : ∃ a vs, v = .ref a ∧ SqT K H a vs ∧ Reps K Hf vs ds := by
  rcases h with h | ⟨i, es, e, h1, h2⟩
  · cases h with
    | tup h r => exact ⟨_, _, rfl, seqT R.sub h, r⟩
  · cases e
/-- list or tuple -/
def sq : D → Option (List D)
  | .tup ds => some ds
  | .lst ds => some ds
  | .row ds => some ds
  | _ => none
theorem PRep.sq (R : Rel K F Hf H σ δ) {v : V} {d : D} (h : PRep K Hf σ δ v d) (e : sq d = some ds) : ∃ a vs, v = .ref a ∧ (SqL K H a vs ∨ SqT K H a vs) ∧ Reps K Hf vs ds := by
  cases d <;> simp only [DT.sq] at e <;> try cases e
  · obtain ⟨a, vs, h1, h2, h3⟩ := h.tupS R; exact ⟨a, vs, h1, .inr h2, h3⟩
  · obtain ⟨a, vs, h1, h2, h3⟩ := h.seq R; exact ⟨a, vs, h1, .inl (SqL.of h2), h3⟩
  · rcases h with h | ⟨_, _, e, _⟩
    · cases h with
      | row h r => exact ⟨_, _, rfl, .inl (R.sub.seq h), r⟩
    · cases e
theorem PRep.intE {v : V} {i : Int} (h : PRep K Hf σ δ v (.int i)) : v = .int i := by
  rcases h with h | ⟨_, _, e, _⟩
  · cases h; rfl
  · cases e
theorem PRep.blE {v : V} {i : Bool} (h : PRep K Hf σ δ v (.bl i)) : v = .bl i := by
  rcases h with h | ⟨_, _, e, _⟩
  · cases h; rfl
  · cases e
theorem PRep.strE {v : V} {i : Str} (h : PRep K Hf σ δ v (.str i)) : v = .str i := by
  rcases h with h | ⟨_, _, e, _⟩
  · cases h; rfl
  · cases e
theorem PRep.nonE {v : V} (h : PRep K Hf σ δ v .non) : v = .non := by
  rcases h with h | ⟨_, _, e, _⟩
  · cases h; rfl
  · cases e
theorem PRep.keep {δ' : List S} {Hf' : Hp} {v : V} {d : D} (h : PRep K Hf σ δ v d) (s : Same Hf Hf') (k : Kp δ δ') : PRep K Hf' σ δ' v d := by
  rcases h with h | ⟨i, es, e, h1, h2⟩
  · exact .inl (h.mono s)
  · exact .inr ⟨i, es, e, k i es h1, h2⟩
end
/-- a new list, told as data -/
def wL (t : WA) : WE := fun δ P => t δ fun ds δ' => P (.lst ds) δ'
theorem DN.de {t : WA} (h : DN X F e t) : DE X F e (wL t) := PE.imp h fun σ H Q ⟨Hf, δ, P, R, q, z⟩ =>
  ⟨Hf, δ, _, R, q, fun ds δ' p Hf' H' a s R' n => by
    obtain ⟨vs, sm, R2, r⟩ := R'.frz n
    exact z (.lst ds) δ' p _ H' _ (s.trans sm) R2 r⟩

/-! ### names, constants -/
def wVar (i : Nat) : WE := fun δ P => ∃ d, δ[i]? = some (.dat d) ∧ P d δ
def wOwn (i : Nat) : WE := fun δ P => ∃ ds, δ[i]? = some (.own ds) ∧ P (.lst ds) δ
def wFrz (i : Nat) : WE := fun δ P => ∃ ds, δ[i]? = some (.own ds) ∧ P (.lst ds) (δ.set i (.dat (.lst ds)))
def wC (d : D) : WE := fun δ P => P d δ
theorem de_var {i : Nat} (h : PE X e (tVar i)) : DE X F e (wVar i) := PE.imp h fun σ H Q ⟨Hf, δ, P, R, ⟨d, e, p⟩, z⟩ => by
  obtain ⟨v, h1, h2⟩ := R.sl i _ e
  exact ⟨v, h1, z d δ p Hf H v (Same.refl _) R h2⟩
theorem dp_own {i : Nat} (h : PE X e (tVar i)) : DP X F e (wOwn i) := PE.imp h fun σ H Q ⟨Hf, δ, P, R, ⟨ds, e, p⟩, z⟩ => by
  obtain ⟨a, vs, h1, h2, h3, h4⟩ := R.sl i _ e
  exact ⟨.ref a, h1, z _ δ p Hf H _ (Same.refl _) R (.inr ⟨i, ds, rfl, e, h1⟩)⟩
theorem de_frz {i : Nat} (h : PE X e (tVar i)) (hio : ∀ p ∈ F.io, p.1 ≠ i) : DE X F e (wFrz i) := PE.imp h fun σ H Q ⟨Hf, δ, P, R, ⟨ds, e, p⟩, z⟩ => by
  obtain ⟨a, vs, h1, sm, R2, r⟩ := R.freeze e hio
  exact ⟨.ref a, h1, z _ _ p _ H _ sm R2 r⟩
theorem de_c {v : V} {d : D} (h : PE X e (tC v)) (r : ∀ K H, Rep K H v d) : DE X F e (wC d) := PE.imp h fun σ H Q ⟨Hf, δ, P, R, p, z⟩ => z d δ p Hf H v (Same.refl _) R (r _ _)
theorem de_int {i : Int} {j} : DE X F (.Constant (.int i) j pos) (wC (.int i)) := de_c pe_int fun _ _ => .int i
theorem de_bl {i : Bool} {j} : DE X F (.Constant (.bool i) j pos) (wC (.bl i)) := de_c pe_bl fun _ _ => .bl i
theorem de_non {j} : DE X F (.Constant .none j pos) (wC .non) := de_c pe_non fun _ _ => .non
theorem de_str {x : Str} {j} : DE X F (.Constant (.str x) j pos) (wC (.str x)) := de_c pe_str fun _ _ => .str x

/-! ### two operands -/
def R2D (K : PySem.W.Frag) (F : Fm) (r : R2) (g : D → D → (D → Prop) → Prop) : Prop := ∀ Hf H σ δ x y a b (P : D → Prop) (Q : VK), Rel K F Hf H σ δ → PRep K Hf σ δ x a → PRep K Hf σ δ y b → g a b P →
  (∀ c, P c → ∀ Hf' H' v, Same Hf Hf' → Rel K F Hf' H' σ δ → Rep K Hf' v c → Q v H') → r x y H Q
def R2N (K : PySem.W.Frag) (F : Fm) (r : R2) (g : D → D → (List D → Prop) → Prop) : Prop := ∀ Hf H σ δ x y a b (P : List D → Prop) (Q : VK), Rel K F Hf H σ δ → PRep K Hf σ δ x a → PRep K Hf σ δ y b → g a b P →
  (∀ c, P c → ∀ p vs, H p = none → Reps K Hf vs c → Q (.ref p) (upd H p (.lst vs))) → r x y H Q
def wBin (g : D → D → (D → Prop) → Prop) (ta tb : WE) : WE := fun δ P => ta δ fun x δ1 => tb δ1 fun y δ2 => g x y fun c => P c δ2
def wBinP (g : D → D → (D → Prop) → Prop) (ta tb : WE) : WE := fun δ P => ta δ fun x δ1 => tb δ1 fun y δ2 => Kp δ1 δ2 ∧ g x y fun c => P c δ2
def wBinN (g : D → D → (List D → Prop) → Prop) (ta tb : WE) : WA := fun δ P => ta δ fun x δ1 => tb δ1 fun y δ2 => Kp δ1 δ2 ∧ g x y fun c => P c δ2
section
variable {r : R2} {ta tb : WE}
theorem dbin {g : D → D → (D → Prop) → Prop} (rule : ∀ ta tb, PE X a ta → PE X b tb → PE X e (tOp r ta tb)) (hr : R2D X.K F r g) (ha : DE X F a ta) (hb : DP X F b tb) : DE X F e (wBin g ta tb) :=
  PE.imp (rule _ _ ha hb) fun σ H Q ⟨Hf, δ, P, R, h, k⟩ => ⟨Hf, δ, _, R, h, fun x δ1 h1 Hf1 H1 v s1 R1 r1 => ⟨Hf1, δ1, _, R1, h1, fun y δ2 h2 Hf2 H2 u s2 R2 r2 =>
    hr Hf2 H2 σ δ2 v u x y _ _ R2 (.inl (r1.mono s2)) r2 h2 fun c pc Hf3 H3 v3 s3 R3 r3 => k c δ2 pc Hf3 H3 v3 ((s1.trans s2).trans s3) R3 r3⟩⟩
theorem dbinP {g : D → D → (D → Prop) → Prop} (rule : ∀ ta tb, PE X a ta → PE X b tb → PE X e (tOp r ta tb)) (hr : R2D X.K F r g) (ha : DP X F a ta) (hb : DP X F b tb) : DE X F e (wBinP g ta tb) :=
  PE.imp (rule _ _ ha hb) fun σ H Q ⟨Hf, δ, P, R, h, k⟩ => ⟨Hf, δ, _, R, h, fun x δ1 h1 Hf1 H1 v s1 R1 r1 => ⟨Hf1, δ1, _, R1, h1, fun y δ2 h2 Hf2 H2 u s2 R2 r2 =>
    hr Hf2 H2 σ δ2 v u x y _ _ R2 (r1.keep s2 h2.1) r2 h2.2 fun c pc Hf3 H3 v3 s3 R3 r3 => k c δ2 pc Hf3 H3 v3 ((s1.trans s2).trans s3) R3 r3⟩⟩
theorem dbinN {g : D → D → (List D → Prop) → Prop} (rule : ∀ ta tb, PE X a ta → PE X b tb → PE X e (tOp r ta tb)) (hr : R2N X.K F r g) (ha : DP X F a ta) (hb : DP X F b tb) : DN X F e (wBinN g ta tb) :=
  PE.imp (rule _ _ ha hb) fun σ H Q ⟨Hf, δ, P, R, h, k⟩ => ⟨Hf, δ, _, R, h, fun x δ1 h1 Hf1 H1 v s1 R1 r1 => ⟨Hf1, δ1, _, R1, h1, fun y δ2 h2 Hf2 H2 u s2 R2 r2 =>
    hr Hf2 H2 σ δ2 v u x y _ _ R2 (r1.keep s2 h2.1) r2 h2.2 fun c pc p vs hp rv => k c δ2 pc Hf2 _ p (s1.trans s2) (R2.newN hp rv).1 (R2.newN hp rv).2⟩⟩
end

/-! ### the operators, by data -/
def gI (C : Int → Int → Prop) (f : Int → Int → D) : D → D → (D → Prop) → Prop := fun a b P => ∃ i j, a = .int i ∧ b = .int j ∧ C i j ∧ P (f i j)
theorem r2_rI0 {g : Int → Int → V} {f : Int → Int → D} {K : PySem.W.Frag} (hf : ∀ i j K H, Rep K H (g i j) (f i j)) : R2D K F (rI0 g) (gI (fun _ _ => True) f) := by
  rintro Hf H σ δ x y a b P Q R rx ry ⟨i, j, rfl, rfl, -, p⟩ k
  exact ⟨i, j, rx.intE, ry.intE, k _ p Hf H _ (Same.refl _) R (hf i j _ _)⟩
theorem r2_rI {g : Int → Int → V} {C : Int → Int → Prop} {f : Int → Int → D} {K : PySem.W.Frag} (hf : ∀ i j K H, Rep K H (g i j) (f i j)) : R2D K F (rI C g) (gI C f) := by
  rintro Hf H σ δ x y a b P Q R rx ry ⟨i, j, rfl, rfl, c, p⟩ k
  exact ⟨i, j, rx.intE, ry.intE, c, k _ p Hf H _ (Same.refl _) R (hf i j _ _)⟩
def T2 : Int → Int → Prop := fun _ _ => True
theorem d_add {ta tb : WE} (ha : DE X F a ta) (hb : DP X F b tb) : DE X F (.BinOp a .Add b pos) (wBin (gI T2 fun i j => .int (i + j)) ta tb) := dbin (fun _ _ => pe_op op_add) (r2_rI0 fun _ _ _ _ => .int _) ha hb
theorem d_sub {ta tb : WE} (ha : DE X F a ta) (hb : DP X F b tb) : DE X F (.BinOp a .Sub b pos) (wBin (gI T2 fun i j => .int (i - j)) ta tb) := dbin (fun _ _ => pe_op op_sub) (r2_rI0 fun _ _ _ _ => .int _) ha hb
theorem d_mul {ta tb : WE} (ha : DE X F a ta) (hb : DP X F b tb) : DE X F (.BinOp a .Mult b pos) (wBin (gI CMul fun i j => .int (i * j)) ta tb) := dbin (fun _ _ => pe_op op_mul) (r2_rI fun _ _ _ _ => .int _) ha hb
theorem d_fdiv {ta tb : WE} (ha : DE X F a ta) (hb : DP X F b tb) : DE X F (.BinOp a .FloorDiv b pos) (wBin (gI CDiv fun i j => .int (i / j)) ta tb) := dbin (fun _ _ => pe_op op_fdiv) (r2_rI fun _ _ _ _ => .int _) ha hb
theorem d_mod {ta tb : WE} (ha : DE X F a ta) (hb : DP X F b tb) : DE X F (.BinOp a .Mod b pos) (wBin (gI (fun _ j => 0 < j) fun i j => .int (i % j)) ta tb) := dbin (fun _ _ => pe_op op_mod) (r2_rI fun _ _ _ _ => .int _) ha hb
theorem d_pow {ta tb : WE} (ha : DE X F a ta) (hb : DP X F b tb) : DE X F (.BinOp a .Pow b pos) (wBin (gI CPow fun i j => .int (i ^ j.toNat)) ta tb) := dbin (fun _ _ => pe_op op_pow) (r2_rI fun _ _ _ _ => .int _) ha hb
theorem d_shl {ta tb : WE} (ha : DE X F a ta) (hb : DP X F b tb) : DE X F (.BinOp a .LShift b pos) (wBin (gI CPow fun i j => .int (i * 2 ^ j.toNat)) ta tb) := dbin (fun _ _ => pe_op op_shl) (r2_rI fun _ _ _ _ => .int _) ha hb
theorem d_shr {ta tb : WE} (ha : DE X F a ta) (hb : DP X F b tb) : DE X F (.BinOp a .RShift b pos) (wBin (gI (fun _ j => 0 ≤ j) fun i j => .int (i / 2 ^ j.toNat)) ta tb) := dbin (fun _ _ => pe_op op_shr) (r2_rI fun _ _ _ _ => .int _) ha hb
theorem d_and {ta tb : WE} (ha : DE X F a ta) (hb : DP X F b tb) : DE X F (.BinOp a .BitAnd b pos) (wBin (gI T2 fun i j => .int (Builtin.bitAnd i j)) ta tb) := dbin (fun _ _ => pe_op op_and) (r2_rI0 fun _ _ _ _ => .int _) ha hb
theorem d_or {ta tb : WE} (ha : DE X F a ta) (hb : DP X F b tb) : DE X F (.BinOp a .BitOr b pos) (wBin (gI T2 fun i j => .int (Builtin.bitOr i j)) ta tb) := dbin (fun _ _ => pe_op op_or) (r2_rI0 fun _ _ _ _ => .int _) ha hb
theorem d_lt {ta tb : WE} (ha : DE X F a ta) (hb : DP X F b tb) : DE X F (.Compare a [.Lt] [b] pos) (wBin (gI T2 fun i j => .bl (decide (i < j))) ta tb) := dbin (fun _ _ h1 h2 => pe_cmpR op_lt h1 h2 (nomark _)) (r2_rI0 fun _ _ _ _ => .bl _) ha hb
theorem d_le {ta tb : WE} (ha : DE X F a ta) (hb : DP X F b tb) : DE X F (.Compare a [.LtE] [b] pos) (wBin (gI T2 fun i j => .bl (decide (i ≤ j))) ta tb) := dbin (fun _ _ h1 h2 => pe_cmpR op_le h1 h2 (nomark _)) (r2_rI0 fun _ _ _ _ => .bl _) ha hb
theorem d_gt {ta tb : WE} (ha : DE X F a ta) (hb : DP X F b tb) : DE X F (.Compare a [.Gt] [b] pos) (wBin (gI T2 fun i j => .bl (decide (j < i))) ta tb) := dbin (fun _ _ h1 h2 => pe_cmpR op_gt h1 h2 (nomark _)) (r2_rI0 fun _ _ _ _ => .bl _) ha hb
theorem d_ge {ta tb : WE} (ha : DE X F a ta) (hb : DP X F b tb) : DE X F (.Compare a [.GtE] [b] pos) (wBin (gI T2 fun i j => .bl (decide (j ≤ i))) ta tb) := dbin (fun _ _ h1 h2 => pe_cmpR op_ge h1 h2 (nomark _)) (r2_rI0 fun _ _ _ _ => .bl _) ha hb

/-! ### == of data -/
mutual
def py : D → Option PyData
  | .non => some .none
  | .bl b => some (.bool b)
  | .int i => some (.int i)
  | .str x => some (.str x)
  | .tup ds => (pys ds).map .tuple
  | .lst ds => (pys ds).map .list
  | _ => none
def pys : List D → Option (List PyData)
  | [] => some []
  | d :: ds => match py d, pys ds with
    | some p, some ps => some (p :: ps)
    | _, _ => none
end
mutual
theorem Rep.dp {K : PySem.W.Frag} {H : Hp} : ∀ {v : V} {d : D} {p : PyData}, Rep K H v d → py d = some p → Dp K H v p
  | _, _, _, .non, e => by simp only [py] at e; cases e; exact .non
  | _, _, _, .bl b, e => by simp only [py] at e; cases e; exact .bl b
  | _, _, _, .int b, e => by simp only [py] at e; cases e; exact .int b
  | _, _, _, .str b, e => by simp only [py] at e; cases e; exact .str b
  | _, _, _, .ty _, e => by simp only [py] at e; cases e
  | _, _, _, .at _, e => by simp only [py] at e; cases e
  | _, _, _, .ins _ _, e => by simp only [py] at e; cases e
  | _, _, _, .set _ _ _, e => by simp only [py] at e; cases e
  | _, _, _, .dic _ _, e => by simp only [py] at e; cases e
  | _, _, _, .row _ _, e => by simp only [py] at e; cases e
  | _, _, _, .tup (ds := ds) h r, e => by
    simp only [py] at e
    cases q : pys ds with
    | none => rw [q] at e; cases e
    | some ps => rw [q] at e; cases e; exact .tup h (Reps.dp r q)
  | _, _, _, .lst (ds := ds) h r, e => by
    simp only [py] at e
    cases q : pys ds with
    | none => rw [q] at e; cases e
    | some ps => rw [q] at e; cases e; exact .lst (SqL.of h) (Reps.dp r q)
theorem Reps.dp {K : PySem.W.Frag} {H : Hp} : ∀ {vs : List V} {ds : List D} {ps : List PyData}, Reps K H vs ds → pys ds = some ps → DpAll K H vs ps
  | _, _, _, .nil, e => by simp only [pys] at e; cases e; exact .nil
  | _, _, _, .cons (d := d) (ds := ds) r t, e => by
    simp only [pys] at e
    cases q : py d with
    | none => rw [q] at e; cases e
    | some p =>
      cases q2 : pys ds with
      | none => rw [q, q2] at e; cases e
      | some ps => rw [q, q2] at e; cases e; exact .cons (Rep.dp r q) (Reps.dp t q2)
end
theorem PRep.dp {K : PySem.W.Frag} {Hf H : Hp} {σ : L2.St} {δ : List S} (R : Rel K F Hf H σ δ) {v : V} {d : D} {p : PyData} (h : PRep K Hf σ δ v d) (e : py d = some p) : Dp K H v p := by
  cases d with
  | lst ds =>
    obtain ⟨a, vs, rfl, h1, h2⟩ := h.seq R
    simp only [py] at e
    cases q : pys ds with
    | none => rw [q] at e; cases e
    | some ps => rw [q] at e; cases e; exact .lst (SqL.of h1) ((h2.mono R.sub).dp q)
  | _ => exact (show Rep K Hf v _ from h.elim id fun ⟨_, _, e, _⟩ => nomatch e).mono R.sub |>.dp e
def gEq (f : Bool → Bool) : D → D → (D → Prop) → Prop := fun a b P => ∃ p q, py a = some p ∧ py b = some q ∧ SeqAt.shaped p = true ∧ SeqAt.shaped q = true ∧ P (.bl (f (PyData.eqv p q)))
theorem r2_eq {K : PySem.W.Frag} : R2D K F (rEqD K) (gEq id) := by
  rintro Hf H σ δ x y a b P Q R rx ry ⟨p, q, ea, eb, sp, sq, h⟩ k
  exact ⟨p, q, rx.dp R ea, ry.dp R eb, sp, sq, k _ h Hf H _ (Same.refl _) R (.bl _)⟩
theorem r2_ne {K : PySem.W.Frag} : R2D K F (rNeD K) (gEq not) := by
  rintro Hf H σ δ x y a b P Q R rx ry ⟨p, q, ea, eb, sp, sq, h⟩ k
  exact ⟨p, q, rx.dp R ea, ry.dp R eb, sp, sq, k _ h Hf H _ (Same.refl _) R (.bl _)⟩
theorem d_eq {ta tb : WE} (hu : X.A.units + 64 < cLine) (ha : DP X F a ta) (hb : DP X F b tb) : DE X F (.Compare a [.Eq] [b] pos) (wBinP (gEq id) ta tb) := dbinP (fun _ _ h1 h2 => pe_cmpR (op_eqD hu) h1 h2 (nomark _)) r2_eq ha hb
theorem d_ne {ta tb : WE} (hu : X.A.units + 64 < cLine) (ha : DP X F a ta) (hb : DP X F b tb) : DE X F (.Compare a [.NotEq] [b] pos) (wBinP (gEq not) ta tb) := dbinP (fun _ _ h1 h2 => pe_cmpR (op_neD hu) h1 h2 (nomark _)) r2_ne ha hb
end
end DT
end
section
set_option maxHeartbeats 4000000
namespace DT
open PySem PySem.Spec PyProof.Rows L2
section
variable {X : Cx} {F : Fm} {e a b c : Expr} {es rest : List Expr} {pos : Pos}

/-! ### flat things, in -/
def flatD : D → Bool
  | .non => true
  | .bl _ => true
  | .int _ => true
  | .str _ => true
  | _ => false
def eqD : D → D → Bool
  | .non, .non => true
  | .bl a, .bl b => a == b
  | .bl a, .int b => (if a then 1 else 0) == b
  | .int a, .bl b => a == (if b then 1 else 0)
  | .int a, .int b => a == b
  | .str a, .str b => a == b
  | _, _ => false
theorem PRep.flat {K : PySem.W.Frag} {Hf : Hp} {σ : L2.St} {δ : List S} {v : V} {d : D} (h : PRep K Hf σ δ v d) (f : flatD d = true) : Rep K Hf v d := by
  rcases h with h | ⟨_, _, e, _⟩
  · exact h
  · rw [e] at f; cases f
theorem Rep.flat {K : PySem.W.Frag} {H : Hp} {v : V} {d : D} (h : Rep K H v d) (f : flatD d = true) : flatV v = true := by
  cases h <;> first | rfl | cases f
theorem Rep.eqv {K : PySem.W.Frag} {H : Hp} {v u : V} {d e : D} (h : Rep K H v d) (f : flatD d = true) (h' : Rep K H u e) (f' : flatD e = true) : eqV v u = eqD d e := by
  cases h <;> first | (cases f; done) | (cases h' <;> first | (cases f'; done) | rfl)
theorem Reps.flat {K : PySem.W.Frag} {H : Hp} : ∀ {vs : List V} {ds : List D}, Reps K H vs ds → ds.all flatD = true → vs.all flatV = true
  | _, _, .nil, _ => rfl
  | _, _, .cons r t, f => by
    rw [List.all_cons, Bool.and_eq_true] at f ⊢
    exact ⟨r.flat f.1, t.flat f.2⟩
theorem Reps.inv {K : PySem.W.Frag} {H : Hp} {u : V} {e : D} (h' : Rep K H u e) (f' : flatD e = true) : ∀ {vs : List V} {ds : List D}, Reps K H vs ds → ds.all flatD = true → inV u vs = ds.any fun d => eqD d e
  | _, _, .nil, _ => rfl
  | _, _, .cons r t, f => by
    rw [List.all_cons, Bool.and_eq_true] at f
    have ih := t.inv h' f' f.2
    show (eqV _ _ || inV _ _) = (eqD _ _ || _)
    rw [r.eqv f.1 h' f', ih]
def gIn (neg : Bool) : D → D → (D → Prop) → Prop := fun x b P => ∃ ds, sq b = some ds ∧ flatD x = true ∧ ds.all flatD = true ∧ P (.bl (if neg then !(ds.any fun d => eqD d x) else ds.any fun d => eqD d x))
theorem r2_in {K : PySem.W.Frag} {neg : Bool} : R2D K F (rIn K neg) (gIn neg) := by
  rintro Hf H σ δ x y a b P Q R rx ry ⟨ds, e, f1, f2, p⟩ k
  obtain ⟨l, vs, rfl, h1, h2⟩ := ry.sq R e
  have r1 := rx.flat f1
  refine ⟨l, vs, rfl, h1, r1.flat f1, h2.flat f2, ?_⟩
  rw [h2.inv r1 f1 f2]
  exact k _ p Hf H _ (Same.refl _) R (.bl _)
theorem d_in {ta tb : WE} (ha : DE X F a ta) (hb : DP X F b tb) (hm : behindInMarks .In b = false := by rfl) : DE X F (.Compare a [.In] [b] pos) (wBin (gIn false) ta tb) :=
  dbin (fun _ _ h1 h2 => pe_cmpR op_in_seq h1 h2 hm) r2_in ha hb
theorem d_notin {ta tb : WE} (ha : DE X F a ta) (hb : DP X F b tb) (hm : behindInMarks .NotIn b = false := by rfl) : DE X F (.Compare a [.NotIn] [b] pos) (wBin (gIn true) ta tb) :=
  dbin (fun _ _ h1 h2 => pe_cmpR op_notIn_seq h1 h2 hm) r2_in ha hb
/-! ### is None -/
def nonD : D → Bool
  | .non => true
  | _ => false
theorem PRep.isNon {K : PySem.W.Frag} {Hf : Hp} {σ : L2.St} {δ : List S} {v : V} {d : D} (h : PRep K Hf σ δ v d) (hv : ∀ (i : Nat) (ds : List D), δ[i]? = some (S.own ds) → σ[i]? = some (some v) → v ≠ .non) : decide (v = .non) = nonD d := by
  rcases h with h | ⟨i, ds, rfl, e1, e2⟩
  · cases h <;> first | rfl | exact decide_eq_false (fun q => nomatch q)
  · exact decide_eq_false (hv i ds e1 e2)
theorem PRep.nonR {K : PySem.W.Frag} {Hf H : Hp} {σ : L2.St} {δ : List S} {v : V} {d : D} (R : Rel K F Hf H σ δ) (h : PRep K Hf σ δ v d) : decide (v = .non) = nonD d :=
  PRep.isNon h fun i ds e1 e2 z => by
    obtain ⟨a, vs, g1, _⟩ := R.sl i _ e1
    rw [e2] at g1; cases g1; cases z
def gIsN (f : Bool → Bool) : D → D → (D → Prop) → Prop := fun x b P => b = .non ∧ P (.bl (f (nonD x)))
theorem d_isN {ta tb : WE} (ha : DP X F a ta) (hb : DP X F b tb) : DE X F (.Compare a [.Is] [b] pos) (wBinP (gIsN id) ta tb) :=
  dbinP (fun _ _ h1 h2 => pe_cmpR op_isN h1 h2 (nomark _)) (by
    rintro Hf H σ δ x y a b P Q R rx ry ⟨rfl, p⟩ k
    refine ⟨ry.nonE, ?_⟩
    rw [PRep.nonR R rx]
    exact k _ p Hf H _ (Same.refl _) R (.bl _)) ha hb
theorem d_notN {ta tb : WE} (ha : DP X F a ta) (hb : DP X F b tb) : DE X F (.Compare a [.IsNot] [b] pos) (wBinP (gIsN not) ta tb) :=
  dbinP (fun _ _ h1 h2 => pe_cmpR op_notN h1 h2 (nomark _)) (by
    rintro Hf H σ δ x y a b P Q R rx ry ⟨rfl, p⟩ k
    refine ⟨ry.nonE, ?_⟩
    rw [PRep.nonR R rx]
    exact k _ p Hf H _ (Same.refl _) R (.bl _)) ha hb

/-! ### chains, and, or, not, if -/
def wChain (f g : Int → Int → Bool) (ta tb tc : WE) : WE := fun δ P => ta δ fun x δ1 => tb δ1 fun y δ2 => ∃ i j, x = .int i ∧ y = .int j ∧ if f i j = true then tc δ2 fun z δ3 => ∃ l, z = .int l ∧ P (.bl (g j l)) δ3 else P (.bl false) δ2
theorem d_chain {op op' : CmpOp} {f g : Int → Int → Bool} {ta tb tc : WE} (ho : OpR X (compareOp op) (rI0 fun i j => .bl (f i j))) (ho' : OpR X (compareOp op') (rI0 fun i j => .bl (g i j))) (ha : DE X F a ta) (hb : DE X F b tb) (hc : DE X F c tc)
    (rule : ∀ ta tb tc, PE X a ta → PE X b tb → PE X c tc → PE X e (tChain (rI0 fun i j => .bl (f i j)) (rI0 fun i j => .bl (g i j)) ta tb tc)) : DE X F e (wChain f g ta tb tc) :=
  PE.imp (rule _ _ _ ha hb hc) fun σ H Q ⟨Hf, δ, P, R, h, k⟩ => ⟨Hf, δ, _, R, h, fun x δ1 h1 Hf1 H1 v s1 R1 r1 => ⟨Hf1, δ1, _, R1, h1, fun y δ2 h2 Hf2 H2 u s2 R2 r2 => by
    obtain ⟨i, j, rfl, rfl, h3⟩ := h2
    cases r1; cases r2
    refine ⟨i, j, rfl, rfl, f i j, rfl, ?_⟩
    by_cases q : f i j = true
    · rw [if_pos q] at h3 ⊢
      refine ⟨Hf2, δ2, _, R2, h3, fun z δ3 h4 Hf3 H3 w s3 R3 r3 => ?_⟩
      obtain ⟨l, rfl, p⟩ := h4
      cases r3
      exact ⟨j, l, rfl, rfl, k _ δ3 p Hf3 H3 _ ((s1.trans s2).trans s3) R3 (.bl _)⟩
    · rw [if_neg q] at h3 ⊢
      rw [Bool.not_eq_true] at q
      exact k _ δ2 h3 Hf2 H2 _ (s1.trans s2) R2 (.bl _)⟩⟩

def wAnd (ta tb : WE) : WE := fun δ P => ta δ fun x δ1 => ∃ k, x = .bl k ∧ if k = true then tb δ1 P else P (.bl false) δ1
def wOr (ta tb : WE) : WE := fun δ P => ta δ fun x δ1 => ∃ k, x = .bl k ∧ if k = true then P (.bl true) δ1 else tb δ1 P
def wNot (ta : WT) : WE := fun δ P => ta δ fun k δ1 => P (.bl (!k)) δ1
theorem de_one {op} {t : WE} (h : DE X F a t) : DE X F (.BoolOp op [a] pos) t := pe_one h
theorem de_and {ta tb : WE} (ha : DE X F a ta) (hb : DE X F (.BoolOp .And (b :: rest) pos) tb) : DE X F (.BoolOp .And (a :: b :: rest) pos) (wAnd ta tb) :=
  PE.imp (pe_and ha hb) fun σ H Q ⟨Hf, δ, P, R, h, k⟩ => ⟨Hf, δ, _, R, h, fun x δ1 h1 Hf1 H1 v s1 R1 r1 => by
    obtain ⟨c, rfl, h2⟩ := h1
    cases r1
    refine ⟨c, rfl, ?_⟩
    cases c with
    | true => exact iteT ⟨Hf1, δ1, _, R1, (by simpa using h2), fun z δ3 p Hf3 H3 w s3 R3 r3 => k z δ3 p Hf3 H3 w (s1.trans s3) R3 r3⟩
    | false => exact iteF (k _ δ1 (by simpa using h2) Hf1 H1 _ s1 R1 (.bl _))⟩
theorem de_or {ta tb : WE} (ha : DE X F a ta) (hb : DE X F (.BoolOp .Or (b :: rest) pos) tb) : DE X F (.BoolOp .Or (a :: b :: rest) pos) (wOr ta tb) :=
  PE.imp (pe_or ha hb) fun σ H Q ⟨Hf, δ, P, R, h, k⟩ => ⟨Hf, δ, _, R, h, fun x δ1 h1 Hf1 H1 v s1 R1 r1 => by
    obtain ⟨c, rfl, h2⟩ := h1
    cases r1
    refine ⟨c, rfl, ?_⟩
    cases c with
    | true => exact iteT (k _ δ1 (by simpa using h2) Hf1 H1 _ s1 R1 (.bl _))
    | false => exact iteF ⟨Hf1, δ1, _, R1, (by simpa using h2), fun z δ3 p Hf3 H3 w s3 R3 r3 => k z δ3 p Hf3 H3 w (s1.trans s3) R3 r3⟩⟩
/-- a test of a thing that is True or False -/
def wVal (t : WE) : WT := fun δ P => t δ fun x δ1 => ∃ k, x = .bl k ∧ P k δ1
theorem dt_val {t : WE} (h : DE X F e t) (he : ∀ whole, isTrue e X.env whole = (do let v ← whole; standAt e.pos; holding [v] (truthy v)) := by intro _; rfl) : DTe X F e (wVal t) :=
  PT.imp (pt_val h he) fun σ H Q ⟨Hf, δ, P, R, q, k⟩ => ⟨Hf, δ, _, R, q, fun x δ1 h1 Hf1 H1 v s1 R1 r1 => by
    obtain ⟨c, rfl, h2⟩ := h1
    cases r1
    exact ⟨c, rfl, k c δ1 h2 Hf1 H1 s1 R1⟩⟩
/-- .. of any thing -/
def truD : D → Option Bool
  | .non => some false
  | .bl b => some b
  | .int i => some (i != 0)
  | .tup ds => some (!ds.isEmpty)
  | .lst ds => some (!ds.isEmpty)
  | _ => none
def wTru (t : WE) : WT := fun δ P => t δ fun x δ1 => ∃ k, truD x = some k ∧ P k δ1
theorem Reps.isEmpty {K : PySem.W.Frag} {H : Hp} {vs : List V} {ds : List D} (h : Reps K H vs ds) : vs.isEmpty = ds.isEmpty := by cases h <;> rfl
theorem dt_tru {t : WE} (h : DP X F e t) (he : ∀ whole, isTrue e X.env whole = (do let v ← whole; standAt e.pos; holding [v] (truthy v)) := by intro _; rfl) : DTe X F e (wTru t) :=
  PT.imp (pt_truth h he) fun σ H Q ⟨Hf, δ, P, R, q, k⟩ => ⟨Hf, δ, _, R, q, fun x δ1 h1 Hf1 H1 v s1 R1 r1 => by
    obtain ⟨c, e, h2⟩ := h1
    refine ⟨c, ?_, k c δ1 h2 Hf1 H1 s1 R1⟩
    cases x <;> simp only [truD, Option.some.injEq, reduceCtorEq] at e
    · rw [r1.nonE]; exact e.symm
    · rw [r1.blE]; exact e.symm
    · rw [r1.intE]; exact e.symm
    · obtain ⟨a, vs, rfl, g1, g2⟩ := r1.tupS R1
      exact .inr (.inl ⟨vs, g1, by rw [g2.isEmpty]; exact e.symm⟩)
    · obtain ⟨a, vs, rfl, g1, g2⟩ := r1.seq R1
      exact .inl ⟨vs, SqL.of g1, by rw [g2.isEmpty]; exact e.symm⟩⟩
def wTAnd (ta tb : WT) : WT := fun δ P => ta δ fun k δ1 => if k = true then tb δ1 P else P false δ1
def wTOr (ta tb : WT) : WT := fun δ P => ta δ fun k δ1 => if k = true then P true δ1 else tb δ1 P
def wTNot (ta : WT) : WT := fun δ P => ta δ fun k δ1 => P (!k) δ1
theorem dw_and1 {t : WT} (h : DTe X F a t) : DW X F (.BoolOp .And [a] pos) t := pw_and1 h
theorem dw_or1 {t : WT} (h : DTe X F a t) : DW X F (.BoolOp .Or [a] pos) t := pw_or1 h
theorem dw_and {ta tb : WT} (ha : DTe X F a ta) (hb : DW X F (.BoolOp .And (b :: rest) pos) tb) : DW X F (.BoolOp .And (a :: b :: rest) pos) (wTAnd ta tb) :=
  PW.imp (pw_and ha hb) fun σ H Q ⟨Hf, δ, P, R, h, k⟩ => ⟨Hf, δ, _, R, h, fun c δ1 h1 Hf1 H1 s1 R1 => by
    cases c with
    | true => exact iteT ⟨Hf1, δ1, _, R1, (by simpa using h1), fun z δ3 p Hf3 H3 s3 R3 => k z δ3 p Hf3 H3 (s1.trans s3) R3⟩
    | false => exact iteF (k _ δ1 (by simpa using h1) Hf1 H1 s1 R1)⟩
theorem dw_or {ta tb : WT} (ha : DTe X F a ta) (hb : DW X F (.BoolOp .Or (b :: rest) pos) tb) : DW X F (.BoolOp .Or (a :: b :: rest) pos) (wTOr ta tb) :=
  PW.imp (pw_or ha hb) fun σ H Q ⟨Hf, δ, P, R, h, k⟩ => ⟨Hf, δ, _, R, h, fun c δ1 h1 Hf1 H1 s1 R1 => by
    cases c with
    | true => exact iteT (k _ δ1 (by simpa using h1) Hf1 H1 s1 R1)
    | false => exact iteF ⟨Hf1, δ1, _, R1, (by simpa using h1), fun z δ3 p Hf3 H3 s3 R3 => k z δ3 p Hf3 H3 (s1.trans s3) R3⟩⟩
theorem dt_w {t : WT} (h : DW X F e t) : DTe X F e t := PW.pt h
theorem dt_not {t : WT} (h : DTe X F a t) : DTe X F (.UnaryOp .Not a pos) (wTNot t) :=
  PT.imp (pt_not h) fun σ H Q ⟨Hf, δ, P, R, q, k⟩ => ⟨Hf, δ, _, R, q, fun c δ1 h1 Hf1 H1 s1 R1 => k _ δ1 h1 Hf1 H1 s1 R1⟩
def wNotV (ta : WE) : WE := fun δ P => ta δ fun x δ1 => ∃ k, x = .bl k ∧ P (.bl (!k)) δ1
theorem de_not {t : WE} (h : DE X F a t) : DE X F (.UnaryOp .Not a pos) (wNotV t) :=
  PE.imp (pe_not h) fun σ H Q ⟨Hf, δ, P, R, q, k⟩ => ⟨Hf, δ, _, R, q, fun x δ1 h1 Hf1 H1 v s1 R1 r1 => by
    obtain ⟨c, rfl, h2⟩ := h1
    cases r1
    exact ⟨c, rfl, k _ δ1 h2 Hf1 H1 _ s1 R1 (.bl _)⟩⟩
def wIf (t : WT) (ta tb : WE) : WE := fun δ P => t δ fun k δ1 => if k = true then ta δ1 P else tb δ1 P
theorem de_if {t : WT} {ta tb : WE} (hc : DTe X F c t) (ha : DE X F a ta) (hb : DE X F b tb) : DE X F (.IfExp c a b pos) (wIf t ta tb) :=
  PE.imp (pe_ifExp hc ha hb) fun σ H Q ⟨Hf, δ, P, R, h, k⟩ => ⟨Hf, δ, _, R, h, fun c δ1 h1 Hf1 H1 s1 R1 => by
    cases c with
    | true => exact iteT ⟨Hf1, δ1, _, R1, (by simpa using h1), fun z δ3 p Hf3 H3 w s3 R3 r3 => k z δ3 p Hf3 H3 w (s1.trans s3) R3 r3⟩
    | false => exact iteF ⟨Hf1, δ1, _, R1, (by simpa using h1), fun z δ3 p Hf3 H3 w s3 R3 r3 => k z δ3 p Hf3 H3 w (s1.trans s3) R3 r3⟩⟩
def wNeg (ta : WE) : WE := fun δ P => ta δ fun x δ1 => ∃ i, x = .int i ∧ P (.int (-i)) δ1
theorem d_neg {t : WE} (h : DE X F a t) : DE X F (.UnaryOp .USub a pos) (wNeg t) :=
  PE.imp (pe_un un_neg h) fun σ H Q ⟨Hf, δ, P, R, q, k⟩ => ⟨Hf, δ, _, R, q, fun x δ1 h1 Hf1 H1 v s1 R1 r1 => by
    obtain ⟨c, rfl, h2⟩ := h1
    cases r1
    exact ⟨c, rfl, k _ δ1 h2 Hf1 H1 _ s1 R1 (.int _)⟩⟩

/-! ### items, slices -/
def gIx : D → D → (D → Prop) → Prop := fun x y P => ∃ ds i d, sq x = some ds ∧ y = .int i ∧ atI ds i = some d ∧ P d
theorem Reps.atI {K : PySem.W.Frag} {H : Hp} {vs : List V} {ds : List D} {i : Int} {d : D} (r : Reps K H vs ds) (h : L2.atI ds i = some d) : ∃ v, L2.atI vs i = some v ∧ Rep K H v d := by
  unfold L2.atI at h ⊢
  rw [r.length]
  cases q : ixN ds.length i with
  | none => rw [q] at h; cases h
  | some j =>
    rw [q] at h
    exact r.getD h
theorem r2_ix {K : PySem.W.Frag} : R2D K F (rIx K) gIx := by
  rintro Hf H σ δ x y a b P Q R rx ry ⟨ds, i, d, e, rfl, h, p⟩ k
  rw [ry.intE]
  obtain ⟨l, vs, rfl, h1, h2⟩ := rx.sq R e
  obtain ⟨v, g1, g2⟩ := h2.atI h
  have fin := k d p Hf H v (Same.refl _) R g2
  rcases h1 with h1 | h1
  · exact .inl ⟨l, vs, i, v, rfl, rfl, h1, g1, fin⟩
  · exact .inr (.inl ⟨l, vs, i, v, rfl, rfl, h1, g1, fin⟩)
theorem d_ix {ta tb : WE} (ha : DP X F a ta) (hb : DP X F b tb) (hs : PlainIx b := by intro _ _; rfl) : DE X F (.Subscript a b pos) (wBinP gIx ta tb) := dbinP (fun _ _ h1 h2 => pe_ix ix_seq h1 h2 hs) r2_ix ha hb
abbrev WO := List S → (Option Int → List S → Prop) → Prop
def liftO (K : PySem.W.Frag) (F : Fm) (t : WO) : TO := fun σ H Q => ∃ Hf δ P, Rel K F Hf H σ δ ∧ t δ P ∧ ∀ o δ', P o δ' → ∀ Hf' H', Same Hf Hf' → Rel K F Hf' H' σ δ' → Q o H'
def DO (X : Cx) (F : Fm) (e : Option Expr) (t : WO) : Prop := PO X e (liftO X.K F t)
theorem PO.imp {e : Option Expr} {t t' : TO} (h : PO X e t) (k : ∀ σ H Q, t' σ H Q → t σ H Q) : PO X e t' := ⟨fun pins s σ H Q I q => h.run pins s σ H Q I (k σ H Q q)⟩
def wNoPart : WO := fun δ P => P none δ
def wPart (t : WE) : WO := fun δ P => t δ fun x δ1 => ∃ i, x = .int i ∧ P (some i) δ1
theorem do_none : DO X F none wNoPart := PO.imp po_none fun σ H Q ⟨Hf, δ, P, R, h, k⟩ => k _ δ h Hf H (Same.refl _) R
theorem do_some {t : WE} (h : DE X F e t) : DO X F (some e) (wPart t) := PO.imp (po_some h) fun σ H Q ⟨Hf, δ, P, R, q, k⟩ => ⟨Hf, δ, _, R, q, fun x δ1 h1 Hf1 H1 v s1 R1 r1 => by
    obtain ⟨c, rfl, h2⟩ := h1
    cases r1
    exact ⟨c, rfl, k _ δ1 h2 Hf1 H1 s1 R1⟩⟩
def cutD (xs : List D) (lo hi : Option Int) : List D := (xs.drop (HT.sIx xs.length 0 lo)).take (HT.sIx xs.length xs.length hi - HT.sIx xs.length 0 lo)
theorem Reps.cut {K : PySem.W.Frag} {H : Hp} {vs : List V} {ds : List D} (r : Reps K H vs ds) (lo hi : Option Int) : Reps K H (cutV vs lo hi) (cutD ds lo hi) := by
  unfold cutV cutD
  rw [r.length]
  exact (r.drop _).take _
def wSlL (ta : WE) (tl th : WO) : WA := fun δ P => ta δ fun x δ1 => tl δ1 fun lo δ2 => th δ2 fun hi δ3 => Kp δ1 δ3 ∧ ∃ ds, x = .lst ds ∧ P (cutD ds lo hi) δ3
theorem d_slL {lo hi : Option Expr} {p2 : Pos} {ta : WE} {tl th : WO} (ha : DP X F a ta) (hl : DO X F lo tl) (hh : DO X F hi th) : DN X F (.Subscript a (.Slice lo hi none p2) pos) (wSlL ta tl th) :=
  PE.imp (pe_slice sl_list ha hl hh) fun σ H Q ⟨Hf, δ, P, R, h, k⟩ => ⟨Hf, δ, _, R, h, fun x δ1 h1 Hf1 H1 v s1 R1 r1 => ⟨Hf1, δ1, _, R1, h1, fun l δ2 h2 Hf2 H2 s2 R2 => ⟨Hf2, δ2, _, R2, h2, fun u δ3 h3 Hf3 H3 s3 R3 => by
    obtain ⟨kp, ds, rfl, p⟩ := h3
    obtain ⟨q, vs, rfl, g1, g2⟩ := (r1.keep (s2.trans s3) kp).seq R3
    refine ⟨q, vs, rfl, SqL.of g1, fun p' hp => ?_⟩
    exact k _ δ3 p Hf3 _ p' ((s1.trans s2).trans s3) (R3.newN hp (g2.cut l u)).1 (R3.newN hp (g2.cut l u)).2⟩⟩⟩
theorem cutD_all {ds : List D} {lo hi : Option Int} (h : HT.sIx ds.length 0 lo = 0 ∧ HT.sIx ds.length ds.length hi = ds.length) : cutD ds lo hi = ds := by
  unfold cutD
  rw [h.1, h.2]
  simp
def wSlT (ta : WE) (tl th : WO) : WE := fun δ P => ta δ fun x δ1 => tl δ1 fun lo δ2 => th δ2 fun hi δ3 => ∃ ds, x = .tup ds ∧ P (.tup (cutD ds lo hi)) δ3
theorem d_slT {lo hi : Option Expr} {p2 : Pos} {ta : WE} {tl th : WO} (ha : DE X F a ta) (hl : DO X F lo tl) (hh : DO X F hi th) : DE X F (.Subscript a (.Slice lo hi none p2) pos) (wSlT ta tl th) :=
  PE.imp (pe_slice sl_tupA ha hl hh) fun σ H Q ⟨Hf, δ, P, R, h, k⟩ => ⟨Hf, δ, _, R, h, fun x δ1 h1 Hf1 H1 v s1 R1 r1 => ⟨Hf1, δ1, _, R1, h1, fun l δ2 h2 Hf2 H2 s2 R2 => ⟨Hf2, δ2, _, R2, h2, fun u δ3 h3 Hf3 H3 s3 R3 => by
    obtain ⟨ds, rfl, p⟩ := h3
    have r3 := r1.mono (s2.trans s3)
    have pr : PRep X.K Hf3 σ δ3 v (.tup ds) := .inl r3
    obtain ⟨q, vs, rfl, g1, g2⟩ := pr.tupS R3
    have st := (s1.trans s2).trans s3
    refine ⟨q, vs, rfl, g1, fun hh => ?_, fun hh p' hp => ?_⟩
    · have e := cutD_all (ds := ds) (lo := l) (hi := u) (by rw [← g2.length]; exact hh)
      rw [e] at p
      exact k _ δ3 p Hf3 H3 _ st R3 r3
    · exact k _ δ3 p _ _ _ (st.trans (R3.same_new hp)) (R3.new hp) (.tup (SqT.of upd_same) ((g2.cut l u).mono (R3.same_new hp)))⟩⟩⟩

/-! ### arguments, displays -/
def wNil : WA := fun δ P => P [] δ
def wCons (te : WE) (tr : WA) : WA := fun δ P => te δ fun x δ1 => tr δ1 fun xs δ2 => P (x :: xs) δ2
theorem da_nil : DA X F [] wNil := PA.imp pa_nil fun σ H Q ⟨Hf, δ, P, R, h, k⟩ => k _ δ h Hf H _ (Same.refl _) R .nil
theorem da_cons {te : WE} {tr : WA} (he : DE X F e te) (hr : DA X F es tr) (hs : starEach (e :: es) X.env = (false, eval e X.env) :: starEach es X.env := by rfl) : DA X F (e :: es) (wCons te tr) :=
  PA.imp (pa_cons he hr hs) fun σ H Q ⟨Hf, δ, P, R, h, k⟩ => ⟨Hf, δ, _, R, h, fun x δ1 h1 Hf1 H1 v s1 R1 r1 => ⟨Hf1, δ1, _, R1, h1, fun xs δ2 h2 Hf2 H2 vs s2 R2 r2 =>
    k _ δ2 h2 Hf2 H2 _ (s1.trans s2) R2 (.cons (r1.mono s2) r2)⟩⟩
def wTup (t : WA) : WE := fun δ P => t δ fun ds δ1 => ds.length ≤ sizeLine ∧ P (.tup ds) δ1
theorem de_tup {x1} {t : WA} (h : DA X F es t) : DE X F (.Tuple es x1 pos) (wTup t) :=
  PE.imp (pe_tup h) fun σ H Q ⟨Hf, δ, P, R, q, k⟩ => ⟨Hf, δ, _, R, q, fun ds δ1 h1 Hf1 H1 vs s1 R1 r1 => ⟨by rw [r1.length]; exact h1.1, fun p hp =>
    k _ δ1 h1.2 _ _ _ (s1.trans (R1.same_new hp)) (R1.new hp) (.tup (SqT.of upd_same) (r1.mono (R1.same_new hp)))⟩⟩
def wLst (t : WA) : WA := fun δ P => t δ fun ds δ1 => ds.length ≤ sizeLine ∧ P ds δ1
theorem dn_lst {t : WA} (h : DA X F es t) : DN X F (.List es pos) (wLst t) :=
  PE.imp (pe_lst h) fun σ H Q ⟨Hf, δ, P, R, q, k⟩ => ⟨Hf, δ, _, R, q, fun ds δ1 h1 Hf1 H1 vs s1 R1 r1 => ⟨by rw [r1.length]; exact h1.1, fun p hp =>
    k _ δ1 h1.2 Hf1 _ p s1 (R1.newN hp r1).1 (R1.newN hp r1).2⟩⟩

/-! ### + and * of rows -/
def gCatL : D → D → (List D → Prop) → Prop := fun x y P => ∃ ds es, x = .lst ds ∧ y = .lst es ∧ ds.length + es.length ≤ sizeLine ∧ P (ds ++ es)
def gCatT : D → D → (D → Prop) → Prop := fun x y P => ∃ ds es, x = .tup ds ∧ y = .tup es ∧ ds.length + es.length ≤ sizeLine ∧ P (.tup (ds ++ es))
theorem r2_catT {K : PySem.W.Frag} : R2D K F (rCatA K) gCatT := by
  rintro Hf H σ δ x y a b P Q R rx ry ⟨ds, es, rfl, rfl, hz, p⟩ k
  obtain ⟨l, vs, rfl, h1, h2⟩ := rx.tupS R
  obtain ⟨m, us, rfl, g1, g2⟩ := ry.tupS R
  have rx' : Rep K Hf (.ref l) (.tup ds) := rx.elim id fun ⟨_, _, e, _⟩ => nomatch e
  have ry' : Rep K Hf (.ref m) (.tup es) := ry.elim id fun ⟨_, _, e, _⟩ => nomatch e
  refine ⟨l, m, vs, us, rfl, rfl, h1, g1, by rw [h2.length, g2.length]; exact hz, fun e => ?_, fun _ e => ?_, fun _ _ q hq => ?_⟩
  · subst e; cases h2
    exact k _ p Hf H _ (Same.refl _) R ry'
  · subst e; cases g2
    rw [List.append_nil] at p
    exact k _ p Hf H _ (Same.refl _) R rx'
  · exact k _ p _ _ _ (R.same_new hq) (R.new hq) (.tup (SqT.of upd_same) ((h2.append g2).mono (R.same_new hq)))
theorem d_catT {ta tb : WE} (ha : DE X F a ta) (hb : DP X F b tb) : DE X F (.BinOp a .Add b pos) (wBin gCatT ta tb) := dbin (fun _ _ => pe_op op_catA) r2_catT ha hb
theorem d_catL {ta tb : WE} (ha : DP X F a ta) (hb : DP X F b tb) : DN X F (.BinOp a .Add b pos) (wBinN gCatL ta tb) := dbinN (fun _ _ => pe_op op_cat) (by
  rintro Hf H σ δ x y a b P Q R rx ry ⟨ds, es, rfl, rfl, hz, p⟩ k
  obtain ⟨l, vs, rfl, h1, h2⟩ := rx.seq R
  obtain ⟨m, us, rfl, g1, g2⟩ := ry.seq R
  exact ⟨l, m, vs, us, rfl, rfl, h1, g1, by rw [h2.length, g2.length]; exact hz, fun q hq => k _ p q _ hq (h2.append g2)⟩) ha hb
def gRepL : D → D → (List D → Prop) → Prop := fun x y P => ∃ ds n, x = .lst ds ∧ y = .int n ∧ (-(2 ^ 63) ≤ n ∧ n < 2 ^ 63 ∧ ds.length * n.toNat ≤ sizeLine) ∧ P (List.replicate n.toNat ds).flatten
theorem Reps.rep {K : PySem.W.Frag} {H : Hp} {vs : List V} {ds : List D} (r : Reps K H vs ds) : ∀ n : Nat, Reps K H (List.replicate n vs).flatten (List.replicate n ds).flatten
  | 0 => .nil
  | n + 1 => by
    rw [List.replicate_succ, List.replicate_succ, List.flatten_cons, List.flatten_cons]
    exact r.append (r.rep n)
theorem d_repL {ta tb : WE} (ha : DP X F a ta) (hb : DP X F b tb) : DN X F (.BinOp a .Mult b pos) (wBinN gRepL ta tb) := dbinN (fun _ _ => pe_op op_rep) (by
  rintro Hf H σ δ x y a b P Q R rx ry ⟨ds, n, rfl, rfl, ⟨z1, z2, z3⟩, p⟩ k
  obtain ⟨l, vs, rfl, h1, h2⟩ := rx.seq R
  exact ⟨l, n, vs, rfl, ry.intE, h1, z1, z2, by rw [h2.length]; exact z3, fun q hq => k _ p q _ hq (h2.rep _)⟩) ha hb
/-! ### built-ins of one argument -/
def C1 (X : Cx) (F : Fm) (r : List V → Hp → VK → Prop) (g : D → (D → Prop) → Prop) : Prop := ∀ Hf H σ δ x a (P : D → Prop) (Q : VK), Rel X.K F Hf H σ δ → PRep X.K Hf σ δ x a → g a P →
  (∀ c, P c → ∀ Hf' H' v, Same Hf Hf' → Rel X.K F Hf' H' σ δ → Rep X.K Hf' v c → Q v H') → r [x] H Q
def C1N (X : Cx) (F : Fm) (r : List V → Hp → VK → Prop) (g : D → (List D → Prop) → Prop) : Prop := ∀ Hf H σ δ x a (P : List D → Prop) (Q : VK), Rel X.K F Hf H σ δ → PRep X.K Hf σ δ x a → g a P →
  (∀ c, P c → ∀ p vs, H p = none → Reps X.K Hf vs c → Q (.ref p) (upd H p (.lst vs))) → r [x] H Q
def wC1 (g : D → (D → Prop) → Prop) (ta : WE) : WE := fun δ P => ta δ fun x δ1 => g x fun c => P c δ1
def wC1N (g : D → (List D → Prop) → Prop) (ta : WE) : WA := fun δ P => ta δ fun x δ1 => g x fun c => P c δ1
theorem dc1 {r : List V → Hp → VK → Prop} {g : D → (D → Prop) → Prop} {ta : WE} (rule : ∀ t, PA X [a] t → PE X e (tCB r t)) (hs : starEach [a] X.env = [(false, eval a X.env)]) (hr : C1 X F r g) (ha : DP X F a ta) : DE X F e (wC1 g ta) :=
  PE.imp (rule _ (pa_cons ha pa_nil hs)) fun σ H Q ⟨Hf, δ, P, R, h, k⟩ => ⟨Hf, δ, _, R, h, fun x δ1 h1 Hf1 H1 v s1 R1 r1 =>
    hr Hf1 H1 σ δ1 v x _ _ R1 r1 h1 fun c pc Hf2 H2 u s2 R2 r2 => k c δ1 pc Hf2 H2 u (s1.trans s2) R2 r2⟩
theorem dc1N {r : List V → Hp → VK → Prop} {g : D → (List D → Prop) → Prop} {ta : WE} (rule : ∀ t, PA X [a] t → PE X e (tCB r t)) (hs : starEach [a] X.env = [(false, eval a X.env)]) (hr : C1N X F r g) (ha : DP X F a ta) : DN X F e (wC1N g ta) :=
  PE.imp (rule _ (pa_cons ha pa_nil hs)) fun σ H Q ⟨Hf, δ, P, R, h, k⟩ => ⟨Hf, δ, _, R, h, fun x δ1 h1 Hf1 H1 v s1 R1 r1 =>
    hr Hf1 H1 σ δ1 v x _ _ R1 r1 h1 fun c pc p vs hp rv => k c δ1 pc Hf1 _ p s1 (R1.newN hp rv).1 (R1.newN hp rv).2⟩
end
end DT
end
section
set_option maxHeartbeats 4000000
namespace DT
open PySem PySem.Spec PyProof.Rows L2
/-- what is wanted behind a statement, by data -/
structure DEnds where
  nx : List S → Prop
  rt : D → List S → Prop
  rn : List D → List S → Prop := fun _ _ => False
  bk : List S → Prop := fun _ => False
  ct : List S → Prop := fun _ => False
abbrev WS := DEnds → List S → Prop
structure Meets (K : PySem.W.Frag) (F : Fm) (Hf : Hp) (E : DEnds) (D : Ends) : Prop where
  nx : ∀ δ', E.nx δ' → ∀ Hf' H' σ', Same Hf Hf' → Rel K F Hf' H' σ' δ' → D.nx σ' H'
  rt : ∀ d δ', E.rt d δ' → ∀ Hf' H' σ' v, Same Hf Hf' → Rel K F Hf' H' σ' δ' → Rep K Hf' v d → D.rt v H'
  rn : ∀ ds δ', E.rn ds δ' → ∀ Hf' H' σ' p, Same Hf Hf' → Rel K F Hf' H' σ' δ' → New K F Hf' H' σ' δ' p ds → D.rt (.ref p) H'
  bk : ∀ δ', E.bk δ' → ∀ Hf' H' σ', Same Hf Hf' → Rel K F Hf' H' σ' δ' → D.bk σ' H'
  ct : ∀ δ', E.ct δ' → ∀ Hf' H' σ', Same Hf Hf' → Rel K F Hf' H' σ' δ' → D.ct σ' H'
theorem Meets.mono {K : PySem.W.Frag} {F : Fm} {Hf Hf' : Hp} {E : DEnds} {D : Ends} (m : Meets K F Hf E D) (s : Same Hf Hf') : Meets K F Hf' E D :=
  ⟨fun δ' h Hf2 H' σ' s2 => m.nx δ' h Hf2 H' σ' (s.trans s2), fun d δ' h Hf2 H' σ' v s2 => m.rt d δ' h Hf2 H' σ' v (s.trans s2), fun d δ' h Hf2 H' σ' v s2 => m.rn d δ' h Hf2 H' σ' v (s.trans s2),
    fun δ' h Hf2 H' σ' s2 => m.bk δ' h Hf2 H' σ' (s.trans s2), fun δ' h Hf2 H' σ' s2 => m.ct δ' h Hf2 H' σ' (s.trans s2)⟩
def liftS (K : PySem.W.Frag) (F : Fm) (t : WS) : TS := fun D σ H => ∃ Hf δ E, Rel K F Hf H σ δ ∧ t E δ ∧ Meets K F Hf E D
def DS (X : Cx) (F : Fm) (st : Stmt) (t : WS) : Prop := PS X st (liftS X.K F t)
def DSs (X : Cx) (F : Fm) (sts : List Stmt) (t : WS) : Prop := PSs X sts (liftS X.K F t)
section
variable {X : Cx} {F : Fm} {e a b c tg : Expr} {es : List Expr} {st : Stmt} {rest body : List Stmt} {pos : Pos}
theorem PS.imp {t t' : TS} (h : PS X st t) (k : ∀ D σ H, t' D σ H → t D σ H) : PS X st t' := ⟨fun pins s σ H D I q => h.run pins s σ H D I (k D σ H q)⟩
theorem PSs.imp {t t' : TS} (h : PSs X rest t) (k : ∀ D σ H, t' D σ H → t D σ H) : PSs X rest t' := ⟨fun pins s σ H D I q => h.run pins s σ H D I (k D σ H q)⟩
theorem DSs.imp {t t' : WS} (h : DSs X F rest t) (k : ∀ E δ, t' E δ → t E δ) : DSs X F rest t' := PSs.imp h fun D σ H ⟨Hf, δ, E, R, q, m⟩ => ⟨Hf, δ, E, R, k _ _ q, m⟩
def wSeq (t u : WS) : WS := fun E δ => t { E with nx := u E } δ
def wNext : WS := fun E δ => E.nx δ
def wNever : WS := fun _ _ => False
theorem dss_nil : DSs X F [] wNext := PSs.imp pss_nil fun D σ H ⟨Hf, δ, E, R, h, m⟩ => m.nx δ h Hf H σ (Same.refl _) R
theorem dss_one {t : WS} (h : DS X F st t) : DSs X F [st] t := pss_one h
theorem dss_cons {t u : WS} (h1 : DS X F st t) (h2 : DSs X F rest u) : DSs X F (st :: rest) (wSeq t u) :=
  PSs.imp (pss_cons h1 h2) fun D σ H ⟨Hf, δ, E, R, h, m⟩ => ⟨Hf, δ, _, R, h, ⟨fun δ' q Hf' H' σ' s R' => ⟨Hf', δ', E, R', q, m.mono s⟩, m.rt, m.rn, m.bk, m.ct⟩⟩
theorem ds_pass : DS X F (.Pass pos) wNext := PS.imp ps_pass fun D σ H ⟨Hf, δ, E, R, h, m⟩ => m.nx δ h Hf H σ (Same.refl _) R
theorem ds_never : DS X F st wNever := PS.imp ps_never fun D σ H ⟨Hf, δ, E, R, h, m⟩ => h.elim
theorem dss_never : DSs X F rest wNever := PSs.imp pss_never fun D σ H ⟨Hf, δ, E, R, h, m⟩ => h.elim
theorem ds_break : DS X F (.Break pos) (fun E δ => E.bk δ) := PS.imp ps_break fun D σ H ⟨Hf, δ, E, R, h, m⟩ => m.bk δ h Hf H σ (Same.refl _) R
theorem ds_continue : DS X F (.Continue pos) (fun E δ => E.ct δ) := PS.imp ps_continue fun D σ H ⟨Hf, δ, E, R, h, m⟩ => m.ct δ h Hf H σ (Same.refl _) R
def wDrop (t : WE) : WS := fun E δ => t δ fun _ δ1 => E.nx δ1
theorem ds_expr {t : WE} (h : DE X F e t) (hs : swapsWith e none pos.line X.env = pure false := by rfl) : DS X F (.Expr e pos) (wDrop t) :=
  PS.imp (ps_expr h hs) fun D σ H ⟨Hf, δ, E, R, q, m⟩ => ⟨Hf, δ, _, R, q, fun d δ1 p Hf1 H1 v s1 R1 _ => m.nx δ1 p Hf1 H1 σ s1 R1⟩
def wRet (t : WE) : WS := fun E δ => t δ fun d δ1 => E.rt d δ1
theorem ds_ret {t : WE} (h : DE X F e t) : DS X F (.Return (some e) pos) (wRet t) :=
  PS.imp (ps_ret h) fun D σ H ⟨Hf, δ, E, R, q, m⟩ => ⟨Hf, δ, _, R, q, fun d δ1 p Hf1 H1 v s1 R1 r1 => m.rt d δ1 p Hf1 H1 σ v s1 R1 r1⟩
def wRetN (t : WA) : WS := fun E δ => t δ fun ds δ1 => E.rn ds δ1
theorem ds_retN {t : WA} (h : DN X F e t) : DS X F (.Return (some e) pos) (wRetN t) :=
  PS.imp (ps_ret h) fun D σ H ⟨Hf, δ, E, R, q, m⟩ => ⟨Hf, δ, _, R, q, fun d δ1 p Hf1 H1 v s1 R1 r1 => m.rn d δ1 p Hf1 H1 σ v s1 R1 r1⟩
theorem ds_ret0 : DS X F (.Return none pos) (fun E δ => E.rt .non δ) := PS.imp ps_retN fun D σ H ⟨Hf, δ, E, R, h, m⟩ => m.rt _ δ h Hf H σ _ (Same.refl _) R .non
def wIfS (c : WT) (t u : WS) : WS := fun E δ => c δ fun k δ1 => if k = true then t E δ1 else u E δ1
theorem ds_if {sa sb : List Stmt} {tc : WT} {t u : WS} (hc : DTe X F c tc) (ha : DSs X F sa t) (hb : DSs X F sb u) : DS X F (.If c sa sb pos) (wIfS tc t u) :=
  PS.imp (ps_if hc ha hb) fun D σ H ⟨Hf, δ, E, R, q, m⟩ => ⟨Hf, δ, _, R, q, fun k δ1 h1 Hf1 H1 s1 R1 => by
    cases k with
    | true => exact iteT ⟨Hf1, δ1, E, R1, (by simpa using h1), m.mono s1⟩
    | false => exact iteF ⟨Hf1, δ1, E, R1, (by simpa using h1), m.mono s1⟩⟩

/-! ### slots set -/
section
variable {K : PySem.W.Frag} {Hf H : Hp} {σ : L2.St} {δ : List S} {i : Nat}
/-- a slot gets another thing that is frozen, or nothing -/
theorem Rel.setD (R : Rel K F Hf H σ δ) {v : V} {d : D} (hio : ∀ p ∈ F.io, p.1 ≠ i) (r : Rep K Hf v d) : Rel K F Hf H (σ.set i (some v)) (δ.set i (.dat d)) := by
  have out : ∀ {j : Nat} {s : S}, (δ.set i (.dat d))[j]? = some s → s.mine = true → i ≠ j ∧ δ[j]? = some s := fun {j s} e m => by
    by_cases hj : i = j
    · subst hj
      by_cases hl : i < δ.length
      · rw [List.getElem?_set_self hl] at e; cases e; cases m
      · rw [List.getElem?_eq_none (by rw [List.length_set]; omega)] at e; cases e
    · rw [List.getElem?_set_ne hj] at e; exact ⟨hj, e⟩
  refine ⟨R.sub, R.f0, R.keep, R.nf, by rw [List.length_set, List.length_set]; exact R.len, fun j s e => ?_, fun j k b es fs e1 m1 e2 m2 e3 e4 => ?_, fun p hp => ?_, fun j s b e1 m e2 => ?_⟩
  · by_cases hj : i = j
    · subst hj
      by_cases hl : i < δ.length
      · rw [List.getElem?_set_self hl] at e; cases e
        exact ⟨v, List.getElem?_set_self (by rw [R.len]; exact hl), r⟩
      · rw [List.getElem?_eq_none (by rw [List.length_set]; omega)] at e; cases e
    · rw [List.getElem?_set_ne hj] at e
      rw [List.getElem?_set_ne hj]
      exact R.sl j s e
  · obtain ⟨n1, e1⟩ := out e1 m1
    obtain ⟨n2, e2⟩ := out e2 m2
    rw [List.getElem?_set_ne n1] at e3
    rw [List.getElem?_set_ne n2] at e4
    exact R.dis j k b es fs e1 m1 e2 m2 e3 e4
  · obtain ⟨g1, s, g2, m⟩ := R.io p hp
    rw [List.getElem?_set_ne (Ne.symm (hio p hp)), List.getElem?_set_ne (Ne.symm (hio p hp))]
    exact ⟨g1, s, g2, m⟩
  · obtain ⟨n1, e1⟩ := out e1 m
    rw [List.getElem?_set_ne n1] at e2
    exact R.fr j s b e1 m e2
/-- a slot gets a new list of its own -/
theorem Rel.setN (R : Rel K F Hf H σ δ) {p : Addr} {ds : List D} (hio : ∀ p ∈ F.io, p.1 ≠ i) (n : New K F Hf H σ δ p ds) : Rel K F Hf H (σ.set i (some (.ref p))) (δ.set i (.own ds)) := by
  refine ⟨R.sub, R.f0, R.keep, R.nf, by rw [List.length_set, List.length_set]; exact R.len, fun j s e => ?_, fun j k b es fs e1 m1 e2 m2 e3 e4 => ?_, fun p hp => ?_, fun j s b e1 m e2 => ?_⟩
  · by_cases hj : i = j
    · subst hj
      by_cases hl : i < δ.length
      · rw [List.getElem?_set_self hl] at e; cases e
        obtain ⟨vs, h1, h2⟩ := n.ex
        exact ⟨p, vs, List.getElem?_set_self (by rw [R.len]; exact hl), h1, n.nf, h2⟩
      · rw [List.getElem?_eq_none (by rw [List.length_set]; omega)] at e; cases e
    · rw [List.getElem?_set_ne hj] at e
      rw [List.getElem?_set_ne hj]
      exact R.sl j s e
  · have lt : ∀ {j : Nat} {s : S}, (δ.set i (.own ds))[j]? = some s → j < δ.length := fun {j s} e => by
      have := (List.getElem?_eq_some_iff.mp e).1
      rwa [List.length_set] at this
    by_cases hj : i = j
    · subst hj
      rw [List.getElem?_set_self (by rw [R.len]; exact lt e1)] at e3
      cases e3
      by_cases hk : i = k
      · exact hk
      · rw [List.getElem?_set_ne hk] at e2 e4
        exact absurd rfl (n.ne k _ _ e2 m2 e4)
    · rw [List.getElem?_set_ne hj] at e1 e3
      by_cases hk : i = k
      · subst hk
        rw [List.getElem?_set_self (by rw [R.len]; exact lt e2)] at e4
        cases e4
        exact absurd rfl (n.ne j _ _ e1 m1 e3)
      · rw [List.getElem?_set_ne hk] at e2 e4
        exact R.dis j k b es fs e1 m1 e2 m2 e3 e4
  · obtain ⟨g1, s, g2, m⟩ := R.io p hp
    rw [List.getElem?_set_ne (Ne.symm (hio p hp)), List.getElem?_set_ne (Ne.symm (hio p hp))]
    exact ⟨g1, s, g2, m⟩
  · by_cases hj : i = j
    · subst hj
      by_cases hl : i < δ.length
      · rw [List.getElem?_set_self (by rw [R.len]; exact hl)] at e2; cases e2
        exact .inl n.h0
      · rw [List.getElem?_eq_none (by rw [List.length_set]; omega)] at e1; cases e1
    · rw [List.getElem?_set_ne hj] at e1 e2
      exact R.fr j s b e1 m e2
/-- an own slot's list gets other items -/
theorem Rel.setO (R : Rel K F Hf H σ δ) {a : Addr} {ds es : List D} {us : List V} (h : δ[i]? = some (.own ds)) (ha : σ[i]? = some (some (.ref a))) (r : Reps K Hf us es) : Rel K F Hf (upd H a (.lst us)) σ (δ.set i (.own es)) := by
  obtain ⟨a', vs, h1, h2, h3, h4⟩ := R.sl i _ h
  rw [ha] at h1; cases h1
  have hl : i < δ.length := (List.getElem?_eq_some_iff.mp h).1
  have out : ∀ {j : Nat} {s : S}, i ≠ j → (δ.set i (.own es))[j]? = some s → δ[j]? = some s := fun {j s} hj e => by rwa [List.getElem?_set_ne hj] at e
  refine ⟨fun b u e => ?_, R.f0, fun b u e n => ?_, R.nf, by rw [List.length_set]; exact R.len, fun j s e => ?_, fun j k b xs ys e1 m1 e2 m2 e3 e4 => ?_, fun p hp => ?_, fun j s b e1 m e2 => ?_⟩
  · rw [upd_ne (ne_of_none e h3)]; exact R.sub b u e
  · have ne : b ≠ a := fun z => by
      subst z
      rcases R.fr i _ b h rfl ha with q | ⟨p, hp, q⟩
      · rw [q] at e; cases e
      · obtain ⟨g1, _⟩ := R.io p hp
        rw [q, ha] at g1; cases g1
        exact n p hp rfl
    rw [upd_ne ne]; exact R.keep b u e n
  · by_cases hj : i = j
    · subst hj
      rw [List.getElem?_set_self hl] at e; cases e
      exact ⟨a, us, ha, upd_same, h3, r⟩
    · have e := out hj e
      refine (R.sl j s e).stay (Same.refl _) fun m b u e1 e2 => ?_
      obtain ⟨b', o', q1, q2, q3⟩ := (R.sl j s e).there m
      rw [e1] at q1; cases q1
      have ne : b ≠ a := fun z => by
        subst z
        exact hj (R.dis i j b _ _ h rfl e m ha e1)
      exact ⟨by rw [upd_ne ne]; exact e2, q3⟩
  · have low : ∀ {j : Nat} {s : S}, (δ.set i (.own es))[j]? = some s → s.mine = true → ∃ t, δ[j]? = some t ∧ t.mine = true := fun {j s} e m => by
      by_cases hj : i = j
      · subst hj; exact ⟨_, h, rfl⟩
      · exact ⟨s, out hj e, m⟩
    obtain ⟨x1, q1, m1⟩ := low e1 m1
    obtain ⟨x2, q2, m2⟩ := low e2 m2
    exact R.dis j k b x1 x2 q1 m1 q2 m2 e3 e4
  · obtain ⟨g1, s, g2, m⟩ := R.io p hp
    by_cases hj : i = p.1
    · exact ⟨g1, .own es, by rw [← hj]; exact List.getElem?_set_self hl, rfl⟩
    · exact ⟨g1, s, by rw [List.getElem?_set_ne hj]; exact g2, m⟩
  · by_cases hj : i = j
    · subst hj; exact R.fr i _ b h rfl e2
    · exact R.fr j s b (out hj e1) m e2
end
def NoIo (F : Fm) (i : Nat) : Prop := ∀ p ∈ F.io, p.1 ≠ i
/-- a target, by data; vs: the slots that it may set -/
abbrev WG := D → List S → (List S → Prop) → Prop
def Out (vs : List Nat) (σ σ' : L2.St) : Prop := σ'.length = σ.length ∧ ∀ j : Nat, j ∉ vs → σ'[j]? = σ[j]?
theorem Out.trans {vs : List Nat} {a b c : L2.St} (h : Out vs a b) (k : Out vs b c) : Out vs a c := ⟨k.1.trans h.1, fun j n => (k.2 j n).trans (h.2 j n)⟩
theorem Out.mono {vs ws : List Nat} {a b : L2.St} (h : Out vs a b) (k : ∀ i ∈ vs, i ∈ ws) : Out ws a b := ⟨h.1, fun j n => h.2 j fun z => n (k j z)⟩
theorem Out.set {vs : List Nat} {a : L2.St} {i : Nat} {v : Option V} (h : i ∈ vs) : Out vs a (a.set i v) := ⟨List.length_set .., fun j n => List.getElem?_set_ne fun z => n (by rw [← z]; exact h)⟩
def liftG (K : PySem.W.Frag) (F : Fm) (vs : List Nat) (g : WG) : TG := fun v σ H Q => ∃ Hf δ d P, Rel K F Hf H σ δ ∧ Rep K Hf v d ∧ g d δ P ∧ ∀ δ', P δ' → ∀ Hf' H' σ', Same Hf Hf' → Rel K F Hf' H' σ' δ' → Out vs σ σ' → Q σ' H'
def DG (X : Cx) (F : Fm) (tg : Expr) (vs : List Nat) (g : WG) : Prop := PG X tg (liftG X.K F vs g)
theorem PG.imp {t t' : TG} (h : PG X tg t) (k : ∀ v σ H Q, t' v σ H Q → t v σ H Q) : PG X tg t' := ⟨fun pins s σ H v u Q I r q => h.run pins s σ H v u Q I r (k v σ H Q q)⟩
def gSet (i : Nat) : WG := fun d δ P => P (δ.set i (.dat d))
theorem dg_name {i : Nat} (h : PG X tg (gName i)) (hio : NoIo F i) : DG X F tg [i] (gSet i) := PG.imp h fun v σ H Q ⟨Hf, δ, d, P, R, r, p, k⟩ => k _ p Hf H _ (Same.refl _) (R.setD hio r) (Out.set (by simp))
def wAsg (t : WE) (g : WG) : WS := fun E δ => t δ fun d δ1 => g d δ1 E.nx
theorem ds_asg {t : WE} {g : WG} {vs : List Nat} (he : DE X F e t) (hg : DG X F tg vs g) (hs : swapsWithSole [tg] e pos.line X.env = pure false := by rfl) (hw : swappedStores [tg] e X.env = pure none := by rfl) (h1 : List.map (fun x => x.snd) (assignEach [tg] X.env) = [assign tg X.env] := by rfl) : DS X F (.Assign [tg] e pos) (wAsg t g) :=
  PS.imp (ps_asg he hg hs hw (h1 := h1)) fun D σ H ⟨Hf, δ, E, R, q, m⟩ => ⟨Hf, δ, _, R, q, fun d δ1 p Hf1 H1 v s1 R1 r1 => ⟨Hf1, δ1, d, _, R1, r1, p, fun δ2 n Hf2 H2 σ2 s2 R2 _ => m.nx δ2 n Hf2 H2 σ2 (s1.trans s2) R2⟩⟩
def wSetN (i : Nat) (t : WA) : WS := fun E δ => t δ fun ds δ1 => E.nx (δ1.set i (.own ds))
theorem ds_setN {t : WA} {i : Nat} (he : DN X F e t) (hg : PG X tg (gName i)) (hio : NoIo F i) (hs : swapsWithSole [tg] e pos.line X.env = pure false := by rfl) (hw : swappedStores [tg] e X.env = pure none := by rfl) (h1 : List.map (fun x => x.snd) (assignEach [tg] X.env) = [assign tg X.env] := by rfl) : DS X F (.Assign [tg] e pos) (wSetN i t) :=
  PS.imp (ps_asg he hg hs hw (h1 := h1)) fun D σ H ⟨Hf, δ, E, R, q, m⟩ => ⟨Hf, δ, _, R, q, fun d δ1 p Hf1 H1 v s1 R1 r1 => m.nx _ p Hf1 H1 _ s1 (R1.setN hio r1)⟩
/-- a, b = e -/
abbrev WGs := List D → List S → (List S → Prop) → Prop
def liftGs (K : PySem.W.Frag) (F : Fm) (vs : List Nat) (g : WGs) : TGs := fun xs σ H Q => ∃ Hf δ ds P, Rel K F Hf H σ δ ∧ Reps K Hf xs ds ∧ g ds δ P ∧ ∀ δ', P δ' → ∀ Hf' H' σ', Same Hf Hf' → Rel K F Hf' H' σ' δ' → Out vs σ σ' → Q σ' H'
def DGs (X : Cx) (F : Fm) (ts : List Expr) (vs : List Nat) (g : WGs) : Prop := PGs X ts (liftGs X.K F vs g)
theorem PGs.imp {ts : List Expr} {t t' : TGs} (h : PGs X ts t) (k : ∀ v σ H Q, t' v σ H Q → t v σ H Q) : PGs X ts t' := ⟨fun pins s σ H v u Q I r q => h.run pins s σ H v u Q I r (k v σ H Q q)⟩
def wgNil : WGs := fun ds δ P => ds = [] ∧ P δ
def wgCons (g : WG) (gs : WGs) : WGs := fun ds δ P => ∃ d r, ds = d :: r ∧ g d δ fun δ' => gs r δ' P
theorem dgs_nil : DGs X F [] [] wgNil := PGs.imp pgs_nil fun v σ H Q ⟨Hf, δ, ds, P, R, r, ⟨e, p⟩, k⟩ => by
  subst e; cases r
  exact ⟨rfl, k _ p Hf H _ (Same.refl _) R ⟨rfl, fun _ _ => rfl⟩⟩
theorem dgs_cons {ts : List Expr} {g : WG} {gs : WGs} {us vs : List Nat} (h1 : DG X F tg us g) (h2 : DGs X F ts vs gs) (hs : List.map (fun x => x.snd) (assignEach (tg :: ts) X.env) = assign tg X.env :: List.map (fun x => x.snd) (assignEach ts X.env) := by rfl) : DGs X F (tg :: ts) (us ++ vs) (wgCons g gs) :=
  PGs.imp (pgs_cons h1 h2 (hs := hs)) fun v σ H Q ⟨Hf, δ, ds, P, R, r, ⟨d, r', e, p⟩, k⟩ => by
  subst e
  cases r with
  | cons r1 r2 => exact ⟨_, _, rfl, Hf, δ, d, _, R, r1, p, fun δ' q Hf' H' σ' s R' o => ⟨Hf', δ', r', _, R', r2.mono s, q, fun δ2 n Hf2 H2 σ2 s2 R2 o2 => k _ n Hf2 H2 σ2 (s.trans s2) R2
      ((o.mono fun i h => List.mem_append_left _ h).trans (o2.mono fun i h => List.mem_append_right _ h))⟩⟩
def wgTup (n : Nat) (gs : WGs) : WG := fun d δ P => ∃ ds, d = .tup ds ∧ ds.length = n ∧ gs ds δ P
theorem dg_tup {k n : Nat} {gs : WGs} {vs : List Nat} (hc : X.calm = true) (h : DGs X F es vs gs) (hn : (assignEach es X.env).length = n := by rfl) (hst : (assignEach es X.env).findIdx? (·.1) = none := by rfl) : DG X F (.Tuple es k pos) vs (wgTup n gs) :=
  PG.imp (pg_tup hc h hn hst) fun v σ H Q ⟨Hf, δ, d, P, R, r, ⟨ds, e, l, p⟩, k⟩ => by
  subst e
  have pr : PRep X.K Hf σ δ v (.tup ds) := .inl r
  obtain ⟨a, vs, rfl, h1, h2⟩ := pr.tupS R
  exact ⟨a, vs, rfl, h1, by rw [h2.length]; exact l, Hf, δ, ds, P, R, h2, p, k⟩
end
end DT
end
section
set_option maxHeartbeats 4000000
namespace DT
open PySem PySem.Spec PyProof.Rows L2

/-! ### what is walked -/
structure WalkD (K : PySem.W.Frag) (J : It) (Hf0 : Hp) (ds : List D) : Prop where
  goes : ∀ i Hf H, i < ds.length → Same Hf0 Hf → Same Hf H → J.go i H
  stops : ∀ Hf H, Same Hf0 Hf → Same Hf H → J.stop ds.length H
  yields : ∀ i Hf H x H', i < ds.length → Same Hf0 Hf → Same Hf H → J.yld i H x H' → ∃ d, ds[i]? = some d ∧ ((H' = H ∧ Rep K Hf x d) ∨ ∃ p o, H p = none ∧ H' = upd H p o ∧ Rep K (upd Hf p o) x d)
abbrev WI := List S → (List D → List S → Prop) → Prop
def liftI (K : PySem.W.Frag) (F : Fm) (wi : WI) : TI := fun σ H R => ∃ Hf δ P, Rel K F Hf H σ δ ∧ wi δ P ∧ ∀ ds δ', P ds δ' → ∀ Hf' H' J, Same Hf Hf' → Rel K F Hf' H' σ δ' → WalkD K J Hf' ds → R J H'
def DI (X : Cx) (F : Fm) (tg iter : Expr) (wi : WI) : Prop := PI X tg iter (liftI X.K F wi)
section
variable {X : Cx} {F : Fm} {e a b c tg iter : Expr} {es : List Expr} {st : Stmt} {rest body : List Stmt} {pos : Pos}
theorem PI.imp {t t' : TI} (h : PI X tg iter t) (k : ∀ σ H R, t' σ H R → t σ H R) : PI X tg iter t' := ⟨fun pins s σ H R I q => h.run pins s σ H R I (k σ H R q)⟩
theorem pi_seq {l : Expr} {tl : TE} (hl : PE X l tl) : PI X tg l (fun σ H R => tl σ H fun x H1 => (∃ a xs, x = .ref a ∧ SqL X.K H1 a xs ∧ R (Itl X.K a) H1) ∨ (∃ a xs, x = .ref a ∧ SqT X.K H1 a xs ∧ R (Itt X.K a) H1)) := by
  refine ⟨fun pins s σ H R I h => ?_⟩
  refine thn (hl.run pins s σ H _ I h) fun v s1 ⟨x, H1, I1, r1, q1⟩ => ?_
  rcases q1 with ⟨a, xs, e, hq, q⟩ | ⟨a, xs, e, hq, q⟩
  · subst e
    cases r1
    obtain ⟨its, rv, p, hz⟩ := I1.list hq
    refine wpAny_pyIter_list p.isList ?_
    refine ⟨s1.heap.objs.size, [s1.heap.objs.size], _, _, H1, rfl, I1.kept (t' := s1.toks) fun b o e => Heap.get?_push_of_some _ e, turn_list a _, ⟨_, Heap.get?_push_size _ rfl, rfl, rfl⟩, fun b hb => ?_, q⟩
    have e : b = s1.heap.objs.size := by simpa using hb
    subst e
    exact I1.fpOk (Nat.le_refl _) (I1.hok.fresh (Nat.le_refl _))
  · subst e
    cases r1
    obtain ⟨its, rv, p, hz⟩ := I1.tuple hq
    refine wpAny_pyIter_tuple (show s1.heap.IsTuple a its.toArray from p) ?_
    refine ⟨s1.heap.objs.size, [s1.heap.objs.size], _, _, H1, rfl, I1.kept (t' := s1.toks) fun b o e => Heap.get?_push_of_some _ e, turn_tuple a _, ⟨_, Heap.get?_push_size _ rfl, rfl, rfl⟩, fun b hb => ?_, q⟩
    have e : b = s1.heap.objs.size := by simpa using hb
    subst e
    exact I1.fpOk (Nat.le_refl _) (I1.hok.fresh (Nat.le_refl _))
theorem wd_list {K : PySem.W.Frag} {Hf0 : Hp} {a : Addr} {vs : List V} {ds : List D} (h : SqL K Hf0 a vs) (r : Reps K Hf0 vs ds) : WalkD K (Itl K a) Hf0 ds := by
  have w := walk_list (K := K) (a := a) (xs := vs)
  have hl := r.length
  refine ⟨fun i Hf H hi s1 s2 => w.goes i H (by omega) (s2.seq (s1.seq h)), fun Hf H s1 s2 => ?_, fun i Hf H x H' hi s1 s2 y => ?_⟩
  · rw [← hl]; exact w.stops H (s2.seq (s1.seq h))
  · obtain ⟨e1, e2⟩ := w.yields i H x H' (by omega) (s2.seq (s1.seq h)) y
    obtain ⟨d, g1, g2⟩ := (r.mono s1).get e2
    exact ⟨d, g1, .inl ⟨e1, g2⟩⟩
theorem wd_tup {K : PySem.W.Frag} {Hf0 : Hp} {a : Addr} {vs : List V} {ds : List D} (h : SqT K Hf0 a vs) (r : Reps K Hf0 vs ds) : WalkD K (Itt K a) Hf0 ds := by
  have w := walk_tup (K := K) (a := a) (xs := vs)
  have hl := r.length
  refine ⟨fun i Hf H hi s1 s2 => w.goes i H (by omega) (seqT s2 (seqT s1 h)), fun Hf H s1 s2 => ?_, fun i Hf H x H' hi s1 s2 y => ?_⟩
  · rw [← hl]; exact w.stops H (seqT s2 (seqT s1 h))
  · obtain ⟨e1, e2⟩ := w.yields i H x H' (by omega) (seqT s2 (seqT s1 h)) y
    obtain ⟨d, g1, g2⟩ := (r.mono s1).get e2
    exact ⟨d, g1, .inl ⟨e1, g2⟩⟩
def wiSeq (t : WE) : WI := fun δ P => t δ fun d δ1 => ∃ ds, sq d = some ds ∧ P ds δ1
theorem di_seq {t : WE} (h : DE X F e t) : DI X F tg e (wiSeq t) := PI.imp (pi_seq h) fun σ H R' ⟨Hf, δ, P, R, q, k⟩ => ⟨Hf, δ, _, R, q, fun d δ1 ⟨ds, e, p⟩ Hf1 H1 v s1 R1 r1 => by
  cases r1 with
  | tup h r => simp only [sq] at e; cases e; exact .inr ⟨_, _, rfl, seqT R1.sub h, k _ δ1 p Hf1 H1 _ s1 R1 (wd_tup h r)⟩
  | lst h r => simp only [sq] at e; cases e; exact .inl ⟨_, _, rfl, R1.sub.seq (SqL.of h), k _ δ1 p Hf1 H1 _ s1 R1 (wd_list (SqL.of h) r)⟩
  | row h r => simp only [sq] at e; cases e; exact .inl ⟨_, _, rfl, R1.sub.seq h, k _ δ1 p Hf1 H1 _ s1 R1 (wd_list h r)⟩
  | _ => simp only [sq] at e; cases e⟩
/-- the ints from lo on, n of them -/
def rngD (lo : Int) (n : Nat) : List D := (List.range n).map fun (i : Nat) => D.int (lo + (i : Int))
theorem wd_range {K : PySem.W.Frag} {Hf0 : Hp} {lo : Int} {n : Nat} : WalkD K (Itr lo n) Hf0 (rngD lo n) := by
  have w := walk_range (lo := lo) (n := n)
  have hl : (rngD lo n).length = n := by simp [rngD]
  refine ⟨fun i Hf H hi s1 s2 => w.goes i H (by omega) trivial, fun Hf H s1 s2 => by rw [hl]; exact w.stops H trivial, fun i Hf H x H' hi s1 s2 y => ?_⟩
  obtain ⟨e1, e2⟩ := w.yields i H x H' (by omega) trivial y
  subst e2
  refine ⟨.int (lo + (i : Int)), ?_, .inl ⟨e1, .int _⟩⟩
  have : i < n := by omega
  simp [rngD, this]
def wiR1 (t : WE) : WI := fun δ P => t δ fun x δ1 => ∃ j : Int, x = .int j ∧ (-(2 ^ 62) ≤ j ∧ j < 2 ^ 62) ∧ P (rngD 0 j.toNat) δ1
def wiR2 (t u : WE) : WI := fun δ P => t δ fun x δ1 => u δ1 fun y δ2 => ∃ i j : Int, x = .int i ∧ y = .int j ∧ (-(2 ^ 62) ≤ i ∧ i < 2 ^ 62 ∧ -(2 ^ 62) ≤ j ∧ j < 2 ^ 62) ∧ P (rngD i (j - i).toNat) δ2
theorem di_range1 {p : Pos} {t : WE} (hg : Gl X "range") (hm : X.mg "range" = none) (ha : DE X F a t) (hs : starEach [a] X.env = [(false, eval a X.env)] := by rfl) : DI X F tg (.Call (.Name "range" p) [a] [] pos) (wiR1 t) :=
  PI.imp (pi_range1 hg hm (pa_cons ha pa_nil hs) hs) fun σ H R' ⟨Hf, δ, P, R, q, k⟩ => ⟨Hf, δ, _, R, q, fun d δ1 ⟨j, e, ⟨h1, h2⟩, p⟩ Hf1 H1 v s1 R1 r1 => by
    subst e; cases r1
    exact ⟨j, rfl, h1, h2, k _ δ1 p Hf1 H1 _ s1 R1 wd_range⟩⟩
theorem di_range2 {p : Pos} {t u : WE} (hg : Gl X "range") (hm : X.mg "range" = none) (ha : DE X F a t) (hb : DE X F b u) (hs : starEach [a, b] X.env = [(false, eval a X.env), (false, eval b X.env)] := by rfl) (hs2 : starEach [b] X.env = [(false, eval b X.env)] := by rfl)
    (hs3 : starEach [a, b] X.env = (false, eval a X.env) :: starEach [b] X.env := by rfl) : DI X F tg (.Call (.Name "range" p) [a, b] [] pos) (wiR2 t u) :=
  PI.imp (pi_range2 hg hm (pa_cons ha (pa_cons hb pa_nil hs2) hs3) hs hs2) fun σ H R' ⟨Hf, δ, P, R, q, k⟩ => ⟨Hf, δ, _, R, q, fun x δ1 h1 Hf1 H1 v s1 R1 r1 => ⟨Hf1, δ1, _, R1, h1, fun y δ2 ⟨i, j, e1, e2, hb, p⟩ Hf2 H2 w s2 R2 r2 => by
    subst e1 e2; cases r1; cases r2
    exact ⟨i, j, rfl, hb, k _ δ2 p Hf2 H2 _ (s1.trans s2) R2 wd_range⟩⟩⟩

/-! ### for, while -/
def wLoop (g : WG) (body : WS) (E : DEnds) : List D → List S → Prop
  | [], δ => E.nx δ
  | d :: ds, δ => g d δ fun δ1 => body { E with nx := wLoop g body E ds, ct := wLoop g body E ds, bk := E.nx } δ1
def wFor (wi : WI) (g : WG) (body : WS) : WS := fun E δ => wi δ fun ds δ1 => wLoop g body E ds δ1
theorem Rel.yield {K : PySem.W.Frag} {Hf H H' : Hp} {σ : L2.St} {δ : List S} {x : V} {d : D} (R : Rel K F Hf H σ δ) (h : (H' = H ∧ Rep K Hf x d) ∨ ∃ p o, H p = none ∧ H' = upd H p o ∧ Rep K (upd Hf p o) x d) : ∃ Hf', Same Hf Hf' ∧ Rel K F Hf' H' σ δ ∧ Rep K Hf' x d := by
  rcases h with ⟨rfl, r⟩ | ⟨p, o, hp, rfl, r⟩
  · exact ⟨Hf, Same.refl _, R, r⟩
  · exact ⟨_, R.same_new hp, R.new hp, r⟩
theorem drop_get {α : Type} {xs : List α} {i : Nat} {d : α} (h : xs[i]? = some d) : xs.drop i = d :: xs.drop (i + 1) := by
  obtain ⟨h1, h2⟩ := List.getElem?_eq_some_iff.mp h
  rw [List.drop_eq_getElem_cons h1, h2]
theorem ds_for {wi : WI} {g : WG} {vs : List Nat} {t : WS} (hp : PassesOwn (model X.prog X.w) X.A X.env X.xe) (hc : X.calm = true) (hi : DI X F tg iter wi) (hg : DG X F tg vs g) (hb : DSs X F body t)
    (rule : ∀ ti tb, PI X tg iter ti → PSs X body tb → PS X st (tFor ti (liftG X.K F vs g) tb)) : DS X F st (wFor wi g t) :=
  PS.imp (rule _ _ hi hb) fun D σ H ⟨Hf, δ, E, R, q, m⟩ => ⟨Hf, δ, _, R, q, fun ds δ1 h1 Hf1 H1 J s1 R1 w => by
    refine ⟨fun i n σ' H' => n = ds.length - i ∧ i ≤ ds.length ∧ ∃ Hf' δ', Same Hf1 Hf' ∧ Rel X.K F Hf' H' σ' δ' ∧ wLoop g t E (ds.drop i) δ', ⟨ds.length, rfl, Nat.zero_le _, Hf1, δ1, Same.refl _, R1, h1⟩, ?_⟩
    rintro i n σ' H' ⟨rfl, hi, Hf', δ', sm, R', hl⟩
    by_cases hlt : i < ds.length
    · have hd := List.getElem?_eq_getElem hlt
      rw [drop_get hd] at hl
      refine .inr ⟨w.goes i Hf' H' hlt sm R'.sub, fun σ2 H2 => i + 1 ≤ ds.length ∧ ∃ Hf2 δ2, Same Hf1 Hf2 ∧ Rel X.K F Hf2 H2 σ2 δ2 ∧ wLoop g t E (ds.drop (i + 1)) δ2, ?_, ?_⟩
      · rintro σ2 H2 ⟨h1, z⟩
        exact ⟨ds.length - (i + 1), by omega, rfl, h1, z⟩
      · intro x H2 y
        obtain ⟨d, e1, e2⟩ := w.yields i Hf' H' x H2 hlt sm R'.sub y
        rw [hd] at e1; cases e1
        obtain ⟨Hf2, s2, R2, r2⟩ := R'.yield e2
        refine ⟨Hf2, δ', _, _, R2, r2, hl, fun δ3 h3 Hf3 H3 σ3 s3 R3 _ => ⟨Hf3, δ3, _, R3, h3, ?_⟩⟩
        have s13 : Same Hf1 Hf3 := (sm.trans s2).trans s3
        have mm := m.mono (s1.trans s13)
        exact ⟨fun δ4 q4 Hf4 H4 σ4 s4 R4 => ⟨hlt, Hf4, δ4, s13.trans s4, R4, q4⟩, mm.rt, mm.rn, fun δ4 q4 Hf4 H4 σ4 s4 R4 => mm.nx δ4 q4 Hf4 H4 σ4 s4 R4, fun δ4 q4 Hf4 H4 σ4 s4 R4 => ⟨hlt, Hf4, δ4, s13.trans s4, R4, q4⟩⟩
    · have e : i = ds.length := by omega
      subst e
      rw [List.drop_length] at hl
      exact .inl ⟨w.stops Hf' H' sm R'.sub, m.nx δ' hl Hf' H' σ' (s1.trans sm) R'⟩⟩
def wWhile (c : WT) (body : WS) : WS := fun E δ => ∃ W : Nat → List S → Prop, (∃ m, W m δ) ∧ ∀ m δ, W m δ → c δ fun k δ1 => if k = true then ∃ N : List S → Prop, (∀ δ', N δ' → ∃ m', m' < m ∧ W m' δ') ∧ body { E with nx := N, ct := N, bk := E.nx } δ1 else E.nx δ1
end
end DT
end
section
set_option maxHeartbeats 4000000
namespace DT
open PySem PySem.Spec PyProof.Rows L2
section
variable {K : PySem.W.Frag} {F : Fm} {Hf H Hf' H' : Hp} {σ σ' : L2.St} {δ δ' : List S}
/-- the lists and instances that the slots hold alone, by slot and address -/
def mines (σ : L2.St) (δ : List S) : List (Nat × Addr) := (List.range δ.length).filterMap fun (i : Nat) => match σ[i]?, δ[i]? with
  | some (some (.ref a)), some s => if s.mine = true then some (i, a) else none
  | _, _ => none
theorem mem_mines {i : Nat} {a : Addr} : (i, a) ∈ mines σ δ ↔ σ[i]? = some (some (.ref a)) ∧ ∃ s, δ[i]? = some s ∧ s.mine = true := by
  unfold mines
  rw [List.mem_filterMap]
  constructor
  · rintro ⟨j, hj, e⟩
    split at e
    · rename_i a' s e1 e2
      split at e
      · rename_i m
        cases e
        exact ⟨e1, s, e2, m⟩
      · cases e
    · cases e
  · rintro ⟨e1, s, e2, m⟩
    have hl : i < δ.length := (List.getElem?_eq_some_iff.mp e2).1
    refine ⟨i, List.mem_range.mpr hl, ?_⟩
    rw [e1, e2]
    simp [m]
/-- the frame of what runs within -/
def Fm.in_ (H Hf : Hp) (σ : L2.St) (δ : List S) : Fm := ⟨H, Hf, mines σ δ⟩
theorem Rel.inner (R : Rel K F Hf H σ δ) : Rel K (Fm.in_ H Hf σ δ) Hf H σ δ := by
  refine ⟨R.sub, Same.refl _, fun b o e _ => e, fun b o _ n => n, R.len, R.sl, R.dis, fun p hp => ?_, fun i s a e m g => .inr ⟨(i, a), mem_mines.mpr ⟨g, s, e, m⟩, rfl⟩⟩
  exact mem_mines.mp hp
theorem Rel.outer (R : Rel K F Hf H σ δ) (R' : Rel K (Fm.in_ H Hf σ δ) Hf' H' σ' δ') : Rel K F Hf' H' σ' δ' := by
  refine ⟨R'.sub, R.f0.trans R'.f0, fun b o e n => R'.keep b o (R.keep b o e n) fun p hp z => ?_, fun b o e n => ?_, R'.len, R'.sl, R'.dis, fun p hp => ?_, fun i s a e m g => ?_⟩
  · obtain ⟨h1, s, h2, m⟩ := mem_mines.mp hp
    rcases R.fr p.1 s p.2 h2 m h1 with q | ⟨r, hr, q⟩
    · rw [z, e] at q; cases q
    · obtain ⟨g1, _⟩ := R.io r hr
      rw [q, h1] at g1
      have g1 : p.2 = r.2 := V.ref.inj (Option.some.inj (Option.some.inj g1))
      exact n r hr (by rw [← g1]; exact z)
  · have hn := R.nf b o e n
    have : ∃ u, H b = some u := by
      by_cases q : ∀ p ∈ F.io, p.2 ≠ b
      · exact ⟨o, R.keep b o e q⟩
      · cases hb : H b with
        | some u => exact ⟨u, rfl⟩
        | none =>
          exfalso
          apply q
          intro r hr z
          obtain ⟨h1, s, h2, m⟩ := R.io r hr
          obtain ⟨a, o', q1, q2, _⟩ := (R.sl _ _ h2).there m
          rw [h1] at q1; cases q1
          rw [z, hb] at q2; cases q2
    obtain ⟨u, hu⟩ := this
    exact R'.nf b u hu hn
  · obtain ⟨h1, s, h2, m⟩ := R.io p hp
    exact R'.io p (mem_mines.mpr ⟨h1, s, h2, m⟩)
  · rcases R'.fr i s a e m g with q | ⟨p, hp, q⟩
    · exact .inl (R.none0 q)
    · obtain ⟨h1, s', h2, m'⟩ := mem_mines.mp hp
      obtain ⟨g1, _⟩ := R'.io p hp
      rw [q, g] at g1; cases g1
      rw [q] at h1 h2
      exact R.fr i s' p.2 h2 m' h1
theorem New.inner {p : Addr} {ds : List D} (R : Rel K F Hf H σ δ) (n : New K F Hf H σ δ p ds) (R' : Rel K (Fm.in_ H Hf σ δ) Hf' H' σ' δ') : New K F Hf' H' σ' δ' p ds := by
  obtain ⟨vs, h1, h2⟩ := n.ex
  refine ⟨⟨vs, R'.keep p _ h1 fun q hq z => ?_, h2.mono R'.f0⟩, R'.nf p _ h1 n.nf, n.h0, fun i s a e m g z => ?_⟩
  · obtain ⟨g1, s, g2, m⟩ := mem_mines.mp hq
    exact n.ne q.1 s q.2 g2 m g1 z
  · subst z
    rcases R'.fr i s a e m g with q | ⟨q, hq, r⟩
    · rw [show (Fm.in_ H Hf σ δ).H0 = H from rfl, h1] at q; cases q
    · obtain ⟨g1, s', g2, m'⟩ := mem_mines.mp hq
      obtain ⟨k1, _⟩ := R'.io q hq
      rw [r, g] at k1; cases k1
      rw [r] at g1 g2
      exact n.ne i s' q.2 g2 m' g1 rfl
theorem Rel.noio {vs : List Nat} (h : ∀ i ∈ vs, ∀ s, δ[i]? = some s → s.mine = false) {i : Nat} (hi : i ∈ vs) : NoIo (Fm.in_ H Hf σ δ) i := fun p hp z => by
  obtain ⟨_, s, g2, m⟩ := mem_mines.mp hp
  rw [z] at g2
  rw [h i hi s g2] at m; cases m
/-- a slot forgotten -/
theorem Rel.setU {i : Nat} (R : Rel K F Hf H σ δ) (hio : NoIo F i) : Rel K F Hf H (σ.set i none) (δ.set i .un) := by
  have out : ∀ {j : Nat} {s : S}, (δ.set i .un)[j]? = some s → s.mine = true → i ≠ j ∧ δ[j]? = some s := fun {j s} e m => by
    by_cases hj : i = j
    · subst hj
      by_cases hl : i < δ.length
      · rw [List.getElem?_set_self hl] at e; cases e; cases m
      · rw [List.getElem?_eq_none (by rw [List.length_set]; omega)] at e; cases e
    · rw [List.getElem?_set_ne hj] at e; exact ⟨hj, e⟩
  refine ⟨R.sub, R.f0, R.keep, R.nf, by rw [List.length_set, List.length_set]; exact R.len, fun j s e => ?_, fun j k b es fs e1 m1 e2 m2 e3 e4 => ?_, fun p hp => ?_, fun j s b e1 m e2 => ?_⟩
  · by_cases hj : i = j
    · subst hj
      by_cases hl : i < δ.length
      · rw [List.getElem?_set_self hl] at e; cases e; trivial
      · rw [List.getElem?_eq_none (by rw [List.length_set]; omega)] at e; cases e
    · rw [List.getElem?_set_ne hj] at e
      rw [List.getElem?_set_ne hj]
      exact R.sl j s e
  · obtain ⟨n1, e1⟩ := out e1 m1
    obtain ⟨n2, e2⟩ := out e2 m2
    rw [List.getElem?_set_ne n1] at e3
    rw [List.getElem?_set_ne n2] at e4
    exact R.dis j k b es fs e1 m1 e2 m2 e3 e4
  · obtain ⟨g1, s, g2, m⟩ := R.io p hp
    rw [List.getElem?_set_ne (Ne.symm (hio p hp)), List.getElem?_set_ne (Ne.symm (hio p hp))]
    exact ⟨g1, s, g2, m⟩
  · obtain ⟨n1, e1⟩ := out e1 m
    rw [List.getElem?_set_ne n1] at e2
    exact R.fr j s b e1 m e2
def unset (δ : List S) : List Nat → List S
  | [] => δ
  | v :: vs => (unset δ vs).set v .un
theorem Rel.wipe (R : Rel K F Hf H σ δ) : ∀ {vs : List Nat}, (∀ i ∈ vs, NoIo F i) → Rel K F Hf H (L2.wipe σ vs) (unset δ vs)
  | [], _ => R
  | v :: vs, h => (Rel.wipe R fun i hi => h i (List.mem_cons_of_mem _ hi)).setU (h v (List.mem_cons_self))
theorem unset_in : ∀ {vs : List Nat} {i : Nat}, i ∈ vs → ∀ s, (unset δ vs)[i]? = some s → s = .un
  | v :: vs, i, h, s, e => by
    unfold unset at e
    by_cases hv : v = i
    · subst hv
      have hl := (List.getElem?_eq_some_iff.mp e).1
      rw [List.length_set] at hl
      rw [List.getElem?_set_self hl] at e; cases e; rfl
    · rw [List.getElem?_set_ne hv] at e
      rcases List.mem_cons.mp h with z | z
      · exact absurd z.symm hv
      · exact unset_in z s e
theorem unset_out : ∀ {vs : List Nat} {i : Nat}, i ∉ vs → (unset δ vs)[i]? = δ[i]?
  | [], _, _ => rfl
  | v :: vs, i, h => by
    unfold unset
    rw [List.getElem?_set_ne (fun z => h (by rw [z]; exact List.mem_cons_self))]
    exact unset_out fun z => h (List.mem_cons_of_mem _ z)
theorem wipe_in : ∀ {vs : List Nat} {i : Nat}, i ∈ vs → (L2.wipe σ vs)[i]? = if i < σ.length then some none else none
  | v :: vs, i, h => by
    unfold L2.wipe
    by_cases hv : v = i
    · subst hv
      by_cases hl : v < σ.length
      · rw [if_pos hl, List.getElem?_set_self (by rw [L2.wipe_length]; exact hl)]
      · rw [if_neg hl, List.getElem?_eq_none (by rw [List.length_set, L2.wipe_length]; omega)]
    · rw [List.getElem?_set_ne hv]
      rcases List.mem_cons.mp h with z | z
      · exact absurd z.symm hv
      · exact wipe_in z
theorem wipe_out' {vs : List Nat} {i : Nat} (h : i ∉ vs) : (L2.wipe σ vs)[i]? = σ[i]? := L2.wipe_out h
theorem wipe_eq {vs : List Nat} {a b : L2.St} (h : Out vs a b) : L2.wipe b vs = L2.wipe a vs := by
  apply List.ext_getElem?
  intro i
  by_cases hi : i ∈ vs
  · rw [wipe_in hi, wipe_in hi, h.1]
  · rw [wipe_out' hi, wipe_out' hi, h.2 i hi]
theorem wipe_wipe {vs : List Nat} : L2.wipe (L2.wipe σ vs) vs = L2.wipe σ vs := by
  apply List.ext_getElem?
  intro i
  by_cases hi : i ∈ vs
  · rw [wipe_in hi, wipe_in hi, L2.wipe_length]
  · rw [wipe_out' hi]
/-- the slots of a block's own names told nothing: the values there do not matter -/
theorem Rel.unwipe {vs : List Nat} (R : Rel K F Hf H (L2.wipe σ vs) δ) (h : ∀ i ∈ vs, ∀ s, δ[i]? = some s → s = .un) : Rel K F Hf H σ δ := by
  have out : ∀ {i : Nat} {s : S}, δ[i]? = some s → s ≠ .un → i ∉ vs := fun {i s} e n z => n (h i z s e)
  refine ⟨R.sub, R.f0, R.keep, R.nf, by rw [← L2.wipe_length σ vs]; exact R.len, fun i s e => ?_, fun i j a ds es e1 m1 e2 m2 e3 e4 => ?_, fun p hp => ?_, fun i s a e m g => ?_⟩
  · cases s with
    | un => trivial
    | _ => have q := R.sl i _ e; rw [wipe_out' (out e (fun z => nomatch z))] at q; exact q
  · exact R.dis i j a ds es e1 m1 e2 m2 (by rw [wipe_out' (out e1 (fun z => by subst z; cases m1))]; exact e3) (by rw [wipe_out' (out e2 (fun z => by subst z; cases m2))]; exact e4)
  · obtain ⟨g1, s, g2, m⟩ := R.io p hp
    have nu : s ≠ .un := fun z => by subst z; cases m
    rw [wipe_out' (out g2 nu)] at g1
    exact ⟨g1, s, g2, m⟩
  · have nu : s ≠ .un := fun z => by subst z; cases m
    exact R.fr i s a e m (by rw [wipe_out' (out e nu)]; exact g)
/-- an object that no slot and no frozen thing knows is changed -/
theorem Rel.updN {p : Addr} {ds es : List D} {us : List V} (R : Rel K F Hf H σ δ) (n : New K F Hf H σ δ p ds) (r : Reps K Hf us es) : Rel K F Hf (upd H p (.lst us)) σ δ ∧ New K F Hf (upd H p (.lst us)) σ δ p es := by
  refine ⟨⟨fun b u e => ?_, R.f0, fun b u e q => ?_, R.nf, R.len, fun i s e => ?_, R.dis, R.io, R.fr⟩, ⟨⟨us, upd_same, r⟩, n.nf, n.h0, n.ne⟩⟩
  · rw [upd_ne (ne_of_none e n.nf)]; exact R.sub b u e
  · rw [upd_ne (ne_of_none e n.h0)]; exact R.keep b u e q
  · refine (R.sl i s e).stay (Same.refl _) fun m a u e1 e2 => ?_
    obtain ⟨a', o', q1, q2, q3⟩ := (R.sl i s e).there m
    rw [e1] at q1; cases q1
    exact ⟨by rw [upd_ne (n.ne i s a e m e1)]; exact e2, q3⟩
theorem New.wipe {p : Addr} {ds : List D} {vs : List Nat} (n : New K F Hf H σ δ p ds) : New K F Hf H (L2.wipe σ vs) (unset δ vs) p ds := ⟨n.ex, n.nf, n.h0, fun i s a e m g => by
  by_cases hi : i ∈ vs
  · rw [unset_in hi s e] at m; cases m
  · rw [unset_out hi] at e
    rw [wipe_out' hi] at g
    exact n.ne i s a e m g⟩
theorem New.unwipe {p : Addr} {ds : List D} {vs : List Nat} (n : New K F Hf H (L2.wipe σ vs) δ p ds) (h : ∀ i ∈ vs, ∀ s, δ[i]? = some s → s = .un) : New K F Hf H σ δ p ds := ⟨n.ex, n.nf, n.h0, fun i s a e m g => by
  have hi : i ∉ vs := fun z => by rw [h i z s e] at m; cases m
  exact n.ne i s a e m (by rw [wipe_out' hi]; exact g)⟩
theorem New.yield {p : Addr} {ds : List D} {x : V} {d : D} (R : Rel K F Hf H σ δ) (n : New K F Hf H σ δ p ds) (h : (H' = H ∧ Rep K Hf x d) ∨ ∃ p o, H p = none ∧ H' = upd H p o ∧ Rep K (upd Hf p o) x d) :
    ∃ Hf', Same Hf Hf' ∧ Rel K F Hf' H' σ δ ∧ Rep K Hf' x d ∧ New K F Hf' H' σ δ p ds := by
  rcases h with ⟨rfl, r⟩ | ⟨q, o, hp, rfl, r⟩
  · exact ⟨Hf, Same.refl _, R, r, n⟩
  · obtain ⟨vs, h1, h2⟩ := n.ex
    have ne : p ≠ q := ne_of_none h1 hp
    exact ⟨_, R.same_new hp, R.new hp, r, ⟨vs, by rw [upd_ne ne]; exact h1, h2.mono (R.same_new hp)⟩, by rw [upd_ne ne]; exact n.nf, n.h0, n.ne⟩
end

/-! ### comprehensions -/
def wComp (g : WG) (vs : List Nat) (tt : WT) (te : WE) : List D → List D → List S → (List D → List S → Prop) → Prop
  | [], acc, δ, P => P acc δ
  | d :: ds, acc, δ, P => g d δ fun δ1 => tt δ1 fun k δ2 => if k = true then te δ2 fun y δ3 => acc.length < sizeLine ∧ wComp g vs tt te ds (acc ++ [y]) (unset δ3 vs) P else wComp g vs tt te ds acc (unset δ2 vs) P
/-- the slots are not the def's alone to change -/
def NM (vs : List Nat) (δ : List S) : Prop := ∀ i ∈ vs, ∀ s, δ[i]? = some s → s.mine = false
def wLc (wi : WI) (g : WG) (vs : List Nat) (tt : WT) (te : WE) : WA := fun δ P => wi δ fun ds δ1 => NM vs δ1 ∧ wComp g vs tt te ds [] (unset δ1 vs) P
section
variable {X : Cx} {F : Fm} {e a b c tg iter elt : Expr} {es ifs : List Expr} {st : Stmt} {rest body : List Stmt} {pos : Pos}
def DTs (X : Cx) (F : Fm) (ifs : List Expr) (t : WT) : Prop := PTs X ifs (liftT X.K F t)
theorem PTs.imp {t t' : TT} (h : PTs X ifs t) (k : ∀ σ H Q, t' σ H Q → t σ H Q) : PTs X ifs t' := ⟨fun pins s σ H Q I q => h.run pins s σ H Q I (k σ H Q q)⟩
def wYes : WT := fun δ P => P true δ
theorem dts_nil : DTs X F [] wYes := PTs.imp pts_nil fun σ H Q ⟨Hf, δ, P, R, h, k⟩ => k _ δ h Hf H (Same.refl _) R
theorem dts_one {t : WT} (h : DTe X F c t) : DTs X F [c] t := pts_one h
/-- the readings that a comprehension's parts have, whatever runs around -/
def anyG (K : PySem.W.Frag) (vs : List Nat) (g : WG) : TG := fun v σ H Q => ∃ F', (∀ i ∈ vs, NoIo F' i) ∧ liftG K F' vs g v σ H Q
def anyT (K : PySem.W.Frag) (tt : WT) : TT := fun σ H Q => ∃ F', liftT K F' tt σ H Q
def anyE (K : PySem.W.Frag) (te : WE) : TE := fun σ H Q => ∃ F', liftE K F' te σ H Q
theorem lc_lift {K : PySem.W.Frag} {wi : WI} {g : WG} {tt : WT} {te : WE} {vs : List Nat} {σ : L2.St} {H : Hp} {Q : VK} (h : liftN K F (wLc wi g vs tt te) σ H Q) : tLc (liftI K F wi) (anyG K vs g) (anyT K tt) (anyE K te) vs σ H Q := by
  obtain ⟨Hf, δ, P, R, h, k⟩ := h
  refine ⟨Hf, δ, _, R, h, fun ds δ1 h1 Hf1 H1 J s1 R1 w => fun Da hDa => ?_⟩
  obtain ⟨nm, h1⟩ := h1
  have hv : ∀ i ∈ vs, NoIo F i := fun i hi p hp e => by
    obtain ⟨g1, s, g2, m⟩ := R1.io p hp
    have := nm i hi s (e ▸ g2)
    rw [m] at this; cases this
  have R2 := (R1.newN (ds := []) hDa .nil).1.wipe hv
  have N2 := (R1.newN (ds := []) hDa .nil).2.wipe (vs := vs)
  refine ⟨fun i n H' => n = ds.length - i ∧ i ≤ ds.length ∧ ∃ Hf' δ' acc, Same Hf1 Hf' ∧ Rel K F Hf' H' (L2.wipe σ vs) δ' ∧ New K F Hf' H' (L2.wipe σ vs) δ' Da acc ∧ (∀ i ∈ vs, ∀ s, δ'[i]? = some s → s = .un) ∧ wComp g vs tt te (ds.drop i) acc δ' P,
    ⟨ds.length, rfl, Nat.zero_le _, Hf1, _, [], Same.refl _, R2, N2, fun i hi s e => unset_in hi s e, h1⟩, ?_⟩
  rintro i n H' ⟨rfl, hi, Hf', δ', acc, sm, R', N', hu, hl⟩
  by_cases hlt : i < ds.length
  · have hd := List.getElem?_eq_getElem hlt
    rw [drop_get hd] at hl
    refine .inr ⟨w.goes i Hf' H' hlt sm R'.sub, fun H2 => i + 1 ≤ ds.length ∧ ∃ Hf2 δ2 acc, Same Hf1 Hf2 ∧ Rel K F Hf2 H2 (L2.wipe σ vs) δ2 ∧ New K F Hf2 H2 (L2.wipe σ vs) δ2 Da acc ∧ (∀ i ∈ vs, ∀ s, δ2[i]? = some s → s = .un) ∧ wComp g vs tt te (ds.drop (i + 1)) acc δ2 P, ?_, ?_⟩
    · rintro H2 ⟨h1, z⟩
      exact ⟨ds.length - (i + 1), by omega, rfl, h1, z⟩
    · intro x H2 y
      obtain ⟨d, e1, e2⟩ := w.yields i Hf' H' x H2 hlt sm R'.sub y
      rw [hd] at e1; cases e1
      obtain ⟨Hf2, s2, R2', r2, N2'⟩ := N'.yield R' e2
      have nm2 : NM vs δ' := fun i hi s e => by rw [hu i hi s e]; rfl
      refine ⟨Fm.in_ H2 Hf2 (L2.wipe σ vs) δ', fun i hi => Rel.noio nm2 hi, Hf2, δ', _, _, R2'.inner, r2, hl, fun δ3 h3 Hf3 H3 σ3 s3 R3 out => ⟨?_, Fm.in_ H2 Hf2 (L2.wipe σ vs) δ', Hf3, δ3, _, R3, h3, fun kb δ4 h4 Hf4 H4 s4 R4 => ?_⟩⟩
      · rw [wipe_eq out, wipe_wipe]
      · have we : L2.wipe σ3 vs = L2.wipe σ vs := by rw [wipe_eq out, wipe_wipe]
        cases kb with
        | true =>
          refine iteT ⟨Fm.in_ H2 Hf2 (L2.wipe σ vs) δ', Hf4, δ4, _, R4, (by simpa using h4), fun z δ5 h5 Hf5 H5 v s5 R5 r5 => ?_⟩
          obtain ⟨hz, h5⟩ := h5
          have Ro := (R2'.outer R5).wipe hv
          have No := (N2'.inner R2' R5).wipe (vs := vs)
          rw [we] at Ro No
          obtain ⟨us, g1, g2⟩ := No.ex
          have U := Ro.updN No (g2.append (.cons r5 .nil))
          exact ⟨us, g1, by rw [g2.length]; exact hz, hlt, Hf5, _, _, (((sm.trans s2).trans s3).trans s4).trans s5, U.1, U.2, fun i hi s e => unset_in hi s e, h5⟩
        | false =>
          have h4 : wComp g vs tt te (ds.drop (i + 1)) acc (unset δ4 vs) P := by simpa using h4
          have Ro := (R2'.outer R4).wipe hv
          have No := (N2'.inner R2' R4).wipe (vs := vs)
          rw [we] at Ro No
          exact iteF ⟨hlt, Hf4, _, acc, ((sm.trans s2).trans s3).trans s4, Ro, No, fun i hi s e => unset_in hi s e, h4⟩
  · have e : i = ds.length := by omega
    subst e
    rw [List.drop_length] at hl
    exact .inl ⟨w.stops Hf' H' sm R'.sub, k acc δ' hl Hf' H' Da (s1.trans sm) (R'.unwipe hu) (N'.unwipe hu)⟩
theorem dn_lc {scope : Scope} {own : List (Str × Nat)} {wi : WI} {g : WG} {tt : WT} {te : WE} (hc : X.calm = true) (hN : X.N.Nodup) (hi : DI X F tg iter wi) (ok : BlkOk X.N X.env.scope scope own)
    (hg : ∀ (F' : Fm) (s : Shared) (H : Hp) (C : Addr) (cl : List (Str × Addr)) (fp : List Addr), (∀ i ∈ own.map (·.2), NoIo F' i) → DG (X.blk s H scope (compEnvC scope cl C X.env) fp) F' tg (own.map (·.2)) g)
    (ht : ∀ (F' : Fm) (s : Shared) (H : Hp) (C : Addr) (cl : List (Str × Addr)) (fp : List Addr), DTs (X.blk s H scope (compEnvC scope cl C X.env) fp) F' ifs tt)
    (he : ∀ (F' : Fm) (s : Shared) (H : Hp) (C : Addr) (cl : List (Str × Addr)) (fp : List Addr), DE (X.blk s H scope (compEnvC scope cl C X.env) fp) F' elt te) (hs : ∀ x, foldedSetIterable iter X.env x = pure x := by intro _; rfl) :
    DN X F (.ListComp elt [⟨tg, iter, ifs, 0⟩] scope pos) (wLc wi g (own.map (·.2)) tt te) :=
  PE.imp (pe_lc (wi := liftI X.K F wi) (g := anyG X.K (own.map (·.2)) g) (tt := anyT X.K tt) (te := anyE X.K te) hc hN hi ok (fun s H C cl fp => ⟨fun pins s' σ' H' v u Q I r ⟨F', n, q⟩ => (hg F' s H C cl fp n).run pins s' σ' H' v u Q I r q⟩)
    (fun s H C cl fp => ⟨fun pins s' σ' H' Q I ⟨F', q⟩ => (ht F' s H C cl fp).run pins s' σ' H' Q I q⟩) (fun s H C cl fp => ⟨fun pins s' σ' H' Q I ⟨F', q⟩ => (he F' s H C cl fp).run pins s' σ' H' Q I q⟩) hs) fun σ H Q h => lc_lift h
/-- name = [..] on one line, the name a local -/
theorem ds_setLc {scope : Scope} {own : List (Str × Nat)} {wi : WI} {g : WG} {tt : WT} {te : WE} {i : Nat} {y : Str} {py spos : Pos} (hc : X.calm = true) (hN : X.N.Nodup) (hy : X.N[i]? = some y) (hyl : X.env.scope.names.lookup y = some .local)
    (hsw : swapsWith (.ListComp elt [⟨tg, iter, ifs, 0⟩] scope pos) (some (.Name y py)) spos.line X.env = pure true) (hi : DI X F tg iter wi) (ok : BlkOk X.N X.env.scope scope own) (hio : NoIo F i)
    (hg : ∀ (F' : Fm) (s : Shared) (H : Hp) (C : Addr) (cl : List (Str × Addr)) (fp : List Addr), (∀ i ∈ own.map (·.2), NoIo F' i) → DG (X.blk s H scope (compEnvC scope cl C X.env) fp) F' tg (own.map (·.2)) g)
    (ht : ∀ (F' : Fm) (s : Shared) (H : Hp) (C : Addr) (cl : List (Str × Addr)) (fp : List Addr), DTs (X.blk s H scope (compEnvC scope cl C X.env) fp) F' ifs tt)
    (he : ∀ (F' : Fm) (s : Shared) (H : Hp) (C : Addr) (cl : List (Str × Addr)) (fp : List Addr), DE (X.blk s H scope (compEnvC scope cl C X.env) fp) F' elt te) (hs : ∀ x, foldedSetIterable iter X.env x = pure x := by intro _; rfl) :
    DS X F (.Assign [.Name y py] (.ListComp elt [⟨tg, iter, ifs, 0⟩] scope pos) spos) (wSetN i (wLc wi g (own.map (·.2)) tt te)) :=
  PS.imp (ps_setLc (wi := liftI X.K F wi) (g := anyG X.K (own.map (·.2)) g) (tt := anyT X.K tt) (te := anyE X.K te) hc hN hy hyl hsw hi ok (fun s H C cl fp => ⟨fun pins s' σ' H' v u Q I r ⟨F', n, q⟩ => (hg F' s H C cl fp n).run pins s' σ' H' v u Q I r q⟩)
    (fun s H C cl fp => ⟨fun pins s' σ' H' Q I ⟨F', q⟩ => (ht F' s H C cl fp).run pins s' σ' H' Q I q⟩) (fun s H C cl fp => ⟨fun pins s' σ' H' Q I ⟨F', q⟩ => (he F' s H C cl fp).run pins s' σ' H' Q I q⟩) hs) fun D σ H ⟨Hf, δ, E, R, q, m⟩ =>
    lc_lift ⟨Hf, δ, _, R, q, fun ds δ1 n Hf1 H1 p s1 R1 n1 => m.nx _ n Hf1 H1 _ s1 (R1.setN hio n1)⟩
/-- a list of the def's own is not changed any more -/
def wFz (i : Nat) (t : WS) : WS := fun E δ => ∃ ds, δ[i]? = some (.own ds) ∧ t E (δ.set i (.dat (.lst ds)))
theorem dss_frz {i : Nat} {t : WS} (hio : NoIo F i) (h : DSs X F rest t) : DSs X F rest (wFz i t) := PSs.imp h fun D σ H ⟨Hf, δ, E, R, ⟨ds, e, q⟩, m⟩ => by
  obtain ⟨a, vs, h1, sm, R2, r⟩ := R.freeze e hio
  exact ⟨_, _, E, R2, q, m.mono sm⟩
end
theorem nio0 {F : Fm} (h : F.io = []) (i : Nat) : NoIo F i := fun p hp => by rw [h] at hp; cases hp
theorem nio1 {F : Fm} (h : ∃ a, F.io = [(0, a)]) {i : Nat} (hi : i ≠ 0) : NoIo F i := fun p hp => by
  obtain ⟨a, e⟩ := h
  rw [e] at hp
  have z : p = (0, a) := by simpa using hp
  rw [z]; exact fun q => hi q.symm
end DT
end
section
set_option maxHeartbeats 4000000
namespace DT
open PySem PySem.Spec PyProof.Rows L2
/-- what a call does to what stands: the frozen part grows, all else is as it was (but what is in io) -/
structure Grown (K : PySem.W.Frag) (io : List Addr) (Hf H Hf' H' : Hp) : Prop where
  f : Same Hf Hf'
  sub : Same Hf' H'
  keep : ∀ b o, H b = some o → b ∉ io → H' b = some o
  nf : ∀ b o, H b = some o → Hf b = none → Hf' b = none
abbrev TF := List D → (D → Prop) → Prop
abbrev TFN := List D → (List D → Prop) → Prop
abbrev TIO := List D → List D → (D → List D → Prop) → Prop
/-- a def over data -/
def spF (K : PySem.W.Frag) (n : Nat) (T : TF) : Sp := fun vs H Q _ => vs.length = n ∧ ∃ Hf ds P, Same Hf H ∧ Reps K Hf vs ds ∧ T ds P ∧ ∀ d, P d → ∀ Hf' H' v, Grown K [] Hf H Hf' H' → Rep K Hf' v d → Q v H'
/-- .. that hands back a new list of nobody's -/
def spFN (K : PySem.W.Frag) (n : Nat) (T : TFN) : Sp := fun vs H Q _ => vs.length = n ∧ ∃ Hf ds P, Same Hf H ∧ Reps K Hf vs ds ∧ T ds P ∧ ∀ es, P es → ∀ Hf' H' p us, Grown K [] Hf H Hf' H' → H p = none → Hf' p = none → H' p = some (.lst us) → Reps K Hf' us es → Q (.ref p) H'
/-- .. whose first argument is a list that it changes -/
def spIO (K : PySem.W.Frag) (n : Nat) (T : TIO) : Sp := fun vs H Q _ => vs.length = n ∧ ∃ Hf a us es ws ds P, vs = .ref a :: ws ∧ H a = some (.lst us) ∧ Hf a = none ∧ Same Hf H ∧ Reps K Hf us es ∧ Reps K Hf ws ds ∧ T es ds P ∧
  ∀ d es', P d es' → ∀ Hf' H' v us', Grown K [a] Hf H Hf' H' → H' a = some (.lst us') → Reps K Hf' us' es' → Rep K Hf' v d → Q v H'

section
variable {K : PySem.W.Frag} {F : Fm} {Hf H Hf' H' : Hp} {σ : L2.St} {δ : List S}
theorem Rel.call (R : Rel K F Hf H σ δ) (g : Grown K [] Hf H Hf' H') : Rel K F Hf' H' σ δ := by
  refine ⟨g.sub, R.f0.trans g.f, fun b o e n => g.keep b o (R.keep b o e n) (by simp), fun b o e n => ?_, R.len, fun i s e => ?_, R.dis, R.io, R.fr⟩
  · have hn := R.nf b o e n
    cases q : Hf' b with
    | none => rfl
    | some u =>
      cases hb : H b with
      | some w => rw [g.nf b w hb hn] at q; cases q
      | none =>
        have := R.none0 hb
        rw [e] at this; cases this
  · refine (R.sl i s e).stay g.f fun m a o e1 e2 => ?_
    obtain ⟨a', o', q1, q2, q3⟩ := (R.sl i s e).there m
    rw [e1] at q1; cases q1
    exact ⟨g.keep _ _ e2 (by simp), g.nf _ _ e2 q3⟩
theorem Rel.callIO (R : Rel K F Hf H σ δ) {i : Nat} {a : Addr} {es es' : List D} {us' : List V} (h : δ[i]? = some (.own es)) (ha : σ[i]? = some (some (.ref a))) (g : Grown K [a] Hf H Hf' H') (h' : H' a = some (.lst us')) (r : Reps K Hf' us' es') : Rel K F Hf' H' σ (δ.set i (.own es')) := by
  obtain ⟨a', vs, h1, h2, h3, h4⟩ := R.sl i _ h
  rw [ha] at h1; cases h1
  have hl : i < δ.length := (List.getElem?_eq_some_iff.mp h).1
  have out : ∀ {j : Nat} {s : S}, i ≠ j → (δ.set i (.own es'))[j]? = some s → δ[j]? = some s := fun {j s} hj e => by rwa [List.getElem?_set_ne hj] at e
  refine ⟨g.sub, R.f0.trans g.f, fun b o e n => g.keep b o (R.keep b o e n) fun z => ?_, fun b o e n => ?_, by rw [List.length_set]; exact R.len, fun j s e => ?_, fun j k b xs ys e1 m1 e2 m2 e3 e4 => ?_, fun p hp => ?_, fun j s b e1 m e2 => ?_⟩
  · have z : b = a := by simpa using z
    subst z
    rcases R.fr i _ b h rfl ha with q | ⟨p, hp, q⟩
    · rw [q] at e; cases e
    · obtain ⟨g1, _⟩ := R.io p hp
      rw [q, ha] at g1; cases g1
      exact n p hp rfl
  · have hn := R.nf b o e n
    cases q : Hf' b with
    | none => rfl
    | some u =>
      cases hb : H b with
      | some w => rw [g.nf b w hb hn] at q; cases q
      | none =>
        have := R.none0 hb
        rw [e] at this; cases this
  · by_cases hj : i = j
    · subst hj
      rw [List.getElem?_set_self hl] at e; cases e
      exact ⟨a, us', ha, h', g.nf _ _ h2 h3, r⟩
    · have e := out hj e
      refine (R.sl j s e).stay g.f fun m b u e1 e2 => ?_
      obtain ⟨b', o', q1, q2, q3⟩ := (R.sl j s e).there m
      rw [e1] at q1; cases q1
      have ne : b ≠ a := fun z => by
        subst z
        exact hj (R.dis i j b _ _ h rfl e m ha e1)
      exact ⟨g.keep _ _ e2 (by simp [ne]), g.nf _ _ e2 q3⟩
  · have low : ∀ {j : Nat} {s : S}, (δ.set i (.own es'))[j]? = some s → s.mine = true → ∃ t, δ[j]? = some t ∧ t.mine = true := fun {j s} e m => by
      by_cases hj : i = j
      · subst hj; exact ⟨_, h, rfl⟩
      · exact ⟨s, out hj e, m⟩
    obtain ⟨x1, q1, m1⟩ := low e1 m1
    obtain ⟨x2, q2, m2⟩ := low e2 m2
    exact R.dis j k b x1 x2 q1 m1 q2 m2 e3 e4
  · obtain ⟨g1, s, g2, m⟩ := R.io p hp
    by_cases hj : i = p.1
    · exact ⟨g1, .own es', by rw [← hj]; exact List.getElem?_set_self hl, rfl⟩
    · exact ⟨g1, s, by rw [List.getElem?_set_ne hj]; exact g2, m⟩
  · by_cases hj : i = j
    · subst hj; exact R.fr i _ b h rfl e2
    · exact R.fr j s b (out hj e1) m e2
/-- what a def has done, seen from its caller -/
theorem Rel.grown {f0 H0 : Hp} {io : List (Nat × Addr)} (R : Rel K ⟨H0, f0, io⟩ Hf H σ δ) : Grown K (io.map (·.2)) f0 H0 Hf H :=
  ⟨R.f0, R.sub, fun b o e n => R.keep b o e fun p hp z => n (List.mem_map.mpr ⟨p, hp, z⟩), R.nf⟩
end
/-- the slots at a def's entry -/
def startD (N : List Str) (ds : List D) : List S := ds.map .dat ++ List.replicate (N.length - ds.length) .un
theorem Reps.entry {K : PySem.W.Frag} {H : Hp} {N : List Str} {vs : List V} {ds : List D} (r : Reps K H vs ds) (io : List (Nat × Addr)) (hl : ds.length ≤ N.length) : (start N vs).length = (startD N ds).length ∧
    ∀ (i : Nat) (s : S), (startD N ds)[i]? = some s → s = .un ∨ ∃ v d, s = .dat d ∧ (start N vs)[i]? = some (some v) ∧ Rep K H v d := by
  have e := r.length
  refine ⟨by unfold L2.start startD; rw [List.length_append, List.length_append, List.length_map, List.length_map, List.length_replicate, List.length_replicate, e], fun i s h => ?_⟩
  unfold startD at h
  by_cases hi : i < ds.length
  · rw [List.getElem?_append_left (by simpa using hi), List.getElem?_map] at h
    cases q : ds[i]? with
    | none => rw [q] at h; cases h
    | some d =>
      rw [q] at h; cases h
      obtain ⟨v, g1, g2⟩ := r.getD q
      refine .inr ⟨v, d, rfl, ?_, g2⟩
      unfold L2.start
      rw [List.getElem?_append_left (by simp; omega), List.getElem?_map, g1]
      rfl
  · rw [List.getElem?_append_right (by simp; omega)] at h
    left
    exact List.eq_of_mem_replicate (List.mem_of_getElem? h)
theorem Rel.entry {K : PySem.W.Frag} {Hf H : Hp} {N : List Str} {vs : List V} {ds : List D} (sub : Same Hf H) (r : Reps K Hf vs ds) (hl : ds.length ≤ N.length) : Rel K ⟨H, Hf, []⟩ Hf H (start N vs) (startD N ds) := by
  obtain ⟨h1, h2⟩ := r.entry (N := N) [] hl
  have nm : ∀ {i : Nat} {s : S}, (startD N ds)[i]? = some s → s.mine = false := fun {i s} e => by
    rcases h2 i s e with rfl | ⟨_, _, rfl, _⟩ <;> rfl
  refine ⟨sub, Same.refl _, (fun b o e _ => e), (fun b o _ n => n), h1, (fun i s e => ?_), (fun i j a ds es e1 m1 _ _ _ _ => ?_), (fun p hp => absurd hp (by simp)), (fun i s a e m _ => ?_)⟩
  · rcases h2 i s e with rfl | ⟨v, d, rfl, g1, g2⟩
    · trivial
    · exact ⟨v, g1, g2⟩
  · have := nm e1; rw [this] at m1; cases m1
  · rw [nm e] at m; cases m
/-- .. where the first argument is a list that the def changes -/
def startIO (N : List Str) (es ds : List D) : List S := .own es :: (ds.map .dat ++ List.replicate (N.length - (ds.length + 1)) .un)
theorem Rel.entryIO {K : PySem.W.Frag} {Hf H : Hp} {N : List Str} {a : Addr} {us ws : List V} {es ds : List D} (sub : Same Hf H) (ha : H a = some (.lst us)) (hn : Hf a = none) (re : Reps K Hf us es) (r : Reps K Hf ws ds) (hl : ds.length + 1 ≤ N.length) : Rel K ⟨H, Hf, [(0, a)]⟩ Hf H (start N (.ref a :: ws)) (startIO N es ds) := by
  have e := r.length
  have h2 : ∀ (i : Nat) (s : S), (startIO N es ds)[i]? = some s → (i = 0 ∧ s = .own es) ∨ s = .un ∨ ∃ v d, s = .dat d ∧ (start N (.ref a :: ws))[i]? = some (some v) ∧ Rep K Hf v d := fun i s h => by
    unfold startIO at h
    cases i with
    | zero => simp at h; exact .inl ⟨rfl, h.symm⟩
    | succ i =>
      rw [List.getElem?_cons_succ] at h
      right
      by_cases hi : i < ds.length
      · rw [List.getElem?_append_left (by simpa using hi), List.getElem?_map] at h
        cases q : ds[i]? with
        | none => rw [q] at h; cases h
        | some d =>
          rw [q] at h; cases h
          obtain ⟨v, g1, g2⟩ := r.getD q
          refine .inr ⟨v, d, rfl, ?_, g2⟩
          unfold L2.start
          rw [List.getElem?_append_left (by simp; omega), List.getElem?_map, List.getElem?_cons_succ, g1]
          rfl
      · rw [List.getElem?_append_right (by simp; omega)] at h
        left
        exact List.eq_of_mem_replicate (List.mem_of_getElem? h)
  have h0 : (start N (.ref a :: ws))[0]? = some (some (.ref a)) := by simp [L2.start]
  have own0 : ∀ {i : Nat} {s : S}, (startIO N es ds)[i]? = some s → s.mine = true → i = 0 := fun {i s} e m => by
    rcases h2 i s e with ⟨z, _⟩ | rfl | ⟨_, _, rfl, _⟩
    · exact z
    · cases m
    · cases m
  refine ⟨sub, Same.refl _, fun b o e _ => e, fun b o _ n => n, ?_, fun i s e => ?_, fun i j b ds' es' e1 m1 e2 m2 _ _ => ?_, fun p hp => ?_, fun i s b e m _ => ?_⟩
  · unfold L2.start startIO; simp [e]
  · rcases h2 i s e with ⟨rfl, rfl⟩ | rfl | ⟨v, d, rfl, g1, g2⟩
    · exact ⟨a, us, h0, ha, hn, re⟩
    · trivial
    · exact ⟨v, g1, g2⟩
  · rw [own0 e1 m1, own0 e2 m2]
  · have z : p = (0, a) := by simpa using hp
    subst z
    exact ⟨h0, .own es, rfl, rfl⟩
  · exact .inr ⟨(0, a), by simp, (own0 e m).symm⟩

/-! ### defs -/
/-- what a body does, as a def's data -/
def tfOf (N : List Str) (t : WS) : TF := fun ds P => t { nx := fun _ => P .non, rt := fun d _ => P d, rn := fun ds _ => P (.lst ds) } (startD N ds)
def tfnOf (N : List Str) (t : WS) : TFN := fun ds P => t { nx := fun _ => False, rt := fun _ _ => False, rn := fun ds _ => P ds } (startD N ds)
def tioOf (N : List Str) (t : WS) : TIO := fun es ds P => t { nx := fun δ => ∃ es', δ[0]? = some (.own es') ∧ P .non es', rt := fun d δ => ∃ es', δ[0]? = some (.own es') ∧ P d es', rn := fun xs δ => ∃ es', δ[0]? = some (.own es') ∧ P (.lst xs) es' } (startIO N es ds)
section
variable {P : Program} {w : World} {K : PySem.W.Frag} {mg : Str → Option Value} {base : Heap}
/-- the body's reading at the entry -/
theorem body_F {N : List Str} {t : WS} {n : Nat} {vs : List V} {H : Hp} {Q : VK} {E : XK} (hn : n ≤ N.length) (h : spF K n (tfOf N t) vs H Q E) :
    ∃ F : Fm, F.io = [] ∧ liftS K F t { nx := fun _ H' => Q .non H', rt := Q } (start N vs) H := by
  obtain ⟨hl, Hf, ds, P, sub, r, ht, k⟩ := h
  have hd : ds.length ≤ N.length := by rw [← r.length, hl]; exact hn
  refine ⟨⟨H, Hf, []⟩, rfl, Hf, _, _, Rel.entry sub r hd, ht, ⟨fun δ' p Hf' H' σ' s R' => ?_, fun d δ' p Hf' H' σ' v s R' r' => ?_, fun es δ' p Hf' H' σ' q s R' n' => ?_, fun _ z => z.elim, fun _ z => z.elim⟩⟩
  · exact k _ p Hf' H' _ R'.grown .non
  · exact k _ p Hf' H' _ R'.grown r'
  · obtain ⟨us, sm, R2, r2⟩ := R'.frz n'
    exact k _ p _ H' _ R2.grown r2
theorem body_FN {N : List Str} {t : WS} {n : Nat} {vs : List V} {H : Hp} {Q : VK} {E : XK} (hn : n ≤ N.length) (h : spFN K n (tfnOf N t) vs H Q E) :
    ∃ F : Fm, F.io = [] ∧ liftS K F t { nx := fun _ H' => Q .non H', rt := Q } (start N vs) H := by
  obtain ⟨hl, Hf, ds, P, sub, r, ht, k⟩ := h
  have hd : ds.length ≤ N.length := by rw [← r.length, hl]; exact hn
  refine ⟨⟨H, Hf, []⟩, rfl, Hf, _, _, Rel.entry sub r hd, ht, ⟨fun δ' p => p.elim, fun d δ' p => p.elim, fun es δ' p Hf' H' σ' q s R' n' => ?_, fun _ z => z.elim, fun _ z => z.elim⟩⟩
  obtain ⟨us, h1, h2⟩ := n'.ex
  exact k _ p _ H' _ _ R'.grown n'.h0 n'.nf h1 h2
theorem body_IO {N : List Str} {t : WS} {n : Nat} {vs : List V} {H : Hp} {Q : VK} {E : XK} (hn : n ≤ N.length) (h : spIO K n (tioOf N t) vs H Q E) :
    ∃ F : Fm, (∃ a, F.io = [(0, a)]) ∧ liftS K F t { nx := fun _ H' => Q .non H', rt := Q } (start N vs) H := by
  obtain ⟨hl, Hf, a, us, es, ws, ds, P, rfl, ha, hnf, sub, re, r, ht, k⟩ := h
  have hd : ds.length + 1 ≤ N.length := by
    have := r.length
    simp at hl
    omega
  have fin : ∀ {Hf' H' : Hp} {σ' : L2.St} {δ' : List S} {es' : List D}, Rel K ⟨H, Hf, [(0, a)]⟩ Hf' H' σ' δ' → δ'[0]? = some (.own es') → ∃ us', H' a = some (.lst us') ∧ Reps K Hf' us' es' := fun {Hf' H' σ' δ' es'} R' e => by
    obtain ⟨g1, _⟩ := R'.io (0, a) (by simp)
    obtain ⟨b, us', q1, q2, _, q4⟩ := R'.sl 0 _ e
    have g1 : σ'[0]? = some (some (.ref a)) := g1
    rw [g1] at q1; cases q1
    exact ⟨us', q2, q4⟩
  refine ⟨⟨H, Hf, [(0, a)]⟩, ⟨a, rfl⟩, Hf, _, _, Rel.entryIO sub ha hnf re r hd, ht, ⟨fun δ' ⟨es', e, p⟩ Hf' H' σ' s R' => ?_, fun d δ' ⟨es', e, p⟩ Hf' H' σ' v s R' r' => ?_, fun xs δ' ⟨es', e, p⟩ Hf' H' σ' q s R' n' => ?_, fun _ z => z.elim, fun _ z => z.elim⟩⟩
  · obtain ⟨us', q2, q4⟩ := fin R' e
    exact k _ _ p Hf' H' _ us' R'.grown q2 q4 .non
  · obtain ⟨us', q2, q4⟩ := fin R' e
    exact k _ _ p Hf' H' _ us' R'.grown q2 q4 r'
  · obtain ⟨zs, sm, R2, r2⟩ := R'.frz n'
    obtain ⟨us', q2, q4⟩ := fin R2 e
    exact k _ _ p _ H' _ us' R2.grown q2 q4 r2
/-- the context of a def's body -/
abbrev bcx (P : Program) (w : World) (K : PySem.W.Frag) (mg : Str → Option Value) (base : Heap) (N : List Str) (qual : Str) (sc : Scope) (f : Addr) (cdv : Value) (A : Around) (outer : List Env) (s : Shared) (H : Hp) (E : XK) : Cx := (cxOf CX0 P w K mg base N qual sc f cdv A outer s H E).nox
theorem fn_F {x qual : Str} {st : Stmt} {f : Addr} {fd : FuncData} {N ps : List Str} {k : Nat} {t : WS} (F : Fun K x qual st f fd) (S : FnScope N ps (defScope st)) (hn : ps.length ≤ N.length)
    (hb : ∀ cdv A outer s H E (Fr : Fm), Room k (A.deeper (envOfC qual (defScope st) s.heap.objs.size f cdv)) → Fr.io = [] → DSs (bcx P w K mg base N qual (defScope st) f cdv A outer s H E) Fr (defBody st) t) :
    FnOk P w K mg base CX0 (k + 1) f fd ps (spF K ps.length (tfOf N t)) := by
  refine F.ok S (fun vs H Q E h => h.1) (fun cdv A outer s H vs Q E hr h => ?_)
  obtain ⟨Fr, e, q⟩ := body_F hn h
  exact ⟨_, hb cdv A outer s H E Fr hr e, q⟩
theorem fn_FN {x qual : Str} {st : Stmt} {f : Addr} {fd : FuncData} {N ps : List Str} {k : Nat} {t : WS} (F : Fun K x qual st f fd) (S : FnScope N ps (defScope st)) (hn : ps.length ≤ N.length)
    (hb : ∀ cdv A outer s H E (Fr : Fm), Room k (A.deeper (envOfC qual (defScope st) s.heap.objs.size f cdv)) → Fr.io = [] → DSs (bcx P w K mg base N qual (defScope st) f cdv A outer s H E) Fr (defBody st) t) :
    FnOk P w K mg base CX0 (k + 1) f fd ps (spFN K ps.length (tfnOf N t)) := by
  refine F.ok S (fun vs H Q E h => h.1) (fun cdv A outer s H vs Q E hr h => ?_)
  obtain ⟨Fr, e, q⟩ := body_FN hn h
  exact ⟨_, hb cdv A outer s H E Fr hr e, q⟩
theorem fn_IO {x qual : Str} {st : Stmt} {f : Addr} {fd : FuncData} {N ps : List Str} {k : Nat} {t : WS} (F : Fun K x qual st f fd) (S : FnScope N ps (defScope st)) (hn : ps.length ≤ N.length)
    (hb : ∀ cdv A outer s H E (Fr : Fm), Room k (A.deeper (envOfC qual (defScope st) s.heap.objs.size f cdv)) → (∃ a, Fr.io = [(0, a)]) → DSs (bcx P w K mg base N qual (defScope st) f cdv A outer s H E) Fr (defBody st) t) :
    FnOk P w K mg base CX0 (k + 1) f fd ps (spIO K ps.length (tioOf N t)) := by
  refine F.ok S (fun vs H Q E h => h.1) (fun cdv A outer s H vs Q E hr h => ?_)
  obtain ⟨Fr, e, q⟩ := body_IO hn h
  exact ⟨_, hb cdv A outer s H E Fr hr e, q⟩
end

/-! ### calls -/
/-- a def of the module, called with all its arguments -/
structure Ca (P : Program) (w : World) (K : PySem.W.Frag) (mg : Str → Option Value) (base : Heap) (x : Str) (k : Nat) (sp : Sp) : Prop where
  ex : ∃ (f : Addr) (fd : FuncData) (ps : List Str), FnOk P w K mg base CX0 k f fd ps sp ∧ mg x = some (.ref f) ∧ PySem.W.keepIn K (.ref f) = true ∧ Binds K fd ps []
abbrev CaX (X : Cx) (x : Str) (k : Nat) (sp : Sp) : Prop := Ca X.prog X.w X.K X.mg X.base x k sp
section
variable {X : Cx} {F : Fm} {e a b c : Expr} {es : List Expr} {pos p : Pos} {x : Str} {k j n : Nat}
theorem pe_ca {sp : Sp} {t : TA} (c : CaX X x k sp) (hr : Room j X.A) (hk : k ≤ j) (hg : Gl X x) (ha : PA X (e :: es) t) (hdb : (x == ("__debug__" : Str)) = false := by decide) (he : starEach (e :: es) X.env = (false, eval e X.env) :: starEach es X.env := by rfl)
    (hpl : (backTo pos (starEach es X.env)).any (·.1) = false := by rfl) : PE X (.Call (.Name x p) (e :: es) [] pos) (tCall sp [] E0 t) := by
  obtain ⟨f, fd, ps, F, hm, kp, b⟩ := c.ex
  exact pe_call F (hr.mono hk) hg hm kp b .nil pass0 ha hdb he hpl
def wCall (n : Nat) (T : TF) (t : WA) : WE := fun δ P => t δ fun ds δ1 => ds.length = n ∧ T ds fun d => P d δ1
theorem de_call {T : TF} {t : WA} (c : CaX X x k (spF X.K n T)) (hr : Room j X.A) (hk : k ≤ j) (hg : Gl X x) (ha : DA X F (e :: es) t) (hdb : (x == ("__debug__" : Str)) = false := by decide) (he : starEach (e :: es) X.env = (false, eval e X.env) :: starEach es X.env := by rfl)
    (hpl : (backTo pos (starEach es X.env)).any (·.1) = false := by rfl) : DE X F (.Call (.Name x p) (e :: es) [] pos) (wCall n T t) :=
  PE.imp (pe_ca c hr hk hg ha hdb he hpl) fun σ H Q ⟨Hf, δ, P, R, h, k⟩ => ⟨Hf, δ, _, R, h, fun ds δ1 ⟨hl, h1⟩ Hf1 H1 vs s1 R1 r1 => ⟨by rw [List.append_nil, r1.length]; exact hl, Hf1, ds, _, R1.sub, by rw [List.append_nil]; exact r1, h1, fun d p Hf2 H2 v g r => k d δ1 p Hf2 H2 v (s1.trans g.f) (R1.call g) r⟩⟩
def wCallN (n : Nat) (T : TFN) (t : WA) : WA := fun δ P => t δ fun ds δ1 => ds.length = n ∧ T ds fun d => P d δ1
theorem dn_call {T : TFN} {t : WA} (c : CaX X x k (spFN X.K n T)) (hr : Room j X.A) (hk : k ≤ j) (hg : Gl X x) (ha : DA X F (e :: es) t) (hdb : (x == ("__debug__" : Str)) = false := by decide) (he : starEach (e :: es) X.env = (false, eval e X.env) :: starEach es X.env := by rfl)
    (hpl : (backTo pos (starEach es X.env)).any (·.1) = false := by rfl) : DN X F (.Call (.Name x p) (e :: es) [] pos) (wCallN n T t) :=
  PE.imp (pe_ca c hr hk hg ha hdb he hpl) fun σ H Q ⟨Hf, δ, P, R, h, k⟩ => ⟨Hf, δ, _, R, h, fun ds δ1 ⟨hl, h1⟩ Hf1 H1 vs s1 R1 r1 => ⟨by rw [List.append_nil, r1.length]; exact hl, Hf1, ds, _, R1.sub, by rw [List.append_nil]; exact r1, h1, fun es p Hf2 H2 q us g hq hn h2 r =>
    k es δ1 p Hf2 H2 q (s1.trans g.f) (R1.call g) ⟨⟨us, h2, r⟩, hn, R1.none0 hq, fun i s a e m ga => by
      obtain ⟨b, o, g1, g2, _⟩ := (R1.sl i _ e).there m
      rw [ga] at g1; cases g1
      exact ne_of_none g2 hq⟩⟩⟩
/-- f(xs, ..) where xs is an own slot's list that f changes -/
def wCallIO (i n : Nat) (T : TIO) (t : WA) : WE := fun δ P => (∃ xs, δ[i]? = some (.own xs)) ∧ t δ fun ds δ1 => ds.length + 1 = n ∧ ∃ xs, δ1[i]? = some (.own xs) ∧ T xs ds fun d xs' => P d (δ1.set i (.own xs'))
theorem de_callIO {T : TIO} {t : WA} {i : Nat} (c : CaX X x k (spIO X.K n T)) (hr : Room j X.A) (hk : k ≤ j) (hg : Gl X x) (h0 : PE X e (tVar i)) (ha : DA X F es t) (hdb : (x == ("__debug__" : Str)) = false := by decide) (he : starEach (e :: es) X.env = (false, eval e X.env) :: starEach es X.env := by rfl)
    (hpl : (backTo pos (starEach es X.env)).any (·.1) = false := by rfl) : DE X F (.Call (.Name x p) (e :: es) [] pos) (wCallIO i n T t) :=
  PE.imp (pe_ca c hr hk hg (pa_cons h0 ha he) hdb he hpl) fun σ H Q ⟨Hf, δ, P, R, ⟨⟨xs0, e0⟩, h⟩, k⟩ => by
    obtain ⟨a, us0, g0, _⟩ := R.sl i _ e0
    refine ⟨.ref a, g0, Hf, δ, _, R, h, fun ds δ1 h1 Hf1 H1 vs s1 R1 r1 => ?_⟩
    obtain ⟨hl, xs, e1, h1⟩ := h1
    obtain ⟨a', us, g1, g2, g3, g4⟩ := R1.sl i _ e1
    rw [g0] at g1; cases g1
    refine ⟨?_, Hf1, a, us, xs, vs, ds, _, by simp, g2, g3, R1.sub, g4, r1, h1, fun d xs' p Hf2 H2 v us' g h' r' rv => ?_⟩
    · simp [r1.length]; omega
    · exact k d _ p Hf2 H2 v (s1.trans g.f) (R1.callIO e1 g0 g h' r') rv
end
end DT
end
section
set_option maxHeartbeats 4000000
namespace DT
open PySem PySem.Spec PyProof.Rows L2

/-! ### sorted of a list or a tuple of ints -/
section
variable {X : Cx}
def rSrt (K : PySem.W.Frag) : List V → Hp → VK → Prop := fun vs H Q => ∃ (a : Addr) (ns : List Int), vs = [V.ref a] ∧ (SqL K H a (ns.map V.int) ∨ SqT K H a (ns.map V.int)) ∧
  ∀ (ms : List Int) (p : Addr), ms.Perm ns → ms.Pairwise (· ≤ ·) → H p = none → Q (.ref p) (upd H p (.lst (ms.map V.int)))
theorem seq_at {pins : List (Addr × Obj)} {σ : L2.St} {H : Hp} {s : Shared} {a : Addr} {xs : List V} (I : Inv X pins σ H s) (h : SqL X.K H a xs ∨ SqT X.K H a xs) :
    ∃ (its : List Value) (T : String) (o : Obj) (n : Nat), Vals xs its ∧ (T = "list" ∨ T = "tuple") ∧ s.heap.get? a = some o ∧ o.cls = .type T ∧ o.data = .seq its.toArray n ∧ its.length ≤ sizeLine := by
  rcases h with h | h
  · obtain ⟨its, rv, ⟨o, n, e1, e2, _, e4⟩, hz⟩ := I.list h
    exact ⟨its, "list", o, n, rv, .inl rfl, e1, e2, e4, by rw [← rv.length]; exact hz⟩
  · obtain ⟨its, rv, ⟨o, e1, e2, n, e4⟩, hz⟩ := I.tuple h
    exact ⟨its, "tuple", o, n, rv, .inr rfl, e1, e2, e4, by rw [← rv.length]; exact hz⟩
theorem cr_srt : CallR X (.builtin "sorted") (rSrt X.K) := by
  intro pins s σ H vs us Q I r h
  obtain ⟨a, ns, rfl, hs, q⟩ := h
  obtain ⟨its, T, o, n, rv, hT, e1, e2, e4, hz⟩ := seq_at I hs
  have hi := rv.ints
  rw [Vals.ref1 r]
  refine Calls.call_function_entry kind_sorted plain_sorted entry_sorted (args_sorted1 _) ?_
  unfold Builtin.«sorted»
  refine wpAny_bind (m := checkCount "sorted" 1 1 _) (wpAny_pure ?_)
  refine wpAny_bind (wpAny_collect_seq a hT e1 e2 e4 (fun h1 kp => ?_) (by simpa using hz))
  have I1 : Inv X pins σ H { s with heap := h1 } := I.kept (t' := s.toks) kp
  have ez : its.toArray.toList = its := by simp
  rw [ez]
  refine wpAny_bind (wpAny_newList ?_ hz)
  have at1 : (h1.push (seqObj "list" its.toArray 0)).get? h1.objs.size = some (seqObj "list" its.toArray 0) := Heap.get?_push_size _ rfl
  refine wpAny_bind (wpAny_holding (wpAny_call_entry slot_list_sort ⟨_, at1, rfl⟩ entry_list_sort (SrtO.list_sort_ord SrtO.swo_int at1 hz (fun h2 => SrtO.ints_sortable hi h2) fun out g1 g2 => ⟨_, rfl, ?_⟩) (args_list_sort _)))
  obtain ⟨k1, k2, k3⟩ := SrtO.ints_out hi g1 g2
  obtain ⟨ep, hnew⟩ := PyProof.Rows.sortedHeap_at (out := out.toArray) at1
  have hlen : ((out.map SrtO.iv).map V.int).length ≤ sizeLine := by
    rw [List.length_map, k2.length_eq]
    have := rv.length
    rw [List.length_map] at this
    omega
  have kp2 : ∀ b u, h1.get? b = some u → (PyProof.Rows.sortedHeap (h1.push (seqObj "list" its.toArray 0)) h1.objs.size its out.toArray).get? b = some u := fun b u g => by
    have lt : b < h1.objs.size := Heap.lt_size g
    rw [PyProof.Rows.sortedHeap_old (Nat.ne_of_lt lt) (by rw [size_push']; exact Nat.lt_succ_of_lt lt)]
    exact Heap.get?_push_of_some _ g
  refine wpAny_pure ⟨_, rfl, .ref h1.objs.size, upd H h1.objs.size (.lst ((out.map SrtO.iv).map V.int)), ?_, rfl, q _ _ k2 k3 (I1.hok.fresh (Nat.le_refl _))⟩
  exact I1.laid (t' := s.toks) kp2 (Nat.le_refl _) ⟨hlen, out, ep, vals_of_ints k1, hnew⟩
/-- + of two lists that can be read -/
def rCatL (K : PySem.W.Frag) : R2 := fun x y H Q => ∃ l b xs zs, x = .ref l ∧ y = .ref b ∧ SqL K H l xs ∧ SqL K H b zs ∧ xs.length + zs.length ≤ sizeLine ∧ ∀ p, H p = none → Q (.ref p) (upd H p (.lst (xs ++ zs)))
theorem plain_obj {h : Heap} {a : Addr} {its : Array Value} (p : PlainL h a its) : ∃ n sl, h.get? a = some { cls := .type "list", data := .seq its n, slots := sl } := by
  obtain ⟨⟨c, d, dt, sl⟩, n, e, e1, e2, e3⟩ := p
  dsimp only at e1 e2 e3
  subst e1 e2 e3
  exact ⟨n, sl, e⟩
end
end DT
end
section
set_option maxHeartbeats 4000000
namespace DT
open PySem PySem.Spec PyProof.Rows L2
section
variable {X : Cx} {F : Fm} {e a b c o : Expr} {es : List Expr} {pos p : Pos} {x : Str} {ta tb : WE}
/-! ### built-ins of one argument -/
def gLen : D → (D → Prop) → Prop := fun x P => ∃ ds, sq x = some ds ∧ P (.int ds.length)
theorem d_len (hg : Gl X "len") (hm : X.mg "len" = none) (ha : DP X F a ta) (he : starEach [a] X.env = (false, eval a X.env) :: starEach [] X.env := by rfl) (hpl : (backTo pos (starEach [] X.env)).any (·.1) = false := by rfl) :
    DE X F (.Call (.Name "len" p) [a] [] pos) (wC1 gLen ta) :=
  dc1 (fun t h => pe_callB call_len_seq hg hm PySem.boot_len h (he := he) (hpl := hpl)) he (by
    rintro Hf H σ δ x a P Q R rx ⟨ds, e, p⟩ k
    obtain ⟨l, vs, rfl, h1, h2⟩ := rx.sq R e
    exact ⟨l, vs, rfl, h1, by rw [h2.length]; exact k _ p Hf H _ (Same.refl _) R (.int _)⟩) ha
def gInt : D → (D → Prop) → Prop := fun x P => ∃ i, x = .int i ∧ P (.int i)
theorem d_int (hg : Gl X "int") (hm : X.mg "int" = none) (ha : DP X F a ta) (he : starEach [a] X.env = (false, eval a X.env) :: starEach [] X.env := by rfl) (hpl : (backTo pos (starEach [] X.env)).any (·.1) = false := by rfl) :
    DE X F (.Call (.Name "int" p) [a] [] pos) (wC1 gInt ta) :=
  dc1 (fun t h => pe_callTy call_int1 hg hm PyProof.Rows.boot_int h (he := he) (hpl := hpl)) he (by
    rintro Hf H σ δ x a P Q R rx ⟨i, rfl, p⟩ k
    rw [rx.intE]
    exact .inl ⟨i, rfl, k _ p Hf H _ (Same.refl _) R (.int _)⟩) ha
/-- the ints of a row -/
def intsD (d : D) (ns : List Int) : Prop := sq d = some (ns.map .int)
theorem PRep.ints {K : PySem.W.Frag} {Hf H : Hp} {σ : L2.St} {δ : List S} {v : V} {d : D} {ns : List Int} (R : Rel K F Hf H σ δ) (h : PRep K Hf σ δ v d) (e : intsD d ns) : ∃ a, v = .ref a ∧ (SqL K H a (ns.map V.int) ∨ SqT K H a (ns.map V.int)) := by
  obtain ⟨l, vs, rfl, h1, h2⟩ := PRep.sq R h e
  rw [h2.ints] at h1
  exact ⟨l, rfl, h1⟩
theorem PRep.lints {K : PySem.W.Frag} {Hf H : Hp} {σ : L2.St} {δ : List S} {v : V} {ns : List Int} (R : Rel K F Hf H σ δ) (h : PRep K Hf σ δ v (.lst (ns.map .int))) : ∃ a, v = .ref a ∧ SqL K H a (ns.map V.int) := by
  obtain ⟨l, vs, rfl, h1, h2⟩ := PRep.seq R h
  rw [h2.ints] at h1
  exact ⟨l, rfl, SqL.of h1⟩
def gSum : D → (D → Prop) → Prop := fun x P => ∃ ns : List Int, x = .lst (ns.map .int) ∧ P (.int ns.sum)
def gMax : D → (D → Prop) → Prop := fun x P => ∃ ns : List Int, x = .lst (ns.map .int) ∧ 0 < ns.length ∧ ∀ m, m ∈ ns → (∀ y, y ∈ ns → y ≤ m) → P (.int m)
def gMin : D → (D → Prop) → Prop := fun x P => ∃ ns : List Int, x = .lst (ns.map .int) ∧ 0 < ns.length ∧ ∀ m, m ∈ ns → (∀ y, y ∈ ns → m ≤ y) → P (.int m)
def gAny : D → (D → Prop) → Prop := fun x P => ∃ bs : List Bool, x = .lst (bs.map .bl) ∧ P (.bl (bs.any id))
def gAll : D → (D → Prop) → Prop := fun x P => ∃ bs : List Bool, x = .lst (bs.map .bl) ∧ P (.bl (bs.all id))
theorem d_sum (hc : X.calm = true) (hg : Gl X "sum") (hm : X.mg "sum" = none) (ha : DP X F a ta) (he : starEach [a] X.env = (false, eval a X.env) :: starEach [] X.env := by rfl) (hpl : (backTo pos (starEach [] X.env)).any (·.1) = false := by rfl) :
    DE X F (.Call (.Name "sum" p) [a] [] pos) (wC1 gSum ta) :=
  dc1 (fun t h => pe_callB (cr_sum hc) hg hm boot_sum h (he := he) (hpl := hpl)) he (by
    rintro Hf H σ δ x a P Q R rx ⟨ns, rfl, p⟩ k
    obtain ⟨l, rfl, h1⟩ := PRep.lints R rx
    exact ⟨l, ns, rfl, h1, k _ p Hf H _ (Same.refl _) R (.int _)⟩) ha
theorem d_max (hc : X.calm = true) (hg : Gl X "max") (hm : X.mg "max" = none) (ha : DP X F a ta) (he : starEach [a] X.env = (false, eval a X.env) :: starEach [] X.env := by rfl) (hpl : (backTo pos (starEach [] X.env)).any (·.1) = false := by rfl) :
    DE X F (.Call (.Name "max" p) [a] [] pos) (wC1 gMax ta) :=
  dc1 (fun t h => pe_callB (cr_max hc) hg hm boot_max h (he := he) (hpl := hpl)) he (by
    rintro Hf H σ δ x a P Q R rx ⟨ns, rfl, h0, p⟩ k
    obtain ⟨l, rfl, h1⟩ := PRep.lints R rx
    exact ⟨l, ns, rfl, h1, h0, fun m m1 m2 => k _ (p m m1 m2) Hf H _ (Same.refl _) R (.int _)⟩) ha
theorem d_min (hc : X.calm = true) (hg : Gl X "min") (hm : X.mg "min" = none) (ha : DP X F a ta) (he : starEach [a] X.env = (false, eval a X.env) :: starEach [] X.env := by rfl) (hpl : (backTo pos (starEach [] X.env)).any (·.1) = false := by rfl) :
    DE X F (.Call (.Name "min" p) [a] [] pos) (wC1 gMin ta) :=
  dc1 (fun t h => pe_callB (cr_min hc) hg hm boot_min h (he := he) (hpl := hpl)) he (by
    rintro Hf H σ δ x a P Q R rx ⟨ns, rfl, h0, p⟩ k
    obtain ⟨l, rfl, h1⟩ := PRep.lints R rx
    exact ⟨l, ns, rfl, h1, h0, fun m m1 m2 => k _ (p m m1 m2) Hf H _ (Same.refl _) R (.int _)⟩) ha
theorem PRep.lbls {K : PySem.W.Frag} {Hf H : Hp} {σ : L2.St} {δ : List S} {v : V} {ns : List Bool} (R : Rel K F Hf H σ δ) (h : PRep K Hf σ δ v (.lst (ns.map .bl))) : ∃ a, v = .ref a ∧ SqL K H a (ns.map V.bl) := by
  obtain ⟨l, vs, rfl, h1, h2⟩ := PRep.seq R h
  rw [h2.bls] at h1
  exact ⟨l, rfl, SqL.of h1⟩
theorem d_any (hc : X.calm = true) (hg : Gl X "any") (hm : X.mg "any" = none) (ha : DP X F a ta) (he : starEach [a] X.env = (false, eval a X.env) :: starEach [] X.env := by rfl) (hpl : (backTo pos (starEach [] X.env)).any (·.1) = false := by rfl) :
    DE X F (.Call (.Name "any" p) [a] [] pos) (wC1 gAny ta) :=
  dc1 (fun t h => pe_callB (cr_any hc) hg hm boot_any h (he := he) (hpl := hpl)) he (by
    rintro Hf H σ δ x a P Q R rx ⟨ns, rfl, p⟩ k
    obtain ⟨l, rfl, h1⟩ := PRep.lbls R rx
    exact ⟨l, ns, rfl, h1, k _ p Hf H _ (Same.refl _) R (.bl _)⟩) ha
theorem d_all (hc : X.calm = true) (hg : Gl X "all") (hm : X.mg "all" = none) (ha : DP X F a ta) (he : starEach [a] X.env = (false, eval a X.env) :: starEach [] X.env := by rfl) (hpl : (backTo pos (starEach [] X.env)).any (·.1) = false := by rfl) :
    DE X F (.Call (.Name "all" p) [a] [] pos) (wC1 gAll ta) :=
  dc1 (fun t h => pe_callB (cr_all hc) hg hm boot_all h (he := he) (hpl := hpl)) he (by
    rintro Hf H σ δ x a P Q R rx ⟨ns, rfl, p⟩ k
    obtain ⟨l, rfl, h1⟩ := PRep.lbls R rx
    exact ⟨l, ns, rfl, h1, k _ p Hf H _ (Same.refl _) R (.bl _)⟩) ha
def gSorted : D → (List D → Prop) → Prop := fun x P => ∃ ns : List Int, intsD x ns ∧ ∀ ms : List Int, ms.Perm ns → ms.Pairwise (· ≤ ·) → P (ms.map .int)
theorem d_sorted (hg : Gl X "sorted") (hm : X.mg "sorted" = none) (ha : DP X F a ta) (he : starEach [a] X.env = (false, eval a X.env) :: starEach [] X.env := by rfl) (hpl : (backTo pos (starEach [] X.env)).any (·.1) = false := by rfl) :
    DN X F (.Call (.Name "sorted" p) [a] [] pos) (wC1N gSorted ta) :=
  dc1N (fun t h => pe_callB cr_srt hg hm boot_sorted h (he := he) (hpl := hpl)) he (by
    rintro Hf H σ δ x a P Q R rx ⟨ns, e, p⟩ k
    obtain ⟨l, rfl, h1⟩ := PRep.ints R rx e
    exact ⟨l, ns, rfl, h1, fun ms q m1 m2 hq => k _ (p ms m1 m2) q _ hq reps_ints⟩) ha
def gListOf : D → (List D → Prop) → Prop := fun x P => ∃ ds, sq x = some ds ∧ P ds
theorem d_list (hg : Gl X "list") (hm : X.mg "list" = none) (ha : DP X F a ta) (he : starEach [a] X.env = (false, eval a X.env) :: starEach [] X.env := by rfl) (hpl : (backTo pos (starEach [] X.env)).any (·.1) = false := by rfl) :
    DN X F (.Call (.Name "list" p) [a] [] pos) (wC1N gListOf ta) :=
  dc1N (fun t h => pe_callTy call_list_of hg hm PyProof.Rows.boot_list h (he := he) (hpl := hpl)) he (by
    rintro Hf H σ δ x a P Q R rx ⟨ds, e, p⟩ k
    obtain ⟨l, vs, rfl, h1, h2⟩ := PRep.sq R rx e
    exact ⟨l, vs, rfl, h1, fun q hq => k _ p q _ hq h2⟩) ha
def gTupOf : D → (D → Prop) → Prop := fun x P => ∃ ds, sq x = some ds ∧ P (.tup ds)
theorem d_tuple (hg : Gl X "tuple") (hm : X.mg "tuple" = none) (ha : DP X F a ta) (he : starEach [a] X.env = (false, eval a X.env) :: starEach [] X.env := by rfl) (hpl : (backTo pos (starEach [] X.env)).any (·.1) = false := by rfl) :
    DE X F (.Call (.Name "tuple" p) [a] [] pos) (wC1 gTupOf ta) :=
  dc1 (fun t h => pe_callTy call_tuple_of hg hm PyProof.Rows.boot_tuple h (he := he) (hpl := hpl)) he (by
    rintro Hf H σ δ x a P Q R rx ⟨ds, e, p⟩ k
    cases a with
    | tup es =>
      simp only [sq] at e; cases e
      obtain ⟨l, vs, rfl, h1, h2⟩ := PRep.tupS R rx
      exact ⟨l, vs, rfl, .inr ⟨h1, k _ p Hf H _ (Same.refl _) R (rx.elim id fun ⟨_, _, e, _⟩ => nomatch e)⟩⟩
    | lst es =>
      simp only [sq] at e; cases e
      obtain ⟨l, vs, rfl, h1, h2⟩ := PRep.seq R rx
      exact ⟨l, vs, rfl, .inl ⟨SqL.of h1, fun q hq => k _ p _ _ _ (R.same_new hq) (R.new hq) (.tup (SqT.of upd_same) (h2.mono (R.same_new hq)))⟩⟩
    | row es =>
      simp only [sq] at e; cases e
      rcases rx with rx | ⟨_, _, e, _⟩
      · cases rx with
        | row h1 h2 => exact ⟨_, _, rfl, .inl ⟨R.sub.seq h1, fun q hq => k _ p _ _ _ (R.same_new hq) (R.new hq) (.tup (SqT.of upd_same) (h2.mono (R.same_new hq)))⟩⟩
      · cases e
    | _ => simp only [sq] at e; cases e) ha
/-! ### min, max of two -/
def g2I (f : Int → Int → Int) : List D → (D → Prop) → Prop := fun ds P => ∃ i j, ds = [.int i, .int j] ∧ P (.int (f i j))
def wC2 (g : List D → (D → Prop) → Prop) (t : WA) : WE := fun δ P => t δ fun ds δ1 => g ds fun c => P c δ1
theorem d_min2 (hc : X.calm = true) (hg : Gl X "min") (hm : X.mg "min" = none) {t : WA} (ha : DA X F [a, b] t) (he : starEach [a, b] X.env = (false, eval a X.env) :: starEach [b] X.env := by rfl) (hpl : (backTo pos (starEach [b] X.env)).any (·.1) = false := by rfl) :
    DE X F (.Call (.Name "min" p) [a, b] [] pos) (wC2 (g2I fun i j => if j < i then j else i) t) :=
  PE.imp (pe_callB (call_min2 hc) hg hm boot_min ha (he := he) (hpl := hpl)) fun σ H Q ⟨Hf, δ, P, R, h, k⟩ => ⟨Hf, δ, _, R, h, fun ds δ1 ⟨i, j, e, p⟩ Hf1 H1 vs s1 R1 r1 => by
    subst e
    cases r1 with
    | cons r t => cases r; cases t with
      | cons r t => cases r; cases t; exact ⟨i, j, rfl, k _ δ1 p Hf1 H1 _ s1 R1 (.int _)⟩⟩
theorem d_max2 (hc : X.calm = true) (hg : Gl X "max") (hm : X.mg "max" = none) {t : WA} (ha : DA X F [a, b] t) (he : starEach [a, b] X.env = (false, eval a X.env) :: starEach [b] X.env := by rfl) (hpl : (backTo pos (starEach [b] X.env)).any (·.1) = false := by rfl) :
    DE X F (.Call (.Name "max" p) [a, b] [] pos) (wC2 (g2I fun i j => if j > i then j else i) t) :=
  PE.imp (pe_callB (call_max2 hc) hg hm boot_max ha (he := he) (hpl := hpl)) fun σ H Q ⟨Hf, δ, P, R, h, k⟩ => ⟨Hf, δ, _, R, h, fun ds δ1 ⟨i, j, e, p⟩ Hf1 H1 vs s1 R1 r1 => by
    subst e
    cases r1 with
    | cons r t => cases r; cases t with
      | cons r t => cases r; cases t; exact ⟨i, j, rfl, k _ δ1 p Hf1 H1 _ s1 R1 (.int _)⟩⟩
/-! ### isinstance -/
def tyD : D → Option String
  | .non => some "NoneType"
  | .bl _ => some "bool"
  | .int _ => some "int"
  | .str _ => some "str"
  | .tup _ => some "tuple"
  | .lst _ => some "list"
  | .row _ => some "list"
  | _ => none
theorem PRep.ty {K : PySem.W.Frag} {Hf H : Hp} {σ : L2.St} {δ : List S} {v : V} {d : D} {t : String} (R : Rel K F Hf H σ δ) (h : PRep K Hf σ δ v d) (e : tyD d = some t) : TyX K H v (.type t) := by
  have seqL : ∀ {a : Addr} {vs : List V}, SqL K H a vs → TyX K H (.ref a) (.type "list") := fun {a vs} h => by
    rcases h with (h | ⟨o, h⟩) | ⟨o, its, n, h1, h2, _⟩
    · exact .base (.lst h)
    · exact .base (.frz h)
    · exact .kList h1 h2
  have seqT' : ∀ {a : Addr} {vs : List V}, SqT K H a vs → TyX K H (.ref a) (.type "tuple") := fun {a vs} h => by
    rcases h with (h | ⟨o, h⟩) | ⟨o, its, n, h1, h2, _⟩
    · exact .base (.tup h)
    · exact .fTuple h
    · exact .kTuple h1 h2
  cases d <;> simp only [tyD, Option.some.injEq, reduceCtorEq] at e <;> subst e
  · rw [h.nonE]; exact .base .non
  · rw [h.blE]; exact .base (.bl _)
  · rw [h.intE]; exact .base (.int _)
  · rw [h.strE]; exact .base (.str _)
  · obtain ⟨a, vs, rfl, g1, _⟩ := PRep.tupS R h; exact seqT' g1
  · obtain ⟨a, vs, rfl, g1, _⟩ := PRep.seq R h; exact seqL (SqL.of g1)
  · obtain ⟨a, vs, rfl, g1, _⟩ := PRep.sq R h rfl
    rcases h with h | ⟨_, _, e, _⟩
    · cases h with
      | row h r => exact seqL (R.sub.seq h)
    · cases e
/-- isinstance(x, T), T a built-in type by its name -/
def wIsi (T : String) (t : WE) : WE := fun δ P => t δ fun x δ1 => ∃ n b, tyD x = some n ∧ kitB n T = some b ∧ P (.bl b) δ1
theorem d_isi {T : String} (hg : Gl X "isinstance") (hm : X.mg "isinstance" = none) (ha : DP X F a ta) (hb : PE X b (tC (.ty T))) (he : starEach [a, b] X.env = (false, eval a X.env) :: starEach [b] X.env := by rfl)
    (he2 : starEach [b] X.env = (false, eval b X.env) :: starEach [] X.env := by rfl) (hpl : (backTo pos (starEach [b] X.env)).any (·.1) = false := by rfl) : DE X F (.Call (.Name "isinstance" p) [a, b] [] pos) (wIsi T ta) :=
  PE.imp (pe_callB call_isi hg hm PyProof.Rows.boot_isinstance (pa_cons ha (pa_cons hb pa_nil he2) he) (he := he) (hpl := hpl)) fun σ H Q ⟨Hf, δ, P, R, h, k⟩ => ⟨Hf, δ, _, R, h, fun x δ1 ⟨n, b, e1, e2, q⟩ Hf1 H1 v s1 R1 r1 =>
    ⟨v, .ty T, .type n, .type T, b, rfl, .ty T, PRep.ty R1 r1 e1, kit_ty e2, k _ δ1 q Hf1 H1 _ s1 R1 (.bl _)⟩⟩
def kitA (n : String) : List String → Option Bool
  | [] => some false
  | T :: Ts => match kitB n T with
    | some true => some true
    | some false => kitA n Ts
    | none => none
theorem kitA_ok {K : PySem.W.Frag} {n : String} : ∀ {Ts : List String} {b : Bool}, kitA n Ts = some b → PySem.W.kitAny K (.type n) (Ts.map Value.type) = some b
  | [], b, h => by simp only [kitA] at h; cases h; exact kitAny_nil
  | T :: Ts, b, h => by
    simp only [kitA] at h
    cases q : kitB n T with
    | none => rw [q] at h; cases h
    | some c =>
      rw [q] at h
      cases c with
      | true => cases h; exact kitAny_cons (kit_ty q) (fun z => by cases z) (fun _ => rfl)
      | false => exact kitAny_cons (kit_ty q) (fun _ => kitA_ok h) (fun z => by cases z)
theorem paired_ty : ∀ Ts : List String, Paired ClsV (Ts.map V.ty) (Ts.map Value.type)
  | [] => .nil
  | T :: Ts => .cons (.ty T) (paired_ty Ts)
/-- isinstance(x, (T, U, ..)) -/
def wIsiT (Ts : List String) (t : WE) : WE := fun δ P => t δ fun x δ1 => ∃ n b, tyD x = some n ∧ kitA n Ts = some b ∧ P (.bl b) δ1
def tTys (Ts : List String) : TA := fun _ H Q => Q (Ts.map V.ty) H
theorem d_isiT {Ts : List String} {x1} {tpos : Pos} (hg : Gl X "isinstance") (hm : X.mg "isinstance" = none) (ha : DP X F a ta) (hb : PA X es (tTys Ts)) (hl : Ts.length ≤ 10) (he : starEach [a, .Tuple es x1 tpos] X.env = (false, eval a X.env) :: starEach [.Tuple es x1 tpos] X.env := by rfl)
    (he2 : starEach [.Tuple es x1 tpos] X.env = (false, eval (.Tuple es x1 tpos) X.env) :: starEach [] X.env := by rfl) (hpl : (backTo pos (starEach [.Tuple es x1 tpos] X.env)).any (·.1) = false := by rfl) : DE X F (.Call (.Name "isinstance" p) [a, .Tuple es x1 tpos] [] pos) (wIsiT Ts ta) :=
  PE.imp (pe_callB call_isiT hg hm PyProof.Rows.boot_isinstance (pa_cons ha (pa_cons (pe_tup hb) pa_nil he2) he) (he := he) (hpl := hpl)) fun σ H Q ⟨Hf, δ, P, R, h, k⟩ => ⟨Hf, δ, _, R, h, fun x δ1 ⟨n, b, e1, e2, q⟩ Hf1 H1 v s1 R1 r1 =>
    ⟨by rw [List.length_map, sizeLine_eq]; omega, fun tp htp => by
      have R2 := R1.new (o := .tup (Ts.map V.ty)) htp
      have s2 := R1.same_new (o := .tup (Ts.map V.ty)) htp
      exact ⟨v, tp, Ts.map V.ty, .type n, Ts.map Value.type, b, rfl, upd_same, paired_ty Ts, PRep.ty R2 (r1.keep s2 (Kp.refl _)) e1, kitA_ok e2, k _ δ1 q _ _ _ (s1.trans s2) R2 (.bl _)⟩⟩⟩
/-! ### a list of the def's own, changed -/
def wApp (i : Nat) (t : WE) : WE := fun δ P => (∃ xs, δ[i]? = some (.own xs)) ∧ t δ fun d δ1 => ∃ xs, δ1[i]? = some (.own xs) ∧ xs.length < sizeLine ∧ P .non (δ1.set i (.own (xs ++ [d])))
theorem d_append {i : Nat} {t : WE} {apos : Pos} (h0 : PE X o (tVar i)) (ha : DE X F a t)
    (rule : ∀ t, PA X [a] t → PE X e (tBM X.K "list" rAppend (tVar i) t)) (he : starEach [a] X.env = (false, eval a X.env) :: starEach [] X.env := by rfl) : DE X F e (wApp i t) :=
  PE.imp (rule _ (pa_cons ha pa_nil he)) fun σ H Q ⟨Hf, δ, P, R, ⟨⟨xs0, e0⟩, h⟩, k⟩ => by
    obtain ⟨l, us0, g0, g00, _⟩ := R.sl i _ e0
    refine ⟨.ref l, g0, .inl ⟨rfl, us0, SqL.of g00⟩, Hf, δ, _, R, h, fun d δ1 h1 Hf1 H1 v s1 R1 r1 => ?_⟩
    obtain ⟨xs, e1, hz, p⟩ := h1
    obtain ⟨l', us, g1, g2, g3, g4⟩ := R1.sl i _ e1
    rw [g0] at g1; cases g1
    exact ⟨l, us, v, rfl, rfl, g2, by rw [g4.length]; exact hz, k _ _ p Hf1 _ _ s1 (R1.setO e1 g0 (g4.append (.cons r1 .nil))) .non⟩
def wPop (i : Nat) : WE := fun δ P => ∃ xs x, δ[i]? = some (.own (xs ++ [x])) ∧ P x (δ.set i (.own xs))
theorem Reps.snoc {K : PySem.W.Frag} {H : Hp} : ∀ {vs : List V} {ds : List D} {d : D}, Reps K H vs (ds ++ [d]) → ∃ us v, vs = us ++ [v] ∧ Reps K H us ds ∧ Rep K H v d
  | _, [], _, .cons r .nil => ⟨[], _, rfl, .nil, r⟩
  | _, e :: ds, d, .cons r t => by
    obtain ⟨us, v, rfl, h1, h2⟩ := Reps.snoc (ds := ds) t
    exact ⟨_ :: us, v, rfl, .cons r h1, h2⟩
theorem d_pop {i : Nat} (rule : PE X e (tBM0 X.K "list" rPop (tVar i))) : DE X F e (wPop i) :=
  PE.imp rule fun σ H Q ⟨Hf, δ, P, R, ⟨xs, x, e0, p⟩, k⟩ => by
    obtain ⟨l, us, g0, g1, g2, g3⟩ := R.sl i _ e0
    obtain ⟨us', v, rfl, r1, r2⟩ := g3.snoc
    refine ⟨.ref l, g0, .inl ⟨rfl, _, SqL.of g1⟩, l, us' ++ [v], v, rfl, rfl, g1, by simp, ?_⟩
    rw [List.dropLast_concat]
    exact k _ _ p Hf _ v (Same.refl _) (R.setO e0 g0 r1) r2
/-- xs[k] = e, xs of the def's own -/
def wSetIx (i : Nat) (te tk : WE) : WS := fun E δ => te δ fun d δ1 => (∃ xs, δ1[i]? = some (.own xs)) ∧ tk δ1 fun z δ2 => ∃ xs n j, δ2[i]? = some (.own xs) ∧ z = .int n ∧ ixN xs.length n = some j ∧ E.nx (δ2.set i (.own (xs.set j d)))
theorem ds_setIx {i : Nat} {te tk : WE} {tpos : Pos} (h0 : PE X o (tVar i)) (hk : DE X F b tk) (he : DE X F e te)
    (rule : ∀ ti te, PE X b ti → PE X e te → PS X (.Assign [.Subscript o b tpos] e pos) (tAsg te (gSub (tVar i) ti rSetL))) : DS X F (.Assign [.Subscript o b tpos] e pos) (wSetIx i te tk) :=
  PS.imp (rule _ _ hk he) fun D σ H ⟨Hf, δ, E, R, h, m⟩ => ⟨Hf, δ, _, R, h, fun d δ1 h1 Hf1 H1 v s1 R1 r1 => by
    obtain ⟨⟨xs0, e0⟩, h1⟩ := h1
    obtain ⟨l, us0, g0, _⟩ := R1.sl i _ e0
    refine ⟨.ref l, g0, Hf1, δ1, _, R1, h1, fun z δ2 h2 Hf2 H2 u s2 R2 r2 => ?_⟩
    obtain ⟨xs, n, j, e1, rfl, hj, q⟩ := h2
    cases r2
    obtain ⟨l', us, g1, g2, g3, g4⟩ := R2.sl i _ e1
    rw [g0] at g1; cases g1
    exact ⟨l, us, n, j, rfl, rfl, g2, by rw [g4.length]; exact hj, m.nx _ q Hf2 _ σ (s1.trans s2) (R2.setO e1 g0 (g4.set (r1.mono s2) j))⟩⟩
/-- xs.index(y), xs a list that can be read -/
def wIndex (to ty : WE) : WE := fun δ P => to δ fun x δ1 => ∃ ds, x = .lst ds ∧ ty δ1 fun y δ2 => Kp δ1 δ2 ∧ ∃ j z, flatD y = true ∧ ds.all flatD = true ∧ ds[j]? = some z ∧ eqD z y = true ∧ (∀ (m : Nat) (z' : D), m < j → ds[m]? = some z' → eqD z' y = false) ∧ P (.int (j : Nat)) δ2
theorem d_index {to ty : WE} (ho : DP X F o to) (ha : DE X F a ty)
    (rule : ∀ to ta, PE X o to → PA X [a] ta → PE X e (tBM X.K "list" (rIndex X.K) to ta)) (he : starEach [a] X.env = (false, eval a X.env) :: starEach [] X.env := by rfl) : DE X F e (wIndex to ty) :=
  PE.imp (rule _ _ ho (pa_cons ha pa_nil he)) fun σ H Q ⟨Hf, δ, P, R, h, k⟩ => ⟨Hf, δ, _, R, h, fun x δ1 h1 Hf1 H1 v s1 R1 r1 => by
    obtain ⟨ds, rfl, h1⟩ := h1
    obtain ⟨l, us0, rfl, g0, _⟩ := PRep.seq R1 r1
    refine ⟨.inl ⟨rfl, us0, SqL.of g0⟩, Hf1, δ1, _, R1, h1, fun y δ2 h2 Hf2 H2 u s2 R2 r2 => ?_⟩
    obtain ⟨kp, j, z, f1, f2, e1, e2, e3, p⟩ := h2
    obtain ⟨l', us, e, g1, g2⟩ := PRep.seq R2 (r1.keep s2 kp)
    cases e
    obtain ⟨w, q1, q2⟩ := g2.getD e1
    have flz : ∀ {m : Nat} {z' : D}, ds[m]? = some z' → flatD z' = true := fun {m z'} q => List.all_eq_true.mp f2 z' (List.mem_of_getElem? q)
    refine ⟨l, us, u, j, w, rfl, rfl, SqL.of g1, r2.flat f1, g2.flat f2, q1, by rw [q2.eqv (flz e1) r2 f1]; exact e2, fun m w' hm q => ?_, k _ δ2 p Hf2 H2 _ (s1.trans s2) R2 (.int _)⟩
    obtain ⟨z', q3, q4⟩ := g2.get q
    rw [q4.eqv (flz q3) r2 f1]
    exact e3 m z' hm q3⟩
end
end DT
end
section
set_option maxHeartbeats 4000000
namespace DT
open PySem PySem.Spec PyProof.Rows L2
section
variable {K : PySem.W.Frag} {F : Fm} {Hf H Hf' H' : Hp} {σ : L2.St} {δ : List S}
/-- an object that neither a slot nor what stood before knows -/
def Alone (F : Fm) (σ : L2.St) (δ : List S) (x : Addr) : Prop := F.H0 x = none ∧ ∀ (i : Nat) (s : S) (a : Addr), δ[i]? = some s → s.mine = true → σ[i]? = some (some (.ref a)) → a ≠ x
theorem Rel.alone (R : Rel K F Hf H σ δ) {x : Addr} (hx : H x = none) : Alone F σ δ x := ⟨R.none0 hx, fun i s a e m g => by
  obtain ⟨b, o, g1, g2, _⟩ := (R.sl i _ e).there m
  rw [g] at g1; cases g1
  exact ne_of_none g2 hx⟩
theorem Rel.frzO (R : Rel K F Hf H σ δ) {x : Addr} {o : HO} (al : Alone F σ δ x) (hx : H x = some o) (hn : Hf x = none) : Rel K F (upd Hf x o) H σ δ ∧ Same Hf (upd Hf x o) := by
  have sm : Same Hf (upd Hf x o) := fun b u e => by rw [upd_ne (ne_of_none e hn)]; exact e
  refine ⟨⟨fun b u e => ?_, R.f0.trans sm, R.keep, fun b u e q => ?_, R.len, fun j s e => ?_, R.dis, R.io, R.fr⟩, sm⟩
  · by_cases hb : b = x
    · subst hb; rw [upd_same] at e; cases e; exact hx
    · rw [upd_ne hb] at e; exact R.sub b u e
  · rw [upd_ne (ne_of_none e al.1)]; exact R.nf b u e q
  · refine (R.sl j s e).stay sm fun m b u e1 e2 => ?_
    obtain ⟨b', o', q1, q2, q3⟩ := (R.sl j s e).there m
    rw [e1] at q1; cases q1
    exact ⟨e2, by rw [upd_ne (al.2 j s b e m e1)]; exact q3⟩
theorem Rel.callX (R : Rel K F Hf H σ δ) {x : Addr} (al : Alone F σ δ x) (g : Grown K [x] Hf H Hf' H') : Rel K F Hf' H' σ δ := by
  refine ⟨g.sub, R.f0.trans g.f, fun b o e n => g.keep b o (R.keep b o e n) fun z => ?_, fun b o e n => ?_, R.len, fun i s e => ?_, R.dis, R.io, R.fr⟩
  · have z : b = x := by simpa using z
    subst z
    rw [al.1] at e; cases e
  · have hn := R.nf b o e n
    cases q : Hf' b with
    | none => rfl
    | some u =>
      cases hb : H b with
      | some w => rw [g.nf b w hb hn] at q; cases q
      | none =>
        have := R.none0 hb
        rw [e] at this; cases this
  · refine (R.sl i s e).stay g.f fun m a o e1 e2 => ?_
    obtain ⟨a', o', q1, q2, q3⟩ := (R.sl i s e).there m
    rw [e1] at q1; cases q1
    exact ⟨g.keep _ _ e2 (by simp [al.2 i s _ e m e1]), g.nf _ _ e2 q3⟩
end
/-- fields put: the same list that putF makes -/
def putD (f : Str) (d : D) : List (Str × D) → List (Str × D)
  | [] => [(f, d)]
  | (g, e) :: gs => if g = f then (g, d) :: gs else (g, e) :: putD f d gs
theorem RepF.putD {K : PySem.W.Frag} {H : Hp} {f : Str} {v : V} {d : D} (r : Rep K H v d) : ∀ {fs : List (Str × V)} {gs : List (Str × D)}, RepF K H fs gs → RepF K H (putF f v fs) (DT.putD f d gs)
  | _, _, .nil => .cons r .nil
  | _, _, .cons (f := f') r' t => by
    unfold putF DT.putD
    by_cases h : f' = f
    · rw [if_pos h, if_pos h]; subst h; exact .cons r t
    · rw [if_neg h, if_neg h]; exact .cons r' (RepF.putD r t)
theorem RepF.length {K : PySem.W.Frag} {H : Hp} : ∀ {fs : List (Str × V)} {gs : List (Str × D)}, RepF K H fs gs → fs.length = gs.length
  | _, _, .nil => rfl
  | _, _, .cons _ t => by simp [t.length]
section
variable {X : Cx} {F : Fm} {e a b c o : Expr} {es : List Expr} {pos p apos : Pos} {x : Str} {ta tb : WE} {k j n : Nat} {C : Addr} {f m : Str}
/-! ### fields -/
def wFld (C : Addr) (f : Str) (t : WE) : WE := fun δ P => t δ fun x δ1 => ∃ gs d, x = .ins C gs ∧ gs.lookup f = some d ∧ P d δ1
theorem d_fld (cl : Cls X.K C) (na : NoAttr X.K C f) (ha : DE X F e ta) (hb : attributeBase e f X.env (eval e X.env) = eval e X.env := by rfl) : DE X F (.Attribute e f pos) (wFld C f ta) :=
  PE.imp (pe_fld ha hb) fun σ H Q ⟨Hf, δ, P, R, h, k⟩ => ⟨Hf, δ, _, R, h, fun x δ1 h1 Hf1 H1 v s1 R1 r1 => by
    obtain ⟨gs, d, rfl, e1, p⟩ := h1
    cases r1 with
    | ins g1 g2 =>
      obtain ⟨u, q1, q2⟩ := g2.look e1
      exact ⟨_, C, _, _, u, rfl, R1.sub _ _ g1, cl, na, q1, k d δ1 p Hf1 H1 u s1 R1 q2⟩⟩
/-- self.f, self being made -/
def wFldS (i : Nat) (C : Addr) (f : Str) : WE := fun δ P => ∃ gs d, δ[i]? = some (.slf C gs) ∧ gs.lookup f = some d ∧ P d δ
theorem d_fldS {i : Nat} (cl : Cls X.K C) (na : NoAttr X.K C f) (h0 : PE X e (tVar i)) (hb : attributeBase e f X.env (eval e X.env) = eval e X.env := by rfl) : DE X F (.Attribute e f pos) (wFldS i C f) :=
  PE.imp (pe_fld h0 hb) fun σ H Q ⟨Hf, δ, P, R, ⟨gs, d, e0, e1, p⟩, k⟩ => by
    obtain ⟨a, dx, us, g0, g1, g2, g3⟩ := R.sl i _ e0
    obtain ⟨u, q1, q2⟩ := g3.look e1
    exact ⟨.ref a, g0, a, C, dx, us, u, rfl, g1, cl, na, q1, k d δ p Hf H u (Same.refl _) R q2⟩
theorem Rel.setS {K : PySem.W.Frag} {Hf H : Hp} {σ : L2.St} {δ : List S} {i : Nat} (R : Rel K F Hf H σ δ) {a dx : Addr} {gs hs : List (Str × D)} {us ws : List (Str × V)} (h : δ[i]? = some (.slf C gs)) (ha : σ[i]? = some (some (.ref a))) (hus : H a = some (.ins C dx us)) (r : RepF K Hf ws hs) :
    Rel K F Hf (upd H a (.ins C dx ws)) σ (δ.set i (.slf C hs)) := by
  obtain ⟨a', dx', vs, h1, h2, h3, h4⟩ := R.sl i _ h
  rw [ha] at h1; cases h1
  have hl : i < δ.length := (List.getElem?_eq_some_iff.mp h).1
  have out : ∀ {j : Nat} {s : S}, i ≠ j → (δ.set i (.slf C hs))[j]? = some s → δ[j]? = some s := fun {j s} hj e => by rwa [List.getElem?_set_ne hj] at e
  refine ⟨fun b u e => ?_, R.f0, fun b u e n => ?_, R.nf, by rw [List.length_set]; exact R.len, fun j s e => ?_, fun j k b xs ys e1 m1 e2 m2 e3 e4 => ?_, fun p hp => ?_, fun j s b e1 m e2 => ?_⟩
  · rw [upd_ne (ne_of_none e h3)]; exact R.sub b u e
  · have ne : b ≠ a := fun z => by
      subst z
      rcases R.fr i _ b h rfl ha with q | ⟨p, hp, q⟩
      · rw [q] at e; cases e
      · obtain ⟨g1, _⟩ := R.io p hp
        rw [q, ha] at g1; cases g1
        exact n p hp rfl
    rw [upd_ne ne]; exact R.keep b u e n
  · by_cases hj : i = j
    · subst hj
      rw [List.getElem?_set_self hl] at e; cases e
      exact ⟨a, dx, ws, ha, upd_same, h3, r⟩
    · have e := out hj e
      refine (R.sl j s e).stay (Same.refl _) fun m b u e1 e2 => ?_
      obtain ⟨b', o', q1, q2, q3⟩ := (R.sl j s e).there m
      rw [e1] at q1; cases q1
      have ne : b ≠ a := fun z => by
        subst z
        exact hj (R.dis i j b _ _ h rfl e m ha e1)
      exact ⟨by rw [upd_ne ne]; exact e2, q3⟩
  · have low : ∀ {j : Nat} {s : S}, (δ.set i (.slf C hs))[j]? = some s → s.mine = true → ∃ t, δ[j]? = some t ∧ t.mine = true := fun {j s} e m => by
      by_cases hj : i = j
      · subst hj; exact ⟨_, h, rfl⟩
      · exact ⟨s, out hj e, m⟩
    obtain ⟨x1, q1, m1⟩ := low e1 m1
    obtain ⟨x2, q2, m2⟩ := low e2 m2
    exact R.dis j k b x1 x2 q1 m1 q2 m2 e3 e4
  · obtain ⟨g1, s, g2, m⟩ := R.io p hp
    by_cases hj : i = p.1
    · exact ⟨g1, .slf C hs, by rw [← hj]; exact List.getElem?_set_self hl, rfl⟩
    · exact ⟨g1, s, by rw [List.getElem?_set_ne hj]; exact g2, m⟩
  · by_cases hj : i = j
    · subst hj; exact R.fr i _ b h rfl e2
    · exact R.fr j s b (out hj e1) m e2
end
end DT
end
section
set_option maxHeartbeats 4000000
namespace DT
open PySem PySem.Spec PyProof.Rows L2
section
variable {X : Cx} {F : Fm} {e a b c o : Expr} {es : List Expr} {pos p apos : Pos} {x : Str} {ta tb : WE} {k j n : Nat} {C : Addr} {f m : Str}
/-- self.f = e -/
def wSetS (i : Nat) (C : Addr) (f : Str) (t : WE) : WS := fun E δ => t δ fun d δ1 => ∃ gs, δ1[i]? = some (.slf C gs) ∧ gs.length < 1000 ∧ E.nx (δ1.set i (.slf C (putD f d gs)))
theorem ds_setS {i : Nat} {pos' : Pos} (cl : Cls X.K C) (na : NoAttr X.K C f) (h0 : PE X o (tVar i)) (he : DE X F e ta) (hs : swapsWith e (some (.Attribute o f pos')) pos.line X.env = pure false := by rfl) : DS X F (.Assign [.Attribute o f pos'] e pos) (wSetS i C f ta) :=
  PS.imp (ps_fld h0 he hs) fun D σ H ⟨Hf, δ, E, R, h, m⟩ => ⟨Hf, δ, _, R, h, fun d δ1 h1 Hf1 H1 v s1 R1 r1 => by
    obtain ⟨gs, e1, hz, q⟩ := h1
    obtain ⟨l, dx, us, g1, g2, g3, g4⟩ := R1.sl i _ e1
    exact ⟨.ref l, g1, l, C, dx, us, rfl, g2, cl, na, by rw [g4.length]; exact hz, m.nx _ q Hf1 _ σ s1 (R1.setS e1 g1 g2 (g4.putD r1))⟩⟩

/-! ### making an instance -/
abbrev TIn := List D → (List (Str × D) → Prop) → Prop
/-- __init__: the new instance first -/
def spIn (K : PySem.W.Frag) (C : Addr) (n : Nat) (T : TIn) : Sp := fun vs H Q _ => vs.length = n + 1 ∧ ∃ Hf x dx ws ds P, vs = .ref x :: ws ∧ H x = some (.ins C dx []) ∧ Hf x = none ∧ Same Hf H ∧ Reps K Hf ws ds ∧ T ds P ∧
  ∀ gs, P gs → ∀ Hf' H' us dy, Grown K [x] Hf H Hf' H' → H' x = some (.ins C dy us) → RepF K Hf' us gs → Q .non H'
def startM (N : List Str) (s0 : S) (ds : List D) : List S := s0 :: (ds.map .dat ++ List.replicate (N.length - (ds.length + 1)) .un)
theorem Rel.entryM {K : PySem.W.Frag} {Hf H : Hp} {N : List Str} {a : Addr} {ws : List V} {s0 : S} {ds : List D} (sub : Same Hf H) (m0 : s0.mine = true) (h00 : SOk K Hf H (some (some (.ref a))) s0) (r : Reps K Hf ws ds) (hl : ds.length + 1 ≤ N.length) :
    Rel K ⟨H, Hf, [(0, a)]⟩ Hf H (L2.start N (.ref a :: ws)) (startM N s0 ds) := by
  have e := r.length
  have h2 : ∀ (i : Nat) (s : S), (startM N s0 ds)[i]? = some s → (i = 0 ∧ s = s0) ∨ s = .un ∨ ∃ v d, s = .dat d ∧ (L2.start N (.ref a :: ws))[i]? = some (some v) ∧ Rep K Hf v d := fun i s h => by
    unfold startM at h
    cases i with
    | zero => simp at h; exact .inl ⟨rfl, h.symm⟩
    | succ i =>
      rw [List.getElem?_cons_succ] at h
      right
      by_cases hi : i < ds.length
      · rw [List.getElem?_append_left (by simpa using hi), List.getElem?_map] at h
        cases q : ds[i]? with
        | none => rw [q] at h; cases h
        | some d =>
          rw [q] at h; cases h
          obtain ⟨v, g1, g2⟩ := r.getD q
          refine .inr ⟨v, d, rfl, ?_, g2⟩
          unfold L2.start
          rw [List.getElem?_append_left (by simp; omega), List.getElem?_map, List.getElem?_cons_succ, g1]
          rfl
      · rw [List.getElem?_append_right (by simp; omega)] at h
        left
        exact List.eq_of_mem_replicate (List.mem_of_getElem? h)
  have h0 : (L2.start N (.ref a :: ws))[0]? = some (some (.ref a)) := by simp [L2.start]
  have own0 : ∀ {i : Nat} {s : S}, (startM N s0 ds)[i]? = some s → s.mine = true → i = 0 := fun {i s} e m => by
    rcases h2 i s e with ⟨z, _⟩ | rfl | ⟨_, _, rfl, _⟩
    · exact z
    · cases m
    · cases m
  refine ⟨sub, Same.refl _, (fun b o e _ => e), (fun b o _ n => n), ?_, (fun i s e => ?_), (fun i j b ds' es' e1 m1 e2 m2 _ _ => ?_), (fun p hp => ?_), (fun i s b e m _ => ?_)⟩
  · unfold L2.start startM; simp [e]
  · rcases h2 i s e with ⟨rfl, rfl⟩ | rfl | ⟨v, d, rfl, g1, g2⟩
    · rw [h0]; exact h00
    · trivial
    · exact ⟨v, g1, g2⟩
  · rw [own0 e1 m1, own0 e2 m2]
  · have z : p = (0, a) := by simpa using hp
    subst z
    exact ⟨h0, s0, rfl, m0⟩
  · exact .inr ⟨(0, a), by simp, (own0 e m).symm⟩
def tinOf (N : List Str) (C : Addr) (t : WS) : TIn := fun ds P => t { nx := fun δ => ∃ gs, δ[0]? = some (.slf C gs) ∧ P gs, rt := fun _ _ => False } (startM N (.slf C []) ds)
theorem body_In {K : PySem.W.Frag} {N : List Str} {t : WS} {n : Nat} {vs : List V} {H : Hp} {Q : VK} {E : XK} (hn : n + 1 ≤ N.length) (h : spIn K C n (tinOf N C t) vs H Q E) :
    ∃ F : Fm, (∃ a, F.io = [(0, a)]) ∧ liftS K F t { nx := fun _ H' => Q .non H', rt := Q } (L2.start N vs) H := by
  obtain ⟨hl, Hf, x, dx, ws, ds, P, rfl, hx, hnf, sub, r, ht, k⟩ := h
  have hd : ds.length + 1 ≤ N.length := by
    have := r.length
    simp at hl
    omega
  refine ⟨⟨H, Hf, [(0, x)]⟩, ⟨x, rfl⟩, Hf, _, _, Rel.entryM (s0 := .slf C []) sub rfl ⟨x, dx, [], rfl, hx, hnf, .nil⟩ r hd, ht, ⟨fun δ' ⟨gs, e, p⟩ Hf' H' σ' s R' => ?_, fun d δ' p => p.elim, fun xs δ' p => p.elim, fun _ z => z.elim, fun _ z => z.elim⟩⟩
  obtain ⟨g1, _⟩ := R'.io (0, x) (by simp)
  obtain ⟨b, dy, us', q1, q2, _, q4⟩ := R'.sl 0 _ e
  have g1 : σ'[0]? = some (some (.ref x)) := g1
  rw [g1] at q1; cases q1
  exact k gs p Hf' H' us' dy R'.grown q2 q4
section
variable {P : Program} {w : World} {K : PySem.W.Frag} {mg : Str → Option Value} {base : Heap}
theorem fn_In {x qual : Str} {st : Stmt} {f C : Addr} {fd : FuncData} {N ps : List Str} {k n : Nat} {t : WS} (F : Fun K x qual st f fd) (S : FnScope N ps (defScope st)) (hn : ps.length ≤ N.length) (hp : ps.length = n + 1)
    (hb : ∀ cdv A outer s H E (Fr : Fm), Room k (A.deeper (envOfC qual (defScope st) s.heap.objs.size f cdv)) → (∃ a, Fr.io = [(0, a)]) → DSs (bcx P w K mg base N qual (defScope st) f cdv A outer s H E) Fr (defBody st) t) :
    FnOk P w K mg base CX0 (k + 1) f fd ps (spIn K C n (tinOf N C t)) := by
  refine F.ok S (fun vs H Q E h => h.1.trans hp.symm) (fun cdv A outer s H vs Q E hr h => ?_)
  obtain ⟨Fr, e, q⟩ := body_In (by omega) h
  exact ⟨_, hb cdv A outer s H E Fr hr e, q⟩
end
/-- a class of the module, made with all arguments -/
structure Mkr (P : Program) (w : World) (K : PySem.W.Frag) (mg : Str → Option Value) (base : Heap) (C : Addr) (k : Nat) (sp : Sp) : Prop where
  ex : ∃ (f : Addr) (fd : FuncData) (ps : List Str), Mk K C f ∧ FnOk P w K mg base CX0 k f fd ps sp ∧ Binds K fd ps []
abbrev MkrX (X : Cx) (C : Addr) (k : Nat) (sp : Sp) : Prop := Mkr X.prog X.w X.K X.mg X.base C k sp
def wMake (C : Addr) (n : Nat) (T : TIn) (t : WA) : WE := fun δ P => t δ fun ds δ1 => ds.length = n ∧ T ds fun gs => P (.ins C gs) δ1
theorem make_ok {K : PySem.W.Frag} {T : TIn} {t : WA} {n : Nat} {σ : L2.St} {H : Hp} {Q : VK} {C : Addr} {F : Fm} (h : liftE K F (wMake C n T t) σ H Q) : tMake C (spIn K C n T) [] E0 (liftA K F t) σ H Q := by
  obtain ⟨Hf, δ, P, R, h, k⟩ := h
  refine ⟨Hf, δ, _, R, h, fun ds δ1 ⟨hl, h1⟩ Hf1 H1 vs s1 R1 r1 x dx hx hdx hne => ?_⟩
  have hx' : upd H1 dx (.own x) x = none := by rw [upd_ne (Ne.symm hne)]; exact hx
  have R2 := (R1.newO (o := .own x) hdx).newO (o := .ins C dx []) hx'
  have al : Alone F σ δ1 x := R1.alone hx
  refine ⟨by simp [r1.length, hl], Hf1, x, dx, vs, ds, _, by simp, upd_same, R1.sub.free hx, R2.sub, r1, h1, fun gs p Hf2 H2 us dy g g1 g2 => ⟨rfl, ?_⟩⟩
  have R3 := R2.callX al g
  have hn : Hf2 x = none := g.nf x _ upd_same (R1.sub.free hx)
  obtain ⟨R4, s4⟩ := R3.frzO al g1 hn
  exact k _ δ1 p _ H2 _ ((s1.trans g.f).trans s4) R4 (.ins upd_same (g2.mono s4))
theorem de_make {T : TIn} {t : WA} (c : MkrX X C k (spIn X.K C n T)) (hr : Room j X.A) (hk : k + 1 ≤ j) (hg : Gl X x) (hm : X.mg x = some (.ref C)) (ha : DA X F (e :: es) t) (hdb : (x == ("__debug__" : Str)) = false := by decide) (he : starEach (e :: es) X.env = (false, eval e X.env) :: starEach es X.env := by rfl)
    (hpl : (backTo pos (starEach es X.env)).any (·.1) = false := by rfl) : DE X F (.Call (.Name x p) (e :: es) [] pos) (wMake C n T t) := by
  obtain ⟨f, fd, ps, M, F', b⟩ := c.ex
  exact PE.imp (pe_make M F' (hr.mono hk) hg hm b .nil pass0 ha hdb he hpl) fun σ H Q h => make_ok h
/-- cls(..): the class stands in a slot -/
def wMakeV (i : Nat) (C : Addr) (n : Nat) (T : TIn) (t : WA) : WE := fun δ P => δ[i]? = some (.dat (.at C)) ∧ wMake C n T t δ P
theorem de_makeV {T : TIn} {t : WA} {i : Nat} (c : MkrX X C k (spIn X.K C n T)) (hr : Room j X.A) (hk : k + 1 ≤ j) (h0 : PE X (.Name x p) (tVar i)) (ha : DA X F (e :: es) t) (he : starEach (e :: es) X.env = (false, eval e X.env) :: starEach es X.env := by rfl)
    (hpl : (backTo pos (starEach es X.env)).any (·.1) = false := by rfl) : DE X F (.Call (.Name x p) (e :: es) [] pos) (wMakeV i C n T t) := by
  obtain ⟨f, fd, ps, M, F', b⟩ := c.ex
  refine ⟨fun pins s σ H Q I q => ?_⟩
  obtain ⟨Hf, δ, P, R, ⟨e0, h⟩, z⟩ := q
  obtain ⟨v, g0, g1⟩ := R.sl i _ e0
  cases g1
  have mk := make_ok (K := X.K) (Q := Q) ⟨Hf, δ, P, R, h, z⟩
  refine wpAny_Call_Name_kw (thn (h0.run pins s σ H (fun v H1 => v = .ref C ∧ H1 = H) I ⟨.ref C, g0, rfl, rfl⟩) fun u s1 ⟨v, H1, I1, r1, q1⟩ => ?_)
  obtain ⟨rfl, rfl⟩ := q1
  cases r1
  refine PySem.W.callWith_K (h₀ := X.base) I.ok.mod.kin M.kp (thn (PA.run ha pos pins s1 σ _ _ I1 mk) fun us s2 ⟨vs, H2, I2, r, q⟩ => ⟨I2.kIn, ?_⟩) he hpl
  exact run_make M F' (hr.mono hk) b .nil pass0 I2 r q

/-! ### methods, properties -/
structure Mth (P : Program) (w : World) (K : PySem.W.Frag) (mg : Str → Option Value) (base : Heap) (C : Addr) (m : Str) (k : Nat) (sp : Sp) : Prop where
  ex : ∃ (f : Addr) (fd : FuncData) (ps : List Str), Cls K C ∧ Meth K C m f ∧ FnOk P w K mg base CX0 k f fd ps sp ∧ Binds K fd ps []
abbrev MthX (X : Cx) (C : Addr) (m : Str) (k : Nat) (sp : Sp) : Prop := Mth X.prog X.w X.K X.mg X.base C m k sp
def wMeth (C : Addr) (m : Str) (n : Nat) (T : TF) (to : WE) (t : WA) : WE := fun δ P => to δ fun x δ1 => ∃ gs, x = .ins C gs ∧ gs.lookup m = none ∧ t δ1 fun ds δ2 => ds.length + 1 = n ∧ T (.ins C gs :: ds) fun d => P d δ2
theorem meth_ok {K : PySem.W.Frag} {T : TF} {to : WE} {t : WA} {σ : L2.St} {H : Hp} {Q : VK} (h : liftE K F (wMeth C m n T to t) σ H Q) : tMeth C m (spF K n T) [] E0 (liftE K F to) (liftA K F t) σ H Q := by
  obtain ⟨Hf, δ, P, R, h, k⟩ := h
  refine ⟨Hf, δ, _, R, h, fun x δ1 h1 Hf1 H1 v s1 R1 r1 => ?_⟩
  obtain ⟨gs, rfl, e1, h1⟩ := h1
  cases r1 with
  | ins g1 g2 =>
    refine ⟨_, _, _, rfl, R1.sub _ _ g1, g2.lookN e1, Hf1, δ1, _, R1, h1, fun ds δ2 h2 Hf2 H2 vs s2 R2 r2 => ?_⟩
    obtain ⟨hl, h2⟩ := h2
    exact ⟨by simp [r2.length]; omega, Hf2, _, _, R2.sub, by rw [List.append_nil]; exact .cons ((Rep.ins g1 g2).mono s2) r2, h2, fun d p Hf3 H3 u g r => k d δ2 p Hf3 H3 u ((s1.trans s2).trans g.f) (R2.call g) r⟩
theorem de_meth {T : TF} {to : WE} {t : WA} {pl : Sem Bool} (c : MthX X C m k (spF X.K n T)) (hr : Room j X.A) (hk : k ≤ j) (ho : DE X F o to) (ha : DA X F (e :: es) t) (hst : starEach (e :: es) X.env = (false, eval e X.env) :: starEach es X.env := by rfl)
    (hpl : (backTo pos (starEach es X.env)).any (·.1) = false := by rfl)
    (ht : eval (.Call (.Attribute o m apos) (e :: es) [] pos) X.env = (do
      let ov ← eval o X.env
      standAt apos.atName
      let (f, first) ← holding [ov] (getMethod ov m pl)
      callWith pos f first (backTo pos (starEach (e :: es) X.env)) (backToKw pos (keywordEach [] X.env))) := by rfl) : DE X F (.Call (.Attribute o m apos) (e :: es) [] pos) (wMeth C m n T to t) := by
  obtain ⟨f, fd, ps, cl, me, F', b⟩ := c.ex
  exact PE.imp (pe_meth (pl := pl) ho cl me F' (hr.mono hk) b .nil pass0 ha hst hpl ht) fun σ H Q h => meth_ok h
theorem de_meth0 {T : TF} {to : WE} {pl : Sem Bool} (c : MthX X C m k (spF X.K n T)) (hr : Room j X.A) (hk : k ≤ j) (ho : DE X F o to)
    (ht : eval (.Call (.Attribute o m apos) [] [] pos) X.env = (do
      let ov ← eval o X.env
      standAt apos.atName
      let (f, first) ← holding [ov] (getMethod ov m pl)
      callWith pos f first (backTo pos (starEach [] X.env)) (backToKw pos (keywordEach [] X.env))) := by rfl) : DE X F (.Call (.Attribute o m apos) [] [] pos) (wMeth C m n T to wNil) := by
  obtain ⟨f, fd, ps, cl, me, F', b⟩ := c.ex
  refine PE.imp (pe_meth0 (pl := pl) ho cl me F' (hr.mono hk) b .nil pass0 ht) fun σ H Q h => ?_
  obtain ⟨Hf, δ, P, R, h, k⟩ := h
  refine ⟨Hf, δ, _, R, h, fun x δ1 h1 Hf1 H1 v s1 R1 r1 => ?_⟩
  obtain ⟨gs, rfl, e1, hl, h2⟩ := h1
  cases r1 with
  | ins g1 g2 =>
    refine ⟨_, _, _, rfl, R1.sub _ _ g1, g2.lookN e1, ?_⟩
    exact ⟨by simpa using hl, Hf1, _, _, R1.sub, .cons (Rep.ins g1 g2) .nil, h2, fun d p Hf3 H3 u g r => k d δ1 p Hf3 H3 u (s1.trans g.f) (R1.call g) r⟩
structure Prp (P : Program) (w : World) (K : PySem.W.Frag) (mg : Str → Option Value) (base : Heap) (C : Addr) (f : Str) (k : Nat) (sp : Sp) : Prop where
  ex : ∃ (q g : Addr) (fd : FuncData) (ps : List Str), Cls K C ∧ PropOf K C f q g ∧ FnOk P w K mg base CX0 k g fd ps sp ∧ Binds K fd ps []
abbrev PrpX (X : Cx) (C : Addr) (f : Str) (k : Nat) (sp : Sp) : Prop := Prp X.prog X.w X.K X.mg X.base C f k sp
def wProp (C : Addr) (T : TF) (to : WE) : WE := fun δ P => to δ fun x δ1 => ∃ gs, x = .ins C gs ∧ T [.ins C gs] fun d => P d δ1
theorem de_prop {T : TF} {to : WE} (c : PrpX X C f k (spF X.K 1 T)) (hr : Room j X.A) (hk : k + 1 ≤ j) (ho : DE X F o to) (hab : attributeBase o f X.env (eval o X.env) = eval o X.env := by rfl) : DE X F (.Attribute o f pos) (wProp C T to) := by
  obtain ⟨q, g, fd, ps, cl, po, F', b⟩ := c.ex
  refine PE.imp (pe_prop ho cl po F' (hr.mono hk) b .nil pass0 hab) fun σ H Q h => ?_
  obtain ⟨Hf, δ, P, R, h, k⟩ := h
  refine ⟨Hf, δ, _, R, h, fun x δ1 h1 Hf1 H1 v s1 R1 r1 => ?_⟩
  obtain ⟨gs, rfl, h2⟩ := h1
  cases r1 with
  | ins g1 g2 =>
    refine ⟨_, _, _, rfl, R1.sub _ _ g1, ?_⟩
    exact ⟨rfl, Hf1, _, _, R1.sub, .cons (Rep.ins g1 g2) .nil, h2, fun d p Hf3 H3 u g r => k d δ1 p Hf3 H3 u (s1.trans g.f) (R1.call g) r⟩
/-- isinstance of an own instance, its class a name of the module -/
def wIsC (C : Addr) (t : WE) : WE := fun δ P => t δ fun x δ1 => ∃ gs, x = .ins C gs ∧ P (.bl true) δ1
theorem d_isC (ic : C8.InsC X.K C) (hg : Gl X "isinstance") (hm : X.mg "isinstance" = none) (ha : DE X F a ta) (hb : PE X b (tC (.ref C))) (he : starEach [a, b] X.env = (false, eval a X.env) :: starEach [b] X.env := by rfl)
    (he2 : starEach [b] X.env = (false, eval b X.env) :: starEach [] X.env := by rfl) (hpl : (backTo pos (starEach [b] X.env)).any (·.1) = false := by rfl) : DE X F (.Call (.Name "isinstance" p) [a, b] [] pos) (wIsC C ta) :=
  PE.imp (pe_callB (C8.call_isC ic) hg hm PyProof.Rows.boot_isinstance (pa_cons ha (pa_cons hb pa_nil he2) he) (he := he) (hpl := hpl)) fun σ H Q ⟨Hf, δ, P, R, h, k⟩ => ⟨Hf, δ, _, R, h, fun x δ1 ⟨gs, e, q⟩ Hf1 H1 v s1 R1 r1 => by
    subst e
    cases r1 with
    | ins g1 g2 => exact ⟨_, _, _, rfl, R1.sub _ _ g1, k _ δ1 q Hf1 H1 _ s1 R1 (.bl _)⟩⟩
/-- xs[::-1] of a list -/
def wRevL (t : WE) : WA := fun δ P => t δ fun x δ1 => ∃ ds, x = .lst ds ∧ P ds.reverse δ1
theorem Reps.reverse {K : PySem.W.Frag} {H : Hp} : ∀ {vs : List V} {ds : List D}, Reps K H vs ds → Reps K H vs.reverse ds.reverse
  | _, _, .nil => .nil
  | _, _, .cons r t => by
    rw [List.reverse_cons, List.reverse_cons]
    exact t.reverse.append (.cons r .nil)
theorem d_revL {kk : Nat} {p1 p2 p3 : Pos} (ha : DP X F e ta) : DN X F (.Subscript e (.Slice none none (some (.UnaryOp .USub (.Constant (.int 1) kk p1) p2)) p3) pos) (wRevL ta) :=
  PE.imp (pe_revL ha) fun σ H Q ⟨Hf, δ, P, R, h, k⟩ => ⟨Hf, δ, _, R, h, fun x δ1 ⟨ds, e, q⟩ Hf1 H1 v s1 R1 r1 => by
    subst e
    obtain ⟨l, vs, rfl, h1, h2⟩ := PRep.seq R1 r1
    exact ⟨l, vs, rfl, SqL.of h1, fun p hp => k _ δ1 q Hf1 _ p s1 (R1.newN hp h2.reverse).1 (R1.newN hp h2.reverse).2⟩⟩
end
end DT
end
section
set_option maxHeartbeats 4000000
namespace DT
open PySem PySem.Spec PyProof.Rows L2
section
variable {X : Cx} {F : Fm} {e a b c : Expr} {pos : Pos} {r : R2} {ta tb : WE}
/-! ### comparisons as tests -/
theorem dt_of {t : TE} {w : WE} (h : PT X e (tTest t)) (k : ∀ σ H Q, liftE X.K F w σ H Q → t σ H Q) : DTe X F e (wVal w) :=
  PT.imp h fun σ H Q ⟨Hf, δ, P, R, q, z⟩ => k σ H _ ⟨Hf, δ, _, R, q, fun x δ1 ⟨kb, e, p⟩ Hf1 H1 v s1 R1 r1 => by
    subst e; cases r1
    exact ⟨kb, rfl, z kb δ1 p Hf1 H1 s1 R1⟩⟩
theorem bin_lift {K : PySem.W.Frag} {g : D → D → (D → Prop) → Prop} (hr : R2D K F r g) : ∀ σ H Q, liftE K F (wBin g ta tb) σ H Q → tOp r (liftE K F ta) (liftP K F tb) σ H Q :=
  fun σ H Q ⟨Hf, δ, P, R, h, k⟩ => ⟨Hf, δ, _, R, h, fun x δ1 h1 Hf1 H1 v s1 R1 r1 => ⟨Hf1, δ1, _, R1, h1, fun y δ2 h2 Hf2 H2 u s2 R2 r2 =>
    hr Hf2 H2 σ δ2 v u x y _ _ R2 (.inl (r1.mono s2)) r2 h2 fun c pc Hf3 H3 v3 s3 R3 r3 => k c δ2 pc Hf3 H3 v3 ((s1.trans s2).trans s3) R3 r3⟩⟩
theorem binP_lift {K : PySem.W.Frag} {g : D → D → (D → Prop) → Prop} (hr : R2D K F r g) : ∀ σ H Q, liftE K F (wBinP g ta tb) σ H Q → tOp r (liftP K F ta) (liftP K F tb) σ H Q :=
  fun σ H Q ⟨Hf, δ, P, R, h, k⟩ => ⟨Hf, δ, _, R, h, fun x δ1 h1 Hf1 H1 v s1 R1 r1 => ⟨Hf1, δ1, _, R1, h1, fun y δ2 h2 Hf2 H2 u s2 R2 r2 =>
    hr Hf2 H2 σ δ2 v u x y _ _ R2 (PRep.keep r1 s2 h2.1) r2 h2.2 fun c pc Hf3 H3 v3 s3 R3 r3 => k c δ2 pc Hf3 H3 v3 ((s1.trans s2).trans s3) R3 r3⟩⟩
theorem dt_lt (ha : DE X F a ta) (hb : DP X F b tb) : DTe X F (.Compare a [.Lt] [b] pos) (wVal (wBin (gI T2 fun i j => .bl (decide (i < j))) ta tb)) := dt_of (pt_cmpR op_lt ha hb (nomark _)) (bin_lift (r2_rI0 fun _ _ _ _ => .bl _))
theorem dt_le (ha : DE X F a ta) (hb : DP X F b tb) : DTe X F (.Compare a [.LtE] [b] pos) (wVal (wBin (gI T2 fun i j => .bl (decide (i ≤ j))) ta tb)) := dt_of (pt_cmpR op_le ha hb (nomark _)) (bin_lift (r2_rI0 fun _ _ _ _ => .bl _))
theorem dt_gt (ha : DE X F a ta) (hb : DP X F b tb) : DTe X F (.Compare a [.Gt] [b] pos) (wVal (wBin (gI T2 fun i j => .bl (decide (j < i))) ta tb)) := dt_of (pt_cmpR op_gt ha hb (nomark _)) (bin_lift (r2_rI0 fun _ _ _ _ => .bl _))
theorem dt_ge (ha : DE X F a ta) (hb : DP X F b tb) : DTe X F (.Compare a [.GtE] [b] pos) (wVal (wBin (gI T2 fun i j => .bl (decide (j ≤ i))) ta tb)) := dt_of (pt_cmpR op_ge ha hb (nomark _)) (bin_lift (r2_rI0 fun _ _ _ _ => .bl _))
theorem dt_eq (hu : X.A.units + 64 < cLine) (ha : DP X F a ta) (hb : DP X F b tb) : DTe X F (.Compare a [.Eq] [b] pos) (wVal (wBinP (gEq id) ta tb)) := dt_of (pt_cmpR (op_eqD hu) ha hb (nomark _)) (binP_lift r2_eq)
theorem dt_ne (hu : X.A.units + 64 < cLine) (ha : DP X F a ta) (hb : DP X F b tb) : DTe X F (.Compare a [.NotEq] [b] pos) (wVal (wBinP (gEq not) ta tb)) := dt_of (pt_cmpR (op_neD hu) ha hb (nomark _)) (binP_lift r2_ne)
theorem dt_in (ha : DE X F a ta) (hb : DP X F b tb) (hm : behindInMarks .In b = false := by rfl) : DTe X F (.Compare a [.In] [b] pos) (wVal (wBin (gIn false) ta tb)) := dt_of (pt_cmpR op_in_seq ha hb hm) (bin_lift r2_in)
theorem dt_notin (ha : DE X F a ta) (hb : DP X F b tb) (hm : behindInMarks .NotIn b = false := by rfl) : DTe X F (.Compare a [.NotIn] [b] pos) (wVal (wBin (gIn true) ta tb)) := dt_of (pt_cmpR op_notIn_seq ha hb hm) (bin_lift r2_in)
theorem r2_isN {K : PySem.W.Frag} : R2D K F (fun x y H Q => y = .non ∧ Q (.bl (decide (x = .non))) H) (gIsN id) := by
  rintro Hf H σ δ x y a b P Q R rx ry ⟨rfl, p⟩ k
  refine ⟨ry.nonE, ?_⟩
  rw [PRep.nonR R rx]
  exact k _ p Hf H _ (Same.refl _) R (.bl _)
theorem r2_notN {K : PySem.W.Frag} : R2D K F (fun x y H Q => y = .non ∧ Q (.bl (!decide (x = .non))) H) (gIsN not) := by
  rintro Hf H σ δ x y a b P Q R rx ry ⟨rfl, p⟩ k
  refine ⟨ry.nonE, ?_⟩
  rw [PRep.nonR R rx]
  exact k _ p Hf H _ (Same.refl _) R (.bl _)
theorem dt_isN (ha : DP X F a ta) (hb : DP X F b tb) : DTe X F (.Compare a [.Is] [b] pos) (wVal (wBinP (gIsN id) ta tb)) := dt_of (pt_cmpR op_isN ha hb (nomark _)) (binP_lift r2_isN)
theorem dt_notN (ha : DP X F a ta) (hb : DP X F b tb) : DTe X F (.Compare a [.IsNot] [b] pos) (wVal (wBinP (gIsN not) ta tb)) := dt_of (pt_cmpR op_notN ha hb (nomark _)) (binP_lift r2_notN)
theorem chain_lift {K : PySem.W.Frag} {f g : Int → Int → Bool} {tc : WE} : ∀ σ H Q, liftE K F (wChain f g ta tb tc) σ H Q → tChain (rI0 fun i j => .bl (f i j)) (rI0 fun i j => .bl (g i j)) (liftE K F ta) (liftE K F tb) (liftE K F tc) σ H Q :=
  fun σ H Q ⟨Hf, δ, P, R, h, k⟩ => ⟨Hf, δ, _, R, h, fun x δ1 h1 Hf1 H1 v s1 R1 r1 => ⟨Hf1, δ1, _, R1, h1, fun y δ2 h2 Hf2 H2 u s2 R2 r2 => by
    obtain ⟨i, j, rfl, rfl, h3⟩ := h2
    cases r1; cases r2
    refine ⟨i, j, rfl, rfl, f i j, rfl, ?_⟩
    by_cases q : f i j = true
    · rw [if_pos q] at h3 ⊢
      refine ⟨Hf2, δ2, _, R2, h3, fun z δ3 h4 Hf3 H3 w s3 R3 r3 => ?_⟩
      obtain ⟨l, rfl, p⟩ := h4
      cases r3
      exact ⟨j, l, rfl, rfl, k _ δ3 p Hf3 H3 _ ((s1.trans s2).trans s3) R3 (.bl _)⟩
    · rw [if_neg q] at h3 ⊢
      exact k _ δ2 h3 Hf2 H2 _ (s1.trans s2) R2 (.bl _)⟩⟩
theorem dt_chain {op op' : CmpOp} {f g : Int → Int → Bool} {tc : WE} (ho : OpR X (compareOp op) (rI0 fun i j => .bl (f i j))) (ho' : OpR X (compareOp op') (rI0 fun i j => .bl (g i j))) (ha : DE X F a ta) (hb : DE X F b tb) (hc : DE X F c tc)
    (rule : ∀ ta tb tc, PE X a ta → PE X b tb → PE X c tc → PT X e (tTest (tChain (rI0 fun i j => .bl (f i j)) (rI0 fun i j => .bl (g i j)) ta tb tc))) : DTe X F e (wVal (wChain f g ta tb tc)) := dt_of (rule _ _ _ ha hb hc) chain_lift
end
end DT
end
section
set_option maxHeartbeats 4000000
namespace DT
open PySem PySem.Spec PyProof.Rows L2
section
variable {X : Cx} {F : Fm} {e a b c o : Expr} {es : List Expr} {pos p apos : Pos} {x : Str} {ta tb : WE} {k j n : Nat} {C : Addr} {f m : Str}
/-! ### defaults and keywords -/
structure CaD (P : Program) (w : World) (K : PySem.W.Frag) (mg : Str → Option Value) (base : Heap) (x : Str) (k : Nat) (sp : Sp) (dds : List D) : Prop where
  ex : ∃ (f : Addr) (fd : FuncData) (ps : List Str) (ds : List Value) (dvs : List V), FnOk P w K mg base CX0 k f fd ps sp ∧ mg x = some (.ref f) ∧ PySem.W.keepIn K (.ref f) = true ∧ Binds K fd ps ds ∧ Vals dvs ds ∧ ∀ H, Reps K H dvs dds
abbrev CaDX (X : Cx) (x : Str) (k : Nat) (sp : Sp) (dds : List D) : Prop := CaD X.prog X.w X.K X.mg X.base x k sp dds
def wCallD (n : Nat) (T : TF) (dds : List D) (t : WA) : WE := fun δ P => t δ fun ds δ1 => (ds ++ dds).length = n ∧ T (ds ++ dds) fun d => P d δ1
theorem de_callD {T : TF} {t : WA} {dds : List D} (c : CaDX X x k (spF X.K n T) dds) (hr : Room j X.A) (hk : k ≤ j) (hg : Gl X x) (ha : DA X F (e :: es) t) (hdb : (x == ("__debug__" : Str)) = false := by decide) (he : starEach (e :: es) X.env = (false, eval e X.env) :: starEach es X.env := by rfl)
    (hpl : (backTo pos (starEach es X.env)).any (·.1) = false := by rfl) : DE X F (.Call (.Name x p) (e :: es) [] pos) (wCallD n T dds t) := by
  obtain ⟨f, fd, ps, ds, dvs, F', hm, kp, b, hd, hrep⟩ := c.ex
  exact PE.imp (pe_call F' (hr.mono hk) hg hm kp b hd pass0 ha hdb he hpl) fun σ H Q ⟨Hf, δ, P, R, h, k⟩ => ⟨Hf, δ, _, R, h, fun ds δ1 ⟨hl, h1⟩ Hf1 H1 vs s1 R1 r1 => by
    have r2 := r1.append (hrep Hf1)
    exact ⟨by rw [r2.length]; exact hl, Hf1, _, _, R1.sub, r2, h1, fun d p Hf2 H2 v g r => k d δ1 p Hf2 H2 v (s1.trans g.f) (R1.call g) r⟩⟩
def DK (X : Cx) (F : Fm) (kws : List Keyword) (t : WA) : Prop := PK X kws (liftA X.K F t)
theorem PK.imp {kws : List Keyword} {t t' : TA} (h : PK X kws t) (k : ∀ σ H Q, t' σ H Q → t σ H Q) : PK X kws t' := ⟨fun p pins s σ H Q I q => h.run p pins s σ H Q I (k σ H Q q)⟩
theorem dk_nil : DK X F [] wNil := PK.imp pk_nil fun σ H Q ⟨Hf, δ, P, R, h, k⟩ => k _ δ h Hf H _ (Same.refl _) R .nil
theorem dk_cons {te : WE} {tr : WA} {nm : Option Str} {kpos : Pos} {kws : List Keyword} (he : DE X F e te) (hr : DK X F kws tr) : DK X F (⟨nm, e, kpos⟩ :: kws) (wCons te tr) :=
  PK.imp (pk_cons he hr) fun σ H Q ⟨Hf, δ, P, R, h, k⟩ => ⟨Hf, δ, _, R, h, fun x δ1 h1 Hf1 H1 v s1 R1 r1 => ⟨Hf1, δ1, _, R1, h1, fun xs δ2 h2 Hf2 H2 vs s2 R2 r2 =>
    k _ δ2 h2 Hf2 H2 _ (s1.trans s2) R2 (.cons (r1.mono s2) r2)⟩⟩
/-- f(.., k = v): i positional arguments, then the keywords ks, which are the last parameters in their order -/
structure CaK (P : Program) (w : World) (K : PySem.W.Frag) (mg : Str → Option Value) (base : Heap) (x : Str) (k i : Nat) (ks : List Str) (sp : Sp) : Prop where
  ex : ∃ (f : Addr) (fd : FuncData) (ps : List Str) (g : List Value → List Value → List Value) (gV : List V → List V → List V), FnOk P w K mg base CX0 k f fd ps sp ∧ mg x = some (.ref f) ∧ PySem.W.keepIn K (.ref f) = true ∧ KBn K fd ps i ks g gV ∧
    ∀ vs zs, vs.length = i → zs.length = ks.length → gV vs zs = vs ++ zs
abbrev CaKX (X : Cx) (x : Str) (k i : Nat) (ks : List Str) (sp : Sp) : Prop := CaK X.prog X.w X.K X.mg X.base x k i ks sp
def wCallK (n i m : Nat) (T : TF) (t tk : WA) : WE := fun δ P => t δ fun ds δ1 => tk δ1 fun es δ2 => (ds.length = i ∧ es.length = m ∧ i + m = n) ∧ T (ds ++ es) fun d => P d δ2
theorem de_callK {T : TF} {t tk : WA} {i : Nat} {ks : List Str} {kws : List Keyword} (c : CaKX X x k i ks (spF X.K n T)) (hr : Room j X.A) (hk : k ≤ j) (hg : Gl X x) (ha : DA X F (e :: es) t) (hkw : DK X F kws tk)
    (hall : (backToKw pos (keywordEach kws X.env)).all (·.1.isSome) = true := by rfl) (hks : (backToKw pos (keywordEach kws X.env)).filterMap (·.1) = ks := by rfl)
    (hdb : (x == ("__debug__" : Str)) = false := by decide) (he : starEach (e :: es) X.env = (false, eval e X.env) :: starEach es X.env := by rfl)
    (hpl : ((backTo pos (starEach (e :: es) X.env)).any (·.1) || (backToKw pos (keywordEach kws X.env)).any (·.1.isNone)) = false := by rfl) : DE X F (.Call (.Name x p) (e :: es) kws pos) (wCallK n i ks.length T t tk) := by
  obtain ⟨f, fd, ps, g, gV, F', hm, kp, kb, hgv⟩ := c.ex
  exact PE.imp (pe_callN F' (hr.mono hk) hg hm kp kb pass0 ha hkw hall hks hdb he hpl) fun σ H Q ⟨Hf, δ, P, R, h, k⟩ => ⟨Hf, δ, _, R, h, fun ds δ1 h1 Hf1 H1 vs s1 R1 r1 => ⟨Hf1, δ1, _, R1, h1, fun es δ2 ⟨⟨l1, l2, l3⟩, h2⟩ Hf2 H2 zs s2 R2 r2 => by
    have q1 : vs.length = i := by rw [r1.length]; exact l1
    have q2 : zs.length = ks.length := by rw [r2.length]; exact l2
    refine ⟨q1, q2, ?_⟩
    rw [hgv vs zs q1 q2]
    have r3 := (r1.mono s2).append r2
    exact ⟨by rw [List.length_append]; omega, Hf2, _, _, R2.sub, r3, h2, fun d p Hf3 H3 v g r => k d δ2 p Hf3 H3 v ((s1.trans s2).trans g.f) (R2.call g) r⟩⟩⟩
/-! ### classmethods -/
structure CMt (P : Program) (w : World) (K : PySem.W.Frag) (mg : Str → Option Value) (base : Heap) (C : Addr) (m : Str) (k : Nat) (sp : Sp) : Prop where
  ex : ∃ (mc : Value) (q g : Addr), ClX.CRead K C mc ∧ ClX.CMet K C mc m q g ∧ FnR P w K mg base CX0 k g sp
abbrev CMtX (X : Cx) (C : Addr) (m : Str) (k : Nat) (sp : Sp) : Prop := CMt X.prog X.w X.K X.mg X.base C m k sp
def wCMeth (C : Addr) (n : Nat) (T : TF) (t : WA) : WE := fun δ P => t δ fun ds δ1 => ds.length + 1 = n ∧ T (.at C :: ds) fun d => P d δ1
theorem de_cmeth {T : TF} {t : WA} {pl : Sem Bool} (c : CMtX X C m k (spF X.K n T)) (hr : Room j X.A) (hk : k ≤ j) (ho : PE X o (tC (.ref C))) (ha : DA X F (e :: es) t) (hst : starEach (e :: es) X.env = (false, eval e X.env) :: starEach es X.env := by rfl)
    (hpl : (backTo pos (starEach es X.env)).any (·.1) = false := by rfl)
    (ht : eval (.Call (.Attribute o m apos) (e :: es) [] pos) X.env = (do
      let ov ← eval o X.env
      standAt apos.atName
      let (f, first) ← holding [ov] (getMethod ov m pl)
      callWith pos f first (backTo pos (starEach (e :: es) X.env)) (backToKw pos (keywordEach [] X.env))) := by rfl) : DE X F (.Call (.Attribute o m apos) (e :: es) [] pos) (wCMeth C n T t) := by
  obtain ⟨mc, q, g, rd, cm, F'⟩ := c.ex
  exact PE.imp (ClX.pe_cmeth (pl := pl) ho rd cm F' (hr.mono hk) pass0 ha hst hpl ht) fun σ H Q ⟨Hf, δ, P, R, h, k⟩ => ⟨rfl, Hf, δ, _, R, h, fun ds δ1 ⟨hl, h1⟩ Hf1 H1 vs s1 R1 r1 =>
    ⟨by simp [r1.length]; omega, Hf1, _, _, R1.sub, .cons (.at C) r1, h1, fun d p Hf2 H2 v g r => k d δ1 p Hf2 H2 v (s1.trans g.f) (R1.call g) r⟩⟩
/-! ### == by an own __eq__ -/
structure EqC (P : Program) (w : World) (K : PySem.W.Frag) (mg : Str → Option Value) (base : Heap) (C : Addr) (k : Nat) (sp : Sp) : Prop where
  ex : ∃ (g : Addr) (fd : FuncData) (ps : List Str), PySem.W.findIn K (.ref C) "__eq__" = some (some (.ref g)) ∧ PySem.W.isFn K (.ref g) = true ∧ PySem.W.notFirst K C (.ref C) = true ∧ FnOk P w K mg base CX0 k g fd ps sp ∧ Binds K fd ps []
abbrev EqCX (X : Cx) (C : Addr) (k : Nat) (sp : Sp) : Prop := EqC X.prog X.w X.K X.mg X.base C k sp
def rEqO (C : Addr) (sp : Sp) : R2 := fun x y H Q => ∃ a dx vs b dy ws, x = .ref a ∧ y = .ref b ∧ H a = some (.ins C dx vs) ∧ H b = some (.ins C dy ws) ∧ sp [x, y] H Q E0
theorem op_eqO {sp : Sp} (c : EqCX X C k sp) (hr : Room j X.A) (hk : k ≤ j) : OpR X (compareOp .Eq) (rEqO C sp) := by
  obtain ⟨g, fd, ps, hs, hf, hn, F', b⟩ := c.ex
  intro pins s σ H x y v u Q I rx ry h
  obtain ⟨a, dx, vs, b', dy, ws, rfl, rfl, ha, hb, q⟩ := h
  cases (show v = Value.ref a from rx)
  cases (show u = Value.ref b' from ry)
  obtain ⟨mA, OA, _⟩ := ins_get I.hok ha
  obtain ⟨mB, OB, _⟩ := ins_get I.hok hb
  obtain ⟨od, J, _⟩ := OA.look
  obtain ⟨od', J', _⟩ := OB.look
  obtain ⟨mm, hF⟩ := I.fr
  show wpAny _ _ (richCompare .Eq _ _) _ _ _
  refine PySem.W.cmp_K (op := .Eq) (tb := .ref C) hr.units0 hF I.ok.mod.kin J J'.type hn hs hf ?_
  refine wpAny_mono (run_fn (us := [.ref a, .ref b']) (vs := [.ref a, .ref b']) F' (hr.mono hk) b .nil pass0 I (.cons rfl (.cons rfl .nil)) (by rw [List.append_nil]; exact q)) (fun w s' z => ?_) fun _ _ x => x
  obtain ⟨z', H', I', rz, qz⟩ := z
  exact SlX.cmpback rz ⟨z', H', I', rz, qz⟩
def gEqO (C : Addr) (n : Nat) (T : TF) : D → D → (D → Prop) → Prop := fun x y P => ∃ gs hs, x = .ins C gs ∧ y = .ins C hs ∧ n = 2 ∧ T [x, y] P
theorem insE {K : PySem.W.Frag} {Hf : Hp} {σ : L2.St} {δ : List S} {v : V} {gs : List (Str × D)} (h : PRep K Hf σ δ v (.ins C gs)) : ∃ a dx us, v = .ref a ∧ Hf a = some (.ins C dx us) ∧ Rep K Hf v (.ins C gs) := by
  rcases h with h | ⟨_, _, e, _⟩
  · cases h with
    | ins h1 h2 => exact ⟨_, _, _, rfl, h1, .ins h1 h2⟩
  · cases e
theorem r2_eqO {K : PySem.W.Frag} {T : TF} : R2D K F (rEqO C (spF K n T)) (gEqO C n T) := by
  rintro Hf H σ δ x y a b P Q R rx ry ⟨gs, hs, rfl, rfl, rfl, h⟩ k
  obtain ⟨l, dx, us, rfl, h1, r1⟩ := insE rx
  obtain ⟨m, dy, ws, rfl, g1, r2⟩ := insE ry
  exact ⟨l, dx, us, m, dy, ws, rfl, rfl, R.sub _ _ h1, R.sub _ _ g1, rfl, Hf, _, _, R.sub, .cons r1 (.cons r2 .nil), h, fun d p Hf2 H2 v g r => k d p Hf2 H2 v g.f (R.call g) r⟩
theorem d_eqO {T : TF} (c : EqCX X C k (spF X.K n T)) (hr : Room j X.A) (hk : k ≤ j) (ha : DE X F a ta) (hb : DP X F b tb) : DE X F (.Compare a [.Eq] [b] pos) (wBin (gEqO C n T) ta tb) := PE.imp (pe_cmpR (op_eqO c hr hk) ha hb (nomark _)) (bin_lift r2_eqO)
theorem dt_eqO {T : TF} (c : EqCX X C k (spF X.K n T)) (hr : Room j X.A) (hk : k ≤ j) (ha : DE X F a ta) (hb : DP X F b tb) : DTe X F (.Compare a [.Eq] [b] pos) (wVal (wBin (gEqO C n T) ta tb)) := dt_of (pt_cmpR (op_eqO c hr hk) ha hb (nomark _)) (bin_lift r2_eqO)
end
end DT
end
section
set_option maxHeartbeats 4000000
namespace DT
open PySem PySem.Spec PyProof.Rows L2
/-! ### enumerate of a tuple -/
section
variable {prog : Program} {w : World} {A : Around} {E : Value → Shared → Prop} {s : Shared}
/-- the pair is made, the counter goes on -/
theorem entup_turn {e it l : Addr} {i : Nat} {items : Array Value} {x old : Value} {Q : Option Value → Shared → Prop} (he : IsEnum s.heap e it i old) (hit : s.heap.IsTupleIter it l i) (hl : s.heap.IsTuple l items) (hx : items[i]? = some x) (hne : e ≠ it)
    (hQ : ∀ h', IsEnumOut h' e it ((i : Int) + 1) x s.heap.objs.size → h'.IsTupleIter it l (i + 1) → h'.get? s.heap.objs.size = some { cls := .type "tuple", data := .seq #[.int i s.toks, x] } →
      (∀ b o, b ≠ e → b ≠ it → s.heap.get? b = some o → h'.get? b = some o) → Q (some (.ref s.heap.objs.size)) { s with heap := h', toks := s.toks + 1 }) :
    wpAny (model prog w) A (pyNext (.ref e)) Q E s := by
  have hT : s.TypeIs (.ref e) "enumerate" := ⟨_, he, rfl⟩
  unfold pyNext
  refine wpAny_bind (wpAny_attempt (wpAny_callSpecial?_slot (name := Str.ofString "__next__") hT F.slot_enumerate_next (wpAny_call_entry F.slot_enumerate_next hT F.entry_enumerate_next ?_ (F.args_enumerate_next_1 _))))
  obtain ⟨hp, g, d, tk, os⟩ := s
  show wpAny _ _ (field (.ref e) 2 >>= _) _ _ _
  refine wpAny_bind (wpAny_field he rfl (x := .ref it) rfl (wpAny_bind (RZ.nextOf_tuple_item hit hl hx fun h1 a1 c1 => ?_)))
  have c1 : Heap.SameBut it hp h1 := c1
  have b1 : IsEnum h1 e it i old := (c1.2 e hne).trans he
  show wpAny _ _ (field (.ref e) 3 >>= _) _ _ ⟨h1, g, d, tk, os⟩
  refine wpAny_bind (wpAny_field b1 rfl (x := rawInt i) rfl ?_)
  show wpAny _ _ (field (.ref e) 4 >>= _) _ _ ⟨h1, g, d, tk, os⟩
  refine wpAny_bind (wpAny_field b1 rfl (x := .none) rfl ?_)
  show wpAny _ _ (mkInt i >>= _) _ _ ⟨h1, g, d, tk, os⟩
  refine wpAny_bind (wpAny_mkInt ?_)
  show wpAny _ _ (setField (.ref e) 3 (rawInt ((i : Int) + 1)) >>= _) _ _ ⟨h1, g, d, tk + 1, os⟩
  refine wpAny_bind (wpAny_setField_rec b1 (by simp) fun h2 b2 c2 => ?_)
  have b2 : IsEnum h2 e it ((i : Int) + 1) old := b2
  have c2 : Heap.SameBut e h1 h2 := c2
  show wpAny _ _ (setField (.ref e) 4 .none >>= _) _ _ ⟨h2, g, d, tk + 1, os⟩
  refine wpAny_bind (wpAny_setField_rec b2 (by simp) fun h3 b3 c3 => ?_)
  have b3 : IsEnum h3 e it ((i : Int) + 1) old := b3
  have c3 : Heap.SameBut e h2 h3 := c3
  show wpAny _ _ (newTuple [.int i tk, x] >>= _) _ _ ⟨h3, g, d, tk + 1, os⟩
  refine wpAny_bind (wpAny_newTuple ?_)
  have z3 : h3.objs.size = hp.objs.size := by rw [c3.1, c2.1, c1.1]
  have lt : e < hp.objs.size := Heap.lt_size he
  have b4 : IsEnum (h3.push { cls := .type "tuple", data := .seq #[.int i tk, x] }) e it ((i : Int) + 1) old := Heap.get?_push_of_some _ b3
  have t4 : (h3.push { cls := .type "tuple", data := .seq #[.int i tk, x] }).get? hp.objs.size = some { cls := .type "tuple", data := .seq #[.int i tk, x] } := by rw [← z3]; exact Heap.get?_push_size _ rfl
  have a4 : (h3.push { cls := .type "tuple", data := .seq #[.int i tk, x] }).IsTupleIter it l (i + 1) := by
    obtain ⟨o, ho, r⟩ := (a1.extBut c2.extBut (Ne.symm hne)).extBut c3.extBut (Ne.symm hne)
    exact ⟨o, Heap.get?_push_of_some _ ho, r⟩
  have k4 : ∀ b o, b ≠ e → b ≠ it → hp.get? b = some o → (h3.push { cls := .type "tuple", data := .seq #[.int i tk, x] }).get? b = some o := fun b o n1 n2 hb => Heap.get?_push_of_some _ (c3.extBut b o n1 (c2.extBut b o n1 (c1.extBut b o n2 hb)))
  revert b4 t4 a4 k4
  generalize h3.push { cls := .type "tuple", data := .seq #[.int i tk, x] } = h4
  intro b4 t4 a4 k4
  show wpAny _ _ (Builtin.SmallTypes.ownedTupleIsFree (.ref e) >>= _) _ _ ⟨h4, g, d, tk + 1, os⟩
  rw [z3]
  refine wpAny_bind ?_
  unfold Builtin.SmallTypes.ownedTupleIsFree
  refine wpAny_bind (wpAny_field b4 rfl (x := .none) rfl (wpAny_pure ?_))
  simp only [if_true]
  refine wpAny_bind (wpAny_rule (wpAny_bind (wpAny_field b4 rfl (x := old) rfl (wpAny_bind (wpAny_setField_rec b4 (by simp) fun h5 b5 c5 => ?_)))))
  have b5 : IsEnum h5 e it ((i : Int) + 1) x := b5
  have c5 : Heap.SameBut e h4 h5 := c5
  show wpAny _ _ (Builtin.SmallTypes.ownedTupleHandOut (.ref e) (.ref hp.objs.size) >>= _) _ _ ⟨h5, g, d, tk + 1, os⟩
  refine wpAny_bind ?_
  unfold Builtin.SmallTypes.ownedTupleHandOut
  refine wpAny_bind (wpAny_setField_rec b5 (by simp) fun h6 b6 c6 => ?_)
  have b6 : IsEnumOut h6 e it ((i : Int) + 1) x hp.objs.size := b6
  have c6 : Heap.SameBut e h5 h6 := c6
  refine wpAny_setField_rec b6 (by simp) fun h7 b7 c7 => ?_
  have b7 : IsEnumOut h7 e it ((i : Int) + 1) x hp.objs.size := b7
  have c7 : Heap.SameBut e h6 h7 := c7
  have up : ∀ b o, b ≠ e → h4.get? b = some o → h7.get? b = some o := fun b o n q => c7.extBut b o n (c6.extBut b o n (c5.extBut b o n q))
  exact wpAny_bind (wpAny_letGo (wpAny_pure ⟨_, rfl, wpAny_pure (hQ h7 b7 (((a4.extBut c5.extBut (Ne.symm hne)).extBut c6.extBut (Ne.symm hne)).extBut c7.extBut (Ne.symm hne)) (up _ _ (Nat.ne_of_gt lt) t4) fun b o n1 n2 q => up b o n1 (k4 b o n1 n2 q))⟩))
theorem entup_end {e it l : Addr} {i : Nat} {items : Array Value} {old : Value} {Q : Option Value → Shared → Prop} (hh : A.handled = none) (he : IsEnum s.heap e it i old) (hit : s.heap.IsTupleIter it l i) (hl : s.heap.IsTuple l items) (hx : items[i]? = none)
    (hQ : ∀ h', Heap.ExtBut it s.heap h' → Q none { s with heap := h' }) : wpAny (model prog w) A (pyNext (.ref e)) Q E s := by
  have hT : s.TypeIs (.ref e) "enumerate" := ⟨_, he, rfl⟩
  unfold pyNext
  refine wpAny_bind (wpAny_attempt (wpAny_callSpecial?_slot (name := Str.ofString "__next__") hT F.slot_enumerate_next (wpAny_call_entry F.slot_enumerate_next hT F.entry_enumerate_next ?_ (F.args_enumerate_next_1 _))))
  show wpAny _ _ (field (.ref e) 2 >>= _) _ _ _
  refine wpAny_bind (wpAny_field he rfl (x := .ref it) rfl (wpAny_bind (RZ.nextOf_tuple_end hh hit hl hx fun h1 x k1 ⟨o, ho, hc⟩ => ?_)))
  exact wpAny_bind (wpAny_isInstance (T := "StopIteration") (b := true) ⟨o, ho, hc⟩ isSubtype_stop (wpAny_pure (hQ _ k1)))
abbrev etH1 (h : Heap) (l : Addr) : Heap := h.push { cls := .type "tuple_iterator", data := .fields #[.ref l, .int 0 0] }
abbrev etH2 (h : Heap) (l : Addr) : Heap := (etH1 h l).push { cls := .type "enumerate", data := .fields #[.none, .bool false, .ref h.objs.size, rawInt 0, .none, .none] }
theorem meets_entup (l : Addr) (items : Array Value) (n : Nat) (dct : Option Addr) (sl : Array (Option Value)) :
    PySem.Meets (Builtin.«enumerate.__new__» ⟨[.type "enumerate", .ref l], []⟩) (fun _ R s => s.heap.get? l = some { cls := .type "tuple", dict := dct, data := .seq items n, slots := sl } ∧ R (.ok (.ret (.ref (etH1 s.heap l).objs.size))) { s with heap := etH2 s.heap l }) :=
  .of_wp fun prog w A R s h => by
    obtain ⟨hp, g, d, tk, os⟩ := s; obtain ⟨hl, h⟩ := h
    have hsub := sub_enumerate
    have hL : Heap.IsTuple (Shared.heap ⟨hp, g, d, tk, os⟩) l items := ⟨_, hl, rfl, n, rfl⟩
    wp_walk using AutoSeq1.wpAny_loadPart' hl
    refine wpAny_stack_any fun st => wpAny_pure ?_
    split
    · rename_i c _ _ _ _ _
      cases (c == Value.type "enumerate") <;> (wp_walk using AutoSeq1.wpAny_loadPart' hl, wpAny_pyIter_tuple hL; exact ⟨_, rfl, h⟩)
    · wp_walk using AutoSeq1.wpAny_loadPart' hl, wpAny_pyIter_tuple hL
      exact ⟨_, rfl, h⟩
theorem call_entup {l : Addr} {items : Array Value} {Q : Value → Shared → Prop} (hL : s.heap.IsTuple l items)
    (h : ∀ h', IsEnum h' (s.heap.objs.size + 1) s.heap.objs.size 0 .none → h'.IsTupleIter s.heap.objs.size l 0 → (∀ b o, s.heap.get? b = some o → h'.get? b = some o) → Q (.ref (s.heap.objs.size + 1)) { s with heap := h' }) :
    wpAny (model prog w) A (call (.type "enumerate") [.ref l]) Q E s := by
  obtain ⟨⟨c, dct, dt, sl⟩, hl, hc, n, hd⟩ := hL
  have hc : c = .type "tuple" := hc
  have hd : dt = .seq items n := hd
  subst hc hd
  refine callType_new F.called_enumerate (by decide) (F.typeCall_enumerate_1 _) (F.newCall_enumerate_1 _) (fun obj => F.args_object_init_2 obj _) F.entry_enumerate_new (meets_entup l items n dct sl) ⟨hl, ?_⟩
  have hz : (etH1 s.heap l).objs.size = s.heap.objs.size + 1 := Heap.size_push ..
  have ge : (etH2 s.heap l).get? (etH1 s.heap l).objs.size = some _ := Heap.get?_push_size _ rfl
  show _ ∧ _
  rw [hz] at ge ⊢
  exact ⟨⟨_, ge, rfl⟩, h _ ge ⟨_, Heap.get?_push_of_some _ (Heap.get?_push_size _ rfl), rfl, rfl⟩ fun b o x => Heap.get?_push_of_some _ (Heap.get?_push_of_some _ x)⟩
end
/-- the tuple at a, each item in a new pair -/
def ItE (K : PySem.W.Frag) (a : Addr) : It :=
  ⟨fun i H => ∃ (xs : List V) (x : V), SqT K H a xs ∧ xs[i]? = some x, fun i H v H' => ∃ T x, v = .ref T ∧ H T = none ∧ H' = upd H T (.tup [.int (i : Nat), x]) ∧ ∀ xs, SqT K H a xs → xs[i]? = some x, fun i H => ∃ xs : List V, SqT K H a xs ∧ xs.length ≤ i⟩
theorem turn_entup {P : Program} {w : World} {K : PySem.W.Frag} {elts : List Expr} {kk : Nat} {tpos : Pos} (a e it : Addr) :
    Turn P w K (.Tuple elts kk tpos) (ItE K a) [e, it] e (fun i h => (∃ old, IsEnum h e it ((i : Nat) : Int) old) ∧ h.IsTupleIter it a i ∧ e ≠ it) where
  mem := List.mem_cons_self
  obj := fun i h ⟨⟨old, he⟩, ⟨o, ho, hc, hd⟩, _⟩ b hb => by
    rcases List.mem_cons.mp hb with z | z
    · exact z ▸ ⟨_, he, fun v q => nomatch q⟩
    · rw [List.mem_singleton] at z
      exact z ▸ ⟨o, ho, fun v q => by rw [hd] at q; cases q⟩
  keep := fun i h h' ⟨⟨old, he⟩, hi, hne⟩ k => ⟨⟨old, k e (by simp) _ he⟩, hi.at fun o q => k it (by simp) o q, hne⟩
  item := by
    intro X hP hw hK hc i pins s σ H E I hf st hg
    subst hP hw hK
    obtain ⟨⟨old, he⟩, hit, hne⟩ := st
    obtain ⟨xs, x, hq, hx⟩ := hg
    obtain ⟨its, rv, p, hz⟩ := I.tuple hq
    obtain ⟨u, hu, ru⟩ := rv.get hx
    have lt : e < s.heap.objs.size := Heap.lt_size he
    have lt2 : it < s.heap.objs.size := by obtain ⟨_, q, _⟩ := hit; exact Heap.lt_size q
    refine entup_turn he hit (show s.heap.IsTuple a its.toArray from p) (x := u) (by simpa using hu) hne fun h' ho hit' hT hk => ⟨_, rfl, ?_⟩
    refine wpAny_letOwnedTupleGo_enum (s := { s with heap := h', toks := s.toks + 1 }) ho fun h'' he' sb => ?_
    have hT2 := (sb.2 _ (Nat.ne_of_gt lt)).trans hT
    refine ⟨.ref s.heap.objs.size, upd H s.heap.objs.size (.tup [.int (i : Nat), x]), I.turnedNew (ch := [e, it]) (fun b ob hb q => (sb.2 b (fun z => hb (by simp [z]))).trans (hk b ob (fun z => hb (by simp [z])) (fun z => hb (by simp [z])) q)) hf (Nat.le_refl _) ?_, rfl, ?_, ?_, ?_⟩
    · exact ⟨by show 2 ≤ sizeLine; decide, [.int i s.toks, u], .cons ⟨_, rfl⟩ (.cons ru .nil), ⟨_, hT2, rfl, _, rfl⟩⟩
    · refine ⟨_, x, rfl, I.hok.fresh (Nat.le_refl _), rfl, fun ys hy => ?_⟩
      rw [I.tuple_inj hy hq]; exact hx
    · refine ⟨⟨u, ?_⟩, hit'.at fun o q => (sb.2 it (Ne.symm hne)).trans q, hne⟩
      rw [show ((i + 1 : Nat) : Int) = (i : Int) + 1 by omega]; exact he'
    · intro b hb
      have : b < s.heap.objs.size := by
        rcases List.mem_cons.mp hb with z | z
        · rw [z]; exact lt
        · rw [List.mem_singleton.mp z]; exact lt2
      rw [upd_ne (Nat.ne_of_lt this)]
      exact (hf b hb).1
  done := by
    intro X hP hw hK hc i pins s σ H E I hf st hg
    subst hP hw hK
    obtain ⟨⟨old, he⟩, hit, hne⟩ := st
    obtain ⟨xs, hq, hx⟩ := hg
    obtain ⟨its, rv, p, hz⟩ := I.tuple hq
    obtain ⟨f0, f1, f2, f3, f4, f5⟩ := hf it (by simp)
    have hl := rv.length
    exact entup_end (I.ok.hd hc) he hit (show s.heap.IsTuple a its.toArray from p) (by simp; omega) fun h' eb => ⟨rfl, I.turned (t' := s.toks) (fun b o hb q => eb b o hb q) f0 f1 f3 f4 f5⟩
  self := fun A i s Q E ⟨⟨_, he⟩, _⟩ h => wpAny_pyIter_enum he h
section
variable {X : Cx} {F : Fm} {e a b c tg iter : Expr} {es : List Expr} {pos p tpos : Pos} {elts : List Expr} {kk : Nat}
/-- enumerate of a list or a tuple -/
theorem pi_enumA {te : TE} (hg : Gl X "enumerate") (hm : X.mg "enumerate" = none) (ha : PE X e te) (hs : starEach [e] X.env = (false, eval e X.env) :: starEach [] X.env := by rfl) :
    PI X (.Tuple elts kk tpos) (.Call (.Name "enumerate" p) [e] [] pos) (fun σ H R => te σ H fun x H1 => (∃ a xs, x = .ref a ∧ SqL X.K H1 a xs ∧ R (Ite X.K a) H1) ∨ (∃ a xs, x = .ref a ∧ SqT X.K H1 a xs ∧ R (ItE X.K a) H1)) := by
  refine ⟨fun pins s σ H R I h => ?_⟩
  refine Call_ (ld_blt I hg hm boot_enumerate (PyProof.Rows.callWith_type1 (args_cons (thn (ha.run pins s σ H _ I h) fun v s1 ⟨x, H1, I1, r1, q1⟩ => args_nil ?_) hs) hs))
  have two : ∀ c, c ∈ [s1.heap.objs.size + 1, s1.heap.objs.size] → FpOk X pins H1 c := fun c hc => by
    have le : s1.heap.objs.size ≤ c := by
      rcases List.mem_cons.mp hc with z | z
      · rw [z]; exact Nat.le_add_right _ _
      · rw [List.mem_singleton.mp z]; exact Nat.le_refl _
    exact I1.fpOk le (I1.hok.fresh le)
  rcases q1 with ⟨a, xs, rfl, hq, q⟩ | ⟨a, xs, rfl, hq, q⟩
  · cases r1
    obtain ⟨its, rv, p', hz⟩ := I1.list hq
    exact call_enumerate_list p'.isList fun h' he hit hsz hk => wpAny_pyIter_enum he ⟨s1.heap.objs.size + 1, _, _, _, H1, rfl, I1.kept (t' := s1.toks) hk, turn_enum a (s1.heap.objs.size + 1) s1.heap.objs.size, ⟨⟨.none, he⟩, hit, Nat.succ_ne_self _⟩, two, q⟩
  · cases r1
    obtain ⟨its, rv, p', hz⟩ := I1.tuple hq
    exact call_entup (show s1.heap.IsTuple a its.toArray from p') fun h' he hit hk => wpAny_pyIter_enum he ⟨s1.heap.objs.size + 1, _, _, _, H1, rfl, I1.kept (t' := s1.toks) hk, turn_entup a (s1.heap.objs.size + 1) s1.heap.objs.size, ⟨⟨.none, he⟩, hit, Nat.succ_ne_self _⟩, two, q⟩
def enD : Nat → List D → List D
  | _, [] => []
  | k, d :: ds => .tup [.int k, d] :: enD (k + 1) ds
theorem enD_get : ∀ (ds : List D) (k i : Nat) (d : D), ds[i]? = some d → (enD k ds)[i]? = some (.tup [.int ((k + i : Nat)), d])
  | [], _, _, _, h => by simp at h
  | x :: ds, k, 0, d, h => by simp at h; subst h; rfl
  | x :: ds, k, i + 1, d, h => by
    simp at h
    have := enD_get ds (k + 1) i d h
    rw [enD, List.getElem?_cons_succ, this]
    congr 4
    omega
theorem enD_length : ∀ (ds : List D) (k : Nat), (enD k ds).length = ds.length
  | [], _ => rfl
  | x :: ds, k => by rw [enD, List.length_cons, enD_length ds (k + 1), List.length_cons]
theorem same_free {Hf : Hp} {T : Addr} {o : HO} (hT : Hf T = none) : Same Hf (upd Hf T o) := fun b u e => by rw [upd_ne (ne_of_none e hT)]; exact e
theorem rep_pair {K : PySem.W.Frag} {Hf : Hp} {T : Addr} {v x : V} {c d : D} (hT : Hf T = none) (r0 : Rep K Hf v c) (r : Rep K Hf x d) : Rep K (upd Hf T (.tup [v, x])) (.ref T) (.tup [c, d]) :=
  .tup (.inl (.inl upd_same)) (.cons (r0.mono (same_free hT)) (.cons (r.mono (same_free hT)) .nil))
theorem wd_enL {K : PySem.W.Frag} {Hf0 : Hp} {a : Addr} {vs : List V} {ds : List D} (h : SqL K Hf0 a vs) (r : Reps K Hf0 vs ds) : WalkD K (Ite K a) Hf0 (enD 0 ds) := by
  have hl := r.length
  refine ⟨fun i Hf H hi s1 s2 => ?_, fun Hf H s1 s2 => ⟨vs, s2.seq (s1.seq h), by rw [enD_length]; omega⟩, fun i Hf H x H' hi s1 s2 y => ?_⟩
  · rw [enD_length] at hi
    exact ⟨vs, vs[i]'(by omega), s2.seq (s1.seq h), List.getElem?_eq_getElem _⟩
  · obtain ⟨T, u, rfl, hT, rfl, hx⟩ := y
    obtain ⟨d, g1, g2⟩ := (r.mono s1).get (hx vs (s2.seq (s1.seq h)))
    exact ⟨_, enD_get ds 0 i d g1, .inr ⟨T, _, hT, rfl, by rw [Nat.zero_add]; exact rep_pair (s2.free hT) (.int _) g2⟩⟩
theorem wd_enT {K : PySem.W.Frag} {Hf0 : Hp} {a : Addr} {vs : List V} {ds : List D} (h : SqT K Hf0 a vs) (r : Reps K Hf0 vs ds) : WalkD K (ItE K a) Hf0 (enD 0 ds) := by
  have hl := r.length
  refine ⟨fun i Hf H hi s1 s2 => ?_, fun Hf H s1 s2 => ⟨vs, seqT s2 (seqT s1 h), by rw [enD_length]; omega⟩, fun i Hf H x H' hi s1 s2 y => ?_⟩
  · rw [enD_length] at hi
    exact ⟨vs, vs[i]'(by omega), seqT s2 (seqT s1 h), List.getElem?_eq_getElem _⟩
  · obtain ⟨T, u, rfl, hT, rfl, hx⟩ := y
    obtain ⟨d, g1, g2⟩ := (r.mono s1).get (hx vs (seqT s2 (seqT s1 h)))
    exact ⟨_, enD_get ds 0 i d g1, .inr ⟨T, _, hT, rfl, by rw [Nat.zero_add]; exact rep_pair (s2.free hT) (.int _) g2⟩⟩
def wiEnum (t : WE) : WI := fun δ P => t δ fun d δ1 => ∃ ds, sq d = some ds ∧ P (enD 0 ds) δ1
theorem di_enum {t : WE} (hg : Gl X "enumerate") (hm : X.mg "enumerate" = none) (ha : DE X F e t) (hs : starEach [e] X.env = (false, eval e X.env) :: starEach [] X.env := by rfl) :
    DI X F (.Tuple elts kk tpos) (.Call (.Name "enumerate" p) [e] [] pos) (wiEnum t) :=
  PI.imp (pi_enumA hg hm ha hs) fun σ H R' ⟨Hf, δ, P, R, q, k⟩ => ⟨Hf, δ, _, R, q, fun d δ1 ⟨ds, e, p⟩ Hf1 H1 v s1 R1 r1 => by
    cases r1 with
    | tup h r => simp only [sq] at e; cases e; exact .inr ⟨_, _, rfl, seqT R1.sub h, k _ δ1 p Hf1 H1 _ s1 R1 (wd_enT h r)⟩
    | lst h r => simp only [sq] at e; cases e; exact .inl ⟨_, _, rfl, R1.sub.seq (SqL.of h), k _ δ1 p Hf1 H1 _ s1 R1 (wd_enL (SqL.of h) r)⟩
    | row h r => simp only [sq] at e; cases e; exact .inl ⟨_, _, rfl, R1.sub.seq h, k _ δ1 p Hf1 H1 _ s1 R1 (wd_enL h r)⟩
    | _ => simp only [sq] at e; cases e⟩
/-! ### tuple(range(n)) -/
def wTupR (t : WE) : WE := fun δ P => t δ fun x δ1 => ∃ j : Int, x = .int j ∧ (0 ≤ j ∧ j ≤ 1000) ∧ P (.tup (rngD 0 j.toNat)) δ1
theorem reps_rg {K : PySem.W.Frag} {H : Hp} {j : Int} : Reps K H (rgV 0 j) (rngD 0 j.toNat) := by
  have e : j - 0 = j := by omega
  unfold rgV rngD
  rw [e]
  have := reps_ints (K := K) (H := H) (ns := (List.range j.toNat).map fun i : Nat => (0 : Int) + (i : Int))
  rwa [List.map_map, List.map_map] at this
theorem d_tupR {q rp : Pos} {t : WE} (hc : X.calm = true) (hg : Gl X "tuple") (hm : X.mg "tuple" = none) (hgr : Gl X "range") (hmr : X.mg "range" = none) (ha : DE X F a t) (na : starEach [a] X.env = (false, eval a X.env) :: starEach [] X.env := by rfl)
    (nr : starEach [(.Call (.Name "range" p) [a] [] rp : Expr)] X.env = (false, eval (.Call (.Name "range" p) [a] [] rp) X.env) :: starEach [] X.env := by rfl) :
    DE X F (.Call (.Name "tuple" q) [.Call (.Name "range" p) [a] [] rp] [] pos) (wTupR t) :=
  PE.imp (pe_tupRg hc hg hm (prg_1 hgr hmr ha na) nr) fun σ H Q ⟨Hf, δ, P, R, h, k⟩ => ⟨Hf, δ, _, R, h, fun x δ1 ⟨j, e, ⟨h1, h2⟩, p⟩ Hf1 H1 v s1 R1 r1 => by
    subst e; cases r1
    exact ⟨j, rfl, RgOk.of_le (by decide) (by omega) (by decide) h1, fun w hw => k _ δ1 p _ _ _ (s1.trans (R1.same_new hw)) (R1.new hw) (.tup (.inl (.inl upd_same)) reps_rg)⟩⟩
end
end DT
end
section
set_option maxHeartbeats 4000000
namespace DT
open PySem PySem.Spec PyProof.Rows L2
/-! ### sorted(set(..)) of a list of ints -/
section
variable {P : Program} {w : World} {A : Around} {E : Value → Shared → Prop} {s : Shared}
/-- an empty set at the heap's end -/
abbrev emptyS (w : World) : Obj := { cls := .type "set", dict := none, data := .set #[] 0 (.fresh 0 0 (!w.params.followText "set-order")) }
abbrev stH (w : World) (h : Heap) : Heap := h.push (emptyS w)
def Filled (w : World) (s : Shared) (ns : List Int) (s2 : Shared) : Prop :=
  ∃ h' tk c, s2 = { s with heap := h', toks := tk } ∧ SetR w h' s.heap.objs.size (fun j => decide (j ∈ ns)) c ∧ c ≤ ns.length ∧ (∀ b o, s.heap.get? b = some o → h'.get? b = some o)
/-- what set.__init__ of a list does -/
theorem set_fill {l : Addr} {items : Array Value} (ns : List Int) (hh : A.handled = none) (hl : s.heap.IsList l items) (hit : IntsAre items.toList ns) (hb : ns.length + 1 < scanBound) :
    wpAny (model P w) A (Builtin.«set.__init__» ⟨[.ref s.heap.objs.size, .ref l], []⟩) (fun fin s2 => fin = .done (.ret .none) ∧ Filled w s ns s2) E { s with heap := stH w s.heap } := by
  have len : items.size = ns.length := by rw [← Array.length_toList]; exact IntsAre.length hit
  obtain ⟨⟨oc, od, odt, os⟩, hol, hcl, nl, hdl⟩ := id hl
  have hcl : oc = .type "list" := hcl
  have hdl : odt = .seq items nl := hdl
  subst hcl hdl
  have lt : l < s.heap.objs.size := Heap.lt_size hol
  have nn : (stH w s.heap).objs.size = s.heap.objs.size + 1 := Heap.size_push ..
  have hS : (stH w s.heap).get? s.heap.objs.size = some (emptyS w) := Heap.get?_push_size _ rfl
  have hol' : (stH w s.heap).get? l = some { cls := .type "list", dict := od, data := .seq items nl, slots := os } := Heap.get?_push_of_some _ hol
  have hT : Shared.TypeIs { s with heap := stH w s.heap } (.ref s.heap.objs.size) "set" := ⟨_, hS, rfl⟩
  have n1 := F.sub_list_set
  have n2 := F.sub_list_frozenset
  have n3 : (Value.type "list" == Value.type "dict") = false := by decide
  have hl1 : (stH w s.heap).IsList l items := ⟨_, hol', rfl, nl, rfl⟩
  unfold Builtin.«set.__init__» noKeywords Builtin.Frozenset.updateFrom
  generalize gp : pyIter = PI
  wp_walk
  subst gp
  refine wpAny_pyIter_list hl1 (wpAny_bind (wpAny_runValue ?_))
  have a1 : l ≠ (stH w s.heap).objs.size := by rw [nn]; exact Nat.ne_of_lt (Nat.lt_succ_of_lt lt)
  have a2 : s.heap.objs.size ∉ [(stH w s.heap).objs.size, l] := by
    rw [nn]; simp only [List.mem_cons, List.not_mem_nil, or_false, not_or]
    exact ⟨Nat.ne_of_lt (Nat.lt_succ_self _), Nat.ne_of_gt lt⟩
  have vals : ∀ (i : Nat) (v : Value), items[i]? = some v → ∃ k t, ns[i]? = some k ∧ v = .int k t := fun i v hv => by
    have lti : i < ns.length := by rw [← len]; exact (Array.getElem?_eq_some_iff.mp hv).1
    obtain ⟨t, e⟩ := IntsAre.int_at hit i v (by rw [Array.getElem?_toList]; exact hv)
    rw [List.getD_eq_getElem?_getD, List.getElem?_eq_getElem lti] at e
    exact ⟨ns[i], t, List.getElem?_eq_getElem lti, e⟩
  refine set_update_ints ((Walks.list (by simp [hh]) _ l a1 items).toS) s.heap.objs.size a2 ns len hb vals (items.size - 0) 0 _ (by omega) (Nat.zero_le _) ⟨⟨_, Heap.get?_push_size _ rfl, rfl, rfl⟩, hl1.push _⟩ ⟨0, Nat.le_refl 0, setR_new_at (Heap.get?_push_of_some _ hS)⟩ ?_
  intro s' c' hm hc' hS'
  obtain ⟨h', g2, d', tk', os'⟩ := s'
  have e1 : g2 = s.gens := hm.gens
  have e2 : d' = s.drawn := hm.drawn
  have e3 : os' = s.os := hm.os
  subst e1 e2 e3
  rw [len] at hc'
  refine wpAny_pure (wpAny_pure ⟨rfl, h', tk', c', rfl, hS', hc', fun b o e => ?_⟩)
  have b1 : b < s.heap.objs.size := Heap.lt_size e
  refine hm.heap b o ?_ (Heap.get?_push_of_some _ (Heap.get?_push_of_some _ e))
  rw [nn]
  simp only [List.mem_cons, List.not_mem_nil, or_false, not_or]
  exact ⟨Nat.ne_of_lt b1, Nat.ne_of_lt (Nat.lt_succ_of_lt b1)⟩
/-- set(xs), xs a list of ints -/
theorem call_setL {l : Addr} {items : Array Value} (ns : List Int) {Q : Value → Shared → Prop} (hh : A.handled = none) (hl : s.heap.IsList l items) (hit : IntsAre items.toList ns) (hb : ns.length + 1 < scanBound)
    (h : ∀ s2, Filled w s ns s2 → Q (.ref s.heap.objs.size) s2) : wpAny (model P w) A (call (.type "set") [.ref l]) Q E s := by
  obtain ⟨c, tl, hmro⟩ := F.called_set.mro
  have m1 := F.called_set.made
  have m2 := F.called_set.sub
  have m3 := F.called_set.notType
  have m4 := F.called_set.canCreate
  have m5 := F.typeCall_set_1 (.ref l)
  refine wpAny_call (codeAny_of_tree (wpAny_pure ⟨Code.quiet_builtin _ (by decide +kernel), codeAny_builtin F.entry_type_call ?_⟩))
  rw [Around.under_plain (weight_type_call_type "set" [.ref l] []) rfl]
  repeat (any_goals (first | assumption | wp_step))
  refine codeAny_mono (code_set_led1 (.ref l) (E := E) (Q₁ := fun obj s1 => obj = .ref s.heap.objs.size ∧ s1 = { s with heap := stH w s.heap }) ⟨rfl, rfl⟩) fun r s1 hr => ?_
  rcases r with e | fl
  · exact hr
  cases fl with
  | ret obj =>
    obtain ⟨rfl, rfl⟩ := hr
    have hT : Shared.TypeIs { s with heap := stH w s.heap } (.ref s.heap.objs.size) "set" := ⟨_, Heap.get?_push_size _ rfl, rfl⟩
    have i1 := F.called_set.init.lookup
    have i2 := F.called_set.init.bind (.ref s.heap.objs.size)
    repeat (any_goals (first | assumption | wp_step))
    refine codeAny_mono (codeAny_call_builtin (R := wants (fun r s2 => r = .none ∧ Filled w s ns s2) E) F.called_set.init.plain F.entry_set_init (check_set_init_1 hT ?_)) fun r2 s2 hr2 => ?_
    · exact wpAny_mono (set_fill (A := A.in1.in1) ns (by simp [hh]) hl hit hb) (fun fin s' ⟨e, hf⟩ => by subst e; exact ⟨rfl, hf⟩) fun e s' x => x
    · rcases r2 with e | fl2
      · exact hr2
      cases fl2 with
      | ret r =>
        obtain ⟨rfl, hf⟩ := hr2
        repeat (any_goals (first | assumption | wp_step))
        exact h _ hf
      | _ => exact hr2.elim
  | _ => exact hr.elim
end
/-- the members of a set, ascending -/
def IsAsc (ns ms : List Int) : Prop := ms.Pairwise (· < ·) ∧ ∀ k, k ∈ ms ↔ k ∈ ns
def gSrtSet : D → (List D → Prop) → Prop := fun x P => ∃ ns : List Int, x = .lst (ns.map .int) ∧ ns.length < 64 ∧ ∀ ms, IsAsc ns ms → P (ms.map .int)
section
variable {X : Cx} {F : Fm} {a : Expr} {pos p : Pos} {ta : TE}
/-- sorted(set(xs)) of a list of fewer than 64 ints -/
def tSrtSet (K : PySem.W.Frag) (ta : TE) : TE := fun σ H Q => ta σ H fun x H1 => ∃ (l : Addr) (ns : List Int), x = .ref l ∧ SqL K H1 l (ns.map V.int) ∧ ns.length < 64 ∧ ∀ ms q, IsAsc ns ms → H1 q = none → Q (.ref q) (upd H1 q (.lst (ms.map V.int)))
theorem pe_srtSetL {q p2 : Pos} (hc : X.calm = true) (hg : Gl X "sorted") (hm : X.mg "sorted" = none) (hg2 : Gl X "set") (hm2 : X.mg "set" = none) (ha : PE X a ta)
    (na : starEach [a] X.env = (false, eval a X.env) :: starEach [] X.env := by rfl) : PE X (.Call (.Name "sorted" p) [.Call (.Name "set" p2) [a] [] q] [] pos) (tSrtSet X.K ta) := by
  refine ⟨fun pins s σ H Q I h => ?_⟩
  refine Call_ (ld_blt I hg hm boot_sorted ?_)
  refine PyProof.Rows.callWith_builtin1 (PyProof.Rows.args_cons ?_ rfl) rfl rfl
  refine Call_ (ld_blt I hg2 hm2 boot_set ?_)
  refine PyProof.Rows.callWith_type1 (PyProof.Rows.args_cons (thn (ha.run pins s σ H _ I h) fun v s1 ⟨x, H1, I1, r1, q1⟩ => PyProof.Rows.args_nil ?_) na) na rfl
  obtain ⟨l, ns, rfl, hq, hl, q1⟩ := q1
  cases r1
  obtain ⟨its, r, pl, hz⟩ := I1.list hq
  have hd := I1.ok.hd hc
  refine call_setL ns hd pl.isList (by simpa using r.ints) (by unfold scanBound; omega) fun s2 ⟨h', tk, c, e, R, hc', k⟩ => PyProof.Rows.args_nil ?_
  have I2 : Inv X pins σ H1 s2 := by rw [e]; exact I1.kept k
  have R : SetR X.w s2.heap s1.heap.objs.size (fun j => decide (j ∈ ns)) c := by rw [e]; exact R
  clear e
  refine sorted_set R hd (by omega) fun s' p out c ns' k' g o hp hg' hi hs hmm hl' => ?_
  have hn : H1 p = none := I2.hok.fresh hp
  have hlen : (ns'.map V.int).length ≤ sizeLine := by rw [List.length_map, hl', sizeLine_eq]; omega
  have J : Inv X pins σ (upd H1 p (.lst (ns'.map V.int))) { s2 with heap := s'.heap, gens := s'.gens, drawn := s'.drawn, toks := s'.toks } :=
    I2.call (ch := []) (Un.laid k' hp hn) (I2.hok.laid k' hp ⟨hlen, out.toList, c, vals_of_ints hi, hg'⟩) (by rw [g]; exact I2.bare) (fun _ z => nomatch z)
  have e : s' = { s2 with heap := s'.heap, gens := s'.gens, drawn := s'.drawn, toks := s'.toks } := by
    cases s'; cases s2; cases o; rfl
  rw [e]
  exact ⟨.ref p, _, J, rfl, q1 ns' p ⟨hs, fun k => by rw [hmm k, decide_eq_true_eq]⟩ hn⟩
theorem d_srtSet {q p2 : Pos} {ta : WE} (hc : X.calm = true) (hg : Gl X "sorted") (hm : X.mg "sorted" = none) (hg2 : Gl X "set") (hm2 : X.mg "set" = none) (ha : DP X F a ta)
    (na : starEach [a] X.env = (false, eval a X.env) :: starEach [] X.env := by rfl) : DN X F (.Call (.Name "sorted" p) [.Call (.Name "set" p2) [a] [] q] [] pos) (wC1N gSrtSet ta) :=
  PE.imp (pe_srtSetL hc hg hm hg2 hm2 ha na) fun σ H Q ⟨Hf, δ, P, R, h, k⟩ => ⟨Hf, δ, _, R, h, fun x δ1 ⟨ns, e, hl, h1⟩ Hf1 H1 v s1 R1 r1 => by
    subst e
    obtain ⟨l, rfl, hq⟩ := PRep.lints R1 r1
    exact ⟨l, ns, rfl, hq, hl, fun ms q hm hn => k _ δ1 (h1 ms hm) Hf1 _ q s1 (R1.newN hn reps_ints).1 (R1.newN hn reps_ints).2⟩⟩
end
end DT
end
section
set_option maxHeartbeats 4000000
namespace DT
open PySem PySem.Spec PyProof.Rows L2
/-! ### != of instances with an own __eq__ and no own __ne__ -/
section
variable {P : Program} {w : World} {A : Around} {E : Value → Shared → Prop} {s : Shared} {K : PySem.W.Frag} {x y C f : Addr} {ox : Obj} {od : Option Obj}
theorem ne_bound {M : Model} {args : List Value} {Q : Option Value → Shared → Prop} (X : K.In s.heap) (I : PySem.W.InstAt s.heap x ox C od) (hs : PySem.W.findIn K (.ref C) "__ne__" = some (some (.builtin "object.__ne__")))
    (h : wpAny M A (call (.builtin "object.__ne__") (.ref x :: args)) (fun v => Q (some v)) E s) : wpAny M A (callSpecialIfBound? (.ref x) "__ne__" args) Q E s := by
  have last : wpAny M A (call (.builtin "object.__ne__") ([.ref x] ++ args) >>= fun v => pure (some v)) Q E s := wpAny_bind (wpAny_mono h (fun v s' h' => wpAny_pure h') fun _ _ h' => h')
  simp only [callSpecialIfBound?, bindSpecialIfBound?]
  refine wpAny_holding (wpAny_bind (wpAny_bind (wpAny_bind (I.type.here ((PySem.W.looks_findIn X hs).here (wpAny_bind (wpAny_askSetting (wpAny_ite ?_))))))))
  split
  · exact wpAny_bind (wpAny_of_eq (F.cmp_object.ne.bind _) (wpAny_pure (by exact last)))
  · exact wpAny_tryCatch (wpAny_bind (wpAny_of_eq (F.cmp_object.ne.bind _) (wpAny_pure (by exact last))))
theorem ne_entry {Q : Fin → Shared → Prop} (X : K.In s.heap) (I : PySem.W.InstAt s.heap x ox C od) (hs : PySem.W.findIn K (.ref C) "__eq__" = some (some (.ref f))) (hf : PySem.W.isFn K (.ref f) = true) (hu : A.units < cLine)
    (h : wpAny (model P w) A (call (.ref f) [.ref x, .ref y]) (fun v s' => ∃ b, v = .bool b ∧ Q (.done (.ret (.bool (!b)))) s') E s) : wpAny (model P w) A (Builtin.«object.__ne__» ⟨[.ref x, .ref y], []⟩) Q E s := by
  unfold Builtin.«object.__ne__»
  have step := PySem.W.ifBound_K (M := model P w) (A := A) (E := E) (args := [.ref y]) (Q := fun r s' => ∃ b, r = some (.bool b) ∧ Q (.done (.ret (.bool (!b)))) s') X I hs hf (wpAny_mono h (fun v s' ⟨b, e, q⟩ => ⟨b, by rw [e], q⟩) fun _ _ e => e)
  repeat (first
    | with_reducible refine wpAny_cRoomFor hu ?_
    | (refine wpAny_bind (m := callSpecialIfBound? (.ref x) (Str.ofString "__eq__") [.ref y]) (wpAny_mono step (fun r s' z => ?_) fun _ _ e => e); obtain ⟨b, rfl, q⟩ := z)
    | exact q | exact wpAny_pure q | exact wpAny_truthy_bool q | (refine wpAny_bind (m := truthy (.bool _)) (wpAny_truthy_bool ?_))
    | wp_step)
theorem rc_ne {Q : Value → Shared → Prop} {tb : Value} {b' : Addr} (hu : A.units + 1 < cLine) (X : K.In s.heap) (I : PySem.W.InstAt s.heap x ox C od) (hb : PySem.W.Looks (model P w) s.heap (typeOf (.ref y)) (.ref C))
    (hs : PySem.W.findIn K (.ref C) "__ne__" = some (some (.builtin "object.__ne__"))) (hm : PySem.W.mroIn K C (.type "object") = some true) (he : PySem.W.findIn K (.ref C) "__eq__" = some (some (.ref f))) (hf : PySem.W.isFn K (.ref f) = true)
    (h : wpAny (model P w) A.in1 (call (.ref f) [.ref x, .ref y]) (fun v s' => ∃ b, v = .bool b ∧ Q (.bool (!b)) s') E s) : wpAny (model P w) A (richCompare .NotEq (.ref x) (.ref y)) Q E s := by
  have one : wpAny (model P w) A (tryCompare (.ref x) "__ne__" (.ref y)) (fun r s' => ∃ b, r = some (.bool b) ∧ Q (.bool b) s') E s := by
    unfold tryCompare
    refine wpAny_bind (ne_bound X I hs (wpAny_call (codeAny_call_builtin F.cmp_object.ne.plain F.cmpEntry_ne (PySem.W.check_slot F.cmpKind_ne F.cmpSplit_ne (I.type.andThen (PySem.W.looks_mroIn X hm)) (F.cmpArgs_ne _ _)
      (ne_entry (A := A.in1) X I he hf hu (wpAny_mono h (fun v s' hv => ?_) fun _ _ e => e))))))
    obtain ⟨b, rfl, q⟩ := hv
    first | exact ⟨b, rfl, wpAny_pure ⟨_, rfl, q⟩⟩ | exact ⟨b, rfl, wpAny_pure (wpAny_pure ⟨_, rfl, q⟩)⟩
  simp only [richCompare, cmpInfo_NotEq, oneThing_ref]
  refine wpAny_holding (wpAny_bind (wpAny_cRoomFor (Nat.lt_of_succ_lt hu) ?_))
  refine wpAny_bind (I.type.here (wpAny_bind (hb.here ?_)))
  rw [show (Value.ref C != Value.ref C) = false from by simp]
  simp only [Bool.false_eq_true, if_false]
  refine wpAny_bind (wpAny_pure ?_)
  simp only [Bool.false_eq_true, if_false]
  refine wpAny_bind (wpAny_mono one (fun r s' z => ?_) fun _ _ e => e)
  obtain ⟨b, rfl, q⟩ := z
  first | exact wpAny_pure q | exact q
end
section
variable {X : Cx} {F : Fm} {a b : Expr} {pos : Pos} {ta tb : WE} {j k n : Nat} {C : Addr}
structure NeC (P : Program) (w : World) (K : PySem.W.Frag) (mg : Str → Option Value) (base : Heap) (C : Addr) (k : Nat) (sp : Sp) : Prop where
  ex : ∃ (g : Addr) (fd : FuncData) (ps : List Str), PySem.W.findIn K (.ref C) "__ne__" = some (some (.builtin "object.__ne__")) ∧ PySem.W.mroIn K C (.type "object") = some true ∧ PySem.W.findIn K (.ref C) "__eq__" = some (some (.ref g)) ∧ PySem.W.isFn K (.ref g) = true ∧ FnOk P w K mg base CX0 k g fd ps sp ∧ Binds K fd ps []
abbrev NeCX (X : Cx) (C : Addr) (k : Nat) (sp : Sp) : Prop := NeC X.prog X.w X.K X.mg X.base C k sp
def rNeO (C : Addr) (sp : Sp) : R2 := fun x y H Q => ∃ a dx vs b dy ws, x = .ref a ∧ y = .ref b ∧ H a = some (.ins C dx vs) ∧ H b = some (.ins C dy ws) ∧ sp [x, y] H (fun v H' => ∃ k : Bool, v = .bl k ∧ Q (.bl (!k)) H') E0
theorem op_neO {sp : Sp} (c : NeCX X C k sp) (hr : Room (j + 1) X.A) (hk : k ≤ j) : OpR X (compareOp .NotEq) (rNeO C sp) := by
  obtain ⟨g, fd, ps, hs, hm, he, hf, F', b⟩ := c.ex
  intro pins s σ H x y v u Q I rx ry h
  obtain ⟨a, dx, vs, b', dy, ws, rfl, rfl, ha, hb, q⟩ := h
  cases (show v = Value.ref a from rx)
  cases (show u = Value.ref b' from ry)
  obtain ⟨mA, OA, _⟩ := ins_get I.hok ha
  obtain ⟨mB, OB, _⟩ := ins_get I.hok hb
  obtain ⟨od, J, _⟩ := OA.look
  obtain ⟨od', J', _⟩ := OB.look
  have un := hr.units
  refine rc_ne (tb := .ref C) (b' := b') (by omega) I.kIn J J'.type hs hm he hf ?_
  have hl : ([Value.ref a, .ref b'] ++ []).length = ps.length := (F'.len _ _ _ _ q)
  have rv2 : Vals [V.ref a, V.ref b'] ([Value.ref a, .ref b'] ++ []) := .cons rfl (.cons rfl .nil)
  refine wpAny_call (codeAny_mono (F'.run X.A.in1 X.stack s H ⟨[.ref a, .ref b'], []⟩ ([.ref a, .ref b'] ++ []) [.ref a, .ref b'] _ E0 (hr.in1.mono hk) I.env0.in1 (b s [.ref a, .ref b'] I.kIn hl) rv2 q) fun r s' hq => ?_)
  cases r with
  | error er => exact False.elim hq
  | ok fl =>
    cases fl with
    | ret u =>
      obtain ⟨v, H', I3, rv, k, rfl, q3⟩ := I.after hq
      cases (show u = Value.bool k from rv)
      exact ⟨k, rfl, .bl (!k), H', I3, rfl, q3⟩
    | next => exact False.elim hq
    | brk => exact False.elim hq
    | cont => exact False.elim hq
def gNeO (C : Addr) (n : Nat) (T : TF) : D → D → (D → Prop) → Prop := fun x y P => ∃ gs hs, x = .ins C gs ∧ y = .ins C hs ∧ n = 2 ∧ T [x, y] fun d => ∃ k : Bool, d = .bl k ∧ P (.bl (!k))
theorem r2_neO {K : PySem.W.Frag} {T : TF} : R2D K F (rNeO C (spF K n T)) (gNeO C n T) := by
  rintro Hf H σ δ x y a b P Q R rx ry ⟨gs, hs, rfl, rfl, rfl, h⟩ k
  obtain ⟨l, dx, us, rfl, h1, r1⟩ := insE rx
  obtain ⟨m, dy, ws, rfl, g1, r2⟩ := insE ry
  refine ⟨l, dx, us, m, dy, ws, rfl, rfl, R.sub _ _ h1, R.sub _ _ g1, rfl, Hf, _, _, R.sub, .cons r1 (.cons r2 .nil), h, fun d p Hf2 H2 v g r => ?_⟩
  obtain ⟨b, rfl, p⟩ := p
  cases r
  exact ⟨b, rfl, k _ p Hf2 H2 _ g.f (R.call g) (.bl _)⟩
theorem d_neO {T : TF} (c : NeCX X C k (spF X.K n T)) (hr : Room (j + 1) X.A) (hk : k ≤ j) (ha : DE X F a ta) (hb : DP X F b tb) : DE X F (.Compare a [.NotEq] [b] pos) (wBin (gNeO C n T) ta tb) := PE.imp (pe_cmpR (op_neO c hr hk) ha hb (nomark _)) (bin_lift r2_neO)
theorem dt_neO {T : TF} (c : NeCX X C k (spF X.K n T)) (hr : Room (j + 1) X.A) (hk : k ≤ j) (ha : DE X F a ta) (hb : DP X F b tb) : DTe X F (.Compare a [.NotEq] [b] pos) (wVal (wBin (gNeO C n T) ta tb)) := dt_of (pt_cmpR (op_neO c hr hk) ha hb (nomark _)) (bin_lift r2_neO)
end
end DT
end
section
set_option maxHeartbeats 4000000
namespace DT
open PySem PySem.Spec PyProof.Rows L2
/-! ### a dict of the module: text -> def -/
structure KTab (K : PySem.W.Frag) (w : World) (d : Addr) (ks : List (Str × Addr)) : Prop where
  ex : ∃ (es : Array DictEntry) (n : Nat), KDict K w d es n
  get : ∀ z a, (z, a) ∈ ks → PySem.W.nsIn K d z = some (some (.ref a))
section
variable {X : Cx} {F : Fm} {e a b : Expr} {es : List Expr} {pos p : Pos} {x : Str} {ta tb : WE} {j n d : Nat} {ks : List (Str × Addr)}
def gNotInK (d : Addr) (ks : List (Str × Addr)) : D → D → (D → Prop) → Prop := fun x y P => ∃ z a, x = .str z ∧ y = .at d ∧ (z, a) ∈ ks ∧ P (.bl false)
theorem PRep.atE {K : PySem.W.Frag} {Hf : Hp} {σ : L2.St} {δ : List S} {v : V} {a : Addr} (h : PRep K Hf σ δ v (.at a)) : v = .ref a := by
  rcases h with h | ⟨_, _, e, _⟩
  · cases h; rfl
  · cases e
theorem d_notinK {d : Addr} (D : KTab X.K X.w d ks) (ha : DE X F a ta) (hb : DP X F b tb) (hm : behindInMarks .NotIn b = false := by rfl) : DE X F (.Compare a [.NotIn] [b] pos) (wBin (gNotInK d ks) ta tb) := by
  obtain ⟨es, n, D0⟩ := D.ex
  refine dbin (fun _ _ h1 h2 => pe_cmpR (op_notIn_kd D0) h1 h2 hm) ?_ ha hb
  rintro Hf H σ δ x y a b P Q R rx ry ⟨z, f, rfl, rfl, m, p⟩ k
  exact ⟨z, some (.ref f), rx.strE, ry.atE, D.get _ _ m, k _ p Hf H _ (Same.refl _) R (.bl _)⟩
theorem dt_notinK {d : Addr} (D : KTab X.K X.w d ks) (ha : DE X F a ta) (hb : DP X F b tb) (hm : behindInMarks .NotIn b = false := by rfl) : DTe X F (.Compare a [.NotIn] [b] pos) (wVal (wBin (gNotInK d ks) ta tb)) := by
  obtain ⟨es, n, D0⟩ := D.ex
  refine dt_of (pt_cmpR (op_notIn_kd D0) ha hb hm) (bin_lift ?_)
  rintro Hf H σ δ x y a b P Q R rx ry ⟨z, f, rfl, rfl, m, p⟩ k
  exact ⟨z, some (.ref f), rx.strE, ry.atE, D.get _ _ m, k _ p Hf H _ (Same.refl _) R (.bl _)⟩
def gIxK (d : Addr) (ks : List (Str × Addr)) : D → D → (D → Prop) → Prop := fun x y P => ∃ z a, x = .at d ∧ y = .str z ∧ (z, a) ∈ ks ∧ P (.at a)
theorem d_ixK {d : Addr} (D : KTab X.K X.w d ks) (ha : DP X F a ta) (hb : DP X F b tb) (hs : PlainIx b := by intro _ _; rfl) : DE X F (.Subscript a b pos) (wBinP (gIxK d ks) ta tb) := by
  obtain ⟨es, n, D0⟩ := D.ex
  refine dbinP (fun _ _ h1 h2 => pe_ix ix_kdict h1 h2 hs) ?_ ha hb
  rintro Hf H σ δ x y a b P Q R rx ry ⟨z, f, rfl, rfl, m, p⟩ k
  exact ⟨d, z, .ref f, rx.atE, ry.strE, ⟨es, n, .ref f, D0.at_, D0.lit, D.get _ _ m, rfl⟩, k _ p Hf H _ (Same.refl _) R (.at _)⟩
/-- a def by its address -/
structure CaA (P : Program) (w : World) (K : PySem.W.Frag) (mg : Str → Option Value) (base : Heap) (k : Nat) (f : Addr) (n : Nat) (T : TF) : Prop where
  ex : ∃ (fd : FuncData) (ps : List Str), FnOk P w K mg base CX0 k f fd ps (spF K n T) ∧ PySem.W.keepIn K (.ref f) = true ∧ Binds K fd ps []
/-- turn(..): a slot holds one of some defs -/
def wCallV (i n : Nat) (fs : List (Addr × TF)) (t : WA) : WE := fun δ P => ∃ q, q ∈ fs ∧ δ[i]? = some (.dat (.at q.1)) ∧ t δ fun ds δ1 => ds.length = n ∧ q.2 ds fun d => P d δ1
theorem de_callV {t : WA} {i : Nat} {fs : List (Addr × TF)} (c : ∀ q ∈ fs, CaA X.prog X.w X.K X.mg X.base j q.1 n q.2) (hr : Room j X.A) (h0 : PE X (.Name x p) (tVar i)) (ha : DA X F (e :: es) t) (he : starEach (e :: es) X.env = (false, eval e X.env) :: starEach es X.env := by rfl)
    (hpl : (backTo pos (starEach es X.env)).any (·.1) = false := by rfl) : DE X F (.Call (.Name x p) (e :: es) [] pos) (wCallV i n fs t) := by
  refine ⟨fun pins s σ H Q I q => ?_⟩
  obtain ⟨Hf, δ, P, R, ⟨u, hu, e0, h⟩, z⟩ := q
  obtain ⟨v, g0, g1⟩ := R.sl i _ e0
  cases g1
  obtain ⟨fd, ps, F', kp, b⟩ := (c u hu).ex
  refine wpAny_Call_Name_kw (thn (h0.run pins s σ H (fun v H1 => v = .ref u.1 ∧ H1 = H) I ⟨.ref u.1, g0, rfl, rfl⟩) fun w s1 ⟨v, H1, I1, r1, q1⟩ => ?_)
  obtain ⟨rfl, rfl⟩ := q1
  cases r1
  have goal := PA.run ha pos pins s1 σ H1 (fun vs H2 => spF X.K n u.2 vs H2 Q E0) I1 ⟨Hf, δ, _, R, h, fun ds δ1 ⟨hl, h1⟩ Hf1 H2 vs s2 R1 r1 => ⟨by rw [r1.length]; exact hl, Hf1, ds, _, R1.sub, r1, h1, fun d p Hf2 H3 v g r => z d δ1 p Hf2 H3 v (s2.trans g.f) (R1.call g) r⟩⟩
  refine PySem.W.callWith_K (h₀ := X.base) I.ok.mod.kin kp (thn goal fun us s2 ⟨vs, H2, I2, r, q⟩ => ⟨I2.kIn, ?_⟩) he hpl
  exact run_fn F' hr b .nil pass0 I2 r (by rw [List.append_nil]; exact q)
end
end DT
end
section
set_option maxHeartbeats 4000000
namespace DT
open PySem PySem.Spec PyProof.Rows L2
/-! ### {k: v for .. in .. for .. in ..} -/
theorem dTurn_out (kx vx t0 i0 t1 i1 : Expr) (ifs0 ifs1 : List Expr) (scope : Scope) (pos : Pos) (it acc : Value) (env : Env) :
    compTurn (.DictComp kx vx [⟨t0, i0, ifs0, 0⟩, ⟨t1, i1, ifs1, 0⟩] scope pos) 0 it acc env = (do
      standAt i0.pos
      match ← pyNext it with
      | none => pure (.done .next)
      | some v =>
        letOwnedTupleGo t0 it v
        assign t0 env v
        let mut ok := true
        for c in ifs0 do
          if ok then ok ← isTrue c env (eval c env)
        if ok then
          let x ← eval i1 env
          standAt i1.pos
          let x ← foldedSetIterable i1 env x
          let _ ← runOwn (.compStart (.DictComp kx vx [⟨t0, i0, ifs0, 0⟩, ⟨t1, i1, ifs1, 0⟩] scope pos) 1 (← holding [x] (pyIter x)) acc env) env
        again (.compLoop (.DictComp kx vx [⟨t0, i0, ifs0, 0⟩, ⟨t1, i1, ifs1, 0⟩] scope pos) 0 it acc env)) := by rfl
theorem dTurn_in (kx vx t0 i0 t1 i1 : Expr) (ifs0 ifs1 : List Expr) (scope : Scope) (pos : Pos) (it : Value) (D : Addr) (env : Env) :
    compTurn (.DictComp kx vx [⟨t0, i0, ifs0, 0⟩, ⟨t1, i1, ifs1, 0⟩] scope pos) 1 it (.ref D) env = (do
      standAt i1.pos
      match ← pyNext it with
      | none => pure (.done .next)
      | some v =>
        letOwnedTupleGo t1 it v
        assign t1 env v
        let mut ok := true
        for c in ifs1 do
          if ok then ok ← isTrue c env (eval c env)
        if ok then
          (do
            let kv ← eval kx env
            let vv ← holding [kv] (eval vx env)
            standAt { kx.pos with endLine := vx.pos.endLine, endCol := vx.pos.endCol }
            holding [kv, vv] (dictSet D kv vv))
        again (.compLoop (.DictComp kx vx [⟨t0, i0, ifs0, 0⟩, ⟨t1, i1, ifs1, 0⟩] scope pos) 1 it (.ref D) env)) := by rfl
section
variable {prog : Program} {w : World} {A : Around} {R : Result → Shared → Prop} {s : Shared} {kx vx t0 i0 t1 i1 : Expr} {ifs0 ifs1 : List Expr} {scope : Scope} {pos : Pos} {it acc : Value} {env : Env}
theorem dLoop_out (hs : ∀ x, foldedSetIterable i1 env x = pure x) (I : Nat → Shared → Prop)
    (turn : ∀ n s, I n s → wpAny (model prog w) A (pyNext it) (fun r u₁ => match r with
      | none => R (.ok .next) u₁
      | some v => wpAny (model prog w) A (letOwnedTupleGo t0 it v) (fun _ u₁' => wpAny (model prog w) A (assign t0 env v) (fun _ u₂ =>
          wpAny (model prog w) A (forIn ifs0 true fun c r => if r = true then do let ok ← isTrue c env (eval c env); pure (ForInStep.yield ok) else pure (ForInStep.yield r)) (fun ok u₃ =>
            if ok = true then wpAny (model prog w) A (eval i1 env) (fun x u₄ => wpAny (model prog w) A (pyIter x) (fun it1 u₅ =>
              codeAny (model prog w) A (.compStart (.DictComp kx vx [⟨t0, i0, ifs0, 0⟩, ⟨t1, i1, ifs1, 0⟩] scope pos) 1 it1 acc env) (fun r s' => match r with
                | .ok _ => ∃ m, m < n ∧ I m s'
                | .error _ => False) u₅) (notedBy (model prog w) A env fun e s' => R (.error e) s') u₄) (notedBy (model prog w) A env fun e s' => R (.error e) s') u₃
            else ∃ m, m < n ∧ I m u₃) (notedBy (model prog w) A env fun e s' => R (.error e) s') u₂) (notedBy (model prog w) A env fun e s' => R (.error e) s') u₁') (notedBy (model prog w) A env fun e s' => R (.error e) s') u₁) (notedBy (model prog w) A env fun e s' => R (.error e) s') s)
    (n : Nat) (h : I n s) :
    codeAny (model prog w) A (.compLoop (.DictComp kx vx [⟨t0, i0, ifs0, 0⟩, ⟨t1, i1, ifs1, 0⟩] scope pos) 0 it acc env) R s := by
  refine codeAny_loop rfl I (fun n s hI => ?_) n h
  show wpAny _ A ((compTurn (.DictComp kx vx [⟨t0, i0, ifs0, 0⟩, ⟨t1, i1, ifs1, 0⟩] scope pos) 0 it acc env).onRaise (fun x => do noteFrame x env; theTreesLotGoes x)) _ _ s
  refine wpAny_noted ?_
  rw [dTurn_out]
  refine wpAny_bind (wpAny_standAt (wpAny_bind (wpAny_mono (turn n s hI) (fun r u₁ g₁ => ?_) fun _ _ e' => e')))
  cases r with
  | none => exact wpAny_pure g₁
  | some v =>
    refine wpAny_bind (wpAny_mono g₁ (fun _ u₁' g₁' => ?_) fun _ _ e' => e')
    refine wpAny_bind (wpAny_mono g₁' (fun _ u₂ g₂ => wpAny_bind (wpAny_mono g₂ (fun ok u₃ g₃ => ?_) fun _ _ e' => e')) fun _ _ e' => e')
    cases ok with
    | false => exact wpAny_pure ⟨rfl, g₃⟩
    | true =>
      refine wpAny_bind (wpAny_mono g₃ (fun x u₄ g₄ => ?_) fun _ _ e' => e')
      refine wpAny_bind (wpAny_standAt (wpAny_bind (wpAny_of_eq (hs x) (wpAny_bind (wpAny_holding (wpAny_mono g₄ (fun it1 u₅ g₅ => ?_) fun _ _ e' => e'))))))
      refine wpAny_bind (wpAny_runOwn ?_)
      rw [Around.mark_none]
      refine codeAny_mono g₅ fun r s' hr => ?_
      cases r with
      | ok f =>
        first
          | exact wpAny_pure ⟨rfl, hr⟩
          | exact wpAny_bind (wpAny_pure (wpAny_pure ⟨rfl, hr⟩))
      | error e => exact hr.elim
theorem dLoop_in {D : Addr} (I : Nat → Shared → Prop)
    (turn : ∀ n s, I n s → wpAny (model prog w) A (pyNext it) (fun r u₁ => match r with
      | none => R (.ok .next) u₁
      | some v => wpAny (model prog w) A (letOwnedTupleGo t1 it v) (fun _ u₁' => wpAny (model prog w) A (assign t1 env v) (fun _ u₂ =>
          wpAny (model prog w) A (forIn ifs1 true fun c r => if r = true then do let ok ← isTrue c env (eval c env); pure (ForInStep.yield ok) else pure (ForInStep.yield r)) (fun ok u₃ =>
            if ok = true then wpAny (model prog w) A (eval kx env) (fun kv u₄ => wpAny (model prog w) A (eval vx env) (fun vv u₅ => wpAny (model prog w) A (dictSet D kv vv) (fun _ u₆ => ∃ m, m < n ∧ I m u₆) (notedBy (model prog w) A env fun e s' => R (.error e) s') u₅) (notedBy (model prog w) A env fun e s' => R (.error e) s') u₄) (notedBy (model prog w) A env fun e s' => R (.error e) s') u₃
            else ∃ m, m < n ∧ I m u₃) (notedBy (model prog w) A env fun e s' => R (.error e) s') u₂) (notedBy (model prog w) A env fun e s' => R (.error e) s') u₁') (notedBy (model prog w) A env fun e s' => R (.error e) s') u₁) (notedBy (model prog w) A env fun e s' => R (.error e) s') s)
    (n : Nat) (h : I n s) :
    codeAny (model prog w) A (.compLoop (.DictComp kx vx [⟨t0, i0, ifs0, 0⟩, ⟨t1, i1, ifs1, 0⟩] scope pos) 1 it (.ref D) env) R s := by
  refine codeAny_loop rfl I (fun n s hI => ?_) n h
  show wpAny _ A ((compTurn (.DictComp kx vx [⟨t0, i0, ifs0, 0⟩, ⟨t1, i1, ifs1, 0⟩] scope pos) 1 it (.ref D) env).onRaise (fun x => do noteFrame x env; theTreesLotGoes x)) _ _ s
  refine wpAny_noted ?_
  rw [dTurn_in]
  refine wpAny_bind (wpAny_standAt (wpAny_bind (wpAny_mono (turn n s hI) (fun r u₁ g₁ => ?_) fun _ _ e' => e')))
  cases r with
  | none => exact wpAny_pure g₁
  | some v =>
    refine wpAny_bind (wpAny_mono g₁ (fun _ u₁' g₁' => ?_) fun _ _ e' => e')
    refine wpAny_bind (wpAny_mono g₁' (fun _ u₂ g₂ => wpAny_bind (wpAny_mono g₂ (fun ok u₃ g₃ => ?_) fun _ _ e' => e')) fun _ _ e' => e')
    cases ok with
    | false => exact wpAny_pure ⟨rfl, g₃⟩
    | true =>
      exact wpAny_bind (wpAny_bind (wpAny_mono g₃ (fun kv u₄ g₄ => wpAny_bind (wpAny_holding (wpAny_mono g₄ (fun vv u₅ g₅ => wpAny_bind (wpAny_standAt (wpAny_holding (wpAny_mono g₅ (fun _ u₆ g₆ => wpAny_pure ⟨rfl, g₆⟩) fun _ _ e' => e')))) fun _ _ e' => e'))) fun _ _ e' => e'))
theorem dStart1 (g0 : codeAny (model prog w) A (.compLoop (.DictComp kx vx [⟨t0, i0, ifs0, 0⟩, ⟨t1, i1, ifs1, 0⟩] scope pos) 1 it acc env) R s)
    (h : wpAny (model prog w) A (pyIter it) (fun it' s' => codeAny (model prog w) A (.compLoop (.DictComp kx vx [⟨t0, i0, ifs0, 0⟩, ⟨t1, i1, ifs1, 0⟩] scope pos) 1 it' acc env) R s')
      (notedBy (model prog w) A env fun x s' => R (.error x) s') s) :
    codeAny (model prog w) A (.compStart (.DictComp kx vx [⟨t0, i0, ifs0, 0⟩, ⟨t1, i1, ifs1, 0⟩] scope pos) 1 it acc env) R s := by
  refine codeAny_of_tree ?_
  show wpAny _ _ ((compStart (.DictComp kx vx [⟨t0, i0, ifs0, 0⟩, ⟨t1, i1, ifs1, 0⟩] scope pos) 1 it acc env).onRaise (fun x => do noteFrame x env; standAt theWindowsPlace)) _ _ s
  refine wpAny_notedAt ?_
  unfold compStart
  show wpAny _ _ (ask >>= _) _ _ s
  refine wpAny_bind (wpAny_askSetting (wpAny_ite ?_))
  split
  · first
      | exact wpAny_bind (wpAny_pure (wpAny_pure (And.intro rfl g0)))
      | exact wpAny_pure (And.intro rfl g0)
  · first
      | exact wpAny_bind (wpAny_rule (wpAny_bind (wpAny_standAt (wpAny_bind (wpAny_mono h (fun it' s' e' => wpAny_pure (And.intro rfl e')) fun _ _ x => x)))))
      | (refine wpAny_bind (wpAny_rule ?_); show wpAny _ _ (standAt i1.pos >>= _) _ _ s; exact wpAny_bind (wpAny_standAt (wpAny_bind (wpAny_mono h (fun it' s' e' => wpAny_pure (And.intro rfl e')) fun _ _ x => x))))
end
section
variable {X : Cx}
def tDc2 (wi : TI) (g : TG) (tt : TT) (wi1 : TI) (g1 : TG) (tt1 : TT) (tk tv : TE) (vs vs1 : List Nat) : TE := fun σ H Q => wi σ H fun J G1 => ∀ D, G1 D = none → ∃ W : Nat → Nat → Hp → Prop, (∃ m, W 0 m (upd G1 D (.dK []))) ∧ ∀ i m H, W i m H →
  (J.stop i H ∧ Q (.ref D) H) ∨ (J.go i H ∧ ∃ Nx : Hp → Prop, (∀ H', Nx H' → ∃ k', k' < m ∧ W (i + 1) k' H') ∧ ∀ x H', J.yld i H x H' → g x (wipe σ vs) H' fun τ2 G2 => wipe τ2 vs = wipe σ vs ∧ tt τ2 G2 fun b G3 =>
    if b = true then wi1 τ2 G3 fun J1 G4 => ∃ W1 : Nat → Nat → Hp → Prop, (∃ m, W1 0 m G4) ∧ ∀ j k H, W1 j k H →
      (J1.stop j H ∧ Nx H) ∨ (J1.go j H ∧ ∃ Nx1 : Hp → Prop, (∀ H', Nx1 H' → ∃ k', k' < k ∧ W1 (j + 1) k' H') ∧ ∀ x H', J1.yld j H x H' → g1 x (wipe τ2 vs1) H' fun τ3 G5 => wipe τ3 vs1 = wipe τ2 vs1 ∧ tt1 τ3 G5 fun b G6 =>
        if b = true then tk τ3 G6 fun y G7 => tv τ3 G7 fun z G8 => ∃ kvs k, y = kV k ∧ G8 D = some (.dK kvs) ∧ kvs.length < sizeLine ∧ Nx1 (upd G8 D (.dK (putK kvs k z))) else Nx1 G6)
    else Nx G3)
theorem dc2_core {pins : List (Addr × Obj)} {s : Shared} {σ : L2.St} {H : Hp} {Q : VK} {kx vx tg iter tg1 iter1 : Expr} {ifs ifs1 : List Expr} {scope : Scope} {own : List (Str × Nat)} {vs1 : List Nat} {pos pos' : Pos} {wi wi1 : TI} {g g1 : TG} {tt tt1 : TT} {tk tv : TE} {use : Option (Value → Sem Unit)} {Qf : Value → Shared → Prop}
    (hc : X.calm = true) (hN : X.N.Nodup) (I : L2.Inv X pins σ H s) (hi : PI X tg iter wi) (ok : BlkOk X.N X.env.scope scope own) (hv : ∀ i ∈ vs1, i ∈ own.map (·.2))
    (hg : ∀ (s : Shared) (H : Hp) (C : Addr) (cl : List (Str × Addr)) (fp : List Addr), PG (X.blk s H scope (compEnvC scope cl C X.env) fp) tg g) (ht : ∀ (s : Shared) (H : Hp) (C : Addr) (cl : List (Str × Addr)) (fp : List Addr), PTs (X.blk s H scope (compEnvC scope cl C X.env) fp) ifs tt)
    (hk : ∀ (s : Shared) (H : Hp) (C : Addr) (cl : List (Str × Addr)) (fp : List Addr), PE (X.blk s H scope (compEnvC scope cl C X.env) fp) kx tk)
    (he : ∀ (s : Shared) (H : Hp) (C : Addr) (cl : List (Str × Addr)) (fp : List Addr), PE (X.blk s H scope (compEnvC scope cl C X.env) fp) vx tv) (hs : ∀ x, foldedSetIterable iter X.env x = pure x)
    (hi1 : ∀ (s : Shared) (H : Hp) (C : Addr) (cl : List (Str × Addr)) (fp : List Addr), PI (X.blk s H scope (compEnvC scope cl C X.env) fp) tg1 iter1 wi1)
    (hg1 : ∀ (s : Shared) (H : Hp) (C : Addr) (cl : List (Str × Addr)) (fp : List Addr), PG (X.blk s H scope (compEnvC scope cl C X.env) fp) tg1 g1)
    (ht1 : ∀ (s : Shared) (H : Hp) (C : Addr) (cl : List (Str × Addr)) (fp : List Addr), PTs (X.blk s H scope (compEnvC scope cl C X.env) fp) ifs1 tt1)
    (hs1 : ∀ env x, foldedSetIterable iter1 env x = pure x)
    (h : tDc2 wi g tt wi1 g1 tt1 tk tv (own.map (·.2)) vs1 σ H Q)
    (hRR : ∀ D C s' m H', L2.Inv X pins σ H' s' → Q (.ref D) H' → s'.heap.Ns C m → FpOk X pins H' C → compPost (model X.prog X.w) X.A X.xe use Qf (.ref D) C (.ok .next) s') :
    wpAny (model X.prog X.w) X.A (comprehension (.DictComp kx vx [⟨tg, iter, ifs, 0⟩, ⟨tg1, iter1, ifs1, 0⟩] scope pos) scope X.env pos' newDict false (eval iter X.env) use) Qf X.xe s := by
  have hfree : ∀ y ∈ scope.names, y.2 = .free → ∃ c, X.env.cells.lookup y.1 = some c := fun y hy e => by
    rcases ok.free y hy e with k | k
    · exact I.ok.has _ (.inl k)
    · exact I.ok.has _ (.inr k)
  refine wpAny_comprehension_free (use := use) rfl hs (closure_ok hfree) ok.kind (fun y hy e => by rw [ok.uniq y hy, e])
    (thn (hi.run pins s σ H _ I h) fun xv u1 hx => thn hx fun itv u2 g2 => ?_)
  obtain ⟨it, fp, tn, J, G2, e, Iv2, T, at2, f2, q⟩ := g2
  subst e; skip
  refine wpAny_newObj_type (newEnv_comp ?_)
  generalize hD : u2.heap.objs.size = D
  have hDn : G2 D = none := Iv2.hok.fresh (Nat.le_of_eq hD)
  obtain ⟨W, ⟨m0, w0⟩, turn⟩ := q D hDn
  -- the new list
  generalize hs3 : ({ u2 with heap := u2.heap.push { cls := .type "dict", data := .dict #[] } } : Shared) = u3
  have Iv3 : L2.Inv X pins σ (upd G2 D (.dK [])) u3 := by
    rw [← hs3]
    refine Iv2.laid (t' := u2.toks) (fun b o e => Heap.get?_push_of_some _ e) (Nat.le_of_eq hD) ?_
    rw [← hD]
    exact dk_empty u2.heap Iv2.big
  have g3 : u3.heap = u2.heap.push { cls := .type "dict", data := .dict #[] } := by rw [← hs3]
  have sz : ∀ b ∈ fp, b < u2.heap.objs.size := fun b hb => by
    obtain ⟨o, e, _⟩ := T.obj _ _ at2 b hb
    exact Heap.lt_size e
  have f3 : ∀ b ∈ fp, FpOk X pins (upd G2 D (.dK [])) b ∧ b < u3.heap.objs.size := fun b hb => by
    have hlt := sz b hb
    refine ⟨⟨?_, (f2 b hb).2⟩, by rw [g3, Heap.size_push]; exact Nat.lt_succ_of_lt hlt⟩
    rw [upd_ne (by rw [← hD]; exact Nat.ne_of_lt hlt)]
    exact (f2 b hb).1
  have at3 : tn 0 u3.heap := T.keep _ _ _ at2 fun b _ o e => by rw [g3]; exact Heap.get?_push_of_some _ e
  have Iv4 := block_start Iv3 ok hN f3
  have pg := hg u3 (upd G2 D (.dK [])) u3.heap.objs.size (cellsFrom (u3.heap.objs.size + 1) scope.names (cloFrom X.env.cells scope.names [])) fp
  have pt := ht u3 (upd G2 D (.dK [])) u3.heap.objs.size (cellsFrom (u3.heap.objs.size + 1) scope.names (cloFrom X.env.cells scope.names [])) fp
  have pk := hk u3 (upd G2 D (.dK [])) u3.heap.objs.size (cellsFrom (u3.heap.objs.size + 1) scope.names (cloFrom X.env.cells scope.names [])) fp
  have pe := he u3 (upd G2 D (.dK [])) u3.heap.objs.size (cellsFrom (u3.heap.objs.size + 1) scope.names (cloFrom X.env.cells scope.names [])) fp
  have pi1 := hi1 u3 (upd G2 D (.dK [])) u3.heap.objs.size (cellsFrom (u3.heap.objs.size + 1) scope.names (cloFrom X.env.cells scope.names [])) fp
  have pg1 := hg1 u3 (upd G2 D (.dK [])) u3.heap.objs.size (cellsFrom (u3.heap.objs.size + 1) scope.names (cloFrom X.env.cells scope.names [])) fp
  have pt1 := ht1 u3 (upd G2 D (.dK [])) u3.heap.objs.size (cellsFrom (u3.heap.objs.size + 1) scope.names (cloFrom X.env.cells scope.names [])) fp
  show codeAny _ _ (.compStart (.DictComp kx vx [⟨tg, iter, ifs, 0⟩, ⟨tg1, iter1, ifs1, 0⟩] scope pos) 0 (.ref it) (.ref D) (compEnvC scope (cellsFrom (u3.heap.objs.size + 1) scope.names (cloFrom X.env.cells scope.names [])) u3.heap.objs.size X.env)) (compPost (model X.prog X.w) X.A X.xe use Qf (.ref D) u3.heap.objs.size) { u3 with heap := pushCells (u3.heap.push { cls := .type "dict", data := .dict #[] }) scope.names }
  have nfp : ∀ b ∈ fp, (upd G2 D (.dK [])) b = none := fun b hb => (f3 b hb).1.1
  generalize hce : compEnvC scope (cellsFrom (u3.heap.objs.size + 1) scope.names (cloFrom X.env.cells scope.names [])) u3.heap.objs.size X.env = ce at Iv4 pg pt pk pe pi1 pg1 pt1 ⊢
  have cL : ce.locals = u3.heap.objs.size := by subst hce; rfl
  generalize hH3 : upd G2 D (.dK []) = G3 at Iv3 Iv4 pg pt pk pe pi1 pg1 pt1 w0 nfp f3
  generalize hs4 : ({ u3 with heap := pushCells (u3.heap.push { cls := .type "dict", data := .dict #[] }) scope.names } : Shared) = u4 at Iv4 ⊢
  have at4 : tn 0 u4.heap := T.keep _ _ _ at3 fun b _ o e => by rw [← hs4]; exact pushCells_keeps _ _ _ _ (Heap.get?_push_of_some _ e)
  have stat : ∀ {σ' : L2.St} {H' : Hp} {s' : Shared}, L2.Inv (X.blk u3 G3 scope ce fp) [] σ' H' s' → (∀ b ∈ fp, H' b = none) → ∀ b ∈ fp, FpOk (X.blk u3 G3 scope ce fp) [] H' b := fun {σ' H' s'} I' hn b hb =>
    ⟨hn b hb, (I'.ok.exf b hb).1, I'.ok.exfs b hb, .inl hb, fun x c e => (I'.ok.exf b hb).2 x c e, fun p hp => absurd (show p ∈ ([] : List (Addr × Obj)) ++ [] from hp) (by simp)⟩
  have loop : codeAny (model X.prog X.w) X.A (.compLoop (.DictComp kx vx [⟨tg, iter, ifs, 0⟩, ⟨tg1, iter1, ifs1, 0⟩] scope pos) 0 (.ref it) (.ref D) ce) (compPost (model X.prog X.w) X.A X.xe use Qf (.ref D) u3.heap.objs.size) u4 := by
    refine dLoop_out (hs1 ce) (fun n s' => ∃ i H', L2.Inv (X.blk u3 G3 scope ce fp) [] (wipe σ (own.map (·.2))) H' s' ∧ tn i s'.heap ∧ (∀ b ∈ fp, H' b = none) ∧ W i n H') ?_ m0 ⟨0, G3, Iv4, at4, nfp, w0⟩
    rintro n u5 ⟨i, G5, Iv5, at5, no5, w5⟩
    rcases turn i n G5 w5 with ⟨stop, qq⟩ | ⟨go, Nx, hNx, step⟩
    · have td := T.done (X.blk u3 G3 scope ce fp) rfl rfl rfl hc i [] u5 _ G5 (fun _ _ => False) Iv5 (stat Iv5 no5) at5 stop
      refine thnF td fun r u6 ⟨hr, Iv6⟩ => ?_
      subst hr; skip
      -- back in the def's context
      have Iv7 : L2.Inv X pins σ G5 u6 := Iv3.call' (ch := fp) Iv6.os Iv6.base Iv6.hok Iv6.bare fun b hb => ⟨(f3 b hb).1.2.2.2.1, (f3 b hb).1.2.1, (f3 b hb).1.2.2.2.2.1, (f3 b hb).1.2.2.2.2.2⟩
      have nC : G5 u3.heap.objs.size = none := by
        have z : G5 ce.locals = none := Iv6.free
        rw [cL] at z
        exact z
      obtain ⟨m, hn, _⟩ := Iv6.loc
      have hn : u6.heap.Ns ce.locals m := hn
      rw [cL] at hn
      exact hRR D u3.heap.objs.size u6 m G5 Iv7 qq hn (Iv3.fpOk (Nat.le_refl _) nC)
    · have ti := T.item (X.blk u3 G3 scope ce fp) rfl rfl rfl hc i [] u5 _ G5 (fun _ _ => False) Iv5 (stat Iv5 no5) at5 go
      refine thnF ti fun r u6 ⟨u, hr, g6⟩ => ?_
      subst hr; skip
      refine thnF g6 fun _ u7 ⟨x, G7, Iv7, rl7, y7, at7, no7⟩ => ?_
      have Iv7' := Iv7.pinned (stat Iv7 no7) (T.obj _ _ at7)
      refine thnF (pg.run _ u7 _ G7 x u _ Iv7' rl7 (step x G7 y7)) fun _ u8 ⟨τ8, G8, Iv8, hw8, z8⟩ => ?_
      refine thnF (pt.run _ u8 τ8 G8 _ Iv8 z8) fun b u9 ⟨G9, Iv9, z9⟩ => ?_
      -- the turn's end, from any slots that know what the block knew at its start
      have fin : ∀ {τ9 : L2.St} {s' : Shared} {H' : Hp}, L2.Inv (X.blk u3 G3 scope ce fp) ([] ++ pinsAt fp u7.heap) τ9 H' s' → (wipe σ (own.map (·.2))).length = τ9.length → (∀ (j : Nat) v, (wipe σ (own.map (·.2)))[j]? = some (some v) → τ9[j]? = some (some v)) → Nx H' →
          ∃ m, m < n ∧ ∃ i H', L2.Inv (X.blk u3 G3 scope ce fp) [] (wipe σ (own.map (·.2))) H' s' ∧ tn i s'.heap ∧ (∀ b ∈ fp, H' b = none) ∧ W i m H' := fun {τ9 s' H'} I' hl hk nx => by
        obtain ⟨k', hm, w'⟩ := hNx H' nx
        have pin' : ∀ b ∈ fp, ∀ o, u7.heap.get? b = some o → s'.heap.get? b = some o ∧ H' b = none := fun b hb o e =>
          let z := I'.pin (b, o) (List.mem_append_right _ (List.mem_append_right _ (mem_pinsAt hb e)))
          ⟨z.1, z.2.1⟩
        refine ⟨k', hm, i + 1, H', (I'.unpinned (pins := [])).weak hl hk, T.keep _ _ _ at7 fun b hb o e => (pin' b hb o e).1, fun b hb => ?_, w'⟩
        obtain ⟨o, e, _⟩ := T.obj _ _ at7 b hb
        exact (pin' b hb o e).2
      have hl8 : (wipe σ (own.map (·.2))).length = τ8.length := by rw [← hw8, wipe_length]
      have hk8 : ∀ (j : Nat) v, (wipe σ (own.map (·.2)))[j]? = some (some v) → τ8[j]? = some (some v) := fun j v e => by
        rw [← hw8] at e
        exact (wipe_some e).1
      have hk9 : ∀ (j : Nat) v, (wipe σ (own.map (·.2)))[j]? = some (some v) → (wipe τ8 vs1)[j]? = some (some v) := fun j v e => by
        rw [← hw8] at e
        obtain ⟨e1, e2⟩ := wipe_some e
        rw [wipe_out fun z => e2 (hv j z)]
        exact e1
      cases b with
      | false =>
        simp only [Bool.false_eq_true, if_false] at z9 ⊢
        exact fin Iv9 hl8 hk8 z9
      | true =>
        simp only [if_true] at z9 ⊢
        refine thnF (pi1.run _ u9 τ8 G9 _ Iv9 z9) fun xv u10 hx => thnF hx fun itv u11 g11 => ?_
        obtain ⟨it1, fp1, tn1, J1, G11, e1, Iv11, T1, at11, f11, W1, ⟨m1, w1⟩, turn1⟩ := g11
        subst e1; skip
        -- the inner loop
        have stat1 : ∀ {H' : Hp}, (∀ b ∈ fp1, H' b = none) → ∀ b ∈ fp1, FpOk (X.blk u3 G3 scope ce fp) ([] ++ pinsAt fp u7.heap) H' b := fun hn b hb => ⟨hn b hb, (f11 b hb).2⟩
        have loop1 : codeAny (model X.prog X.w) X.A (.compLoop (.DictComp kx vx [⟨tg, iter, ifs, 0⟩, ⟨tg1, iter1, ifs1, 0⟩] scope pos) 1 (.ref it1) (.ref D) ce)
            (fun r s' => match r with
              | .ok _ => ∃ m, m < n ∧ ∃ i H', L2.Inv (X.blk u3 G3 scope ce fp) [] (wipe σ (own.map (·.2))) H' s' ∧ tn i s'.heap ∧ (∀ b ∈ fp, H' b = none) ∧ W i m H'
              | .error _ => False) u11 := by
          refine dLoop_in (fun k s' => ∃ j H', L2.Inv (X.blk u3 G3 scope ce fp) ([] ++ pinsAt fp u7.heap) (wipe τ8 vs1) H' s' ∧ tn1 j s'.heap ∧ (∀ b ∈ fp1, H' b = none) ∧ W1 j k H') ?_ m1 ⟨0, G11, Iv11.weak (wipe_length _ _) (fun j v e => (wipe_some e).1), at11, fun b hb => (f11 b hb).1, w1⟩
          rintro k u12 ⟨j, G12, Iv12, at12, no12, w12⟩
          rcases turn1 j k G12 w12 with ⟨stop1, nx1⟩ | ⟨go1, Nx1, hNx1, step1⟩
          · refine thnF (T1.done (X.blk u3 G3 scope ce fp) rfl rfl rfl hc j _ u12 (wipe τ8 vs1) G12 (fun _ _ => False) Iv12 (stat1 no12) at12 stop1) fun r u13 ⟨hr, Iv13⟩ => ?_
            subst hr; skip
            exact fin Iv13 (hl8.trans (wipe_length τ8 vs1).symm) hk9 nx1
          · refine thnF (T1.item (X.blk u3 G3 scope ce fp) rfl rfl rfl hc j _ u12 (wipe τ8 vs1) G12 (fun _ _ => False) Iv12 (stat1 no12) at12 go1) fun r u13 ⟨u1, hr, g13⟩ => ?_
            subst hr; skip
            refine thnF g13 fun _ u14 ⟨x1, G14, Iv14, rl14, y14, at14, no14⟩ => ?_
            have Iv14' := Iv14.pinned (stat1 no14) (T1.obj _ _ at14)
            refine thnF (pg1.run _ u14 (wipe τ8 vs1) G14 x1 u1 _ Iv14' rl14 (step1 x1 G14 y14)) fun _ u15 ⟨τ15, G15, Iv15, hw15, z15⟩ => ?_
            refine thnF (pt1.run _ u15 τ15 G15 _ Iv15 z15) fun b1 u16 ⟨G16, Iv16, z16⟩ => ?_
            have fin1 : ∀ {s' : Shared} {H' : Hp}, L2.Inv (X.blk u3 G3 scope ce fp) (([] ++ pinsAt fp u7.heap) ++ pinsAt fp1 u14.heap) τ15 H' s' → Nx1 H' → ∃ m, m < k ∧ ∃ j H', L2.Inv (X.blk u3 G3 scope ce fp) ([] ++ pinsAt fp u7.heap) (wipe τ8 vs1) H' s' ∧ tn1 j s'.heap ∧ (∀ b ∈ fp1, H' b = none) ∧ W1 j m H' := fun {s' H'} I' nx => by
              obtain ⟨k', hm, w'⟩ := hNx1 H' nx
              have pin' : ∀ b ∈ fp1, ∀ o, u14.heap.get? b = some o → s'.heap.get? b = some o ∧ H' b = none := fun b hb o e =>
                let z := I'.pin (b, o) (List.mem_append_right _ (List.mem_append_right _ (mem_pinsAt hb e)))
                ⟨z.1, z.2.1⟩
              refine ⟨k', hm, j + 1, H', I'.unpinned.weak (by rw [← hw15, wipe_length]) (fun j v e => by rw [← hw15] at e; exact (wipe_some e).1), T1.keep _ _ _ at14 fun b hb o e => (pin' b hb o e).1, fun b hb => ?_, w'⟩
              obtain ⟨o, e, _⟩ := T1.obj _ _ at14 b hb
              exact (pin' b hb o e).2
            cases b1 with
            | false =>
              simp only [Bool.false_eq_true, if_false] at z16 ⊢
              exact fin1 Iv16 z16
            | true =>
              simp only [if_true] at z16 ⊢
              refine thnF (pk.run _ u16 τ15 G16 _ Iv16 z16) fun z u17 ⟨yk, G17, Iv17, rl17, z17⟩ => ?_
              refine thnF (pe.run _ u17 τ15 G17 _ Iv17 z17) fun z2 u18 ⟨yv, G18, Iv18, rl18, kvs, k, ek, hD18, hz18, nx⟩ => ?_
              subst ek; skip
              exact d_dictSet (X := X.blk u3 G3 scope ce fp) Iv18 hD18 hz18 rl17 rl18 fun u19 Iv19 => fin1 Iv19 nx
        exact dStart1 loop1 (T1.self X.A 0 _ _ _ at11 loop1)
  exact codeAny_compStart_dict loop (T.self X.A 0 _ _ _ at4 loop)
theorem pe_dc2 {kx vx tg iter tg1 iter1 : Expr} {ifs ifs1 : List Expr} {scope : Scope} {own : List (Str × Nat)} {vs1 : List Nat} {pos : Pos} {wi wi1 : TI} {g g1 : TG} {tt tt1 : TT} {tk tv : TE} (hc : X.calm = true) (hN : X.N.Nodup) (hi : PI X tg iter wi) (ok : BlkOk X.N X.env.scope scope own) (hv : ∀ i ∈ vs1, i ∈ own.map (·.2))
    (hg : ∀ (s : Shared) (H : Hp) (C : Addr) (cl : List (Str × Addr)) (fp : List Addr), PG (X.blk s H scope (compEnvC scope cl C X.env) fp) tg g) (ht : ∀ (s : Shared) (H : Hp) (C : Addr) (cl : List (Str × Addr)) (fp : List Addr), PTs (X.blk s H scope (compEnvC scope cl C X.env) fp) ifs tt)
    (hi1 : ∀ (s : Shared) (H : Hp) (C : Addr) (cl : List (Str × Addr)) (fp : List Addr), PI (X.blk s H scope (compEnvC scope cl C X.env) fp) tg1 iter1 wi1)
    (hg1 : ∀ (s : Shared) (H : Hp) (C : Addr) (cl : List (Str × Addr)) (fp : List Addr), PG (X.blk s H scope (compEnvC scope cl C X.env) fp) tg1 g1) (ht1 : ∀ (s : Shared) (H : Hp) (C : Addr) (cl : List (Str × Addr)) (fp : List Addr), PTs (X.blk s H scope (compEnvC scope cl C X.env) fp) ifs1 tt1)
    (hk : ∀ (s : Shared) (H : Hp) (C : Addr) (cl : List (Str × Addr)) (fp : List Addr), PE (X.blk s H scope (compEnvC scope cl C X.env) fp) kx tk)
    (he : ∀ (s : Shared) (H : Hp) (C : Addr) (cl : List (Str × Addr)) (fp : List Addr), PE (X.blk s H scope (compEnvC scope cl C X.env) fp) vx tv) (hs : ∀ x, foldedSetIterable iter X.env x = pure x := by intro _; rfl) (hs1 : ∀ env x, foldedSetIterable iter1 env x = pure x := by intro _ _; rfl) :
    PE X (.DictComp kx vx [⟨tg, iter, ifs, 0⟩, ⟨tg1, iter1, ifs1, 0⟩] scope pos) (tDc2 wi g tt wi1 g1 tt1 tk tv (own.map (·.2)) vs1) := by
  refine ⟨fun pins s σ H Q I h => ?_⟩
  rw [arm_eval_DictComp]
  refine dc2_core hc hN I hi ok hv hg ht hk he hs hi1 hg1 ht1 hs1 h fun D C s' m H' I' q hn f => ⟨m, hn, fun e'' sb => ?_⟩
  obtain ⟨f0, f1, f2, f3, f4, f5⟩ := f
  exact ⟨.ref D, H', I'.turned (t' := s'.toks) (fun b o hb e => (sb.2 b hb).trans e) f0 f1 f3 f4 f5, rfl, q⟩
theorem ps_setDc2 {i : Nat} {y : Str} {py : Pos} {kx vx tg iter tg1 iter1 : Expr} {ifs ifs1 : List Expr} {scope : Scope} {own : List (Str × Nat)} {vs1 : List Nat} {pos spos : Pos} {wi wi1 : TI} {g g1 : TG} {tt tt1 : TT} {tk tv : TE} (hc : X.calm = true) (hN : X.N.Nodup) (hy : X.N[i]? = some y) (hyl : X.env.scope.names.lookup y = some .local)
    (hsw : swapsWith (.DictComp kx vx [⟨tg, iter, ifs, 0⟩, ⟨tg1, iter1, ifs1, 0⟩] scope pos) (some (.Name y py)) spos.line X.env = pure true) (hi : PI X tg iter wi) (ok : BlkOk X.N X.env.scope scope own) (hv : ∀ i ∈ vs1, i ∈ own.map (·.2))
    (hg : ∀ (s : Shared) (H : Hp) (C : Addr) (cl : List (Str × Addr)) (fp : List Addr), PG (X.blk s H scope (compEnvC scope cl C X.env) fp) tg g) (ht : ∀ (s : Shared) (H : Hp) (C : Addr) (cl : List (Str × Addr)) (fp : List Addr), PTs (X.blk s H scope (compEnvC scope cl C X.env) fp) ifs tt)
    (hi1 : ∀ (s : Shared) (H : Hp) (C : Addr) (cl : List (Str × Addr)) (fp : List Addr), PI (X.blk s H scope (compEnvC scope cl C X.env) fp) tg1 iter1 wi1)
    (hg1 : ∀ (s : Shared) (H : Hp) (C : Addr) (cl : List (Str × Addr)) (fp : List Addr), PG (X.blk s H scope (compEnvC scope cl C X.env) fp) tg1 g1) (ht1 : ∀ (s : Shared) (H : Hp) (C : Addr) (cl : List (Str × Addr)) (fp : List Addr), PTs (X.blk s H scope (compEnvC scope cl C X.env) fp) ifs1 tt1)
    (hk : ∀ (s : Shared) (H : Hp) (C : Addr) (cl : List (Str × Addr)) (fp : List Addr), PE (X.blk s H scope (compEnvC scope cl C X.env) fp) kx tk)
    (he : ∀ (s : Shared) (H : Hp) (C : Addr) (cl : List (Str × Addr)) (fp : List Addr), PE (X.blk s H scope (compEnvC scope cl C X.env) fp) vx tv) (hs : ∀ x, foldedSetIterable iter X.env x = pure x := by intro _; rfl) (hs1 : ∀ env x, foldedSetIterable iter1 env x = pure x := by intro _ _; rfl) :
    PS X (.Assign [.Name y py] (.DictComp kx vx [⟨tg, iter, ifs, 0⟩, ⟨tg1, iter1, ifs1, 0⟩] scope pos) spos) (tAsg (tDc2 wi g tt wi1 g1 tt1 tk tv (own.map (·.2)) vs1) (gName i)) := by
  refine ⟨fun pins s σ H D I h => ?_⟩
  rw [exec_Assign_Name_used _ _ _ _ hsw]
  refine wpAny_bind (wpAny_standAt (wpAny_bind ?_))
  show wpAny _ X.A (do let _ ← comprehension (.DictComp kx vx [⟨tg, iter, ifs, 0⟩, ⟨tg1, iter1, ifs1, 0⟩] scope pos) scope X.env (firstIterPos [⟨tg, iter, ifs, 0⟩, ⟨tg1, iter1, ifs1, 0⟩] pos) newDict false (eval iter X.env) (some (assign (.Name y py) X.env))) _ _ s
  have h : tDc2 wi g tt wi1 g1 tt1 tk tv (own.map (·.2)) vs1 σ H (fun x G1 => gName i x σ G1 D.nx) := h
  refine wpAny_bind (thn (dc2_core (Qf := fun _ s' => SP X pins D .next s') hc hN I hi ok hv hg ht hk he hs hi1 hg1 ht1 hs1 h fun L C s' m H' I' q hn f => ?_) fun _ s' hq => wpAny_pure (wpAny_pure hq))
  show wpAny _ _ (assign (.Name y py) X.env (.ref L)) _ _ _
  refine wpAny_assign_Name (store_ok2 (v := V.ref L) I' hN hy (.inl hyl) rfl (fun u2 Iv2 ⟨a, sb, ha⟩ => ?_) (.inr hyl))
  obtain ⟨f0, f1, f2, f3, f4, f5⟩ := f
  have haC : C ≠ a := by
    rcases ha with z | z
    · rw [z]; exact f1
    · exact fun e => f4 y a z e.symm
  refine ⟨m, hn.sameBut sb haC, fun g3 sb3 => ?_⟩
  exact ⟨_, H', Iv2.turned (t' := u2.toks) (fun b o hb e => (sb3.2 b hb).trans e) f0 f1 f3 f4 f5, q⟩
theorem sw_trueD {kx vx : Expr} {gs : List Comprehension} {scope : Scope} {pos py : Pos} {y : Str} {l : Nat} {env : Env} (hk : env.scope.kind = .function) (hy : env.scope.names.lookup y = some .local) (hl : (py.line == pos.line) = true)
    (ha : (scope.names.any fun (n, k) => n == y && (k == .local || k == .cell)) = false) : swapsWith (.DictComp kx vx gs scope pos) (some (.Name y py)) l env = pure true := by
  have ky : env.kindOf y = some .local := hy
  have hb : env.blockKind = .function := by unfold Env.blockKind; rw [hk]; rfl
  unfold swapsWith; simp only [hb, ky, ha, Expr.pos, hl]; rfl
end
end DT
end
section
set_option maxHeartbeats 4000000
namespace DT
open PySem PySem.Spec PyProof.Rows L2
/-! ## values of Lean's types, as data -/
abbrev eI : Int → D := D.int
abbrev eB : Bool → D := D.bl
abbrev eS : Str → D := D.str
abbrev eU : Unit → D := fun _ => .non
abbrev eT {α : Type} (e : α → D) (xs : List α) : D := .tup (xs.map e)
abbrev eL {α : Type} (e : α → D) (xs : List α) : D := .lst (xs.map e)
abbrev eO {α : Type} (e : α → D) : Option α → D
  | none => .non
  | some a => e a
abbrev eP2 {α β : Type} (e : α → D) (f : β → D) (p : α × β) : D := .tup [e p.1, f p.2]
abbrev eP3 {α β γ : Type} (e : α → D) (f : β → D) (g : γ → D) (p : α × β × γ) : D := .tup [e p.1, f p.2.1, g p.2.2]
abbrev eP4 {α β γ κ : Type} (e : α → D) (f : β → D) (g : γ → D) (h : κ → D) (p : α × β × γ × κ) : D := .tup [e p.1, f p.2.1, g p.2.2.1, h p.2.2.2]
abbrev eK {α : Type} (e : α → D) (ks : List (Int × α)) : D := .dic (ks.map fun p => (p.1, e p.2))

/-! ## typed judgements -/
def TE (X : Cx) (F : Fm) (e : Expr) (δ : List S) (d : D) (δ' : List S) : Prop := DE X F e fun δ0 P => δ0 = δ ∧ P d δ'
def TP (X : Cx) (F : Fm) (e : Expr) (δ : List S) (d : D) (δ' : List S) : Prop := DP X F e fun δ0 P => δ0 = δ ∧ P d δ'
def TN (X : Cx) (F : Fm) (e : Expr) (δ : List S) (ds : List D) (δ' : List S) : Prop := DN X F e fun δ0 P => δ0 = δ ∧ P ds δ'
def TAs (X : Cx) (F : Fm) (es : List Expr) (δ : List S) (ds : List D) (δ' : List S) : Prop := DA X F es fun δ0 P => δ0 = δ ∧ P ds δ'
def TTe (X : Cx) (F : Fm) (e : Expr) (δ : List S) (b : Bool) (δ' : List S) : Prop := DTe X F e fun δ0 P => δ0 = δ ∧ P b δ'
def TTs (X : Cx) (F : Fm) (es : List Expr) (δ : List S) (b : Bool) (δ' : List S) : Prop := DTs X F es fun δ0 P => δ0 = δ ∧ P b δ'
def TW (X : Cx) (F : Fm) (e : Expr) (δ : List S) (b : Bool) (δ' : List S) : Prop := DW X F e fun δ0 P => δ0 = δ ∧ P b δ'
def TOp (X : Cx) (F : Fm) (e : Option Expr) (δ : List S) (o : Option Int) (δ' : List S) : Prop := DO X F e fun δ0 P => δ0 = δ ∧ P o δ'
/-- what is walked; a sequence that stands is not too long -/
def TIt (X : Cx) (F : Fm) (tg e : Expr) (δ : List S) (ds : List D) (δ' : List S) : Prop := DI X F tg e fun δ0 P => δ0 = δ ∧ (ds.length ≤ sizeLine → P ds δ')
section
variable {X : Cx} {F : Fm} {e a b c tg : Expr} {es : List Expr} {pos : Pos} {δ δ' δ1 δ2 δ3 : List S} {d d1 d2 : D} {ds ds1 : List D} {x y : Int} {k k1 k2 : Bool}
theorem TE.of {t : WE} (h : DE X F e t) (z : ∀ P, P d δ' → t δ P) : TE X F e δ d δ' := DE.imp h fun δ0 P ⟨e, p⟩ => by rw [e]; exact z P p
theorem DP.imp {t t' : WE} (h : DP X F e t) (z : ∀ δ P, t' δ P → t δ P) : DP X F e t' := PE.imp h fun σ H Q ⟨Hf, δ, P, R, q, w⟩ => ⟨Hf, δ, P, R, z _ _ q, w⟩
theorem DN.imp {t t' : WA} (h : DN X F e t) (z : ∀ δ P, t' δ P → t δ P) : DN X F e t' := PE.imp h fun σ H Q ⟨Hf, δ, P, R, q, w⟩ => ⟨Hf, δ, P, R, z _ _ q, w⟩
theorem DA.imp {t t' : WA} (h : DA X F es t) (z : ∀ δ P, t' δ P → t δ P) : DA X F es t' := PA.imp h fun σ H Q ⟨Hf, δ, P, R, q, w⟩ => ⟨Hf, δ, P, R, z _ _ q, w⟩
theorem DTe.imp {t t' : WT} (h : DTe X F e t) (z : ∀ δ P, t' δ P → t δ P) : DTe X F e t' := PT.imp h fun σ H Q ⟨Hf, δ, P, R, q, w⟩ => ⟨Hf, δ, P, R, z _ _ q, w⟩
theorem DTs.imp {t t' : WT} (h : DTs X F es t) (z : ∀ δ P, t' δ P → t δ P) : DTs X F es t' := PTs.imp h fun σ H Q ⟨Hf, δ, P, R, q, w⟩ => ⟨Hf, δ, P, R, z _ _ q, w⟩
theorem DW.imp {t t' : WT} (h : DW X F e t) (z : ∀ δ P, t' δ P → t δ P) : DW X F e t' := PW.imp h fun σ H Q ⟨Hf, δ, P, R, q, w⟩ => ⟨Hf, δ, P, R, z _ _ q, w⟩
theorem DI.imp {t t' : WI} (h : DI X F tg e t) (z : ∀ δ P, t' δ P → t δ P) : DI X F tg e t' := PI.imp h fun σ H Q ⟨Hf, δ, P, R, q, w⟩ => ⟨Hf, δ, P, R, z _ _ q, w⟩
theorem DO.imp {o : Option Expr} {t t' : WO} (h : DO X F o t) (z : ∀ δ P, t' δ P → t δ P) : DO X F o t' := PO.imp h fun σ H Q ⟨Hf, δ, P, R, q, w⟩ => ⟨Hf, δ, P, R, z _ _ q, w⟩
theorem TP.of {t : WE} (h : DP X F e t) (z : ∀ P, P d δ' → t δ P) : TP X F e δ d δ' := DP.imp h fun δ0 P ⟨e, p⟩ => by rw [e]; exact z P p
theorem TN.of {t : WA} (h : DN X F e t) (z : ∀ P, P ds δ' → t δ P) : TN X F e δ ds δ' := DN.imp h fun δ0 P ⟨e, p⟩ => by rw [e]; exact z P p
theorem TAs.of {t : WA} (h : DA X F es t) (z : ∀ P, P ds δ' → t δ P) : TAs X F es δ ds δ' := DA.imp h fun δ0 P ⟨e, p⟩ => by rw [e]; exact z P p
theorem TTe.of {t : WT} (h : DTe X F e t) (z : ∀ P, P k δ' → t δ P) : TTe X F e δ k δ' := DTe.imp h fun δ0 P ⟨e, p⟩ => by rw [e]; exact z P p
theorem TTs.of {t : WT} (h : DTs X F es t) (z : ∀ P, P k δ' → t δ P) : TTs X F es δ k δ' := DTs.imp h fun δ0 P ⟨e, p⟩ => by rw [e]; exact z P p
theorem TW.of {t : WT} (h : DW X F e t) (z : ∀ P, P k δ' → t δ P) : TW X F e δ k δ' := DW.imp h fun δ0 P ⟨e, p⟩ => by rw [e]; exact z P p
theorem TOp.of {o : Option Expr} {r : Option Int} {t : WO} (h : DO X F o t) (z : ∀ P, P r δ' → t δ P) : TOp X F o δ r δ' := DO.imp h fun δ0 P ⟨e, p⟩ => by rw [e]; exact z P p
theorem TIt.of {t : WI} (h : DI X F tg e t) (z : ∀ P, (ds.length ≤ sizeLine → P ds δ') → t δ P) : TIt X F tg e δ ds δ' := DI.imp h fun δ0 P ⟨e, p⟩ => by rw [e]; exact z P p
theorem TE.tp (h : TE X F e δ d δ') : TP X F e δ d δ' := DE.dp h
theorem TN.te (h : TN X F e δ ds δ') : TE X F e δ (.lst ds) δ' := TE.of (DN.de h) fun P p => ⟨rfl, p⟩
theorem TN.tp (h : TN X F e δ ds δ') : TP X F e δ (.lst ds) δ' := h.te.tp
theorem TE.cast (h : TE X F e δ d δ') (q : d = d1) : TE X F e δ d1 δ' := q ▸ h
theorem TP.cast (h : TP X F e δ d δ') (q : d = d1) : TP X F e δ d1 δ' := q ▸ h
theorem TN.cast (h : TN X F e δ ds δ') (q : ds = ds1) : TN X F e δ ds1 δ' := q ▸ h
theorem TTe.cast (h : TTe X F e δ k δ') (q : k = k1) : TTe X F e δ k1 δ' := q ▸ h
theorem TIt.cast (h : TIt X F tg e δ ds δ') (q : ds = ds1) : TIt X F tg e δ ds1 δ' := q ▸ h

/-! ### names, constants -/
theorem te_var {i : Nat} (h : PE X e (tVar i)) (q : δ[i]? = some (.dat d) := by rfl) : TE X F e δ d δ := TE.of (de_var h) fun P p => ⟨d, q, p⟩
theorem tp_own {i : Nat} (h : PE X e (tVar i)) (q : δ[i]? = some (.own ds) := by rfl) : TP X F e δ (.lst ds) δ := TP.of (dp_own h) fun P p => ⟨ds, q, p⟩
theorem te_frz {i : Nat} (h : PE X e (tVar i)) (hio : NoIo F i) (q : δ[i]? = some (.own ds) := by rfl) : TE X F e δ (.lst ds) (δ.set i (.dat (.lst ds))) := TE.of (de_frz h hio) fun P p => ⟨ds, q, p⟩
theorem te_int {i : Int} {j} : TE X F (.Constant (.int i) j pos) δ (.int i) δ := TE.of de_int fun P p => p
theorem te_bl {i : Bool} {j} : TE X F (.Constant (.bool i) j pos) δ (.bl i) δ := TE.of de_bl fun P p => p
theorem te_non {j} : TE X F (.Constant .none j pos) δ .non δ := TE.of de_non fun P p => p
theorem te_str {z : Str} {j} : TE X F (.Constant (.str z) j pos) δ (.str z) δ := TE.of de_str fun P p => p
theorem te_glob {i : Int} (h : PE X e (tC (.int i))) : TE X F e δ (.int i) δ := TE.of (de_c h fun _ _ => .int _) fun P p => p

/-! ### numbers -/
theorem te_add (ha : TE X F a δ (.int x) δ1) (hb : TP X F b δ1 (.int y) δ2) : TE X F (.BinOp a .Add b pos) δ (.int (x + y)) δ2 := TE.of (d_add ha hb) fun P p => ⟨rfl, rfl, _, _, rfl, rfl, trivial, p⟩
theorem te_sub (ha : TE X F a δ (.int x) δ1) (hb : TP X F b δ1 (.int y) δ2) : TE X F (.BinOp a .Sub b pos) δ (.int (x - y)) δ2 := TE.of (d_sub ha hb) fun P p => ⟨rfl, rfl, _, _, rfl, rfl, trivial, p⟩
theorem te_mul (ha : TE X F a δ (.int x) δ1) (hb : TP X F b δ1 (.int y) δ2) (h : CMul x y) : TE X F (.BinOp a .Mult b pos) δ (.int (x * y)) δ2 := TE.of (d_mul ha hb) fun P p => ⟨rfl, rfl, _, _, rfl, rfl, h, p⟩
theorem te_fdiv (ha : TE X F a δ (.int x) δ1) (hb : TP X F b δ1 (.int y) δ2) (h : CDiv x y) : TE X F (.BinOp a .FloorDiv b pos) δ (.int (x / y)) δ2 := TE.of (d_fdiv ha hb) fun P p => ⟨rfl, rfl, _, _, rfl, rfl, h, p⟩
theorem te_mod (ha : TE X F a δ (.int x) δ1) (hb : TP X F b δ1 (.int y) δ2) (h : 0 < y) : TE X F (.BinOp a .Mod b pos) δ (.int (x % y)) δ2 := TE.of (d_mod ha hb) fun P p => ⟨rfl, rfl, _, _, rfl, rfl, h, p⟩
theorem te_pow (ha : TE X F a δ (.int x) δ1) (hb : TP X F b δ1 (.int y) δ2) (h : CPow x y) : TE X F (.BinOp a .Pow b pos) δ (.int (x ^ y.toNat)) δ2 := TE.of (d_pow ha hb) fun P p => ⟨rfl, rfl, _, _, rfl, rfl, h, p⟩
theorem te_shl (ha : TE X F a δ (.int x) δ1) (hb : TP X F b δ1 (.int y) δ2) (h : CPow x y) : TE X F (.BinOp a .LShift b pos) δ (.int (x * 2 ^ y.toNat)) δ2 := TE.of (d_shl ha hb) fun P p => ⟨rfl, rfl, _, _, rfl, rfl, h, p⟩
theorem te_shr (ha : TE X F a δ (.int x) δ1) (hb : TP X F b δ1 (.int y) δ2) (h : 0 ≤ y) : TE X F (.BinOp a .RShift b pos) δ (.int (x / 2 ^ y.toNat)) δ2 := TE.of (d_shr ha hb) fun P p => ⟨rfl, rfl, _, _, rfl, rfl, h, p⟩
theorem te_and (ha : TE X F a δ (.int x) δ1) (hb : TP X F b δ1 (.int y) δ2) : TE X F (.BinOp a .BitAnd b pos) δ (.int (Builtin.bitAnd x y)) δ2 := TE.of (d_and ha hb) fun P p => ⟨rfl, rfl, _, _, rfl, rfl, trivial, p⟩
theorem te_bor (ha : TE X F a δ (.int x) δ1) (hb : TP X F b δ1 (.int y) δ2) : TE X F (.BinOp a .BitOr b pos) δ (.int (Builtin.bitOr x y)) δ2 := TE.of (d_or ha hb) fun P p => ⟨rfl, rfl, _, _, rfl, rfl, trivial, p⟩
theorem te_neg (ha : TE X F a δ (.int x) δ1) : TE X F (.UnaryOp .USub a pos) δ (.int (-x)) δ1 := TE.of (d_neg ha) fun P p => ⟨rfl, _, rfl, p⟩
theorem te_lt (ha : TE X F a δ (.int x) δ1) (hb : TP X F b δ1 (.int y) δ2) : TE X F (.Compare a [.Lt] [b] pos) δ (.bl (decide (x < y))) δ2 := TE.of (d_lt ha hb) fun P p => ⟨rfl, rfl, _, _, rfl, rfl, trivial, p⟩
theorem te_le (ha : TE X F a δ (.int x) δ1) (hb : TP X F b δ1 (.int y) δ2) : TE X F (.Compare a [.LtE] [b] pos) δ (.bl (decide (x ≤ y))) δ2 := TE.of (d_le ha hb) fun P p => ⟨rfl, rfl, _, _, rfl, rfl, trivial, p⟩
theorem te_gt (ha : TE X F a δ (.int x) δ1) (hb : TP X F b δ1 (.int y) δ2) : TE X F (.Compare a [.Gt] [b] pos) δ (.bl (decide (y < x))) δ2 := TE.of (d_gt ha hb) fun P p => ⟨rfl, rfl, _, _, rfl, rfl, trivial, p⟩
theorem te_ge (ha : TE X F a δ (.int x) δ1) (hb : TP X F b δ1 (.int y) δ2) : TE X F (.Compare a [.GtE] [b] pos) δ (.bl (decide (y ≤ x))) δ2 := TE.of (d_ge ha hb) fun P p => ⟨rfl, rfl, _, _, rfl, rfl, trivial, p⟩
theorem tt_lt (ha : TE X F a δ (.int x) δ1) (hb : TP X F b δ1 (.int y) δ2) : TTe X F (.Compare a [.Lt] [b] pos) δ (decide (x < y)) δ2 := TTe.of (dt_lt ha hb) fun P p => ⟨rfl, rfl, _, _, rfl, rfl, trivial, _, rfl, p⟩
theorem tt_le (ha : TE X F a δ (.int x) δ1) (hb : TP X F b δ1 (.int y) δ2) : TTe X F (.Compare a [.LtE] [b] pos) δ (decide (x ≤ y)) δ2 := TTe.of (dt_le ha hb) fun P p => ⟨rfl, rfl, _, _, rfl, rfl, trivial, _, rfl, p⟩
theorem tt_gt (ha : TE X F a δ (.int x) δ1) (hb : TP X F b δ1 (.int y) δ2) : TTe X F (.Compare a [.Gt] [b] pos) δ (decide (y < x)) δ2 := TTe.of (dt_gt ha hb) fun P p => ⟨rfl, rfl, _, _, rfl, rfl, trivial, _, rfl, p⟩
theorem tt_ge (ha : TE X F a δ (.int x) δ1) (hb : TP X F b δ1 (.int y) δ2) : TTe X F (.Compare a [.GtE] [b] pos) δ (decide (y ≤ x)) δ2 := TTe.of (dt_ge ha hb) fun P p => ⟨rfl, rfl, _, _, rfl, rfl, trivial, _, rfl, p⟩
theorem te_chainLL {z : Int} (ha : TE X F a δ (.int x) δ1) (hb : TE X F b δ1 (.int y) δ2) (hc : TE X F c δ2 (.int z) δ2) (hm : lastMarks [.LtE, .LtE] [b, c] = false := by rfl) : TE X F (.Compare a [.LtE, .LtE] [b, c] pos) δ (.bl (decide (x ≤ y) && decide (y ≤ z))) δ2 :=
  TE.of (d_chain (f := fun i j => decide (i ≤ j)) (g := fun i j => decide (i ≤ j)) op_le op_le ha hb hc fun _ _ _ h1 h2 h3 => pe_chain op_le op_le h1 h2 h3 (hm := hm)) fun P p => ⟨rfl, rfl, _, _, rfl, rfl, by
    by_cases h : x ≤ y
    · have e : decide (x ≤ y) = true := decide_eq_true h
      rw [if_pos e]; exact ⟨rfl, _, rfl, by rw [e, Bool.true_and] at p; exact p⟩
    · have e : ¬ decide (x ≤ y) = true := by simpa using h
      have e2 : decide (x ≤ y) = false := by simpa using h
      rw [if_neg e]; rw [e2, Bool.false_and] at p; exact p⟩
theorem tt_chainLL {z : Int} (ha : TE X F a δ (.int x) δ1) (hb : TE X F b δ1 (.int y) δ2) (hc : TE X F c δ2 (.int z) δ2) (hm : lastMarks [.LtE, .LtE] [b, c] = false := by rfl) : TTe X F (.Compare a [.LtE, .LtE] [b, c] pos) δ (decide (x ≤ y) && decide (y ≤ z)) δ2 :=
  TTe.of (dt_chain (f := fun i j => decide (i ≤ j)) (g := fun i j => decide (i ≤ j)) op_le op_le ha hb hc fun _ _ _ h1 h2 h3 => pt_chain op_le op_le h1 h2 h3 (hm := hm)) fun P p => ⟨rfl, rfl, _, _, rfl, rfl, by
    by_cases h : x ≤ y
    · have e : decide (x ≤ y) = true := decide_eq_true h
      rw [if_pos e]; exact ⟨rfl, _, rfl, _, rfl, by rw [e, Bool.true_and] at p; exact p⟩
    · have e : ¬ decide (x ≤ y) = true := by simpa using h
      have e2 : decide (x ≤ y) = false := by simpa using h
      rw [if_neg e]; rw [e2, Bool.false_and] at p; exact ⟨_, rfl, p⟩⟩

/-! ### True and False -/
theorem pe_nev : PE X e (fun _ _ _ => False) := ⟨fun _ _ _ _ _ _ h => h.elim⟩
theorem pt_nev : PT X e (fun _ _ _ => False) := ⟨fun _ _ _ _ _ _ h => h.elim⟩
theorem pw_nev : PW X e (fun _ _ _ => False) := ⟨fun _ _ _ _ _ _ _ h => h.elim⟩
theorem de_nev : DE X F e fun _ _ => False := PE.imp pe_nev fun σ H Q ⟨_, _, _, _, f, _⟩ => f.elim
theorem dte_nev : DTe X F e fun _ _ => False := PT.imp pt_nev fun σ H Q ⟨_, _, _, _, f, _⟩ => f.elim
theorem dw_nev : DW X F e fun _ _ => False := PW.imp pw_nev fun σ H Q ⟨_, _, _, _, f, _⟩ => f.elim
variable {rest : List Expr} {l : Bool}
theorem te_one {op} (ha : TE X F a δ d δ') : TE X F (.BoolOp op [a] pos) δ d δ' := de_one ha
theorem te_band (ha : TE X F a δ (.bl k) δ1) (hb : k = true → TE X F (.BoolOp .And (b :: rest) pos) δ1 (.bl l) δ2) (q1 : k = true → δ2 = δ3 := by intro _; rfl) (q0 : k = false → δ1 = δ3 := by intro _; rfl) : TE X F (.BoolOp .And (a :: b :: rest) pos) δ (.bl (k && l)) δ3 := by
  cases k with
  | true => cases q1 rfl; exact TE.of (de_and ha (hb rfl)) fun P p => ⟨rfl, true, rfl, iteT ⟨rfl, by simpa using p⟩⟩
  | false => cases q0 rfl; exact TE.of (de_and ha de_nev) fun P p => ⟨rfl, false, rfl, iteF (by simpa using p)⟩
theorem te_or (ha : TE X F a δ (.bl k) δ1) (hb : k = false → TE X F (.BoolOp .Or (b :: rest) pos) δ1 (.bl l) δ2) (q1 : k = true → δ1 = δ3 := by intro _; rfl) (q0 : k = false → δ2 = δ3 := by intro _; rfl) : TE X F (.BoolOp .Or (a :: b :: rest) pos) δ (.bl (k || l)) δ3 := by
  cases k with
  | true => cases q1 rfl; exact TE.of (de_or ha de_nev) fun P p => ⟨rfl, true, rfl, iteT (by simpa using p)⟩
  | false => cases q0 rfl; exact TE.of (de_or ha (hb rfl)) fun P p => ⟨rfl, false, rfl, iteF ⟨rfl, by simpa using p⟩⟩
theorem te_not (ha : TE X F a δ (.bl k) δ1) : TE X F (.UnaryOp .Not a pos) δ (.bl (!k)) δ1 := TE.of (de_not ha) fun P p => ⟨rfl, _, rfl, p⟩
theorem te_if {α : Type} {em : α → D} {u v : α} (hc : TTe X F c δ k δ1) (ha : k = true → TE X F a δ1 (em u) δ2) (hb : k = false → TE X F b δ1 (em v) δ3) {δ4 : List S} (q1 : k = true → δ2 = δ4 := by intro _; rfl) (q0 : k = false → δ3 = δ4 := by intro _; rfl) :
    TE X F (.IfExp c a b pos) δ (em (if k = true then u else v)) δ4 := by
  cases k with
  | true => cases q1 rfl; exact TE.of (de_if hc (ha rfl) de_nev) fun P p => ⟨rfl, iteT ⟨rfl, p⟩⟩
  | false => cases q0 rfl; exact TE.of (de_if hc de_nev (hb rfl)) fun P p => ⟨rfl, iteF ⟨rfl, p⟩⟩
theorem tt_val (h : TE X F e δ (.bl k) δ') (he : ∀ whole, isTrue e X.env whole = (do let v ← whole; standAt e.pos; holding [v] (truthy v)) := by intro _; rfl) : TTe X F e δ k δ' := TTe.of (dt_val h he) fun P p => ⟨rfl, _, rfl, p⟩
theorem tt_tru (h : TP X F e δ d δ') (q : truD d = some k) (he : ∀ whole, isTrue e X.env whole = (do let v ← whole; standAt e.pos; holding [v] (truthy v)) := by intro _; rfl) : TTe X F e δ k δ' := TTe.of (dt_tru h he) fun P p => ⟨rfl, _, q, p⟩
theorem tt_not (h : TTe X F a δ k δ') : TTe X F (.UnaryOp .Not a pos) δ (!k) δ' := TTe.of (dt_not h) fun P p => ⟨rfl, p⟩
theorem tw_and1 (h : TTe X F a δ k δ') : TW X F (.BoolOp .And [a] pos) δ k δ' := dw_and1 h
theorem tw_or1 (h : TTe X F a δ k δ') : TW X F (.BoolOp .Or [a] pos) δ k δ' := dw_or1 h
theorem tw_and (ha : TTe X F a δ k δ1) (hb : k = true → TW X F (.BoolOp .And (b :: rest) pos) δ1 l δ2) (q1 : k = true → δ2 = δ3 := by intro _; rfl) (q0 : k = false → δ1 = δ3 := by intro _; rfl) : TW X F (.BoolOp .And (a :: b :: rest) pos) δ (k && l) δ3 := by
  cases k with
  | true => cases q1 rfl; exact TW.of (dw_and ha (hb rfl)) fun P p => ⟨rfl, iteT ⟨rfl, by simpa using p⟩⟩
  | false => cases q0 rfl; exact TW.of (dw_and ha dw_nev) fun P p => ⟨rfl, iteF (by simpa using p)⟩
theorem tw_or (ha : TTe X F a δ k δ1) (hb : k = false → TW X F (.BoolOp .Or (b :: rest) pos) δ1 l δ2) (q1 : k = true → δ1 = δ3 := by intro _; rfl) (q0 : k = false → δ2 = δ3 := by intro _; rfl) : TW X F (.BoolOp .Or (a :: b :: rest) pos) δ (k || l) δ3 := by
  cases k with
  | true => cases q1 rfl; exact TW.of (dw_or ha dw_nev) fun P p => ⟨rfl, iteT (by simpa using p)⟩
  | false => cases q0 rfl; exact TW.of (dw_or ha (hb rfl)) fun P p => ⟨rfl, iteF ⟨rfl, by simpa using p⟩⟩
theorem tt_w (h : TW X F e δ k δ') : TTe X F e δ k δ' := dt_w h

/-! ### == of data -/
end
structure Py {α : Type} (e : α → D) where
  py : α → PyData
  ok : ∀ x, DT.py (e x) = some (py x)
  can : ∀ x, (py x).canLay0 = true
  dep : Nat
  depth : ∀ x, (py x).depth ≤ dep
  eqv : ∀ x y, PyData.eqv (py x) (py y) = true ↔ x = y
def pyI : Py eI := ⟨.int, fun _ => rfl, fun _ => by simp [PyData.canLay0], 0, fun _ => by simp [PyData.depth], fun x y => by simp [PyData.eqv]⟩
def pyB : Py eB := ⟨.bool, fun _ => rfl, fun _ => by simp [PyData.canLay0], 0, fun _ => by simp [PyData.depth], fun x y => by simp [PyData.eqv]⟩
section
variable {α : Type} {e : α → D} (p : Py e)
theorem pys_map : ∀ xs : List α, pys (xs.map e) = some (xs.map p.py)
  | [] => rfl
  | x :: xs => by rw [List.map_cons, pys, p.ok, pys_map xs]; rfl
theorem can_map : ∀ xs : List α, PyData.canLayAll0 (xs.map p.py) = true
  | [] => by simp [PyData.canLayAll0]
  | x :: xs => by simp [PyData.canLayAll0, p.can x, can_map xs]
theorem dep_map : ∀ xs : List α, PyData.depthAll (xs.map p.py) ≤ p.dep
  | [] => by simp [PyData.depthAll]
  | x :: xs => by
    have a := p.depth x
    have b := dep_map xs
    simp only [List.map_cons, PyData.depthAll]; omega
theorem eqv_map : ∀ xs ys : List α, PyData.eqvAll (xs.map p.py) (ys.map p.py) = true ↔ xs = ys
  | [], [] => by simp [PyData.eqvAll]
  | [], y :: ys => by simp [PyData.eqvAll]
  | x :: xs, [] => by simp [PyData.eqvAll]
  | x :: xs, y :: ys => by simp [PyData.eqvAll, p.eqv x y, eqv_map xs ys]
def pyT : Py (eT e) := ⟨fun xs => .tuple (xs.map p.py), fun xs => by simp only [eT, DT.py, pys_map p xs]; rfl, fun xs => by simp [PyData.canLay0, can_map p xs], p.dep + 1, fun xs => by have := dep_map p xs; simp only [PyData.depth]; omega,
  fun x y => by simp only [PyData.eqv]; exact eqv_map p x y⟩
def pyL : Py (eL e) := ⟨fun xs => .list (xs.map p.py), fun xs => by simp only [eL, DT.py, pys_map p xs]; rfl, fun xs => by simp [PyData.canLay0, can_map p xs], p.dep + 1, fun xs => by have := dep_map p xs; simp only [PyData.depth]; omega,
  fun x y => by simp only [PyData.eqv]; exact eqv_map p x y⟩
def pyP2 {β : Type} {f : β → D} (q : Py f) : Py (eP2 e f) := ⟨fun z => .tuple [p.py z.1, q.py z.2], fun z => by simp only [eP2, DT.py, pys, p.ok, q.ok]; rfl, fun z => by simp [PyData.canLay0, PyData.canLayAll0, p.can, q.can], max p.dep q.dep + 1,
  fun z => by have := p.depth z.1; have := q.depth z.2; simp only [PyData.depth, PyData.depthAll]; omega, fun x y => by simp only [PyData.eqv, PyData.eqvAll, Bool.and_true, Bool.and_eq_true, p.eqv, q.eqv]; exact Prod.ext_iff.symm⟩
end
section
variable {X : Cx} {F : Fm} {e a b c tg : Expr} {es : List Expr} {pos : Pos} {δ δ' δ1 δ2 δ3 : List S} {d d1 d2 : D} {ds ds1 : List D} {k k1 k2 : Bool}
variable {α : Type} [DecidableEq α] {em : α → D} {x y : α}
theorem Py.geq {p : Py em} (hd : p.dep ≤ 64) {P : D → Prop} {f : Bool → Bool} (h : P (.bl (f (decide (x = y))))) : gEq f (em x) (em y) P := by
  refine ⟨p.py x, p.py y, p.ok x, p.ok y, ?_, ?_, ?_⟩
  · unfold SeqAt.shaped; simp only [p.can, Bool.true_and, decide_eq_true_eq]; exact Nat.le_trans (p.depth x) hd
  · unfold SeqAt.shaped; simp only [p.can, Bool.true_and, decide_eq_true_eq]; exact Nat.le_trans (p.depth y) hd
  · have e : PyData.eqv (p.py x) (p.py y) = decide (x = y) := by rw [Bool.eq_iff_iff, p.eqv, decide_eq_true_eq]
    rw [e]; exact h
theorem te_eq (p : Py em) (hu : X.A.units + 64 < cLine) (ha : TP X F a δ (em x) δ1) (hb : TP X F b δ1 (em y) δ2) (hk : Kp δ1 δ2 := by exact Kp.refl _) (hd : p.dep ≤ 64 := by decide) : TE X F (.Compare a [.Eq] [b] pos) δ (.bl (decide (x = y))) δ2 :=
  TE.of (d_eq hu ha hb) fun P q => ⟨rfl, rfl, hk, Py.geq hd (f := id) q⟩
theorem te_ne (p : Py em) (hu : X.A.units + 64 < cLine) (ha : TP X F a δ (em x) δ1) (hb : TP X F b δ1 (em y) δ2) (hk : Kp δ1 δ2 := by exact Kp.refl _) (hd : p.dep ≤ 64 := by decide) : TE X F (.Compare a [.NotEq] [b] pos) δ (.bl (!decide (x = y))) δ2 :=
  TE.of (d_ne hu ha hb) fun P q => ⟨rfl, rfl, hk, Py.geq hd (f := not) q⟩
theorem tt_eq (p : Py em) (hu : X.A.units + 64 < cLine) (ha : TP X F a δ (em x) δ1) (hb : TP X F b δ1 (em y) δ2) (hk : Kp δ1 δ2 := by exact Kp.refl _) (hd : p.dep ≤ 64 := by decide) : TTe X F (.Compare a [.Eq] [b] pos) δ (decide (x = y)) δ2 :=
  TTe.of (dt_eq hu ha hb) fun P q => ⟨rfl, rfl, hk, Py.geq hd (f := id) ⟨_, rfl, q⟩⟩
theorem tt_ne (p : Py em) (hu : X.A.units + 64 < cLine) (ha : TP X F a δ (em x) δ1) (hb : TP X F b δ1 (em y) δ2) (hk : Kp δ1 δ2 := by exact Kp.refl _) (hd : p.dep ≤ 64 := by decide) : TTe X F (.Compare a [.NotEq] [b] pos) δ (!decide (x = y)) δ2 :=
  TTe.of (dt_ne hu ha hb) fun P q => ⟨rfl, rfl, hk, Py.geq hd (f := not) ⟨_, rfl, q⟩⟩
/-! texts -/
def gEqS (f : Bool → Bool) : D → D → (D → Prop) → Prop := fun x y P => ∃ s t, x = .str s ∧ y = .str t ∧ P (.bl (f (decide (s = t))))
theorem dec_str {s t : Str} : decide (V.str s = V.str t) = decide (s = t) := by rw [Bool.eq_iff_iff]; simp
theorem r2_eqS {K : PySem.W.Frag} : R2D K F rEq (gEqS id) := by
  rintro Hf H σ δ x y a b P Q R rx ry ⟨s, t, rfl, rfl, p⟩ k
  rw [rx.strE, ry.strE]
  exact ⟨rfl, by rw [dec_str]; exact k _ p Hf H _ (Same.refl _) R (.bl _)⟩
theorem r2_neS {K : PySem.W.Frag} : R2D K F rNe (gEqS not) := by
  rintro Hf H σ δ x y a b P Q R rx ry ⟨s, t, rfl, rfl, p⟩ k
  rw [rx.strE, ry.strE]
  exact ⟨rfl, by rw [dec_str]; exact k _ p Hf H _ (Same.refl _) R (.bl _)⟩
variable {s t : Str}
theorem te_eqS (ha : TP X F a δ (.str s) δ1) (hb : TP X F b δ1 (.str t) δ2) (hk : Kp δ1 δ2 := by exact Kp.refl _) : TE X F (.Compare a [.Eq] [b] pos) δ (.bl (decide (s = t))) δ2 :=
  TE.of (dbinP (fun _ _ h1 h2 => pe_cmpR op_eq h1 h2 (nomark _)) r2_eqS ha hb) fun P q => ⟨rfl, rfl, hk, _, _, rfl, rfl, q⟩
theorem te_neS (ha : TP X F a δ (.str s) δ1) (hb : TP X F b δ1 (.str t) δ2) (hk : Kp δ1 δ2 := by exact Kp.refl _) : TE X F (.Compare a [.NotEq] [b] pos) δ (.bl (!decide (s = t))) δ2 :=
  TE.of (dbinP (fun _ _ h1 h2 => pe_cmpR op_ne h1 h2 (nomark _)) r2_neS ha hb) fun P q => ⟨rfl, rfl, hk, _, _, rfl, rfl, q⟩
theorem tt_eqS (ha : TP X F a δ (.str s) δ1) (hb : TP X F b δ1 (.str t) δ2) (hk : Kp δ1 δ2 := by exact Kp.refl _) : TTe X F (.Compare a [.Eq] [b] pos) δ (decide (s = t)) δ2 :=
  TTe.of (dt_of (pt_cmpR op_eq ha hb (nomark _)) (binP_lift r2_eqS)) fun P q => ⟨rfl, rfl, hk, _, _, rfl, rfl, _, rfl, q⟩
theorem tt_neS (ha : TP X F a δ (.str s) δ1) (hb : TP X F b δ1 (.str t) δ2) (hk : Kp δ1 δ2 := by exact Kp.refl _) : TTe X F (.Compare a [.NotEq] [b] pos) δ (!decide (s = t)) δ2 :=
  TTe.of (dt_of (pt_cmpR op_ne ha hb (nomark _)) (binP_lift r2_neS)) fun P q => ⟨rfl, rfl, hk, _, _, rfl, rfl, _, rfl, q⟩
end
end DT
end
section
set_option maxHeartbeats 4000000
namespace DT
open PySem PySem.Spec PyProof.Rows L2
/-! ## functions over Lean's lists that built-ins are -/
def pyIx {α : Type} [Inhabited α] (xs : List α) (i : Int) : α := xs.getD (if 0 ≤ i then i.toNat else (i + xs.length).toNat) default
def IxOk {α : Type} (xs : List α) (i : Int) : Prop := -(xs.length : Int) ≤ i ∧ i < xs.length
theorem atI_pyIx {α : Type} [Inhabited α] {xs : List α} {i : Int} (h : IxOk xs i) : L2.atI xs i = some (pyIx xs i) := by
  obtain ⟨h1, h2⟩ := h
  unfold L2.atI L2.ixN pyIx
  by_cases h0 : 0 ≤ i
  · rw [if_pos h0, if_pos h0, if_pos h2]
    have hl : i.toNat < xs.length := by omega
    simp [List.getD_eq_getElem?_getD, List.getElem?_eq_getElem hl]
  · rw [if_neg h0, if_neg h0, if_pos h1]
    have hl : (i + xs.length).toNat < xs.length := by omega
    simp [List.getD_eq_getElem?_getD, List.getElem?_eq_getElem hl]
theorem atI_map {α β : Type} (f : α → β) (xs : List α) (i : Int) : L2.atI (xs.map f) i = (L2.atI xs i).map f := by
  unfold L2.atI; rw [List.length_map]
  cases L2.ixN xs.length i with
  | none => rfl
  | some j => simp
def pyCut {α : Type} (xs : List α) (lo hi : Option Int) : List α := (xs.drop (HT.sIx xs.length 0 lo)).take (HT.sIx xs.length xs.length hi - HT.sIx xs.length 0 lo)
theorem cut_map {α : Type} (e : α → D) (xs : List α) (lo hi : Option Int) : cutD (xs.map e) lo hi = (pyCut xs lo hi).map e := by
  unfold cutD pyCut; rw [List.length_map, List.map_take, List.map_drop]
def maxL : List Int → Int
  | [] => 0
  | x :: xs => xs.foldl max x
def minL : List Int → Int
  | [] => 0
  | x :: xs => xs.foldl min x
theorem foldl_max : ∀ (xs : List Int) (x : Int), (xs.foldl max x = x ∨ xs.foldl max x ∈ xs) ∧ x ≤ xs.foldl max x ∧ ∀ y ∈ xs, y ≤ xs.foldl max x
  | [], x => ⟨.inl rfl, Int.le_refl _, fun _ h => absurd h List.not_mem_nil⟩
  | z :: xs, x => by
    obtain ⟨h1, h2, h3⟩ := foldl_max xs (max x z)
    rw [List.foldl_cons]
    refine ⟨?_, by omega, fun y hy => ?_⟩
    · rcases h1 with h1 | h1
      · rw [h1]
        by_cases h : x ≤ z
        · right; rw [Int.max_eq_right h]; exact List.mem_cons_self
        · left; exact Int.max_eq_left (by omega)
      · exact .inr (List.mem_cons_of_mem _ h1)
    · rcases List.mem_cons.mp hy with e | e
      · subst e; omega
      · exact h3 y e
theorem foldl_min : ∀ (xs : List Int) (x : Int), (xs.foldl min x = x ∨ xs.foldl min x ∈ xs) ∧ xs.foldl min x ≤ x ∧ ∀ y ∈ xs, xs.foldl min x ≤ y
  | [], x => ⟨.inl rfl, Int.le_refl _, fun _ h => absurd h List.not_mem_nil⟩
  | z :: xs, x => by
    obtain ⟨h1, h2, h3⟩ := foldl_min xs (min x z)
    rw [List.foldl_cons]
    refine ⟨?_, by omega, fun y hy => ?_⟩
    · rcases h1 with h1 | h1
      · rw [h1]
        by_cases h : z ≤ x
        · right; rw [Int.min_eq_right h]; exact List.mem_cons_self
        · left; exact Int.min_eq_left (by omega)
      · exact .inr (List.mem_cons_of_mem _ h1)
    · rcases List.mem_cons.mp hy with e | e
      · subst e; omega
      · exact h3 y e
theorem maxL_mem {xs : List Int} (h : xs ≠ []) : maxL xs ∈ xs := by
  cases xs with
  | nil => exact absurd rfl h
  | cons x xs =>
    rcases (foldl_max xs x).1 with e | e
    · show xs.foldl max x ∈ _; rw [e]; exact List.mem_cons_self
    · exact List.mem_cons_of_mem _ e
theorem le_maxL {xs : List Int} {y : Int} (h : y ∈ xs) : y ≤ maxL xs := by
  cases xs with
  | nil => exact absurd h List.not_mem_nil
  | cons x xs =>
    rcases List.mem_cons.mp h with e | e
    · subst e; exact (foldl_max xs y).2.1
    · exact (foldl_max xs x).2.2 y e
theorem minL_mem {xs : List Int} (h : xs ≠ []) : minL xs ∈ xs := by
  cases xs with
  | nil => exact absurd rfl h
  | cons x xs =>
    rcases (foldl_min xs x).1 with e | e
    · show xs.foldl min x ∈ _; rw [e]; exact List.mem_cons_self
    · exact List.mem_cons_of_mem _ e
theorem minL_le {xs : List Int} {y : Int} (h : y ∈ xs) : minL xs ≤ y := by
  cases xs with
  | nil => exact absurd h List.not_mem_nil
  | cons x xs =>
    rcases List.mem_cons.mp h with e | e
    · subst e; exact (foldl_min xs y).2.1
    · exact (foldl_min xs x).2.2 y e
/-- sorted -/
def ins1 (v : Int) : List Int → List Int
  | [] => [v]
  | w :: l => if v ≤ w then v :: w :: l else w :: ins1 v l
def srt (l : List Int) : List Int := l.foldr ins1 []
theorem ins1_perm (v : Int) : ∀ l : List Int, (ins1 v l).Perm (v :: l)
  | [] => List.Perm.refl _
  | w :: l => by
    unfold ins1
    split
    · exact List.Perm.refl _
    · exact ((ins1_perm v l).cons w).trans (List.Perm.swap v w l)
theorem srt_perm : ∀ l : List Int, (srt l).Perm l
  | [] => List.Perm.refl _
  | v :: l => (ins1_perm v (srt l)).trans ((srt_perm l).cons v)
theorem ins1_pw (v : Int) : ∀ l : List Int, l.Pairwise (· ≤ ·) → (ins1 v l).Pairwise (· ≤ ·)
  | [], _ => by simp [ins1]
  | w :: l, h => by
    have h' := List.pairwise_cons.mp h
    unfold ins1
    split
    · next hv =>
      refine List.pairwise_cons.mpr ⟨fun y hy => ?_, h⟩
      rcases List.mem_cons.mp hy with e | e
      · omega
      · have := h'.1 y e; omega
    · next hv =>
      refine List.pairwise_cons.mpr ⟨fun y hy => ?_, ins1_pw v l h'.2⟩
      rcases List.mem_cons.mp ((ins1_perm v l).mem_iff.mp hy) with e | e
      · omega
      · exact h'.1 y e
theorem srt_pw : ∀ l : List Int, (srt l).Pairwise (· ≤ ·)
  | [] => List.Pairwise.nil
  | v :: l => ins1_pw v _ (srt_pw l)
theorem sorted_uniq : ∀ {a b : List Int}, a.Perm b → a.Pairwise (· ≤ ·) → b.Pairwise (· ≤ ·) → a = b
  | [], b, p, _, _ => by have := p.length_eq; cases b with
    | nil => rfl
    | cons _ _ => cases this
  | x :: a, [], p, _, _ => by have := p.length_eq; cases this
  | x :: a, y :: b, p, ha, hb => by
    have ha' := List.pairwise_cons.mp ha
    have hb' := List.pairwise_cons.mp hb
    have e : x = y := by
      have h1 : x ∈ y :: b := p.mem_iff.mp List.mem_cons_self
      have h2 : y ∈ x :: a := p.mem_iff.mpr List.mem_cons_self
      rcases List.mem_cons.mp h1 with e | e
      · exact e
      · rcases List.mem_cons.mp h2 with e' | e'
        · exact e'.symm
        · have := hb'.1 x e; have := ha'.1 y e'; omega
    subst e
    rw [sorted_uniq (List.Perm.cons_inv p) ha'.2 hb'.2]
theorem mem_srt {l : List Int} {x : Int} : x ∈ srt l ↔ x ∈ l := (srt_perm l).mem_iff
theorem srt_id {l : List Int} (h : l.Pairwise (· ≤ ·)) : srt l = l := sorted_uniq (srt_perm l) (srt_pw l) h
/-- sorted(set(..)) -/
def insS (v : Int) : List Int → List Int
  | [] => [v]
  | w :: l => if v < w then v :: w :: l else if v = w then w :: l else w :: insS v l
def sset (l : List Int) : List Int := l.foldr insS []
theorem mem_insS {v x : Int} : ∀ {l : List Int}, x ∈ insS v l ↔ x = v ∨ x ∈ l
  | [] => by simp [insS]
  | w :: l => by
    unfold insS
    split
    · simp
    · split
      · next h => subst h; simp
      · rw [List.mem_cons, mem_insS, List.mem_cons]
        constructor
        · rintro (h | h | h) <;> simp [h]
        · rintro (h | h | h) <;> simp [h]
theorem ss_insS {v : Int} : ∀ {l : List Int}, l.Pairwise (· < ·) → (insS v l).Pairwise (· < ·)
  | [], _ => by simp [insS]
  | w :: l, h => by
    have h' := List.pairwise_cons.mp h
    unfold insS
    split
    · next hv =>
      refine List.pairwise_cons.mpr ⟨fun y hy => ?_, h⟩
      rcases List.mem_cons.mp hy with e | e
      · rw [e]; exact hv
      · have := h'.1 y e; omega
    · split
      · exact h
      · next h1 h2 =>
        refine List.pairwise_cons.mpr ⟨fun y hy => ?_, ss_insS h'.2⟩
        rcases mem_insS.mp hy with e | e
        · omega
        · exact h'.1 y e
theorem mem_sset {x : Int} : ∀ {l : List Int}, x ∈ sset l ↔ x ∈ l
  | [] => by simp [sset]
  | v :: l => by show x ∈ insS v (sset l) ↔ _; rw [mem_insS, mem_sset, List.mem_cons]
theorem ss_sset : ∀ (l : List Int), (sset l).Pairwise (· < ·)
  | [] => by simp [sset]
  | v :: l => ss_insS (ss_sset l)
theorem ss_ext : ∀ {a b : List Int}, a.Pairwise (· < ·) → b.Pairwise (· < ·) → (∀ x, x ∈ a ↔ x ∈ b) → a = b
  | [], [], _, _, _ => rfl
  | [], y :: b, _, _, h => by have := (h y).mpr (by simp); simp at this
  | x :: a, [], _, _, h => by have := (h x).mp (by simp); simp at this
  | x :: a, y :: b, ha, hb, h => by
    have ha' := List.pairwise_cons.mp ha
    have hb' := List.pairwise_cons.mp hb
    have e : x = y := by
      rcases List.mem_cons.mp ((h x).mp (by simp)) with e | e
      · exact e
      · rcases List.mem_cons.mp ((h y).mpr (by simp)) with e' | e'
        · exact e'.symm
        · have := ha'.1 y e'; have := hb'.1 x e; omega
    subst e
    rw [ss_ext ha'.2 hb'.2 fun z => ?_]
    constructor
    · intro hz
      rcases List.mem_cons.mp ((h z).mp (List.mem_cons_of_mem _ hz)) with e | e
      · have := ha'.1 z hz; omega
      · exact e
    · intro hz
      rcases List.mem_cons.mp ((h z).mpr (List.mem_cons_of_mem _ hz)) with e | e
      · have := hb'.1 z hz; omega
      · exact e
def rng (lo hi : Int) : List Int := (List.range (hi - lo).toNat).map fun (i : Nat) => lo + (i : Int)
theorem rngD_eq (lo : Int) (n : Nat) : rngD lo n = ((List.range n).map fun (i : Nat) => lo + (i : Int)).map eI := by unfold rngD; rw [List.map_map]; rfl
def enm {α : Type} : Nat → List α → List (Int × α)
  | _, [] => []
  | k, x :: xs => ((k : Int), x) :: enm (k + 1) xs
theorem enD_map {α : Type} (e : α → D) : ∀ (xs : List α) (k : Nat), enD k (xs.map e) = (enm k xs).map (eP2 eI e)
  | [], _ => rfl
  | x :: xs, k => by rw [List.map_cons, enD, enD_map e xs (k + 1)]; rfl
def idxI {α : Type} [BEq α] (xs : List α) (v : α) : Int := (xs.idxOf v : Nat)
/-- flat things -/
structure Fy {α : Type} [DecidableEq α] (e : α → D) : Prop where
  flat : ∀ x, flatD (e x) = true
  eq : ∀ x y, eqD (e x) (e y) = decide (x = y)
theorem fyI : Fy eI := ⟨fun _ => rfl, fun x y => by show (x == y) = _; rw [Bool.eq_iff_iff]; simp⟩
theorem fyS : Fy eS := ⟨fun _ => rfl, fun x y => by show (x == y) = _; rw [Bool.eq_iff_iff]; simp⟩
theorem Fy.all {α : Type} [DecidableEq α] {e : α → D} (f : Fy e) (xs : List α) : (xs.map e).all flatD = true := by
  rw [List.all_eq_true]; intro d hd
  obtain ⟨n, _, rfl⟩ := List.mem_map.mp hd; exact f.flat n
theorem Fy.any {α : Type} [DecidableEq α] {e : α → D} (f : Fy e) (xs : List α) (x : α) : ((xs.map e).any fun d => eqD d (e x)) = decide (x ∈ xs) := by
  rw [Bool.eq_iff_iff, List.any_eq_true, decide_eq_true_eq]
  constructor
  · rintro ⟨d, hd, q⟩
    obtain ⟨y, hy, rfl⟩ := List.mem_map.mp hd
    rw [f.eq, decide_eq_true_eq] at q; subst q; exact hy
  · intro h
    exact ⟨e x, List.mem_map_of_mem h, by rw [f.eq, decide_eq_true_eq]⟩
end DT
end
section
set_option maxHeartbeats 4000000
namespace DT
open PySem PySem.Spec PyProof.Rows L2
section
variable {X : Cx} {F : Fm} {e a b c o tg : Expr} {es rest : List Expr} {pos p apos : Pos} {δ δ' δ1 δ2 δ3 : List S} {d d1 d2 : D} {ds ds1 : List D} {k k1 k2 : Bool} {i j : Int}
variable {α β : Type} {em : α → D} {ef : β → D}
/-! ### in, is None -/
theorem te_in [DecidableEq α] {x : α} {xs : List α} (f : Fy em) (ha : TE X F a δ (em x) δ1) (hb : TP X F b δ1 d δ2) (q : sq d = some (xs.map em)) (hm : behindInMarks .In b = false := by rfl) : TE X F (.Compare a [.In] [b] pos) δ (.bl (decide (x ∈ xs))) δ2 :=
  TE.of (d_in ha hb hm) fun P p => ⟨rfl, rfl, _, q, f.flat x, f.all xs, by rw [f.any]; exact p⟩
theorem te_notin [DecidableEq α] {x : α} {xs : List α} (f : Fy em) (ha : TE X F a δ (em x) δ1) (hb : TP X F b δ1 d δ2) (q : sq d = some (xs.map em)) (hm : behindInMarks .NotIn b = false := by rfl) : TE X F (.Compare a [.NotIn] [b] pos) δ (.bl (!decide (x ∈ xs))) δ2 :=
  TE.of (d_notin ha hb hm) fun P p => ⟨rfl, rfl, _, q, f.flat x, f.all xs, by rw [f.any]; exact p⟩
theorem tt_in [DecidableEq α] {x : α} {xs : List α} (f : Fy em) (ha : TE X F a δ (em x) δ1) (hb : TP X F b δ1 d δ2) (q : sq d = some (xs.map em)) (hm : behindInMarks .In b = false := by rfl) : TTe X F (.Compare a [.In] [b] pos) δ (decide (x ∈ xs)) δ2 :=
  TTe.of (dt_in ha hb hm) fun P p => ⟨rfl, rfl, _, q, f.flat x, f.all xs, _, rfl, by rw [f.any]; exact p⟩
theorem tt_notin [DecidableEq α] {x : α} {xs : List α} (f : Fy em) (ha : TE X F a δ (em x) δ1) (hb : TP X F b δ1 d δ2) (q : sq d = some (xs.map em)) (hm : behindInMarks .NotIn b = false := by rfl) : TTe X F (.Compare a [.NotIn] [b] pos) δ (!decide (x ∈ xs)) δ2 :=
  TTe.of (dt_notin ha hb hm) fun P p => ⟨rfl, rfl, _, q, f.flat x, f.all xs, _, rfl, by rw [f.any]; exact p⟩
theorem non_o {x : Option α} (hn : ∀ a, nonD (em a) = false) : nonD (eO em x) = x.isNone := by
  cases x with
  | none => rfl
  | some a => exact hn a
theorem te_isN {x : Option α} (hn : ∀ a, nonD (em a) = false) (ha : TP X F a δ (eO em x) δ1) (hb : TP X F b δ1 .non δ2) (hk : Kp δ1 δ2 := by exact Kp.refl _) : TE X F (.Compare a [.Is] [b] pos) δ (.bl x.isNone) δ2 :=
  TE.of (d_isN ha hb) fun P p => ⟨rfl, rfl, hk, rfl, by rw [non_o hn]; exact p⟩
theorem te_notN {x : Option α} (hn : ∀ a, nonD (em a) = false) (ha : TP X F a δ (eO em x) δ1) (hb : TP X F b δ1 .non δ2) (hk : Kp δ1 δ2 := by exact Kp.refl _) : TE X F (.Compare a [.IsNot] [b] pos) δ (.bl (!x.isNone)) δ2 :=
  TE.of (d_notN ha hb) fun P p => ⟨rfl, rfl, hk, rfl, by rw [non_o hn]; exact p⟩
theorem tt_isN {x : Option α} (hn : ∀ a, nonD (em a) = false) (ha : TP X F a δ (eO em x) δ1) (hb : TP X F b δ1 .non δ2) (hk : Kp δ1 δ2 := by exact Kp.refl _) : TTe X F (.Compare a [.Is] [b] pos) δ x.isNone δ2 :=
  TTe.of (dt_isN ha hb) fun P p => ⟨rfl, rfl, hk, rfl, _, rfl, by rw [non_o hn]; exact p⟩
theorem tt_notN {x : Option α} (hn : ∀ a, nonD (em a) = false) (ha : TP X F a δ (eO em x) δ1) (hb : TP X F b δ1 .non δ2) (hk : Kp δ1 δ2 := by exact Kp.refl _) : TTe X F (.Compare a [.IsNot] [b] pos) δ (!x.isNone) δ2 :=
  TTe.of (dt_notN ha hb) fun P p => ⟨rfl, rfl, hk, rfl, _, rfl, by rw [non_o hn]; exact p⟩
/-- .. of a thing that is never None -/
theorem tt_isNn (hn : nonD d = false) (ha : TP X F a δ d δ1) (hb : TP X F b δ1 .non δ2) (hk : Kp δ1 δ2 := by exact Kp.refl _) : TTe X F (.Compare a [.Is] [b] pos) δ false δ2 :=
  TTe.of (dt_isN ha hb) fun P p => ⟨rfl, rfl, hk, rfl, _, rfl, by rw [hn]; exact p⟩
theorem tt_notNn (hn : nonD d = false) (ha : TP X F a δ d δ1) (hb : TP X F b δ1 .non δ2) (hk : Kp δ1 δ2 := by exact Kp.refl _) : TTe X F (.Compare a [.IsNot] [b] pos) δ true δ2 :=
  TTe.of (dt_notN ha hb) fun P p => ⟨rfl, rfl, hk, rfl, _, rfl, by rw [hn]; exact p⟩
/-- what is there, of a thing that may be None -/
theorem te_get [Inhabited α] {x : Option α} (h : x.isNone = false) (ha : TE X F a δ (eO em x) δ1) : TE X F a δ (em (x.getD default)) δ1 := by
  cases x with
  | none => cases h
  | some y => exact ha
theorem te_some {x : α} (ha : TE X F a δ (em x) δ1) : TE X F a δ (eO em (some x)) δ1 := ha
theorem te_none (ha : TE X F a δ .non δ1) : TE X F a δ (eO em none) δ1 := ha

/-! ### items, slices, displays -/
theorem te_ix [Inhabited α] {xs : List α} (ha : TP X F a δ d δ1) (q : sq d = some (xs.map em)) (hb : TP X F b δ1 (.int i) δ2) (h : IxOk xs i) (hk : Kp δ1 δ2 := by exact Kp.refl _) (hs : PlainIx b := by intro _ _; rfl) : TE X F (.Subscript a b pos) δ (em (pyIx xs i)) δ2 :=
  TE.of (d_ix ha hb hs) fun P p => ⟨rfl, rfl, hk, _, i, _, q, rfl, by rw [atI_map, atI_pyIx h]; rfl, p⟩
/-- an item of a pair, a triple .. -/
theorem te_ixD (ha : TP X F a δ d δ1) (q : sq d = some ds) (hb : TP X F b δ1 (.int i) δ2) (h : L2.atI ds i = some d1) (hk : Kp δ1 δ2 := by exact Kp.refl _) (hs : PlainIx b := by intro _ _; rfl) : TE X F (.Subscript a b pos) δ d1 δ2 :=
  TE.of (d_ix ha hb hs) fun P p => ⟨rfl, rfl, hk, _, i, _, q, rfl, h, p⟩
theorem to_none : TOp X F none δ none δ := TOp.of do_none fun P p => p
theorem to_some (h : TE X F e δ (.int i) δ1) : TOp X F (some e) δ (some i) δ1 := TOp.of (do_some h) fun P p => ⟨rfl, _, rfl, p⟩
theorem te_slT {xs : List α} {lo hi : Option Expr} {l h : Option Int} {p2 : Pos} (ha : TE X F a δ (eT em xs) δ1) (hl : TOp X F lo δ1 l δ2) (hh : TOp X F hi δ2 h δ3) : TE X F (.Subscript a (.Slice lo hi none p2) pos) δ (eT em (pyCut xs l h)) δ3 :=
  TE.of (d_slT ha hl hh) fun P p => ⟨rfl, rfl, rfl, _, rfl, by rw [cut_map]; exact p⟩
theorem tn_slL {xs : List α} {lo hi : Option Expr} {l h : Option Int} {p2 : Pos} (ha : TP X F a δ (eL em xs) δ1) (hl : TOp X F lo δ1 l δ2) (hh : TOp X F hi δ2 h δ3) (hk : Kp δ1 δ3 := by exact Kp.refl _) : TN X F (.Subscript a (.Slice lo hi none p2) pos) δ ((pyCut xs l h).map em) δ3 :=
  TN.of (d_slL ha hl hh) fun P p => ⟨rfl, rfl, rfl, hk, _, rfl, by rw [cut_map]; exact p⟩
theorem tn_revL {xs : List α} {kk : Nat} {p1 p2 p3 : Pos} (ha : TP X F e δ (eL em xs) δ1) : TN X F (.Subscript e (.Slice none none (some (.UnaryOp .USub (.Constant (.int 1) kk p1) p2)) p3) pos) δ (xs.reverse.map em) δ1 :=
  TN.of (d_revL ha) fun P p => ⟨rfl, _, rfl, by rw [← List.map_reverse]; exact p⟩
theorem ta_nil : TAs X F [] δ [] δ := TAs.of da_nil fun P p => p
theorem ta_cons (ha : TE X F e δ d δ1) (hr : TAs X F es δ1 ds δ2) (hs : starEach (e :: es) X.env = (false, eval e X.env) :: starEach es X.env := by rfl) : TAs X F (e :: es) δ (d :: ds) δ2 := TAs.of (da_cons ha hr hs) fun P p => ⟨rfl, rfl, p⟩
theorem te_tup {x1} (h : TAs X F es δ ds δ1) (hl : ds.length ≤ sizeLine := by decide) : TE X F (.Tuple es x1 pos) δ (.tup ds) δ1 := TE.of (de_tup h) fun P p => ⟨rfl, hl, p⟩
theorem tn_lst (h : TAs X F es δ ds δ1) (hl : ds.length ≤ sizeLine := by decide) : TN X F (.List es pos) δ ds δ1 := TN.of (dn_lst h) fun P p => ⟨rfl, hl, p⟩
theorem te_catT {xs ys : List α} (ha : TE X F a δ (eT em xs) δ1) (hb : TP X F b δ1 (eT em ys) δ2) (h : xs.length + ys.length ≤ sizeLine) : TE X F (.BinOp a .Add b pos) δ (eT em (xs ++ ys)) δ2 :=
  TE.of (d_catT ha hb) fun P p => ⟨rfl, rfl, _, _, rfl, rfl, by simpa using h, by rw [← List.map_append]; exact p⟩
theorem tn_catL {xs ys : List α} (ha : TP X F a δ (eL em xs) δ1) (hb : TP X F b δ1 (eL em ys) δ2) (h : xs.length + ys.length ≤ sizeLine) (hk : Kp δ1 δ2 := by exact Kp.refl _) : TN X F (.BinOp a .Add b pos) δ ((xs ++ ys).map em) δ2 :=
  TN.of (d_catL ha hb) fun P p => ⟨rfl, rfl, hk, _, _, rfl, rfl, by simpa using h, by rw [← List.map_append]; exact p⟩

/-! ### built-ins -/
theorem te_len {xs : List α} (hg : Gl X "len") (hm : X.mg "len" = none) (ha : TP X F a δ d δ1) (q : sq d = some (xs.map em)) (he : starEach [a] X.env = (false, eval a X.env) :: starEach [] X.env := by rfl) (hpl : (backTo pos (starEach [] X.env)).any (·.1) = false := by rfl) :
    TE X F (.Call (.Name "len" p) [a] [] pos) δ (.int (xs.length : Int)) δ1 := TE.of (d_len hg hm ha he hpl) fun P p => ⟨rfl, _, q, by rw [List.length_map]; exact p⟩
theorem te_cint (hg : Gl X "int") (hm : X.mg "int" = none) (ha : TP X F a δ (.int i) δ1) (he : starEach [a] X.env = (false, eval a X.env) :: starEach [] X.env := by rfl) (hpl : (backTo pos (starEach [] X.env)).any (·.1) = false := by rfl) :
    TE X F (.Call (.Name "int" p) [a] [] pos) δ (.int i) δ1 := TE.of (d_int hg hm ha he hpl) fun P p => ⟨rfl, _, rfl, p⟩
theorem te_sum {xs : List Int} (hc : X.calm = true) (hg : Gl X "sum") (hm : X.mg "sum" = none) (ha : TP X F a δ (.lst (xs.map eI)) δ1) (he : starEach [a] X.env = (false, eval a X.env) :: starEach [] X.env := by rfl) (hpl : (backTo pos (starEach [] X.env)).any (·.1) = false := by rfl) :
    TE X F (.Call (.Name "sum" p) [a] [] pos) δ (.int xs.sum) δ1 := TE.of (d_sum hc hg hm ha he hpl) fun P p => ⟨rfl, _, rfl, p⟩
theorem te_max {xs : List Int} (hc : X.calm = true) (hg : Gl X "max") (hm : X.mg "max" = none) (ha : TP X F a δ (.lst (xs.map eI)) δ1) (h : xs ≠ []) (he : starEach [a] X.env = (false, eval a X.env) :: starEach [] X.env := by rfl) (hpl : (backTo pos (starEach [] X.env)).any (·.1) = false := by rfl) :
    TE X F (.Call (.Name "max" p) [a] [] pos) δ (.int (maxL xs)) δ1 := TE.of (d_max hc hg hm ha he hpl) fun P p => ⟨rfl, _, rfl, List.length_pos_iff.mpr h, fun m h1 h2 => by
      have e : m = maxL xs := Int.le_antisymm (le_maxL h1) (h2 _ (maxL_mem h))
      rw [e]; exact p⟩
theorem te_min {xs : List Int} (hc : X.calm = true) (hg : Gl X "min") (hm : X.mg "min" = none) (ha : TP X F a δ (.lst (xs.map eI)) δ1) (h : xs ≠ []) (he : starEach [a] X.env = (false, eval a X.env) :: starEach [] X.env := by rfl) (hpl : (backTo pos (starEach [] X.env)).any (·.1) = false := by rfl) :
    TE X F (.Call (.Name "min" p) [a] [] pos) δ (.int (minL xs)) δ1 := TE.of (d_min hc hg hm ha he hpl) fun P p => ⟨rfl, _, rfl, List.length_pos_iff.mpr h, fun m h1 h2 => by
      have e : m = minL xs := Int.le_antisymm (h2 _ (minL_mem h)) (minL_le h1)
      rw [e]; exact p⟩
theorem te_any {xs : List Bool} (hc : X.calm = true) (hg : Gl X "any") (hm : X.mg "any" = none) (ha : TP X F a δ (.lst (xs.map eB)) δ1) (he : starEach [a] X.env = (false, eval a X.env) :: starEach [] X.env := by rfl) (hpl : (backTo pos (starEach [] X.env)).any (·.1) = false := by rfl) :
    TE X F (.Call (.Name "any" p) [a] [] pos) δ (.bl (xs.any id)) δ1 := TE.of (d_any hc hg hm ha he hpl) fun P p => ⟨rfl, _, rfl, p⟩
theorem te_all {xs : List Bool} (hc : X.calm = true) (hg : Gl X "all") (hm : X.mg "all" = none) (ha : TP X F a δ (.lst (xs.map eB)) δ1) (he : starEach [a] X.env = (false, eval a X.env) :: starEach [] X.env := by rfl) (hpl : (backTo pos (starEach [] X.env)).any (·.1) = false := by rfl) :
    TE X F (.Call (.Name "all" p) [a] [] pos) δ (.bl (xs.all id)) δ1 := TE.of (d_all hc hg hm ha he hpl) fun P p => ⟨rfl, _, rfl, p⟩
theorem tn_sorted {xs : List Int} (hg : Gl X "sorted") (hm : X.mg "sorted" = none) (ha : TP X F a δ d δ1) (q : sq d = some (xs.map eI)) (he : starEach [a] X.env = (false, eval a X.env) :: starEach [] X.env := by rfl) (hpl : (backTo pos (starEach [] X.env)).any (·.1) = false := by rfl) :
    TN X F (.Call (.Name "sorted" p) [a] [] pos) δ ((srt xs).map eI) δ1 := TN.of (d_sorted hg hm ha he hpl) fun P p => ⟨rfl, _, q, fun ms h1 h2 => by
      rw [sorted_uniq (h1.trans (srt_perm xs).symm) h2 (srt_pw xs)]; exact p⟩
theorem tn_list {xs : List α} (hg : Gl X "list") (hm : X.mg "list" = none) (ha : TP X F a δ d δ1) (q : sq d = some (xs.map em)) (he : starEach [a] X.env = (false, eval a X.env) :: starEach [] X.env := by rfl) (hpl : (backTo pos (starEach [] X.env)).any (·.1) = false := by rfl) :
    TN X F (.Call (.Name "list" p) [a] [] pos) δ (xs.map em) δ1 := TN.of (d_list hg hm ha he hpl) fun P p => ⟨rfl, _, q, p⟩
theorem te_tuple {xs : List α} (hg : Gl X "tuple") (hm : X.mg "tuple" = none) (ha : TP X F a δ d δ1) (q : sq d = some (xs.map em)) (he : starEach [a] X.env = (false, eval a X.env) :: starEach [] X.env := by rfl) (hpl : (backTo pos (starEach [] X.env)).any (·.1) = false := by rfl) :
    TE X F (.Call (.Name "tuple" p) [a] [] pos) δ (eT em xs) δ1 := TE.of (d_tuple hg hm ha he hpl) fun P p => ⟨rfl, _, q, p⟩
def pmin (i j : Int) : Int := if j < i then j else i
def pmax (i j : Int) : Int := if j > i then j else i
theorem te_min2 (hc : X.calm = true) (hg : Gl X "min") (hm : X.mg "min" = none) (ha : TAs X F [a, b] δ [.int i, .int j] δ1) (he : starEach [a, b] X.env = (false, eval a X.env) :: starEach [b] X.env := by rfl) (hpl : (backTo pos (starEach [b] X.env)).any (·.1) = false := by rfl) :
    TE X F (.Call (.Name "min" p) [a, b] [] pos) δ (.int (pmin i j)) δ1 := TE.of (d_min2 hc hg hm ha he hpl) fun P p => ⟨rfl, _, _, rfl, p⟩
theorem te_max2 (hc : X.calm = true) (hg : Gl X "max") (hm : X.mg "max" = none) (ha : TAs X F [a, b] δ [.int i, .int j] δ1) (he : starEach [a, b] X.env = (false, eval a X.env) :: starEach [b] X.env := by rfl) (hpl : (backTo pos (starEach [b] X.env)).any (·.1) = false := by rfl) :
    TE X F (.Call (.Name "max" p) [a, b] [] pos) δ (.int (pmax i j)) δ1 := TE.of (d_max2 hc hg hm ha he hpl) fun P p => ⟨rfl, _, _, rfl, p⟩
theorem te_isi {T n : String} (hg : Gl X "isinstance") (hm : X.mg "isinstance" = none) (ha : TP X F a δ d δ1) (hb : PE X b (tC (.ty T))) (q1 : tyD d = some n) (q2 : kitB n T = some k) (he : starEach [a, b] X.env = (false, eval a X.env) :: starEach [b] X.env := by rfl) (he2 : starEach [b] X.env = (false, eval b X.env) :: starEach [] X.env := by rfl) (hpl : (backTo pos (starEach [b] X.env)).any (·.1) = false := by rfl) :
    TE X F (.Call (.Name "isinstance" p) [a, b] [] pos) δ (.bl k) δ1 := TE.of (d_isi hg hm ha hb he he2 hpl) fun P p => ⟨rfl, _, _, q1, q2, p⟩
theorem te_isiT {Ts : List String} {n : String} {x1} {tpos : Pos} (hg : Gl X "isinstance") (hm : X.mg "isinstance" = none) (ha : TP X F a δ d δ1) (hb : PA X es (tTys Ts)) (hl : Ts.length ≤ 10) (q1 : tyD d = some n) (q2 : kitA n Ts = some k)
    (he : starEach [a, .Tuple es x1 tpos] X.env = (false, eval a X.env) :: starEach [.Tuple es x1 tpos] X.env := by rfl) (he2 : starEach [.Tuple es x1 tpos] X.env = (false, eval (.Tuple es x1 tpos) X.env) :: starEach [] X.env := by rfl) (hpl : (backTo pos (starEach [.Tuple es x1 tpos] X.env)).any (·.1) = false := by rfl) :
    TE X F (.Call (.Name "isinstance" p) [a, .Tuple es x1 tpos] [] pos) δ (.bl k) δ1 := TE.of (d_isiT hg hm ha hb hl he he2 hpl) fun P p => ⟨rfl, _, _, q1, q2, p⟩
theorem te_isC {C : Addr} {gs : List (Str × D)} (ic : C8.InsC X.K C) (hg : Gl X "isinstance") (hm : X.mg "isinstance" = none) (ha : TE X F a δ (.ins C gs) δ1) (hb : PE X b (tC (.ref C))) (he : starEach [a, b] X.env = (false, eval a X.env) :: starEach [b] X.env := by rfl)
    (he2 : starEach [b] X.env = (false, eval b X.env) :: starEach [] X.env := by rfl) (hpl : (backTo pos (starEach [b] X.env)).any (·.1) = false := by rfl) : TE X F (.Call (.Name "isinstance" p) [a, b] [] pos) δ (.bl true) δ1 :=
  TE.of (d_isC ic hg hm ha hb he he2 hpl) fun P p => ⟨rfl, _, rfl, p⟩
theorem te_tupR {q rp : Pos} (hc : X.calm = true) (hg : Gl X "tuple") (hm : X.mg "tuple" = none) (hgr : Gl X "range") (hmr : X.mg "range" = none) (ha : TE X F a δ (.int j) δ1) (h : 0 ≤ j ∧ j ≤ 1000) (na : starEach [a] X.env = (false, eval a X.env) :: starEach [] X.env := by rfl)
    (nr : starEach [(.Call (.Name "range" p) [a] [] rp : Expr)] X.env = (false, eval (.Call (.Name "range" p) [a] [] rp) X.env) :: starEach [] X.env := by rfl) : TE X F (.Call (.Name "tuple" q) [.Call (.Name "range" p) [a] [] rp] [] pos) δ (eT eI (rng 0 j)) δ1 :=
  TE.of (d_tupR hc hg hm hgr hmr ha na nr) fun P z => ⟨rfl, _, rfl, h, by rw [rngD_eq]; unfold rng at z; rw [Int.sub_zero] at z; exact z⟩
theorem tn_srtSet {xs : List Int} {q p2 : Pos} (hc : X.calm = true) (hg : Gl X "sorted") (hm : X.mg "sorted" = none) (hg2 : Gl X "set") (hm2 : X.mg "set" = none) (ha : TP X F a δ (.lst (xs.map eI)) δ1) (h : xs.length < 64) (na : starEach [a] X.env = (false, eval a X.env) :: starEach [] X.env := by rfl) :
    TN X F (.Call (.Name "sorted" p) [.Call (.Name "set" p2) [a] [] q] [] pos) δ ((sset xs).map eI) δ1 :=
  TN.of (d_srtSet hc hg hm hg2 hm2 ha na) fun P z => ⟨rfl, _, rfl, h, fun ms hm => by
    have e : ms = sset xs := ss_ext hm.1 (ss_sset xs) fun y => (hm.2 y).trans mem_sset.symm
    rw [e]; exact z⟩

/-! ### lists changed -/
theorem te_append {i : Nat} {xs : List α} {x : α} (h0 : PE X o (tVar i)) (ha : TE X F a δ (em x) δ1) (h : xs.length < sizeLine) (rule : ∀ t, PA X [a] t → PE X e (tBM X.K "list" rAppend (tVar i) t)) (he : starEach [a] X.env = (false, eval a X.env) :: starEach [] X.env := by rfl)
    {zs : List D} (q0 : δ[i]? = some (.own zs) := by rfl) (q : δ1[i]? = some (.own (xs.map em)) := by rfl) : TE X F e δ .non (δ1.set i (.own ((xs ++ [x]).map em))) :=
  TE.of (d_append (apos := ⟨0, 0, 0, 0⟩) h0 ha rule he) fun P p => ⟨⟨zs, q0⟩, rfl, _, q, by simpa using h, by rw [List.map_append] at p; exact p⟩
theorem dropLast_last {α : Type} [Inhabited α] {xs : List α} (h : xs ≠ []) : xs.dropLast ++ [xs.getLastD default] = xs := by
  cases xs with
  | nil => exact absurd rfl h
  | cons x xs =>
    have := List.dropLast_concat_getLast (l := x :: xs) (by simp)
    rw [List.getLastD_cons]
    rw [List.getLast_eq_getLastD] at this
    exact this
theorem te_pop [Inhabited α] {i : Nat} {xs : List α} (rule : PE X e (tBM0 X.K "list" rPop (tVar i))) (h : xs ≠ []) (q : δ[i]? = some (.own (xs.map em)) := by rfl) : TE X F e δ (em (xs.getLastD default)) (δ.set i (.own (xs.dropLast.map em))) :=
  TE.of (d_pop rule) fun P p => ⟨_, _, by
    have e := dropLast_last h
    rw [q, ← e, List.map_append, List.dropLast_concat]; simp, p⟩
theorem idxOf_get [DecidableEq α] {xs : List α} {x : α} (h : x ∈ xs) : xs[xs.idxOf x]? = some x := by
  have hl := List.idxOf_lt_length_of_mem h
  rw [List.getElem?_eq_getElem hl, List.getElem_idxOf hl]
theorem idxOf_first [DecidableEq α] : ∀ {xs : List α} {x z : α} {m : Nat}, m < xs.idxOf x → xs[m]? = some z → z ≠ x
  | [], _, _, _, h, e => by simp at e
  | y :: xs, x, z, m, h, e => by
    rw [List.idxOf_cons] at h
    by_cases hy : y = x
    · subst hy; simp at h
    · have hb : (y == x) = false := by simpa using hy
      rw [hb] at h
      cases m with
      | zero => simp at e; subst e; exact hy
      | succ m => exact idxOf_first (xs := xs) (by simpa using h) (by simpa using e)
theorem te_index [DecidableEq α] {xs : List α} {x : α} (f : Fy em) (ho : TP X F o δ (eL em xs) δ1) (ha : TE X F a δ1 (em x) δ2) (h : x ∈ xs) (rule : ∀ to ta, PE X o to → PA X [a] ta → PE X e (tBM X.K "list" (rIndex X.K) to ta)) (hk : Kp δ1 δ2 := by exact Kp.refl _)
    (he : starEach [a] X.env = (false, eval a X.env) :: starEach [] X.env := by rfl) : TE X F e δ (.int (idxI xs x)) δ2 :=
  TE.of (d_index ho ha rule he) fun P p => ⟨rfl, _, rfl, rfl, hk, xs.idxOf x, em x, f.flat x, f.all xs, by rw [List.getElem?_map, idxOf_get h]; rfl, by rw [f.eq]; simp, fun m z hm q => by
    rw [List.getElem?_map] at q
    cases g : xs[m]? with
    | none => rw [g] at q; cases q
    | some y =>
      rw [g] at q; cases q
      rw [f.eq]; simpa using idxOf_first hm g, p⟩

/-! ### fields -/
variable {C : Addr} {f m : Str} {gs : List (Str × D)}
theorem te_fld (cl : Cls X.K C) (na : NoAttr X.K C f) (ha : TE X F e δ (.ins C gs) δ1) (q : gs.lookup f = some d) (hb : attributeBase e f X.env (eval e X.env) = eval e X.env := by rfl) : TE X F (.Attribute e f pos) δ d δ1 :=
  TE.of (d_fld cl na ha hb) fun P p => ⟨rfl, _, _, rfl, q, p⟩
theorem te_fldS {i : Nat} (cl : Cls X.K C) (na : NoAttr X.K C f) (h0 : PE X e (tVar i)) (q0 : δ[i]? = some (.slf C gs)) (q : gs.lookup f = some d) (hb : attributeBase e f X.env (eval e X.env) = eval e X.env := by rfl) : TE X F (.Attribute e f pos) δ d δ :=
  TE.of (d_fldS cl na h0 hb) fun P p => ⟨_, _, q0, q, p⟩

/-! ### calls -/
variable {x : Str} {n kk jj : Nat}
theorem te_call {T : TF} (c : CaX X x kk (spF X.K n T)) (hr : Room jj X.A) (hk : kk ≤ jj) (hg : Gl X x) (ha : TAs X F (e :: es) δ ds δ1) (ht : ∀ P : D → Prop, P d → T ds P) (hl : ds.length = n := by rfl) (hdb : (x == ("__debug__" : Str)) = false := by decide) (he : starEach (e :: es) X.env = (false, eval e X.env) :: starEach es X.env := by rfl)
    (hpl : (backTo pos (starEach es X.env)).any (·.1) = false := by rfl) : TE X F (.Call (.Name x p) (e :: es) [] pos) δ d δ1 := TE.of (de_call c hr hk hg ha hdb he hpl) fun P p => ⟨rfl, hl, ht _ p⟩
theorem te_callD {T : TF} {dds : List D} (c : CaDX X x kk (spF X.K n T) dds) (hr : Room jj X.A) (hk : kk ≤ jj) (hg : Gl X x) (ha : TAs X F (e :: es) δ ds δ1) (ht : ∀ P : D → Prop, P d → T (ds ++ dds) P) (hl : (ds ++ dds).length = n := by rfl) (hdb : (x == ("__debug__" : Str)) = false := by decide) (he : starEach (e :: es) X.env = (false, eval e X.env) :: starEach es X.env := by rfl)
    (hpl : (backTo pos (starEach es X.env)).any (·.1) = false := by rfl) : TE X F (.Call (.Name x p) (e :: es) [] pos) δ d δ1 := TE.of (de_callD c hr hk hg ha hdb he hpl) fun P p => ⟨rfl, hl, ht _ p⟩
def TKw (X : Cx) (F : Fm) (kws : List Keyword) (δ : List S) (ds : List D) (δ' : List S) : Prop := DK X F kws fun δ0 P => δ0 = δ ∧ P ds δ'
theorem TKw.of {kws : List Keyword} {t : WA} (h : DK X F kws t) (z : ∀ P, P ds δ' → t δ P) : TKw X F kws δ ds δ' := PK.imp h fun σ H Q ⟨Hf, δ0, P, R, ⟨e, p⟩, w⟩ => ⟨Hf, δ0, P, R, by rw [e]; exact z P p, w⟩
theorem tk_nil : TKw X F [] δ [] δ := TKw.of dk_nil fun P p => p
theorem tk_cons {nm : Option Str} {kpos : Pos} {kws : List Keyword} (ha : TE X F e δ d δ1) (hr : TKw X F kws δ1 ds δ2) : TKw X F (⟨nm, e, kpos⟩ :: kws) δ (d :: ds) δ2 := TKw.of (dk_cons ha hr) fun P p => ⟨rfl, rfl, p⟩
theorem te_callK {T : TF} {i : Nat} {ks : List Str} {kws : List Keyword} (c : CaKX X x kk i ks (spF X.K n T)) (hr : Room jj X.A) (hk : kk ≤ jj) (hg : Gl X x) (ha : TAs X F (e :: es) δ ds δ1) (hkw : TKw X F kws δ1 ds1 δ2) (ht : ∀ P : D → Prop, P d → T (ds ++ ds1) P)
    (hl : ds.length = i ∧ ds1.length = ks.length ∧ i + ks.length = n := by exact ⟨rfl, rfl, rfl⟩) (hall : (backToKw pos (keywordEach kws X.env)).all (·.1.isSome) = true := by rfl) (hks : (backToKw pos (keywordEach kws X.env)).filterMap (·.1) = ks := by rfl)
    (hdb : (x == ("__debug__" : Str)) = false := by decide) (he : starEach (e :: es) X.env = (false, eval e X.env) :: starEach es X.env := by rfl)
    (hpl : ((backTo pos (starEach (e :: es) X.env)).any (·.1) || (backToKw pos (keywordEach kws X.env)).any (·.1.isNone)) = false := by rfl) : TE X F (.Call (.Name x p) (e :: es) kws pos) δ d δ2 := TE.of (de_callK c hr hk hg ha hkw hall hks hdb he hpl) fun P p => ⟨rfl, rfl, hl, ht _ p⟩
theorem tn_call {T : TFN} (c : CaX X x kk (spFN X.K n T)) (hr : Room jj X.A) (hk : kk ≤ jj) (hg : Gl X x) (ha : TAs X F (e :: es) δ ds δ1) (ht : ∀ P : List D → Prop, P ds1 → T ds P) (hl : ds.length = n := by rfl) (hdb : (x == ("__debug__" : Str)) = false := by decide) (he : starEach (e :: es) X.env = (false, eval e X.env) :: starEach es X.env := by rfl)
    (hpl : (backTo pos (starEach es X.env)).any (·.1) = false := by rfl) : TN X F (.Call (.Name x p) (e :: es) [] pos) δ ds1 δ1 := TN.of (dn_call c hr hk hg ha hdb he hpl) fun P p => ⟨rfl, hl, ht _ p⟩
theorem te_callIO {T : TIO} {i : Nat} {xs ys zs : List D} (c : CaX X x kk (spIO X.K n T)) (hr : Room jj X.A) (hk : kk ≤ jj) (hg : Gl X x) (h0 : PE X e (tVar i)) (ha : TAs X F es δ ds δ1) (q1 : δ1[i]? = some (.own xs)) (ht : ∀ P : D → List D → Prop, P d ys → T xs ds P) (q0 : δ[i]? = some (.own zs) := by rfl) (hl : ds.length + 1 = n := by rfl)
    (hdb : (x == ("__debug__" : Str)) = false := by decide) (he : starEach (e :: es) X.env = (false, eval e X.env) :: starEach es X.env := by rfl)
    (hpl : (backTo pos (starEach es X.env)).any (·.1) = false := by rfl) : TE X F (.Call (.Name x p) (e :: es) [] pos) δ d (δ1.set i (.own ys)) := TE.of (de_callIO c hr hk hg h0 ha hdb he hpl) fun P p => ⟨⟨_, q0⟩, rfl, hl, _, q1, ht _ p⟩
theorem te_make {T : TIn} (c : MkrX X C kk (spIn X.K C n T)) (hr : Room jj X.A) (hk : kk + 1 ≤ jj) (hg : Gl X x) (hm : X.mg x = some (.ref C)) (ha : TAs X F (e :: es) δ ds δ1) (ht : ∀ P : List (Str × D) → Prop, P gs → T ds P) (hl : ds.length = n := by rfl) (hdb : (x == ("__debug__" : Str)) = false := by decide)
    (he : starEach (e :: es) X.env = (false, eval e X.env) :: starEach es X.env := by rfl) (hpl : (backTo pos (starEach es X.env)).any (·.1) = false := by rfl) : TE X F (.Call (.Name x p) (e :: es) [] pos) δ (.ins C gs) δ1 := TE.of (de_make c hr hk hg hm ha hdb he hpl) fun P p => ⟨rfl, hl, ht _ p⟩
theorem te_makeV {T : TIn} {i : Nat} (c : MkrX X C kk (spIn X.K C n T)) (hr : Room jj X.A) (hk : kk + 1 ≤ jj) (h0 : PE X (.Name x p) (tVar i)) (ha : TAs X F (e :: es) δ ds δ1) (ht : ∀ P : List (Str × D) → Prop, P gs → T ds P) (q0 : δ[i]? = some (.dat (.at C)) := by rfl) (hl : ds.length = n := by rfl)
    (he : starEach (e :: es) X.env = (false, eval e X.env) :: starEach es X.env := by rfl) (hpl : (backTo pos (starEach es X.env)).any (·.1) = false := by rfl) : TE X F (.Call (.Name x p) (e :: es) [] pos) δ (.ins C gs) δ1 := TE.of (de_makeV c hr hk h0 ha he hpl) fun P p => ⟨q0, rfl, hl, ht _ p⟩
theorem te_meth {T : TF} {pl : Sem Bool} (c : MthX X C m kk (spF X.K n T)) (hr : Room jj X.A) (hk : kk ≤ jj) (ho : TE X F o δ (.ins C gs) δ1) (ha : TAs X F (e :: es) δ1 ds δ2) (ht : ∀ P : D → Prop, P d → T (.ins C gs :: ds) P) (q : gs.lookup m = none) (hl : ds.length + 1 = n := by rfl) (hst : starEach (e :: es) X.env = (false, eval e X.env) :: starEach es X.env := by rfl)
    (hpl : (backTo pos (starEach es X.env)).any (·.1) = false := by rfl)
    (hx : eval (.Call (.Attribute o m apos) (e :: es) [] pos) X.env = (do
      let ov ← eval o X.env
      standAt apos.atName
      let (f, first) ← holding [ov] (getMethod ov m pl)
      callWith pos f first (backTo pos (starEach (e :: es) X.env)) (backToKw pos (keywordEach [] X.env))) := by rfl) : TE X F (.Call (.Attribute o m apos) (e :: es) [] pos) δ d δ2 := TE.of (de_meth c hr hk ho ha hst hpl hx) fun P p => ⟨rfl, _, rfl, q, rfl, hl, ht _ p⟩
theorem te_meth0 {T : TF} {pl : Sem Bool} (c : MthX X C m kk (spF X.K n T)) (hr : Room jj X.A) (hk : kk ≤ jj) (ho : TE X F o δ (.ins C gs) δ1) (ht : ∀ P : D → Prop, P d → T [.ins C gs] P) (q : gs.lookup m = none) (hl : 0 + 1 = n := by rfl)
    (hx : eval (.Call (.Attribute o m apos) [] [] pos) X.env = (do
      let ov ← eval o X.env
      standAt apos.atName
      let (f, first) ← holding [ov] (getMethod ov m pl)
      callWith pos f first (backTo pos (starEach [] X.env)) (backToKw pos (keywordEach [] X.env))) := by rfl) : TE X F (.Call (.Attribute o m apos) [] [] pos) δ d δ1 := TE.of (de_meth0 c hr hk ho hx) fun P p => ⟨rfl, _, rfl, q, hl, ht _ p⟩
theorem te_prop {T : TF} (c : PrpX X C f kk (spF X.K 1 T)) (hr : Room jj X.A) (hk : kk + 1 ≤ jj) (ho : TE X F o δ (.ins C gs) δ1) (ht : ∀ P : D → Prop, P d → T [.ins C gs] P) (hab : attributeBase o f X.env (eval o X.env) = eval o X.env := by rfl) : TE X F (.Attribute o f pos) δ d δ1 := TE.of (de_prop c hr hk ho hab) fun P p => ⟨rfl, _, rfl, ht _ p⟩
theorem te_cmeth {T : TF} {pl : Sem Bool} (c : CMtX X C m kk (spF X.K n T)) (hr : Room jj X.A) (hk : kk ≤ jj) (ho : PE X o (tC (.ref C))) (ha : TAs X F (e :: es) δ ds δ1) (ht : ∀ P : D → Prop, P d → T (.at C :: ds) P) (hl : ds.length + 1 = n := by rfl) (hst : starEach (e :: es) X.env = (false, eval e X.env) :: starEach es X.env := by rfl)
    (hpl : (backTo pos (starEach es X.env)).any (·.1) = false := by rfl)
    (hx : eval (.Call (.Attribute o m apos) (e :: es) [] pos) X.env = (do
      let ov ← eval o X.env
      standAt apos.atName
      let (f, first) ← holding [ov] (getMethod ov m pl)
      callWith pos f first (backTo pos (starEach (e :: es) X.env)) (backToKw pos (keywordEach [] X.env))) := by rfl) : TE X F (.Call (.Attribute o m apos) (e :: es) [] pos) δ d δ1 := TE.of (de_cmeth c hr hk ho ha hst hpl hx) fun P p => ⟨rfl, hl, ht _ p⟩
theorem te_eqO {T : TF} {gs hs : List (Str × D)} {kb : Bool} (c : EqCX X C kk (spF X.K n T)) (hr : Room jj X.A) (hk : kk ≤ jj) (ha : TE X F a δ (.ins C gs) δ1) (hb : TP X F b δ1 (.ins C hs) δ2) (ht : ∀ P : D → Prop, P (.bl kb) → T [.ins C gs, .ins C hs] P) (hn : n = 2 := by rfl) : TE X F (.Compare a [.Eq] [b] pos) δ (.bl kb) δ2 :=
  TE.of (d_eqO c hr hk ha hb) fun P p => ⟨rfl, rfl, _, _, rfl, rfl, hn, ht _ p⟩
theorem tt_eqO {T : TF} {gs hs : List (Str × D)} {kb : Bool} (c : EqCX X C kk (spF X.K n T)) (hr : Room jj X.A) (hk : kk ≤ jj) (ha : TE X F a δ (.ins C gs) δ1) (hb : TP X F b δ1 (.ins C hs) δ2) (ht : ∀ P : D → Prop, P (.bl kb) → T [.ins C gs, .ins C hs] P) (hn : n = 2 := by rfl) : TTe X F (.Compare a [.Eq] [b] pos) δ kb δ2 :=
  TTe.of (dt_eqO c hr hk ha hb) fun P p => ⟨rfl, rfl, _, _, rfl, rfl, hn, ht _ ⟨_, rfl, p⟩⟩
theorem te_neO {T : TF} {gs hs : List (Str × D)} {kb : Bool} (c : NeCX X C kk (spF X.K n T)) (hr : Room (jj + 1) X.A) (hk : kk ≤ jj) (ha : TE X F a δ (.ins C gs) δ1) (hb : TP X F b δ1 (.ins C hs) δ2) (ht : ∀ P : D → Prop, P (.bl kb) → T [.ins C gs, .ins C hs] P) (hn : n = 2 := by rfl) : TE X F (.Compare a [.NotEq] [b] pos) δ (.bl (!kb)) δ2 :=
  TE.of (d_neO c hr hk ha hb) fun P p => ⟨rfl, rfl, _, _, rfl, rfl, hn, ht _ ⟨_, rfl, p⟩⟩
theorem tt_neO {T : TF} {gs hs : List (Str × D)} {kb : Bool} (c : NeCX X C kk (spF X.K n T)) (hr : Room (jj + 1) X.A) (hk : kk ≤ jj) (ha : TE X F a δ (.ins C gs) δ1) (hb : TP X F b δ1 (.ins C hs) δ2) (ht : ∀ P : D → Prop, P (.bl kb) → T [.ins C gs, .ins C hs] P) (hn : n = 2 := by rfl) : TTe X F (.Compare a [.NotEq] [b] pos) δ (!kb) δ2 :=
  TTe.of (dt_neO c hr hk ha hb) fun P p => ⟨rfl, rfl, _, _, rfl, rfl, hn, ht _ ⟨_, rfl, _, rfl, p⟩⟩
/-! a dict of the module whose values are defs; a slot that holds one of them -/
theorem tt_notinK {dd : Addr} {ks : List (Str × Addr)} {z : Str} {ad : Addr} (D : KTab X.K X.w dd ks) (ha : TE X F a δ (.str z) δ1) (hb : TP X F b δ1 (.at dd) δ2) (m : (z, ad) ∈ ks) (hm : behindInMarks .NotIn b = false := by rfl) : TTe X F (.Compare a [.NotIn] [b] pos) δ false δ2 :=
  TTe.of (dt_notinK D ha hb hm) fun P p => ⟨rfl, rfl, _, _, rfl, rfl, m, _, rfl, p⟩
theorem te_ixK {dd : Addr} {ks : List (Str × Addr)} {z : Str} {ad : Addr} (D : KTab X.K X.w dd ks) (ha : TP X F a δ (.at dd) δ1) (hb : TP X F b δ1 (.str z) δ2) (m : (z, ad) ∈ ks) (hk : Kp δ1 δ2 := by exact Kp.refl _) (hs : PlainIx b := by intro _ _; rfl) : TE X F (.Subscript a b pos) δ (.at ad) δ2 :=
  TE.of (d_ixK D ha hb hs) fun P p => ⟨rfl, rfl, hk, _, _, rfl, rfl, m, p⟩
theorem te_callV {i : Nat} {fs : List (Addr × TF)} {ad : Addr} {T : TF} (c : ∀ q ∈ fs, CaA X.prog X.w X.K X.mg X.base jj q.1 n q.2) (hr : Room jj X.A) (h0 : PE X (.Name x p) (tVar i)) (ha : TAs X F (e :: es) δ ds δ1) (m : (ad, T) ∈ fs) (ht : ∀ P : D → Prop, P d → T ds P) (q0 : δ[i]? = some (.dat (.at ad)) := by rfl) (hl : ds.length = n := by rfl)
    (he : starEach (e :: es) X.env = (false, eval e X.env) :: starEach es X.env := by rfl) (hpl : (backTo pos (starEach es X.env)).any (·.1) = false := by rfl) : TE X F (.Call (.Name x p) (e :: es) [] pos) δ d δ1 :=
  TE.of (de_callV c hr h0 ha he hpl) fun P p => ⟨_, m, q0, rfl, hl, ht _ p⟩
end
end DT
end
section
set_option maxHeartbeats 4000000
namespace DT
open PySem PySem.Spec PyProof.Rows L2
/-! ## what is walked -/
def Szd (K : PySem.W.Frag) (H : Hp) : Prop := (∀ a xs, SqL K H a xs → xs.length ≤ sizeLine) ∧ ∀ a xs, SqT K H a xs → xs.length ≤ sizeLine
section
variable {X : Cx} {F : Fm} {e a b c o tg iter : Expr} {es rest : List Expr} {pos p apos : Pos} {δ δ' δ1 δ2 δ3 : List S} {d d1 d2 : D} {ds ds1 : List D} {k k1 k2 : Bool} {i j : Int}
variable {α β ι ρ : Type} {em : α → D} {ef : β → D}
theorem szd {pins : List (Addr × Obj)} {σ : L2.St} {H : Hp} {s : Shared} (I : L2.Inv X pins σ H s) : Szd X.K H :=
  ⟨fun a xs h => by obtain ⟨its, rv, _, hz⟩ := I.list h; exact hz, fun a xs h => by obtain ⟨its, rv, _, hz⟩ := I.tuple h; exact hz⟩
theorem PI.sz {t : TI} (h : PI X tg iter t) : PI X tg iter fun σ H R => t σ H fun J H1 => Szd X.K H1 → R J H1 :=
  ⟨fun pins s σ H R I q => thn (h.run pins s σ H _ I q) fun xv s1 hx => thn hx fun itv s2 ⟨it, fp, tn, J, H2, e, I2, T, st2, f2, q⟩ => ⟨it, fp, tn, J, H2, e, I2, T, st2, f2, q (szd I2)⟩⟩
theorem ti_seq (h : TE X F e δ d δ1) (q : sq d = some ds) : TIt X F tg e δ ds δ1 :=
  PI.imp (PI.sz (pi_seq h)) fun σ H R' ⟨Hf, δ0, P, R, ⟨e0, p⟩, z⟩ => ⟨Hf, δ0, fun d' δ' => d' = d ∧ δ' = δ1, R, ⟨e0, rfl, rfl⟩, fun d' δ' ⟨hd, hδ⟩ Hf1 H1 v s1 R1 r1 => by
    subst hd hδ
    cases r1 with
    | tup hh r => simp only [sq] at q; cases q; exact .inr ⟨_, _, rfl, seqT R1.sub hh, fun sz => z _ _ (p (by rw [← r.length]; exact sz.2 _ _ (seqT R1.sub hh))) Hf1 H1 _ s1 R1 (wd_tup hh r)⟩
    | lst hh r => simp only [sq] at q; cases q; exact .inl ⟨_, _, rfl, SqL.of (R1.sub _ _ hh), fun sz => z _ _ (p (by rw [← r.length]; exact sz.1 _ _ (SqL.of (R1.sub _ _ hh)))) Hf1 H1 _ s1 R1 (wd_list (SqL.of hh) r)⟩
    | row hh r => simp only [sq] at q; cases q; exact .inl ⟨_, _, rfl, R1.sub.seq hh, fun sz => z _ _ (p (by rw [← r.length]; exact sz.1 _ _ (R1.sub.seq hh))) Hf1 H1 _ s1 R1 (wd_list hh r)⟩
    | _ => simp only [sq] at q; cases q⟩
variable {elts : List Expr} {kk : Nat} {tpos : Pos}
theorem ti_enum {xs : List α} (hg : Gl X "enumerate") (hm : X.mg "enumerate" = none) (h : TE X F e δ d δ1) (q : sq d = some (xs.map em)) (hs : starEach [e] X.env = (false, eval e X.env) :: starEach [] X.env := by rfl) :
    TIt X F (.Tuple elts kk tpos) (.Call (.Name "enumerate" p) [e] [] pos) δ ((enm 0 xs).map (eP2 eI em)) δ1 :=
  PI.imp (PI.sz (pi_enumA hg hm h hs)) fun σ H R' ⟨Hf, δ0, P, R, ⟨e0, p⟩, z⟩ => ⟨Hf, δ0, fun d' δ' => d' = d ∧ δ' = δ1, R, ⟨e0, rfl, rfl⟩, fun d' δ' ⟨hd, hδ⟩ Hf1 H1 v s1 R1 r1 => by
    subst hd hδ
    have el : ((enm 0 xs).map (eP2 eI em)).length = (xs.map em).length := by rw [← enD_map, enD_length]
    rw [← enD_map] at p el
    cases r1 with
    | tup hh r => simp only [sq] at q; cases q; exact .inr ⟨_, _, rfl, seqT R1.sub hh, fun sz => z _ _ (p (by rw [el, ← r.length]; exact sz.2 _ _ (seqT R1.sub hh))) Hf1 H1 _ s1 R1 (wd_enT hh r)⟩
    | lst hh r => simp only [sq] at q; cases q; exact .inl ⟨_, _, rfl, SqL.of (R1.sub _ _ hh), fun sz => z _ _ (p (by rw [el, ← r.length]; exact sz.1 _ _ (SqL.of (R1.sub _ _ hh)))) Hf1 H1 _ s1 R1 (wd_enL (SqL.of hh) r)⟩
    | row hh r => simp only [sq] at q; cases q; exact .inl ⟨_, _, rfl, R1.sub.seq hh, fun sz => z _ _ (p (by rw [el, ← r.length]; exact sz.1 _ _ (R1.sub.seq hh))) Hf1 H1 _ s1 R1 (wd_enL hh r)⟩
    | _ => simp only [sq] at q; cases q⟩
theorem ti_range1 (hg : Gl X "range") (hm : X.mg "range" = none) (ha : TE X F a δ (.int j) δ1) (h : -(2 ^ 62) ≤ j ∧ j ≤ 16777216) (hs : starEach [a] X.env = (false, eval a X.env) :: starEach [] X.env := by rfl) : TIt X F tg (.Call (.Name "range" p) [a] [] pos) δ ((rng 0 j).map eI) δ1 :=
  TIt.of (di_range1 hg hm ha hs) fun P p => ⟨rfl, j, rfl, ⟨h.1, by omega⟩, by
    rw [rngD_eq]; unfold rng at p; rw [Int.sub_zero] at p; exact p (by rw [List.length_map, List.length_map, List.length_range, sizeLine_eq]; omega)⟩
theorem ti_range2 (hg : Gl X "range") (hm : X.mg "range" = none) (ha : TE X F a δ (.int i) δ1) (hb : TE X F b δ1 (.int j) δ2) (h : -(2 ^ 62) ≤ i ∧ i < 2 ^ 62 ∧ -(2 ^ 62) ≤ j ∧ j < 2 ^ 62 ∧ j - i ≤ 16777216) (hs : starEach [a, b] X.env = [(false, eval a X.env), (false, eval b X.env)] := by rfl) (hs2 : starEach [b] X.env = [(false, eval b X.env)] := by rfl) (hs3 : starEach [a, b] X.env = (false, eval a X.env) :: starEach [b] X.env := by rfl) :
    TIt X F tg (.Call (.Name "range" p) [a, b] [] pos) δ ((rng i j).map eI) δ2 :=
  TIt.of (di_range2 hg hm ha hb hs hs2 hs3) fun P p => ⟨rfl, rfl, i, j, rfl, rfl, ⟨h.1, h.2.1, h.2.2.1, h.2.2.2.1⟩, by
    rw [rngD_eq]; unfold rng at p; exact p (by rw [List.length_map, List.length_map, List.length_range, sizeLine_eq]; omega)⟩

/-! ## statements -/
/-- what a block comes to -/
inductive Oc where
  | nx (δ : List S) | rt (d : D) | rti (d : D) (es : List D) | rn (ds : List D) | bk (δ : List S) | ct (δ : List S)
def Oc.sat (E : DEnds) : Oc → Prop
  | .nx δ => E.nx δ
  | .rt d => ∀ δ, E.rt d δ
  | .rti d es => ∀ δ, δ[0]? = some (.own es) → E.rt d δ
  | .rn ds => ∀ δ, E.rn ds δ
  | .bk δ => E.bk δ
  | .ct δ => E.ct δ
def Oc.ex : Oc → Prop
  | .nx _ => False
  | _ => True
theorem Oc.sat_nx {E : DEnds} {n : List S → Prop} {o : Oc} (h : o.ex) : o.sat { E with nx := n } = o.sat E := by cases o <;> first | rfl | exact h.elim
def TS (X : Cx) (F : Fm) (st : Stmt) (δ : List S) (o : Oc) : Prop := DS X F st fun E δ0 => δ0 = δ ∧ o.sat E
def TSs (X : Cx) (F : Fm) (sts : List Stmt) (δ : List S) (o : Oc) : Prop := DSs X F sts fun E δ0 => δ0 = δ ∧ o.sat E
variable {st : Stmt} {sts sa sb : List Stmt} {ob oc1 od : Oc}
theorem DS.imp {t t' : WS} (h : DS X F st t) (k : ∀ E δ, t' E δ → t E δ) : DS X F st t' := PS.imp h fun D σ H ⟨Hf, δ, E, R, q, m⟩ => ⟨Hf, δ, E, R, k _ _ q, m⟩
theorem TS.of {t : WS} (h : DS X F st t) (z : ∀ E, ob.sat E → t E δ) : TS X F st δ ob := DS.imp h fun E δ0 ⟨e, p⟩ => by rw [e]; exact z E p
theorem TSs.of {t : WS} (h : DSs X F sts t) (z : ∀ E, ob.sat E → t E δ) : TSs X F sts δ ob := DSs.imp h fun E δ0 ⟨e, p⟩ => by rw [e]; exact z E p
theorem TSs.cast (h : TSs X F sts δ ob) (q : ob = oc1) : TSs X F sts δ oc1 := q ▸ h
theorem TS.cast (h : TS X F st δ ob) (q : ob = oc1) : TS X F st δ oc1 := q ▸ h
theorem tss_nil : TSs X F [] δ (.nx δ) := TSs.of dss_nil fun E p => p
theorem tss_one (h : TS X F st δ ob) : TSs X F [st] δ ob := dss_one h
theorem tss_cons (h1 : TS X F st δ (.nx δ1)) (h2 : TSs X F sts δ1 ob) : TSs X F (st :: sts) δ ob := TSs.of (dss_cons h1 h2) fun E p => ⟨rfl, rfl, p⟩
/-- the slots that nobody reads any more -/
theorem dss_unset {vs : List Nat} {t : WS} (hio : ∀ i ∈ vs, NoIo F i) (h : DSs X F sts t) : DSs X F sts fun E δ => NM vs δ ∧ t E (unset δ vs) := PSs.imp h fun D σ H ⟨Hf, δ, E, R, ⟨nm, q⟩, m⟩ => by
  have weak : ∀ {vs : List Nat}, (∀ i ∈ vs, NoIo F i) → NM vs δ → Rel X.K F Hf H σ (unset δ vs) := by
    intro vs
    induction vs with
    | nil => intro _ _; exact R
    | cons v vs ih =>
      intro h1 h2
      have R2 := ih (fun i hi => h1 i (List.mem_cons_of_mem _ hi)) fun i hi => h2 i (List.mem_cons_of_mem _ hi)
      have nv : ∀ s, (unset δ vs)[v]? = some s → s.mine = false := fun s e => by
        by_cases hv : v ∈ vs
        · rw [unset_in hv s e]; rfl
        · rw [unset_out hv] at e; exact h2 v List.mem_cons_self s e
      have get : ∀ {j : Nat} {s : S}, ((unset δ vs).set v .un)[j]? = some s → s.mine = true → j ≠ v ∧ (unset δ vs)[j]? = some s := fun {j s} e m => by
        by_cases hj : v = j
        · subst hj
          by_cases hl : v < (unset δ vs).length
          · rw [List.getElem?_set_self hl] at e; cases e; cases m
          · rw [List.getElem?_eq_none (by rw [List.length_set]; omega)] at e; cases e
        · rw [List.getElem?_set_ne hj] at e; exact ⟨fun z => hj z.symm, e⟩
      show Rel X.K F Hf H σ ((unset δ vs).set v .un)
      refine ⟨R2.sub, R2.f0, R2.keep, R2.nf, by rw [List.length_set]; exact R2.len, fun j s e => ?_, fun j k b xs ys e1 m1 e2 m2 e3 e4 => R2.dis j k b _ _ (get e1 m1).2 m1 (get e2 m2).2 m2 e3 e4, fun p hp => ?_, fun j s b e m g => R2.fr j s b (get e m).2 m g⟩
      · by_cases hj : v = j
        · subst hj
          by_cases hl : v < (unset δ vs).length
          · rw [List.getElem?_set_self hl] at e; cases e; trivial
          · rw [List.getElem?_eq_none (by rw [List.length_set]; omega)] at e; cases e
        · rw [List.getElem?_set_ne hj] at e; exact R2.sl j s e
      · obtain ⟨g1, s, g2, m⟩ := R2.io p hp
        exact ⟨g1, s, by rw [List.getElem?_set_ne (Ne.symm (h1 v List.mem_cons_self p hp))]; exact g2, m⟩
  exact ⟨Hf, _, E, weak hio nm, q, m⟩
theorem nm_by {vs : List Nat} (h : vs.all (fun i => match δ[i]? with | some s => !s.mine | none => true) = true) : NM vs δ := fun i hi s e => by
  have := List.all_eq_true.mp h i hi
  rw [e] at this; simpa using this
theorem tss_unset {vs : List Nat} (hio : ∀ i ∈ vs, NoIo F i) (h : TSs X F sts δ2 ob) (q : unset δ vs = δ2 := by rfl) (nm : vs.all (fun i => match δ[i]? with | some s => !s.mine | none => true) = true := by rfl) : TSs X F sts δ ob := TSs.of (dss_unset hio h) fun E p => ⟨nm_by nm, q, p⟩
theorem ts_asg {g : WG} {vs : List Nat} (he : TE X F e δ d δ1) (hg : DG X F tg vs g) (hgs : ∀ P : List S → Prop, P δ2 → g d δ1 P) (hs : swapsWithSole [tg] e pos.line X.env = pure false := by rfl) (hw : swappedStores [tg] e X.env = pure none := by rfl) (h1 : List.map (fun x => x.snd) (assignEach [tg] X.env) = [assign tg X.env] := by rfl) : TS X F (.Assign [tg] e pos) δ (.nx δ2) :=
  TS.of (ds_asg he hg hs hw h1) fun E p => ⟨rfl, hgs _ p⟩
theorem ts_set {n : Nat} (he : TE X F e δ d δ1) (hg : PG X tg (gName n)) (hio : NoIo F n) (hs : swapsWithSole [tg] e pos.line X.env = pure false := by rfl) (hw : swappedStores [tg] e X.env = pure none := by rfl) (h1 : List.map (fun x => x.snd) (assignEach [tg] X.env) = [assign tg X.env] := by rfl) : TS X F (.Assign [tg] e pos) δ (.nx (δ1.set n (.dat d))) :=
  TS.of (ds_asg he (dg_name hg hio) hs hw h1) fun E p => ⟨rfl, p⟩
theorem ts_setN {n : Nat} (he : TN X F e δ ds δ1) (hg : PG X tg (gName n)) (hio : NoIo F n) (hs : swapsWithSole [tg] e pos.line X.env = pure false := by rfl) (hw : swappedStores [tg] e X.env = pure none := by rfl) (h1 : List.map (fun x => x.snd) (assignEach [tg] X.env) = [assign tg X.env] := by rfl) : TS X F (.Assign [tg] e pos) δ (.nx (δ1.set n (.own ds))) :=
  TS.of (ds_setN he hg hio hs hw h1) fun E p => ⟨rfl, p⟩
theorem tss_frz {n : Nat} (hio : NoIo F n) (q : δ[n]? = some (.own ds)) (h : TSs X F sts (δ.set n (.dat (.lst ds))) ob) : TSs X F sts δ ob := TSs.of (dss_frz hio h) fun E p => ⟨ds, q, rfl, p⟩
theorem ts_expr (h : TE X F e δ d δ1) (hs : swapsWith e none pos.line X.env = pure false := by rfl) : TS X F (.Expr e pos) δ (.nx δ1) := TS.of (ds_expr h hs) fun E p => ⟨rfl, p⟩
theorem ts_pass : TS X F (.Pass pos) δ (.nx δ) := TS.of ds_pass fun E p => p
theorem ts_ret (h : TE X F e δ d δ1) : TS X F (.Return (some e) pos) δ (.rt d) := TS.of (ds_ret h) fun E p => ⟨rfl, p δ1⟩
theorem ts_ret0 : TS X F (.Return none pos) δ (.rt .non) := TS.of ds_ret0 fun E p => p δ
theorem ts_retI (h : TE X F e δ d δ1) (q : δ1[0]? = some (.own ds) := by rfl) : TS X F (.Return (some e) pos) δ (.rti d ds) := TS.of (ds_ret h) fun E p => ⟨rfl, p δ1 q⟩
theorem ts_retN (h : TN X F e δ ds δ1) : TS X F (.Return (some e) pos) δ (.rn ds) := TS.of (ds_retN h) fun E p => ⟨rfl, p δ1⟩
theorem ts_break : TS X F (.Break pos) δ (.bk δ) := TS.of ds_break fun E p => p
theorem ts_continue : TS X F (.Continue pos) δ (.ct δ) := TS.of ds_continue fun E p => p
/-- what is bound for the rest of a block -/
theorem tss_let {st' : α → List S} {ob' : α → Oc} (v : α) (h1 : TS X F st δ (.nx δ2)) (h2 : ∀ v, TSs X F sts (st' v) (ob' v)) (q : δ2 = st' v) : TSs X F (st :: sts) δ (ob' v) := tss_cons h1 (q ▸ h2 v)
def Bd {α : Type} (okR : α → Prop) (v : α) : Prop := okR v
theorem tss_letK {st' : α → List S} {ob' : α → Oc} {okR : α → Prop} (v : α) (h : Bd okR v) (h1 : TS X F st δ (.nx δ2)) (h2 : ∀ v, okR v → TSs X F sts (st' v) (ob' v)) (q : δ2 = st' v) : TSs X F (st :: sts) δ (ob' v) := tss_cons h1 (q ▸ h2 v h)

/-! ### if -/
theorem dss_nev : DSs X F sts fun _ _ => False := PSs.imp pss_never fun D σ H ⟨_, _, _, _, f, _⟩ => f.elim
theorem ts_if (hc : TTe X F c δ k δ1) (h1 : k = true → TSs X F sa δ1 ob) (h2 : k = false → TSs X F sb δ1 oc1) : TS X F (.If c sa sb pos) δ (if k = true then ob else oc1) := by
  cases k with
  | true => exact TS.of (ds_if hc (h1 rfl) dss_nev) fun E p => ⟨rfl, iteT ⟨rfl, p⟩⟩
  | false => exact TS.of (ds_if hc dss_nev (h2 rfl)) fun E p => ⟨rfl, iteF ⟨rfl, p⟩⟩
/-- both ways go on -/
theorem ts_ifJ {st' : ρ → List S} {ra rb : ρ} (hc : TTe X F c δ k δ1) (h1 : k = true → TSs X F sa δ1 (.nx (st' ra))) (h2 : k = false → TSs X F sb δ1 (.nx (st' rb))) : TS X F (.If c sa sb pos) δ (.nx (st' (if k = true then ra else rb))) := by
  cases k with
  | true => exact ts_if hc h1 h2
  | false => exact ts_if hc h1 h2
/-- the first way is left for good; rt: what the exit comes to -/
theorem tss_ifX {rt : β → Oc} {x y : β} (hc : TTe X F c δ k δ1) (hx : (rt x).ex) (h1 : k = true → TSs X F sa δ1 (rt x)) (h2 : k = false → TSs X F sts δ1 (rt y)) : TSs X F (.If c sa [] pos :: sts) δ (rt (if k = true then x else y)) := by
  cases k with
  | true => exact TSs.of (dss_cons (ds_if hc (h1 rfl) dss_nev) (u := fun _ _ => False) dss_nev) fun E p => ⟨rfl, iteT ⟨rfl, by rw [Oc.sat_nx hx]; exact p⟩⟩
  | false => exact TSs.of (dss_cons (ds_if hc dss_nev dss_nil) (h2 rfl)) fun E p => ⟨rfl, iteF ⟨rfl, p⟩⟩
/-- the first way is never taken -/
theorem tss_ifN (hc : TTe X F c δ k δ1) (hk : k = false) (h2 : TSs X F sts δ1 ob) : TSs X F (.If c sa [] pos :: sts) δ ob := by
  subst hk
  exact TSs.of (dss_cons (ds_if hc dss_nev dss_nil) h2) fun E p => ⟨rfl, iteF ⟨rfl, p⟩⟩
/-- the first way is always taken -/
theorem ts_ifT (hc : TTe X F c δ k δ1) (hk : k = true) (h1 : TSs X F sa δ1 ob) : TS X F (.If c sa sb pos) δ ob := by
  subst hk
  exact TS.of (ds_if hc h1 dss_nev) fun E p => ⟨rfl, iteT ⟨rfl, p⟩⟩
theorem ts_ifF (hc : TTe X F c δ k δ1) (hk : k = false) (h2 : TSs X F sb δ1 ob) : TS X F (.If c sa sb pos) δ ob := by
  subst hk
  exact TS.of (ds_if hc dss_nev h2) fun E p => ⟨rfl, iteF ⟨rfl, p⟩⟩
/-- both ways are left for good -/
theorem ts_ifR {rt : β → Oc} {x y : β} (hc : TTe X F c δ k δ1) (h1 : k = true → TSs X F sa δ1 (rt x)) (h2 : k = false → TSs X F sb δ1 (rt y)) : TS X F (.If c sa sb pos) δ (rt (if k = true then x else y)) := by
  cases k with
  | true => exact ts_if hc h1 h2
  | false => exact ts_if hc h1 h2
theorem ts_exit {rt : β → Oc} {x : β} (hx : (rt x).ex) (h : TS X F st δ (rt x)) : TSs X F (st :: sts) δ (rt x) := TSs.of (dss_cons (u := fun _ _ => False) h dss_nev) fun E p => ⟨rfl, by rw [Oc.sat_nx hx]; exact p⟩

/-! ### loops -/
/-- what a turn comes to -/
inductive Fl (ρ α : Type) where
  | next (r : ρ) | cnt (r : ρ) | brk (r : ρ) | ret (a : α)
/-- what a loop comes to -/
inductive Rs (ρ α : Type) where
  | next (r : ρ) | ret (a : α)
def Fl.oc (st : ρ → List S) (rt : α → Oc) : Fl ρ α → Oc
  | .next r => .nx (st r)
  | .cnt r => .ct (st r)
  | .brk r => .bk (st r)
  | .ret a => rt a
def Rs.oc (st : ρ → List S) (rt : α → Oc) : Rs ρ α → Oc
  | .next r => .nx (st r)
  | .ret a => rt a
def forF (body : ρ → ι → Fl ρ α) : List ι → ρ → Rs ρ α
  | [], r => .next r
  | x :: xs, r => match body r x with
    | .next r' => forF body xs r'
    | .cnt r' => forF body xs r'
    | .brk r' => .next r'
    | .ret a => .ret a
def OkFor (body : ρ → ι → Fl ρ α) (okb : ρ → ι → Prop) : List ι → ρ → Prop
  | [], _ => True
  | x :: xs, r => okb r x ∧ match body r x with
    | .next r' => OkFor body okb xs r'
    | .cnt r' => OkFor body okb xs r'
    | .brk _ => True
    | .ret _ => True
theorem loop_ok {g : WG} {emi : ι → D} {st' : ρ → List S} {st1 : ρ → ι → List S} {rt : α → Oc} {body : ρ → ι → Fl ρ α} {okb : ρ → ι → Prop} {t : WS} (hrt : ∀ a, (rt a).ex) (hrb : ∀ a E n c b, (rt a).sat E → (rt a).sat { E with nx := n, ct := c, bk := b })
    (hgs : ∀ r x (P : List S → Prop), P (st1 r x) → g (emi x) (st' r) P) (ht : ∀ r x E, okb r x → (Fl.oc st' rt (body r x)).sat E → t E (st1 r x)) (E : DEnds) :
    ∀ (xs : List ι) (r : ρ), OkFor body okb xs r → (Rs.oc st' rt (forF body xs r)).sat E → wLoop g t E (xs.map emi) (st' r)
  | [], r, _, h => h
  | x :: xs, r, ho, h => by
    obtain ⟨h1, h2⟩ := ho
    refine hgs r x _ (ht r x _ h1 ?_)
    unfold forF at h
    cases e : body r x with
    | next r' => rw [e] at h h2; exact loop_ok hrt hrb hgs ht E xs r' h2 h
    | cnt r' => rw [e] at h h2; exact loop_ok hrt hrb hgs ht E xs r' h2 h
    | brk r' => rw [e] at h; exact h
    | ret a => rw [e] at h; exact hrb a E _ _ _ h
/-- how a def hands back -/
abbrev Rt (e : α → D) : α → Oc := fun a => .rt (e a)
abbrev RtI (e : α → D) (f : β → D) : α × List β → Oc := fun p => .rti (e p.1) (p.2.map f)
abbrev RtN (e : α → D) : List α → Oc := fun xs => .rn (xs.map e)
theorem ts_for {vs : List Nat} {g : WG} {emi : ι → D} {st' : ρ → List S} {st1 : ρ → ι → List S} {rt : α → Oc} {body : ρ → ι → Fl ρ α} {okb : ρ → ι → Prop} {xs : List ι} {r0 : ρ} {tb : List Stmt} (hp : PassesOwn (model X.prog X.w) X.A X.env X.xe) (hc : X.calm = true)
    (hrt : ∀ a, (rt a).ex) (hrb : ∀ a E n c b, (rt a).sat E → (rt a).sat { E with nx := n, ct := c, bk := b })
    (hi : TIt X F tg iter δ (xs.map emi) δ1) (hg : DG X F tg vs g) (hgs : ∀ r x (P : List S → Prop), P (st1 r x) → g (emi x) (st' r) P) (q : δ1 = st' r0) (hok : OkFor body okb xs r0)
    (hb : ∀ r x, okb r x → TSs X F tb (st1 r x) (Fl.oc st' rt (body r x)))
    (rule : ∀ ti t, PI X tg iter ti → PSs X tb t → PS X st (tFor ti (liftG X.K F vs g) t)) : TS X F st δ (Rs.oc st' rt (forF body xs r0)) := by
  have hb' : DSs X F tb fun E δ0 => ∃ r x, okb r x ∧ δ0 = st1 r x ∧ (Fl.oc st' rt (body r x)).sat E :=
    ⟨fun pins s σ H Dd I ⟨Hf, δ0, E, R, ⟨r, x, ho, e, h⟩, m⟩ => (hb r x ho).run pins s σ H Dd I ⟨Hf, δ0, E, R, ⟨e, h⟩, m⟩⟩
  exact TS.of (ds_for hp hc hi hg hb' rule) fun E p => ⟨rfl, fun _ => by
    rw [q]; exact loop_ok hrt hrb hgs (fun r x E ho h => ⟨r, x, ho, rfl, h⟩) E xs r0 hok p⟩
end
end DT
end
section
set_option maxHeartbeats 4000000
namespace DT
open PySem PySem.Spec PyProof.Rows L2
/-! ## comprehensions -/
section
variable {α β ι ρ : Type}
/-- a comprehension whose turns change lists of the def's own -/
def compS (f : ρ → ι → Option β × ρ) : List ι → ρ → List β × ρ
  | [], r => ([], r)
  | x :: xs, r => match f r x with
    | (some y, r') => (y :: (compS f xs r').1, (compS f xs r').2)
    | (none, r') => compS f xs r'
def OkComp (f : ρ → ι → Option β × ρ) (okb : ρ → ι → Prop) : List ι → ρ → Prop
  | [], _ => True
  | x :: xs, r => okb r x ∧ OkComp f okb xs (f r x).2
/-- what a comprehension's turn comes to -/
def turnS (t : ρ → ι → Bool) (r1 : ρ → ι → ρ) (e : ρ → ι → β) (r2 : ρ → ι → ρ) (r : ρ) (x : ι) : Option β × ρ := if t r x = true then (some (e r x), r2 r x) else (none, r1 r x)
theorem compS_ok {g : WG} {vs : List Nat} {tt : WT} {te : WE} {emi : ι → D} {emo : β → D} {st : ρ → List S} {sx : ρ → ι → List S} {t : ρ → ι → Bool} {r1 r2 : ρ → ι → ρ} {f : ρ → ι → β} {okb : ρ → ι → Prop} {P : List D → List S → Prop}
    (hgs : ∀ r x (P : List S → Prop), P (sx r x) → g (emi x) (st r) P) (ht : ∀ r x P, okb r x → P (t r x) (sx (r1 r x) x) → tt (sx r x) P) (he : ∀ r x P, okb r x → t r x = true → P (emo (f r x)) (sx (r2 r x) x) → te (sx (r1 r x) x) P)
    (hu : ∀ r x, unset (sx r x) vs = st r) : ∀ (xs : List ι) (acc : List D) (r : ρ), OkComp (turnS t r1 f r2) okb xs r → acc.length + xs.length ≤ sizeLine → P (acc ++ (compS (turnS t r1 f r2) xs r).1.map emo) (st (compS (turnS t r1 f r2) xs r).2) →
      wComp g vs tt te (xs.map emi) acc (st r) P
  | [], acc, r, _, _, h => by simpa [wComp, compS] using h
  | x :: xs, acc, r, ho, hl, h => by
    obtain ⟨h1, h2⟩ := ho
    simp only [List.length_cons] at hl
    rw [List.map_cons]; unfold wComp
    refine hgs r x _ (ht r x _ h1 ?_)
    unfold compS at h
    cases e : t r x with
    | true =>
      have ef : turnS t r1 f r2 r x = (some (f r x), r2 r x) := by unfold turnS; rw [if_pos e]
      rw [ef] at h h2
      rw [if_pos rfl]
      refine he r x _ h1 e ⟨by omega, ?_⟩
      rw [hu]
      exact compS_ok hgs ht he hu xs _ _ h2 (by simp; omega) (by simpa using h)
    | false =>
      have ef : turnS t r1 f r2 r x = (none, r1 r x) := by unfold turnS; rw [if_neg (by rw [e]; decide)]
      rw [ef] at h h2
      rw [if_neg (by decide), hu]
      exact compS_ok hgs ht he hu xs _ _ h2 (by omega) h
/-- .. that change nothing -/
theorem comp_ok {g : WG} {vs : List Nat} {tt : WT} {te : WE} {emi : ι → D} {emo : β → D} {δ2 : List S} {sx : ι → List S} {t : ι → Bool} {f : ι → β} {ys : List ι} {P : List D → List S → Prop}
    (hgs : ∀ x (P : List S → Prop), P (sx x) → g (emi x) δ2 P) (ht : ∀ x P, x ∈ ys → P (t x) (sx x) → tt (sx x) P) (he : ∀ x P, x ∈ ys → t x = true → P (emo (f x)) (sx x) → te (sx x) P)
    (hu : ∀ x, unset (sx x) vs = δ2) : ∀ (xs : List ι) (acc : List D), (∀ x ∈ xs, x ∈ ys) → acc.length + xs.length ≤ sizeLine → P (acc ++ ((xs.filter t).map f).map emo) δ2 → wComp g vs tt te (xs.map emi) acc δ2 P
  | [], acc, _, _, h => by simpa [wComp] using h
  | x :: xs, acc, hm, hl, h => by
    simp only [List.length_cons] at hl
    rw [List.map_cons]; unfold wComp
    have hx := hm x List.mem_cons_self
    refine hgs x _ (ht x _ hx ?_)
    cases e : t x with
    | true =>
      rw [if_pos rfl]
      refine he x _ hx e ⟨by omega, ?_⟩
      rw [hu]
      refine comp_ok hgs ht he hu xs _ (fun y hy => hm y (List.mem_cons_of_mem _ hy)) (by simp; omega) ?_
      rw [List.filter_cons_of_pos e] at h; simpa using h
    | false =>
      rw [if_neg (by decide), hu]
      refine comp_ok hgs ht he hu xs _ (fun y hy => hm y (List.mem_cons_of_mem _ hy)) (by omega) ?_
      rw [List.filter_cons_of_neg (by rw [e]; decide)] at h; exact h
end
section
variable {X : Cx} {F : Fm} {e a b c o tg iter elt : Expr} {es ifs : List Expr} {pos p apos py spos : Pos} {δ δ' δ1 δ2 δ3 : List S} {d d1 d2 : D} {ds ds1 : List D} {k k1 k2 : Bool}
variable {α β ι ρ : Type} {scope : Scope} {own : List (Str × Nat)} {g : WG} {emi : ι → D} {emo : β → D} {xs : List ι}
/-- a part of a comprehension, in whatever frame it stands -/
abbrev Blk (X : Cx) (scope : Scope) (P : Cx → Fm → Prop) : Prop := ∀ (F' : Fm) (s : Shared) (H : Hp) (C : Addr) (cl : List (Str × Addr)) (fp : List Addr), P (X.blk s H scope (compEnvC scope cl C X.env) fp) F'
theorem tts_nil : TTs X F [] δ true δ := TTs.of dts_nil fun P p => p
theorem tts_one (h : TTe X F c δ k δ') : TTs X F [c] δ k δ' := TTs.of (dts_one h) fun P p => ⟨rfl, p⟩
def NIo (own : List (Str × Nat)) (F : Fm) : Prop := ∀ i ∈ own.map (·.2), NoIo F i
section
variable {sx : ι → List S} {t : ι → Bool} {f : ι → β}
theorem lc_ex (ht : ∀ x, x ∈ xs → Blk X scope fun Y F' => TTs Y F' ifs (sx x) (t x) (sx x)) (F' : Fm) (s : Shared) (H : Hp) (C : Addr) (cl : List (Str × Addr)) (fp : List Addr) : DTs (X.blk s H scope (compEnvC scope cl C X.env) fp) F' ifs fun δ0 P => ∃ x, x ∈ xs ∧ δ0 = sx x ∧ P (t x) (sx x) :=
  ⟨fun pins s' σ H' Q I ⟨Hf, δ0, P, R, ⟨x, hx, e, p⟩, z⟩ => (ht x hx F' s H C cl fp).run pins s' σ H' Q I ⟨Hf, δ0, P, R, ⟨e, p⟩, z⟩⟩
theorem lc_ee (he : ∀ x, x ∈ xs → t x = true → Blk X scope fun Y F' => TE Y F' elt (sx x) (emo (f x)) (sx x)) (F' : Fm) (s : Shared) (H : Hp) (C : Addr) (cl : List (Str × Addr)) (fp : List Addr) : DE (X.blk s H scope (compEnvC scope cl C X.env) fp) F' elt fun δ0 P => ∃ x, x ∈ xs ∧ t x = true ∧ δ0 = sx x ∧ P (emo (f x)) (sx x) :=
  ⟨fun pins s' σ H' Q I ⟨Hf, δ0, P, R, ⟨x, hx, h1, e, p⟩, z⟩ => (he x hx h1 F' s H C cl fp).run pins s' σ H' Q I ⟨Hf, δ0, P, R, ⟨e, p⟩, z⟩⟩
theorem tn_lc (hc : X.calm = true) (hN : X.N.Nodup) (hi : TIt X F tg iter δ (xs.map emi) δ1) (ok : BlkOk X.N X.env.scope scope own)
    (hg : ∀ (F' : Fm) (s : Shared) (H : Hp) (C : Addr) (cl : List (Str × Addr)) (fp : List Addr), NIo own F' → DG (X.blk s H scope (compEnvC scope cl C X.env) fp) F' tg (own.map (·.2)) g)
    (hgs : ∀ x (P : List S → Prop), P (sx x) → g (emi x) δ2 P) (ht : ∀ x, x ∈ xs → Blk X scope fun Y F' => TTs Y F' ifs (sx x) (t x) (sx x)) (he : ∀ x, x ∈ xs → t x = true → Blk X scope fun Y F' => TE Y F' elt (sx x) (emo (f x)) (sx x))
    (q : unset δ1 (own.map (·.2)) = δ2 := by rfl) (hu : ∀ x, unset (sx x) (own.map (·.2)) = δ2 := by intro _; rfl) (nm : (own.map (·.2)).all (fun i => match δ1[i]? with | some s => !s.mine | none => true) = true := by rfl) (hs : ∀ x, foldedSetIterable iter X.env x = pure x := by intro _; rfl) :
    TN X F (.ListComp elt [⟨tg, iter, ifs, 0⟩] scope pos) δ (((xs.filter t).map f).map emo) δ2 :=
  TN.of (dn_lc hc hN hi ok hg (lc_ex ht) (lc_ee he) hs) fun P p => ⟨rfl, fun hl => ⟨nm_by nm, by
    rw [q]
    exact comp_ok hgs (fun x P hx p => ⟨x, hx, rfl, p⟩) (fun x P hx h1 p => ⟨x, hx, h1, rfl, p⟩) hu xs [] (fun _ h => h) (by simpa using hl) (by simpa [Oc.sat] using p)⟩⟩
theorem ts_setLc {i : Nat} {y : Str} (hc : X.calm = true) (hN : X.N.Nodup) (hy : X.N[i]? = some y) (hyl : X.env.scope.names.lookup y = some .local)
    (hsw : swapsWith (.ListComp elt [⟨tg, iter, ifs, 0⟩] scope pos) (some (.Name y py)) spos.line X.env = pure true) (hi : TIt X F tg iter δ (xs.map emi) δ1) (ok : BlkOk X.N X.env.scope scope own) (hio : NoIo F i)
    (hg : ∀ (F' : Fm) (s : Shared) (H : Hp) (C : Addr) (cl : List (Str × Addr)) (fp : List Addr), NIo own F' → DG (X.blk s H scope (compEnvC scope cl C X.env) fp) F' tg (own.map (·.2)) g)
    (hgs : ∀ x (P : List S → Prop), P (sx x) → g (emi x) δ2 P) (ht : ∀ x, x ∈ xs → Blk X scope fun Y F' => TTs Y F' ifs (sx x) (t x) (sx x)) (he : ∀ x, x ∈ xs → t x = true → Blk X scope fun Y F' => TE Y F' elt (sx x) (emo (f x)) (sx x))
    (q : unset δ1 (own.map (·.2)) = δ2 := by rfl) (hu : ∀ x, unset (sx x) (own.map (·.2)) = δ2 := by intro _; rfl) (nm : (own.map (·.2)).all (fun i => match δ1[i]? with | some s => !s.mine | none => true) = true := by rfl) (hs : ∀ x, foldedSetIterable iter X.env x = pure x := by intro _; rfl) :
    TS X F (.Assign [.Name y py] (.ListComp elt [⟨tg, iter, ifs, 0⟩] scope pos) spos) δ (.nx (δ2.set i (.own (((xs.filter t).map f).map emo)))) :=
  TS.of (ds_setLc hc hN hy hyl hsw hi ok hio hg (lc_ex ht) (lc_ee he) hs) fun E p => ⟨rfl, fun hl => ⟨nm_by nm, by
    rw [q]
    exact comp_ok (P := fun ds δ0 => E.nx (δ0.set i (.own ds))) hgs (fun x P hx p => ⟨x, hx, rfl, p⟩) (fun x P hx h1 p => ⟨x, hx, h1, rfl, p⟩) hu xs [] (fun _ h => h) (by simpa using hl) (by simpa [Oc.sat] using p)⟩⟩
end
section
variable {st : ρ → List S} {sx : ρ → ι → List S} {t : ρ → ι → Bool} {r1 r2 : ρ → ι → ρ} {f : ρ → ι → β} {okb : ρ → ι → Prop} {r0 : ρ}
theorem lcS_ex (ht : ∀ r x, okb r x → Blk X scope fun Y F' => TTs Y F' ifs (sx r x) (t r x) (sx (r1 r x) x)) (F' : Fm) (s : Shared) (H : Hp) (C : Addr) (cl : List (Str × Addr)) (fp : List Addr) : DTs (X.blk s H scope (compEnvC scope cl C X.env) fp) F' ifs fun δ0 P => ∃ r x, okb r x ∧ δ0 = sx r x ∧ P (t r x) (sx (r1 r x) x) :=
  ⟨fun pins s' σ H' Q I ⟨Hf, δ0, P, R, ⟨r, x, hx, e, p⟩, z⟩ => (ht r x hx F' s H C cl fp).run pins s' σ H' Q I ⟨Hf, δ0, P, R, ⟨e, p⟩, z⟩⟩
theorem lcS_ee (he : ∀ r x, okb r x → t r x = true → Blk X scope fun Y F' => TE Y F' elt (sx (r1 r x) x) (emo (f r x)) (sx (r2 r x) x)) (F' : Fm) (s : Shared) (H : Hp) (C : Addr) (cl : List (Str × Addr)) (fp : List Addr) :
    DE (X.blk s H scope (compEnvC scope cl C X.env) fp) F' elt fun δ0 P => ∃ r x, okb r x ∧ t r x = true ∧ δ0 = sx (r1 r x) x ∧ P (emo (f r x)) (sx (r2 r x) x) :=
  ⟨fun pins s' σ H' Q I ⟨Hf, δ0, P, R, ⟨r, x, hx, h1, e, p⟩, z⟩ => (he r x hx h1 F' s H C cl fp).run pins s' σ H' Q I ⟨Hf, δ0, P, R, ⟨e, p⟩, z⟩⟩
theorem tn_lcS (hc : X.calm = true) (hN : X.N.Nodup) (hi : TIt X F tg iter δ (xs.map emi) δ1) (ok : BlkOk X.N X.env.scope scope own) (hok : OkComp (turnS t r1 f r2) okb xs r0)
    (hg : ∀ (F' : Fm) (s : Shared) (H : Hp) (C : Addr) (cl : List (Str × Addr)) (fp : List Addr), NIo own F' → DG (X.blk s H scope (compEnvC scope cl C X.env) fp) F' tg (own.map (·.2)) g)
    (hgs : ∀ r x (P : List S → Prop), P (sx r x) → g (emi x) (st r) P) (ht : ∀ r x, okb r x → Blk X scope fun Y F' => TTs Y F' ifs (sx r x) (t r x) (sx (r1 r x) x)) (he : ∀ r x, okb r x → t r x = true → Blk X scope fun Y F' => TE Y F' elt (sx (r1 r x) x) (emo (f r x)) (sx (r2 r x) x))
    (q : unset δ1 (own.map (·.2)) = st r0 := by rfl) (hu : ∀ r x, unset (sx r x) (own.map (·.2)) = st r := by intro _ _; rfl) (nm : (own.map (·.2)).all (fun i => match δ1[i]? with | some s => !s.mine | none => true) = true := by rfl) (hs : ∀ x, foldedSetIterable iter X.env x = pure x := by intro _; rfl) :
    TN X F (.ListComp elt [⟨tg, iter, ifs, 0⟩] scope pos) δ ((compS (turnS t r1 f r2) xs r0).1.map emo) (st (compS (turnS t r1 f r2) xs r0).2) :=
  TN.of (dn_lc hc hN hi ok hg (lcS_ex ht) (lcS_ee he) hs) fun P p => ⟨rfl, fun hl => ⟨nm_by nm, by
    rw [q]
    exact compS_ok hgs (fun r x P hx p => ⟨r, x, hx, rfl, p⟩) (fun r x P hx h1 p => ⟨r, x, hx, h1, rfl, p⟩) hu xs [] r0 hok (by simpa using hl) (by simpa [Oc.sat] using p)⟩⟩
theorem ts_setLcS {i : Nat} {y : Str} (hc : X.calm = true) (hN : X.N.Nodup) (hy : X.N[i]? = some y) (hyl : X.env.scope.names.lookup y = some .local)
    (hsw : swapsWith (.ListComp elt [⟨tg, iter, ifs, 0⟩] scope pos) (some (.Name y py)) spos.line X.env = pure true) (hi : TIt X F tg iter δ (xs.map emi) δ1) (ok : BlkOk X.N X.env.scope scope own) (hio : NoIo F i) (hok : OkComp (turnS t r1 f r2) okb xs r0)
    (hg : ∀ (F' : Fm) (s : Shared) (H : Hp) (C : Addr) (cl : List (Str × Addr)) (fp : List Addr), NIo own F' → DG (X.blk s H scope (compEnvC scope cl C X.env) fp) F' tg (own.map (·.2)) g)
    (hgs : ∀ r x (P : List S → Prop), P (sx r x) → g (emi x) (st r) P) (ht : ∀ r x, okb r x → Blk X scope fun Y F' => TTs Y F' ifs (sx r x) (t r x) (sx (r1 r x) x)) (he : ∀ r x, okb r x → t r x = true → Blk X scope fun Y F' => TE Y F' elt (sx (r1 r x) x) (emo (f r x)) (sx (r2 r x) x))
    (q : unset δ1 (own.map (·.2)) = st r0 := by rfl) (hu : ∀ r x, unset (sx r x) (own.map (·.2)) = st r := by intro _ _; rfl) (nm : (own.map (·.2)).all (fun i => match δ1[i]? with | some s => !s.mine | none => true) = true := by rfl) (hs : ∀ x, foldedSetIterable iter X.env x = pure x := by intro _; rfl) :
    TS X F (.Assign [.Name y py] (.ListComp elt [⟨tg, iter, ifs, 0⟩] scope pos) spos) δ (.nx ((st (compS (turnS t r1 f r2) xs r0).2).set i (.own ((compS (turnS t r1 f r2) xs r0).1.map emo)))) :=
  TS.of (ds_setLc hc hN hy hyl hsw hi ok hio hg (lcS_ex ht) (lcS_ee he) hs) fun E p => ⟨rfl, fun hl => ⟨nm_by nm, by
    rw [q]
    exact compS_ok (P := fun ds δ0 => E.nx (δ0.set i (.own ds))) hgs (fun r x P hx p => ⟨r, x, hx, rfl, p⟩) (fun r x P hx h1 p => ⟨r, x, hx, h1, rfl, p⟩) hu xs [] r0 hok (by simpa using hl) (by simpa [Oc.sat] using p)⟩⟩
end
end
end DT
end
section
set_option maxHeartbeats 4000000
namespace DT
open PySem PySem.Spec PyProof.Rows L2
/-! ## dicts with whole numbers as keys -/
section
variable {α β : Type}
def putI (ks : List (Int × α)) (k : Int) (v : α) : List (Int × α) := if (ks.any fun p => decide (p.1 = k)) = true then ks.map (fun p => if p.1 = k then (p.1, v) else p) else ks ++ [(k, v)]
def getI (ks : List (Int × α)) (k : Int) : Option α := (ks.find? fun p => decide (p.1 = k)).map (·.2)
theorem length_putI (ks : List (Int × α)) (k : Int) (v : α) : (putI ks k v).length ≤ ks.length + 1 := by
  unfold putI; split
  · rw [List.length_map]; omega
  · simp
theorem getI_put (ks : List (Int × α)) (k j : Int) (v : α) : getI (putI ks k v) j = if j = k then some v else getI ks j := by
  unfold putI
  by_cases h : (ks.any fun p => decide (p.1 = k)) = true
  · rw [if_pos h]
    induction ks with
    | nil => simp at h
    | cons p ks ih =>
      by_cases hp : p.1 = k
      · by_cases hj : j = k
        · subst hj; subst hp; simp [getI]
        · have : ¬ p.1 = j := fun z => hj (z ▸ hp)
          have : ¬ k = j := fun z => hj z.symm
          subst hp
          by_cases h2 : (ks.any fun q => decide (q.1 = p.1)) = true
          · have := ih h2
            simp only [getI, List.map_cons, if_true] at this ⊢
            rw [if_neg hj] at this ⊢
            rw [List.find?_cons_of_neg (by simpa using fun z => hj z.symm), List.find?_cons_of_neg (by simpa using fun z => hj z.symm)]
            exact this
          · have e : ks.map (fun q => if q.1 = p.1 then (q.1, v) else q) = ks := by
              refine (List.map_congr_left fun q hq => ?_).trans (List.map_id ks)
              rw [if_neg]; · rfl
              intro z; exact h2 (List.any_eq_true.mpr ⟨q, hq, by simpa using z⟩)
            rw [List.map_cons, e]
            simp only [getI, if_true]; rw [if_neg hj, List.find?_cons_of_neg (by simpa using fun z => hj z.symm), List.find?_cons_of_neg (by simpa using fun z => hj z.symm)]
      · have h2 : (ks.any fun q => decide (q.1 = k)) = true := by simpa [hp] using h
        have := ih h2
        simp only [getI, List.map_cons] at this ⊢
        rw [if_neg hp]
        by_cases hj : p.1 = j
        · subst hj; rw [if_neg hp]; simp
        · rw [List.find?_cons_of_neg (by simpa using hj), List.find?_cons_of_neg (by simpa using hj)]
          exact this
  · rw [if_neg h]
    unfold getI
    rw [List.find?_append]
    cases e : ks.find? fun p => decide (p.1 = j) with
    | some q =>
      have hq := List.find?_some e
      have hm := List.mem_of_find?_eq_some e
      have : ¬ j = k := fun z => h (List.any_eq_true.mpr ⟨q, hm, by subst z; exact hq⟩)
      rw [if_neg this]; rfl
    | none =>
      by_cases hj : j = k
      · subst hj; simp
      · rw [if_neg hj, List.find?_cons_of_neg (by simpa using fun z => hj z.symm)]; rfl
theorem putI_map (e : α → β) (ks : List (Int × α)) (k : Int) (v : α) : putI (ks.map fun p => (p.1, e p.2)) k (e v) = (putI ks k v).map fun p => (p.1, e p.2) := by
  unfold putI
  have ea : (ks.map fun p => (p.1, e p.2)).any (fun p => decide (p.1 = k)) = ks.any fun p => decide (p.1 = k) := by rw [List.any_map]; rfl
  rw [ea]
  by_cases h : (ks.any fun p => decide (p.1 = k)) = true
  · rw [if_pos h, if_pos h, List.map_map, List.map_map]
    refine List.map_congr_left fun p _ => ?_
    simp only [Function.comp]
    by_cases hp : p.1 = k
    · rw [if_pos hp, if_pos hp]
    · rw [if_neg hp, if_neg hp]
  · rw [if_neg h, if_neg h, List.map_append]; rfl
theorem getI_map (e : α → β) (ks : List (Int × α)) (k : Int) : getI (ks.map fun p => (p.1, e p.2)) k = (getI ks k).map e := by
  unfold getI
  induction ks with
  | nil => rfl
  | cons p ks ih =>
    rw [List.map_cons]
    by_cases hp : p.1 = k
    · rw [List.find?_cons_of_pos (by simpa using hp), List.find?_cons_of_pos (by simpa using hp)]; rfl
    · rw [List.find?_cons_of_neg (by simpa using hp), List.find?_cons_of_neg (by simpa using hp)]; exact ih
end
section
variable {K : PySem.W.Frag} {F : Fm} {Hf H Hf' H' : Hp} {σ σ' : L2.St} {δ δ' : List S} {p : Addr} {ks ls : List (Int × D)}
theorem RepK.len : ∀ {us : List (Key × V)} {ks : List (Int × D)}, RepK K H us ks → us.length = ks.length
  | _, _, .nil => rfl
  | _, _, .cons _ t => by simp [t.len]
theorem RepK.val : ∀ {us : List (Key × V)} {ks : List (Int × D)} {k : Int} {d : D}, RepK K H us ks → getI ks k = some d → ∃ v, valV us (Sum.inl k : Key) = some v ∧ Rep K H v d
  | _, _, _, _, .nil, e => by simp [getI] at e
  | _, _, k, d, .cons (k := j) (v := v) (us := us) (d := d') (ks := ks) r t, e => by
    unfold getI at e
    by_cases h : j = k
    · subst h
      rw [List.find?_cons_of_pos (by simp)] at e
      cases e
      exact ⟨v, valV_pos rfl, r⟩
    · rw [List.find?_cons_of_neg (by simpa using h)] at e
      obtain ⟨w, h1, h2⟩ := t.val (k := k) (d := d) e
      refine ⟨w, ?_, h2⟩
      unfold valV at h1 ⊢
      rw [List.find?_cons_of_neg (by simpa using h)]; exact h1
theorem RepK.any : ∀ {us : List (Key × V)} {ks : List (Int × D)} (k : Int), RepK K H us ks → (us.any fun kv => decide (kv.1 = (Sum.inl k : Key))) = ks.any fun q => decide (q.1 = k)
  | _, _, _, .nil => rfl
  | _, _, k, .cons (k := j) r t => by
    rw [List.any_cons, List.any_cons, t.any k]
    have : decide ((Sum.inl j : Key) = Sum.inl k) = decide (j = k) := by rw [Bool.eq_iff_iff]; simp
    rw [this]
theorem RepK.app : ∀ {us ws : List (Key × V)} {ks ls : List (Int × D)}, RepK K H us ks → RepK K H ws ls → RepK K H (us ++ ws) (ks ++ ls)
  | _, _, _, _, .nil, s => s
  | _, _, _, _, .cons r t, s => .cons r (t.app s)
theorem RepK.repl {v : V} {d : D} (q : Rep K H v d) (k : Int) : ∀ {us : List (Key × V)} {ks : List (Int × D)}, RepK K H us ks → RepK K H (us.map fun kv => if kv.1 = (Sum.inl k : Key) then (kv.1, v) else kv) (ks.map fun p => if p.1 = k then (p.1, d) else p)
  | _, _, .nil => .nil
  | _, _, .cons (k := j) (v := w) (us := us) (d := d') (ks := ks) r t => by
    rw [List.map_cons, List.map_cons]
    by_cases h : j = k
    · subst h; rw [if_pos rfl, if_pos rfl]; exact .cons q (t.repl q j)
    · have h' : ¬ (Sum.inl j : Key) = Sum.inl k := fun z => h (Sum.inl.inj z)
      rw [if_neg h, if_neg h']; exact .cons r (t.repl q k)
theorem RepK.put {us : List (Key × V)} {v : V} {d : D} (r : RepK K H us ks) (q : Rep K H v d) (k : Int) : RepK K H (putK us (Sum.inl k : Key) v) (putI ks k d) := by
  unfold putK putI
  rw [r.any k]
  by_cases h : (ks.any fun q => decide (q.1 = k)) = true
  · rw [if_pos h, if_pos h]; exact r.repl q k
  · rw [if_neg h, if_neg h]; exact r.app (.cons q .nil)
/-- a new dict that nothing else knows -/
structure NewK (K : PySem.W.Frag) (F : Fm) (Hf H : Hp) (σ : L2.St) (δ : List S) (p : Addr) (ks : List (Int × D)) : Prop where
  ex : ∃ us, H p = some (.dK us) ∧ RepK K Hf us ks
  nf : Hf p = none
  h0 : F.H0 p = none
  ne : ∀ (i : Nat) (s : S) (a : Addr), δ[i]? = some s → s.mine = true → σ[i]? = some (some (.ref a)) → a ≠ p
theorem Rel.newK (R : Rel K F Hf H σ δ) (hp : H p = none) : Rel K F Hf (upd H p (.dK [])) σ δ ∧ NewK K F Hf (upd H p (.dK [])) σ δ p [] :=
  ⟨R.newO hp, ⟨[], upd_same, .nil⟩, R.sub.free hp, R.none0 hp, fun i s a e m g => by
    obtain ⟨b, o, g1, g2, _⟩ := (R.sl i _ e).there m
    rw [g] at g1; cases g1
    exact ne_of_none g2 hp⟩
theorem NewK.inner (n : NewK K F Hf H σ δ p ks) (R' : Rel K (Fm.in_ H Hf σ δ) Hf' H' σ' δ') : NewK K F Hf' H' σ' δ' p ks := by
  obtain ⟨vs, h1, h2⟩ := n.ex
  refine ⟨⟨vs, R'.keep p _ h1 fun q hq z => ?_, h2.mono R'.f0⟩, R'.nf p _ h1 n.nf, n.h0, fun i s a e m g z => ?_⟩
  · obtain ⟨g1, s, g2, m⟩ := mem_mines.mp hq
    exact n.ne q.1 s q.2 g2 m g1 z
  · subst z
    rcases R'.fr i s a e m g with q | ⟨q, hq, r⟩
    · rw [show (Fm.in_ H Hf σ δ).H0 = H from rfl, h1] at q; cases q
    · obtain ⟨g1, s', g2, m'⟩ := mem_mines.mp hq
      obtain ⟨k1, _⟩ := R'.io q hq
      rw [r, g] at k1; cases k1
      rw [r] at g1 g2
      exact n.ne i s' q.2 g2 m' g1 rfl
theorem NewK.wipe {vs : List Nat} (n : NewK K F Hf H σ δ p ks) : NewK K F Hf H (L2.wipe σ vs) (unset δ vs) p ks := ⟨n.ex, n.nf, n.h0, fun i s a e m g => by
  by_cases hi : i ∈ vs
  · rw [unset_in hi s e] at m; cases m
  · rw [unset_out hi] at e
    rw [wipe_out' hi] at g
    exact n.ne i s a e m g⟩
theorem NewK.unwipe {vs : List Nat} (n : NewK K F Hf H (L2.wipe σ vs) δ p ks) (h : ∀ i ∈ vs, ∀ s, δ[i]? = some s → s = .un) : NewK K F Hf H σ δ p ks := ⟨n.ex, n.nf, n.h0, fun i s a e m g => by
  have hi : i ∉ vs := fun z => by rw [h i z s e] at m; cases m
  exact n.ne i s a e m (by rw [wipe_out' hi]; exact g)⟩
theorem NewK.yield {x : V} {d : D} (R : Rel K F Hf H σ δ) (n : NewK K F Hf H σ δ p ks) (h : (H' = H ∧ Rep K Hf x d) ∨ ∃ p o, H p = none ∧ H' = upd H p o ∧ Rep K (upd Hf p o) x d) :
    ∃ Hf', Same Hf Hf' ∧ Rel K F Hf' H' σ δ ∧ Rep K Hf' x d ∧ NewK K F Hf' H' σ δ p ks := by
  rcases h with ⟨rfl, r⟩ | ⟨q, o, hp, rfl, r⟩
  · exact ⟨Hf, Same.refl _, R, r, n⟩
  · obtain ⟨vs, h1, h2⟩ := n.ex
    have ne : p ≠ q := ne_of_none h1 hp
    exact ⟨_, R.same_new hp, R.new hp, r, ⟨vs, by rw [upd_ne ne]; exact h1, h2.mono (R.same_new hp)⟩, by rw [upd_ne ne]; exact n.nf, n.h0, n.ne⟩
theorem Rel.updK {us : List (Key × V)} (R : Rel K F Hf H σ δ) (n : NewK K F Hf H σ δ p ks) (r : RepK K Hf us ls) : Rel K F Hf (upd H p (.dK us)) σ δ ∧ NewK K F Hf (upd H p (.dK us)) σ δ p ls := by
  refine ⟨⟨fun b u e => ?_, R.f0, fun b u e q => ?_, R.nf, R.len, fun i s e => ?_, R.dis, R.io, R.fr⟩, ⟨⟨us, upd_same, r⟩, n.nf, n.h0, n.ne⟩⟩
  · rw [upd_ne (ne_of_none e n.nf)]; exact R.sub b u e
  · rw [upd_ne (ne_of_none e n.h0)]; exact R.keep b u e q
  · refine (R.sl i s e).stay (Same.refl _) fun m a u e1 e2 => ?_
    obtain ⟨a', o', q1, q2, q3⟩ := (R.sl i s e).there m
    rw [e1] at q1; cases q1
    exact ⟨by rw [upd_ne (n.ne i s a e m e1)]; exact e2, q3⟩
theorem Rel.frzK (R : Rel K F Hf H σ δ) (n : NewK K F Hf H σ δ p ks) : ∃ us, Same Hf (upd Hf p (.dK us)) ∧ Rel K F (upd Hf p (.dK us)) H σ δ ∧ Rep K (upd Hf p (.dK us)) (.ref p) (.dic ks) := by
  obtain ⟨vs, h2, h4⟩ := n.ex
  have sm : Same Hf (upd Hf p (.dK vs)) := fun b u e => by rw [upd_ne (ne_of_none e n.nf)]; exact e
  refine ⟨vs, sm, ⟨fun b u e => ?_, R.f0.trans sm, R.keep, fun b u e q => ?_, R.len, fun j s e => ?_, R.dis, R.io, R.fr⟩, .dic upd_same (h4.mono sm)⟩
  · by_cases hb : b = p
    · subst hb; rw [upd_same] at e; cases e; exact h2
    · rw [upd_ne hb] at e; exact R.sub b u e
  · rw [upd_ne (ne_of_none e n.h0)]; exact R.nf b u e q
  · refine (R.sl j s e).stay sm fun m b u e1 e2 => ?_
    obtain ⟨b', o', q1, q2, q3⟩ := (R.sl j s e).there m
    rw [e1] at q1; cases q1
    exact ⟨e2, by rw [upd_ne (n.ne j s b e m e1)]; exact q3⟩
end

/-! ### {k: v for .. in .. for .. in ..} by data -/
def wDin (g1 : WG) (vs1 : List Nat) (tk tv : WE) : List D → List (Int × D) → List S → (List (Int × D) → List S → Prop) → Prop
  | [], acc, δ, P => P acc δ
  | d :: ds, acc, δ, P => g1 d δ fun δ1 => tk δ1 fun y δ2 => tv δ2 fun z δ3 => ∃ k, y = .int k ∧ acc.length < sizeLine ∧ wDin g1 vs1 tk tv ds (putI acc k z) (unset δ3 vs1) P
def wDout (g : WG) (vs : List Nat) (wi1 : WI) (g1 : WG) (vs1 : List Nat) (tk tv : WE) : List D → List (Int × D) → List S → (D → List S → Prop) → Prop
  | [], acc, δ, P => P (.dic acc) δ
  | d :: ds, acc, δ, P => g d δ fun δ1 => wi1 δ1 fun es δ2 => wDin g1 vs1 tk tv es acc (unset δ2 vs1) fun acc' δ3 => wDout g vs wi1 g1 vs1 tk tv ds acc' (unset δ3 vs) P
def wDc2 (wi : WI) (g : WG) (vs : List Nat) (wi1 : WI) (g1 : WG) (vs1 : List Nat) (tk tv : WE) : WE := fun δ P => wi δ fun ds δ1 => NM vs δ1 ∧ wDout g vs wi1 g1 vs1 tk tv ds [] (unset δ1 vs) P
def anyI (K : PySem.W.Frag) (wi : WI) : TI := fun σ H R => ∃ F', liftI K F' wi σ H R
theorem dc2_lift {K : PySem.W.Frag} {F : Fm} {wi wi1 : WI} {g g1 : WG} {tk tv : WE} {vs vs1 : List Nat} {σ : L2.St} {H : Hp} {Q : VK} (hv : ∀ i ∈ vs, NoIo F i) (hv1 : ∀ i ∈ vs1, i ∈ vs) (h : liftE K F (wDc2 wi g vs wi1 g1 vs1 tk tv) σ H Q) :
    tDc2 (liftI K F wi) (anyG K vs g) tYes (anyI K wi1) (anyG K vs1 g1) tYes (anyE K tk) (anyE K tv) vs vs1 σ H Q := by
  obtain ⟨Hf, δ, P, R, h, k⟩ := h
  refine ⟨Hf, δ, _, R, h, fun ds δ1 h1 Hf1 H1 J s1 R1 w => fun Da hDa => ?_⟩
  obtain ⟨nm, h1⟩ := h1
  have R2 := (R1.newK hDa).1.wipe hv
  have N2 := (R1.newK hDa).2.wipe (vs := vs)
  refine ⟨fun i n H' => n = ds.length - i ∧ i ≤ ds.length ∧ ∃ Hf' δ' acc, Same Hf1 Hf' ∧ Rel K F Hf' H' (L2.wipe σ vs) δ' ∧ NewK K F Hf' H' (L2.wipe σ vs) δ' Da acc ∧ (∀ i ∈ vs, ∀ s, δ'[i]? = some s → s = .un) ∧ wDout g vs wi1 g1 vs1 tk tv (ds.drop i) acc δ' P,
    ⟨ds.length, rfl, Nat.zero_le _, Hf1, _, [], Same.refl _, R2, N2, fun i hi s e => unset_in hi s e, h1⟩, ?_⟩
  rintro i n H' ⟨rfl, hi, Hf', δ', acc, sm, R', N', hu, hl⟩
  by_cases hlt : i < ds.length
  · have hd := List.getElem?_eq_getElem hlt
    rw [drop_get hd] at hl
    refine .inr ⟨w.goes i Hf' H' hlt sm R'.sub, fun H2 => i + 1 ≤ ds.length ∧ ∃ Hf2 δ2 acc, Same Hf1 Hf2 ∧ Rel K F Hf2 H2 (L2.wipe σ vs) δ2 ∧ NewK K F Hf2 H2 (L2.wipe σ vs) δ2 Da acc ∧ (∀ i ∈ vs, ∀ s, δ2[i]? = some s → s = .un) ∧ wDout g vs wi1 g1 vs1 tk tv (ds.drop (i + 1)) acc δ2 P, ?_, ?_⟩
    · rintro H2 ⟨h1, z⟩
      exact ⟨ds.length - (i + 1), by omega, rfl, h1, z⟩
    · intro x H2 y
      obtain ⟨d, e1, e2⟩ := w.yields i Hf' H' x H2 hlt sm R'.sub y
      rw [hd] at e1; cases e1
      obtain ⟨Hf2, s2, R2', r2, N2'⟩ := N'.yield R' e2
      have nm2 : NM vs δ' := fun i hi s e => by rw [hu i hi s e]; rfl
      refine ⟨Fm.in_ H2 Hf2 (L2.wipe σ vs) δ', fun i hi => Rel.noio nm2 hi, Hf2, δ', _, _, R2'.inner, r2, hl, fun δ3 h3 Hf3 H3 σ3 s3 R3 out => ⟨by rw [wipe_eq out, wipe_wipe], ?_⟩⟩
      have we : L2.wipe σ3 vs = L2.wipe σ vs := by rw [wipe_eq out, wipe_wipe]
      unfold tYes; dsimp only
      rw [if_pos rfl]
      refine ⟨Fm.in_ H2 Hf2 (L2.wipe σ vs) δ', Hf3, δ3, _, R3, h3, fun es δ4 h4 Hf4 H4 J1 s4 R4 w1 => ?_⟩
      -- the inner walk; its frame is that of the outer turn's start
      have Ri : Rel K F Hf4 H4 σ3 δ4 := R2'.outer R4
      have Ni : NewK K F Hf4 H4 σ3 δ4 Da acc := N2'.inner R4
      have hv' : ∀ i ∈ vs1, NoIo F i := fun i hi => hv i (hv1 i hi)
      refine ⟨fun j m H' => m = es.length - j ∧ j ≤ es.length ∧ ∃ Hf' δ' acc, Same Hf4 Hf' ∧ Rel K F Hf' H' (L2.wipe σ3 vs1) δ' ∧ NewK K F Hf' H' (L2.wipe σ3 vs1) δ' Da acc ∧ (∀ i ∈ vs1, ∀ s, δ'[i]? = some s → s = .un) ∧
          wDin g1 vs1 tk tv (es.drop j) acc δ' fun acc' δ3 => wDout g vs wi1 g1 vs1 tk tv (ds.drop (i + 1)) acc' (unset δ3 vs) P,
        ⟨es.length, rfl, Nat.zero_le _, Hf4, _, acc, Same.refl _, Ri.wipe hv', Ni.wipe, fun i hi s e => unset_in hi s e, h4⟩, ?_⟩
      rintro j m H5 ⟨rfl, hj, Hf5, δ5, acc5, sm5, R5, N5, hu5, hl5⟩
      by_cases hlt5 : j < es.length
      · have hd5 := List.getElem?_eq_getElem hlt5
        rw [drop_get hd5] at hl5
        refine .inr ⟨w1.goes j Hf5 H5 hlt5 sm5 R5.sub, fun H6 => j + 1 ≤ es.length ∧ ∃ Hf6 δ6 acc, Same Hf4 Hf6 ∧ Rel K F Hf6 H6 (L2.wipe σ3 vs1) δ6 ∧ NewK K F Hf6 H6 (L2.wipe σ3 vs1) δ6 Da acc ∧ (∀ i ∈ vs1, ∀ s, δ6[i]? = some s → s = .un) ∧
          wDin g1 vs1 tk tv (es.drop (j + 1)) acc δ6 fun acc' δ3 => wDout g vs wi1 g1 vs1 tk tv (ds.drop (i + 1)) acc' (unset δ3 vs) P, ?_, ?_⟩
        · rintro H6 ⟨h1, z⟩
          exact ⟨es.length - (j + 1), by omega, rfl, h1, z⟩
        · intro x1 H6 y1
          obtain ⟨d1, f1, f2⟩ := w1.yields j Hf5 H5 x1 H6 hlt5 sm5 R5.sub y1
          rw [hd5] at f1; cases f1
          obtain ⟨Hf6, s6, R6, r6, N6⟩ := N5.yield R5 f2
          have nm6 : NM vs1 δ5 := fun i hi s e => by rw [hu5 i hi s e]; rfl
          refine ⟨Fm.in_ H6 Hf6 (L2.wipe σ3 vs1) δ5, fun i hi => Rel.noio nm6 hi, Hf6, δ5, _, _, R6.inner, r6, hl5, fun δ7 h7 Hf7 H7 σ7 s7 R7 out7 => ⟨by rw [wipe_eq out7, wipe_wipe], ?_⟩⟩
          have we7 : L2.wipe σ7 vs1 = L2.wipe σ3 vs1 := by rw [wipe_eq out7, wipe_wipe]
          rw [if_pos rfl]
          refine ⟨Fm.in_ H6 Hf6 (L2.wipe σ3 vs1) δ5, Hf7, δ7, _, R7, h7, fun yd δ8 h8 Hf8 H8 yv s8 R8 r8 => ⟨Fm.in_ H6 Hf6 (L2.wipe σ3 vs1) δ5, Hf8, δ8, _, R8, h8, fun zd δ9 h9 Hf9 H9 zv s9 R9 r9 => ?_⟩⟩
          obtain ⟨kk, ek, hz, h9⟩ := h9
          subst ek
          cases r8
          have Ro := (R6.outer R9).wipe hv'
          have No := (N6.inner R9).wipe (vs := vs1)
          rw [we7] at Ro No
          obtain ⟨us, g1', g2'⟩ := No.ex
          have U := Ro.updK No (g2'.put r9 kk)
          exact ⟨us, Sum.inl kk, rfl, g1', by rw [g2'.len]; exact hz, hlt5, Hf9, _, _, ((((sm5.trans s6).trans s7).trans s8).trans s9), U.1, U.2, fun i hi s e => unset_in hi s e, h9⟩
      · have ej : j = es.length := by omega
        subst ej
        rw [List.drop_length] at hl5
        refine .inl ⟨w1.stops Hf5 H5 sm5 R5.sub, hlt, Hf5, unset δ5 vs, acc5, (((sm.trans s2).trans s3).trans s4).trans sm5, ?_, ?_, fun i hi s e => unset_in hi s e, hl5⟩
        · have := (R5.unwipe hu5).wipe hv
          rw [we] at this; exact this
        · have := (N5.unwipe hu5).wipe (vs := vs)
          rw [we] at this; exact this
  · have e : i = ds.length := by omega
    subst e
    rw [List.drop_length] at hl
    obtain ⟨us, s9, R9, r9⟩ := (R'.unwipe hu).frzK (N'.unwipe hu)
    exact .inl ⟨w.stops Hf' H' sm R'.sub, k _ δ' hl _ H' _ ((s1.trans sm).trans s9) R9 r9⟩
section
variable {X : Cx} {F : Fm} {e a b c o tg iter tg1 iter1 kx vx : Expr} {es : List Expr} {pos p apos py spos : Pos} {δ δ' δ1 δ2 δ3 : List S} {d d1 d2 : D}
variable {α β ι κ : Type} {scope : Scope} {own : List (Str × Nat)} {g g1 : WG} {emi : ι → D} {emj : κ → D} {emo : β → D} {xs : List ι} {sx : ι → List S} {sy : ι → κ → List S} {ys : ι → List κ} {fk : ι → κ → Int} {fv : ι → κ → β} {vs1 : List Nat}
/-- what such a comprehension makes -/
def dc2F (ys : ι → List κ) (fk : ι → κ → Int) (fv : ι → κ → β) (xs : List ι) : List (Int × β) := xs.foldl (fun acc x => (ys x).foldl (fun acc y => putI acc (fk x y) (fv x y)) acc) []
theorem din_ok {tk tv : WE} {x : ι} {zs : List κ} {P : List (Int × D) → List S → Prop} {s0 : List S} (hgs : ∀ y (P : List S → Prop), P (sy x y) → g1 (emj y) s0 P) (hk : ∀ y P, y ∈ zs → P (.int (fk x y)) (sy x y) → tk (sy x y) P) (hv : ∀ y P, y ∈ zs → P (emo (fv x y)) (sy x y) → tv (sy x y) P)
    (hu : ∀ y, unset (sy x y) vs1 = s0) : ∀ (ws : List κ) (acc : List (Int × β)), (∀ y ∈ ws, y ∈ zs) → acc.length + ws.length ≤ sizeLine → P ((ws.foldl (fun acc y => putI acc (fk x y) (fv x y)) acc).map fun p => (p.1, emo p.2)) s0 → wDin g1 vs1 tk tv (ws.map emj) (acc.map fun p => (p.1, emo p.2)) s0 P
  | [], acc, _, _, h => h
  | y :: ws, acc, hm, hl, h => by
    rw [List.map_cons]; unfold wDin
    have hy := hm y List.mem_cons_self
    simp only [List.length_cons] at hl
    refine hgs y _ (hk y _ hy (hv y _ hy ⟨_, rfl, by rw [List.length_map]; omega, ?_⟩))
    rw [hu, putI_map]
    have := length_putI acc (fk x y) (fv x y)
    exact din_ok hgs hk hv hu ws _ (fun z hz => hm z (List.mem_cons_of_mem _ hz)) (by omega) h
theorem fold_len (x : ι) : ∀ (ws : List κ) (acc : List (Int × β)), (ws.foldl (fun acc y => putI acc (fk x y) (fv x y)) acc).length ≤ acc.length + ws.length
  | [], acc => by simp
  | y :: ws, acc => by
    have h1 := fold_len x ws (putI acc (fk x y) (fv x y))
    have h2 := length_putI acc (fk x y) (fv x y)
    simp only [List.foldl_cons, List.length_cons]; omega
theorem dout_ok {vs : List Nat} {wi1 : WI} {tk tv : WE} {P : D → List S → Prop} (hgs : ∀ x (P : List S → Prop), P (sx x) → g (emi x) δ2 P) (hi1 : ∀ x P, x ∈ xs → P ((ys x).map emj) (sx x) → wi1 (sx x) P) (hgs1 : ∀ x y (P : List S → Prop), P (sy x y) → g1 (emj y) (unset (sx x) vs1) P)
    (hk : ∀ x y P, x ∈ xs → y ∈ ys x → P (.int (fk x y)) (sy x y) → tk (sy x y) P) (hv : ∀ x y P, x ∈ xs → y ∈ ys x → P (emo (fv x y)) (sy x y) → tv (sy x y) P)
    (hu1 : ∀ x y, unset (sy x y) vs1 = unset (sx x) vs1) (hu : ∀ x, unset (unset (sx x) vs1) vs = δ2) : ∀ (zs : List ι) (acc : List (Int × β)), (∀ x ∈ zs, x ∈ xs) → acc.length + (zs.map fun x => (ys x).length).sum ≤ sizeLine →
      P (eK emo (zs.foldl (fun acc x => (ys x).foldl (fun acc y => putI acc (fk x y) (fv x y)) acc) acc)) δ2 → wDout g vs wi1 g1 vs1 tk tv (zs.map emi) (acc.map fun p => (p.1, emo p.2)) δ2 P
  | [], acc, _, _, h => h
  | x :: zs, acc, hm, hl, h => by
    rw [List.map_cons]; unfold wDout
    have hx := hm x List.mem_cons_self
    simp only [List.map_cons, List.sum_cons] at hl
    refine hgs x _ (hi1 x _ hx (din_ok (hgs1 x) (fun y P hy => hk x y P hx hy) (fun y P hy => hv x y P hx hy) (hu1 x) (ys x) acc (fun _ h => h) (by omega) ?_))
    rw [hu]
    have := fold_len (fk := fk) (fv := fv) x (ys x) acc
    exact dout_ok hgs hi1 hgs1 hk hv hu1 hu zs _ (fun z hz => hm z (List.mem_cons_of_mem _ hz)) (by omega) h
theorem ts_setDc2 {i : Nat} {y : Str} (hc : X.calm = true) (hN : X.N.Nodup) (hy : X.N[i]? = some y) (hyl : X.env.scope.names.lookup y = some .local)
    (hsw : swapsWith (.DictComp kx vx [⟨tg, iter, [], 0⟩, ⟨tg1, iter1, [], 0⟩] scope pos) (some (.Name y py)) spos.line X.env = pure true) (hi : TIt X F tg iter δ (xs.map emi) δ1) (ok : BlkOk X.N X.env.scope scope own) (hio : NoIo F i) (hv : NIo own F) (hv1 : ∀ i ∈ vs1, i ∈ own.map (·.2))
    (hlen : (xs.map fun x => (ys x).length).sum ≤ sizeLine)
    (hg : ∀ (F' : Fm) (s : Shared) (H : Hp) (C : Addr) (cl : List (Str × Addr)) (fp : List Addr), NIo own F' → DG (X.blk s H scope (compEnvC scope cl C X.env) fp) F' tg (own.map (·.2)) g)
    (hg1 : ∀ (F' : Fm) (s : Shared) (H : Hp) (C : Addr) (cl : List (Str × Addr)) (fp : List Addr), (∀ i ∈ vs1, NoIo F' i) → DG (X.blk s H scope (compEnvC scope cl C X.env) fp) F' tg1 vs1 g1)
    (hgs : ∀ x (P : List S → Prop), P (sx x) → g (emi x) δ2 P) (hi1 : ∀ x, x ∈ xs → Blk X scope fun Y F' => TIt Y F' tg1 iter1 (sx x) ((ys x).map emj) (sx x)) (hgs1 : ∀ x y (P : List S → Prop), P (sy x y) → g1 (emj y) (unset (sx x) vs1) P)
    (hk : ∀ x y, x ∈ xs → y ∈ ys x → Blk X scope fun Y F' => TE Y F' kx (sy x y) (.int (fk x y)) (sy x y)) (he : ∀ x y, x ∈ xs → y ∈ ys x → Blk X scope fun Y F' => TE Y F' vx (sy x y) (emo (fv x y)) (sy x y))
    (q : unset δ1 (own.map (·.2)) = δ2 := by rfl) (hu1 : ∀ x y, unset (sy x y) vs1 = unset (sx x) vs1 := by intro _ _; rfl) (hu : ∀ x, unset (unset (sx x) vs1) (own.map (·.2)) = δ2 := by intro _; rfl) (nm : (own.map (·.2)).all (fun i => match δ1[i]? with | some s => !s.mine | none => true) = true := by rfl)
    (hs : ∀ x, foldedSetIterable iter X.env x = pure x := by intro _; rfl) (hs1 : ∀ env x, foldedSetIterable iter1 env x = pure x := by intro _ _; rfl) :
    TS X F (.Assign [.Name y py] (.DictComp kx vx [⟨tg, iter, [], 0⟩, ⟨tg1, iter1, [], 0⟩] scope pos) spos) δ (.nx (δ2.set i (.dat (eK emo (dc2F ys fk fv xs))))) := by
  have P0 : PS X (.Assign [.Name y py] (.DictComp kx vx [⟨tg, iter, [], 0⟩, ⟨tg1, iter1, [], 0⟩] scope pos) spos) _ :=
    ps_setDc2 (wi := liftI X.K F fun δ0 P => δ0 = δ ∧ ((xs.map emi).length ≤ sizeLine → P (xs.map emi) δ1)) (g := anyG X.K (own.map (fun p : Str × Nat => p.2)) g) (tt := tYes) (wi1 := anyI X.K fun δ0 P => ∃ x, x ∈ xs ∧ δ0 = sx x ∧ (((ys x).map emj).length ≤ sizeLine → P ((ys x).map emj) (sx x))) (g1 := anyG X.K vs1 g1) (tt1 := tYes)
      (tk := anyE X.K fun δ0 P => ∃ x y, x ∈ xs ∧ y ∈ ys x ∧ δ0 = sy x y ∧ P (.int (fk x y)) (sy x y)) (tv := anyE X.K fun δ0 P => ∃ x y, x ∈ xs ∧ y ∈ ys x ∧ δ0 = sy x y ∧ P (emo (fv x y)) (sy x y)) hc hN hy hyl hsw hi ok hv1
      (fun s H C cl fp => ⟨fun pins s' σ' H' v u Q I r ⟨F', n, q⟩ => (hg F' s H C cl fp n).run pins s' σ' H' v u Q I r q⟩) (fun s H C cl fp => pts_nil)
      (fun s H C cl fp => ⟨fun pins s' σ' H' R I ⟨F', Hf, δ0, P, R0, ⟨x, hx, e, p⟩, z⟩ => (hi1 x hx F' s H C cl fp).run pins s' σ' H' R I ⟨Hf, δ0, P, R0, ⟨e, p⟩, z⟩⟩)
      (fun s H C cl fp => ⟨fun pins s' σ' H' v u Q I r ⟨F', n, q⟩ => (hg1 F' s H C cl fp n).run pins s' σ' H' v u Q I r q⟩) (fun s H C cl fp => pts_nil)
      (fun s H C cl fp => ⟨fun pins s' σ' H' Q I ⟨F', Hf, δ0, P, R, ⟨x, y, hx, hy', e, p⟩, z⟩ => (hk x y hx hy' F' s H C cl fp).run pins s' σ' H' Q I ⟨Hf, δ0, P, R, ⟨e, p⟩, z⟩⟩)
      (fun s H C cl fp => ⟨fun pins s' σ' H' Q I ⟨F', Hf, δ0, P, R, ⟨x, y, hx, hy', e, p⟩, z⟩ => (he x y hx hy' F' s H C cl fp).run pins s' σ' H' Q I ⟨Hf, δ0, P, R, ⟨e, p⟩, z⟩⟩) hs hs1
  refine PS.imp P0 fun Dd σ H ⟨Hf, δ0, E, R, ⟨e0, pE⟩, m⟩ => ?_
  subst e0
  refine dc2_lift (wi := fun δ0' P => δ0' = δ0 ∧ ((xs.map emi).length ≤ sizeLine → P (xs.map emi) δ1)) hv hv1 ⟨Hf, δ0, fun d' δ' => d' = eK emo (dc2F ys fk fv xs) ∧ δ' = δ2, R, ⟨rfl, fun _ => ⟨nm_by nm, ?_⟩⟩, fun d' δ' ⟨hd, hδ⟩ Hf1 H1 v s1 R1 r1 => ?_⟩
  · rw [q]
    exact dout_ok (acc := []) hgs (fun x P hx p => ⟨x, hx, rfl, fun _ => p⟩) hgs1 (fun x y P hx hy' p => ⟨x, y, hx, hy', rfl, p⟩) (fun x y P hx hy' p => ⟨x, y, hx, hy', rfl, p⟩) hu1 hu xs (fun _ h => h) (by simpa using hlen) ⟨rfl, rfl⟩
  · subst hd hδ
    exact m.nx _ pE Hf1 H1 _ s1 (R1.setD hio r1)
/-! ### d[k], len(d) -/
def gGetD : D → D → (D → Prop) → Prop := fun x y P => ∃ ks k d, x = .dic ks ∧ y = .int k ∧ getI ks k = some d ∧ P d
theorem te_dget [Inhabited β] {ks : List (Int × β)} {k : Int} (hu : X.A.units + 1 < cLine) (ha : TE X F a δ (eK emo ks) δ1) (hb : TE X F b δ1 (.int k) δ2) (h : (getI ks k).isNone = false) (hs : NoSl b := by intro _ _; rfl) : TE X F (.Subscript a b pos) δ (emo ((getI ks k).getD default)) δ2 :=
  PE.imp (pe_dget hu ha hb hs) fun σ H Q ⟨Hf, δ0, P, R, ⟨e0, p⟩, z⟩ => ⟨Hf, δ0, _, R, ⟨e0, rfl, rfl⟩, fun d' δ' (hd : d' = _ ∧ δ' = δ1) Hf1 H1 v s1 R1 r1 => ⟨Hf1, δ', fun d'' δ'' => d'' = .int k ∧ δ'' = δ2, R1, ⟨hd.2, rfl, rfl⟩, fun d'' δ'' hd2 Hf2 H2 w s2 R2 r2 => by
    obtain ⟨hd, hδ⟩ := hd
    obtain ⟨hd2, hδ2⟩ := hd2
    subst hd hd2 hδ hδ2
    cases r1 with
    | dic g1 g2 =>
      cases r2
      cases e : getI ks k with
      | none => rw [e] at h; cases h
      | some y =>
        rw [e] at p
        obtain ⟨u, q1, q2⟩ := (g2.mono s2).val (k := k) (d := emo y) (by rw [getI_map, e]; rfl)
        exact ⟨_, u, rfl, (show DGet _ _ (V.int k) _ from q1 ▸ DGet.k (k := Sum.inl k) (R2.sub _ _ (s2 _ _ g1))), z _ δ'' p Hf2 H2 u (s1.trans s2) R2 q2⟩⟩⟩
theorem te_lenD {ks : List (Int × β)} (hg : Gl X "len") (hm : X.mg "len" = none) (ha : TE X F a δ (eK emo ks) δ1) (he : starEach [a] X.env = (false, eval a X.env) :: starEach [] X.env := by rfl) (hpl : (backTo pos (starEach [] X.env)).any (·.1) = false := by rfl) :
    TE X F (.Call (.Name "len" p) [a] [] pos) δ (.int (ks.length : Int)) δ1 :=
  PE.imp (pe_callB call_lenD hg hm PySem.boot_len (pa_cons ha pa_nil he) (he := he) (hpl := hpl)) fun σ H Q ⟨Hf, δ0, P, R, ⟨e0, p⟩, z⟩ => ⟨Hf, δ0, fun d' δ' => d' = eK emo ks ∧ δ' = δ1, R, ⟨e0, rfl, rfl⟩, fun d' δ' ⟨hd, hδ⟩ Hf1 H1 v s1 R1 r1 => by
    subst hd hδ
    cases r1 with
    | dic g1 g2 => exact ⟨_, _, rfl, R1.sub _ _ g1, by rw [g2.len, List.length_map]; exact z _ _ p Hf1 H1 _ s1 R1 (.int _)⟩⟩
end
end DT
end
section
set_option maxHeartbeats 4000000
namespace DT
open PySem PySem.Spec PyProof.Rows L2
section
variable {X : Cx} {F : Fm} {e a b c o tg iter : Expr} {es rest : List Expr} {pos p apos pos' : Pos} {δ δ' δ1 δ2 δ3 : List S} {d d1 d2 : D} {ds ds1 : List D} {k k1 k2 : Bool} {i j : Int}
variable {α β ι ρ ρ' γ : Type} {em : α → D} {ef : β → D} {st : Stmt} {sts sa sb tb : List Stmt} {ob oc1 : Oc}
/-! ## leaves, with what they hand on told -/
theorem ts_retE (em : α → D) (v : α) (h : TE X F e δ (em v) δ1) : TS X F (.Return (some e) pos) δ (Rt em v) := ts_ret h
theorem ts_retIE (em : α → D) (ef : β → D) (v : α × List β) (h : TE X F e δ (em v.1) δ1) (q : δ1[0]? = some (.own (v.2.map ef)) := by rfl) : TS X F (.Return (some e) pos) δ (RtI em ef v) := ts_retI h q
theorem ts_retNE (em : α → D) (v : List α) (h : TN X F e δ (v.map em) δ1) : TS X F (.Return (some e) pos) δ (RtN em v) := ts_retN h
theorem ts_retF {rt : β → Oc} (st' : ρ → List S) (v : β) (h : TS X F st δ (rt v)) : TS X F st δ (Fl.oc st' rt (.ret v)) := h
theorem tss_end (st' : ρ → List S) (r : ρ) (q : δ = st' r := by rfl) : TSs X F [] δ (.nx (st' r)) := q ▸ tss_nil
theorem tss_endF (st' : ρ → List S) (rt : β → Oc) (r : ρ) (q : δ = st' r := by rfl) : TSs X F [] δ (Fl.oc st' rt (.next r)) := q ▸ tss_nil
theorem tss_cntF (st' : ρ → List S) (rt : β → Oc) (r : ρ) (q : δ = st' r := by rfl) : TSs X F [.Continue pos] δ (Fl.oc st' rt (.cnt r)) := q ▸ tss_one ts_continue
theorem tss_brkF (st' : ρ → List S) (rt : β → Oc) (r : ρ) (q : δ = st' r := by rfl) : TSs X F [.Break pos] δ (Fl.oc st' rt (.brk r)) := q ▸ tss_one ts_break
/-! ## loops, what stands behind them -/
def Rs.el {α ρ : Type} (f : Rs ρ α) (g : ρ → α) : α := match f with
  | .next r => g r
  | .ret a => a
def Rs.fl {α ρ ρ' : Type} (f : Rs ρ α) (g : ρ → Fl ρ' α) : Fl ρ' α := match f with
  | .next r => g r
  | .ret a => .ret a
def Rs.val {ρ : Type} (f : Rs ρ Empty) : ρ := match f with
  | .next r => r
  | .ret e => e.elim
theorem rs_val {st' : ρ → List S} {rt : Empty → Oc} (f : Rs ρ Empty) : Rs.oc st' rt f = .nx (st' f.val) := by
  cases f with
  | next r => rfl
  | ret e => exact e.elim
def BdR {α ρ : Type} (okR : ρ → Prop) (f : Rs ρ α) : Prop := ∀ r, f = .next r → okR r
theorem tss_el {st' : ρ → List S} {rt : α → Oc} {f : Rs ρ α} {g : ρ → α} {okR : ρ → Prop} (hrt : ∀ a, (rt a).ex) (h : BdR okR f) (h1 : TS X F st δ (Rs.oc st' rt f)) (h2 : ∀ r, okR r → TSs X F sts (st' r) (rt (g r))) : TSs X F (st :: sts) δ (rt (f.el g)) := by
  cases f with
  | next r => exact tss_cons h1 (h2 r (h r rfl))
  | ret a => exact ts_exit (rt := rt) (x := a) (hrt a) h1
theorem tss_fl {st' : ρ → List S} {st2 : ρ' → List S} {rt : α → Oc} {f : Rs ρ α} {g : ρ → Fl ρ' α} {okR : ρ → Prop} (hrt : ∀ a, (rt a).ex) (h : BdR okR f) (h1 : TS X F st δ (Rs.oc st' rt f)) (h2 : ∀ r, okR r → TSs X F sts (st' r) (Fl.oc st2 rt (g r))) : TSs X F (st :: sts) δ (Fl.oc st2 rt (f.fl g)) := by
  cases f with
  | next r => exact tss_cons h1 (h2 r (h r rfl))
  | ret a => exact ts_exit (rt := Fl.oc st2 rt) (x := .ret a) (hrt a) h1
theorem bdR_true {α ρ : Type} (f : Rs ρ α) : BdR (fun _ => True) f := fun _ _ => trivial
theorem okFor_true {body : ρ → ι → Fl ρ α} : ∀ (xs : List ι) (r : ρ), OkFor body (fun _ _ => True) xs r
  | [], _ => trivial
  | x :: xs, r => by
    refine ⟨trivial, ?_⟩
    cases body r x with
    | next r' => exact okFor_true xs r'
    | cnt r' => exact okFor_true xs r'
    | brk r' => trivial
    | ret a => trivial
theorem okComp_true {f : ρ → ι → Option β × ρ} : ∀ (xs : List ι) (r : ρ), OkComp f (fun _ _ => True) xs r
  | [], _ => trivial
  | x :: xs, r => ⟨trivial, okComp_true xs _⟩
def OkFold (body : ρ → ι → ρ) (okb : ρ → ι → Prop) : List ι → ρ → Prop
  | [], _ => True
  | x :: xs, r => okb r x ∧ OkFold body okb xs (body r x)
theorem okFold_true {body : ρ → ι → ρ} : ∀ (xs : List ι) (r : ρ), OkFold body (fun _ _ => True) xs r
  | [], _ => trivial
  | x :: xs, r => ⟨trivial, okFold_true xs _⟩
theorem forF_fold {body : ρ → ι → ρ} : ∀ (xs : List ι) (r : ρ), forF (fun r x => (Fl.next (body r x) : Fl ρ Empty)) xs r = .next (xs.foldl body r)
  | [], r => rfl
  | x :: xs, r => by unfold forF; exact forF_fold xs _
theorem okFor_fold {body : ρ → ι → ρ} {okb : ρ → ι → Prop} : ∀ (xs : List ι) (r : ρ), OkFold body okb xs r → OkFor (fun r x => (Fl.next (body r x) : Fl ρ Empty)) okb xs r
  | [], r, _ => trivial
  | x :: xs, r, h => ⟨h.1, okFor_fold xs _ h.2⟩
theorem rt_ex (em : α → D) : ∀ a, (Rt em a).ex := fun _ => trivial
theorem rtI_ex (em : α → D) (ef : β → D) : ∀ a, (RtI em ef a).ex := fun _ => trivial
theorem rtN_ex (em : α → D) : ∀ a, (RtN em a).ex := fun _ => trivial
theorem rt_st (em : α → D) : ∀ a E n c b, (Rt em a).sat E → (Rt em a).sat { E with nx := n, ct := c, bk := b } := fun _ _ _ _ _ h => h
theorem rtI_st (em : α → D) (ef : β → D) : ∀ a E n c b, (RtI em ef a).sat E → (RtI em ef a).sat { E with nx := n, ct := c, bk := b } := fun _ _ _ _ _ h => h
theorem rtN_st (em : α → D) : ∀ a E n c b, (RtN em a).sat E → (RtN em a).sat { E with nx := n, ct := c, bk := b } := fun _ _ _ _ _ h => h
abbrev RtE : Empty → Oc := fun e => e.elim
theorem rtE_ex : ∀ a, (RtE a).ex := fun a => a.elim
theorem rtE_st : ∀ a E n c b, (RtE a).sat E → (RtE a).sat { E with nx := n, ct := c, bk := b } := fun a => a.elim
theorem ts_fold {vs : List Nat} {g : WG} {emi : ι → D} {st' : ρ → List S} {st1 : ρ → ι → List S} {body : ρ → ι → ρ} {okb : ρ → ι → Prop} {xs : List ι} {r0 : ρ} (hp : PassesOwn (model X.prog X.w) X.A X.env X.xe) (hc : X.calm = true)
    (hi : TIt X F tg iter δ (xs.map emi) δ1) (hg : DG X F tg vs g) (hgs : ∀ r x (P : List S → Prop), P (st1 r x) → g (emi x) (st' r) P) (q : δ1 = st' r0) (hok : OkFold body okb xs r0)
    (hb : ∀ r x, okb r x → TSs X F tb (st1 r x) (.nx (st' (body r x))))
    (rule : ∀ ti t, PI X tg iter ti → PSs X tb t → PS X st (tFor ti (liftG X.K F vs g) t)) : TS X F st δ (.nx (st' (xs.foldl body r0))) :=
  (ts_for (st' := st') (st1 := st1) (rt := RtE) (body := fun r x => (Fl.next (body r x) : Fl ρ Empty)) (okb := okb) hp hc rtE_ex rtE_st hi hg hgs q (okFor_fold xs r0 hok) hb rule).cast (by rw [forF_fold]; rfl)
/-! ## targets of several names, attributes of what is being made -/
theorem ts_set2 {n1 n2 : Nat} {t1 t2 : Expr} {kk : Nat} (he : TE X F e δ (.tup [d1, d2]) δ1) (hc : X.calm = true) (hg1 : PG X t1 (gName n1)) (hg2 : PG X t2 (gName n2)) (ho1 : NoIo F n1) (ho2 : NoIo F n2) {tpos : Pos}
    (hs : swapsWithSole [.Tuple [t1, t2] kk tpos] e pos.line X.env = pure false := by rfl) (hw : swappedStores [.Tuple [t1, t2] kk tpos] e X.env = pure none := by rfl) (h1 : List.map (fun x => x.snd) (assignEach [.Tuple [t1, t2] kk tpos] X.env) = [assign (.Tuple [t1, t2] kk tpos) X.env] := by rfl)
    (hx2 : List.map (fun x => x.snd) (assignEach [t2] X.env) = assign t2 X.env :: List.map (fun x => x.snd) (assignEach [] X.env) := by rfl) (hx1 : List.map (fun x => x.snd) (assignEach [t1, t2] X.env) = assign t1 X.env :: List.map (fun x => x.snd) (assignEach [t2] X.env) := by rfl)
    (hn : (assignEach [t1, t2] X.env).length = 2 := by rfl) (hst : (assignEach [t1, t2] X.env).findIdx? (·.1) = none := by rfl) : TS X F (.Assign [.Tuple [t1, t2] kk tpos] e pos) δ (.nx ((δ1.set n1 (.dat d1)).set n2 (.dat d2))) :=
  ts_asg he (dg_tup hc (dgs_cons (dg_name hg1 ho1) (dgs_cons (dg_name hg2 ho2) dgs_nil hx2) hx1) hn hst) (fun P h => ⟨_, rfl, rfl, _, _, rfl, _, _, rfl, rfl, h⟩) hs hw h1
theorem ts_setS {n : Nat} {C : Addr} {f : Str} {gs hs' : List (Str × D)} (cl : Cls X.K C) (na : NoAttr X.K C f) (h0 : PE X o (tVar n)) (he : TE X F e δ d δ1) (q : δ1[n]? = some (.slf C gs)) (hl : gs.length < 1000) (qp : putD f d gs = hs') (hs : swapsWith e (some (.Attribute o f pos')) pos.line X.env = pure false := by rfl) :
    TS X F (.Assign [.Attribute o f pos'] e pos) δ (.nx (δ1.set n (.slf C hs'))) := TS.of (ds_setS cl na h0 he hs) fun E p => ⟨rfl, gs, q, hl, by rw [qp]; exact p⟩
theorem putD_hd {f : Str} {d d' : D} {gs : List (Str × D)} : putD f d ((f, d') :: gs) = (f, d) :: gs := by
  show (if f = f then _ else _) = _; rw [if_pos rfl]
theorem putD_tl {f f' : Str} {d d' : D} {gs gs' : List (Str × D)} (h : ¬ f' = f) (q : putD f d gs = gs') : putD f d ((f', d') :: gs) = (f', d') :: gs' := by
  show (if f' = f then _ else _ :: putD f d gs) = _; rw [if_neg h, q]
theorem look_hd {f : Str} {d : D} {gs : List (Str × D)} : ((f, d) :: gs).lookup f = some d := by simp [List.lookup_cons]
theorem look_tl {f f' : Str} {d' : D} {gs : List (Str × D)} {r : Option D} (h : ¬ f' = f) (q : gs.lookup f = r) : ((f', d') :: gs).lookup f = r := by
  rw [List.lookup_cons]
  have : (f == f') = false := by simpa using fun z => h z.symm
  rw [this]; exact q
/-! ## an own list handed on as nobody's -/
theorem tn_give {n : Nat} (h : PE X e (tVar n)) (hio : NoIo F n) (q : δ[n]? = some (.own ds)) : TN X F e δ ds (δ.set n .un) := PE.imp h fun σ H Q ⟨Hf, δ0, P, R, ⟨e0, p⟩, z⟩ => by
  subst e0
  obtain ⟨a, vs, h1, h2, h3, h4⟩ := R.sl n _ q
  have hl : n < δ0.length := (List.getElem?_eq_some_iff.mp q).1
  have get : ∀ {j : Nat} {s : S}, (δ0.set n .un)[j]? = some s → s.mine = true → j ≠ n ∧ δ0[j]? = some s := fun {j s} e m => by
    by_cases hj : n = j
    · subst hj; rw [List.getElem?_set_self hl] at e; cases e; cases m
    · rw [List.getElem?_set_ne hj] at e; exact ⟨fun z => hj z.symm, e⟩
  have R2 : Rel X.K F Hf H σ (δ0.set n .un) := by
    refine ⟨R.sub, R.f0, R.keep, R.nf, by rw [List.length_set]; exact R.len, fun j s e => ?_, fun j k b xs ys e1 m1 e2 m2 e3 e4 => R.dis j k b _ _ (get e1 m1).2 m1 (get e2 m2).2 m2 e3 e4, fun p hp => ?_, fun j s b e m g => R.fr j s b (get e m).2 m g⟩
    · by_cases hj : n = j
      · subst hj; rw [List.getElem?_set_self hl] at e; cases e; trivial
      · rw [List.getElem?_set_ne hj] at e; exact R.sl j s e
    · obtain ⟨g1, s, g2, m⟩ := R.io p hp
      exact ⟨g1, s, by rw [List.getElem?_set_ne (Ne.symm (hio p hp))]; exact g2, m⟩
  refine ⟨.ref a, h1, z ds _ p Hf H a (Same.refl _) R2 ⟨⟨vs, h2, h4⟩, h3, ?_, fun j s b e m g hb => ?_⟩⟩
  · rcases R.fr n _ a q rfl h1 with q' | ⟨p', hp, q'⟩
    · exact q'
    · exact absurd q' (hio p' hp)
  · subst hb
    obtain ⟨hj, e'⟩ := get e m
    exact hj (R.dis j n b _ _ e' m q rfl g h1)
end
/-! ## defs -/
section
variable {P : Program} {w : World} {K : PySem.W.Frag} {mg : Str → Option Value} {base : Heap} {x qual : Str} {st : Stmt} {f C : Addr} {fd : FuncData} {N ps : List Str} {k n : Nat} {ι : Type}
def TFi (args : ι → List D) (okk : ι → Prop) (res : ι → D) : TF := fun ds P => ∃ i, okk i ∧ ds = args i ∧ P (res i)
def TFNi (args : ι → List D) (okk : ι → Prop) (res : ι → List D) : TFN := fun ds P => ∃ i, okk i ∧ ds = args i ∧ P (res i)
def TIOi (own : ι → List D) (args : ι → List D) (okk : ι → Prop) (res : ι → D) (beh : ι → List D) : TIO := fun es ds P => ∃ i, okk i ∧ es = own i ∧ ds = args i ∧ P (res i) (beh i)
def TIni (args : ι → List D) (okk : ι → Prop) (res : ι → List (Str × D)) : TIn := fun ds P => ∃ i, okk i ∧ ds = args i ∧ P (res i)
abbrev At (P : Program) (w : World) (K : PySem.W.Frag) (mg : Str → Option Value) (base : Heap) (N : List Str) (qual : Str) (st : Stmt) (f : Addr) (k : Nat) (io : Fm → Prop) (J : Cx → Fm → Prop) : Prop :=
  ∀ cdv A outer s H E (Fr : Fm), Room k (A.deeper (envOfC qual (defScope st) s.heap.objs.size f cdv)) → io Fr → J (bcx P w K mg base N qual (defScope st) f cdv A outer s H E) Fr
theorem fn_T {args : ι → List D} {okk : ι → Prop} {res : ι → D} (F : Fun K x qual st f fd) (S : FnScope N ps (defScope st)) (hn : ps.length ≤ N.length)
    (hb : ∀ i, okk i → At P w K mg base N qual st f k (fun Fr => Fr.io = []) fun X Fr => TSs X Fr (defBody st) (startD N (args i)) (.rt (res i))) : FnOk P w K mg base CX0 (k + 1) f fd ps (spF K ps.length (TFi args okk res)) :=
  (fn_F (t := fun E δ0 => ∃ i, okk i ∧ δ0 = startD N (args i) ∧ (Oc.rt (res i)).sat E) F S hn fun cdv A outer s H E Fr hr hio =>
    ⟨fun pins s' σ H' Dd I ⟨Hf, δ0, E', R, ⟨i, ho, e, h⟩, m⟩ => (hb i ho cdv A outer s H E Fr hr hio).run pins s' σ H' Dd I ⟨Hf, δ0, E', R, ⟨e, h⟩, m⟩⟩).imp
    fun vs H Q E ⟨hl, Hf, ds, P, sm, r, ⟨i, ho, e, p⟩, z⟩ => ⟨hl, Hf, ds, P, sm, r, ⟨i, ho, by rw [e], fun _ => p⟩, z⟩
theorem fn_P {args : ι → List D} {okk : ι → Prop} {fin : ι → List S} (F : Fun K x qual st f fd) (S : FnScope N ps (defScope st)) (hn : ps.length ≤ N.length)
    (hb : ∀ i, okk i → At P w K mg base N qual st f k (fun Fr => Fr.io = []) fun X Fr => TSs X Fr (defBody st) (startD N (args i)) (.nx (fin i))) : FnOk P w K mg base CX0 (k + 1) f fd ps (spF K ps.length (TFi args okk fun _ => .non)) :=
  (fn_F (t := fun E δ0 => ∃ i, okk i ∧ δ0 = startD N (args i) ∧ (Oc.nx (fin i)).sat E) F S hn fun cdv A outer s H E Fr hr hio =>
    ⟨fun pins s' σ H' Dd I ⟨Hf, δ0, E', R, ⟨i, ho, e, h⟩, m⟩ => (hb i ho cdv A outer s H E Fr hr hio).run pins s' σ H' Dd I ⟨Hf, δ0, E', R, ⟨e, h⟩, m⟩⟩).imp
    fun vs H Q E ⟨hl, Hf, ds, P, sm, r, ⟨i, ho, e, p⟩, z⟩ => ⟨hl, Hf, ds, P, sm, r, ⟨i, ho, by rw [e], p⟩, z⟩
theorem fn_TN {args : ι → List D} {okk : ι → Prop} {res : ι → List D} (F : Fun K x qual st f fd) (S : FnScope N ps (defScope st)) (hn : ps.length ≤ N.length)
    (hb : ∀ i, okk i → At P w K mg base N qual st f k (fun Fr => Fr.io = []) fun X Fr => TSs X Fr (defBody st) (startD N (args i)) (.rn (res i))) : FnOk P w K mg base CX0 (k + 1) f fd ps (spFN K ps.length (TFNi args okk res)) :=
  (fn_FN (t := fun E δ0 => ∃ i, okk i ∧ δ0 = startD N (args i) ∧ (Oc.rn (res i)).sat E) F S hn fun cdv A outer s H E Fr hr hio =>
    ⟨fun pins s' σ H' Dd I ⟨Hf, δ0, E', R, ⟨i, ho, e, h⟩, m⟩ => (hb i ho cdv A outer s H E Fr hr hio).run pins s' σ H' Dd I ⟨Hf, δ0, E', R, ⟨e, h⟩, m⟩⟩).imp
    fun vs H Q E ⟨hl, Hf, ds, P, sm, r, ⟨i, ho, e, p⟩, z⟩ => ⟨hl, Hf, ds, P, sm, r, ⟨i, ho, by rw [e], fun _ => p⟩, z⟩
theorem fn_TI {own args : ι → List D} {okk : ι → Prop} {res : ι → D} {beh : ι → List D} (F : Fun K x qual st f fd) (S : FnScope N ps (defScope st)) (hn : ps.length ≤ N.length)
    (hb : ∀ i, okk i → At P w K mg base N qual st f k (fun Fr => ∃ a, Fr.io = [(0, a)]) fun X Fr => TSs X Fr (defBody st) (startIO N (own i) (args i)) (.rti (res i) (beh i))) : FnOk P w K mg base CX0 (k + 1) f fd ps (spIO K ps.length (TIOi own args okk res beh)) :=
  (fn_IO (t := fun E δ0 => ∃ i, okk i ∧ δ0 = startIO N (own i) (args i) ∧ (Oc.rti (res i) (beh i)).sat E) F S hn fun cdv A outer s H E Fr hr hio =>
    ⟨fun pins s' σ H' Dd I ⟨Hf, δ0, E', R, ⟨i, ho, e, h⟩, m⟩ => (hb i ho cdv A outer s H E Fr hr hio).run pins s' σ H' Dd I ⟨Hf, δ0, E', R, ⟨e, h⟩, m⟩⟩).imp
    fun vs H Q E ⟨hl, Hf, a, us, es, ws, ds, P, e1, e2, e3, sm, r1, r2, ⟨i, ho, e4, e5, p⟩, z⟩ => ⟨hl, Hf, a, us, es, ws, ds, P, e1, e2, e3, sm, r1, r2, ⟨i, ho, by rw [e4, e5], fun δ q => ⟨_, q, p⟩⟩, z⟩
theorem fn_TIn {args : ι → List D} {okk : ι → Prop} {res : ι → List (Str × D)} {fin : ι → List S} (F : Fun K x qual st f fd) (S : FnScope N ps (defScope st)) (hn : ps.length ≤ N.length) (hp : ps.length = n + 1) (hf : ∀ i, (fin i)[0]? = some (.slf C (res i)))
    (hb : ∀ i, okk i → At P w K mg base N qual st f k (fun Fr => ∃ a, Fr.io = [(0, a)]) fun X Fr => TSs X Fr (defBody st) (startM N (.slf C []) (args i)) (.nx (fin i))) : FnOk P w K mg base CX0 (k + 1) f fd ps (spIn K C n (TIni args okk res)) :=
  (fn_In (t := fun E δ0 => ∃ i, okk i ∧ δ0 = startM N (.slf C []) (args i) ∧ (Oc.nx (fin i)).sat E) F S hn hp fun cdv A outer s H E Fr hr hio =>
    ⟨fun pins s' σ H' Dd I ⟨Hf, δ0, E', R, ⟨i, ho, e, h⟩, m⟩ => (hb i ho cdv A outer s H E Fr hr hio).run pins s' σ H' Dd I ⟨Hf, δ0, E', R, ⟨e, h⟩, m⟩⟩).imp
    fun vs H Q E ⟨hl, Hf, y, dx, ws, ds, P, e1, e2, e3, sm, r1, ⟨i, ho, e4, p⟩, z⟩ => ⟨hl, Hf, y, dx, ws, ds, P, e1, e2, e3, sm, r1, ⟨i, ho, by rw [e4], ⟨_, hf i, p⟩⟩, z⟩
end
end DT
end
section
set_option maxHeartbeats 4000000
namespace DT
open PySem PySem.Spec PyProof.Rows L2
/-- a list that stands elsewhere too, read alone -/
abbrev eR {α : Type} (e : α → D) (xs : List α) : D := .row (xs.map e)
section
variable {X : Cx} {F : Fm} {e a b c o tg iter elt : Expr} {es rest ifs : List Expr} {pos p apos pos' py spos : Pos} {δ δ' δ1 δ2 δ3 : List S} {d d1 d2 : D} {ds ds1 : List D} {k k1 k2 : Bool} {i j : Int}
variable {α β ι ρ ρ' γ : Type} {em : α → D} {ef : β → D} {st : Stmt} {sts sa sb tb : List Stmt} {ob oc1 : Oc}
theorem te_gref {r : Addr} (h : PE X e (tC (.ref r))) : TE X F e δ (.at r) δ := TE.of (de_c h fun _ _ => .at _) fun P p => p
theorem tss_endR (st' : ρ → List S) (rt : β → Oc) (r : ρ) (q : δ = st' r := by rfl) : TSs X F [] δ (Rs.oc st' rt (.next r)) := q ▸ tss_nil
theorem ts_retR {rt : β → Oc} (st' : ρ → List S) (v : β) (h : TS X F st δ (rt v)) : TS X F st δ (Rs.oc st' rt (.ret v)) := h
def Rs.rs {α ρ ρ' : Type} (f : Rs ρ α) (g : ρ → Rs ρ' α) : Rs ρ' α := match f with
  | .next r => g r
  | .ret a => .ret a
theorem tss_rs {st' : ρ → List S} {st2 : ρ' → List S} {rt : α → Oc} {f : Rs ρ α} {g : ρ → Rs ρ' α} {okR : ρ → Prop} (hrt : ∀ a, (rt a).ex) (h : BdR okR f) (h1 : TS X F st δ (Rs.oc st' rt f)) (h2 : ∀ r, okR r → TSs X F sts (st' r) (Rs.oc st2 rt (g r))) : TSs X F (st :: sts) δ (Rs.oc st2 rt (f.rs g)) := by
  cases f with
  | next r => exact tss_cons h1 (h2 r (h r rfl))
  | ret a => exact ts_exit (rt := Rs.oc st2 rt) (x := .ret a) (hrt a) h1
/-! ### comprehensions without a test, and those that only choose -/
variable {scope : Scope} {own : List (Str × Nat)} {g : WG} {emi : ι → D} {emo : β → D} {xs : List ι} {sx : ι → List S} {t : ι → Bool} {f : ι → β}
theorem filter_tt (xs : List ι) : xs.filter (fun _ => true) = xs := List.filter_eq_self.mpr fun _ _ => rfl
theorem tn_lc0 (hc : X.calm = true) (hN : X.N.Nodup) (hi : TIt X F tg iter δ (xs.map emi) δ1) (ok : BlkOk X.N X.env.scope scope own)
    (hg : ∀ (F' : Fm) (s : Shared) (H : Hp) (C : Addr) (cl : List (Str × Addr)) (fp : List Addr), NIo own F' → DG (X.blk s H scope (compEnvC scope cl C X.env) fp) F' tg (own.map (·.2)) g)
    (hgs : ∀ x (P : List S → Prop), P (sx x) → g (emi x) δ2 P) (he : ∀ x, x ∈ xs → Blk X scope fun Y F' => TE Y F' elt (sx x) (emo (f x)) (sx x))
    (q : unset δ1 (own.map (·.2)) = δ2 := by rfl) (hu : ∀ x, unset (sx x) (own.map (·.2)) = δ2 := by intro _; rfl) (nm : (own.map (·.2)).all (fun i => match δ1[i]? with | some s => !s.mine | none => true) = true := by rfl) (hs : ∀ x, foldedSetIterable iter X.env x = pure x := by intro _; rfl) :
    TN X F (.ListComp elt [⟨tg, iter, [], 0⟩] scope pos) δ ((xs.map f).map emo) δ2 :=
  (tn_lc (t := fun _ => true) (f := f) hc hN hi ok hg hgs (fun _ _ _ _ _ _ _ _ => tts_nil) (fun x hx _ => he x hx) q hu nm hs).cast (by rw [filter_tt])
theorem ts_setLc0 {i : Nat} {y : Str} (hc : X.calm = true) (hN : X.N.Nodup) (hy : X.N[i]? = some y) (hyl : X.env.scope.names.lookup y = some .local)
    (hsw : swapsWith (.ListComp elt [⟨tg, iter, [], 0⟩] scope pos) (some (.Name y py)) spos.line X.env = pure true) (hi : TIt X F tg iter δ (xs.map emi) δ1) (ok : BlkOk X.N X.env.scope scope own) (hio : NoIo F i)
    (hg : ∀ (F' : Fm) (s : Shared) (H : Hp) (C : Addr) (cl : List (Str × Addr)) (fp : List Addr), NIo own F' → DG (X.blk s H scope (compEnvC scope cl C X.env) fp) F' tg (own.map (·.2)) g)
    (hgs : ∀ x (P : List S → Prop), P (sx x) → g (emi x) δ2 P) (he : ∀ x, x ∈ xs → Blk X scope fun Y F' => TE Y F' elt (sx x) (emo (f x)) (sx x))
    (q : unset δ1 (own.map (·.2)) = δ2 := by rfl) (hu : ∀ x, unset (sx x) (own.map (·.2)) = δ2 := by intro _; rfl) (nm : (own.map (·.2)).all (fun i => match δ1[i]? with | some s => !s.mine | none => true) = true := by rfl) (hs : ∀ x, foldedSetIterable iter X.env x = pure x := by intro _; rfl) :
    TS X F (.Assign [.Name y py] (.ListComp elt [⟨tg, iter, [], 0⟩] scope pos) spos) δ (.nx (δ2.set i (.own ((xs.map f).map emo)))) :=
  (ts_setLc (t := fun _ => true) (f := f) hc hN hy hyl hsw hi ok hio hg hgs (fun _ _ _ _ _ _ _ _ => tts_nil) (fun x hx _ => he x hx) q hu nm hs).cast (by rw [filter_tt])
variable {emx : ι → D}
theorem tn_lcf (hc : X.calm = true) (hN : X.N.Nodup) (hi : TIt X F tg iter δ (xs.map emi) δ1) (ok : BlkOk X.N X.env.scope scope own)
    (hg : ∀ (F' : Fm) (s : Shared) (H : Hp) (C : Addr) (cl : List (Str × Addr)) (fp : List Addr), NIo own F' → DG (X.blk s H scope (compEnvC scope cl C X.env) fp) F' tg (own.map (·.2)) g)
    (hgs : ∀ x (P : List S → Prop), P (sx x) → g (emi x) δ2 P) (ht : ∀ x, x ∈ xs → Blk X scope fun Y F' => TTs Y F' ifs (sx x) (t x) (sx x)) (he : ∀ x, x ∈ xs → t x = true → Blk X scope fun Y F' => TE Y F' elt (sx x) (emx x) (sx x))
    (q : unset δ1 (own.map (·.2)) = δ2 := by rfl) (hu : ∀ x, unset (sx x) (own.map (·.2)) = δ2 := by intro _; rfl) (nm : (own.map (·.2)).all (fun i => match δ1[i]? with | some s => !s.mine | none => true) = true := by rfl) (hs : ∀ x, foldedSetIterable iter X.env x = pure x := by intro _; rfl) :
    TN X F (.ListComp elt [⟨tg, iter, ifs, 0⟩] scope pos) δ ((xs.filter t).map emx) δ2 :=
  (tn_lc (t := t) (f := id) (emo := emx) hc hN hi ok hg hgs ht he q hu nm hs).cast (by rw [List.map_id])
theorem ts_setLcf {i : Nat} {y : Str} (hc : X.calm = true) (hN : X.N.Nodup) (hy : X.N[i]? = some y) (hyl : X.env.scope.names.lookup y = some .local)
    (hsw : swapsWith (.ListComp elt [⟨tg, iter, ifs, 0⟩] scope pos) (some (.Name y py)) spos.line X.env = pure true) (hi : TIt X F tg iter δ (xs.map emi) δ1) (ok : BlkOk X.N X.env.scope scope own) (hio : NoIo F i)
    (hg : ∀ (F' : Fm) (s : Shared) (H : Hp) (C : Addr) (cl : List (Str × Addr)) (fp : List Addr), NIo own F' → DG (X.blk s H scope (compEnvC scope cl C X.env) fp) F' tg (own.map (·.2)) g)
    (hgs : ∀ x (P : List S → Prop), P (sx x) → g (emi x) δ2 P) (ht : ∀ x, x ∈ xs → Blk X scope fun Y F' => TTs Y F' ifs (sx x) (t x) (sx x)) (he : ∀ x, x ∈ xs → t x = true → Blk X scope fun Y F' => TE Y F' elt (sx x) (emx x) (sx x))
    (q : unset δ1 (own.map (·.2)) = δ2 := by rfl) (hu : ∀ x, unset (sx x) (own.map (·.2)) = δ2 := by intro _; rfl) (nm : (own.map (·.2)).all (fun i => match δ1[i]? with | some s => !s.mine | none => true) = true := by rfl) (hs : ∀ x, foldedSetIterable iter X.env x = pure x := by intro _; rfl) :
    TS X F (.Assign [.Name y py] (.ListComp elt [⟨tg, iter, ifs, 0⟩] scope pos) spos) δ (.nx (δ2.set i (.own ((xs.filter t).map emx)))) :=
  (ts_setLc (t := t) (f := id) (emo := emx) hc hN hy hyl hsw hi ok hio hg hgs ht he q hu nm hs).cast (by rw [List.map_id])

theorem d_append2 {i : Nat} {t : WE} (ha : DE X F a t)
    (rule : ∀ t, PA X [a] t → PE X e (tBM X.K "list" rAppend (tVar i) t)) (he : starEach [a] X.env = (false, eval a X.env) :: starEach [] X.env := by rfl) : DE X F e (wApp i t) :=
  PE.imp (rule _ (pa_cons ha pa_nil he)) fun σ H Q ⟨Hf, δ, P, R, ⟨⟨xs0, e0⟩, h⟩, k⟩ => by
    obtain ⟨l, us0, g0, g00, _⟩ := R.sl i _ e0
    refine ⟨.ref l, g0, .inl ⟨rfl, us0, SqL.of g00⟩, Hf, δ, _, R, h, fun d δ1 h1 Hf1 H1 v s1 R1 r1 => ?_⟩
    obtain ⟨xs, e1, hz, p⟩ := h1
    obtain ⟨l', us, g1, g2, g3, g4⟩ := R1.sl i _ e1
    rw [g0] at g1; cases g1
    exact ⟨l, us, v, rfl, rfl, g2, by rw [g4.length]; exact hz, k _ _ p Hf1 _ _ s1 (R1.setO e1 g0 (g4.append (.cons r1 .nil))) .non⟩
theorem te_app {i : Nat} {xs : List α} {x : α} (ha : TE X F a δ (em x) δ1) (h : xs.length < sizeLine) (rule : ∀ t, PA X [a] t → PE X e (tBM X.K "list" rAppend (tVar i) t)) (he : starEach [a] X.env = (false, eval a X.env) :: starEach [] X.env := by rfl)
    {zs : List D} (q0 : δ[i]? = some (.own zs) := by rfl) (q : δ1[i]? = some (.own (xs.map em)) := by rfl) : TE X F e δ .non (δ1.set i (.own ((xs ++ [x]).map em))) :=
  TE.of (d_append2 ha rule he) fun P p => ⟨⟨zs, q0⟩, rfl, _, q, by simpa using h, by rw [List.map_append] at p; exact p⟩

theorem d_ixE {ta tb : WE} (ha : DE X F a ta) (hb : DP X F b tb) (hs : PlainIx b := by intro _ _; rfl) : DE X F (.Subscript a b pos) (wBin gIx ta tb) := dbin (fun _ _ h1 h2 => pe_ix ix_seq h1 h2 hs) r2_ix ha hb
theorem te_ixE [Inhabited α] {xs : List α} (ha : TE X F a δ d δ1) (q : sq d = some (xs.map em)) (hb : TP X F b δ1 (.int i) δ2) (h : IxOk xs i) (hs : PlainIx b := by intro _ _; rfl) : TE X F (.Subscript a b pos) δ (em (pyIx xs i)) δ2 :=
  TE.of (d_ixE ha hb hs) fun P p => ⟨rfl, rfl, _, i, _, q, rfl, by rw [atI_map, atI_pyIx h]; rfl, p⟩
theorem dg_weak {vs us : List Nat} {g : WG} (h : DG X F tg vs g) (hs : ∀ i ∈ vs, i ∈ us) : DG X F tg us g :=
  PG.imp h fun v σ H Q ⟨Hf, δ, d, P, R, r, p, k⟩ => ⟨Hf, δ, d, P, R, r, p, fun δ' q Hf' H' σ' s R' o => k δ' q Hf' H' σ' s R' ⟨o.1, fun i hi => o.2 i fun hh => hi (hs i hh)⟩⟩
theorem le_sz {ds : List D} (n : Nat) (h : ds.length = n) (hn : n ≤ 1000) : ds.length ≤ sizeLine := by rw [sizeLine_eq]; omega
theorem relabel_cf {env : PySem.Env} : ∀ {names : List (Str × NameKind)} {x : Str}, names.lookup x = some .cell ∨ names.lookup x = some .free →
    (names.map fun (n, k) => if (k == NameKind.free && env.scope.kind == .function && env.kindOf n == some .cell) then (n, NameKind.cell) else (n, k)).lookup x = some .cell ∨ (names.map fun (n, k) => if (k == NameKind.free && env.scope.kind == .function && env.kindOf n == some .cell) then (n, NameKind.cell) else (n, k)).lookup x = some .free
  | [], _, h => by simp at h
  | (n, k) :: r, x, h => by
    have ih := @relabel_cf env r x
    show List.lookup x ((if (k == NameKind.free && env.scope.kind == .function && env.kindOf n == some .cell) = true then (n, NameKind.cell) else (n, k)) :: _) = _ ∨ List.lookup x ((if (k == NameKind.free && env.scope.kind == .function && env.kindOf n == some .cell) = true then (n, NameKind.cell) else (n, k)) :: _) = _
    cases hx : x == n with
    | true =>
      simp only [List.lookup_cons, hx] at h
      by_cases hc : (k == NameKind.free && env.scope.kind == .function && env.kindOf n == some .cell) = true
      · rw [if_pos hc]; simp [List.lookup_cons, hx]
      · rw [if_neg hc]; simpa [List.lookup_cons, hx] using h
    | false =>
      simp only [List.lookup_cons, hx] at h
      by_cases hc : (k == NameKind.free && env.scope.kind == .function && env.kindOf n == some .cell) = true
      · rw [if_pos hc]; simp only [List.lookup_cons, hx]; exact ih h
      · rw [if_neg hc]; simp only [List.lookup_cons, hx]; exact ih h
theorem blkOk_blk {Y : Cx} {s : Shared} {H : Hp} {sc scope : Scope} {ev : PySem.Env} {C : Addr} {cl : List (Str × Addr)} {fp : List Addr} {own : List (Str × Nat)} {N : List Str} (h : blkC N sc scope own = true) (hN : Y.N = N := by rfl) : BlkOk (Y.blk s H sc (compEnvC sc cl C ev) fp).N (Y.blk s H sc (compEnvC sc cl C ev) fp).env.scope scope own := by
  have b : BlkOk Y.N sc scope own := hN ▸ blkOk_by h
  exact ⟨b.kind, b.uniq, b.ix, fun y hy hf => relabel_cf (b.free y hy hf), b.own⟩
theorem u1_lt {X : Cx} (h : X.A.units + 64 < cLine) : X.A.units + 1 < cLine := by omega

section
variable {vs1 : List Nat} {g1 : WG} {emj : γ → D} {kx vx tg1 iter1 : Expr} {sy : ι → γ → List S} {ys : ι → List γ} {fk : ι → γ → Int} {fv : ι → γ → β}
theorem te_dc2 (hc : X.calm = true) (hN : X.N.Nodup)
    (hi : TIt X F tg iter δ (xs.map emi) δ1) (ok : BlkOk X.N X.env.scope scope own) (hv : NIo own F) (hv1 : ∀ i ∈ vs1, i ∈ own.map (·.2))
    (hlen : (xs.map fun x => (ys x).length).sum ≤ sizeLine)
    (hg : ∀ (F' : Fm) (s : Shared) (H : Hp) (C : Addr) (cl : List (Str × Addr)) (fp : List Addr), NIo own F' → DG (X.blk s H scope (compEnvC scope cl C X.env) fp) F' tg (own.map (·.2)) g)
    (hg1 : ∀ (F' : Fm) (s : Shared) (H : Hp) (C : Addr) (cl : List (Str × Addr)) (fp : List Addr), (∀ i ∈ vs1, NoIo F' i) → DG (X.blk s H scope (compEnvC scope cl C X.env) fp) F' tg1 vs1 g1)
    (hgs : ∀ x (P : List S → Prop), P (sx x) → g (emi x) δ2 P) (hi1 : ∀ x, x ∈ xs → Blk X scope fun Y F' => TIt Y F' tg1 iter1 (sx x) ((ys x).map emj) (sx x)) (hgs1 : ∀ x y (P : List S → Prop), P (sy x y) → g1 (emj y) (unset (sx x) vs1) P)
    (hk : ∀ x y, x ∈ xs → y ∈ ys x → Blk X scope fun Y F' => TE Y F' kx (sy x y) (.int (fk x y)) (sy x y)) (he : ∀ x y, x ∈ xs → y ∈ ys x → Blk X scope fun Y F' => TE Y F' vx (sy x y) (emo (fv x y)) (sy x y))
    (q : unset δ1 (own.map (·.2)) = δ2 := by rfl) (hu1 : ∀ x y, unset (sy x y) vs1 = unset (sx x) vs1 := by intro _ _; rfl) (hu : ∀ x, unset (unset (sx x) vs1) (own.map (·.2)) = δ2 := by intro _; rfl) (nm : (own.map (·.2)).all (fun i => match δ1[i]? with | some s => !s.mine | none => true) = true := by rfl)
    (hs : ∀ x, foldedSetIterable iter X.env x = pure x := by intro _; rfl) (hs1 : ∀ env x, foldedSetIterable iter1 env x = pure x := by intro _ _; rfl) :
    TE X F (.DictComp kx vx [⟨tg, iter, [], 0⟩, ⟨tg1, iter1, [], 0⟩] scope pos) δ (eK emo (dc2F ys fk fv xs)) δ2 := by
  have P0 : PE X (.DictComp kx vx [⟨tg, iter, [], 0⟩, ⟨tg1, iter1, [], 0⟩] scope pos) _ :=
    pe_dc2 (wi := liftI X.K F fun δ0 P => δ0 = δ ∧ ((xs.map emi).length ≤ sizeLine → P (xs.map emi) δ1)) (g := anyG X.K (own.map (fun p : Str × Nat => p.2)) g) (tt := tYes) (wi1 := anyI X.K fun δ0 P => ∃ x, x ∈ xs ∧ δ0 = sx x ∧ (((ys x).map emj).length ≤ sizeLine → P ((ys x).map emj) (sx x))) (g1 := anyG X.K vs1 g1) (tt1 := tYes)
      (tk := anyE X.K fun δ0 P => ∃ x y, x ∈ xs ∧ y ∈ ys x ∧ δ0 = sy x y ∧ P (.int (fk x y)) (sy x y)) (tv := anyE X.K fun δ0 P => ∃ x y, x ∈ xs ∧ y ∈ ys x ∧ δ0 = sy x y ∧ P (emo (fv x y)) (sy x y)) hc hN hi ok hv1
      (fun s H C cl fp => ⟨fun pins s' σ' H' v u Q I r ⟨F', n, q⟩ => (hg F' s H C cl fp n).run pins s' σ' H' v u Q I r q⟩) (fun s H C cl fp => pts_nil)
      (fun s H C cl fp => ⟨fun pins s' σ' H' R I ⟨F', Hf, δ0, P, R0, ⟨x, hx, e, p⟩, z⟩ => (hi1 x hx F' s H C cl fp).run pins s' σ' H' R I ⟨Hf, δ0, P, R0, ⟨e, p⟩, z⟩⟩)
      (fun s H C cl fp => ⟨fun pins s' σ' H' v u Q I r ⟨F', n, q⟩ => (hg1 F' s H C cl fp n).run pins s' σ' H' v u Q I r q⟩) (fun s H C cl fp => pts_nil)
      (fun s H C cl fp => ⟨fun pins s' σ' H' Q I ⟨F', Hf, δ0, P, R, ⟨x, y, hx, hy', e, p⟩, z⟩ => (hk x y hx hy' F' s H C cl fp).run pins s' σ' H' Q I ⟨Hf, δ0, P, R, ⟨e, p⟩, z⟩⟩)
      (fun s H C cl fp => ⟨fun pins s' σ' H' Q I ⟨F', Hf, δ0, P, R, ⟨x, y, hx, hy', e, p⟩, z⟩ => (he x y hx hy' F' s H C cl fp).run pins s' σ' H' Q I ⟨Hf, δ0, P, R, ⟨e, p⟩, z⟩⟩) hs hs1
  refine PE.imp P0 fun σ H Q ⟨Hf, δ0, P, R, ⟨e0, pE⟩, m⟩ => ?_
  subst e0
  refine dc2_lift (wi := fun δ0' P => δ0' = δ0 ∧ ((xs.map emi).length ≤ sizeLine → P (xs.map emi) δ1)) hv hv1 ⟨Hf, δ0, fun d' δ' => d' = eK emo (dc2F ys fk fv xs) ∧ δ' = δ2, R, ⟨rfl, fun _ => ⟨nm_by nm, ?_⟩⟩, fun d' δ' ⟨hd, hδ⟩ Hf1 H1 v s1 R1 r1 => ?_⟩
  · rw [q]
    exact dout_ok (acc := []) hgs (fun x P hx p => ⟨x, hx, rfl, fun _ => p⟩) hgs1 (fun x y P hx hy' p => ⟨x, y, hx, hy', rfl, p⟩) (fun x y P hx hy' p => ⟨x, y, hx, hy', rfl, p⟩) hu1 hu xs (fun _ h => h) (by simpa using hlen) ⟨rfl, rfl⟩
  · subst hd hδ
    exact m _ _ pE Hf1 H1 v s1 R1 r1
end

theorem tss_lt {st' : α → List S} {ob' : α → Oc} {obv : Oc} (v : α) (h1 : TS X F st δ (.nx δ2)) (h2 : ∀ v, TSs X F sts (st' v) (ob' v)) (q : δ2 = st' v) (hob : ob' v = obv) : TSs X F (st :: sts) δ obv := hob ▸ tss_let v h1 h2 q
theorem tss_ltK {st' : α → List S} {ob' : α → Oc} {obv : Oc} {okR : α → Prop} (v : α) (h : Bd okR v) (h1 : TS X F st δ (.nx δ2)) (h2 : ∀ v, okR v → TSs X F sts (st' v) (ob' v)) (q : δ2 = st' v) (hob : ob' v = obv) : TSs X F (st :: sts) δ obv := hob ▸ tss_letK v h h1 h2 q
end
end DT
end
section
set_option maxHeartbeats 4000000
namespace DT
open PySem PySem.Spec PyProof.Rows L2 He He5
/-! ## what the top has written: facts, defs, tables of defs, and what else is asked -/
abbrev AlZ : Type := (AlD × List (Option (List (Option (Str × Int))))) × Bool
def obsZ (fa : List Fa) (fn : List DefA) (ts : List Tab) (ex : PySem.W.Frag → Bool) (K : PySem.W.Frag) : AlZ := ((obsA fa fn K, ts.map fun t => dicW K (t.1 K)), ex K)
def valZ (fn : List DefA) (ts : List Tab) (w : World) : AlZ := ((valA fn, ts.map fun t => some (keysIn w.params t.2)), true)
def obsZG (n : Nat) (fa : List Fa) (fn : List DefA) (ts : List Tab) (ex : PySem.W.Frag → Bool) (g : Addr → Option Obj) : AlZ := obsZ fa fn ts ex (frG g (asA g n))
def SaysZ (fa : List Fa) (fn : List DefA) (ts : List Tab) (ex : PySem.W.Frag → Bool) (w : World) (K : PySem.W.Frag) : Prop := obsZ fa fn ts ex K = valZ fn ts w
def hookZ (n : Nat) (fa : List Fa) (fn : List DefA) (ts : List Tab) (ex : PySem.W.Frag → Bool) : PySem.W.Hook where
  α := AlZ
  obs := fun s => obsZG n fa fn ts ex s.heap.get?
  val := fun w => valZ fn ts w
  says := fun w h => ∃ K : PySem.W.Frag, K.In h ∧ SaysZ fa fn ts ex w K
  of := fun _ _ e => ⟨_, frG_in, e⟩
  keeps := fun _ _ _ ⟨K, hK, c⟩ k => ⟨K, PySem.W.Frag.In.keeps hK k, c⟩
theorem obsZG_eq {n : Nat} {fa : List Fa} {fn : List DefA} {ts : List Tab} {ex : PySem.W.Frag → Bool} {g : Addr → Option Obj} {s : Shared} (h : ∀ a, g a = s.heap.get? a) : obsZG n fa fn ts ex g = (hookZ n fa fn ts ex).obs s := by
  have e : g = s.heap.get? := funext h
  rw [e] <;> rfl
section
variable {fa : List Fa} {fn : List DefA} {ts : List Tab} {ex : PySem.W.Frag → Bool} {w : World} {K : PySem.W.Frag}
theorem SaysZ.a (c : SaysZ fa fn ts ex w K) : SaysA fa fn K := congrArg (fun z : AlZ => z.1.1) c
theorem SaysZ.more (c : SaysZ fa fn ts ex w K) : ex K = true := congrArg (fun z : AlZ => z.2) c
theorem SaysZ.tab (c : SaysZ fa fn ts ex w K) (i : Nat) {t : Tab} (h : ts[i]? = some t := by rfl) : ∃ es n, KDict K w (t.1 K) es n := by
  have e : ts.map (fun t => dicW K (t.1 K)) = ts.map fun t => some (keysIn w.params t.2) := congrArg (fun z : AlZ => z.1.2) c
  have e2 := congrArg (fun l => l[i]?) e
  have e2 : (ts.map fun t => dicW K (t.1 K))[i]? = (ts.map fun t => some (keysIn w.params t.2))[i]? := e2
  rw [List.getElem?_map, List.getElem?_map, h] at e2
  exact dicW_ok (Option.some.inj e2)
end
/-! ### classes -/
open PySem.W in
def insB (K : PySem.W.Frag) (C : Addr) : Bool := decide (findIn K (.ref C) "__class__" = some (some (.builtin "object.__class__"))) && (decide (specialIn K (.builtin "object.__class__") "__get__" = some (some (.builtin "getset_descriptor.__get__"))) && (decide (takesIn K (.builtin "object.__class__") = some true) && (decide (mroIn K C (.type "object") = some true) && decide (kitOne K (.ref C) (.ref C) = some true))))
theorem insB_ok {K : PySem.W.Frag} {C : Addr} (c : Cls K C) (h : insB K C = true) : C8.InsC K C := by
  unfold insB at h
  simp only [Bool.and_eq_true, decide_eq_true_eq] at h
  exact ⟨c, h.1, h.2.1, h.2.2.1, h.2.2.2.1, h.2.2.2.2⟩
open PySem.W in
def creadB (K : PySem.W.Frag) (C : Addr) : Bool := readsIn K C (.type "type") && decide (specialIn K (.ref C) "__getattribute__" = some (some (.builtin "type.__getattribute__")))
theorem creadB_ok {K : PySem.W.Frag} {C : Addr} (h : creadB K C = true) : ClX.CRead K C (.type "type") := by
  unfold creadB at h
  simp only [Bool.and_eq_true, decide_eq_true_eq] at h
  exact ⟨h.1, h.2⟩
open PySem.W in
def cmB (K : PySem.W.Frag) (C : Addr) (m : Str) : Bool := wrapB K C "classmethod" "classmethod.__get__" m && fnIn K (wf K C "classmethod" m)
theorem cmB_ok {K : PySem.W.Frag} {C : Addr} {m : Str} (h : cmB K C m = true) : ClX.CMet K C (.type "type") m (ma K C m) (wf K C "classmethod" m) := by
  unfold cmB at h
  simp only [Bool.and_eq_true] at h
  exact cmet_of h.1 h.2
open PySem.W in
def propB (K : PySem.W.Frag) (C : Addr) (m : Str) : Bool := decide (findIn K (.ref C) m = some (some (.ref (ma K C m)))) && (decide (specialIn K (.ref (ma K C m)) "__get__" = some (some (.builtin "property.__get__"))) && (decide (takesIn K (.ref (ma K C m)) = some true) && (match recIn K (ma K C m) "property" with
  | some (.ref _ :: _) => true
  | _ => false)))
theorem propB_ok {K : PySem.W.Frag} {C : Addr} {m : Str} (h : propB K C m = true) : PropOf K C m (ma K C m) (wf K C "property" m) := by
  unfold propB at h
  simp only [Bool.and_eq_true, decide_eq_true_eq] at h
  refine ⟨h.1, h.2.1, h.2.2.1, ?_⟩
  have h3 := h.2.2.2
  unfold wf
  split at h3
  · next f rest e => exact ⟨rest, by rw [e]⟩
  · cases h3
open PySem.W in
def eqB (K : PySem.W.Frag) (C : Addr) : Bool := decide (findIn K (.ref C) "__eq__" = some (some (.ref (ma K C "__eq__")))) && (isFn K (.ref (ma K C "__eq__")) && notFirst K C (.ref C))
theorem eqB_ok {K : PySem.W.Frag} {C : Addr} (h : eqB K C = true) : PySem.W.findIn K (.ref C) "__eq__" = some (some (.ref (ma K C "__eq__"))) ∧ PySem.W.isFn K (.ref (ma K C "__eq__")) = true ∧ PySem.W.notFirst K C (.ref C) = true := by
  unfold eqB at h
  simp only [Bool.and_eq_true, decide_eq_true_eq] at h
  exact ⟨h.1, h.2.1, h.2.2⟩
open PySem.W in
def neB (K : PySem.W.Frag) (C : Addr) : Bool := decide (findIn K (.ref C) "__ne__" = some (some (.builtin "object.__ne__"))) && decide (mroIn K C (.type "object") = some true)
theorem neB_ok {K : PySem.W.Frag} {C : Addr} (h : neB K C = true) : PySem.W.findIn K (.ref C) "__ne__" = some (some (.builtin "object.__ne__")) ∧ PySem.W.mroIn K C (.type "object") = some true := by
  unfold neB at h
  simp only [Bool.and_eq_true, decide_eq_true_eq] at h
  exact h
open PySem.W in
def tabB (K : PySem.W.Frag) (x : Str) (ks : List (Str × Str)) : Bool := ks.all fun q => decide (nsIn K (ga K x) q.1 = some (some (.ref (ga K q.2))))
theorem tabB_ok {K : PySem.W.Frag} {x : Str} {ks : List (Str × Str)} (h : tabB K x ks = true) {z y : Str} (m : (z, y) ∈ ks) : PySem.W.nsIn K (ga K x) z = some (some (.ref (ga K y))) := by
  have := List.all_eq_true.mp h (z, y) m
  exact of_decide_eq_true this
/-! ### defs with defaults -/
section
variable {P : Program} {w : World} {K : PySem.W.Frag} {mg : Str → Option Value} {base : Heap} {x qual : Str} {st : Stmt} {f C : Addr} {fd : FuncData} {N ps : List Str} {k n : Nat} {ι : Type} {dvs : List V} {kws : List (Str × V)}
theorem fn_FD {t : WS} (F : FunD K x qual (defArgs st) (defBody st) (defScope st) dvs kws f fd) (S : FnScope N ps (defScope st)) (hn : ps.length ≤ N.length)
    (hb : ∀ cdv A outer s H E (Fr : Fm), Room k (A.deeper (envOfC qual (defScope st) s.heap.objs.size f cdv)) → Fr.io = [] → DSs (bcx P w K mg base N qual (defScope st) f cdv A outer s H E) Fr (defBody st) t) :
    FnOk P w K mg base CX0 (k + 1) f fd ps (spF K ps.length (tfOf N t)) := by
  refine F.ok S (fun vs H Q E h => h.1) (fun cdv A outer s H vs Q E hr h => ?_)
  obtain ⟨Fr, e, q⟩ := body_F hn h
  exact ⟨_, PSs.nox (hb cdv A outer s H E Fr hr e), q⟩
theorem fn_TD {args : ι → List D} {okk : ι → Prop} {res : ι → D} (F : FunD K x qual (defArgs st) (defBody st) (defScope st) dvs kws f fd) (S : FnScope N ps (defScope st)) (hn : ps.length ≤ N.length)
    (hb : ∀ i, okk i → At P w K mg base N qual st f k (fun Fr => Fr.io = []) fun X Fr => TSs X Fr (defBody st) (startD N (args i)) (.rt (res i))) : FnOk P w K mg base CX0 (k + 1) f fd ps (spF K ps.length (TFi args okk res)) :=
  (fn_FD (t := fun E δ0 => ∃ i, okk i ∧ δ0 = startD N (args i) ∧ (Oc.rt (res i)).sat E) F S hn fun cdv A outer s H E Fr hr hio =>
    ⟨fun pins s' σ H' Dd I ⟨Hf, δ0, E', R, ⟨i, ho, e, h⟩, m⟩ => (hb i ho cdv A outer s H E Fr hr hio).run pins s' σ H' Dd I ⟨Hf, δ0, E', R, ⟨e, h⟩, m⟩⟩).imp
    fun vs H Q E ⟨hl, Hf, ds, P, sm, r, ⟨i, ho, e, p⟩, z⟩ => ⟨hl, Hf, ds, P, sm, r, ⟨i, ho, by rw [e], fun _ => p⟩, z⟩
theorem fn_PD {args : ι → List D} {okk : ι → Prop} {fin : ι → List S} (F : FunD K x qual (defArgs st) (defBody st) (defScope st) dvs kws f fd) (S : FnScope N ps (defScope st)) (hn : ps.length ≤ N.length)
    (hb : ∀ i, okk i → At P w K mg base N qual st f k (fun Fr => Fr.io = []) fun X Fr => TSs X Fr (defBody st) (startD N (args i)) (.nx (fin i))) : FnOk P w K mg base CX0 (k + 1) f fd ps (spF K ps.length (TFi args okk fun _ => .non)) :=
  (fn_FD (t := fun E δ0 => ∃ i, okk i ∧ δ0 = startD N (args i) ∧ (Oc.nx (fin i)).sat E) F S hn fun cdv A outer s H E Fr hr hio =>
    ⟨fun pins s' σ H' Dd I ⟨Hf, δ0, E', R, ⟨i, ho, e, h⟩, m⟩ => (hb i ho cdv A outer s H E Fr hr hio).run pins s' σ H' Dd I ⟨Hf, δ0, E', R, ⟨e, h⟩, m⟩⟩).imp
    fun vs H Q E ⟨hl, Hf, ds, P, sm, r, ⟨i, ho, e, p⟩, z⟩ => ⟨hl, Hf, ds, P, sm, r, ⟨i, ho, by rw [e], p⟩, z⟩
theorem CaA.mono {j : Nat} {n : Nat} {T : TF} (c : CaA P w K mg base k f n T) (h : k ≤ j) : CaA P w K mg base j f n T := by
  obtain ⟨fd, ps, F, kp, b⟩ := c.ex
  exact ⟨fd, ps, F.mono h, kp, b⟩
theorem kbn_all {x qual : Str} {params : Arguments} {body : List Stmt} {scope : Scope} {ps ks : List Str} {i : Nat} (F : FunD K x qual params body scope [] kws f fd)
    (h : ∀ (kV doc pm : Value) (an : Option Addr) (cdv ct : Value) (us ws : List Value), us.length = i → ws.length = ks.length → bindArgs (PySem.W.fnOf x qual params body scope .none kV doc pm an cdv ct) ⟨us, ks.zip ws⟩ = pure (ps.zip (us ++ ws))) : KBn K fd ps i ks (fun us ws => us ++ ws) (fun vs zs => vs ++ zs) := by
  obtain ⟨oc, od, dV, kV, doc, pm, an, cdv, ct, osl, rfl, lk, hcd, hD, hK⟩ := F.ex
  rcases hD with ⟨_, rfl⟩ | ⟨e, _⟩
  · exact ⟨fun s us ws X l1 l2 => .of_eq (h kV doc pm an cdv ct us ws l1 l2), fun r1 r2 => r1.append r2⟩
  · exact absurd rfl e
end
theorem fnR_of {P : Program} {w : World} {K : PySem.W.Frag} {mg : Str → Option Value} {base : Heap} {k : Nat} {f : Addr} {fd : FuncData} {ps : List Str} {sp : Sp} (F : FnOk P w K mg base CX0 k f fd ps sp) (b : Binds K fd ps []) : FnR P w K mg base CX0 k f sp :=
  (F.raw b .nil).imp fun vs H Q E h => by rw [List.append_nil]; exact h
end DT
end
section
set_option maxHeartbeats 4000000
namespace NB
open PySem PySem.Spec PyProof.Rows L2 DT
def top (i : Nat) : Stmt := PySem.Challenge.pw_newsbooks_k44_two_levels_and_sinks.main.body.getD i (.Pass ⟨0, 0, 0, 0⟩)
structure Rank where
  cells : List (List Int)
  levels : List Int
  worlds : Int
deriving DecidableEq, Inhabited
theorem nf_Rank_cells_levels : ¬ ("cells" : Str) = "levels" := by decide +kernel
theorem nf_Rank_cells_worlds : ¬ ("cells" : Str) = "worlds" := by decide +kernel
theorem nf_Rank_levels_cells : ¬ ("levels" : Str) = "cells" := by decide +kernel
theorem nf_Rank_levels_worlds : ¬ ("levels" : Str) = "worlds" := by decide +kernel
theorem nf_Rank_worlds_cells : ¬ ("worlds" : Str) = "cells" := by decide +kernel
theorem nf_Rank_worlds_levels : ¬ ("worlds" : Str) = "levels" := by decide +kernel
abbrev fs_Rank (r : Rank) : List (Str × D) := [("cells", (eT (eT eI)) r.cells), ("levels", (eT eI) r.levels), ("worlds", eI r.worlds)]
abbrev e_Rank (C : Addr) (r : Rank) : D := .ins C (fs_Rank r)
theorem lk_Rank_cells (r : Rank) : (fs_Rank r).lookup ("cells" : Str) = some ((eT (eT eI)) r.cells) := look_hd
theorem lk_Rank_levels (r : Rank) : (fs_Rank r).lookup ("levels" : Str) = some ((eT eI) r.levels) := (look_tl nf_Rank_cells_levels look_hd)
theorem lk_Rank_worlds (r : Rank) : (fs_Rank r).lookup ("worlds" : Str) = some (eI r.worlds) := (look_tl nf_Rank_cells_worlds (look_tl nf_Rank_levels_worlds look_hd))
def tk_TURNS : List Str := ["lead", "push", "lean", "level", "sink", "ask"]
theorem kn_TURNS (a : Str → Addr) {z : Str} (h : z ∈ tk_TURNS) : (z, a z) ∈ tk_TURNS.map fun z => (z, a z) := List.mem_map.mpr ⟨z, h, rfl⟩
theorem nm_Rank_cells_behind_best : ¬ ("cells" : Str) = "behind_best" := by decide +kernel
theorem nm_Rank_levels_behind_best : ¬ ("levels" : Str) = "behind_best" := by decide +kernel
theorem nm_Rank_worlds_behind_best : ¬ ("worlds" : Str) = "behind_best" := by decide +kernel
theorem lk_Rank_behind_best (r : Rank) : (fs_Rank r).lookup ("behind_best" : Str) = none := (look_tl nm_Rank_cells_behind_best (look_tl nm_Rank_levels_behind_best (look_tl nm_Rank_worlds_behind_best rfl)))
theorem nm_Rank_cells_best : ¬ ("cells" : Str) = "best" := by decide +kernel
theorem nm_Rank_levels_best : ¬ ("levels" : Str) = "best" := by decide +kernel
theorem nm_Rank_worlds_best : ¬ ("worlds" : Str) = "best" := by decide +kernel
theorem lk_Rank_best (r : Rank) : (fs_Rank r).lookup ("best" : Str) = none := (look_tl nm_Rank_cells_best (look_tl nm_Rank_levels_best (look_tl nm_Rank_worlds_best rfl)))
/-! ### _law_draws -/
def l_draws (script : List Int) : (List Int) :=
  let draws_here : List Int := []
  let draws_here1 : List Int := ((rng 0 (pmin (script.length : Int) 63)).foldl (fun (draws_here1 : List Int) (place : Int) => let cell : Int := (pyIx script place)
  let cell1 : Int := (if (decide (cell < 0)) = true then (let cell2 : Int := (7 - cell)
  cell2) else (cell))
  let r : (List Int) × Int := (if (decide ((10 ^ (18 : Int).toNat) ≤ cell1)) = true then (let r1 : (List Int) × Int := ((rng 0 50).foldl (fun (r1 : (List Int) × Int) (turn_here : Int) => let r2 : (List Int) × Int := (if (decide (0 < r1.2)) = true then (let draws_here2 : List Int := (r1.1 ++ [(r1.2 % 30)])
  let cell3 : Int := (r1.2 / 30)
  (draws_here2, cell3)) else ((r1.1, r1.2)))
  (r2.1, r2.2)) (draws_here1, cell1))
  (r1.1, r1.2)) else (let seed : Int := ((((cell1 * 48271) + (place * 6007)) + 17) % 2147483629)
  let r3 : Int × (List Int) := ((rng 0 6).foldl (fun (r3 : Int × (List Int)) (turn_here1 : Int) => let seed1 : Int := (((((r3.1 * r3.1) + (turn_here1 * 90001)) + (place * 43)) + 3) % 2147483587)
  let draws_here3 : List Int := (r3.2 ++ [seed1])
  (seed1, draws_here3)) (seed, draws_here1))
  (r3.2, cell1)))
  r.1) draws_here)
  draws_here1.reverse
def ok_l_draws (script : List Int) : Prop :=
  (Bd (fun (draws_here : List Int) => (-(2 ^ 62) ≤ (pmin (script.length : Int) 63) ∧ (pmin (script.length : Int) 63) ≤ 16777216) ∧ (OkFold (fun (draws_here1 : List Int) (place : Int) => let cell : Int := (pyIx script place)
  let cell1 : Int := (if (decide (cell < 0)) = true then (let cell2 : Int := (7 - cell)
  cell2) else (cell))
  let r : (List Int) × Int := (if (decide ((10 ^ (18 : Int).toNat) ≤ cell1)) = true then (let r1 : (List Int) × Int := ((rng 0 50).foldl (fun (r1 : (List Int) × Int) (turn_here : Int) => let r2 : (List Int) × Int := (if (decide (0 < r1.2)) = true then (let draws_here2 : List Int := (r1.1 ++ [(r1.2 % 30)])
  let cell3 : Int := (r1.2 / 30)
  (draws_here2, cell3)) else ((r1.1, r1.2)))
  (r2.1, r2.2)) (draws_here1, cell1))
  (r1.1, r1.2)) else (let seed : Int := ((((cell1 * 48271) + (place * 6007)) + 17) % 2147483629)
  let r3 : Int × (List Int) := ((rng 0 6).foldl (fun (r3 : Int × (List Int)) (turn_here1 : Int) => let seed1 : Int := (((((r3.1 * r3.1) + (turn_here1 * 90001)) + (place * 43)) + 3) % 2147483587)
  let draws_here3 : List Int := (r3.2 ++ [seed1])
  (seed1, draws_here3)) (seed, draws_here1))
  (r3.2, cell1)))
  r.1) (fun (draws_here1 : List Int) (place : Int) => (IxOk script place) ∧ (Bd (fun (cell : Int) => (Bd (fun (cell1 : Int) => ((decide ((10 ^ (18 : Int).toNat) ≤ cell1)) = true → (OkFold (fun (r1 : (List Int) × Int) (turn_here : Int) => let r2 : (List Int) × Int := (if (decide (0 < r1.2)) = true then (let draws_here2 : List Int := (r1.1 ++ [(r1.2 % 30)])
  let cell3 : Int := (r1.2 / 30)
  (draws_here2, cell3)) else ((r1.1, r1.2)))
  (r2.1, r2.2)) (fun (r1 : (List Int) × Int) (turn_here : Int) => ((decide (0 < r1.2)) = true → (r1.1.length < sizeLine))) (rng 0 50) (draws_here1, cell1))) ∧ ((decide ((10 ^ (18 : Int).toNat) ≤ cell1)) = false → (Bd (fun (seed : Int) => (OkFold (fun (r3 : Int × (List Int)) (turn_here1 : Int) => let seed1 : Int := (((((r3.1 * r3.1) + (turn_here1 * 90001)) + (place * 43)) + 3) % 2147483587)
  let draws_here3 : List Int := (r3.2 ++ [seed1])
  (seed1, draws_here3)) (fun (r3 : Int × (List Int)) (turn_here1 : Int) => (CMul r3.1 r3.1) ∧ (Bd (fun (seed1 : Int) => (r3.2.length < sizeLine)) (((((r3.1 * r3.1) + (turn_here1 * 90001)) + (place * 43)) + 3) % 2147483587))) (rng 0 6) (seed, draws_here1))) ((((cell1 * 48271) + (place * 6007)) + 17) % 2147483629)))) (if (decide (cell < 0)) = true then (let cell2 : Int := (7 - cell)
  cell2) else (cell)))) (pyIx script place))) (rng 0 (pmin (script.length : Int) 63)) draws_here)) [])
/-! ### _law_take -/
def l_take (draws_here : List Int) (bound : Int) : (Int × (List Int)) :=
  if (decide ((draws_here.length : Int) = 0)) = true then (0, draws_here) else
  (((draws_here.getLastD default) % bound), draws_here.dropLast)
def ok_l_take (draws_here : List Int) (bound : Int) : Prop :=
  ((decide ((draws_here.length : Int) = 0)) = false → (draws_here ≠ []) ∧ (0 < bound))
/-! ### _law_dense -/
def l_dense (numbers : List Int) : (List Int) :=
  let unlike : List Int := []
  let unlike1 : List Int := ((srt numbers).foldl (fun (unlike1 : List Int) (number : Int) => let unlike2 : List Int := (if (decide ((unlike1.length : Int) = 0) || (!decide ((pyIx unlike1 (-1)) = number))) = true then (let unlike3 : List Int := (unlike1 ++ [number])
  unlike3) else (unlike1))
  unlike2) unlike)
  (numbers.map (fun (number1 : Int) => (idxI unlike1 number1)))
def ok_l_dense (numbers : List Int) : Prop :=
  (Bd (fun (unlike : List Int) => (OkFold (fun (unlike1 : List Int) (number : Int) => let unlike2 : List Int := (if (decide ((unlike1.length : Int) = 0) || (!decide ((pyIx unlike1 (-1)) = number))) = true then (let unlike3 : List Int := (unlike1 ++ [number])
  unlike3) else (unlike1))
  unlike2) (fun (unlike1 : List Int) (number : Int) => ((decide ((unlike1.length : Int) = 0)) = false → (IxOk unlike1 (-1))) ∧ ((decide ((unlike1.length : Int) = 0) || (!decide ((pyIx unlike1 (-1)) = number))) = true → (unlike1.length < sizeLine))) (srt numbers) unlike) ∧ (Bd (fun (unlike1 : List Int) => (∀ number1 ∈ numbers, (number1 ∈ unlike1))) ((srt numbers).foldl (fun (unlike1 : List Int) (number : Int) => let unlike2 : List Int := (if (decide ((unlike1.length : Int) = 0) || (!decide ((pyIx unlike1 (-1)) = number))) = true then (let unlike3 : List Int := (unlike1 ++ [number])
  unlike3) else (unlike1))
  unlike2) unlike))) [])
/-! ### _law_rank -/
def l_rank (draws_here : List Int) (worlds : Int) : ((List Int) × (List Int)) :=
  ((l_dense ((compS (turnS (fun (r : (List Int)) (world : Int) => true) (fun (r : (List Int)) (world : Int) => (r)) (fun (r : (List Int)) (world : Int) => (l_take r worlds).1) (fun (r : (List Int)) (world : Int) => ((l_take r worlds).2))) (rng 0 worlds) (draws_here)).1)), (compS (turnS (fun (r : (List Int)) (world : Int) => true) (fun (r : (List Int)) (world : Int) => (r)) (fun (r : (List Int)) (world : Int) => (l_take r worlds).1) (fun (r : (List Int)) (world : Int) => ((l_take r worlds).2))) (rng 0 worlds) (draws_here)).2)
def ok_l_rank (draws_here : List Int) (worlds : Int) : Prop :=
  (-(2 ^ 62) ≤ worlds ∧ worlds ≤ 16777216) ∧ (OkComp (turnS (fun (r : (List Int)) (world : Int) => true) (fun (r : (List Int)) (world : Int) => (r)) (fun (r : (List Int)) (world : Int) => (l_take r worlds).1) (fun (r : (List Int)) (world : Int) => ((l_take r worlds).2))) (fun (r : (List Int)) (world : Int) => (true = true → (ok_l_take r worlds))) (rng 0 worlds) (draws_here)) ∧ (ok_l_dense ((compS (turnS (fun (r : (List Int)) (world : Int) => true) (fun (r : (List Int)) (world : Int) => (r)) (fun (r : (List Int)) (world : Int) => (l_take r worlds).1) (fun (r : (List Int)) (world : Int) => ((l_take r worlds).2))) (rng 0 worlds) (draws_here)).1))
/-! ### _law_held -/
def l_held (levels : List Int) : (List Int) :=
  ((rng 0 (levels.length : Int)).filter (fun (world : Int) => decide ((pyIx levels world) = 0)))
def ok_l_held (levels : List Int) : Prop :=
  (-(2 ^ 62) ≤ (levels.length : Int) ∧ (levels.length : Int) ≤ 16777216) ∧ (∀ world ∈ (rng 0 (levels.length : Int)), (IxOk levels world))
/-! ### _law_rest -/
def l_rest (lot_here : List Int) (worlds : Int) : (List Int) :=
  ((rng 0 worlds).filter (fun (world : Int) => (!decide (world ∈ lot_here))))
def ok_l_rest (lot_here : List Int) (worlds : Int) : Prop :=
  (-(2 ^ 62) ≤ worlds ∧ worlds ≤ 16777216)
/-! ### _law_lot -/
def l_lot (draws_here : List Int) (worlds : Int) : ((List Int) × (List Int)) :=
  ((compS (turnS (fun (r : (List Int)) (world : Int) => decide ((l_take r 2).1 = 1)) (fun (r : (List Int)) (world : Int) => ((l_take r 2).2)) (fun (r : (List Int)) (world : Int) => world) (fun (r : (List Int)) (world : Int) => ((l_take r 2).2))) (rng 0 worlds) (draws_here)).1, (compS (turnS (fun (r : (List Int)) (world : Int) => decide ((l_take r 2).1 = 1)) (fun (r : (List Int)) (world : Int) => ((l_take r 2).2)) (fun (r : (List Int)) (world : Int) => world) (fun (r : (List Int)) (world : Int) => ((l_take r 2).2))) (rng 0 worlds) (draws_here)).2)
def ok_l_lot (draws_here : List Int) (worlds : Int) : Prop :=
  (-(2 ^ 62) ≤ worlds ∧ worlds ≤ 16777216) ∧ (OkComp (turnS (fun (r : (List Int)) (world : Int) => decide ((l_take r 2).1 = 1)) (fun (r : (List Int)) (world : Int) => ((l_take r 2).2)) (fun (r : (List Int)) (world : Int) => world) (fun (r : (List Int)) (world : Int) => ((l_take r 2).2))) (fun (r : (List Int)) (world : Int) => (ok_l_take r 2)) (rng 0 worlds) (draws_here))
/-! ### _law_plus -/
def l_plus (one : List Int) (other : List Int) : (List Int) :=
  (srt (one ++ (other.filter (fun (world : Int) => (!decide (world ∈ one))))))
def ok_l_plus (one : List Int) (other : List Int) : Prop :=
  (one.length + (other.filter (fun (world : Int) => (!decide (world ∈ one)))).length ≤ sizeLine)
/-! ### _law_around -/
def l_around (draws_here : List Int) (levels : List Int) : ((List Int) × (List Int)) :=
  let worlds : Int := (levels.length : Int)
  let held_here : List Int := (l_held levels)
  let rest_here : List Int := (l_rest held_here worlds)
  let v : Int × (List Int) := ((pyIx rest_here ((l_take draws_here (rest_here.length : Int)).1)), (l_take draws_here (rest_here.length : Int)).2)
  let v1 : (List Int) × (List Int) := ((((l_lot v.2 worlds).1).filter (fun (world : Int) => (!decide (world = v.1)))), (l_lot v.2 worlds).2)
  ((l_plus held_here v1.1), v1.2)
def ok_l_around (draws_here : List Int) (levels : List Int) : Prop :=
  (Bd (fun (worlds : Int) => (ok_l_held levels) ∧ (Bd (fun (held_here : List Int) => (ok_l_rest held_here worlds) ∧ (Bd (fun (rest_here : List Int) => (ok_l_take draws_here (rest_here.length : Int)) ∧ (IxOk rest_here ((l_take draws_here (rest_here.length : Int)).1)) ∧ (Bd (fun (v : Int × (List Int)) => (ok_l_lot v.2 worlds) ∧ (Bd (fun (v1 : (List Int) × (List Int)) => (ok_l_plus held_here v1.1)) ((((l_lot v.2 worlds).1).filter (fun (world : Int) => (!decide (world = v.1)))), (l_lot v.2 worlds).2))) ((pyIx rest_here ((l_take draws_here (rest_here.length : Int)).1)), (l_take draws_here (rest_here.length : Int)).2))) (l_rest held_here worlds))) (l_held levels))) (levels.length : Int))
/-! ### is_row -/
def f_is_row (value : List Int) : Bool :=
  true
/-! ### is_integer -/
def f_is_integer (value : Int) : Bool :=
  (true && (!false))
/-! ### cells_by -/
def f_cells_by (numbers : List Int) : (List (List Int)) :=
  let steps : List Int := (sset numbers)
  (steps.map (fun (step : Int) => (((enm 0 numbers).filter (fun (p : Int × Int) => decide (p.2 = step))).map (fun (p : Int × Int) => p.1))))
def ok_f_cells_by (numbers : List Int) : Prop :=
  (numbers.length < 64)
/-! ### is_row -/
def f_is_row_2 (value : List (List Int)) : Bool :=
  true
/-! ### is_within -/
def f_is_within (value : Int) (low : Int) (high : Int) : Bool :=
  ((f_is_integer value) && (decide (low ≤ value) && decide (value ≤ high)))
/-! ### cells_fault -/
def f_cells_fault (cells : List (List Int)) : (Option Int) :=
  if ((!(f_is_row_2 cells)) || decide ((cells.length : Int) = 0)) = true then (some (-1)) else
  let seen : List Int := []
  (forF (fun (seen1 : List Int) (p : Int × (List Int)) => (if ((!(f_is_row p.2)) || decide ((p.2.length : Int) = 0)) = true then .ret (some p.1) else
  (forF (fun (seen2 : List Int) (entry : Int) => (if ((!(f_is_within entry 0 (12 - 1))) || decide (entry ∈ seen2)) = true then .ret (some p.1) else
  let seen3 : List Int := (seen2 ++ [entry])
  .next seen3 : Fl (List Int) (Option Int))) p.2 seen1).fl fun (seen2 : List Int) =>
  .next seen2 : Fl (List Int) (Option Int))) (enm 0 cells) seen).el fun (seen1 : List Int) =>
  if (decide ((seen1.length : Int) ≤ (maxL seen1))) = true then (some (cells.length : Int)) else
  none
def ok_f_cells_fault (cells : List (List Int)) : Prop :=
  (((!(f_is_row_2 cells)) || decide ((cells.length : Int) = 0)) = false → (Bd (fun (seen : List Int) => (OkFor (fun (seen1 : List Int) (p : Int × (List Int)) => (if ((!(f_is_row p.2)) || decide ((p.2.length : Int) = 0)) = true then .ret (some p.1) else
  (forF (fun (seen2 : List Int) (entry : Int) => (if ((!(f_is_within entry 0 (12 - 1))) || decide (entry ∈ seen2)) = true then .ret (some p.1) else
  let seen3 : List Int := (seen2 ++ [entry])
  .next seen3 : Fl (List Int) (Option Int))) p.2 seen1).fl fun (seen2 : List Int) =>
  .next seen2 : Fl (List Int) (Option Int))) (fun (seen1 : List Int) (p : Int × (List Int)) => (((!(f_is_row p.2)) || decide ((p.2.length : Int) = 0)) = false → (OkFor (fun (seen2 : List Int) (entry : Int) => (if ((!(f_is_within entry 0 (12 - 1))) || decide (entry ∈ seen2)) = true then .ret (some p.1) else
  let seen3 : List Int := (seen2 ++ [entry])
  .next seen3 : Fl (List Int) (Option Int))) (fun (seen2 : List Int) (entry : Int) => (((!(f_is_within entry 0 (12 - 1))) || decide (entry ∈ seen2)) = false → (seen2.length < sizeLine))) p.2 seen1))) (enm 0 cells) seen) ∧ (BdR (fun (seen1 : List Int) => (seen1 ≠ [])) (forF (fun (seen1 : List Int) (p : Int × (List Int)) => (if ((!(f_is_row p.2)) || decide ((p.2.length : Int) = 0)) = true then .ret (some p.1) else
  (forF (fun (seen2 : List Int) (entry : Int) => (if ((!(f_is_within entry 0 (12 - 1))) || decide (entry ∈ seen2)) = true then .ret (some p.1) else
  let seen3 : List Int := (seen2 ++ [entry])
  .next seen3 : Fl (List Int) (Option Int))) p.2 seen1).fl fun (seen2 : List Int) =>
  .next seen2 : Fl (List Int) (Option Int))) (enm 0 cells) seen))) []))
/-! ### levels_of -/
def f_levels_of (cells : List (List Int)) : (List Int) :=
  let levels : List (Int × Int) := (dc2F (fun (p : Int × (List Int)) => p.2) (fun (p : Int × (List Int)) (world : Int) => world) (fun (p : Int × (List Int)) (world : Int) => p.1) (enm 0 cells))
  ((rng 0 (levels.length : Int)).map (fun (world1 : Int) => ((getI levels world1).getD default)))
def ok_f_levels_of (cells : List (List Int)) : Prop :=
  (((enm 0 cells).map fun (p : Int × (List Int)) => p.2.length).sum ≤ sizeLine) ∧ (Bd (fun (levels : List (Int × Int)) => (-(2 ^ 62) ≤ (levels.length : Int) ∧ (levels.length : Int) ≤ 16777216) ∧ (∀ world1 ∈ (rng 0 (levels.length : Int)), ((getI levels world1).isNone = false))) (dc2F (fun (p : Int × (List Int)) => p.2) (fun (p : Int × (List Int)) (world : Int) => world) (fun (p : Int × (List Int)) (world : Int) => p.1) (enm 0 cells)))
/-! ### Rank.__init__ -/
def f_Rank__init__ (cells : List (List Int)) : Rank :=
  let place : Option Int := (f_cells_fault cells)
  let cells1 : List (List Int) := (cells.map (fun (cell : List Int) => (srt cell)))
  let levels : List Int := (f_levels_of cells1)
  let worlds : Int := (levels.length : Int)
  { cells := cells1, levels := levels, worlds := worlds }
def ok_f_Rank__init__ (cells : List (List Int)) : Prop :=
  (ok_f_cells_fault cells) ∧ (Bd (fun (place : Option Int) => ((!place.isNone) = false) ∧ (Bd (fun (cells1 : List (List Int)) => (ok_f_levels_of cells1)) (cells.map (fun (cell : List Int) => (srt cell))))) (f_cells_fault cells))
/-! ### Rank.of_levels -/
def f_Rank_of_levels (numbers : List Int) : Rank :=
  (f_Rank__init__ (f_cells_by numbers))
def ok_f_Rank_of_levels (numbers : List Int) : Prop :=
  (((!(f_is_row numbers)) || (!(decide (1 ≤ (numbers.length : Int)) && decide ((numbers.length : Int) ≤ 12)))) = false) ∧ ((!((numbers.map (fun (number : Int) => (f_is_integer number))).all id)) = false) ∧ (ok_f_cells_by numbers) ∧ (ok_f_Rank__init__ (f_cells_by numbers))
/-! ### _law_best -/
def l_best (levels : List Int) (lot_here : List Int) : (List Int) :=
  let least : Int := (minL (lot_here.map (fun (world : Int) => (pyIx levels world))))
  (lot_here.filter (fun (world1 : Int) => decide ((pyIx levels world1) = least)))
def ok_l_best (levels : List Int) (lot_here : List Int) : Prop :=
  (∀ world ∈ lot_here, (IxOk levels world)) ∧ ((lot_here.map (fun (world : Int) => (pyIx levels world))) ≠ []) ∧ (Bd (fun (least : Int) => (∀ world1 ∈ lot_here, (IxOk levels world1))) (minL (lot_here.map (fun (world : Int) => (pyIx levels world)))))
/-! ### check_worlds -/
def f_check_worlds (worlds : Int) (most : Int) : Unit :=
  ()
def ok_f_check_worlds (worlds : Int) (most : Int) : Prop :=
  ((!(f_is_within worlds 1 most)) = false)
/-! ### is_row -/
def f_is_row_3 (value : List Int) : Bool :=
  true
/-! ### wrong_entry -/
def f_wrong_entry (entries : List Int) (count : Int) : (Option Int) :=
  (forF (fun (r : Unit) (p : Int × Int) => (if ((!(f_is_within p.2 0 (count - 1))) || decide (p.2 ∈ (pyCut entries none (some p.1)))) = true then .ret (some p.1) else
  .next () : Fl Unit (Option Int))) (enm 0 entries) ()).el fun (r : Unit) =>
  none
/-! ### lot_fault -/
def f_lot_fault (lot : List Int) (worlds : Int) : (Option Int) :=
  if (!(f_is_row_3 lot)) = true then (some (-1)) else
  (f_wrong_entry lot worlds)
/-! ### lot_of -/
def f_lot_of (lot : List Int) (worlds : Int) (empty : Bool) : (List Int) :=
  let place : Option Int := (f_lot_fault lot worlds)
  (srt lot)
def ok_f_lot_of (lot : List Int) (worlds : Int) (empty : Bool) : Prop :=
  (ok_f_check_worlds worlds 12) ∧ (Bd (fun (place : Option Int) => ((!place.isNone) = false) ∧ ((decide ((lot.length : Int) = 0) && (!empty)) = false)) (f_lot_fault lot worlds))
/-! ### lot_but_all -/
def f_lot_but_all (lot : List Int) (worlds : Int) : (List Int) :=
  let kept : List Int := (f_lot_of lot worlds true)
  kept
def ok_f_lot_but_all (lot : List Int) (worlds : Int) : Prop :=
  (ok_f_lot_of lot worlds true) ∧ (Bd (fun (kept : List Int) => ((decide ((kept.length : Int) = worlds)) = false)) (f_lot_of lot worlds true))
/-! ### Rank.held -/
def f_Rank_held (self : Rank) : (List Int) :=
  (pyIx self.cells 0)
def ok_f_Rank_held (self : Rank) : Prop :=
  (IxOk self.cells 0)
/-! ### inside -/
def f_inside (one : List Int) (other : List Int) : Bool :=
  ((one.map (fun (world : Int) => decide (world ∈ other))).all id)
/-! ### every -/
def f_every (worlds : Int) : (List Int) :=
  (rng 0 worlds)
def ok_f_every (worlds : Int) : Prop :=
  (ok_f_check_worlds worlds 12) ∧ (0 ≤ worlds ∧ worlds ≤ 1000)
/-! ### minus -/
def f_minus (one : List Int) (other : List Int) : (List Int) :=
  (srt (one.filter (fun (world : Int) => (!decide (world ∈ other)))))
/-! ### rest_of -/
def f_rest_of (lot : List Int) (worlds : Int) : (List Int) :=
  (f_minus (f_every worlds) (f_lot_of lot worlds true))
def ok_f_rest_of (lot : List Int) (worlds : Int) : Prop :=
  (ok_f_every worlds) ∧ (ok_f_lot_of lot worlds true)
/-! ### common -/
def f_common (one : List Int) (other : List Int) : (List Int) :=
  (srt (one.filter (fun (world : Int) => decide (world ∈ other))))
/-! ### Rank.best -/
def f_Rank_best (self : Rank) (lot : List Int) : (List Int) :=
  let asked : List Int := (f_lot_of lot self.worlds false)
  let least : Int := (minL (asked.map (fun (world : Int) => (pyIx self.levels world))))
  (f_common asked (pyIx self.cells least))
def ok_f_Rank_best (self : Rank) (lot : List Int) : Prop :=
  (ok_f_lot_of lot self.worlds false) ∧ (Bd (fun (asked : List Int) => (∀ world ∈ asked, (IxOk self.levels world)) ∧ ((asked.map (fun (world : Int) => (pyIx self.levels world))) ≠ []) ∧ (Bd (fun (least : Int) => (IxOk self.cells least)) (minL (asked.map (fun (world : Int) => (pyIx self.levels world)))))) (f_lot_of lot self.worlds false))
/-! ### plus -/
def f_plus (one : List Int) (other : List Int) : (List Int) :=
  (sset (one ++ other))
def ok_f_plus (one : List Int) (other : List Int) : Prop :=
  (one.length + other.length ≤ sizeLine) ∧ ((one ++ other).length < 64)
/-! ### parts_out -/
def f_parts_out (cells : List (List Int)) (lot : List Int) : (List (List Int)) :=
  ((cells.map (fun (cell : List Int) => (f_minus cell lot))).filter (fun (part : List Int) => (!part.isEmpty)))
/-! ### is_row -/
def f_is_row_4 (value : List (List Int)) : Bool :=
  true
/-! ### cells_fault -/
def f_cells_fault_2 (cells : List (List Int)) : (Option Int) :=
  if ((!(f_is_row_4 cells)) || decide ((cells.length : Int) = 0)) = true then (some (-1)) else
  let seen : List Int := []
  (forF (fun (seen1 : List Int) (p : Int × (List Int)) => (if ((!(f_is_row_3 p.2)) || decide ((p.2.length : Int) = 0)) = true then .ret (some p.1) else
  (forF (fun (seen2 : List Int) (entry : Int) => (if ((!(f_is_within entry 0 (12 - 1))) || decide (entry ∈ seen2)) = true then .ret (some p.1) else
  let seen3 : List Int := (seen2 ++ [entry])
  .next seen3 : Fl (List Int) (Option Int))) p.2 seen1).fl fun (seen2 : List Int) =>
  .next seen2 : Fl (List Int) (Option Int))) (enm 0 cells) seen).el fun (seen1 : List Int) =>
  if (decide ((seen1.length : Int) ≤ (maxL seen1))) = true then (some (cells.length : Int)) else
  none
def ok_f_cells_fault_2 (cells : List (List Int)) : Prop :=
  (((!(f_is_row_4 cells)) || decide ((cells.length : Int) = 0)) = false → (Bd (fun (seen : List Int) => (OkFor (fun (seen1 : List Int) (p : Int × (List Int)) => (if ((!(f_is_row_3 p.2)) || decide ((p.2.length : Int) = 0)) = true then .ret (some p.1) else
  (forF (fun (seen2 : List Int) (entry : Int) => (if ((!(f_is_within entry 0 (12 - 1))) || decide (entry ∈ seen2)) = true then .ret (some p.1) else
  let seen3 : List Int := (seen2 ++ [entry])
  .next seen3 : Fl (List Int) (Option Int))) p.2 seen1).fl fun (seen2 : List Int) =>
  .next seen2 : Fl (List Int) (Option Int))) (fun (seen1 : List Int) (p : Int × (List Int)) => (((!(f_is_row_3 p.2)) || decide ((p.2.length : Int) = 0)) = false → (OkFor (fun (seen2 : List Int) (entry : Int) => (if ((!(f_is_within entry 0 (12 - 1))) || decide (entry ∈ seen2)) = true then .ret (some p.1) else
  let seen3 : List Int := (seen2 ++ [entry])
  .next seen3 : Fl (List Int) (Option Int))) (fun (seen2 : List Int) (entry : Int) => (((!(f_is_within entry 0 (12 - 1))) || decide (entry ∈ seen2)) = false → (seen2.length < sizeLine))) p.2 seen1))) (enm 0 cells) seen) ∧ (BdR (fun (seen1 : List Int) => (seen1 ≠ [])) (forF (fun (seen1 : List Int) (p : Int × (List Int)) => (if ((!(f_is_row_3 p.2)) || decide ((p.2.length : Int) = 0)) = true then .ret (some p.1) else
  (forF (fun (seen2 : List Int) (entry : Int) => (if ((!(f_is_within entry 0 (12 - 1))) || decide (entry ∈ seen2)) = true then .ret (some p.1) else
  let seen3 : List Int := (seen2 ++ [entry])
  .next seen3 : Fl (List Int) (Option Int))) p.2 seen1).fl fun (seen2 : List Int) =>
  .next seen2 : Fl (List Int) (Option Int))) (enm 0 cells) seen))) []))
/-! ### Rank.__init__ -/
def f_Rank__init___2 (cells : List (List Int)) : Rank :=
  let place : Option Int := (f_cells_fault_2 cells)
  let cells1 : List (List Int) := (cells.map (fun (cell : List Int) => (srt cell)))
  let levels : List Int := (f_levels_of cells1)
  let worlds : Int := (levels.length : Int)
  { cells := cells1, levels := levels, worlds := worlds }
def ok_f_Rank__init___2 (cells : List (List Int)) : Prop :=
  (ok_f_cells_fault_2 cells) ∧ (Bd (fun (place : Option Int) => ((!place.isNone) = false) ∧ (Bd (fun (cells1 : List (List Int)) => (ok_f_levels_of cells1)) (cells.map (fun (cell : List Int) => (srt cell))))) (f_cells_fault_2 cells))
/-! ### levelled -/
def f_levelled (rank : Rank) (lot : List Int) : Rank :=
  let gone : List Int := (f_lot_but_all lot rank.worlds)
  if (!(f_inside (f_Rank_held rank) gone)) = true then rank else
  let front : List Int := (f_plus (f_Rank_held rank) (f_Rank_best rank (f_rest_of gone rank.worlds)))
  (f_Rank__init___2 ([front] ++ (f_parts_out rank.cells front)))
def ok_f_levelled (rank : Rank) (lot : List Int) : Prop :=
  (ok_f_lot_but_all lot rank.worlds) ∧ (Bd (fun (gone : List Int) => (ok_f_Rank_held rank) ∧ ((!(f_inside (f_Rank_held rank) gone)) = false → (ok_f_Rank_held rank) ∧ (ok_f_rest_of gone rank.worlds) ∧ (ok_f_Rank_best rank (f_rest_of gone rank.worlds)) ∧ (ok_f_plus (f_Rank_held rank) (f_Rank_best rank (f_rest_of gone rank.worlds))) ∧ (Bd (fun (front : List Int) => ([front].length + (f_parts_out rank.cells front).length ≤ sizeLine) ∧ (ok_f_Rank__init___2 ([front] ++ (f_parts_out rank.cells front)))) (f_plus (f_Rank_held rank) (f_Rank_best rank (f_rest_of gone rank.worlds)))))) (f_lot_but_all lot rank.worlds))
/-! ### _law_product -/
def l_product (one : List Int) (other : List Int) : (List Int) :=
  let size : Int := ((one.length : Int) + 1)
  (l_dense ((rng 0 (one.length : Int)).map (fun (world : Int) => (((pyIx one world) * size) + (pyIx other world)))))
def ok_l_product (one : List Int) (other : List Int) : Prop :=
  (Bd (fun (size : Int) => (-(2 ^ 62) ≤ (one.length : Int) ∧ (one.length : Int) ≤ 16777216) ∧ (∀ world ∈ (rng 0 (one.length : Int)), (IxOk one world) ∧ (CMul (pyIx one world) size) ∧ (IxOk other world)) ∧ (ok_l_dense ((rng 0 (one.length : Int)).map (fun (world : Int) => (((pyIx one world) * size) + (pyIx other world)))))) ((one.length : Int) + 1))
/-! ### _law_inside -/
def l_inside (one : List Int) (other : List Int) : Bool :=
  decide (((one.filter (fun (world : Int) => (!decide (world ∈ other)))).length : Int) = 0)
/-! ### _law_turn -/
def l_turn (levels : List Int) (word : Str) (lot_here : List Int) : (List Int) :=
  let worlds : Int := (levels.length : Int)
  if (decide (word = ("lead" : Str))) = true then let away : List Int := ((rng 0 worlds).map (fun (world : Int) => (if (decide (world ∈ lot_here)) = true then 0 else 1)))
  (l_product away levels) else
  if (decide (word = ("push" : Str)) || decide (word = ("lean" : Str))) = true then let best_here : List Int := (l_best levels lot_here)
  let numbers : List Int := (levels.map (fun (level : Int) => (2 * level)))
  let numbers1 : List Int := (if (decide (word = ("lean" : Str))) = true then (let numbers2 : List Int := ((rng 0 worlds).map (fun (at_ : Int) => ((pyIx numbers at_) + (if (decide (at_ ∈ lot_here)) = true then 0 else 1))))
  numbers2) else (numbers))
  (l_dense ((rng 0 worlds).map (fun (at_1 : Int) => (if (decide (at_1 ∈ best_here)) = true then (-1) else (pyIx numbers1 at_1))))) else
  if (decide (word = ("level" : Str)) || decide (word = ("sink" : Str))) = true then if (!(l_inside (l_held levels) lot_here)) = true then levels else
  let best_here1 : List Int := (l_best levels (l_rest lot_here worlds))
  let first : List Int := (l_plus (l_held levels) best_here1)
  let first1 : List Int := (if (decide (word = ("sink" : Str))) = true then (let bound : Int := (pyIx levels (pyIx best_here1 0))
  let first2 : List Int := ((rng 0 worlds).filter (fun (at_2 : Int) => decide ((pyIx levels at_2) ≤ bound)))
  first2) else (first))
  (l_dense ((rng 0 worlds).map (fun (at_3 : Int) => (if (decide (at_3 ∈ first1)) = true then (-1) else (pyIx levels at_3))))) else
  levels
def ok_l_turn (levels : List Int) (word : Str) (lot_here : List Int) : Prop :=
  (Bd (fun (worlds : Int) => ((decide (word = ("lead" : Str))) = true → (-(2 ^ 62) ≤ worlds ∧ worlds ≤ 16777216) ∧ (Bd (fun (away : List Int) => (ok_l_product away levels)) ((rng 0 worlds).map (fun (world : Int) => (if (decide (world ∈ lot_here)) = true then 0 else 1))))) ∧ ((decide (word = ("lead" : Str))) = false → ((decide (word = ("push" : Str)) || decide (word = ("lean" : Str))) = true → (ok_l_best levels lot_here) ∧ (Bd (fun (best_here : List Int) => (Bd (fun (numbers : List Int) => ((decide (word = ("lean" : Str))) = true → (-(2 ^ 62) ≤ worlds ∧ worlds ≤ 16777216) ∧ (∀ at_ ∈ (rng 0 worlds), (IxOk numbers at_))) ∧ (Bd (fun (numbers1 : List Int) => (-(2 ^ 62) ≤ worlds ∧ worlds ≤ 16777216) ∧ (∀ at_1 ∈ (rng 0 worlds), ((decide (at_1 ∈ best_here)) = false → (IxOk numbers1 at_1))) ∧ (ok_l_dense ((rng 0 worlds).map (fun (at_1 : Int) => (if (decide (at_1 ∈ best_here)) = true then (-1) else (pyIx numbers1 at_1)))))) (if (decide (word = ("lean" : Str))) = true then (let numbers2 : List Int := ((rng 0 worlds).map (fun (at_ : Int) => ((pyIx numbers at_) + (if (decide (at_ ∈ lot_here)) = true then 0 else 1))))
  numbers2) else (numbers)))) (levels.map (fun (level : Int) => (2 * level))))) (l_best levels lot_here))) ∧ ((decide (word = ("push" : Str)) || decide (word = ("lean" : Str))) = false → ((decide (word = ("level" : Str)) || decide (word = ("sink" : Str))) = true → (ok_l_held levels) ∧ ((!(l_inside (l_held levels) lot_here)) = false → (ok_l_rest lot_here worlds) ∧ (ok_l_best levels (l_rest lot_here worlds)) ∧ (Bd (fun (best_here1 : List Int) => (ok_l_held levels) ∧ (ok_l_plus (l_held levels) best_here1) ∧ (Bd (fun (first : List Int) => ((decide (word = ("sink" : Str))) = true → (IxOk best_here1 0) ∧ (IxOk levels (pyIx best_here1 0)) ∧ (Bd (fun (bound : Int) => (-(2 ^ 62) ≤ worlds ∧ worlds ≤ 16777216) ∧ (∀ at_2 ∈ (rng 0 worlds), (IxOk levels at_2))) (pyIx levels (pyIx best_here1 0)))) ∧ (Bd (fun (first1 : List Int) => (-(2 ^ 62) ≤ worlds ∧ worlds ≤ 16777216) ∧ (∀ at_3 ∈ (rng 0 worlds), ((decide (at_3 ∈ first1)) = false → (IxOk levels at_3))) ∧ (ok_l_dense ((rng 0 worlds).map (fun (at_3 : Int) => (if (decide (at_3 ∈ first1)) = true then (-1) else (pyIx levels at_3)))))) (if (decide (word = ("sink" : Str))) = true then (let bound : Int := (pyIx levels (pyIx best_here1 0))
  let first2 : List Int := ((rng 0 worlds).filter (fun (at_2 : Int) => decide ((pyIx levels at_2) ≤ bound)))
  first2) else (first)))) (l_plus (l_held levels) best_here1))) (l_best levels (l_rest lot_here worlds)))))))) (levels.length : Int))
/-! ### _law_cells -/
def l_cells (levels : List Int) : (List (List Int)) :=
  let cells_here : List (List Int) := []
  let cells_here1 : List (List Int) := ((rng 0 ((maxL levels) + 1)).foldl (fun (cells_here1 : List (List Int)) (level : Int) => let cells_here2 : List (List Int) := (cells_here1 ++ [((rng 0 (levels.length : Int)).filter (fun (world : Int) => decide ((pyIx levels world) = level)))])
  cells_here2) cells_here)
  cells_here1
def ok_l_cells (levels : List Int) : Prop :=
  (Bd (fun (cells_here : List (List Int)) => (levels ≠ []) ∧ (-(2 ^ 62) ≤ ((maxL levels) + 1) ∧ ((maxL levels) + 1) ≤ 16777216) ∧ (OkFold (fun (cells_here1 : List (List Int)) (level : Int) => let cells_here2 : List (List Int) := (cells_here1 ++ [((rng 0 (levels.length : Int)).filter (fun (world : Int) => decide ((pyIx levels world) = level)))])
  cells_here2) (fun (cells_here1 : List (List Int)) (level : Int) => (-(2 ^ 62) ≤ (levels.length : Int) ∧ (levels.length : Int) ≤ 16777216) ∧ (∀ world ∈ (rng 0 (levels.length : Int)), (IxOk levels world)) ∧ (cells_here1.length < sizeLine)) (rng 0 ((maxL levels) + 1)) cells_here)) [])
/-! ### Rank.__eq__ -/
def f_Rank__eq__ (self : Rank) (other : Rank) : Bool :=
  (true && decide (self.cells = other.cells))
/-! ### Rank.behind_best -/
def f_Rank_behind_best (self : Rank) (lot : List Int) : (List Int) :=
  let least : Int := (pyIx self.levels (pyIx (f_Rank_best self lot) 0))
  (((enm 0 self.levels).filter (fun (p : Int × Int) => decide (least < p.2))).map (fun (p : Int × Int) => p.1))
def ok_f_Rank_behind_best (self : Rank) (lot : List Int) : Prop :=
  (ok_f_Rank_best self lot) ∧ (IxOk (f_Rank_best self lot) 0) ∧ (IxOk self.levels (pyIx (f_Rank_best self lot) 0))
/-! ### parts_in -/
def f_parts_in (cells : List (List Int)) (lot : List Int) : (List (List Int)) :=
  ((cells.map (fun (cell : List Int) => (f_common cell lot))).filter (fun (part : List Int) => (!part.isEmpty)))
/-! ### sunk -/
def f_sunk (rank : Rank) (lot : List Int) : Rank :=
  let gone : List Int := (f_lot_but_all lot rank.worlds)
  if (!(f_inside (f_Rank_held rank) gone)) = true then rank else
  let back : List Int := (f_Rank_behind_best rank (f_rest_of gone rank.worlds))
  (f_Rank__init___2 ([(f_rest_of back rank.worlds)] ++ (f_parts_in rank.cells back)))
def ok_f_sunk (rank : Rank) (lot : List Int) : Prop :=
  (ok_f_lot_but_all lot rank.worlds) ∧ (Bd (fun (gone : List Int) => (ok_f_Rank_held rank) ∧ ((!(f_inside (f_Rank_held rank) gone)) = false → (ok_f_rest_of gone rank.worlds) ∧ (ok_f_Rank_behind_best rank (f_rest_of gone rank.worlds)) ∧ (Bd (fun (back : List Int) => (ok_f_rest_of back rank.worlds) ∧ ([(f_rest_of back rank.worlds)].length + (f_parts_in rank.cells back).length ≤ sizeLine) ∧ (ok_f_Rank__init___2 ([(f_rest_of back rank.worlds)] ++ (f_parts_in rank.cells back)))) (f_Rank_behind_best rank (f_rest_of gone rank.worlds))))) (f_lot_but_all lot rank.worlds))
/-! ### _law_two_levels -/
def l_two_levels (levels : List Int) (one : List Int) (other : List Int) : Bool :=
  let worlds : Int := (levels.length : Int)
  let rank_here : Rank := (f_Rank_of_levels levels)
  let first : List Int := (l_best levels (l_rest one worlds))
  let second : List Int := (l_best levels (l_rest other worlds))
  let there : Rank := (f_levelled (f_levelled rank_here one) other)
  let back : Rank := (f_levelled (f_levelled rank_here other) one)
  if (!decide (there.cells = (l_cells (l_turn (l_turn levels ("level" : Str) one) ("level" : Str) other)))) = true then false else
  if (!decide (back.cells = (l_cells (l_turn (l_turn levels ("level" : Str) other) ("level" : Str) one)))) = true then false else
  let same : Bool := (decide (first = second) || ((l_inside first other) && (l_inside second one)))
  if (!decide ((f_Rank__eq__ there back) = same)) = true then false else
  if (same && (!decide ((f_Rank_held there) = (l_plus (l_plus (l_held levels) first) second)))) = true then false else
  if (!(l_inside first other)) = true then true else
  let mixed : Rank := (f_sunk (f_levelled rank_here one) other)
  decide ((f_Rank__eq__ mixed (f_sunk rank_here other)) = decide ((pyIx levels (pyIx first 0)) ≤ (pyIx levels (pyIx second 0))))
def ok_l_two_levels (levels : List Int) (one : List Int) (other : List Int) : Prop :=
  (Bd (fun (worlds : Int) => (ok_f_Rank_of_levels levels) ∧ (Bd (fun (rank_here : Rank) => (ok_l_rest one worlds) ∧ (ok_l_best levels (l_rest one worlds)) ∧ (Bd (fun (first : List Int) => (ok_l_rest other worlds) ∧ (ok_l_best levels (l_rest other worlds)) ∧ (Bd (fun (second : List Int) => (ok_f_levelled rank_here one) ∧ (ok_f_levelled (f_levelled rank_here one) other) ∧ (Bd (fun (there : Rank) => (ok_f_levelled rank_here other) ∧ (ok_f_levelled (f_levelled rank_here other) one) ∧ (Bd (fun (back : Rank) => (ok_l_turn levels ("level" : Str) one) ∧ (ok_l_turn (l_turn levels ("level" : Str) one) ("level" : Str) other) ∧ (ok_l_cells (l_turn (l_turn levels ("level" : Str) one) ("level" : Str) other)) ∧ ((!decide (there.cells = (l_cells (l_turn (l_turn levels ("level" : Str) one) ("level" : Str) other)))) = false → (ok_l_turn levels ("level" : Str) other) ∧ (ok_l_turn (l_turn levels ("level" : Str) other) ("level" : Str) one) ∧ (ok_l_cells (l_turn (l_turn levels ("level" : Str) other) ("level" : Str) one)) ∧ ((!decide (back.cells = (l_cells (l_turn (l_turn levels ("level" : Str) other) ("level" : Str) one)))) = false → (Bd (fun (same : Bool) => ((!decide ((f_Rank__eq__ there back) = same)) = false → (same = true → (ok_f_Rank_held there) ∧ (ok_l_held levels) ∧ (ok_l_plus (l_held levels) first) ∧ (ok_l_plus (l_plus (l_held levels) first) second)) ∧ ((same && (!decide ((f_Rank_held there) = (l_plus (l_plus (l_held levels) first) second)))) = false → ((!(l_inside first other)) = false → (ok_f_levelled rank_here one) ∧ (ok_f_sunk (f_levelled rank_here one) other) ∧ (Bd (fun (mixed : Rank) => (ok_f_sunk rank_here other) ∧ (IxOk first 0) ∧ (IxOk levels (pyIx first 0)) ∧ (IxOk second 0) ∧ (IxOk levels (pyIx second 0))) (f_sunk (f_levelled rank_here one) other)))))) (decide (first = second) || ((l_inside first other) && (l_inside second one))))))) (f_levelled (f_levelled rank_here other) one))) (f_levelled (f_levelled rank_here one) other))) (l_best levels (l_rest other worlds)))) (l_best levels (l_rest one worlds)))) (f_Rank_of_levels levels))) (levels.length : Int))
/-! ### _law_one_lot -/
def l_one_lot (levels : List Int) (lot_here : List Int) : Bool :=
  let rank_here : Rank := (f_Rank_of_levels levels)
  let sink : Rank := (f_sunk rank_here lot_here)
  let level : Rank := (f_levelled rank_here lot_here)
  if ((!(f_Rank__eq__ (f_levelled sink lot_here) sink)) || (!(f_Rank__eq__ (f_sunk level lot_here) level))) = true then false else
  (decide (sink.cells = (l_cells (l_turn levels ("sink" : Str) lot_here))) && decide ((f_sunk sink lot_here).cells = sink.cells))
def ok_l_one_lot (levels : List Int) (lot_here : List Int) : Prop :=
  (ok_f_Rank_of_levels levels) ∧ (Bd (fun (rank_here : Rank) => (ok_f_sunk rank_here lot_here) ∧ (Bd (fun (sink : Rank) => (ok_f_levelled rank_here lot_here) ∧ (Bd (fun (level : Rank) => (ok_f_levelled sink lot_here) ∧ ((!(f_Rank__eq__ (f_levelled sink lot_here) sink)) = false → (ok_f_sunk level lot_here)) ∧ (((!(f_Rank__eq__ (f_levelled sink lot_here) sink)) || (!(f_Rank__eq__ (f_sunk level lot_here) level))) = false → (ok_l_turn levels ("sink" : Str) lot_here) ∧ (ok_l_cells (l_turn levels ("sink" : Str) lot_here)) ∧ ((decide (sink.cells = (l_cells (l_turn levels ("sink" : Str) lot_here)))) = true → (ok_f_sunk sink lot_here)))) (f_levelled rank_here lot_here))) (f_sunk rank_here lot_here))) (f_Rank_of_levels levels))
/-! ### _law_short -/
def l_short (draws_here : List Int) (worlds : Int) : ((List Int) × (List Int)) :=
  let v : Int × (List Int) := ((l_take draws_here worlds).1, (l_take draws_here worlds).2)
  let v1 : (List Int) × (List Int) := ((l_lot v.2 worlds).1, (l_lot v.2 worlds).2)
  ((v1.1.filter (fun (world : Int) => (!decide (world = v.1)))), v1.2)
def ok_l_short (draws_here : List Int) (worlds : Int) : Prop :=
  (ok_l_take draws_here worlds) ∧ (Bd (fun (v : Int × (List Int)) => (ok_l_lot v.2 worlds)) ((l_take draws_here worlds).1, (l_take draws_here worlds).2))
/-! ### check_word -/
def f_check_word (word : Str) : Unit :=
  ()
def ok_f_check_word (word : Str) : Prop :=
  ((!true) = false → (word ∈ tk_TURNS)) ∧ (((!true) || false) = false)
/-! ### led -/
def f_led (rank : Rank) (lot : List Int) : Rank :=
  let news : List Int := (f_lot_of lot rank.worlds false)
  (f_Rank__init___2 ((f_parts_in rank.cells news) ++ (f_parts_out rank.cells news)))
def ok_f_led (rank : Rank) (lot : List Int) : Prop :=
  (ok_f_lot_of lot rank.worlds false) ∧ (Bd (fun (news : List Int) => ((f_parts_in rank.cells news).length + (f_parts_out rank.cells news).length ≤ sizeLine) ∧ (ok_f_Rank__init___2 ((f_parts_in rank.cells news) ++ (f_parts_out rank.cells news)))) (f_lot_of lot rank.worlds false))
/-! ### pushed -/
def f_pushed (rank : Rank) (lot : List Int) : Rank :=
  let front : List Int := (f_Rank_best rank lot)
  (f_Rank__init___2 ([front] ++ (f_parts_out rank.cells front)))
def ok_f_pushed (rank : Rank) (lot : List Int) : Prop :=
  (ok_f_Rank_best rank lot) ∧ (Bd (fun (front : List Int) => ([front].length + (f_parts_out rank.cells front).length ≤ sizeLine) ∧ (ok_f_Rank__init___2 ([front] ++ (f_parts_out rank.cells front)))) (f_Rank_best rank lot))
/-! ### parts_in -/
def f_parts_in_2 (cells : List (List Int)) (lot : List Int) : (List (List Int)) :=
  ((cells.map (fun (cell : List Int) => (f_common cell lot))).filter (fun (part : List Int) => (!part.isEmpty)))
/-! ### parts_out -/
def f_parts_out_2 (cells : List (List Int)) (lot : List Int) : (List (List Int)) :=
  ((cells.map (fun (cell : List Int) => (f_minus cell lot))).filter (fun (part : List Int) => (!part.isEmpty)))
/-! ### leaned -/
def f_leaned (rank : Rank) (lot : List Int) : Rank :=
  let front : List Int := (f_Rank_best rank lot)
  let cells : List (List Int) := [front]
  let cells1 : List (List Int) := ((f_parts_out rank.cells front).foldl (fun (cells1 : List (List Int)) (cell : List Int) => let cells2 : List (List Int) := ((cells1 ++ (f_parts_in_2 [cell] lot)) ++ (f_parts_out_2 [cell] lot))
  cells2) cells)
  (f_Rank__init___2 cells1)
def ok_f_leaned (rank : Rank) (lot : List Int) : Prop :=
  (ok_f_Rank_best rank lot) ∧ (Bd (fun (front : List Int) => (Bd (fun (cells : List (List Int)) => (OkFold (fun (cells1 : List (List Int)) (cell : List Int) => let cells2 : List (List Int) := ((cells1 ++ (f_parts_in_2 [cell] lot)) ++ (f_parts_out_2 [cell] lot))
  cells2) (fun (cells1 : List (List Int)) (cell : List Int) => (cells1.length + (f_parts_in_2 [cell] lot).length ≤ sizeLine) ∧ ((cells1 ++ (f_parts_in_2 [cell] lot)).length + (f_parts_out_2 [cell] lot).length ≤ sizeLine)) (f_parts_out rank.cells front) cells) ∧ (Bd (fun (cells1 : List (List Int)) => (ok_f_Rank__init___2 cells1)) ((f_parts_out rank.cells front).foldl (fun (cells1 : List (List Int)) (cell : List Int) => let cells2 : List (List Int) := ((cells1 ++ (f_parts_in_2 [cell] lot)) ++ (f_parts_out_2 [cell] lot))
  cells2) cells))) [front])) (f_Rank_best rank lot))
/-! ### unturned -/
def f_unturned (rank : Rank) (lot : List Int) : Rank :=
  rank
def ok_f_unturned (rank : Rank) (lot : List Int) : Prop :=
  (ok_f_lot_of lot rank.worlds false)
def t_TURNS (z : Str) (x0 : Rank) (x1 : List Int) : Rank := if z = "lead" then f_led x0 x1 else if z = "push" then f_pushed x0 x1 else if z = "lean" then f_leaned x0 x1 else if z = "level" then f_levelled x0 x1 else if z = "sink" then f_sunk x0 x1 else f_unturned x0 x1
def okt_TURNS (z : Str) (x0 : Rank) (x1 : List Int) : Prop := if z = "lead" then ok_f_led x0 x1 else if z = "push" then ok_f_pushed x0 x1 else if z = "lean" then ok_f_leaned x0 x1 else if z = "level" then ok_f_levelled x0 x1 else if z = "sink" then ok_f_sunk x0 x1 else ok_f_unturned x0 x1
/-! ### turned -/
def f_turned (rank : Rank) (word : Str) (lot : List Int) : Rank :=
  (t_TURNS word rank lot)
def ok_f_turned (rank : Rank) (word : Str) (lot : List Int) : Prop :=
  (ok_f_check_word word) ∧ (word ∈ tk_TURNS) ∧ (okt_TURNS word rank lot)
/-! ### _law_row -/
def l_row (levels : List Int) (lots : List (List Int)) : Bool :=
  let rank_here : Rank := (f_Rank_of_levels levels)
  let ends : List Rank := []
  let ends1 : List Rank := ([lots, lots.reverse, ((pyCut lots (some 1) none) ++ (pyCut lots none (some 1))), (lots ++ lots)].foldl (fun (ends1 : List Rank) (order : List (List Int)) => let end_ : Rank := rank_here
  let end_1 : Rank := (order.foldl (fun (end_1 : Rank) (lot_here : List Int) => let end_2 : Rank := (f_turned end_1 ("sink" : Str) lot_here)
  end_2) end_)
  let ends2 : List Rank := (ends1 ++ [end_1])
  ends2) ends)
  let due : List Int := levels
  let due1 : List Int := (lots.foldl (fun (due1 : List Int) (lot_here1 : List Int) => let alone : List Int := (l_turn levels ("sink" : Str) lot_here1)
  let due2 : List Int := (if (decide (((l_held due1).length : Int) < ((l_held alone).length : Int))) = true then (let due3 : List Int := alone
  due3) else (due1))
  due2) due)
  (forF (fun (r : Unit) (end_3 : Rank) => (if ((!true) || (!decide (end_3.cells = (l_cells due1)))) = true then .ret false else
  .next () : Fl Unit Bool)) ends1 ()).el fun (r : Unit) =>
  true
def ok_l_row (levels : List Int) (lots : List (List Int)) : Prop :=
  (ok_f_Rank_of_levels levels) ∧ (Bd (fun (rank_here : Rank) => (Bd (fun (ends : List Rank) => ((pyCut lots (some 1) none).length + (pyCut lots none (some 1)).length ≤ sizeLine) ∧ (lots.length + lots.length ≤ sizeLine) ∧ (OkFold (fun (ends1 : List Rank) (order : List (List Int)) => let end_ : Rank := rank_here
  let end_1 : Rank := (order.foldl (fun (end_1 : Rank) (lot_here : List Int) => let end_2 : Rank := (f_turned end_1 ("sink" : Str) lot_here)
  end_2) end_)
  let ends2 : List Rank := (ends1 ++ [end_1])
  ends2) (fun (ends1 : List Rank) (order : List (List Int)) => (Bd (fun (end_ : Rank) => (OkFold (fun (end_1 : Rank) (lot_here : List Int) => let end_2 : Rank := (f_turned end_1 ("sink" : Str) lot_here)
  end_2) (fun (end_1 : Rank) (lot_here : List Int) => (ok_f_turned end_1 ("sink" : Str) lot_here)) order end_) ∧ (Bd (fun (end_1 : Rank) => (ends1.length < sizeLine)) (order.foldl (fun (end_1 : Rank) (lot_here : List Int) => let end_2 : Rank := (f_turned end_1 ("sink" : Str) lot_here)
  end_2) end_))) rank_here)) [lots, lots.reverse, ((pyCut lots (some 1) none) ++ (pyCut lots none (some 1))), (lots ++ lots)] ends) ∧ (Bd (fun (ends1 : List Rank) => (Bd (fun (due : List Int) => (OkFold (fun (due1 : List Int) (lot_here1 : List Int) => let alone : List Int := (l_turn levels ("sink" : Str) lot_here1)
  let due2 : List Int := (if (decide (((l_held due1).length : Int) < ((l_held alone).length : Int))) = true then (let due3 : List Int := alone
  due3) else (due1))
  due2) (fun (due1 : List Int) (lot_here1 : List Int) => (ok_l_turn levels ("sink" : Str) lot_here1) ∧ (Bd (fun (alone : List Int) => (ok_l_held alone) ∧ (ok_l_held due1)) (l_turn levels ("sink" : Str) lot_here1))) lots due) ∧ (Bd (fun (due1 : List Int) => (OkFor (fun (r : Unit) (end_3 : Rank) => (if ((!true) || (!decide (end_3.cells = (l_cells due1)))) = true then .ret false else
  .next () : Fl Unit Bool)) (fun (r : Unit) (end_3 : Rank) => ((!true) = false → (ok_l_cells due1))) ends1 ())) (lots.foldl (fun (due1 : List Int) (lot_here1 : List Int) => let alone : List Int := (l_turn levels ("sink" : Str) lot_here1)
  let due2 : List Int := (if (decide (((l_held due1).length : Int) < ((l_held alone).length : Int))) = true then (let due3 : List Int := alone
  due3) else (due1))
  due2) due))) levels)) ([lots, lots.reverse, ((pyCut lots (some 1) none) ++ (pyCut lots none (some 1))), (lots ++ lots)].foldl (fun (ends1 : List Rank) (order : List (List Int)) => let end_ : Rank := rank_here
  let end_1 : Rank := (order.foldl (fun (end_1 : Rank) (lot_here : List Int) => let end_2 : Rank := (f_turned end_1 ("sink" : Str) lot_here)
  end_2) end_)
  let ends2 : List Rank := (ends1 ++ [end_1])
  ends2) ends))) [])) (f_Rank_of_levels levels))
/-! ### law -/
def l_law (script : List Int) : Bool :=
  let draws_here : List Int := (l_draws script)
  let v : Int × (List Int) := ((pyIx [4, 3, 5, 2, 6, 1, 4, 3] ((l_take draws_here 8).1)), (l_take draws_here 8).2)
  let v1 : (List Int) × (List Int) := ((l_rank v.2 v.1).1, (l_rank v.2 v.1).2)
  let levels : List Int := (if (decide ((maxL v1.1) = 0) && (decide (1 < v.1) && decide ((l_take v1.2 4).1 < 3))) = true then (let levels1 : List Int := (l_dense ((rng 0 v.1).map (fun (world : Int) => world)))
  levels1) else (v1.1))
  (if (decide (0 < (maxL levels))) = true then (let v2 : (List Int) × (List Int) := ((l_around (if (decide ((maxL v1.1) = 0)) = true then (if (decide (1 < v.1)) = true then (l_take v1.2 4).2 else v1.2) else v1.2) levels).1, (l_around (if (decide ((maxL v1.1) = 0)) = true then (if (decide (1 < v.1)) = true then (l_take v1.2 4).2 else v1.2) else v1.2) levels).2)
  let v3 : (List Int) × (List Int) := ((l_around v2.2 levels).1, (l_around v2.2 levels).2)
  if ((!(l_two_levels levels v2.1 v3.1)) || (!(l_two_levels levels v3.1 v2.1))) = true then .ret false else
  if (!(l_one_lot levels v2.1)) = true then .ret false else
  .next v3.2 : Rs (List Int) Bool) else (.next (if (decide ((maxL v1.1) = 0)) = true then (if (decide (1 < v.1)) = true then (l_take v1.2 4).2 else v1.2) else v1.2))).el fun (draws_here1 : List Int) =>
  let lots : List (List Int) := []
  (forF (fun (r : (List Int) × (List (List Int))) (turn_here : Int) => (let v4 : (List Int) × (List Int) := ((l_short r.1 v.1).1, (l_short r.1 v.1).2)
  let lot_here : List Int := (if (decide ((l_take v4.2 3).1 < 2)) = true then (let lot_here1 : List Int := ((l_plus v4.1 (l_held levels)).filter (fun (world1 : Int) => (!decide (world1 = (v.1 - 1)))))
  lot_here1) else (v4.1))
  let lots1 : List (List Int) := (r.2 ++ [lot_here])
  if (!(l_one_lot levels lot_here)) = true then .ret false else
  .next ((l_take v4.2 3).2, lots1) : Fl ((List Int) × (List (List Int))) Bool)) (rng 0 (1 + (l_take draws_here1 4).1)) ((l_take draws_here1 4).2, lots)).el fun (r : (List Int) × (List (List Int))) =>
  (l_row levels r.2)
def ok_l_law (script : List Int) : Prop :=
  (ok_l_draws script) ∧ (Bd (fun (draws_here : List Int) => (ok_l_take draws_here 8) ∧ (IxOk [4, 3, 5, 2, 6, 1, 4, 3] ((l_take draws_here 8).1)) ∧ (Bd (fun (v : Int × (List Int)) => (ok_l_rank v.2 v.1) ∧ (Bd (fun (v1 : (List Int) × (List Int)) => (v1.1 ≠ []) ∧ ((decide ((maxL v1.1) = 0)) = true → ((decide (1 < v.1)) = true → (ok_l_take v1.2 4))) ∧ ((decide ((maxL v1.1) = 0) && (decide (1 < v.1) && decide ((l_take v1.2 4).1 < 3))) = true → (-(2 ^ 62) ≤ v.1 ∧ v.1 ≤ 16777216) ∧ (ok_l_dense ((rng 0 v.1).map (fun (world : Int) => world)))) ∧ (Bd (fun (levels : List Int) => (levels ≠ []) ∧ ((decide (0 < (maxL levels))) = true → (ok_l_around (if (decide ((maxL v1.1) = 0)) = true then (if (decide (1 < v.1)) = true then (l_take v1.2 4).2 else v1.2) else v1.2) levels) ∧ (Bd (fun (v2 : (List Int) × (List Int)) => (ok_l_around v2.2 levels) ∧ (Bd (fun (v3 : (List Int) × (List Int)) => (ok_l_two_levels levels v2.1 v3.1) ∧ ((!(l_two_levels levels v2.1 v3.1)) = false → (ok_l_two_levels levels v3.1 v2.1)) ∧ (((!(l_two_levels levels v2.1 v3.1)) || (!(l_two_levels levels v3.1 v2.1))) = false → (ok_l_one_lot levels v2.1))) ((l_around v2.2 levels).1, (l_around v2.2 levels).2))) ((l_around (if (decide ((maxL v1.1) = 0)) = true then (if (decide (1 < v.1)) = true then (l_take v1.2 4).2 else v1.2) else v1.2) levels).1, (l_around (if (decide ((maxL v1.1) = 0)) = true then (if (decide (1 < v.1)) = true then (l_take v1.2 4).2 else v1.2) else v1.2) levels).2))) ∧ (BdR (fun (draws_here1 : List Int) => (Bd (fun (lots : List (List Int)) => (ok_l_take draws_here1 4) ∧ (-(2 ^ 62) ≤ (1 + (l_take draws_here1 4).1) ∧ (1 + (l_take draws_here1 4).1) ≤ 16777216) ∧ (OkFor (fun (r : (List Int) × (List (List Int))) (turn_here : Int) => (let v4 : (List Int) × (List Int) := ((l_short r.1 v.1).1, (l_short r.1 v.1).2)
  let lot_here : List Int := (if (decide ((l_take v4.2 3).1 < 2)) = true then (let lot_here1 : List Int := ((l_plus v4.1 (l_held levels)).filter (fun (world1 : Int) => (!decide (world1 = (v.1 - 1)))))
  lot_here1) else (v4.1))
  let lots1 : List (List Int) := (r.2 ++ [lot_here])
  if (!(l_one_lot levels lot_here)) = true then .ret false else
  .next ((l_take v4.2 3).2, lots1) : Fl ((List Int) × (List (List Int))) Bool)) (fun (r : (List Int) × (List (List Int))) (turn_here : Int) => (ok_l_short r.1 v.1) ∧ (Bd (fun (v4 : (List Int) × (List Int)) => (ok_l_take v4.2 3) ∧ ((decide ((l_take v4.2 3).1 < 2)) = true → (ok_l_held levels) ∧ (ok_l_plus v4.1 (l_held levels))) ∧ (Bd (fun (lot_here : List Int) => (r.2.length < sizeLine) ∧ (Bd (fun (lots1 : List (List Int)) => (ok_l_one_lot levels lot_here)) (r.2 ++ [lot_here]))) (if (decide ((l_take v4.2 3).1 < 2)) = true then (let lot_here1 : List Int := ((l_plus v4.1 (l_held levels)).filter (fun (world1 : Int) => (!decide (world1 = (v.1 - 1)))))
  lot_here1) else (v4.1)))) ((l_short r.1 v.1).1, (l_short r.1 v.1).2))) (rng 0 (1 + (l_take draws_here1 4).1)) ((l_take draws_here1 4).2, lots)) ∧ (BdR (fun (r : (List Int) × (List (List Int))) => (ok_l_row levels r.2)) (forF (fun (r : (List Int) × (List (List Int))) (turn_here : Int) => (let v4 : (List Int) × (List Int) := ((l_short r.1 v.1).1, (l_short r.1 v.1).2)
  let lot_here : List Int := (if (decide ((l_take v4.2 3).1 < 2)) = true then (let lot_here1 : List Int := ((l_plus v4.1 (l_held levels)).filter (fun (world1 : Int) => (!decide (world1 = (v.1 - 1)))))
  lot_here1) else (v4.1))
  let lots1 : List (List Int) := (r.2 ++ [lot_here])
  if (!(l_one_lot levels lot_here)) = true then .ret false else
  .next ((l_take v4.2 3).2, lots1) : Fl ((List Int) × (List (List Int))) Bool)) (rng 0 (1 + (l_take draws_here1 4).1)) ((l_take draws_here1 4).2, lots)))) [])) (if (decide (0 < (maxL levels))) = true then (let v2 : (List Int) × (List Int) := ((l_around (if (decide ((maxL v1.1) = 0)) = true then (if (decide (1 < v.1)) = true then (l_take v1.2 4).2 else v1.2) else v1.2) levels).1, (l_around (if (decide ((maxL v1.1) = 0)) = true then (if (decide (1 < v.1)) = true then (l_take v1.2 4).2 else v1.2) else v1.2) levels).2)
  let v3 : (List Int) × (List Int) := ((l_around v2.2 levels).1, (l_around v2.2 levels).2)
  if ((!(l_two_levels levels v2.1 v3.1)) || (!(l_two_levels levels v3.1 v2.1))) = true then .ret false else
  if (!(l_one_lot levels v2.1)) = true then .ret false else
  .next v3.2 : Rs (List Int) Bool) else (.next (if (decide ((maxL v1.1) = 0)) = true then (if (decide (1 < v.1)) = true then (l_take v1.2 4).2 else v1.2) else v1.2))))) (if (decide ((maxL v1.1) = 0) && (decide (1 < v.1) && decide ((l_take v1.2 4).1 < 3))) = true then (let levels1 : List Int := (l_dense ((rng 0 v.1).map (fun (world : Int) => world)))
  levels1) else (v1.1)))) ((l_rank v.2 v.1).1, (l_rank v.2 v.1).2))) ((pyIx [4, 3, 5, 2, 6, 1, 4, 3] ((l_take draws_here 8).1)), (l_take draws_here 8).2))) (l_draws script))
/-- what the top has made -/
structure Env (K : PySem.W.Frag) (w : World) (mg : Str → Option Value) (C_Rank : Addr) (d_TURNS : Addr) (a_TURNS : Str → Addr) : Prop where
  all : mg "all" = none
  any : mg "any" = none
  bool : mg "bool" = none
  dict : mg "dict" = none
  enumerate : mg "enumerate" = none
  int : mg "int" = none
  isinstance : mg "isinstance" = none
  len : mg "len" = none
  list : mg "list" = none
  max : mg "max" = none
  min : mg "min" = none
  range : mg "range" = none
  set : mg "set" = none
  sorted : mg "sorted" = none
  str : mg "str" = none
  sum : mg "sum" = none
  tuple : mg "tuple" = none
  zip : mg "zip" = none
  MOST_WORLDS : ∃ u, mg "MOST_WORLDS" = some u ∧ RelV (.int 12) u
  cl_Rank : Cls K C_Rank
  na_Rank_cells : NoAttr K C_Rank "cells"
  na_Rank_levels : NoAttr K C_Rank "levels"
  na_Rank_worlds : NoAttr K C_Rank "worlds"
  mg_Rank : mg "Rank" = some (.ref C_Rank)
  ic_Rank : C8.InsC K C_Rank
  mg_TURNS : mg "TURNS" = some (.ref d_TURNS)
  kt_TURNS : KTab K w d_TURNS (tk_TURNS.map fun z => (z, a_TURNS z))
section
variable {P : Program} {w : World} {K : PySem.W.Frag} {mg : Str → Option Value} {base : Heap} {C_Rank : Addr} {d_TURNS : Addr} {a_TURNS : Str → Addr}
/-! ### _law_draws -/
abbrev s_l_draws : Stmt := top 44
abbrev N_l_draws : List Str := ["_law_script", "_law_draws_here", "_law_place", "_law_cell", "_law_turn_here", "_law_seed"]
theorem sc_l_draws : FnScope N_l_draws ["_law_script"] (defScope s_l_draws) := ⟨rfl, rfl, rfl, by decide +kernel, rfl, by decide +kernel, by decide +kernel⟩
def T_l_draws (C_Rank : Addr) : TFN := TFNi (fun (i : List Int) => [(eR eI) i]) (fun i => ok_l_draws i) (fun i => (l_draws i).map eI)
theorem r_l_draws (B : Env K w mg C_Rank d_TURNS a_TURNS)  {cdv : Value} {A : Around} {outer : List PySem.Env} {s : Shared} {H : Hp} {E : XK} {f : Addr} {Fr : Fm} (hr : Room 0 (A.deeper (envOfC "_law_draws" (defScope s_l_draws) s.heap.objs.size f cdv))) (io : Fr.io = []) (script : List Int) (h : ok_l_draws script) :
    TSs (bcx P w K mg base N_l_draws "_law_draws" (defScope s_l_draws) f cdv A outer s H E) Fr (defBody s_l_draws) [.dat ((eR eI) script), .un, .un, .un, .un, .un] (RtN eI (l_draws script)) := by
  have nd := sc_l_draws.nd
  exact TSs.cast ((tss_ltK (st' := fun (draws_here : List Int) => [.dat ((eR eI) script), .own (draws_here.map eI), .un, .un, .un, .un]) [] h (ts_setN (tn_lst ta_nil (le_sz 0 rfl (by decide))) (pg_name (i := 1) nd rfl (by first | exact Or.inl rfl | exact Or.inr rfl)) (nio0 io 1))
  (fun draws_here h20 => (tss_lt (st' := (fun (draws_here1 : List Int) => [.dat ((eR eI) script), .own (draws_here1.map eI), .un, .un, .un, .un])) ((rng 0 (pmin (script.length : Int) 63)).foldl (fun (draws_here1 : List Int) (place : Int) => let cell : Int := (pyIx script place)
  let cell1 : Int := (if (decide (cell < 0)) = true then (let cell2 : Int := (7 - cell)
  cell2) else (cell))
  let r : (List Int) × Int := (if (decide ((10 ^ (18 : Int).toNat) ≤ cell1)) = true then (let r1 : (List Int) × Int := ((rng 0 50).foldl (fun (r1 : (List Int) × Int) (turn_here : Int) => let r2 : (List Int) × Int := (if (decide (0 < r1.2)) = true then (let draws_here2 : List Int := (r1.1 ++ [(r1.2 % 30)])
  let cell3 : Int := (r1.2 / 30)
  (draws_here2, cell3)) else ((r1.1, r1.2)))
  (r2.1, r2.2)) (draws_here1, cell1))
  (r1.1, r1.2)) else (let seed : Int := ((((cell1 * 48271) + (place * 6007)) + 17) % 2147483629)
  let r3 : Int × (List Int) := ((rng 0 6).foldl (fun (r3 : Int × (List Int)) (turn_here1 : Int) => let seed1 : Int := (((((r3.1 * r3.1) + (turn_here1 * 90001)) + (place * 43)) + 3) % 2147483587)
  let draws_here3 : List Int := (r3.2 ++ [seed1])
  (seed1, draws_here3)) (seed, draws_here1))
  (r3.2, cell1)))
  r.1) draws_here) (ts_fold (g := (gSet 2)) (emi := eI) (st' := (fun (draws_here1 : List Int) => [.dat ((eR eI) script), .own (draws_here1.map eI), .un, .un, .un, .un])) (st1 := (fun (draws_here1 : List Int) (place : Int) => [.dat ((eR eI) script), .own (draws_here1.map eI), .dat (eI place), .un, .un, .un])) (body := (fun (draws_here1 : List Int) (place : Int) => let cell : Int := (pyIx script place)
  let cell1 : Int := (if (decide (cell < 0)) = true then (let cell2 : Int := (7 - cell)
  cell2) else (cell))
  let r : (List Int) × Int := (if (decide ((10 ^ (18 : Int).toNat) ≤ cell1)) = true then (let r1 : (List Int) × Int := ((rng 0 50).foldl (fun (r1 : (List Int) × Int) (turn_here : Int) => let r2 : (List Int) × Int := (if (decide (0 < r1.2)) = true then (let draws_here2 : List Int := (r1.1 ++ [(r1.2 % 30)])
  let cell3 : Int := (r1.2 / 30)
  (draws_here2, cell3)) else ((r1.1, r1.2)))
  (r2.1, r2.2)) (draws_here1, cell1))
  (r1.1, r1.2)) else (let seed : Int := ((((cell1 * 48271) + (place * 6007)) + 17) % 2147483629)
  let r3 : Int × (List Int) := ((rng 0 6).foldl (fun (r3 : Int × (List Int)) (turn_here1 : Int) => let seed1 : Int := (((((r3.1 * r3.1) + (turn_here1 * 90001)) + (place * 43)) + 3) % 2147483587)
  let draws_here3 : List Int := (r3.2 ++ [seed1])
  (seed1, draws_here3)) (seed, draws_here1))
  (r3.2, cell1)))
  r.1)) (xs := (rng 0 (pmin (script.length : Int) 63))) (r0 := draws_here) PassesOwn.never rfl (ti_range1 (by rfl) B.range (te_min2 (by rfl) (by rfl) B.min (ta_cons (te_len (em := eI) (by rfl) B.len (TE.tp (te_var (pv 0))) rfl) (ta_cons te_int ta_nil))) h20.1) (dg_name (pg_name (i := 2) nd rfl (by first | exact Or.inl rfl | exact Or.inr rfl)) (nio0 io 2)) (fun _ _ _ h => h) rfl h20.2 (fun draws_here1 place h1 => (tss_ltK (st' := fun (cell : Int) => [.dat ((eR eI) script), .own (draws_here1.map eI), .dat (eI place), .dat (eI cell), .un, .un]) (pyIx script place) h1.2 (ts_set (te_cint (by rfl) B.int (TE.tp (te_ixE (em := eI) (te_var (pv 0)) rfl (TE.tp (te_var (pv 2))) h1.1))) (pg_name (i := 3) nd rfl (by first | exact Or.inl rfl | exact Or.inr rfl)) (nio0 io 3))
  (fun cell h18 => (tss_ltK (st' := (fun (cell1 : Int) => [.dat ((eR eI) script), .own (draws_here1.map eI), .dat (eI place), .dat (eI cell1), .un, .un])) (if (decide (cell < 0)) = true then (let cell2 : Int := (7 - cell)
  cell2) else (cell)) h18 (ts_ifJ (st' := (fun (cell1 : Int) => [.dat ((eR eI) script), .own (draws_here1.map eI), .dat (eI place), .dat (eI cell1), .un, .un])) (tt_lt (te_var (pv 3)) (TE.tp te_int)) (fun h2 => (tss_lt (st' := fun (cell2 : Int) => [.dat ((eR eI) script), .own (draws_here1.map eI), .dat (eI place), .dat (eI cell2), .un, .un]) (7 - cell) (ts_set (te_sub te_int (TE.tp (te_var (pv 3)))) (pg_name (i := 3) nd rfl (by first | exact Or.inl rfl | exact Or.inr rfl)) (nio0 io 3))
  (fun cell2 => (tss_end (fun (cell1 : Int) => [.dat ((eR eI) script), .own (draws_here1.map eI), .dat (eI place), .dat (eI cell1), .un, .un]) cell2)) rfl rfl)) (fun h2 => (tss_end (fun (cell1 : Int) => [.dat ((eR eI) script), .own (draws_here1.map eI), .dat (eI place), .dat (eI cell1), .un, .un]) cell)))
  (fun cell1 h17 => (tss_lt (st' := (fun (r : (List Int) × Int) => [.dat ((eR eI) script), .own (r.1.map eI), .dat (eI place), .dat (eI r.2), .un, .un])) (if (decide ((10 ^ (18 : Int).toNat) ≤ cell1)) = true then (let r1 : (List Int) × Int := ((rng 0 50).foldl (fun (r1 : (List Int) × Int) (turn_here : Int) => let r2 : (List Int) × Int := (if (decide (0 < r1.2)) = true then (let draws_here2 : List Int := (r1.1 ++ [(r1.2 % 30)])
  let cell3 : Int := (r1.2 / 30)
  (draws_here2, cell3)) else ((r1.1, r1.2)))
  (r2.1, r2.2)) (draws_here1, cell1))
  (r1.1, r1.2)) else (let seed : Int := ((((cell1 * 48271) + (place * 6007)) + 17) % 2147483629)
  let r3 : Int × (List Int) := ((rng 0 6).foldl (fun (r3 : Int × (List Int)) (turn_here1 : Int) => let seed1 : Int := (((((r3.1 * r3.1) + (turn_here1 * 90001)) + (place * 43)) + 3) % 2147483587)
  let draws_here3 : List Int := (r3.2 ++ [seed1])
  (seed1, draws_here3)) (seed, draws_here1))
  (r3.2, cell1))) (ts_ifJ (st' := (fun (r : (List Int) × Int) => [.dat ((eR eI) script), .own (r.1.map eI), .dat (eI place), .dat (eI r.2), .un, .un])) (tt_ge (te_var (pv 3)) (TE.tp (te_pow te_int (TE.tp te_int) (show CPow _ _ from ⟨by decide, by decide, by decide⟩)))) (fun h4 => (tss_lt (st' := (fun (r1 : (List Int) × Int) => [.dat ((eR eI) script), .own (r1.1.map eI), .dat (eI place), .dat (eI r1.2), .un, .un])) ((rng 0 50).foldl (fun (r1 : (List Int) × Int) (turn_here : Int) => let r2 : (List Int) × Int := (if (decide (0 < r1.2)) = true then (let draws_here2 : List Int := (r1.1 ++ [(r1.2 % 30)])
  let cell3 : Int := (r1.2 / 30)
  (draws_here2, cell3)) else ((r1.1, r1.2)))
  (r2.1, r2.2)) (draws_here1, cell1)) (ts_fold (g := (gSet 4)) (emi := eI) (st' := (fun (r1 : (List Int) × Int) => [.dat ((eR eI) script), .own (r1.1.map eI), .dat (eI place), .dat (eI r1.2), .un, .un])) (st1 := (fun (r1 : (List Int) × Int) (turn_here : Int) => [.dat ((eR eI) script), .own (r1.1.map eI), .dat (eI place), .dat (eI r1.2), .dat (eI turn_here), .un])) (body := (fun (r1 : (List Int) × Int) (turn_here : Int) => let r2 : (List Int) × Int := (if (decide (0 < r1.2)) = true then (let draws_here2 : List Int := (r1.1 ++ [(r1.2 % 30)])
  let cell3 : Int := (r1.2 / 30)
  (draws_here2, cell3)) else ((r1.1, r1.2)))
  (r2.1, r2.2))) (xs := (rng 0 50)) (r0 := (draws_here1, cell1)) PassesOwn.never rfl (ti_range1 (by rfl) B.range te_int (by decide)) (dg_name (pg_name (i := 4) nd rfl (by first | exact Or.inl rfl | exact Or.inr rfl)) (nio0 io 4)) (fun _ _ _ h => h) rfl (h17.1 h4) (fun r1 turn_here h5 => (tss_lt (st' := (fun (r2 : (List Int) × Int) => [.dat ((eR eI) script), .own (r2.1.map eI), .dat (eI place), .dat (eI r2.2), .dat (eI turn_here), .un])) (if (decide (0 < r1.2)) = true then (let draws_here2 : List Int := (r1.1 ++ [(r1.2 % 30)])
  let cell3 : Int := (r1.2 / 30)
  (draws_here2, cell3)) else ((r1.1, r1.2))) (ts_ifJ (st' := (fun (r2 : (List Int) × Int) => [.dat ((eR eI) script), .own (r2.1.map eI), .dat (eI place), .dat (eI r2.2), .dat (eI turn_here), .un])) (tt_gt (te_var (pv 3)) (TE.tp te_int)) (fun h6 => (tss_lt (st' := fun (draws_here2 : List Int) => [.dat ((eR eI) script), .own (draws_here2.map eI), .dat (eI place), .dat (eI r1.2), .dat (eI turn_here), .un]) (r1.1 ++ [(r1.2 % 30)]) (ts_expr (te_app (em := eI) (xs := r1.1) (x := (r1.2 % 30)) (te_mod (te_cint (by rfl) B.int (TE.tp (te_var (pv 3)))) (TE.tp te_int) (by decide)) (h5 h6) fun _ h => pe_bm PySem.F.plainAttrs_list PySem.F.slot_list_append PySem.F.type_list_append mt_append (pv 1) h))
  (fun draws_here2 => (tss_lt (st' := fun (cell3 : Int) => [.dat ((eR eI) script), .own (draws_here2.map eI), .dat (eI place), .dat (eI cell3), .dat (eI turn_here), .un]) (r1.2 / 30) (ts_set (te_fdiv (te_var (pv 3)) (TE.tp te_int) (show CDiv _ _ from ⟨by decide, by decide⟩)) (pg_name (i := 3) nd rfl (by first | exact Or.inl rfl | exact Or.inr rfl)) (nio0 io 3))
  (fun cell3 => (tss_end (fun (r2 : (List Int) × Int) => [.dat ((eR eI) script), .own (r2.1.map eI), .dat (eI place), .dat (eI r2.2), .dat (eI turn_here), .un]) (draws_here2, cell3))) rfl rfl)) rfl rfl)) (fun h6 => (tss_end (fun (r2 : (List Int) × Int) => [.dat ((eR eI) script), .own (r2.1.map eI), .dat (eI place), .dat (eI r2.2), .dat (eI turn_here), .un]) (r1.1, r1.2))))
  (fun r2 => (tss_unset (vs := [4]) (fun i hi => nio0 io i) (tss_end (fun (r1 : (List Int) × Int) => [.dat ((eR eI) script), .own (r1.1.map eI), .dat (eI place), .dat (eI r1.2), .un, .un]) (r2.1, r2.2)))) rfl rfl)) fun _ _ h1 h2 => ps_for PassesOwn.never rfl h1 (dg_name (pg_name (i := 4) nd rfl (by first | exact Or.inl rfl | exact Or.inr rfl)) (nio0 io 4)) h2)
  (fun r1 => (tss_end (fun (r : (List Int) × Int) => [.dat ((eR eI) script), .own (r.1.map eI), .dat (eI place), .dat (eI r.2), .un, .un]) (r1.1, r1.2))) rfl rfl)) (fun h4 => (tss_ltK (st' := fun (seed : Int) => [.dat ((eR eI) script), .own (draws_here1.map eI), .dat (eI place), .dat (eI cell1), .un, .dat (eI seed)]) ((((cell1 * 48271) + (place * 6007)) + 17) % 2147483629) (h17.2 h4) (ts_set (te_mod (te_cint (by rfl) B.int (TE.tp (te_add (te_add (te_mul (te_var (pv 3)) (TE.tp te_int) (.inr (by decide))) (TE.tp (te_mul (te_var (pv 2)) (TE.tp te_int) (.inr (by decide))))) (TE.tp te_int)))) (TE.tp te_int) (by decide)) (pg_name (i := 5) nd rfl (by first | exact Or.inl rfl | exact Or.inr rfl)) (nio0 io 5))
  (fun seed h15 => (tss_lt (st' := (fun (r3 : Int × (List Int)) => [.dat ((eR eI) script), .own (r3.2.map eI), .dat (eI place), .dat (eI cell1), .un, .dat (eI r3.1)])) ((rng 0 6).foldl (fun (r3 : Int × (List Int)) (turn_here1 : Int) => let seed1 : Int := (((((r3.1 * r3.1) + (turn_here1 * 90001)) + (place * 43)) + 3) % 2147483587)
  let draws_here3 : List Int := (r3.2 ++ [seed1])
  (seed1, draws_here3)) (seed, draws_here1)) (ts_fold (g := (gSet 4)) (emi := eI) (st' := (fun (r3 : Int × (List Int)) => [.dat ((eR eI) script), .own (r3.2.map eI), .dat (eI place), .dat (eI cell1), .un, .dat (eI r3.1)])) (st1 := (fun (r3 : Int × (List Int)) (turn_here1 : Int) => [.dat ((eR eI) script), .own (r3.2.map eI), .dat (eI place), .dat (eI cell1), .dat (eI turn_here1), .dat (eI r3.1)])) (body := (fun (r3 : Int × (List Int)) (turn_here1 : Int) => let seed1 : Int := (((((r3.1 * r3.1) + (turn_here1 * 90001)) + (place * 43)) + 3) % 2147483587)
  let draws_here3 : List Int := (r3.2 ++ [seed1])
  (seed1, draws_here3))) (xs := (rng 0 6)) (r0 := (seed, draws_here1)) PassesOwn.never rfl (ti_range1 (by rfl) B.range te_int (by decide)) (dg_name (pg_name (i := 4) nd rfl (by first | exact Or.inl rfl | exact Or.inr rfl)) (nio0 io 4)) (fun _ _ _ h => h) rfl h15 (fun r3 turn_here1 h11 => (tss_ltK (st' := fun (seed1 : Int) => [.dat ((eR eI) script), .own (r3.2.map eI), .dat (eI place), .dat (eI cell1), .dat (eI turn_here1), .dat (eI seed1)]) (((((r3.1 * r3.1) + (turn_here1 * 90001)) + (place * 43)) + 3) % 2147483587) h11.2 (ts_set (te_mod (te_cint (by rfl) B.int (TE.tp (te_add (te_add (te_add (te_mul (te_var (pv 5)) (TE.tp (te_var (pv 5))) h11.1) (TE.tp (te_mul (te_var (pv 4)) (TE.tp te_int) (.inr (by decide))))) (TE.tp (te_mul (te_var (pv 2)) (TE.tp te_int) (.inr (by decide))))) (TE.tp te_int)))) (TE.tp te_int) (by decide)) (pg_name (i := 5) nd rfl (by first | exact Or.inl rfl | exact Or.inr rfl)) (nio0 io 5))
  (fun seed1 h13 => (tss_lt (st' := fun (draws_here3 : List Int) => [.dat ((eR eI) script), .own (draws_here3.map eI), .dat (eI place), .dat (eI cell1), .dat (eI turn_here1), .dat (eI seed1)]) (r3.2 ++ [seed1]) (ts_expr (te_app (em := eI) (xs := r3.2) (x := seed1) (te_var (pv 5)) h13 fun _ h => pe_bm PySem.F.plainAttrs_list PySem.F.slot_list_append PySem.F.type_list_append mt_append (pv 1) h))
  (fun draws_here3 => (tss_unset (vs := [4]) (fun i hi => nio0 io i) (tss_end (fun (r3 : Int × (List Int)) => [.dat ((eR eI) script), .own (r3.2.map eI), .dat (eI place), .dat (eI cell1), .un, .dat (eI r3.1)]) (seed1, draws_here3)))) rfl rfl)) rfl rfl)) fun _ _ h1 h2 => ps_for PassesOwn.never rfl h1 (dg_name (pg_name (i := 4) nd rfl (by first | exact Or.inl rfl | exact Or.inr rfl)) (nio0 io 4)) h2)
  (fun r3 => (tss_unset (vs := [5]) (fun i hi => nio0 io i) (tss_end (fun (r : (List Int) × Int) => [.dat ((eR eI) script), .own (r.1.map eI), .dat (eI place), .dat (eI r.2), .un, .un]) (r3.2, cell1)))) rfl rfl)) rfl rfl)))
  (fun r => (tss_unset (vs := [2, 3]) (fun i hi => nio0 io i) (tss_end (fun (draws_here1 : List Int) => [.dat ((eR eI) script), .own (draws_here1.map eI), .un, .un, .un, .un]) r.1))) rfl rfl)) rfl rfl)) rfl rfl)) fun _ _ h1 h2 => ps_for PassesOwn.never rfl h1 (dg_name (pg_name (i := 2) nd rfl (by first | exact Or.inl rfl | exact Or.inr rfl)) (nio0 io 2)) h2)
  (fun draws_here1 => (tss_one (ts_retNE eI draws_here1.reverse (tn_revL (em := eI) (tp_own (pv 1)))))) rfl rfl)) rfl rfl)) rfl
/-! ### _law_take -/
abbrev s_l_take : Stmt := top 45
abbrev N_l_take : List Str := ["_law_draws_here", "_law_bound"]
theorem sc_l_take : FnScope N_l_take ["_law_draws_here", "_law_bound"] (defScope s_l_take) := ⟨rfl, rfl, rfl, by decide +kernel, rfl, by decide +kernel, by decide +kernel⟩
def T_l_take (C_Rank : Addr) : TIO := TIOi (fun (i : (List Int) × Int) => (i.1.map eI)) (fun (i : (List Int) × Int) => [eI i.2]) (fun i => ok_l_take i.1 i.2) (fun i => eI (l_take i.1 i.2).1) (fun i => (l_take i.1 i.2).2.map eI)
theorem r_l_take (B : Env K w mg C_Rank d_TURNS a_TURNS)  {cdv : Value} {A : Around} {outer : List PySem.Env} {s : Shared} {H : Hp} {E : XK} {f : Addr} {Fr : Fm} (hr : Room 0 (A.deeper (envOfC "_law_take" (defScope s_l_take) s.heap.objs.size f cdv))) (io : ∃ a, Fr.io = [(0, a)]) (draws_here : List Int) (bound : Int) (h : ok_l_take draws_here bound) :
    TSs (bcx P w K mg base N_l_take "_law_take" (defScope s_l_take) f cdv A outer s H E) Fr (defBody s_l_take) [.own (draws_here.map eI), .dat (eI bound)] (RtI eI eI (l_take draws_here bound)) := by
  have nd := sc_l_take.nd
  exact TSs.cast ((tss_ifX (rt := (RtI eI eI)) (tt_eq pyI hr.units (TE.tp (te_len (em := eI) (by rfl) B.len (tp_own (pv 0)) rfl)) (TE.tp te_int)) (by exact True.intro) (fun h1 => (tss_one (ts_retIE eI eI (0, draws_here) te_int)))
  (fun h1 => (tss_one (ts_retIE eI eI (((draws_here.getLastD default) % bound), draws_here.dropLast) (te_mod (te_cint (by rfl) B.int (TE.tp (te_pop (em := eI) (xs := draws_here) (pe_bm0 PySem.F.plainAttrs_list PySem.F.slot_list_pop PySem.F.type_list_pop mt_pop (pv 0)) (h h1).1))) (TE.tp (te_var (pv 1))) (h h1).2)))))) rfl
/-! ### _law_dense -/
abbrev s_l_dense : Stmt := top 51
abbrev N_l_dense : List Str := ["_law_numbers", "_law_unlike", "_law_number"]
theorem sc_l_dense : FnScope N_l_dense ["_law_numbers"] (defScope s_l_dense) := ⟨rfl, rfl, rfl, by decide +kernel, rfl, by decide +kernel, by decide +kernel⟩
def T_l_dense (C_Rank : Addr) : TFN := TFNi (fun (i : List Int) => [(eL eI) i]) (fun i => ok_l_dense i) (fun i => (l_dense i).map eI)
theorem r_l_dense (B : Env K w mg C_Rank d_TURNS a_TURNS)  {cdv : Value} {A : Around} {outer : List PySem.Env} {s : Shared} {H : Hp} {E : XK} {f : Addr} {Fr : Fm} (hr : Room 0 (A.deeper (envOfC "_law_dense" (defScope s_l_dense) s.heap.objs.size f cdv))) (io : Fr.io = []) (numbers : List Int) (h : ok_l_dense numbers) :
    TSs (bcx P w K mg base N_l_dense "_law_dense" (defScope s_l_dense) f cdv A outer s H E) Fr (defBody s_l_dense) [.dat ((eL eI) numbers), .un, .un] (RtN eI (l_dense numbers)) := by
  have nd := sc_l_dense.nd
  exact TSs.cast ((tss_ltK (st' := fun (unlike : List Int) => [.dat ((eL eI) numbers), .own (unlike.map eI), .un]) [] h (ts_setN (tn_lst ta_nil (le_sz 0 rfl (by decide))) (pg_name (i := 1) nd rfl (by first | exact Or.inl rfl | exact Or.inr rfl)) (nio0 io 1))
  (fun unlike h9 => (tss_ltK (st' := (fun (unlike1 : List Int) => [.dat ((eL eI) numbers), .own (unlike1.map eI), .un])) ((srt numbers).foldl (fun (unlike1 : List Int) (number : Int) => let unlike2 : List Int := (if (decide ((unlike1.length : Int) = 0) || (!decide ((pyIx unlike1 (-1)) = number))) = true then (let unlike3 : List Int := (unlike1 ++ [number])
  unlike3) else (unlike1))
  unlike2) unlike) h9.2 (ts_fold (g := (gSet 2)) (emi := eI) (st' := (fun (unlike1 : List Int) => [.dat ((eL eI) numbers), .own (unlike1.map eI), .un])) (st1 := (fun (unlike1 : List Int) (number : Int) => [.dat ((eL eI) numbers), .own (unlike1.map eI), .dat (eI number)])) (body := (fun (unlike1 : List Int) (number : Int) => let unlike2 : List Int := (if (decide ((unlike1.length : Int) = 0) || (!decide ((pyIx unlike1 (-1)) = number))) = true then (let unlike3 : List Int := (unlike1 ++ [number])
  unlike3) else (unlike1))
  unlike2)) (xs := (srt numbers)) (r0 := unlike) PassesOwn.never rfl (ti_seq (ds := List.map eI (srt numbers)) (TN.te (tn_sorted (by rfl) B.sorted (TE.tp (te_var (pv 0))) rfl)) rfl) (dg_name (pg_name (i := 2) nd rfl (by first | exact Or.inl rfl | exact Or.inr rfl)) (nio0 io 2)) (fun _ _ _ h => h) rfl h9.1 (fun unlike1 number h1 => (tss_lt (st' := (fun (unlike2 : List Int) => [.dat ((eL eI) numbers), .own (unlike2.map eI), .dat (eI number)])) (if (decide ((unlike1.length : Int) = 0) || (!decide ((pyIx unlike1 (-1)) = number))) = true then (let unlike3 : List Int := (unlike1 ++ [number])
  unlike3) else (unlike1)) (ts_ifJ (st' := (fun (unlike2 : List Int) => [.dat ((eL eI) numbers), .own (unlike2.map eI), .dat (eI number)])) (tt_w (tw_or (tt_eq pyI hr.units (TE.tp (te_len (em := eI) (by rfl) B.len (tp_own (pv 1)) rfl)) (TE.tp te_int)) (fun h2 => (tw_or1 (tt_ne pyI hr.units (TE.tp (te_ix (em := eI) (tp_own (pv 1)) rfl (TE.tp (te_neg te_int)) (h1.1 h2))) (TE.tp (te_var (pv 2)))))))) (fun h3 => (tss_lt (st' := fun (unlike3 : List Int) => [.dat ((eL eI) numbers), .own (unlike3.map eI), .dat (eI number)]) (unlike1 ++ [number]) (ts_expr (te_app (em := eI) (xs := unlike1) (x := number) (te_var (pv 2)) (h1.2 h3) fun _ h => pe_bm PySem.F.plainAttrs_list PySem.F.slot_list_append PySem.F.type_list_append mt_append (pv 1) h))
  (fun unlike3 => (tss_end (fun (unlike2 : List Int) => [.dat ((eL eI) numbers), .own (unlike2.map eI), .dat (eI number)]) unlike3)) rfl rfl)) (fun h3 => (tss_end (fun (unlike2 : List Int) => [.dat ((eL eI) numbers), .own (unlike2.map eI), .dat (eI number)]) unlike1)))
  (fun unlike2 => (tss_unset (vs := [2]) (fun i hi => nio0 io i) (tss_end (fun (unlike1 : List Int) => [.dat ((eL eI) numbers), .own (unlike1.map eI), .un]) unlike2))) rfl rfl)) fun _ _ h1 h2 => ps_for PassesOwn.never rfl h1 (dg_name (pg_name (i := 2) nd rfl (by first | exact Or.inl rfl | exact Or.inr rfl)) (nio0 io 2)) h2)
  (fun unlike1 h8 => (tss_one (ts_retNE eI (numbers.map (fun (number1 : Int) => (idxI unlike1 number1))) (tn_lc0 (δ2 := [.dat ((eL eI) numbers), .own (unlike1.map eI), .un]) (own := [("_law_number", 2)]) (g := (gSet 2)) (emi := eI) (emo := eI) (xs := numbers) (sx := fun (number1 : Int) => [.dat ((eL eI) numbers), .own (unlike1.map eI), .dat (eI number1)]) (f := fun (number1 : Int) => (idxI unlike1 number1))  rfl nd (ti_seq (ds := List.map eI numbers) (te_var (pv 0)) rfl) (blkOk_by (N := N_l_dense) (sc := defScope s_l_dense) (by decide +kernel)) (fun _ _ _ _ _ _ n => (dg_name (pg_name (i := 2) nd rfl (by first | exact Or.inl rfl | exact Or.inr rfl)) (n 2 (by simp)))) (fun _ _ h => h) (fun number1 h6 _ _ _ _ _ _ => (te_index fyI (tp_own (pv 1)) (te_var (pv 2)) (h8 number1 h6) fun _ _ h1 h2 => pe_bm PySem.F.plainAttrs_list PySem.F.slot_list_index PySem.F.type_list_index mt_index h1 h2)))))) rfl rfl)) rfl rfl)) rfl
/-! ### _law_rank -/
abbrev s_l_rank : Stmt := top 52
abbrev N_l_rank : List Str := ["_law_draws_here", "_law_worlds", "_law_world"]
theorem sc_l_rank : FnScope N_l_rank ["_law_draws_here", "_law_worlds"] (defScope s_l_rank) := ⟨rfl, rfl, rfl, by decide +kernel, rfl, by decide +kernel, by decide +kernel⟩
def T_l_rank (C_Rank : Addr) : TIO := TIOi (fun (i : (List Int) × Int) => (i.1.map eI)) (fun (i : (List Int) × Int) => [eI i.2]) (fun i => ok_l_rank i.1 i.2) (fun i => (eL eI) (l_rank i.1 i.2).1) (fun i => (l_rank i.1 i.2).2.map eI)
theorem r_l_rank (B : Env K w mg C_Rank d_TURNS a_TURNS) (c_l_take : Ca P w K mg base "_law_take" 1 (spIO K 2 (T_l_take C_Rank))) (c_l_dense : Ca P w K mg base "_law_dense" 1 (spFN K 1 (T_l_dense C_Rank))) {cdv : Value} {A : Around} {outer : List PySem.Env} {s : Shared} {H : Hp} {E : XK} {f : Addr} {Fr : Fm} (hr : Room 1 (A.deeper (envOfC "_law_rank" (defScope s_l_rank) s.heap.objs.size f cdv))) (io : ∃ a, Fr.io = [(0, a)]) (draws_here : List Int) (worlds : Int) (h : ok_l_rank draws_here worlds) :
    TSs (bcx P w K mg base N_l_rank "_law_rank" (defScope s_l_rank) f cdv A outer s H E) Fr (defBody s_l_rank) [.own (draws_here.map eI), .dat (eI worlds), .un] (RtI (eL eI) eI (l_rank draws_here worlds)) := by
  have nd := sc_l_rank.nd
  exact TSs.cast ((tss_one (ts_retIE (eL eI) eI ((l_dense ((compS (turnS (fun (r : (List Int)) (world : Int) => true) (fun (r : (List Int)) (world : Int) => (r)) (fun (r : (List Int)) (world : Int) => (l_take r worlds).1) (fun (r : (List Int)) (world : Int) => ((l_take r worlds).2))) (rng 0 worlds) (draws_here)).1)), (compS (turnS (fun (r : (List Int)) (world : Int) => true) (fun (r : (List Int)) (world : Int) => (r)) (fun (r : (List Int)) (world : Int) => (l_take r worlds).1) (fun (r : (List Int)) (world : Int) => ((l_take r worlds).2))) (rng 0 worlds) (draws_here)).2) (TN.te (tn_call c_l_dense hr (by decide) (by rfl) (ta_cons (TN.te (tn_lcS (own := [("_law_world", 2)]) (g := (gSet 2)) (emi := eI) (emo := eI) (xs := (rng 0 worlds)) (st := fun (r : (List Int)) => [.own (r.map eI), .dat (eI worlds), .un]) (sx := fun (r : (List Int)) (world : Int) => [.own (r.map eI), .dat (eI worlds), .dat (eI world)]) (t := (fun (r : (List Int)) (world : Int) => true)) (r1 := (fun (r : (List Int)) (world : Int) => (r))) (r2 := (fun (r : (List Int)) (world : Int) => ((l_take r worlds).2))) (f := (fun (r : (List Int)) (world : Int) => (l_take r worlds).1)) (r0 := (draws_here)) rfl nd (ti_range1 (by rfl) B.range (te_var (pv 1)) h.1) (blkOk_by (N := N_l_rank) (sc := defScope s_l_rank) (by decide +kernel)) h.2.1 (fun _ _ _ _ _ _ n => (dg_name (pg_name (i := 2) nd rfl (by first | exact Or.inl rfl | exact Or.inr rfl)) (n 2 (by simp)))) (fun _ _ _ h => h) (fun r world h3 _ _ _ _ _ _ => tts_nil) (fun r world h3 h2 _ _ _ _ _ _ => (te_callIO (i := 0) c_l_take hr (by decide) (by rfl) (pv 0) (ta_cons (te_var (pv 1)) ta_nil) rfl (fun _ q_ => ⟨(r, worlds), (h3 h2), rfl, rfl, q_⟩))))) ta_nil) (fun _ q_ => ⟨((compS (turnS (fun (r : (List Int)) (world : Int) => true) (fun (r : (List Int)) (world : Int) => (r)) (fun (r : (List Int)) (world : Int) => (l_take r worlds).1) (fun (r : (List Int)) (world : Int) => ((l_take r worlds).2))) (rng 0 worlds) (draws_here)).1), h.2.2, rfl, q_⟩)))))) rfl
/-! ### _law_held -/
abbrev s_l_held : Stmt := top 55
abbrev N_l_held : List Str := ["_law_levels", "_law_world"]
theorem sc_l_held : FnScope N_l_held ["_law_levels"] (defScope s_l_held) := ⟨rfl, rfl, rfl, by decide +kernel, rfl, by decide +kernel, by decide +kernel⟩
def T_l_held (C_Rank : Addr) : TF := TFi (fun (i : List Int) => [(eL eI) i]) (fun i => ok_l_held i) (fun i => (eT eI) (l_held i))
theorem r_l_held (B : Env K w mg C_Rank d_TURNS a_TURNS)  {cdv : Value} {A : Around} {outer : List PySem.Env} {s : Shared} {H : Hp} {E : XK} {f : Addr} {Fr : Fm} (hr : Room 0 (A.deeper (envOfC "_law_held" (defScope s_l_held) s.heap.objs.size f cdv))) (io : Fr.io = []) (levels : List Int) (h : ok_l_held levels) :
    TSs (bcx P w K mg base N_l_held "_law_held" (defScope s_l_held) f cdv A outer s H E) Fr (defBody s_l_held) [.dat ((eL eI) levels), .un] (Rt (eT eI) (l_held levels)) := by
  have nd := sc_l_held.nd
  exact TSs.cast ((tss_one (ts_retE (eT eI) ((rng 0 (levels.length : Int)).filter (fun (world : Int) => decide ((pyIx levels world) = 0))) (te_tuple (em := eI) (by rfl) B.tuple (TN.tp (tn_lcf (δ2 := [.dat ((eL eI) levels), .un]) (own := [("_law_world", 1)]) (g := (gSet 1)) (emi := eI) (emx := eI) (xs := (rng 0 (levels.length : Int))) (sx := fun (world : Int) => [.dat ((eL eI) levels), .dat (eI world)]) (t := fun (world : Int) => decide ((pyIx levels world) = 0))  rfl nd (ti_range1 (by rfl) B.range (te_len (em := eI) (by rfl) B.len (TE.tp (te_var (pv 0))) rfl) h.1) (blkOk_by (N := N_l_held) (sc := defScope s_l_held) (by decide +kernel)) (fun _ _ _ _ _ _ n => (dg_name (pg_name (i := 1) nd rfl (by first | exact Or.inl rfl | exact Or.inr rfl)) (n 1 (by simp)))) (fun _ _ h => h) (fun world h1 _ _ _ _ _ _ => (tts_one (tt_eq pyI hr.units (TE.tp (te_ixE (em := eI) (te_var (pv 0)) rfl (TE.tp (te_var (pv 1))) (h.2 world h1))) (TE.tp te_int)))) (fun world h1 h2 _ _ _ _ _ _ => (te_var (pv 1))))) rfl)))) rfl
/-! ### _law_rest -/
abbrev s_l_rest : Stmt := top 48
abbrev N_l_rest : List Str := ["_law_lot_here", "_law_worlds", "_law_world"]
theorem sc_l_rest : FnScope N_l_rest ["_law_lot_here", "_law_worlds"] (defScope s_l_rest) := ⟨rfl, rfl, rfl, by decide +kernel, rfl, by decide +kernel, by decide +kernel⟩
def T_l_rest (C_Rank : Addr) : TF := TFi (fun (i : (List Int) × Int) => [(eT eI) i.1, eI i.2]) (fun i => ok_l_rest i.1 i.2) (fun i => (eT eI) (l_rest i.1 i.2))
theorem r_l_rest (B : Env K w mg C_Rank d_TURNS a_TURNS)  {cdv : Value} {A : Around} {outer : List PySem.Env} {s : Shared} {H : Hp} {E : XK} {f : Addr} {Fr : Fm} (hr : Room 0 (A.deeper (envOfC "_law_rest" (defScope s_l_rest) s.heap.objs.size f cdv))) (io : Fr.io = []) (lot_here : List Int) (worlds : Int) (h : ok_l_rest lot_here worlds) :
    TSs (bcx P w K mg base N_l_rest "_law_rest" (defScope s_l_rest) f cdv A outer s H E) Fr (defBody s_l_rest) [.dat ((eT eI) lot_here), .dat (eI worlds), .un] (Rt (eT eI) (l_rest lot_here worlds)) := by
  have nd := sc_l_rest.nd
  exact TSs.cast ((tss_one (ts_retE (eT eI) ((rng 0 worlds).filter (fun (world : Int) => (!decide (world ∈ lot_here)))) (te_tuple (em := eI) (by rfl) B.tuple (TN.tp (tn_lcf (δ2 := [.dat ((eT eI) lot_here), .dat (eI worlds), .un]) (own := [("_law_world", 2)]) (g := (gSet 2)) (emi := eI) (emx := eI) (xs := (rng 0 worlds)) (sx := fun (world : Int) => [.dat ((eT eI) lot_here), .dat (eI worlds), .dat (eI world)]) (t := fun (world : Int) => (!decide (world ∈ lot_here)))  rfl nd (ti_range1 (by rfl) B.range (te_var (pv 1)) h) (blkOk_by (N := N_l_rest) (sc := defScope s_l_rest) (by decide +kernel)) (fun _ _ _ _ _ _ n => (dg_name (pg_name (i := 2) nd rfl (by first | exact Or.inl rfl | exact Or.inr rfl)) (n 2 (by simp)))) (fun _ _ h => h) (fun world h1 _ _ _ _ _ _ => (tts_one (tt_notin fyI (te_var (pv 2)) (TE.tp (te_var (pv 0))) rfl))) (fun world h1 h2 _ _ _ _ _ _ => (te_var (pv 2))))) rfl)))) rfl
/-! ### _law_lot -/
abbrev s_l_lot : Stmt := top 46
abbrev N_l_lot : List Str := ["_law_draws_here", "_law_worlds", "_law_world"]
theorem sc_l_lot : FnScope N_l_lot ["_law_draws_here", "_law_worlds"] (defScope s_l_lot) := ⟨rfl, rfl, rfl, by decide +kernel, rfl, by decide +kernel, by decide +kernel⟩
def T_l_lot (C_Rank : Addr) : TIO := TIOi (fun (i : (List Int) × Int) => (i.1.map eI)) (fun (i : (List Int) × Int) => [eI i.2]) (fun i => ok_l_lot i.1 i.2) (fun i => (eT eI) (l_lot i.1 i.2).1) (fun i => (l_lot i.1 i.2).2.map eI)
theorem r_l_lot (B : Env K w mg C_Rank d_TURNS a_TURNS) (c_l_take : Ca P w K mg base "_law_take" 1 (spIO K 2 (T_l_take C_Rank))) {cdv : Value} {A : Around} {outer : List PySem.Env} {s : Shared} {H : Hp} {E : XK} {f : Addr} {Fr : Fm} (hr : Room 1 (A.deeper (envOfC "_law_lot" (defScope s_l_lot) s.heap.objs.size f cdv))) (io : ∃ a, Fr.io = [(0, a)]) (draws_here : List Int) (worlds : Int) (h : ok_l_lot draws_here worlds) :
    TSs (bcx P w K mg base N_l_lot "_law_lot" (defScope s_l_lot) f cdv A outer s H E) Fr (defBody s_l_lot) [.own (draws_here.map eI), .dat (eI worlds), .un] (RtI (eT eI) eI (l_lot draws_here worlds)) := by
  have nd := sc_l_lot.nd
  exact TSs.cast ((tss_one (ts_retIE (eT eI) eI ((compS (turnS (fun (r : (List Int)) (world : Int) => decide ((l_take r 2).1 = 1)) (fun (r : (List Int)) (world : Int) => ((l_take r 2).2)) (fun (r : (List Int)) (world : Int) => world) (fun (r : (List Int)) (world : Int) => ((l_take r 2).2))) (rng 0 worlds) (draws_here)).1, (compS (turnS (fun (r : (List Int)) (world : Int) => decide ((l_take r 2).1 = 1)) (fun (r : (List Int)) (world : Int) => ((l_take r 2).2)) (fun (r : (List Int)) (world : Int) => world) (fun (r : (List Int)) (world : Int) => ((l_take r 2).2))) (rng 0 worlds) (draws_here)).2) (te_tuple (em := eI) (by rfl) B.tuple (TN.tp (tn_lcS (own := [("_law_world", 2)]) (g := (gSet 2)) (emi := eI) (emo := eI) (xs := (rng 0 worlds)) (st := fun (r : (List Int)) => [.own (r.map eI), .dat (eI worlds), .un]) (sx := fun (r : (List Int)) (world : Int) => [.own (r.map eI), .dat (eI worlds), .dat (eI world)]) (t := (fun (r : (List Int)) (world : Int) => decide ((l_take r 2).1 = 1))) (r1 := (fun (r : (List Int)) (world : Int) => ((l_take r 2).2))) (r2 := (fun (r : (List Int)) (world : Int) => ((l_take r 2).2))) (f := (fun (r : (List Int)) (world : Int) => world)) (r0 := (draws_here)) rfl nd (ti_range1 (by rfl) B.range (te_var (pv 1)) h.1) (blkOk_by (N := N_l_lot) (sc := defScope s_l_lot) (by decide +kernel)) h.2 (fun _ _ _ _ _ _ n => (dg_name (pg_name (i := 2) nd rfl (by first | exact Or.inl rfl | exact Or.inr rfl)) (n 2 (by simp)))) (fun _ _ _ h => h) (fun r world h3 _ _ _ _ _ _ => (tts_one (tt_eq pyI hr.units (TE.tp (te_callIO (i := 0) c_l_take hr (by decide) (by rfl) (pv 0) (ta_cons te_int ta_nil) rfl (fun _ q_ => ⟨(r, 2), h3, rfl, rfl, q_⟩))) (TE.tp te_int)))) (fun r world h3 h2 _ _ _ _ _ _ => (te_var (pv 2))))) rfl)))) rfl
/-! ### _law_plus -/
abbrev s_l_plus : Stmt := top 49
abbrev N_l_plus : List Str := ["_law_one", "_law_other", "_law_world"]
theorem sc_l_plus : FnScope N_l_plus ["_law_one", "_law_other"] (defScope s_l_plus) := ⟨rfl, rfl, rfl, by decide +kernel, rfl, by decide +kernel, by decide +kernel⟩
def T_l_plus (C_Rank : Addr) : TF := TFi (fun (i : (List Int) × (List Int)) => [(eT eI) i.1, (eT eI) i.2]) (fun i => ok_l_plus i.1 i.2) (fun i => (eT eI) (l_plus i.1 i.2))
theorem r_l_plus (B : Env K w mg C_Rank d_TURNS a_TURNS)  {cdv : Value} {A : Around} {outer : List PySem.Env} {s : Shared} {H : Hp} {E : XK} {f : Addr} {Fr : Fm} (hr : Room 0 (A.deeper (envOfC "_law_plus" (defScope s_l_plus) s.heap.objs.size f cdv))) (io : Fr.io = []) (one : List Int) (other : List Int) (h : ok_l_plus one other) :
    TSs (bcx P w K mg base N_l_plus "_law_plus" (defScope s_l_plus) f cdv A outer s H E) Fr (defBody s_l_plus) [.dat ((eT eI) one), .dat ((eT eI) other), .un] (Rt (eT eI) (l_plus one other)) := by
  have nd := sc_l_plus.nd
  exact TSs.cast ((tss_one (ts_retE (eT eI) (srt (one ++ (other.filter (fun (world : Int) => (!decide (world ∈ one)))))) (te_tuple (em := eI) (by rfl) B.tuple (TN.tp (tn_sorted (by rfl) B.sorted (TN.tp (tn_catL (em := eI) (TN.tp (tn_list (em := eI) (by rfl) B.list (TE.tp (te_var (pv 0))) rfl)) (TN.tp (tn_lcf (δ2 := [.dat ((eT eI) one), .dat ((eT eI) other), .un]) (own := [("_law_world", 2)]) (g := (gSet 2)) (emi := eI) (emx := eI) (xs := other) (sx := fun (world : Int) => [.dat ((eT eI) one), .dat ((eT eI) other), .dat (eI world)]) (t := fun (world : Int) => (!decide (world ∈ one)))  rfl nd (ti_seq (ds := List.map eI other) (te_var (pv 1)) rfl) (blkOk_by (N := N_l_plus) (sc := defScope s_l_plus) (by decide +kernel)) (fun _ _ _ _ _ _ n => (dg_name (pg_name (i := 2) nd rfl (by first | exact Or.inl rfl | exact Or.inr rfl)) (n 2 (by simp)))) (fun _ _ h => h) (fun world h1 _ _ _ _ _ _ => (tts_one (tt_notin fyI (te_var (pv 2)) (TE.tp (te_var (pv 0))) rfl))) (fun world h1 h2 _ _ _ _ _ _ => (te_var (pv 2))))) h)) rfl)) rfl)))) rfl
/-! ### _law_around -/
abbrev s_l_around : Stmt := top 58
abbrev N_l_around : List Str := ["_law_draws_here", "_law_levels", "_law_worlds", "_law_held_here", "_law_rest_here", "_law_missing", "_law_more", "_law_world"]
theorem sc_l_around : FnScope N_l_around ["_law_draws_here", "_law_levels"] (defScope s_l_around) := ⟨rfl, rfl, rfl, by decide +kernel, rfl, by decide +kernel, by decide +kernel⟩
def T_l_around (C_Rank : Addr) : TIO := TIOi (fun (i : (List Int) × (List Int)) => (i.1.map eI)) (fun (i : (List Int) × (List Int)) => [(eL eI) i.2]) (fun i => ok_l_around i.1 i.2) (fun i => (eT eI) (l_around i.1 i.2).1) (fun i => (l_around i.1 i.2).2.map eI)
theorem r_l_around (B : Env K w mg C_Rank d_TURNS a_TURNS) (c_l_held : Ca P w K mg base "_law_held" 1 (spF K 1 (T_l_held C_Rank))) (c_l_rest : Ca P w K mg base "_law_rest" 1 (spF K 2 (T_l_rest C_Rank))) (c_l_take : Ca P w K mg base "_law_take" 1 (spIO K 2 (T_l_take C_Rank))) (c_l_lot : Ca P w K mg base "_law_lot" 2 (spIO K 2 (T_l_lot C_Rank))) (c_l_plus : Ca P w K mg base "_law_plus" 1 (spF K 2 (T_l_plus C_Rank))) {cdv : Value} {A : Around} {outer : List PySem.Env} {s : Shared} {H : Hp} {E : XK} {f : Addr} {Fr : Fm} (hr : Room 2 (A.deeper (envOfC "_law_around" (defScope s_l_around) s.heap.objs.size f cdv))) (io : ∃ a, Fr.io = [(0, a)]) (draws_here : List Int) (levels : List Int) (h : ok_l_around draws_here levels) :
    TSs (bcx P w K mg base N_l_around "_law_around" (defScope s_l_around) f cdv A outer s H E) Fr (defBody s_l_around) [.own (draws_here.map eI), .dat ((eL eI) levels), .un, .un, .un, .un, .un, .un] (RtI (eT eI) eI (l_around draws_here levels)) := by
  have nd := sc_l_around.nd
  exact TSs.cast ((tss_ltK (st' := fun (worlds : Int) => [.own (draws_here.map eI), .dat ((eL eI) levels), .dat (eI worlds), .un, .un, .un, .un, .un]) (levels.length : Int) h (ts_set (te_len (em := eI) (by rfl) B.len (TE.tp (te_var (pv 1))) rfl) (pg_name (i := 2) nd rfl (by first | exact Or.inl rfl | exact Or.inr rfl)) (nio1 io (by decide)))
  (fun worlds h7 => (tss_ltK (st' := fun (held_here : List Int) => [.own (draws_here.map eI), .dat ((eL eI) levels), .dat (eI worlds), .dat ((eT eI) held_here), .un, .un, .un, .un]) (l_held levels) h7.2 (ts_set (te_call c_l_held hr (by decide) (by rfl) (ta_cons (te_var (pv 1)) ta_nil) (fun _ q_ => ⟨(levels), h7.1, rfl, q_⟩)) (pg_name (i := 3) nd rfl (by first | exact Or.inl rfl | exact Or.inr rfl)) (nio1 io (by decide)))
  (fun held_here h6 => (tss_ltK (st' := fun (rest_here : List Int) => [.own (draws_here.map eI), .dat ((eL eI) levels), .dat (eI worlds), .dat ((eT eI) held_here), .dat ((eT eI) rest_here), .un, .un, .un]) (l_rest held_here worlds) h6.2 (ts_set (te_call c_l_rest hr (by decide) (by rfl) (ta_cons (te_var (pv 3)) (ta_cons (te_var (pv 2)) ta_nil)) (fun _ q_ => ⟨(held_here, worlds), h6.1, rfl, q_⟩)) (pg_name (i := 4) nd rfl (by first | exact Or.inl rfl | exact Or.inr rfl)) (nio1 io (by decide)))
  (fun rest_here h5 => (tss_ltK (st' := fun (v : Int × (List Int)) => [.own (v.2.map eI), .dat ((eL eI) levels), .dat (eI worlds), .dat ((eT eI) held_here), .dat ((eT eI) rest_here), .dat (eI v.1), .un, .un]) ((pyIx rest_here ((l_take draws_here (rest_here.length : Int)).1)), (l_take draws_here (rest_here.length : Int)).2) h5.2.2 (ts_set (te_ixE (em := eI) (te_var (pv 4)) rfl (TE.tp (te_callIO (i := 0) c_l_take hr (by decide) (by rfl) (pv 0) (ta_cons (te_len (em := eI) (by rfl) B.len (TE.tp (te_var (pv 4))) rfl) ta_nil) rfl (fun _ q_ => ⟨(draws_here, (rest_here.length : Int)), h5.1, rfl, rfl, q_⟩))) h5.2.1) (pg_name (i := 5) nd rfl (by first | exact Or.inl rfl | exact Or.inr rfl)) (nio1 io (by decide)))
  (fun v h4 => (tss_ltK (st' := fun (v1 : (List Int) × (List Int)) => [.own (v1.2.map eI), .dat ((eL eI) levels), .dat (eI worlds), .dat ((eT eI) held_here), .dat ((eT eI) rest_here), .dat (eI v.1), .own (v1.1.map eI), .un]) ((((l_lot v.2 worlds).1).filter (fun (world : Int) => (!decide (world = v.1)))), (l_lot v.2 worlds).2) h4.2 (ts_setLcf (i := 6) (δ2 := [.own (((l_lot v.2 worlds).2).map eI), .dat ((eL eI) levels), .dat (eI worlds), .dat ((eT eI) held_here), .dat ((eT eI) rest_here), .dat (eI v.1), .un, .un]) (own := [("_law_world", 7)]) (g := (gSet 7)) (emi := eI) (emx := eI) (xs := (l_lot v.2 worlds).1) (sx := fun (world : Int) => [.own (((l_lot v.2 worlds).2).map eI), .dat ((eL eI) levels), .dat (eI worlds), .dat ((eT eI) held_here), .dat ((eT eI) rest_here), .dat (eI v.1), .un, .dat (eI world)]) (t := fun (world : Int) => (!decide (world = v.1)))  rfl nd rfl rfl (sw_true rfl rfl rfl (by decide +kernel)) (ti_seq (ds := List.map eI ((l_lot v.2 worlds).1)) (te_callIO (i := 0) c_l_lot hr (by decide) (by rfl) (pv 0) (ta_cons (te_var (pv 2)) ta_nil) rfl (fun _ q_ => ⟨(v.2, worlds), h4.1, rfl, rfl, q_⟩)) rfl) (blkOk_by (N := N_l_around) (sc := defScope s_l_around) (by decide +kernel)) (nio1 io (by decide)) (fun _ _ _ _ _ _ n => (dg_name (pg_name (i := 7) nd rfl (by first | exact Or.inl rfl | exact Or.inr rfl)) (n 7 (by simp)))) (fun _ _ h => h) (fun world h1 _ _ _ _ _ _ => (tts_one (tt_ne pyI hr.units (TE.tp (te_var (pv 7))) (TE.tp (te_var (pv 5)))))) (fun world h1 h2 _ _ _ _ _ _ => (te_var (pv 7))))
  (fun v1 h3 => (tss_frz (n := 6) (nio1 io (by decide)) rfl (tss_one (ts_retIE (eT eI) eI ((l_plus held_here v1.1), v1.2) (te_call c_l_plus hr (by decide) (by rfl) (ta_cons (te_var (pv 3)) (ta_cons (te_tuple (em := eI) (by rfl) B.tuple (TE.tp (te_var (pv 6))) rfl) ta_nil)) (fun _ q_ => ⟨(held_here, v1.1), h3, rfl, q_⟩)))))) rfl rfl)) rfl rfl)) rfl rfl)) rfl rfl)) rfl rfl)) rfl
/-! ### is_row -/
abbrev s_f_is_row : Stmt := top 12
abbrev N_f_is_row : List Str := ["value"]
theorem sc_f_is_row : FnScope N_f_is_row ["value"] (defScope s_f_is_row) := ⟨rfl, rfl, rfl, by decide +kernel, rfl, by decide +kernel, by decide +kernel⟩
def T_f_is_row (C_Rank : Addr) : TF := TFi (fun (i : List Int) => [(eL eI) i]) (fun _ => True) (fun i => eB (f_is_row i))
theorem r_f_is_row (B : Env K w mg C_Rank d_TURNS a_TURNS)  {cdv : Value} {A : Around} {outer : List PySem.Env} {s : Shared} {H : Hp} {E : XK} {f : Addr} {Fr : Fm} (hr : Room 0 (A.deeper (envOfC "is_row" (defScope s_f_is_row) s.heap.objs.size f cdv))) (io : Fr.io = []) (value : List Int) :
    TSs (bcx P w K mg base N_f_is_row "is_row" (defScope s_f_is_row) f cdv A outer s H E) Fr (defBody s_f_is_row) [.dat ((eL eI) value)] (Rt eB (f_is_row value)) := by
  have nd := sc_f_is_row.nd
  exact TSs.cast ((tss_one (ts_retE eB true (te_isiT (Ts := ["list", "tuple"]) (by rfl) B.isinstance (TE.tp (te_var (pv 0))) (pa_cons (pe_bltn (v := .ty "list") (u := .type "list") (by rfl) B.list (by decide +kernel) rfl) (pa_cons (pe_bltn (v := .ty "tuple") (u := .type "tuple") (by rfl) B.tuple (by decide +kernel) rfl) pa_nil)) (by decide) rfl (by decide +kernel))))) rfl
/-! ### is_integer -/
abbrev s_f_is_integer : Stmt := top 10
abbrev N_f_is_integer : List Str := ["value"]
theorem sc_f_is_integer : FnScope N_f_is_integer ["value"] (defScope s_f_is_integer) := ⟨rfl, rfl, rfl, by decide +kernel, rfl, by decide +kernel, by decide +kernel⟩
def T_f_is_integer (C_Rank : Addr) : TF := TFi (fun (i : Int) => [eI i]) (fun _ => True) (fun i => eB (f_is_integer i))
theorem r_f_is_integer (B : Env K w mg C_Rank d_TURNS a_TURNS)  {cdv : Value} {A : Around} {outer : List PySem.Env} {s : Shared} {H : Hp} {E : XK} {f : Addr} {Fr : Fm} (hr : Room 0 (A.deeper (envOfC "is_integer" (defScope s_f_is_integer) s.heap.objs.size f cdv))) (io : Fr.io = []) (value : Int) :
    TSs (bcx P w K mg base N_f_is_integer "is_integer" (defScope s_f_is_integer) f cdv A outer s H E) Fr (defBody s_f_is_integer) [.dat (eI value)] (Rt eB (f_is_integer value)) := by
  have nd := sc_f_is_integer.nd
  exact TSs.cast ((tss_one (ts_retE eB (true && (!false)) (te_band (te_isi (T := "int") (by rfl) B.isinstance (TE.tp (te_var (pv 0))) (pe_bltn (v := .ty "int") (u := .type "int") (by rfl) B.int (by decide +kernel) rfl) rfl (by decide +kernel)) (fun h1 => (te_one (te_not (te_isi (T := "bool") (by rfl) B.isinstance (TE.tp (te_var (pv 0))) (pe_bltn (v := .ty "bool") (u := .type "bool") (by rfl) B.bool (by decide +kernel) rfl) rfl (by decide +kernel))))))))) rfl
/-! ### cells_by -/
abbrev s_f_cells_by : Stmt := top 29
abbrev N_f_cells_by : List Str := ["numbers", "steps", "world", "number", "step"]
theorem sc_f_cells_by : FnScope N_f_cells_by ["numbers"] (defScope s_f_cells_by) := ⟨rfl, rfl, rfl, by decide +kernel, rfl, by decide +kernel, by decide +kernel⟩
def T_f_cells_by (C_Rank : Addr) : TFN := TFNi (fun (i : List Int) => [(eL eI) i]) (fun i => ok_f_cells_by i) (fun i => (f_cells_by i).map (eL eI))
theorem r_f_cells_by (B : Env K w mg C_Rank d_TURNS a_TURNS)  {cdv : Value} {A : Around} {outer : List PySem.Env} {s : Shared} {H : Hp} {E : XK} {f : Addr} {Fr : Fm} (hr : Room 0 (A.deeper (envOfC "cells_by" (defScope s_f_cells_by) s.heap.objs.size f cdv))) (io : Fr.io = []) (numbers : List Int) (h : ok_f_cells_by numbers) :
    TSs (bcx P w K mg base N_f_cells_by "cells_by" (defScope s_f_cells_by) f cdv A outer s H E) Fr (defBody s_f_cells_by) [.dat ((eL eI) numbers), .un, .un, .un, .un] (RtN (eL eI) (f_cells_by numbers)) := by
  have nd := sc_f_cells_by.nd
  exact TSs.cast ((tss_lt (st' := fun (steps : List Int) => [.dat ((eL eI) numbers), .dat ((eL eI) steps), .un, .un, .un]) (sset numbers) (ts_set (TN.te (tn_srtSet (by rfl) (by rfl) B.sorted (by rfl) B.set (TE.tp (te_var (pv 0))) h)) (pg_name (i := 1) nd rfl (by first | exact Or.inl rfl | exact Or.inr rfl)) (nio0 io 1))
  (fun steps => (tss_one (ts_retNE (eL eI) (steps.map (fun (step : Int) => (((enm 0 numbers).filter (fun (p : Int × Int) => decide (p.2 = step))).map (fun (p : Int × Int) => p.1)))) (tn_lc0 (δ2 := [.dat ((eL eI) numbers), .dat ((eL eI) steps), .un, .un, .un]) (own := [("step", 4)]) (g := (gSet 4)) (emi := eI) (emo := (eL eI)) (xs := steps) (sx := fun (step : Int) => [.dat ((eL eI) numbers), .dat ((eL eI) steps), .un, .un, .dat (eI step)]) (f := fun (step : Int) => (((enm 0 numbers).filter (fun (p : Int × Int) => decide (p.2 = step))).map (fun (p : Int × Int) => p.1)))  rfl nd (ti_seq (ds := List.map eI steps) (te_var (pv 1)) rfl) (blkOk_by (N := N_f_cells_by) (sc := defScope s_f_cells_by) (by decide +kernel)) (fun _ _ _ _ _ _ n => (dg_name (pg_name (i := 4) nd rfl (by first | exact Or.inl rfl | exact Or.inr rfl)) (n 4 (by simp)))) (fun _ _ h => h) (fun step h1 _ _ _ _ _ _ => (TN.te (tn_lc (δ2 := [.dat ((eL eI) numbers), .dat ((eL eI) steps), .un, .un, .dat (eI step)]) (own := [("world", 2), ("number", 3)]) (g := (wgTup 2 (wgCons (gSet 2) (wgCons (gSet 3) wgNil)))) (emi := (eP2 eI eI)) (emo := eI) (xs := (enm 0 numbers)) (sx := fun (p : Int × Int) => [.dat ((eL eI) numbers), .dat ((eL eI) steps), .dat (eI p.1), .dat (eI p.2), .dat (eI step)]) (t := fun (p : Int × Int) => decide (p.2 = step)) (f := fun (p : Int × Int) => p.1)  rfl nd (ti_enum (em := eI) (by rfl) B.enumerate (te_var (pv 0)) rfl) (blkOk_blk (N := N_f_cells_by) (by decide +kernel)) (fun _ _ _ _ _ _ n => (dg_tup rfl (dgs_cons (dg_name (pg_name (i := 2) nd rfl (by first | exact Or.inl rfl | exact Or.inr rfl)) (n 2 (by simp))) (dgs_cons (dg_name (pg_name (i := 3) nd rfl (by first | exact Or.inl rfl | exact Or.inr rfl)) (n 3 (by simp))) dgs_nil)))) (fun _ _ h => ⟨_, rfl, rfl, _, _, rfl, _, _, rfl, rfl, h⟩) (fun p h3 _ _ _ _ _ _ => (tts_one (tt_eq pyI hr.units (TE.tp (te_var (pv 3))) (TE.tp (te_var (pv 4)))))) (fun p h3 h4 _ _ _ _ _ _ => (te_var (pv 2)))))))))) rfl rfl)) rfl
/-! ### is_row -/
abbrev s_f_is_row_2 : Stmt := top 12
abbrev N_f_is_row_2 : List Str := ["value"]
theorem sc_f_is_row_2 : FnScope N_f_is_row_2 ["value"] (defScope s_f_is_row_2) := ⟨rfl, rfl, rfl, by decide +kernel, rfl, by decide +kernel, by decide +kernel⟩
def T_f_is_row_2 (C_Rank : Addr) : TF := TFi (fun (i : List (List Int)) => [(eL (eL eI)) i]) (fun _ => True) (fun i => eB (f_is_row_2 i))
theorem r_f_is_row_2 (B : Env K w mg C_Rank d_TURNS a_TURNS)  {cdv : Value} {A : Around} {outer : List PySem.Env} {s : Shared} {H : Hp} {E : XK} {f : Addr} {Fr : Fm} (hr : Room 0 (A.deeper (envOfC "is_row" (defScope s_f_is_row_2) s.heap.objs.size f cdv))) (io : Fr.io = []) (value : List (List Int)) :
    TSs (bcx P w K mg base N_f_is_row_2 "is_row" (defScope s_f_is_row_2) f cdv A outer s H E) Fr (defBody s_f_is_row_2) [.dat ((eL (eL eI)) value)] (Rt eB (f_is_row_2 value)) := by
  have nd := sc_f_is_row_2.nd
  exact TSs.cast ((tss_one (ts_retE eB true (te_isiT (Ts := ["list", "tuple"]) (by rfl) B.isinstance (TE.tp (te_var (pv 0))) (pa_cons (pe_bltn (v := .ty "list") (u := .type "list") (by rfl) B.list (by decide +kernel) rfl) (pa_cons (pe_bltn (v := .ty "tuple") (u := .type "tuple") (by rfl) B.tuple (by decide +kernel) rfl) pa_nil)) (by decide) rfl (by decide +kernel))))) rfl
/-! ### is_within -/
abbrev s_f_is_within : Stmt := top 11
abbrev N_f_is_within : List Str := ["value", "low", "high"]
theorem sc_f_is_within : FnScope N_f_is_within ["value", "low", "high"] (defScope s_f_is_within) := ⟨rfl, rfl, rfl, by decide +kernel, rfl, by decide +kernel, by decide +kernel⟩
def T_f_is_within (C_Rank : Addr) : TF := TFi (fun (i : Int × Int × Int) => [eI i.1, eI i.2.1, eI i.2.2]) (fun _ => True) (fun i => eB (f_is_within i.1 i.2.1 i.2.2))
theorem r_f_is_within (B : Env K w mg C_Rank d_TURNS a_TURNS) (c_f_is_integer : Ca P w K mg base "is_integer" 1 (spF K 1 (T_f_is_integer C_Rank))) {cdv : Value} {A : Around} {outer : List PySem.Env} {s : Shared} {H : Hp} {E : XK} {f : Addr} {Fr : Fm} (hr : Room 1 (A.deeper (envOfC "is_within" (defScope s_f_is_within) s.heap.objs.size f cdv))) (io : Fr.io = []) (value : Int) (low : Int) (high : Int) :
    TSs (bcx P w K mg base N_f_is_within "is_within" (defScope s_f_is_within) f cdv A outer s H E) Fr (defBody s_f_is_within) [.dat (eI value), .dat (eI low), .dat (eI high)] (Rt eB (f_is_within value low high)) := by
  have nd := sc_f_is_within.nd
  exact TSs.cast ((tss_one (ts_retE eB ((f_is_integer value) && (decide (low ≤ value) && decide (value ≤ high))) (te_band (te_call c_f_is_integer hr (by decide) (by rfl) (ta_cons (te_var (pv 0)) ta_nil) (fun _ q_ => ⟨(value), trivial, rfl, q_⟩)) (fun h1 => (te_one (te_chainLL (te_var (pv 1)) (te_var (pv 0)) (te_var (pv 2))))))))) rfl
/-! ### cells_fault -/
abbrev s_f_cells_fault : Stmt := top 27
abbrev N_f_cells_fault : List Str := ["cells", "seen", "place", "cell", "entry"]
theorem sc_f_cells_fault : FnScope N_f_cells_fault ["cells"] (defScope s_f_cells_fault) := ⟨rfl, rfl, rfl, by decide +kernel, rfl, by decide +kernel, by decide +kernel⟩
def T_f_cells_fault (C_Rank : Addr) : TF := TFi (fun (i : List (List Int)) => [(eL (eL eI)) i]) (fun i => ok_f_cells_fault i) (fun i => (eO eI) (f_cells_fault i))
theorem r_f_cells_fault (B : Env K w mg C_Rank d_TURNS a_TURNS) (c_f_is_row_2 : Ca P w K mg base "is_row" 1 (spF K 1 (T_f_is_row_2 C_Rank))) (c_f_is_row : Ca P w K mg base "is_row" 1 (spF K 1 (T_f_is_row C_Rank))) (c_f_is_within : Ca P w K mg base "is_within" 2 (spF K 3 (T_f_is_within C_Rank))) {cdv : Value} {A : Around} {outer : List PySem.Env} {s : Shared} {H : Hp} {E : XK} {f : Addr} {Fr : Fm} (hr : Room 2 (A.deeper (envOfC "cells_fault" (defScope s_f_cells_fault) s.heap.objs.size f cdv))) (io : Fr.io = []) (cells : List (List Int)) (h : ok_f_cells_fault cells) :
    TSs (bcx P w K mg base N_f_cells_fault "cells_fault" (defScope s_f_cells_fault) f cdv A outer s H E) Fr (defBody s_f_cells_fault) [.dat ((eL (eL eI)) cells), .un, .un, .un, .un] (Rt (eO eI) (f_cells_fault cells)) := by
  have nd := sc_f_cells_fault.nd
  exact TSs.cast ((tss_ifX (rt := (Rt (eO eI))) (tt_w (tw_or (tt_not (tt_val (te_call c_f_is_row_2 hr (by decide) (by rfl) (ta_cons (te_var (pv 0)) ta_nil) (fun _ q_ => ⟨(cells), trivial, rfl, q_⟩)))) (fun h1 => (tw_or1 (tt_eq pyI hr.units (TE.tp (te_len (em := (eL eI)) (by rfl) B.len (TE.tp (te_var (pv 0))) rfl)) (TE.tp te_int)))))) (by exact True.intro) (fun h2 => (tss_one (ts_retE (eO eI) (some (-1)) (te_some (em := eI) (te_neg te_int)))))
  (fun h2 => (tss_ltK (st' := fun (seen : List Int) => [.dat ((eL (eL eI)) cells), .own (seen.map eI), .un, .un, .un]) [] (h h2) (ts_setN (tn_lst ta_nil (le_sz 0 rfl (by decide))) (pg_name (i := 1) nd rfl (by first | exact Or.inl rfl | exact Or.inr rfl)) (nio0 io 1))
  (fun seen h13 => (tss_el (st' := (fun (seen1 : List Int) => [.dat ((eL (eL eI)) cells), .own (seen1.map eI), .un, .un, .un])) (rt := (Rt (eO eI))) (rt_ex (eO eI)) h13.2 (ts_for (g := (wgTup 2 (wgCons (gSet 2) (wgCons (gSet 3) wgNil)))) (emi := (eP2 eI (eL eI))) (st' := (fun (seen1 : List Int) => [.dat ((eL (eL eI)) cells), .own (seen1.map eI), .un, .un, .un])) (st1 := (fun (seen1 : List Int) (p : Int × (List Int)) => [.dat ((eL (eL eI)) cells), .own (seen1.map eI), .dat (eI p.1), .dat ((eL eI) p.2), .un])) (rt := (Rt (eO eI))) (body := (fun (seen1 : List Int) (p : Int × (List Int)) => (if ((!(f_is_row p.2)) || decide ((p.2.length : Int) = 0)) = true then .ret (some p.1) else
  (forF (fun (seen2 : List Int) (entry : Int) => (if ((!(f_is_within entry 0 (12 - 1))) || decide (entry ∈ seen2)) = true then .ret (some p.1) else
  let seen3 : List Int := (seen2 ++ [entry])
  .next seen3 : Fl (List Int) (Option Int))) p.2 seen1).fl fun (seen2 : List Int) =>
  .next seen2 : Fl (List Int) (Option Int)))) (xs := (enm 0 cells)) (r0 := seen) PassesOwn.never rfl (rt_ex (eO eI)) (rt_st (eO eI)) (ti_enum (em := (eL eI)) (by rfl) B.enumerate (te_var (pv 0)) rfl) (dg_tup rfl (dgs_cons (dg_name (pg_name (i := 2) nd rfl (by first | exact Or.inl rfl | exact Or.inr rfl)) (nio0 io 2)) (dgs_cons (dg_name (pg_name (i := 3) nd rfl (by first | exact Or.inl rfl | exact Or.inr rfl)) (nio0 io 3)) dgs_nil))) (fun _ _ _ h => ⟨_, rfl, rfl, _, _, rfl, _, _, rfl, rfl, h⟩) rfl h13.1 (fun seen1 p h3 => (tss_ifX (rt := (Fl.oc (fun (seen1 : List Int) => [.dat ((eL (eL eI)) cells), .own (seen1.map eI), .un, .un, .un]) (Rt (eO eI)))) (tt_w (tw_or (tt_not (tt_val (te_call c_f_is_row hr (by decide) (by rfl) (ta_cons (te_var (pv 3)) ta_nil) (fun _ q_ => ⟨(p.2), trivial, rfl, q_⟩)))) (fun h4 => (tw_or1 (tt_eq pyI hr.units (TE.tp (te_len (em := eI) (by rfl) B.len (TE.tp (te_var (pv 3))) rfl)) (TE.tp te_int)))))) (by (repeat' split) <;> exact True.intro) (fun h5 => (tss_one (ts_retF (fun (seen1 : List Int) => [.dat ((eL (eL eI)) cells), .own (seen1.map eI), .un, .un, .un]) (some p.1) (ts_retE (eO eI) (some p.1) (te_some (em := eI) (te_var (pv 2)))))))
  (fun h5 => (tss_fl (st' := (fun (seen2 : List Int) => [.dat ((eL (eL eI)) cells), .own (seen2.map eI), .dat (eI p.1), .dat ((eL eI) p.2), .un])) (st2 := (fun (seen1 : List Int) => [.dat ((eL (eL eI)) cells), .own (seen1.map eI), .un, .un, .un])) (rt := (Rt (eO eI))) (okR := fun _ => True) (rt_ex (eO eI)) (bdR_true _) (ts_for (g := (gSet 4)) (emi := eI) (st' := (fun (seen2 : List Int) => [.dat ((eL (eL eI)) cells), .own (seen2.map eI), .dat (eI p.1), .dat ((eL eI) p.2), .un])) (st1 := (fun (seen2 : List Int) (entry : Int) => [.dat ((eL (eL eI)) cells), .own (seen2.map eI), .dat (eI p.1), .dat ((eL eI) p.2), .dat (eI entry)])) (rt := (Rt (eO eI))) (body := (fun (seen2 : List Int) (entry : Int) => (if ((!(f_is_within entry 0 (12 - 1))) || decide (entry ∈ seen2)) = true then .ret (some p.1) else
  let seen3 : List Int := (seen2 ++ [entry])
  .next seen3 : Fl (List Int) (Option Int)))) (xs := p.2) (r0 := seen1) PassesOwn.never rfl (rt_ex (eO eI)) (rt_st (eO eI)) (ti_seq (ds := List.map eI p.2) (te_var (pv 3)) rfl) (dg_name (pg_name (i := 4) nd rfl (by first | exact Or.inl rfl | exact Or.inr rfl)) (nio0 io 4)) (fun _ _ _ h => h) rfl (h3 h5) (fun seen2 entry h6 => (tss_ifX (rt := (Fl.oc (fun (seen2 : List Int) => [.dat ((eL (eL eI)) cells), .own (seen2.map eI), .dat (eI p.1), .dat ((eL eI) p.2), .un]) (Rt (eO eI)))) (tt_w (tw_or (tt_not (tt_val (te_call c_f_is_within hr (by decide) (by rfl) (ta_cons (te_var (pv 4)) (ta_cons te_int (ta_cons (te_sub (te_glob (C8.pe_gc (by rfl) B.MOST_WORLDS)) (TE.tp te_int)) ta_nil))) (fun _ q_ => ⟨(entry, 0, (12 - 1)), trivial, rfl, q_⟩)))) (fun h7 => (tw_or1 (tt_in fyI (te_var (pv 4)) (tp_own (pv 1)) rfl))))) (by (repeat' split) <;> exact True.intro) (fun h8 => (tss_one (ts_retF (fun (seen2 : List Int) => [.dat ((eL (eL eI)) cells), .own (seen2.map eI), .dat (eI p.1), .dat ((eL eI) p.2), .un]) (some p.1) (ts_retE (eO eI) (some p.1) (te_some (em := eI) (te_var (pv 2)))))))
  (fun h8 => (tss_lt (st' := fun (seen3 : List Int) => [.dat ((eL (eL eI)) cells), .own (seen3.map eI), .dat (eI p.1), .dat ((eL eI) p.2), .dat (eI entry)]) (seen2 ++ [entry]) (ts_expr (te_app (em := eI) (xs := seen2) (x := entry) (te_var (pv 4)) (h6 h8) fun _ h => pe_bm PySem.F.plainAttrs_list PySem.F.slot_list_append PySem.F.type_list_append mt_append (pv 1) h))
  (fun seen3 => (tss_unset (vs := [4]) (fun i hi => nio0 io i) (tss_endF (fun (seen2 : List Int) => [.dat ((eL (eL eI)) cells), .own (seen2.map eI), .dat (eI p.1), .dat ((eL eI) p.2), .un]) (Rt (eO eI)) seen3))) rfl rfl)))) fun _ _ h1 h2 => ps_for PassesOwn.never rfl h1 (dg_name (pg_name (i := 4) nd rfl (by first | exact Or.inl rfl | exact Or.inr rfl)) (nio0 io 4)) h2)
  (fun seen2 h10 => (tss_unset (vs := [2, 3]) (fun i hi => nio0 io i) (tss_endF (fun (seen1 : List Int) => [.dat ((eL (eL eI)) cells), .own (seen1.map eI), .un, .un, .un]) (Rt (eO eI)) seen2))))))) fun _ _ h1 h2 => ps_for PassesOwn.never rfl h1 (dg_tup rfl (dgs_cons (dg_name (pg_name (i := 2) nd rfl (by first | exact Or.inl rfl | exact Or.inr rfl)) (nio0 io 2)) (dgs_cons (dg_name (pg_name (i := 3) nd rfl (by first | exact Or.inl rfl | exact Or.inr rfl)) (nio0 io 3)) dgs_nil))) h2)
  (fun seen1 h12 => (tss_ifX (rt := (Rt (eO eI))) (tt_ge (te_max (by rfl) (by rfl) B.max (tp_own (pv 1)) h12) (TE.tp (te_len (em := eI) (by rfl) B.len (tp_own (pv 1)) rfl))) (by exact True.intro) (fun h11 => (tss_one (ts_retE (eO eI) (some (cells.length : Int)) (te_some (em := eI) (te_len (em := (eL eI)) (by rfl) B.len (TE.tp (te_var (pv 0))) rfl)))))
  (fun h11 => (tss_one (ts_retE (eO eI) none (te_none (em := eI) te_non)))))))) rfl rfl)))) rfl
/-! ### levels_of -/
abbrev s_f_levels_of : Stmt := top 28
abbrev N_f_levels_of : List Str := ["cells", "levels", "level", "cell", "world"]
theorem sc_f_levels_of : FnScope N_f_levels_of ["cells"] (defScope s_f_levels_of) := ⟨rfl, rfl, rfl, by decide +kernel, rfl, by decide +kernel, by decide +kernel⟩
def T_f_levels_of (C_Rank : Addr) : TF := TFi (fun (i : List (List Int)) => [(eT (eT eI)) i]) (fun i => ok_f_levels_of i) (fun i => (eT eI) (f_levels_of i))
theorem r_f_levels_of (B : Env K w mg C_Rank d_TURNS a_TURNS)  {cdv : Value} {A : Around} {outer : List PySem.Env} {s : Shared} {H : Hp} {E : XK} {f : Addr} {Fr : Fm} (hr : Room 0 (A.deeper (envOfC "levels_of" (defScope s_f_levels_of) s.heap.objs.size f cdv))) (io : Fr.io = []) (cells : List (List Int)) (h : ok_f_levels_of cells) :
    TSs (bcx P w K mg base N_f_levels_of "levels_of" (defScope s_f_levels_of) f cdv A outer s H E) Fr (defBody s_f_levels_of) [.dat ((eT (eT eI)) cells), .un, .un, .un, .un] (Rt (eT eI) (f_levels_of cells)) := by
  have nd := sc_f_levels_of.nd
  exact TSs.cast ((tss_ltK (st' := fun (levels : List (Int × Int)) => [.dat ((eT (eT eI)) cells), .dat ((eK eI) levels), .un, .un, .un]) (dc2F (fun (p : Int × (List Int)) => p.2) (fun (p : Int × (List Int)) (world : Int) => world) (fun (p : Int × (List Int)) (world : Int) => p.1) (enm 0 cells)) h.2 (ts_set (te_dc2 (δ2 := [.dat ((eT (eT eI)) cells), .un, .un, .un, .un]) (own := [("level", 2), ("cell", 3), ("world", 4)]) (vs1 := [4]) (g := (wgTup 2 (wgCons (gSet 2) (wgCons (gSet 3) wgNil)))) (g1 := (gSet 4)) (emi := (eP2 eI (eT eI))) (emj := eI) (emo := eI) (xs := (enm 0 cells)) (sx := fun (p : Int × (List Int)) => [.dat ((eT (eT eI)) cells), .un, .dat (eI p.1), .dat ((eT eI) p.2), .un]) (sy := fun (p : Int × (List Int)) (world : Int) => [.dat ((eT (eT eI)) cells), .un, .dat (eI p.1), .dat ((eT eI) p.2), .dat (eI world)]) (ys := (fun (p : Int × (List Int)) => p.2)) (fk := (fun (p : Int × (List Int)) (world : Int) => world)) (fv := (fun (p : Int × (List Int)) (world : Int) => p.1)) rfl nd (ti_enum (em := (eT eI)) (by rfl) B.enumerate (te_var (pv 0)) rfl) (blkOk_by (N := N_f_levels_of) (sc := defScope s_f_levels_of) (by decide +kernel)) (by intro i hi; simp at hi; exact nio0 io i) (by decide) h.1 (fun _ _ _ _ _ _ n => dg_weak (dg_tup rfl (dgs_cons (dg_name (pg_name (i := 2) nd rfl (by first | exact Or.inl rfl | exact Or.inr rfl)) (n 2 (by simp))) (dgs_cons (dg_name (pg_name (i := 3) nd rfl (by first | exact Or.inl rfl | exact Or.inr rfl)) (n 3 (by simp))) dgs_nil))) (by decide)) (fun _ _ _ _ _ _ n => (dg_name (pg_name (i := 4) nd rfl (by first | exact Or.inl rfl | exact Or.inr rfl)) (n 4 (by simp)))) (fun _ _ h => ⟨_, rfl, rfl, _, _, rfl, _, _, rfl, rfl, h⟩) (fun p h1 _ _ _ _ _ _ => (ti_seq (ds := List.map eI p.2) (te_var (pv 3)) rfl)) (fun _ _ _ h => h) (fun p world h1 h2 _ _ _ _ _ _ => (te_var (pv 4))) (fun p world h1 h2 _ _ _ _ _ _ => (te_var (pv 2)))) (pg_name (i := 1) nd rfl (by first | exact Or.inl rfl | exact Or.inr rfl)) (nio0 io 1))
  (fun levels h5 => (tss_one (ts_retE (eT eI) ((rng 0 (levels.length : Int)).map (fun (world1 : Int) => ((getI levels world1).getD default))) (te_tuple (em := eI) (by rfl) B.tuple (TN.tp (tn_lc0 (δ2 := [.dat ((eT (eT eI)) cells), .dat ((eK eI) levels), .un, .un, .un]) (own := [("world", 4)]) (g := (gSet 4)) (emi := eI) (emo := eI) (xs := (rng 0 (levels.length : Int))) (sx := fun (world1 : Int) => [.dat ((eT (eT eI)) cells), .dat ((eK eI) levels), .un, .un, .dat (eI world1)]) (f := fun (world1 : Int) => ((getI levels world1).getD default))  rfl nd (ti_range1 (by rfl) B.range (te_lenD (emo := eI) (by rfl) B.len (te_var (pv 1))) h5.1) (blkOk_by (N := N_f_levels_of) (sc := defScope s_f_levels_of) (by decide +kernel)) (fun _ _ _ _ _ _ n => (dg_name (pg_name (i := 4) nd rfl (by first | exact Or.inl rfl | exact Or.inr rfl)) (n 4 (by simp)))) (fun _ _ h => h) (fun world1 h3 _ _ _ _ _ _ => (te_dget (emo := eI) (Nat.lt_of_le_of_lt (Nat.add_le_add_left (by decide) _) hr.units) (te_var (pv 1)) (te_var (pv 4)) (h5.2 world1 h3))))) rfl)))) rfl rfl)) rfl
/-! ### Rank.__init__ -/
abbrev s_f_Rank__init__ : Stmt := inClass (top 30) 0
abbrev N_f_Rank__init__ : List Str := ["self", "cells", "place", "cell"]
theorem sc_f_Rank__init__ : FnScope N_f_Rank__init__ ["self", "cells"] (defScope s_f_Rank__init__) := ⟨rfl, rfl, rfl, by decide +kernel, rfl, by decide +kernel, by decide +kernel⟩
def T_f_Rank__init__ (C_Rank : Addr) : TIn := TIni (fun (i : List (List Int)) => [(eL (eL eI)) i]) (fun i => ok_f_Rank__init__ i) (fun i => fs_Rank (f_Rank__init__ i))
theorem r_f_Rank__init__ (B : Env K w mg C_Rank d_TURNS a_TURNS) (c_f_cells_fault : Ca P w K mg base "cells_fault" 3 (spF K 1 (T_f_cells_fault C_Rank))) (c_f_levels_of : Ca P w K mg base "levels_of" 1 (spF K 1 (T_f_levels_of C_Rank))) {cdv : Value} {A : Around} {outer : List PySem.Env} {s : Shared} {H : Hp} {E : XK} {f : Addr} {Fr : Fm} (hr : Room 3 (A.deeper (envOfC "Rank.__init__" (defScope s_f_Rank__init__) s.heap.objs.size f cdv))) (io : ∃ a, Fr.io = [(0, a)]) (cells : List (List Int)) (h : ok_f_Rank__init__ cells) :
    TSs (bcx P w K mg base N_f_Rank__init__ "Rank.__init__" (defScope s_f_Rank__init__) f cdv A outer s H E) Fr (defBody s_f_Rank__init__) [.slf C_Rank [], .dat ((eL (eL eI)) cells), .un, .un] (.nx [.slf C_Rank [("cells", (eT (eT eI)) ((f_Rank__init__ cells).cells)), ("levels", (eT eI) ((f_Rank__init__ cells).levels)), ("worlds", eI ((f_Rank__init__ cells).worlds))], .un, .un, .un]) := by
  have nd := sc_f_Rank__init__.nd
  exact TSs.cast ((tss_ltK (st' := fun (place : Option Int) => [.slf C_Rank [], .dat ((eL (eL eI)) cells), .dat ((eO eI) place), .un]) (f_cells_fault cells) h.2 (ts_set (te_call c_f_cells_fault hr (by decide) (by rfl) (ta_cons (te_var (pv 1)) ta_nil) (fun _ q_ => ⟨(cells), h.1, rfl, q_⟩)) (pg_name (i := 2) nd rfl (by first | exact Or.inl rfl | exact Or.inr rfl)) (nio1 io (by decide)))
  (fun place h6 => (tss_ifN (tt_notN (em := eI) (fun _ => rfl) (TE.tp (te_var (pv 2))) (TE.tp te_non)) h6.1 (tss_ltK (st' := fun (cells1 : List (List Int)) => [.slf C_Rank [("cells", (eT (eT eI)) cells1)], .dat ((eL (eL eI)) cells), .dat ((eO eI) place), .un]) (cells.map (fun (cell : List Int) => (srt cell))) h6.2 (ts_setS B.cl_Rank B.na_Rank_cells (pv 0) (te_tuple (em := (eT eI)) (by rfl) B.tuple (TN.tp (tn_lc0 (δ2 := [.slf C_Rank [], .dat ((eL (eL eI)) cells), .dat ((eO eI) place), .un]) (own := [("cell", 3)]) (g := (gSet 3)) (emi := (eL eI)) (emo := (eT eI)) (xs := cells) (sx := fun (cell : List Int) => [.slf C_Rank [], .dat ((eL (eL eI)) cells), .dat ((eO eI) place), .dat ((eL eI) cell)]) (f := fun (cell : List Int) => (srt cell))  rfl nd (ti_seq (ds := List.map (eL eI) cells) (te_var (pv 1)) rfl) (blkOk_by (N := N_f_Rank__init__) (sc := defScope s_f_Rank__init__) (by decide +kernel)) (fun _ _ _ _ _ _ n => (dg_name (pg_name (i := 3) nd rfl (by first | exact Or.inl rfl | exact Or.inr rfl)) (n 3 (by simp)))) (fun _ _ h => h) (fun cell h1 _ _ _ _ _ _ => (te_tuple (em := eI) (by rfl) B.tuple (TN.tp (tn_sorted (by rfl) B.sorted (TE.tp (te_var (pv 3))) rfl)) rfl)))) rfl) rfl (by simp) (by rfl))
  (fun cells1 h5 => (tss_lt (st' := fun (levels : List Int) => [.slf C_Rank [("cells", (eT (eT eI)) cells1), ("levels", (eT eI) levels)], .dat ((eL (eL eI)) cells), .dat ((eO eI) place), .un]) (f_levels_of cells1) (ts_setS B.cl_Rank B.na_Rank_levels (pv 0) (te_call c_f_levels_of hr (by decide) (by rfl) (ta_cons (te_fldS B.cl_Rank B.na_Rank_cells (pv 0) rfl look_hd) ta_nil) (fun _ q_ => ⟨(cells1), h5, rfl, q_⟩)) rfl (by simp) (putD_tl nf_Rank_cells_levels (by rfl)))
  (fun levels => (tss_lt (st' := fun (worlds : Int) => [.slf C_Rank [("cells", (eT (eT eI)) cells1), ("levels", (eT eI) levels), ("worlds", eI worlds)], .dat ((eL (eL eI)) cells), .dat ((eO eI) place), .un]) (levels.length : Int) (ts_setS B.cl_Rank B.na_Rank_worlds (pv 0) (te_len (em := eI) (by rfl) B.len (TE.tp (te_fldS B.cl_Rank B.na_Rank_levels (pv 0) rfl (look_tl nf_Rank_cells_levels look_hd))) rfl) rfl (by simp) (putD_tl nf_Rank_cells_worlds (putD_tl nf_Rank_levels_worlds (by rfl))))
  (fun worlds => (tss_unset (δ2 := [.slf C_Rank [("cells", (eT (eT eI)) cells1), ("levels", (eT eI) levels), ("worlds", eI worlds)], .un, .un, .un]) (vs := [1, 2]) (fun i hi => nio1 io (by simp at hi; omega)) tss_nil)) rfl rfl)) rfl rfl)) rfl rfl))) rfl rfl)) rfl
/-! ### Rank.of_levels -/
abbrev s_f_Rank_of_levels : Stmt := inClass (top 30) 3
abbrev N_f_Rank_of_levels : List Str := ["cls", "numbers", "number"]
theorem sc_f_Rank_of_levels : FnScope N_f_Rank_of_levels ["cls", "numbers"] (defScope s_f_Rank_of_levels) := ⟨rfl, rfl, rfl, by decide +kernel, rfl, by decide +kernel, by decide +kernel⟩
def T_f_Rank_of_levels (C_Rank : Addr) : TF := TFi (fun (i : List Int) => [.at C_Rank, (eL eI) i]) (fun i => ok_f_Rank_of_levels i) (fun i => (e_Rank C_Rank) (f_Rank_of_levels i))
theorem r_f_Rank_of_levels (B : Env K w mg C_Rank d_TURNS a_TURNS) (c_f_is_row : Ca P w K mg base "is_row" 1 (spF K 1 (T_f_is_row C_Rank))) (c_f_is_integer : Ca P w K mg base "is_integer" 1 (spF K 1 (T_f_is_integer C_Rank))) (c_f_cells_by : Ca P w K mg base "cells_by" 1 (spFN K 1 (T_f_cells_by C_Rank))) (mk_f_Rank__init__ : Mkr P w K mg base C_Rank 4 (spIn K C_Rank 1 (T_f_Rank__init__ C_Rank))) {cdv : Value} {A : Around} {outer : List PySem.Env} {s : Shared} {H : Hp} {E : XK} {f : Addr} {Fr : Fm} (hr : Room 5 (A.deeper (envOfC "Rank.of_levels" (defScope s_f_Rank_of_levels) s.heap.objs.size f cdv))) (io : Fr.io = []) (numbers : List Int) (h : ok_f_Rank_of_levels numbers) :
    TSs (bcx P w K mg base N_f_Rank_of_levels "Rank.of_levels" (defScope s_f_Rank_of_levels) f cdv A outer s H E) Fr (defBody s_f_Rank_of_levels) [.dat (.at C_Rank), .dat ((eL eI) numbers), .un] (Rt (e_Rank C_Rank) (f_Rank_of_levels numbers)) := by
  have nd := sc_f_Rank_of_levels.nd
  exact TSs.cast ((tss_ifN (tt_w (tw_or (tt_not (tt_val (te_call c_f_is_row hr (by decide) (by rfl) (ta_cons (te_var (pv 1)) ta_nil) (fun _ q_ => ⟨(numbers), trivial, rfl, q_⟩)))) (fun h1 => (tw_or1 (tt_not (tt_chainLL te_int (te_len (em := eI) (by rfl) B.len (TE.tp (te_var (pv 1))) rfl) (te_glob (C8.pe_gc (by rfl) B.MOST_WORLDS)))))))) h.1 (tss_ifN (tt_not (tt_val (te_all (by rfl) (by rfl) B.all (TN.tp (tn_lc0 (δ2 := [.dat (.at C_Rank), .dat ((eL eI) numbers), .un]) (own := [("number", 2)]) (g := (gSet 2)) (emi := eI) (emo := eB) (xs := numbers) (sx := fun (number : Int) => [.dat (.at C_Rank), .dat ((eL eI) numbers), .dat (eI number)]) (f := fun (number : Int) => (f_is_integer number))  rfl nd (ti_seq (ds := List.map eI numbers) (te_var (pv 1)) rfl) (blkOk_by (N := N_f_Rank_of_levels) (sc := defScope s_f_Rank_of_levels) (by decide +kernel)) (fun _ _ _ _ _ _ n => (dg_name (pg_name (i := 2) nd rfl (by first | exact Or.inl rfl | exact Or.inr rfl)) (n 2 (by simp)))) (fun _ _ h => h) (fun number h2 _ _ _ _ _ _ => (te_call c_f_is_integer hr (by decide) (by rfl) (ta_cons (te_var (pv 2)) ta_nil) (fun _ q_ => ⟨(number), trivial, rfl, q_⟩)))))))) h.2.1 (tss_one (ts_retE (e_Rank C_Rank) (f_Rank__init__ (f_cells_by numbers)) (te_makeV mk_f_Rank__init__ hr (by decide) (pv 0) (ta_cons (TN.te (tn_call c_f_cells_by hr (by decide) (by rfl) (ta_cons (te_var (pv 1)) ta_nil) (fun _ q_ => ⟨(numbers), h.2.2.1, rfl, q_⟩))) ta_nil) (fun _ q_ => ⟨((f_cells_by numbers)), h.2.2.2, rfl, q_⟩))))))) rfl
/-! ### _law_best -/
abbrev s_l_best : Stmt := top 54
abbrev N_l_best : List Str := ["_law_levels", "_law_lot_here", "_law_least", "_law_world"]
theorem sc_l_best : FnScope N_l_best ["_law_levels", "_law_lot_here"] (defScope s_l_best) := ⟨rfl, rfl, rfl, by decide +kernel, rfl, by decide +kernel, by decide +kernel⟩
def T_l_best (C_Rank : Addr) : TF := TFi (fun (i : (List Int) × (List Int)) => [(eL eI) i.1, (eT eI) i.2]) (fun i => ok_l_best i.1 i.2) (fun i => (eT eI) (l_best i.1 i.2))
theorem r_l_best (B : Env K w mg C_Rank d_TURNS a_TURNS)  {cdv : Value} {A : Around} {outer : List PySem.Env} {s : Shared} {H : Hp} {E : XK} {f : Addr} {Fr : Fm} (hr : Room 0 (A.deeper (envOfC "_law_best" (defScope s_l_best) s.heap.objs.size f cdv))) (io : Fr.io = []) (levels : List Int) (lot_here : List Int) (h : ok_l_best levels lot_here) :
    TSs (bcx P w K mg base N_l_best "_law_best" (defScope s_l_best) f cdv A outer s H E) Fr (defBody s_l_best) [.dat ((eL eI) levels), .dat ((eT eI) lot_here), .un, .un] (Rt (eT eI) (l_best levels lot_here)) := by
  have nd := sc_l_best.nd
  exact TSs.cast ((tss_ltK (st' := fun (least : Int) => [.dat ((eL eI) levels), .dat ((eT eI) lot_here), .dat (eI least), .un]) (minL (lot_here.map (fun (world : Int) => (pyIx levels world)))) h.2.2 (ts_set (te_min (by rfl) (by rfl) B.min (TN.tp (tn_lc0 (δ2 := [.dat ((eL eI) levels), .dat ((eT eI) lot_here), .un, .un]) (own := [("_law_world", 3)]) (g := (gSet 3)) (emi := eI) (emo := eI) (xs := lot_here) (sx := fun (world : Int) => [.dat ((eL eI) levels), .dat ((eT eI) lot_here), .un, .dat (eI world)]) (f := fun (world : Int) => (pyIx levels world))  rfl nd (ti_seq (ds := List.map eI lot_here) (te_var (pv 1)) rfl) (blkOk_by (N := N_l_best) (sc := defScope s_l_best) (by decide +kernel)) (fun _ _ _ _ _ _ n => (dg_name (pg_name (i := 3) nd rfl (by first | exact Or.inl rfl | exact Or.inr rfl)) (n 3 (by simp)))) (fun _ _ h => h) (fun world h1 _ _ _ _ _ _ => (te_ixE (em := eI) (te_var (pv 0)) rfl (TE.tp (te_var (pv 3))) (h.1 world h1))))) h.2.1) (pg_name (i := 2) nd rfl (by first | exact Or.inl rfl | exact Or.inr rfl)) (nio0 io 2))
  (fun least h5 => (tss_one (ts_retE (eT eI) (lot_here.filter (fun (world1 : Int) => decide ((pyIx levels world1) = least))) (te_tuple (em := eI) (by rfl) B.tuple (TN.tp (tn_lcf (δ2 := [.dat ((eL eI) levels), .dat ((eT eI) lot_here), .dat (eI least), .un]) (own := [("_law_world", 3)]) (g := (gSet 3)) (emi := eI) (emx := eI) (xs := lot_here) (sx := fun (world1 : Int) => [.dat ((eL eI) levels), .dat ((eT eI) lot_here), .dat (eI least), .dat (eI world1)]) (t := fun (world1 : Int) => decide ((pyIx levels world1) = least))  rfl nd (ti_seq (ds := List.map eI lot_here) (te_var (pv 1)) rfl) (blkOk_by (N := N_l_best) (sc := defScope s_l_best) (by decide +kernel)) (fun _ _ _ _ _ _ n => (dg_name (pg_name (i := 3) nd rfl (by first | exact Or.inl rfl | exact Or.inr rfl)) (n 3 (by simp)))) (fun _ _ h => h) (fun world1 h3 _ _ _ _ _ _ => (tts_one (tt_eq pyI hr.units (TE.tp (te_ixE (em := eI) (te_var (pv 0)) rfl (TE.tp (te_var (pv 3))) (h5 world1 h3))) (TE.tp (te_var (pv 2)))))) (fun world1 h3 h4 _ _ _ _ _ _ => (te_var (pv 3))))) rfl)))) rfl rfl)) rfl
/-! ### check_worlds -/
abbrev s_f_check_worlds : Stmt := top 13
abbrev N_f_check_worlds : List Str := ["worlds", "most"]
theorem sc_f_check_worlds : FnScope N_f_check_worlds ["worlds", "most"] (defScope s_f_check_worlds) := ⟨rfl, rfl, rfl, by decide +kernel, rfl, by decide +kernel, by decide +kernel⟩
def T_f_check_worlds (C_Rank : Addr) : TF := TFi (fun (i : Int × Int) => [eI i.1, eI i.2]) (fun i => ok_f_check_worlds i.1 i.2) (fun _ => .non)
theorem r_f_check_worlds (B : Env K w mg C_Rank d_TURNS a_TURNS) (c_f_is_within : Ca P w K mg base "is_within" 2 (spF K 3 (T_f_is_within C_Rank))) {cdv : Value} {A : Around} {outer : List PySem.Env} {s : Shared} {H : Hp} {E : XK} {f : Addr} {Fr : Fm} (hr : Room 2 (A.deeper (envOfC "check_worlds" (defScope s_f_check_worlds) s.heap.objs.size f cdv))) (io : Fr.io = []) (worlds : Int) (most : Int) (h : ok_f_check_worlds worlds most) :
    TSs (bcx P w K mg base N_f_check_worlds "check_worlds" (defScope s_f_check_worlds) f cdv A outer s H E) Fr (defBody s_f_check_worlds) [.dat (eI worlds), .dat (eI most)] (.nx [.un, .un]) := by
  have nd := sc_f_check_worlds.nd
  exact TSs.cast ((tss_ifN (tt_not (tt_val (te_call c_f_is_within hr (by decide) (by rfl) (ta_cons (te_var (pv 0)) (ta_cons te_int (ta_cons (te_var (pv 1)) ta_nil))) (fun _ q_ => ⟨(worlds, 1, most), trivial, rfl, q_⟩)))) h (tss_unset (δ2 := [.un, .un]) (vs := [0, 1]) (fun i hi => nio0 io i) tss_nil))) rfl
/-! ### is_row -/
abbrev s_f_is_row_3 : Stmt := top 12
abbrev N_f_is_row_3 : List Str := ["value"]
theorem sc_f_is_row_3 : FnScope N_f_is_row_3 ["value"] (defScope s_f_is_row_3) := ⟨rfl, rfl, rfl, by decide +kernel, rfl, by decide +kernel, by decide +kernel⟩
def T_f_is_row_3 (C_Rank : Addr) : TF := TFi (fun (i : List Int) => [(eT eI) i]) (fun _ => True) (fun i => eB (f_is_row_3 i))
theorem r_f_is_row_3 (B : Env K w mg C_Rank d_TURNS a_TURNS)  {cdv : Value} {A : Around} {outer : List PySem.Env} {s : Shared} {H : Hp} {E : XK} {f : Addr} {Fr : Fm} (hr : Room 0 (A.deeper (envOfC "is_row" (defScope s_f_is_row_3) s.heap.objs.size f cdv))) (io : Fr.io = []) (value : List Int) :
    TSs (bcx P w K mg base N_f_is_row_3 "is_row" (defScope s_f_is_row_3) f cdv A outer s H E) Fr (defBody s_f_is_row_3) [.dat ((eT eI) value)] (Rt eB (f_is_row_3 value)) := by
  have nd := sc_f_is_row_3.nd
  exact TSs.cast ((tss_one (ts_retE eB true (te_isiT (Ts := ["list", "tuple"]) (by rfl) B.isinstance (TE.tp (te_var (pv 0))) (pa_cons (pe_bltn (v := .ty "list") (u := .type "list") (by rfl) B.list (by decide +kernel) rfl) (pa_cons (pe_bltn (v := .ty "tuple") (u := .type "tuple") (by rfl) B.tuple (by decide +kernel) rfl) pa_nil)) (by decide) rfl (by decide +kernel))))) rfl
/-! ### wrong_entry -/
abbrev s_f_wrong_entry : Stmt := top 15
abbrev N_f_wrong_entry : List Str := ["entries", "count", "place", "entry"]
theorem sc_f_wrong_entry : FnScope N_f_wrong_entry ["entries", "count"] (defScope s_f_wrong_entry) := ⟨rfl, rfl, rfl, by decide +kernel, rfl, by decide +kernel, by decide +kernel⟩
def T_f_wrong_entry (C_Rank : Addr) : TF := TFi (fun (i : (List Int) × Int) => [(eT eI) i.1, eI i.2]) (fun _ => True) (fun i => (eO eI) (f_wrong_entry i.1 i.2))
theorem r_f_wrong_entry (B : Env K w mg C_Rank d_TURNS a_TURNS) (c_f_is_within : Ca P w K mg base "is_within" 2 (spF K 3 (T_f_is_within C_Rank))) {cdv : Value} {A : Around} {outer : List PySem.Env} {s : Shared} {H : Hp} {E : XK} {f : Addr} {Fr : Fm} (hr : Room 2 (A.deeper (envOfC "wrong_entry" (defScope s_f_wrong_entry) s.heap.objs.size f cdv))) (io : Fr.io = []) (entries : List Int) (count : Int) :
    TSs (bcx P w K mg base N_f_wrong_entry "wrong_entry" (defScope s_f_wrong_entry) f cdv A outer s H E) Fr (defBody s_f_wrong_entry) [.dat ((eT eI) entries), .dat (eI count), .un, .un] (Rt (eO eI) (f_wrong_entry entries count)) := by
  have nd := sc_f_wrong_entry.nd
  exact TSs.cast ((tss_el (st' := (fun (r : Unit) => [.dat ((eT eI) entries), .dat (eI count), .un, .un])) (rt := (Rt (eO eI))) (okR := fun _ => True) (rt_ex (eO eI)) (bdR_true _) (ts_for (g := (wgTup 2 (wgCons (gSet 2) (wgCons (gSet 3) wgNil)))) (emi := (eP2 eI eI)) (st' := (fun (r : Unit) => [.dat ((eT eI) entries), .dat (eI count), .un, .un])) (st1 := (fun (r : Unit) (p : Int × Int) => [.dat ((eT eI) entries), .dat (eI count), .dat (eI p.1), .dat (eI p.2)])) (rt := (Rt (eO eI))) (body := (fun (r : Unit) (p : Int × Int) => (if ((!(f_is_within p.2 0 (count - 1))) || decide (p.2 ∈ (pyCut entries none (some p.1)))) = true then .ret (some p.1) else
  .next () : Fl Unit (Option Int)))) (okb := fun _ _ => True) (xs := (enm 0 entries)) (r0 := ()) PassesOwn.never rfl (rt_ex (eO eI)) (rt_st (eO eI)) (ti_enum (em := eI) (by rfl) B.enumerate (te_var (pv 0)) rfl) (dg_tup rfl (dgs_cons (dg_name (pg_name (i := 2) nd rfl (by first | exact Or.inl rfl | exact Or.inr rfl)) (nio0 io 2)) (dgs_cons (dg_name (pg_name (i := 3) nd rfl (by first | exact Or.inl rfl | exact Or.inr rfl)) (nio0 io 3)) dgs_nil))) (fun _ _ _ h => ⟨_, rfl, rfl, _, _, rfl, _, _, rfl, rfl, h⟩) rfl (okFor_true _ _) (fun r p h1 => (tss_ifX (rt := (Fl.oc (fun (r : Unit) => [.dat ((eT eI) entries), .dat (eI count), .un, .un]) (Rt (eO eI)))) (tt_w (tw_or (tt_not (tt_val (te_call c_f_is_within hr (by decide) (by rfl) (ta_cons (te_var (pv 3)) (ta_cons te_int (ta_cons (te_sub (te_var (pv 1)) (TE.tp te_int)) ta_nil))) (fun _ q_ => ⟨(p.2, 0, (count - 1)), trivial, rfl, q_⟩)))) (fun h2 => (tw_or1 (tt_in fyI (te_var (pv 3)) (TE.tp (te_slT (em := eI) (te_var (pv 0)) to_none (to_some (te_var (pv 2))))) rfl))))) (by (repeat' split) <;> exact True.intro) (fun h3 => (tss_one (ts_retF (fun (r : Unit) => [.dat ((eT eI) entries), .dat (eI count), .un, .un]) (some p.1) (ts_retE (eO eI) (some p.1) (te_some (em := eI) (te_var (pv 2)))))))
  (fun h3 => (tss_unset (vs := [2, 3]) (fun i hi => nio0 io i) (tss_endF (fun (r : Unit) => [.dat ((eT eI) entries), .dat (eI count), .un, .un]) (Rt (eO eI)) ()))))) fun _ _ h1 h2 => ps_for PassesOwn.never rfl h1 (dg_tup rfl (dgs_cons (dg_name (pg_name (i := 2) nd rfl (by first | exact Or.inl rfl | exact Or.inr rfl)) (nio0 io 2)) (dgs_cons (dg_name (pg_name (i := 3) nd rfl (by first | exact Or.inl rfl | exact Or.inr rfl)) (nio0 io 3)) dgs_nil))) h2)
  (fun r h4 => (tss_one (ts_retE (eO eI) none (te_none (em := eI) te_non)))))) rfl
/-! ### lot_fault -/
abbrev s_f_lot_fault : Stmt := top 17
abbrev N_f_lot_fault : List Str := ["lot", "worlds"]
theorem sc_f_lot_fault : FnScope N_f_lot_fault ["lot", "worlds"] (defScope s_f_lot_fault) := ⟨rfl, rfl, rfl, by decide +kernel, rfl, by decide +kernel, by decide +kernel⟩
def T_f_lot_fault (C_Rank : Addr) : TF := TFi (fun (i : (List Int) × Int) => [(eT eI) i.1, eI i.2]) (fun _ => True) (fun i => (eO eI) (f_lot_fault i.1 i.2))
theorem r_f_lot_fault (B : Env K w mg C_Rank d_TURNS a_TURNS) (c_f_is_row_3 : Ca P w K mg base "is_row" 1 (spF K 1 (T_f_is_row_3 C_Rank))) (c_f_wrong_entry : Ca P w K mg base "wrong_entry" 3 (spF K 2 (T_f_wrong_entry C_Rank))) {cdv : Value} {A : Around} {outer : List PySem.Env} {s : Shared} {H : Hp} {E : XK} {f : Addr} {Fr : Fm} (hr : Room 3 (A.deeper (envOfC "lot_fault" (defScope s_f_lot_fault) s.heap.objs.size f cdv))) (io : Fr.io = []) (lot : List Int) (worlds : Int) :
    TSs (bcx P w K mg base N_f_lot_fault "lot_fault" (defScope s_f_lot_fault) f cdv A outer s H E) Fr (defBody s_f_lot_fault) [.dat ((eT eI) lot), .dat (eI worlds)] (Rt (eO eI) (f_lot_fault lot worlds)) := by
  have nd := sc_f_lot_fault.nd
  exact TSs.cast ((tss_ifX (rt := (Rt (eO eI))) (tt_not (tt_val (te_call c_f_is_row_3 hr (by decide) (by rfl) (ta_cons (te_var (pv 0)) ta_nil) (fun _ q_ => ⟨(lot), trivial, rfl, q_⟩)))) (by exact True.intro) (fun h1 => (tss_one (ts_retE (eO eI) (some (-1)) (te_some (em := eI) (te_neg te_int)))))
  (fun h1 => (tss_one (ts_retE (eO eI) (f_wrong_entry lot worlds) (te_call c_f_wrong_entry hr (by decide) (by rfl) (ta_cons (te_var (pv 0)) (ta_cons (te_var (pv 1)) ta_nil)) (fun _ q_ => ⟨(lot, worlds), trivial, rfl, q_⟩))))))) rfl
/-! ### lot_of -/
abbrev s_f_lot_of : Stmt := top 18
abbrev N_f_lot_of : List Str := ["lot", "worlds", "empty", "place"]
theorem sc_f_lot_of : FnScope N_f_lot_of ["lot", "worlds", "empty"] (defScope s_f_lot_of) := ⟨rfl, rfl, rfl, by decide +kernel, rfl, by decide +kernel, by decide +kernel⟩
def T_f_lot_of (C_Rank : Addr) : TF := TFi (fun (i : (List Int) × Int × Bool) => [(eT eI) i.1, eI i.2.1, eB i.2.2]) (fun i => ok_f_lot_of i.1 i.2.1 i.2.2) (fun i => (eT eI) (f_lot_of i.1 i.2.1 i.2.2))
theorem r_f_lot_of (B : Env K w mg C_Rank d_TURNS a_TURNS) (d1_f_check_worlds : CaD P w K mg base "check_worlds" 3 (spF K 2 (T_f_check_worlds C_Rank)) [.int 12]) (c_f_lot_fault : Ca P w K mg base "lot_fault" 4 (spF K 2 (T_f_lot_fault C_Rank))) {cdv : Value} {A : Around} {outer : List PySem.Env} {s : Shared} {H : Hp} {E : XK} {f : Addr} {Fr : Fm} (hr : Room 4 (A.deeper (envOfC "lot_of" (defScope s_f_lot_of) s.heap.objs.size f cdv))) (io : Fr.io = []) (lot : List Int) (worlds : Int) (empty : Bool) (h : ok_f_lot_of lot worlds empty) :
    TSs (bcx P w K mg base N_f_lot_of "lot_of" (defScope s_f_lot_of) f cdv A outer s H E) Fr (defBody s_f_lot_of) [.dat ((eT eI) lot), .dat (eI worlds), .dat (eB empty), .un] (Rt (eT eI) (f_lot_of lot worlds empty)) := by
  have nd := sc_f_lot_of.nd
  exact TSs.cast ((tss_cons (ts_expr (te_callD d1_f_check_worlds hr (by decide) (by rfl) (ta_cons (te_var (pv 1)) ta_nil) (fun _ q_ => ⟨(worlds, 12), h.1, rfl, q_⟩)))
  (tss_ltK (st' := fun (place : Option Int) => [.dat ((eT eI) lot), .dat (eI worlds), .dat (eB empty), .dat ((eO eI) place)]) (f_lot_fault lot worlds) h.2 (ts_set (te_call c_f_lot_fault hr (by decide) (by rfl) (ta_cons (te_var (pv 0)) (ta_cons (te_var (pv 1)) ta_nil)) (fun _ q_ => ⟨(lot, worlds), trivial, rfl, q_⟩)) (pg_name (i := 3) nd rfl (by first | exact Or.inl rfl | exact Or.inr rfl)) (nio0 io 3))
  (fun place h2 => (tss_ifN (tt_notN (em := eI) (fun _ => rfl) (TE.tp (te_var (pv 3))) (TE.tp te_non)) h2.1 (tss_ifN (tt_w (tw_and (tt_eq pyI hr.units (TE.tp (te_len (em := eI) (by rfl) B.len (TE.tp (te_var (pv 0))) rfl)) (TE.tp te_int)) (fun h1 => (tw_and1 (tt_not (tt_val (te_var (pv 2)))))))) h2.2 (tss_one (ts_retE (eT eI) (srt lot) (te_tuple (em := eI) (by rfl) B.tuple (TN.tp (tn_sorted (by rfl) B.sorted (TE.tp (te_var (pv 0))) rfl)) rfl)))))) rfl rfl))) rfl
/-! ### lot_but_all -/
abbrev s_f_lot_but_all : Stmt := top 19
abbrev N_f_lot_but_all : List Str := ["lot", "worlds", "kept"]
theorem sc_f_lot_but_all : FnScope N_f_lot_but_all ["lot", "worlds"] (defScope s_f_lot_but_all) := ⟨rfl, rfl, rfl, by decide +kernel, rfl, by decide +kernel, by decide +kernel⟩
def T_f_lot_but_all (C_Rank : Addr) : TF := TFi (fun (i : (List Int) × Int) => [(eT eI) i.1, eI i.2]) (fun i => ok_f_lot_but_all i.1 i.2) (fun i => (eT eI) (f_lot_but_all i.1 i.2))
theorem r_f_lot_but_all (B : Env K w mg C_Rank d_TURNS a_TURNS) (d2_f_lot_of : CaD P w K mg base "lot_of" 5 (spF K 3 (T_f_lot_of C_Rank)) [.bl true]) {cdv : Value} {A : Around} {outer : List PySem.Env} {s : Shared} {H : Hp} {E : XK} {f : Addr} {Fr : Fm} (hr : Room 5 (A.deeper (envOfC "lot_but_all" (defScope s_f_lot_but_all) s.heap.objs.size f cdv))) (io : Fr.io = []) (lot : List Int) (worlds : Int) (h : ok_f_lot_but_all lot worlds) :
    TSs (bcx P w K mg base N_f_lot_but_all "lot_but_all" (defScope s_f_lot_but_all) f cdv A outer s H E) Fr (defBody s_f_lot_but_all) [.dat ((eT eI) lot), .dat (eI worlds), .un] (Rt (eT eI) (f_lot_but_all lot worlds)) := by
  have nd := sc_f_lot_but_all.nd
  exact TSs.cast ((tss_ltK (st' := fun (kept : List Int) => [.dat ((eT eI) lot), .dat (eI worlds), .dat ((eT eI) kept)]) (f_lot_of lot worlds true) h.2 (ts_set (te_callD d2_f_lot_of hr (by decide) (by rfl) (ta_cons (te_var (pv 0)) (ta_cons (te_var (pv 1)) ta_nil)) (fun _ q_ => ⟨(lot, worlds, true), h.1, rfl, q_⟩)) (pg_name (i := 2) nd rfl (by first | exact Or.inl rfl | exact Or.inr rfl)) (nio0 io 2))
  (fun kept h1 => (tss_ifN (tt_eq pyI hr.units (TE.tp (te_len (em := eI) (by rfl) B.len (TE.tp (te_var (pv 2))) rfl)) (TE.tp (te_var (pv 1)))) h1 (tss_one (ts_retE (eT eI) kept (te_var (pv 2)))))) rfl rfl)) rfl
/-! ### Rank.held -/
abbrev s_f_Rank_held : Stmt := inClass (top 30) 5
abbrev N_f_Rank_held : List Str := ["self"]
theorem sc_f_Rank_held : FnScope N_f_Rank_held ["self"] (defScope s_f_Rank_held) := ⟨rfl, rfl, rfl, by decide +kernel, rfl, by decide +kernel, by decide +kernel⟩
def T_f_Rank_held (C_Rank : Addr) : TF := TFi (fun (i : Rank) => [(e_Rank C_Rank) i]) (fun i => ok_f_Rank_held i) (fun i => (eT eI) (f_Rank_held i))
theorem r_f_Rank_held (B : Env K w mg C_Rank d_TURNS a_TURNS)  {cdv : Value} {A : Around} {outer : List PySem.Env} {s : Shared} {H : Hp} {E : XK} {f : Addr} {Fr : Fm} (hr : Room 0 (A.deeper (envOfC "Rank.held" (defScope s_f_Rank_held) s.heap.objs.size f cdv))) (io : Fr.io = []) (self : Rank) (h : ok_f_Rank_held self) :
    TSs (bcx P w K mg base N_f_Rank_held "Rank.held" (defScope s_f_Rank_held) f cdv A outer s H E) Fr (defBody s_f_Rank_held) [.dat ((e_Rank C_Rank) self)] (Rt (eT eI) (f_Rank_held self)) := by
  have nd := sc_f_Rank_held.nd
  exact TSs.cast ((tss_one (ts_retE (eT eI) (pyIx self.cells 0) (te_ixE (em := (eT eI)) (te_fld B.cl_Rank B.na_Rank_cells (te_var (pv 0)) (lk_Rank_cells _)) rfl (TE.tp te_int) h)))) rfl
/-! ### inside -/
abbrev s_f_inside : Stmt := top 25
abbrev N_f_inside : List Str := ["one", "other", "world"]
theorem sc_f_inside : FnScope N_f_inside ["one", "other"] (defScope s_f_inside) := ⟨rfl, rfl, rfl, by decide +kernel, rfl, by decide +kernel, by decide +kernel⟩
def T_f_inside (C_Rank : Addr) : TF := TFi (fun (i : (List Int) × (List Int)) => [(eT eI) i.1, (eT eI) i.2]) (fun _ => True) (fun i => eB (f_inside i.1 i.2))
theorem r_f_inside (B : Env K w mg C_Rank d_TURNS a_TURNS)  {cdv : Value} {A : Around} {outer : List PySem.Env} {s : Shared} {H : Hp} {E : XK} {f : Addr} {Fr : Fm} (hr : Room 0 (A.deeper (envOfC "inside" (defScope s_f_inside) s.heap.objs.size f cdv))) (io : Fr.io = []) (one : List Int) (other : List Int) :
    TSs (bcx P w K mg base N_f_inside "inside" (defScope s_f_inside) f cdv A outer s H E) Fr (defBody s_f_inside) [.dat ((eT eI) one), .dat ((eT eI) other), .un] (Rt eB (f_inside one other)) := by
  have nd := sc_f_inside.nd
  exact TSs.cast ((tss_one (ts_retE eB ((one.map (fun (world : Int) => decide (world ∈ other))).all id) (te_all (by rfl) (by rfl) B.all (TN.tp (tn_lc0 (δ2 := [.dat ((eT eI) one), .dat ((eT eI) other), .un]) (own := [("world", 2)]) (g := (gSet 2)) (emi := eI) (emo := eB) (xs := one) (sx := fun (world : Int) => [.dat ((eT eI) one), .dat ((eT eI) other), .dat (eI world)]) (f := fun (world : Int) => decide (world ∈ other))  rfl nd (ti_seq (ds := List.map eI one) (te_var (pv 0)) rfl) (blkOk_by (N := N_f_inside) (sc := defScope s_f_inside) (by decide +kernel)) (fun _ _ _ _ _ _ n => (dg_name (pg_name (i := 2) nd rfl (by first | exact Or.inl rfl | exact Or.inr rfl)) (n 2 (by simp)))) (fun _ _ h => h) (fun world h1 _ _ _ _ _ _ => (te_in fyI (te_var (pv 2)) (TE.tp (te_var (pv 1))) rfl)))))))) rfl
/-! ### every -/
abbrev s_f_every : Stmt := top 20
abbrev N_f_every : List Str := ["worlds"]
theorem sc_f_every : FnScope N_f_every ["worlds"] (defScope s_f_every) := ⟨rfl, rfl, rfl, by decide +kernel, rfl, by decide +kernel, by decide +kernel⟩
def T_f_every (C_Rank : Addr) : TF := TFi (fun (i : Int) => [eI i]) (fun i => ok_f_every i) (fun i => (eT eI) (f_every i))
theorem r_f_every (B : Env K w mg C_Rank d_TURNS a_TURNS) (d1_f_check_worlds : CaD P w K mg base "check_worlds" 3 (spF K 2 (T_f_check_worlds C_Rank)) [.int 12]) {cdv : Value} {A : Around} {outer : List PySem.Env} {s : Shared} {H : Hp} {E : XK} {f : Addr} {Fr : Fm} (hr : Room 3 (A.deeper (envOfC "every" (defScope s_f_every) s.heap.objs.size f cdv))) (io : Fr.io = []) (worlds : Int) (h : ok_f_every worlds) :
    TSs (bcx P w K mg base N_f_every "every" (defScope s_f_every) f cdv A outer s H E) Fr (defBody s_f_every) [.dat (eI worlds)] (Rt (eT eI) (f_every worlds)) := by
  have nd := sc_f_every.nd
  exact TSs.cast ((tss_cons (ts_expr (te_callD d1_f_check_worlds hr (by decide) (by rfl) (ta_cons (te_var (pv 0)) ta_nil) (fun _ q_ => ⟨(worlds, 12), h.1, rfl, q_⟩)))
  (tss_one (ts_retE (eT eI) (rng 0 worlds) (te_tupR (by rfl) (by rfl) B.tuple (by rfl) B.range (te_var (pv 0)) h.2))))) rfl
/-! ### minus -/
abbrev s_f_minus : Stmt := top 24
abbrev N_f_minus : List Str := ["one", "other", "world"]
theorem sc_f_minus : FnScope N_f_minus ["one", "other"] (defScope s_f_minus) := ⟨rfl, rfl, rfl, by decide +kernel, rfl, by decide +kernel, by decide +kernel⟩
def T_f_minus (C_Rank : Addr) : TF := TFi (fun (i : (List Int) × (List Int)) => [(eT eI) i.1, (eT eI) i.2]) (fun _ => True) (fun i => (eT eI) (f_minus i.1 i.2))
theorem r_f_minus (B : Env K w mg C_Rank d_TURNS a_TURNS)  {cdv : Value} {A : Around} {outer : List PySem.Env} {s : Shared} {H : Hp} {E : XK} {f : Addr} {Fr : Fm} (hr : Room 0 (A.deeper (envOfC "minus" (defScope s_f_minus) s.heap.objs.size f cdv))) (io : Fr.io = []) (one : List Int) (other : List Int) :
    TSs (bcx P w K mg base N_f_minus "minus" (defScope s_f_minus) f cdv A outer s H E) Fr (defBody s_f_minus) [.dat ((eT eI) one), .dat ((eT eI) other), .un] (Rt (eT eI) (f_minus one other)) := by
  have nd := sc_f_minus.nd
  exact TSs.cast ((tss_one (ts_retE (eT eI) (srt (one.filter (fun (world : Int) => (!decide (world ∈ other))))) (te_tuple (em := eI) (by rfl) B.tuple (TN.tp (tn_sorted (by rfl) B.sorted (TN.tp (tn_lcf (δ2 := [.dat ((eT eI) one), .dat ((eT eI) other), .un]) (own := [("world", 2)]) (g := (gSet 2)) (emi := eI) (emx := eI) (xs := one) (sx := fun (world : Int) => [.dat ((eT eI) one), .dat ((eT eI) other), .dat (eI world)]) (t := fun (world : Int) => (!decide (world ∈ other)))  rfl nd (ti_seq (ds := List.map eI one) (te_var (pv 0)) rfl) (blkOk_by (N := N_f_minus) (sc := defScope s_f_minus) (by decide +kernel)) (fun _ _ _ _ _ _ n => (dg_name (pg_name (i := 2) nd rfl (by first | exact Or.inl rfl | exact Or.inr rfl)) (n 2 (by simp)))) (fun _ _ h => h) (fun world h1 _ _ _ _ _ _ => (tts_one (tt_notin fyI (te_var (pv 2)) (TE.tp (te_var (pv 1))) rfl))) (fun world h1 h2 _ _ _ _ _ _ => (te_var (pv 2))))) rfl)) rfl)))) rfl
/-! ### rest_of -/
abbrev s_f_rest_of : Stmt := top 21
abbrev N_f_rest_of : List Str := ["lot", "worlds"]
theorem sc_f_rest_of : FnScope N_f_rest_of ["lot", "worlds"] (defScope s_f_rest_of) := ⟨rfl, rfl, rfl, by decide +kernel, rfl, by decide +kernel, by decide +kernel⟩
def T_f_rest_of (C_Rank : Addr) : TF := TFi (fun (i : (List Int) × Int) => [(eT eI) i.1, eI i.2]) (fun i => ok_f_rest_of i.1 i.2) (fun i => (eT eI) (f_rest_of i.1 i.2))
theorem r_f_rest_of (B : Env K w mg C_Rank d_TURNS a_TURNS) (c_f_every : Ca P w K mg base "every" 4 (spF K 1 (T_f_every C_Rank))) (d2_f_lot_of : CaD P w K mg base "lot_of" 5 (spF K 3 (T_f_lot_of C_Rank)) [.bl true]) (c_f_minus : Ca P w K mg base "minus" 1 (spF K 2 (T_f_minus C_Rank))) {cdv : Value} {A : Around} {outer : List PySem.Env} {s : Shared} {H : Hp} {E : XK} {f : Addr} {Fr : Fm} (hr : Room 5 (A.deeper (envOfC "rest_of" (defScope s_f_rest_of) s.heap.objs.size f cdv))) (io : Fr.io = []) (lot : List Int) (worlds : Int) (h : ok_f_rest_of lot worlds) :
    TSs (bcx P w K mg base N_f_rest_of "rest_of" (defScope s_f_rest_of) f cdv A outer s H E) Fr (defBody s_f_rest_of) [.dat ((eT eI) lot), .dat (eI worlds)] (Rt (eT eI) (f_rest_of lot worlds)) := by
  have nd := sc_f_rest_of.nd
  exact TSs.cast ((tss_one (ts_retE (eT eI) (f_minus (f_every worlds) (f_lot_of lot worlds true)) (te_call c_f_minus hr (by decide) (by rfl) (ta_cons (te_call c_f_every hr (by decide) (by rfl) (ta_cons (te_var (pv 1)) ta_nil) (fun _ q_ => ⟨(worlds), h.1, rfl, q_⟩)) (ta_cons (te_callD d2_f_lot_of hr (by decide) (by rfl) (ta_cons (te_var (pv 0)) (ta_cons (te_var (pv 1)) ta_nil)) (fun _ q_ => ⟨(lot, worlds, true), h.2, rfl, q_⟩)) ta_nil)) (fun _ q_ => ⟨((f_every worlds), (f_lot_of lot worlds true)), trivial, rfl, q_⟩))))) rfl
/-! ### common -/
abbrev s_f_common : Stmt := top 23
abbrev N_f_common : List Str := ["one", "other", "world"]
theorem sc_f_common : FnScope N_f_common ["one", "other"] (defScope s_f_common) := ⟨rfl, rfl, rfl, by decide +kernel, rfl, by decide +kernel, by decide +kernel⟩
def T_f_common (C_Rank : Addr) : TF := TFi (fun (i : (List Int) × (List Int)) => [(eT eI) i.1, (eT eI) i.2]) (fun _ => True) (fun i => (eT eI) (f_common i.1 i.2))
theorem r_f_common (B : Env K w mg C_Rank d_TURNS a_TURNS)  {cdv : Value} {A : Around} {outer : List PySem.Env} {s : Shared} {H : Hp} {E : XK} {f : Addr} {Fr : Fm} (hr : Room 0 (A.deeper (envOfC "common" (defScope s_f_common) s.heap.objs.size f cdv))) (io : Fr.io = []) (one : List Int) (other : List Int) :
    TSs (bcx P w K mg base N_f_common "common" (defScope s_f_common) f cdv A outer s H E) Fr (defBody s_f_common) [.dat ((eT eI) one), .dat ((eT eI) other), .un] (Rt (eT eI) (f_common one other)) := by
  have nd := sc_f_common.nd
  exact TSs.cast ((tss_one (ts_retE (eT eI) (srt (one.filter (fun (world : Int) => decide (world ∈ other)))) (te_tuple (em := eI) (by rfl) B.tuple (TN.tp (tn_sorted (by rfl) B.sorted (TN.tp (tn_lcf (δ2 := [.dat ((eT eI) one), .dat ((eT eI) other), .un]) (own := [("world", 2)]) (g := (gSet 2)) (emi := eI) (emx := eI) (xs := one) (sx := fun (world : Int) => [.dat ((eT eI) one), .dat ((eT eI) other), .dat (eI world)]) (t := fun (world : Int) => decide (world ∈ other))  rfl nd (ti_seq (ds := List.map eI one) (te_var (pv 0)) rfl) (blkOk_by (N := N_f_common) (sc := defScope s_f_common) (by decide +kernel)) (fun _ _ _ _ _ _ n => (dg_name (pg_name (i := 2) nd rfl (by first | exact Or.inl rfl | exact Or.inr rfl)) (n 2 (by simp)))) (fun _ _ h => h) (fun world h1 _ _ _ _ _ _ => (tts_one (tt_in fyI (te_var (pv 2)) (TE.tp (te_var (pv 1))) rfl))) (fun world h1 h2 _ _ _ _ _ _ => (te_var (pv 2))))) rfl)) rfl)))) rfl
/-! ### Rank.best -/
abbrev s_f_Rank_best : Stmt := inClass (top 30) 7
abbrev N_f_Rank_best : List Str := ["self", "lot", "asked", "least", "world"]
theorem sc_f_Rank_best : FnScope N_f_Rank_best ["self", "lot"] (defScope s_f_Rank_best) := ⟨rfl, rfl, rfl, by decide +kernel, rfl, by decide +kernel, by decide +kernel⟩
def T_f_Rank_best (C_Rank : Addr) : TF := TFi (fun (i : Rank × (List Int)) => [(e_Rank C_Rank) i.1, (eT eI) i.2]) (fun i => ok_f_Rank_best i.1 i.2) (fun i => (eT eI) (f_Rank_best i.1 i.2))
theorem r_f_Rank_best (B : Env K w mg C_Rank d_TURNS a_TURNS) (k2_f_lot_of : CaK P w K mg base "lot_of" 5 2 ["empty"] (spF K 3 (T_f_lot_of C_Rank))) (c_f_common : Ca P w K mg base "common" 1 (spF K 2 (T_f_common C_Rank))) {cdv : Value} {A : Around} {outer : List PySem.Env} {s : Shared} {H : Hp} {E : XK} {f : Addr} {Fr : Fm} (hr : Room 5 (A.deeper (envOfC "Rank.best" (defScope s_f_Rank_best) s.heap.objs.size f cdv))) (io : Fr.io = []) (self : Rank) (lot : List Int) (h : ok_f_Rank_best self lot) :
    TSs (bcx P w K mg base N_f_Rank_best "Rank.best" (defScope s_f_Rank_best) f cdv A outer s H E) Fr (defBody s_f_Rank_best) [.dat ((e_Rank C_Rank) self), .dat ((eT eI) lot), .un, .un, .un] (Rt (eT eI) (f_Rank_best self lot)) := by
  have nd := sc_f_Rank_best.nd
  exact TSs.cast ((tss_ltK (st' := fun (asked : List Int) => [.dat ((e_Rank C_Rank) self), .dat ((eT eI) lot), .dat ((eT eI) asked), .un, .un]) (f_lot_of lot self.worlds false) h.2 (ts_set (te_callK k2_f_lot_of hr (by decide) (by rfl) (ta_cons (te_var (pv 1)) (ta_cons (te_fld B.cl_Rank B.na_Rank_worlds (te_var (pv 0)) (lk_Rank_worlds _)) ta_nil)) (tk_cons te_bl tk_nil) (fun _ q_ => ⟨(lot, self.worlds, false), h.1, rfl, q_⟩)) (pg_name (i := 2) nd rfl (by first | exact Or.inl rfl | exact Or.inr rfl)) (nio0 io 2))
  (fun asked h4 => (tss_ltK (st' := fun (least : Int) => [.dat ((e_Rank C_Rank) self), .dat ((eT eI) lot), .dat ((eT eI) asked), .dat (eI least), .un]) (minL (asked.map (fun (world : Int) => (pyIx self.levels world)))) h4.2.2 (ts_set (te_min (by rfl) (by rfl) B.min (TN.tp (tn_lc0 (δ2 := [.dat ((e_Rank C_Rank) self), .dat ((eT eI) lot), .dat ((eT eI) asked), .un, .un]) (own := [("world", 4)]) (g := (gSet 4)) (emi := eI) (emo := eI) (xs := asked) (sx := fun (world : Int) => [.dat ((e_Rank C_Rank) self), .dat ((eT eI) lot), .dat ((eT eI) asked), .un, .dat (eI world)]) (f := fun (world : Int) => (pyIx self.levels world))  rfl nd (ti_seq (ds := List.map eI asked) (te_var (pv 2)) rfl) (blkOk_by (N := N_f_Rank_best) (sc := defScope s_f_Rank_best) (by decide +kernel)) (fun _ _ _ _ _ _ n => (dg_name (pg_name (i := 4) nd rfl (by first | exact Or.inl rfl | exact Or.inr rfl)) (n 4 (by simp)))) (fun _ _ h => h) (fun world h1 _ _ _ _ _ _ => (te_ixE (em := eI) (te_fld B.cl_Rank B.na_Rank_levels (te_var (pv 0)) (lk_Rank_levels _)) rfl (TE.tp (te_var (pv 4))) (h4.1 world h1))))) h4.2.1) (pg_name (i := 3) nd rfl (by first | exact Or.inl rfl | exact Or.inr rfl)) (nio0 io 3))
  (fun least h3 => (tss_one (ts_retE (eT eI) (f_common asked (pyIx self.cells least)) (te_call c_f_common hr (by decide) (by rfl) (ta_cons (te_var (pv 2)) (ta_cons (te_ixE (em := (eT eI)) (te_fld B.cl_Rank B.na_Rank_cells (te_var (pv 0)) (lk_Rank_cells _)) rfl (TE.tp (te_var (pv 3))) h3) ta_nil)) (fun _ q_ => ⟨(asked, (pyIx self.cells least)), trivial, rfl, q_⟩))))) rfl rfl)) rfl rfl)) rfl
/-! ### plus -/
abbrev s_f_plus : Stmt := top 22
abbrev N_f_plus : List Str := ["one", "other"]
theorem sc_f_plus : FnScope N_f_plus ["one", "other"] (defScope s_f_plus) := ⟨rfl, rfl, rfl, by decide +kernel, rfl, by decide +kernel, by decide +kernel⟩
def T_f_plus (C_Rank : Addr) : TF := TFi (fun (i : (List Int) × (List Int)) => [(eT eI) i.1, (eT eI) i.2]) (fun i => ok_f_plus i.1 i.2) (fun i => (eT eI) (f_plus i.1 i.2))
theorem r_f_plus (B : Env K w mg C_Rank d_TURNS a_TURNS)  {cdv : Value} {A : Around} {outer : List PySem.Env} {s : Shared} {H : Hp} {E : XK} {f : Addr} {Fr : Fm} (hr : Room 0 (A.deeper (envOfC "plus" (defScope s_f_plus) s.heap.objs.size f cdv))) (io : Fr.io = []) (one : List Int) (other : List Int) (h : ok_f_plus one other) :
    TSs (bcx P w K mg base N_f_plus "plus" (defScope s_f_plus) f cdv A outer s H E) Fr (defBody s_f_plus) [.dat ((eT eI) one), .dat ((eT eI) other)] (Rt (eT eI) (f_plus one other)) := by
  have nd := sc_f_plus.nd
  exact TSs.cast ((tss_one (ts_retE (eT eI) (sset (one ++ other)) (te_tuple (em := eI) (by rfl) B.tuple (TN.tp (tn_srtSet (by rfl) (by rfl) B.sorted (by rfl) B.set (TN.tp (tn_catL (em := eI) (TN.tp (tn_list (em := eI) (by rfl) B.list (TE.tp (te_var (pv 0))) rfl)) (TN.tp (tn_list (em := eI) (by rfl) B.list (TE.tp (te_var (pv 1))) rfl)) h.1)) h.2)) rfl)))) rfl
/-! ### parts_out -/
abbrev s_f_parts_out : Stmt := top 33
abbrev N_f_parts_out : List Str := ["cells", "lot", "part", "cell"]
theorem sc_f_parts_out : FnScope N_f_parts_out ["cells", "lot"] (defScope s_f_parts_out) := ⟨rfl, rfl, rfl, by decide +kernel, rfl, by decide +kernel, by decide +kernel⟩
def T_f_parts_out (C_Rank : Addr) : TFN := TFNi (fun (i : (List (List Int)) × (List Int)) => [(eT (eT eI)) i.1, (eT eI) i.2]) (fun _ => True) (fun i => (f_parts_out i.1 i.2).map (eT eI))
theorem r_f_parts_out (B : Env K w mg C_Rank d_TURNS a_TURNS) (c_f_minus : Ca P w K mg base "minus" 1 (spF K 2 (T_f_minus C_Rank))) {cdv : Value} {A : Around} {outer : List PySem.Env} {s : Shared} {H : Hp} {E : XK} {f : Addr} {Fr : Fm} (hr : Room 1 (A.deeper (envOfC "parts_out" (defScope s_f_parts_out) s.heap.objs.size f cdv))) (io : Fr.io = []) (cells : List (List Int)) (lot : List Int) :
    TSs (bcx P w K mg base N_f_parts_out "parts_out" (defScope s_f_parts_out) f cdv A outer s H E) Fr (defBody s_f_parts_out) [.dat ((eT (eT eI)) cells), .dat ((eT eI) lot), .un, .un] (RtN (eT eI) (f_parts_out cells lot)) := by
  have nd := sc_f_parts_out.nd
  exact TSs.cast ((tss_one (ts_retNE (eT eI) ((cells.map (fun (cell : List Int) => (f_minus cell lot))).filter (fun (part : List Int) => (!part.isEmpty))) (tn_lcf (δ2 := [.dat ((eT (eT eI)) cells), .dat ((eT eI) lot), .un, .un]) (own := [("part", 2)]) (g := (gSet 2)) (emi := (eT eI)) (emx := (eT eI)) (xs := (cells.map (fun (cell : List Int) => (f_minus cell lot)))) (sx := fun (part : List Int) => [.dat ((eT (eT eI)) cells), .dat ((eT eI) lot), .dat ((eT eI) part), .un]) (t := fun (part : List Int) => (!part.isEmpty))  rfl nd (ti_seq (ds := List.map (eT eI) (cells.map (fun (cell : List Int) => (f_minus cell lot)))) (TN.te (tn_lc0 (δ2 := [.dat ((eT (eT eI)) cells), .dat ((eT eI) lot), .un, .un]) (own := [("cell", 3)]) (g := (gSet 3)) (emi := (eT eI)) (emo := (eT eI)) (xs := cells) (sx := fun (cell : List Int) => [.dat ((eT (eT eI)) cells), .dat ((eT eI) lot), .un, .dat ((eT eI) cell)]) (f := fun (cell : List Int) => (f_minus cell lot))  rfl nd (ti_seq (ds := List.map (eT eI) cells) (te_var (pv 0)) rfl) (blkOk_by (N := N_f_parts_out) (sc := defScope s_f_parts_out) (by decide +kernel)) (fun _ _ _ _ _ _ n => (dg_name (pg_name (i := 3) nd rfl (by first | exact Or.inl rfl | exact Or.inr rfl)) (n 3 (by simp)))) (fun _ _ h => h) (fun cell h1 _ _ _ _ _ _ => (te_call c_f_minus hr (by decide) (by rfl) (ta_cons (te_var (pv 3)) (ta_cons (te_var (pv 1)) ta_nil)) (fun _ q_ => ⟨(cell, lot), trivial, rfl, q_⟩))))) rfl) (blkOk_by (N := N_f_parts_out) (sc := defScope s_f_parts_out) (by decide +kernel)) (fun _ _ _ _ _ _ n => (dg_name (pg_name (i := 2) nd rfl (by first | exact Or.inl rfl | exact Or.inr rfl)) (n 2 (by simp)))) (fun _ _ h => h) (fun part h3 _ _ _ _ _ _ => (tts_one (tt_tru (TE.tp (te_var (pv 2))) (by show some (!(List.isEmpty (List.map _ _))) = _; rw [List.isEmpty_map])))) (fun part h3 h4 _ _ _ _ _ _ => (te_var (pv 2))))))) rfl
/-! ### is_row -/
abbrev s_f_is_row_4 : Stmt := top 12
abbrev N_f_is_row_4 : List Str := ["value"]
theorem sc_f_is_row_4 : FnScope N_f_is_row_4 ["value"] (defScope s_f_is_row_4) := ⟨rfl, rfl, rfl, by decide +kernel, rfl, by decide +kernel, by decide +kernel⟩
def T_f_is_row_4 (C_Rank : Addr) : TF := TFi (fun (i : List (List Int)) => [(eL (eT eI)) i]) (fun _ => True) (fun i => eB (f_is_row_4 i))
theorem r_f_is_row_4 (B : Env K w mg C_Rank d_TURNS a_TURNS)  {cdv : Value} {A : Around} {outer : List PySem.Env} {s : Shared} {H : Hp} {E : XK} {f : Addr} {Fr : Fm} (hr : Room 0 (A.deeper (envOfC "is_row" (defScope s_f_is_row_4) s.heap.objs.size f cdv))) (io : Fr.io = []) (value : List (List Int)) :
    TSs (bcx P w K mg base N_f_is_row_4 "is_row" (defScope s_f_is_row_4) f cdv A outer s H E) Fr (defBody s_f_is_row_4) [.dat ((eL (eT eI)) value)] (Rt eB (f_is_row_4 value)) := by
  have nd := sc_f_is_row_4.nd
  exact TSs.cast ((tss_one (ts_retE eB true (te_isiT (Ts := ["list", "tuple"]) (by rfl) B.isinstance (TE.tp (te_var (pv 0))) (pa_cons (pe_bltn (v := .ty "list") (u := .type "list") (by rfl) B.list (by decide +kernel) rfl) (pa_cons (pe_bltn (v := .ty "tuple") (u := .type "tuple") (by rfl) B.tuple (by decide +kernel) rfl) pa_nil)) (by decide) rfl (by decide +kernel))))) rfl
/-! ### cells_fault -/
abbrev s_f_cells_fault_2 : Stmt := top 27
abbrev N_f_cells_fault_2 : List Str := ["cells", "seen", "place", "cell", "entry"]
theorem sc_f_cells_fault_2 : FnScope N_f_cells_fault_2 ["cells"] (defScope s_f_cells_fault_2) := ⟨rfl, rfl, rfl, by decide +kernel, rfl, by decide +kernel, by decide +kernel⟩
def T_f_cells_fault_2 (C_Rank : Addr) : TF := TFi (fun (i : List (List Int)) => [(eL (eT eI)) i]) (fun i => ok_f_cells_fault_2 i) (fun i => (eO eI) (f_cells_fault_2 i))
theorem r_f_cells_fault_2 (B : Env K w mg C_Rank d_TURNS a_TURNS) (c_f_is_row_4 : Ca P w K mg base "is_row" 1 (spF K 1 (T_f_is_row_4 C_Rank))) (c_f_is_row_3 : Ca P w K mg base "is_row" 1 (spF K 1 (T_f_is_row_3 C_Rank))) (c_f_is_within : Ca P w K mg base "is_within" 2 (spF K 3 (T_f_is_within C_Rank))) {cdv : Value} {A : Around} {outer : List PySem.Env} {s : Shared} {H : Hp} {E : XK} {f : Addr} {Fr : Fm} (hr : Room 2 (A.deeper (envOfC "cells_fault" (defScope s_f_cells_fault_2) s.heap.objs.size f cdv))) (io : Fr.io = []) (cells : List (List Int)) (h : ok_f_cells_fault_2 cells) :
    TSs (bcx P w K mg base N_f_cells_fault_2 "cells_fault" (defScope s_f_cells_fault_2) f cdv A outer s H E) Fr (defBody s_f_cells_fault_2) [.dat ((eL (eT eI)) cells), .un, .un, .un, .un] (Rt (eO eI) (f_cells_fault_2 cells)) := by
  have nd := sc_f_cells_fault_2.nd
  exact TSs.cast ((tss_ifX (rt := (Rt (eO eI))) (tt_w (tw_or (tt_not (tt_val (te_call c_f_is_row_4 hr (by decide) (by rfl) (ta_cons (te_var (pv 0)) ta_nil) (fun _ q_ => ⟨(cells), trivial, rfl, q_⟩)))) (fun h1 => (tw_or1 (tt_eq pyI hr.units (TE.tp (te_len (em := (eT eI)) (by rfl) B.len (TE.tp (te_var (pv 0))) rfl)) (TE.tp te_int)))))) (by exact True.intro) (fun h2 => (tss_one (ts_retE (eO eI) (some (-1)) (te_some (em := eI) (te_neg te_int)))))
  (fun h2 => (tss_ltK (st' := fun (seen : List Int) => [.dat ((eL (eT eI)) cells), .own (seen.map eI), .un, .un, .un]) [] (h h2) (ts_setN (tn_lst ta_nil (le_sz 0 rfl (by decide))) (pg_name (i := 1) nd rfl (by first | exact Or.inl rfl | exact Or.inr rfl)) (nio0 io 1))
  (fun seen h13 => (tss_el (st' := (fun (seen1 : List Int) => [.dat ((eL (eT eI)) cells), .own (seen1.map eI), .un, .un, .un])) (rt := (Rt (eO eI))) (rt_ex (eO eI)) h13.2 (ts_for (g := (wgTup 2 (wgCons (gSet 2) (wgCons (gSet 3) wgNil)))) (emi := (eP2 eI (eT eI))) (st' := (fun (seen1 : List Int) => [.dat ((eL (eT eI)) cells), .own (seen1.map eI), .un, .un, .un])) (st1 := (fun (seen1 : List Int) (p : Int × (List Int)) => [.dat ((eL (eT eI)) cells), .own (seen1.map eI), .dat (eI p.1), .dat ((eT eI) p.2), .un])) (rt := (Rt (eO eI))) (body := (fun (seen1 : List Int) (p : Int × (List Int)) => (if ((!(f_is_row_3 p.2)) || decide ((p.2.length : Int) = 0)) = true then .ret (some p.1) else
  (forF (fun (seen2 : List Int) (entry : Int) => (if ((!(f_is_within entry 0 (12 - 1))) || decide (entry ∈ seen2)) = true then .ret (some p.1) else
  let seen3 : List Int := (seen2 ++ [entry])
  .next seen3 : Fl (List Int) (Option Int))) p.2 seen1).fl fun (seen2 : List Int) =>
  .next seen2 : Fl (List Int) (Option Int)))) (xs := (enm 0 cells)) (r0 := seen) PassesOwn.never rfl (rt_ex (eO eI)) (rt_st (eO eI)) (ti_enum (em := (eT eI)) (by rfl) B.enumerate (te_var (pv 0)) rfl) (dg_tup rfl (dgs_cons (dg_name (pg_name (i := 2) nd rfl (by first | exact Or.inl rfl | exact Or.inr rfl)) (nio0 io 2)) (dgs_cons (dg_name (pg_name (i := 3) nd rfl (by first | exact Or.inl rfl | exact Or.inr rfl)) (nio0 io 3)) dgs_nil))) (fun _ _ _ h => ⟨_, rfl, rfl, _, _, rfl, _, _, rfl, rfl, h⟩) rfl h13.1 (fun seen1 p h3 => (tss_ifX (rt := (Fl.oc (fun (seen1 : List Int) => [.dat ((eL (eT eI)) cells), .own (seen1.map eI), .un, .un, .un]) (Rt (eO eI)))) (tt_w (tw_or (tt_not (tt_val (te_call c_f_is_row_3 hr (by decide) (by rfl) (ta_cons (te_var (pv 3)) ta_nil) (fun _ q_ => ⟨(p.2), trivial, rfl, q_⟩)))) (fun h4 => (tw_or1 (tt_eq pyI hr.units (TE.tp (te_len (em := eI) (by rfl) B.len (TE.tp (te_var (pv 3))) rfl)) (TE.tp te_int)))))) (by (repeat' split) <;> exact True.intro) (fun h5 => (tss_one (ts_retF (fun (seen1 : List Int) => [.dat ((eL (eT eI)) cells), .own (seen1.map eI), .un, .un, .un]) (some p.1) (ts_retE (eO eI) (some p.1) (te_some (em := eI) (te_var (pv 2)))))))
  (fun h5 => (tss_fl (st' := (fun (seen2 : List Int) => [.dat ((eL (eT eI)) cells), .own (seen2.map eI), .dat (eI p.1), .dat ((eT eI) p.2), .un])) (st2 := (fun (seen1 : List Int) => [.dat ((eL (eT eI)) cells), .own (seen1.map eI), .un, .un, .un])) (rt := (Rt (eO eI))) (okR := fun _ => True) (rt_ex (eO eI)) (bdR_true _) (ts_for (g := (gSet 4)) (emi := eI) (st' := (fun (seen2 : List Int) => [.dat ((eL (eT eI)) cells), .own (seen2.map eI), .dat (eI p.1), .dat ((eT eI) p.2), .un])) (st1 := (fun (seen2 : List Int) (entry : Int) => [.dat ((eL (eT eI)) cells), .own (seen2.map eI), .dat (eI p.1), .dat ((eT eI) p.2), .dat (eI entry)])) (rt := (Rt (eO eI))) (body := (fun (seen2 : List Int) (entry : Int) => (if ((!(f_is_within entry 0 (12 - 1))) || decide (entry ∈ seen2)) = true then .ret (some p.1) else
  let seen3 : List Int := (seen2 ++ [entry])
  .next seen3 : Fl (List Int) (Option Int)))) (xs := p.2) (r0 := seen1) PassesOwn.never rfl (rt_ex (eO eI)) (rt_st (eO eI)) (ti_seq (ds := List.map eI p.2) (te_var (pv 3)) rfl) (dg_name (pg_name (i := 4) nd rfl (by first | exact Or.inl rfl | exact Or.inr rfl)) (nio0 io 4)) (fun _ _ _ h => h) rfl (h3 h5) (fun seen2 entry h6 => (tss_ifX (rt := (Fl.oc (fun (seen2 : List Int) => [.dat ((eL (eT eI)) cells), .own (seen2.map eI), .dat (eI p.1), .dat ((eT eI) p.2), .un]) (Rt (eO eI)))) (tt_w (tw_or (tt_not (tt_val (te_call c_f_is_within hr (by decide) (by rfl) (ta_cons (te_var (pv 4)) (ta_cons te_int (ta_cons (te_sub (te_glob (C8.pe_gc (by rfl) B.MOST_WORLDS)) (TE.tp te_int)) ta_nil))) (fun _ q_ => ⟨(entry, 0, (12 - 1)), trivial, rfl, q_⟩)))) (fun h7 => (tw_or1 (tt_in fyI (te_var (pv 4)) (tp_own (pv 1)) rfl))))) (by (repeat' split) <;> exact True.intro) (fun h8 => (tss_one (ts_retF (fun (seen2 : List Int) => [.dat ((eL (eT eI)) cells), .own (seen2.map eI), .dat (eI p.1), .dat ((eT eI) p.2), .un]) (some p.1) (ts_retE (eO eI) (some p.1) (te_some (em := eI) (te_var (pv 2)))))))
  (fun h8 => (tss_lt (st' := fun (seen3 : List Int) => [.dat ((eL (eT eI)) cells), .own (seen3.map eI), .dat (eI p.1), .dat ((eT eI) p.2), .dat (eI entry)]) (seen2 ++ [entry]) (ts_expr (te_app (em := eI) (xs := seen2) (x := entry) (te_var (pv 4)) (h6 h8) fun _ h => pe_bm PySem.F.plainAttrs_list PySem.F.slot_list_append PySem.F.type_list_append mt_append (pv 1) h))
  (fun seen3 => (tss_unset (vs := [4]) (fun i hi => nio0 io i) (tss_endF (fun (seen2 : List Int) => [.dat ((eL (eT eI)) cells), .own (seen2.map eI), .dat (eI p.1), .dat ((eT eI) p.2), .un]) (Rt (eO eI)) seen3))) rfl rfl)))) fun _ _ h1 h2 => ps_for PassesOwn.never rfl h1 (dg_name (pg_name (i := 4) nd rfl (by first | exact Or.inl rfl | exact Or.inr rfl)) (nio0 io 4)) h2)
  (fun seen2 h10 => (tss_unset (vs := [2, 3]) (fun i hi => nio0 io i) (tss_endF (fun (seen1 : List Int) => [.dat ((eL (eT eI)) cells), .own (seen1.map eI), .un, .un, .un]) (Rt (eO eI)) seen2))))))) fun _ _ h1 h2 => ps_for PassesOwn.never rfl h1 (dg_tup rfl (dgs_cons (dg_name (pg_name (i := 2) nd rfl (by first | exact Or.inl rfl | exact Or.inr rfl)) (nio0 io 2)) (dgs_cons (dg_name (pg_name (i := 3) nd rfl (by first | exact Or.inl rfl | exact Or.inr rfl)) (nio0 io 3)) dgs_nil))) h2)
  (fun seen1 h12 => (tss_ifX (rt := (Rt (eO eI))) (tt_ge (te_max (by rfl) (by rfl) B.max (tp_own (pv 1)) h12) (TE.tp (te_len (em := eI) (by rfl) B.len (tp_own (pv 1)) rfl))) (by exact True.intro) (fun h11 => (tss_one (ts_retE (eO eI) (some (cells.length : Int)) (te_some (em := eI) (te_len (em := (eT eI)) (by rfl) B.len (TE.tp (te_var (pv 0))) rfl)))))
  (fun h11 => (tss_one (ts_retE (eO eI) none (te_none (em := eI) te_non)))))))) rfl rfl)))) rfl
/-! ### Rank.__init__ -/
abbrev s_f_Rank__init___2 : Stmt := inClass (top 30) 0
abbrev N_f_Rank__init___2 : List Str := ["self", "cells", "place", "cell"]
theorem sc_f_Rank__init___2 : FnScope N_f_Rank__init___2 ["self", "cells"] (defScope s_f_Rank__init___2) := ⟨rfl, rfl, rfl, by decide +kernel, rfl, by decide +kernel, by decide +kernel⟩
def T_f_Rank__init___2 (C_Rank : Addr) : TIn := TIni (fun (i : List (List Int)) => [(eL (eT eI)) i]) (fun i => ok_f_Rank__init___2 i) (fun i => fs_Rank (f_Rank__init___2 i))
theorem r_f_Rank__init___2 (B : Env K w mg C_Rank d_TURNS a_TURNS) (c_f_cells_fault_2 : Ca P w K mg base "cells_fault" 3 (spF K 1 (T_f_cells_fault_2 C_Rank))) (c_f_levels_of : Ca P w K mg base "levels_of" 1 (spF K 1 (T_f_levels_of C_Rank))) {cdv : Value} {A : Around} {outer : List PySem.Env} {s : Shared} {H : Hp} {E : XK} {f : Addr} {Fr : Fm} (hr : Room 3 (A.deeper (envOfC "Rank.__init__" (defScope s_f_Rank__init___2) s.heap.objs.size f cdv))) (io : ∃ a, Fr.io = [(0, a)]) (cells : List (List Int)) (h : ok_f_Rank__init___2 cells) :
    TSs (bcx P w K mg base N_f_Rank__init___2 "Rank.__init__" (defScope s_f_Rank__init___2) f cdv A outer s H E) Fr (defBody s_f_Rank__init___2) [.slf C_Rank [], .dat ((eL (eT eI)) cells), .un, .un] (.nx [.slf C_Rank [("cells", (eT (eT eI)) ((f_Rank__init___2 cells).cells)), ("levels", (eT eI) ((f_Rank__init___2 cells).levels)), ("worlds", eI ((f_Rank__init___2 cells).worlds))], .un, .un, .un]) := by
  have nd := sc_f_Rank__init___2.nd
  exact TSs.cast ((tss_ltK (st' := fun (place : Option Int) => [.slf C_Rank [], .dat ((eL (eT eI)) cells), .dat ((eO eI) place), .un]) (f_cells_fault_2 cells) h.2 (ts_set (te_call c_f_cells_fault_2 hr (by decide) (by rfl) (ta_cons (te_var (pv 1)) ta_nil) (fun _ q_ => ⟨(cells), h.1, rfl, q_⟩)) (pg_name (i := 2) nd rfl (by first | exact Or.inl rfl | exact Or.inr rfl)) (nio1 io (by decide)))
  (fun place h6 => (tss_ifN (tt_notN (em := eI) (fun _ => rfl) (TE.tp (te_var (pv 2))) (TE.tp te_non)) h6.1 (tss_ltK (st' := fun (cells1 : List (List Int)) => [.slf C_Rank [("cells", (eT (eT eI)) cells1)], .dat ((eL (eT eI)) cells), .dat ((eO eI) place), .un]) (cells.map (fun (cell : List Int) => (srt cell))) h6.2 (ts_setS B.cl_Rank B.na_Rank_cells (pv 0) (te_tuple (em := (eT eI)) (by rfl) B.tuple (TN.tp (tn_lc0 (δ2 := [.slf C_Rank [], .dat ((eL (eT eI)) cells), .dat ((eO eI) place), .un]) (own := [("cell", 3)]) (g := (gSet 3)) (emi := (eT eI)) (emo := (eT eI)) (xs := cells) (sx := fun (cell : List Int) => [.slf C_Rank [], .dat ((eL (eT eI)) cells), .dat ((eO eI) place), .dat ((eT eI) cell)]) (f := fun (cell : List Int) => (srt cell))  rfl nd (ti_seq (ds := List.map (eT eI) cells) (te_var (pv 1)) rfl) (blkOk_by (N := N_f_Rank__init___2) (sc := defScope s_f_Rank__init___2) (by decide +kernel)) (fun _ _ _ _ _ _ n => (dg_name (pg_name (i := 3) nd rfl (by first | exact Or.inl rfl | exact Or.inr rfl)) (n 3 (by simp)))) (fun _ _ h => h) (fun cell h1 _ _ _ _ _ _ => (te_tuple (em := eI) (by rfl) B.tuple (TN.tp (tn_sorted (by rfl) B.sorted (TE.tp (te_var (pv 3))) rfl)) rfl)))) rfl) rfl (by simp) (by rfl))
  (fun cells1 h5 => (tss_lt (st' := fun (levels : List Int) => [.slf C_Rank [("cells", (eT (eT eI)) cells1), ("levels", (eT eI) levels)], .dat ((eL (eT eI)) cells), .dat ((eO eI) place), .un]) (f_levels_of cells1) (ts_setS B.cl_Rank B.na_Rank_levels (pv 0) (te_call c_f_levels_of hr (by decide) (by rfl) (ta_cons (te_fldS B.cl_Rank B.na_Rank_cells (pv 0) rfl look_hd) ta_nil) (fun _ q_ => ⟨(cells1), h5, rfl, q_⟩)) rfl (by simp) (putD_tl nf_Rank_cells_levels (by rfl)))
  (fun levels => (tss_lt (st' := fun (worlds : Int) => [.slf C_Rank [("cells", (eT (eT eI)) cells1), ("levels", (eT eI) levels), ("worlds", eI worlds)], .dat ((eL (eT eI)) cells), .dat ((eO eI) place), .un]) (levels.length : Int) (ts_setS B.cl_Rank B.na_Rank_worlds (pv 0) (te_len (em := eI) (by rfl) B.len (TE.tp (te_fldS B.cl_Rank B.na_Rank_levels (pv 0) rfl (look_tl nf_Rank_cells_levels look_hd))) rfl) rfl (by simp) (putD_tl nf_Rank_cells_worlds (putD_tl nf_Rank_levels_worlds (by rfl))))
  (fun worlds => (tss_unset (δ2 := [.slf C_Rank [("cells", (eT (eT eI)) cells1), ("levels", (eT eI) levels), ("worlds", eI worlds)], .un, .un, .un]) (vs := [1, 2]) (fun i hi => nio1 io (by simp at hi; omega)) tss_nil)) rfl rfl)) rfl rfl)) rfl rfl))) rfl rfl)) rfl
/-! ### levelled -/
abbrev s_f_levelled : Stmt := top 37
abbrev N_f_levelled : List Str := ["rank", "lot", "gone", "front"]
theorem sc_f_levelled : FnScope N_f_levelled ["rank", "lot"] (defScope s_f_levelled) := ⟨rfl, rfl, rfl, by decide +kernel, rfl, by decide +kernel, by decide +kernel⟩
def T_f_levelled (C_Rank : Addr) : TF := TFi (fun (i : Rank × (List Int)) => [(e_Rank C_Rank) i.1, (eT eI) i.2]) (fun i => ok_f_levelled i.1 i.2) (fun i => (e_Rank C_Rank) (f_levelled i.1 i.2))
theorem r_f_levelled (B : Env K w mg C_Rank d_TURNS a_TURNS) (c_f_lot_but_all : Ca P w K mg base "lot_but_all" 6 (spF K 2 (T_f_lot_but_all C_Rank))) (p_f_Rank_held : Prp P w K mg base C_Rank "held" 1 (spF K 1 (T_f_Rank_held C_Rank))) (c_f_inside : Ca P w K mg base "inside" 1 (spF K 2 (T_f_inside C_Rank))) (c_f_rest_of : Ca P w K mg base "rest_of" 6 (spF K 2 (T_f_rest_of C_Rank))) (m_f_Rank_best : Mth P w K mg base C_Rank "best" 6 (spF K 2 (T_f_Rank_best C_Rank))) (c_f_plus : Ca P w K mg base "plus" 1 (spF K 2 (T_f_plus C_Rank))) (c_f_parts_out : Ca P w K mg base "parts_out" 2 (spFN K 2 (T_f_parts_out C_Rank))) (mk_f_Rank__init___2 : Mkr P w K mg base C_Rank 4 (spIn K C_Rank 1 (T_f_Rank__init___2 C_Rank))) {cdv : Value} {A : Around} {outer : List PySem.Env} {s : Shared} {H : Hp} {E : XK} {f : Addr} {Fr : Fm} (hr : Room 6 (A.deeper (envOfC "levelled" (defScope s_f_levelled) s.heap.objs.size f cdv))) (io : Fr.io = []) (rank : Rank) (lot : List Int) (h : ok_f_levelled rank lot) :
    TSs (bcx P w K mg base N_f_levelled "levelled" (defScope s_f_levelled) f cdv A outer s H E) Fr (defBody s_f_levelled) [.dat ((e_Rank C_Rank) rank), .dat ((eT eI) lot), .un, .un] (Rt (e_Rank C_Rank) (f_levelled rank lot)) := by
  have nd := sc_f_levelled.nd
  exact TSs.cast ((tss_ltK (st' := fun (gone : List Int) => [.dat ((e_Rank C_Rank) rank), .dat ((eT eI) lot), .dat ((eT eI) gone), .un]) (f_lot_but_all lot rank.worlds) h.2 (ts_set (te_call c_f_lot_but_all hr (by decide) (by rfl) (ta_cons (te_var (pv 1)) (ta_cons (te_fld B.cl_Rank B.na_Rank_worlds (te_var (pv 0)) (lk_Rank_worlds _)) ta_nil)) (fun _ q_ => ⟨(lot, rank.worlds), h.1, rfl, q_⟩)) (pg_name (i := 2) nd rfl (by first | exact Or.inl rfl | exact Or.inr rfl)) (nio0 io 2))
  (fun gone h3 => (tss_ifX (rt := (Rt (e_Rank C_Rank))) (tt_not (tt_val (te_call c_f_inside hr (by decide) (by rfl) (ta_cons (te_prop p_f_Rank_held hr (by decide) (te_var (pv 0)) (fun _ q_ => ⟨rank, h3.1, rfl, q_⟩)) (ta_cons (te_var (pv 2)) ta_nil)) (fun _ q_ => ⟨((f_Rank_held rank), gone), trivial, rfl, q_⟩)))) (by exact True.intro) (fun h1 => (tss_one (ts_retE (e_Rank C_Rank) rank (te_var (pv 0)))))
  (fun h1 => (tss_ltK (st' := fun (front : List Int) => [.dat ((e_Rank C_Rank) rank), .dat ((eT eI) lot), .dat ((eT eI) gone), .dat ((eT eI) front)]) (f_plus (f_Rank_held rank) (f_Rank_best rank (f_rest_of gone rank.worlds))) (h3.2 h1).2.2.2.2 (ts_set (te_call c_f_plus hr (by decide) (by rfl) (ta_cons (te_prop p_f_Rank_held hr (by decide) (te_var (pv 0)) (fun _ q_ => ⟨rank, (h3.2 h1).1, rfl, q_⟩)) (ta_cons (te_meth m_f_Rank_best hr (by decide) (te_var (pv 0)) (ta_cons (te_call c_f_rest_of hr (by decide) (by rfl) (ta_cons (te_var (pv 2)) (ta_cons (te_fld B.cl_Rank B.na_Rank_worlds (te_var (pv 0)) (lk_Rank_worlds _)) ta_nil)) (fun _ q_ => ⟨(gone, rank.worlds), (h3.2 h1).2.1, rfl, q_⟩)) ta_nil) (fun _ q_ => ⟨(rank, (f_rest_of gone rank.worlds)), (h3.2 h1).2.2.1, rfl, q_⟩) (lk_Rank_best _)) ta_nil)) (fun _ q_ => ⟨((f_Rank_held rank), (f_Rank_best rank (f_rest_of gone rank.worlds))), (h3.2 h1).2.2.2.1, rfl, q_⟩)) (pg_name (i := 3) nd rfl (by first | exact Or.inl rfl | exact Or.inr rfl)) (nio0 io 3))
  (fun front h2 => (tss_one (ts_retE (e_Rank C_Rank) (f_Rank__init___2 ([front] ++ (f_parts_out rank.cells front))) (te_make mk_f_Rank__init___2 hr (by decide) (by rfl) B.mg_Rank (ta_cons (TN.te (tn_catL (em := (eT eI)) (TN.tp (tn_lst (ta_cons (te_var (pv 3)) ta_nil) (le_sz 1 rfl (by decide)))) (TN.tp (tn_call c_f_parts_out hr (by decide) (by rfl) (ta_cons (te_fld B.cl_Rank B.na_Rank_cells (te_var (pv 0)) (lk_Rank_cells _)) (ta_cons (te_var (pv 3)) ta_nil)) (fun _ q_ => ⟨(rank.cells, front), trivial, rfl, q_⟩))) h2.1)) ta_nil) (fun _ q_ => ⟨(([front] ++ (f_parts_out rank.cells front))), h2.2, rfl, q_⟩))))) rfl rfl)))) rfl rfl)) rfl
/-! ### _law_product -/
abbrev s_l_product : Stmt := top 56
abbrev N_l_product : List Str := ["_law_one", "_law_other", "_law_size", "_law_world"]
theorem sc_l_product : FnScope N_l_product ["_law_one", "_law_other"] (defScope s_l_product) := ⟨rfl, rfl, rfl, by decide +kernel, rfl, by decide +kernel, by decide +kernel⟩
def T_l_product (C_Rank : Addr) : TFN := TFNi (fun (i : (List Int) × (List Int)) => [(eL eI) i.1, (eL eI) i.2]) (fun i => ok_l_product i.1 i.2) (fun i => (l_product i.1 i.2).map eI)
theorem r_l_product (B : Env K w mg C_Rank d_TURNS a_TURNS) (c_l_dense : Ca P w K mg base "_law_dense" 1 (spFN K 1 (T_l_dense C_Rank))) {cdv : Value} {A : Around} {outer : List PySem.Env} {s : Shared} {H : Hp} {E : XK} {f : Addr} {Fr : Fm} (hr : Room 1 (A.deeper (envOfC "_law_product" (defScope s_l_product) s.heap.objs.size f cdv))) (io : Fr.io = []) (one : List Int) (other : List Int) (h : ok_l_product one other) :
    TSs (bcx P w K mg base N_l_product "_law_product" (defScope s_l_product) f cdv A outer s H E) Fr (defBody s_l_product) [.dat ((eL eI) one), .dat ((eL eI) other), .un, .un] (RtN eI (l_product one other)) := by
  have nd := sc_l_product.nd
  exact TSs.cast ((tss_ltK (st' := fun (size : Int) => [.dat ((eL eI) one), .dat ((eL eI) other), .dat (eI size), .un]) ((one.length : Int) + 1) h (ts_set (te_add (te_len (em := eI) (by rfl) B.len (TE.tp (te_var (pv 0))) rfl) (TE.tp te_int)) (pg_name (i := 2) nd rfl (by first | exact Or.inl rfl | exact Or.inr rfl)) (nio0 io 2))
  (fun size h3 => (tss_one (ts_retNE eI (l_dense ((rng 0 (one.length : Int)).map (fun (world : Int) => (((pyIx one world) * size) + (pyIx other world))))) (tn_call c_l_dense hr (by decide) (by rfl) (ta_cons (TN.te (tn_lc0 (δ2 := [.dat ((eL eI) one), .dat ((eL eI) other), .dat (eI size), .un]) (own := [("_law_world", 3)]) (g := (gSet 3)) (emi := eI) (emo := eI) (xs := (rng 0 (one.length : Int))) (sx := fun (world : Int) => [.dat ((eL eI) one), .dat ((eL eI) other), .dat (eI size), .dat (eI world)]) (f := fun (world : Int) => (((pyIx one world) * size) + (pyIx other world)))  rfl nd (ti_range1 (by rfl) B.range (te_len (em := eI) (by rfl) B.len (TE.tp (te_var (pv 0))) rfl) h3.1) (blkOk_by (N := N_l_product) (sc := defScope s_l_product) (by decide +kernel)) (fun _ _ _ _ _ _ n => (dg_name (pg_name (i := 3) nd rfl (by first | exact Or.inl rfl | exact Or.inr rfl)) (n 3 (by simp)))) (fun _ _ h => h) (fun world h1 _ _ _ _ _ _ => (te_add (te_mul (te_ixE (em := eI) (te_var (pv 0)) rfl (TE.tp (te_var (pv 3))) (h3.2.1 world h1).1) (TE.tp (te_var (pv 2))) (h3.2.1 world h1).2.1) (TE.tp (te_ixE (em := eI) (te_var (pv 1)) rfl (TE.tp (te_var (pv 3))) (h3.2.1 world h1).2.2)))))) ta_nil) (fun _ q_ => ⟨(((rng 0 (one.length : Int)).map (fun (world : Int) => (((pyIx one world) * size) + (pyIx other world))))), h3.2.2, rfl, q_⟩))))) rfl rfl)) rfl
/-! ### _law_inside -/
abbrev s_l_inside : Stmt := top 50
abbrev N_l_inside : List Str := ["_law_one", "_law_other", "_law_world"]
theorem sc_l_inside : FnScope N_l_inside ["_law_one", "_law_other"] (defScope s_l_inside) := ⟨rfl, rfl, rfl, by decide +kernel, rfl, by decide +kernel, by decide +kernel⟩
def T_l_inside (C_Rank : Addr) : TF := TFi (fun (i : (List Int) × (List Int)) => [(eT eI) i.1, (eT eI) i.2]) (fun _ => True) (fun i => eB (l_inside i.1 i.2))
theorem r_l_inside (B : Env K w mg C_Rank d_TURNS a_TURNS)  {cdv : Value} {A : Around} {outer : List PySem.Env} {s : Shared} {H : Hp} {E : XK} {f : Addr} {Fr : Fm} (hr : Room 0 (A.deeper (envOfC "_law_inside" (defScope s_l_inside) s.heap.objs.size f cdv))) (io : Fr.io = []) (one : List Int) (other : List Int) :
    TSs (bcx P w K mg base N_l_inside "_law_inside" (defScope s_l_inside) f cdv A outer s H E) Fr (defBody s_l_inside) [.dat ((eT eI) one), .dat ((eT eI) other), .un] (Rt eB (l_inside one other)) := by
  have nd := sc_l_inside.nd
  exact TSs.cast ((tss_one (ts_retE eB (decide (((one.filter (fun (world : Int) => (!decide (world ∈ other)))).length : Int) = 0)) (te_eq pyI hr.units (TE.tp (te_len (em := eI) (by rfl) B.len (TN.tp (tn_lcf (δ2 := [.dat ((eT eI) one), .dat ((eT eI) other), .un]) (own := [("_law_world", 2)]) (g := (gSet 2)) (emi := eI) (emx := eI) (xs := one) (sx := fun (world : Int) => [.dat ((eT eI) one), .dat ((eT eI) other), .dat (eI world)]) (t := fun (world : Int) => (!decide (world ∈ other)))  rfl nd (ti_seq (ds := List.map eI one) (te_var (pv 0)) rfl) (blkOk_by (N := N_l_inside) (sc := defScope s_l_inside) (by decide +kernel)) (fun _ _ _ _ _ _ n => (dg_name (pg_name (i := 2) nd rfl (by first | exact Or.inl rfl | exact Or.inr rfl)) (n 2 (by simp)))) (fun _ _ h => h) (fun world h1 _ _ _ _ _ _ => (tts_one (tt_notin fyI (te_var (pv 2)) (TE.tp (te_var (pv 1))) rfl))) (fun world h1 h2 _ _ _ _ _ _ => (te_var (pv 2))))) rfl)) (TE.tp te_int))))) rfl
/-! ### _law_turn -/
abbrev s_l_turn : Stmt := top 57
abbrev N_l_turn : List Str := ["_law_levels", "_law_word", "_law_lot_here", "_law_worlds", "_law_away", "_law_world", "_law_best_here", "_law_numbers", "_law_level", "_law_at", "_law_first", "_law_bound"]
theorem sc_l_turn : FnScope N_l_turn ["_law_levels", "_law_word", "_law_lot_here"] (defScope s_l_turn) := ⟨rfl, rfl, rfl, by decide +kernel, rfl, by decide +kernel, by decide +kernel⟩
def T_l_turn (C_Rank : Addr) : TFN := TFNi (fun (i : (List Int) × Str × (List Int)) => [(eL eI) i.1, eS i.2.1, (eT eI) i.2.2]) (fun i => ok_l_turn i.1 i.2.1 i.2.2) (fun i => (l_turn i.1 i.2.1 i.2.2).map eI)
theorem r_l_turn (B : Env K w mg C_Rank d_TURNS a_TURNS) (c_l_product : Ca P w K mg base "_law_product" 2 (spFN K 2 (T_l_product C_Rank))) (c_l_best : Ca P w K mg base "_law_best" 1 (spF K 2 (T_l_best C_Rank))) (c_l_dense : Ca P w K mg base "_law_dense" 1 (spFN K 1 (T_l_dense C_Rank))) (c_l_held : Ca P w K mg base "_law_held" 1 (spF K 1 (T_l_held C_Rank))) (c_l_inside : Ca P w K mg base "_law_inside" 1 (spF K 2 (T_l_inside C_Rank))) (c_l_rest : Ca P w K mg base "_law_rest" 1 (spF K 2 (T_l_rest C_Rank))) (c_l_plus : Ca P w K mg base "_law_plus" 1 (spF K 2 (T_l_plus C_Rank))) {cdv : Value} {A : Around} {outer : List PySem.Env} {s : Shared} {H : Hp} {E : XK} {f : Addr} {Fr : Fm} (hr : Room 2 (A.deeper (envOfC "_law_turn" (defScope s_l_turn) s.heap.objs.size f cdv))) (io : Fr.io = []) (levels : List Int) (word : Str) (lot_here : List Int) (h : ok_l_turn levels word lot_here) :
    TSs (bcx P w K mg base N_l_turn "_law_turn" (defScope s_l_turn) f cdv A outer s H E) Fr (defBody s_l_turn) [.dat ((eL eI) levels), .dat (eS word), .dat ((eT eI) lot_here), .un, .un, .un, .un, .un, .un, .un, .un, .un] (RtN eI (l_turn levels word lot_here)) := by
  have nd := sc_l_turn.nd
  exact TSs.cast ((tss_ltK (st' := fun (worlds : Int) => [.dat ((eL eI) levels), .dat (eS word), .dat ((eT eI) lot_here), .dat (eI worlds), .un, .un, .un, .un, .un, .un, .un, .un]) (levels.length : Int) h (ts_set (te_len (em := eI) (by rfl) B.len (TE.tp (te_var (pv 0))) rfl) (pg_name (i := 3) nd rfl (by first | exact Or.inl rfl | exact Or.inr rfl)) (nio0 io 3))
  (fun worlds h35 => (tss_ifX (rt := (RtN eI)) (tt_eqS (TE.tp (te_var (pv 1))) (TE.tp te_str)) (by exact True.intro) (fun h1 => (tss_ltK (st' := fun (away : List Int) => [.dat ((eL eI) levels), .dat (eS word), .dat ((eT eI) lot_here), .dat (eI worlds), .own (away.map eI), .un, .un, .un, .un, .un, .un, .un]) ((rng 0 worlds).map (fun (world : Int) => (if (decide (world ∈ lot_here)) = true then 0 else 1))) (h35.1 h1).2 (ts_setLc0 (i := 4) (δ2 := [.dat ((eL eI) levels), .dat (eS word), .dat ((eT eI) lot_here), .dat (eI worlds), .un, .un, .un, .un, .un, .un, .un, .un]) (own := [("_law_world", 5)]) (g := (gSet 5)) (emi := eI) (emo := eI) (xs := (rng 0 worlds)) (sx := fun (world : Int) => [.dat ((eL eI) levels), .dat (eS word), .dat ((eT eI) lot_here), .dat (eI worlds), .un, .dat (eI world), .un, .un, .un, .un, .un, .un]) (f := fun (world : Int) => (if (decide (world ∈ lot_here)) = true then 0 else 1))  rfl nd rfl rfl (sw_true rfl rfl rfl (by decide +kernel)) (ti_range1 (by rfl) B.range (te_var (pv 3)) (h35.1 h1).1) (blkOk_by (N := N_l_turn) (sc := defScope s_l_turn) (by decide +kernel)) (nio0 io 4) (fun _ _ _ _ _ _ n => (dg_name (pg_name (i := 5) nd rfl (by first | exact Or.inl rfl | exact Or.inr rfl)) (n 5 (by simp)))) (fun _ _ h => h) (fun world h2 _ _ _ _ _ _ => (te_if (em := eI) (tt_in fyI (te_var (pv 5)) (TE.tp (te_var (pv 2))) rfl) (fun h4 => te_int) (fun h4 => te_int))))
  (fun away h5 => (tss_frz (n := 4) (nio0 io 4) rfl (tss_one (ts_retNE eI (l_product away levels) (tn_call c_l_product hr (by decide) (by rfl) (ta_cons (te_var (pv 4)) (ta_cons (te_var (pv 0)) ta_nil)) (fun _ q_ => ⟨(away, levels), h5, rfl, q_⟩)))))) rfl rfl))
  (fun h1 => (tss_ifX (rt := (RtN eI)) (tt_w (tw_or (tt_eqS (TE.tp (te_var (pv 1))) (TE.tp te_str)) (fun h6 => (tw_or1 (tt_eqS (TE.tp (te_var (pv 1))) (TE.tp te_str)))))) (by exact True.intro) (fun h7 => (tss_ltK (st' := fun (best_here : List Int) => [.dat ((eL eI) levels), .dat (eS word), .dat ((eT eI) lot_here), .dat (eI worlds), .un, .un, .dat ((eT eI) best_here), .un, .un, .un, .un, .un]) (l_best levels lot_here) ((h35.2 h1).1 h7).2 (ts_set (te_call c_l_best hr (by decide) (by rfl) (ta_cons (te_var (pv 0)) (ta_cons (te_var (pv 2)) ta_nil)) (fun _ q_ => ⟨(levels, lot_here), ((h35.2 h1).1 h7).1, rfl, q_⟩)) (pg_name (i := 6) nd rfl (by first | exact Or.inl rfl | exact Or.inr rfl)) (nio0 io 6))
  (fun best_here h20 => (tss_ltK (st' := fun (numbers : List Int) => [.dat ((eL eI) levels), .dat (eS word), .dat ((eT eI) lot_here), .dat (eI worlds), .un, .un, .dat ((eT eI) best_here), .dat ((eL eI) numbers), .un, .un, .un, .un]) (levels.map (fun (level : Int) => (2 * level))) h20 (ts_set (TN.te (tn_lc0 (δ2 := [.dat ((eL eI) levels), .dat (eS word), .dat ((eT eI) lot_here), .dat (eI worlds), .un, .un, .dat ((eT eI) best_here), .un, .un, .un, .un, .un]) (own := [("_law_level", 8)]) (g := (gSet 8)) (emi := eI) (emo := eI) (xs := levels) (sx := fun (level : Int) => [.dat ((eL eI) levels), .dat (eS word), .dat ((eT eI) lot_here), .dat (eI worlds), .un, .un, .dat ((eT eI) best_here), .un, .dat (eI level), .un, .un, .un]) (f := fun (level : Int) => (2 * level))  rfl nd (ti_seq (ds := List.map eI levels) (te_var (pv 0)) rfl) (blkOk_by (N := N_l_turn) (sc := defScope s_l_turn) (by decide +kernel)) (fun _ _ _ _ _ _ n => (dg_name (pg_name (i := 8) nd rfl (by first | exact Or.inl rfl | exact Or.inr rfl)) (n 8 (by simp)))) (fun _ _ h => h) (fun level h8 _ _ _ _ _ _ => (te_mul te_int (TE.tp (te_var (pv 8))) (.inl (by decide)))))) (pg_name (i := 7) nd rfl (by first | exact Or.inl rfl | exact Or.inr rfl)) (nio0 io 7))
  (fun numbers h19 => (tss_ltK (st' := (fun (numbers1 : List Int) => [.dat ((eL eI) levels), .dat (eS word), .dat ((eT eI) lot_here), .dat (eI worlds), .un, .un, .dat ((eT eI) best_here), .dat ((eL eI) numbers1), .un, .un, .un, .un])) (if (decide (word = ("lean" : Str))) = true then (let numbers2 : List Int := ((rng 0 worlds).map (fun (at_ : Int) => ((pyIx numbers at_) + (if (decide (at_ ∈ lot_here)) = true then 0 else 1))))
  numbers2) else (numbers)) h19.2 (ts_ifJ (st' := (fun (numbers1 : List Int) => [.dat ((eL eI) levels), .dat (eS word), .dat ((eT eI) lot_here), .dat (eI worlds), .un, .un, .dat ((eT eI) best_here), .dat ((eL eI) numbers1), .un, .un, .un, .un])) (tt_eqS (TE.tp (te_var (pv 1))) (TE.tp te_str)) (fun h10 => (tss_lt (st' := fun (numbers2 : List Int) => [.dat ((eL eI) levels), .dat (eS word), .dat ((eT eI) lot_here), .dat (eI worlds), .un, .un, .dat ((eT eI) best_here), .dat ((eL eI) numbers2), .un, .un, .un, .un]) ((rng 0 worlds).map (fun (at_ : Int) => ((pyIx numbers at_) + (if (decide (at_ ∈ lot_here)) = true then 0 else 1)))) (ts_set (TN.te (tn_lc0 (δ2 := [.dat ((eL eI) levels), .dat (eS word), .dat ((eT eI) lot_here), .dat (eI worlds), .un, .un, .dat ((eT eI) best_here), .dat ((eL eI) numbers), .un, .un, .un, .un]) (own := [("_law_at", 9)]) (g := (gSet 9)) (emi := eI) (emo := eI) (xs := (rng 0 worlds)) (sx := fun (at_ : Int) => [.dat ((eL eI) levels), .dat (eS word), .dat ((eT eI) lot_here), .dat (eI worlds), .un, .un, .dat ((eT eI) best_here), .dat ((eL eI) numbers), .un, .dat (eI at_), .un, .un]) (f := fun (at_ : Int) => ((pyIx numbers at_) + (if (decide (at_ ∈ lot_here)) = true then 0 else 1)))  rfl nd (ti_range1 (by rfl) B.range (te_var (pv 3)) (h19.1 h10).1) (blkOk_by (N := N_l_turn) (sc := defScope s_l_turn) (by decide +kernel)) (fun _ _ _ _ _ _ n => (dg_name (pg_name (i := 9) nd rfl (by first | exact Or.inl rfl | exact Or.inr rfl)) (n 9 (by simp)))) (fun _ _ h => h) (fun at_ h11 _ _ _ _ _ _ => (te_add (te_ixE (em := eI) (te_var (pv 7)) rfl (TE.tp (te_var (pv 9))) ((h19.1 h10).2 at_ h11)) (TE.tp (te_if (em := eI) (tt_in fyI (te_var (pv 9)) (TE.tp (te_var (pv 2))) rfl) (fun h13 => te_int) (fun h13 => te_int))))))) (pg_name (i := 7) nd rfl (by first | exact Or.inl rfl | exact Or.inr rfl)) (nio0 io 7))
  (fun numbers2 => (tss_end (fun (numbers1 : List Int) => [.dat ((eL eI) levels), .dat (eS word), .dat ((eT eI) lot_here), .dat (eI worlds), .un, .un, .dat ((eT eI) best_here), .dat ((eL eI) numbers1), .un, .un, .un, .un]) numbers2)) rfl rfl)) (fun h10 => (tss_end (fun (numbers1 : List Int) => [.dat ((eL eI) levels), .dat (eS word), .dat ((eT eI) lot_here), .dat (eI worlds), .un, .un, .dat ((eT eI) best_here), .dat ((eL eI) numbers1), .un, .un, .un, .un]) numbers)))
  (fun numbers1 h18 => (tss_one (ts_retNE eI (l_dense ((rng 0 worlds).map (fun (at_1 : Int) => (if (decide (at_1 ∈ best_here)) = true then (-1) else (pyIx numbers1 at_1))))) (tn_call c_l_dense hr (by decide) (by rfl) (ta_cons (TN.te (tn_lc0 (δ2 := [.dat ((eL eI) levels), .dat (eS word), .dat ((eT eI) lot_here), .dat (eI worlds), .un, .un, .dat ((eT eI) best_here), .dat ((eL eI) numbers1), .un, .un, .un, .un]) (own := [("_law_at", 9)]) (g := (gSet 9)) (emi := eI) (emo := eI) (xs := (rng 0 worlds)) (sx := fun (at_1 : Int) => [.dat ((eL eI) levels), .dat (eS word), .dat ((eT eI) lot_here), .dat (eI worlds), .un, .un, .dat ((eT eI) best_here), .dat ((eL eI) numbers1), .un, .dat (eI at_1), .un, .un]) (f := fun (at_1 : Int) => (if (decide (at_1 ∈ best_here)) = true then (-1) else (pyIx numbers1 at_1)))  rfl nd (ti_range1 (by rfl) B.range (te_var (pv 3)) h18.1) (blkOk_by (N := N_l_turn) (sc := defScope s_l_turn) (by decide +kernel)) (fun _ _ _ _ _ _ n => (dg_name (pg_name (i := 9) nd rfl (by first | exact Or.inl rfl | exact Or.inr rfl)) (n 9 (by simp)))) (fun _ _ h => h) (fun at_1 h15 _ _ _ _ _ _ => (te_if (em := eI) (tt_in fyI (te_var (pv 9)) (TE.tp (te_var (pv 6))) rfl) (fun h17 => (te_neg te_int)) (fun h17 => (te_ixE (em := eI) (te_var (pv 7)) rfl (TE.tp (te_var (pv 9))) ((h18.2.1 at_1 h15) h17))))))) ta_nil) (fun _ q_ => ⟨(((rng 0 worlds).map (fun (at_1 : Int) => (if (decide (at_1 ∈ best_here)) = true then (-1) else (pyIx numbers1 at_1))))), h18.2.2, rfl, q_⟩))))) rfl rfl)) rfl rfl)) rfl rfl))
  (fun h7 => (tss_ifX (rt := (RtN eI)) (tt_w (tw_or (tt_eqS (TE.tp (te_var (pv 1))) (TE.tp te_str)) (fun h21 => (tw_or1 (tt_eqS (TE.tp (te_var (pv 1))) (TE.tp te_str)))))) (by exact True.intro) (fun h22 => (tss_ifX (rt := (RtN eI)) (tt_not (tt_val (te_call c_l_inside hr (by decide) (by rfl) (ta_cons (te_call c_l_held hr (by decide) (by rfl) (ta_cons (te_var (pv 0)) ta_nil) (fun _ q_ => ⟨(levels), (((h35.2 h1).2 h7) h22).1, rfl, q_⟩)) (ta_cons (te_var (pv 2)) ta_nil)) (fun _ q_ => ⟨((l_held levels), lot_here), trivial, rfl, q_⟩)))) (by exact True.intro) (fun h23 => (tss_one (ts_retNE eI levels (tn_list (em := eI) (by rfl) B.list (TE.tp (te_var (pv 0))) rfl))))
  (fun h23 => (tss_ltK (st' := fun (best_here1 : List Int) => [.dat ((eL eI) levels), .dat (eS word), .dat ((eT eI) lot_here), .dat (eI worlds), .un, .un, .dat ((eT eI) best_here1), .un, .un, .un, .un, .un]) (l_best levels (l_rest lot_here worlds)) ((((h35.2 h1).2 h7) h22).2 h23).2.2 (ts_set (te_call c_l_best hr (by decide) (by rfl) (ta_cons (te_var (pv 0)) (ta_cons (te_call c_l_rest hr (by decide) (by rfl) (ta_cons (te_var (pv 2)) (ta_cons (te_var (pv 3)) ta_nil)) (fun _ q_ => ⟨(lot_here, worlds), ((((h35.2 h1).2 h7) h22).2 h23).1, rfl, q_⟩)) ta_nil)) (fun _ q_ => ⟨(levels, (l_rest lot_here worlds)), ((((h35.2 h1).2 h7) h22).2 h23).2.1, rfl, q_⟩)) (pg_name (i := 6) nd rfl (by first | exact Or.inl rfl | exact Or.inr rfl)) (nio0 io 6))
  (fun best_here1 h34 => (tss_ltK (st' := fun (first : List Int) => [.dat ((eL eI) levels), .dat (eS word), .dat ((eT eI) lot_here), .dat (eI worlds), .un, .un, .dat ((eT eI) best_here1), .un, .un, .un, .dat ((eT eI) first), .un]) (l_plus (l_held levels) best_here1) h34.2.2 (ts_set (te_call c_l_plus hr (by decide) (by rfl) (ta_cons (te_call c_l_held hr (by decide) (by rfl) (ta_cons (te_var (pv 0)) ta_nil) (fun _ q_ => ⟨(levels), h34.1, rfl, q_⟩)) (ta_cons (te_var (pv 6)) ta_nil)) (fun _ q_ => ⟨((l_held levels), best_here1), h34.2.1, rfl, q_⟩)) (pg_name (i := 10) nd rfl (by first | exact Or.inl rfl | exact Or.inr rfl)) (nio0 io 10))
  (fun first h33 => (tss_ltK (st' := (fun (first1 : List Int) => [.dat ((eL eI) levels), .dat (eS word), .dat ((eT eI) lot_here), .dat (eI worlds), .un, .un, .dat ((eT eI) best_here1), .un, .un, .un, .dat ((eT eI) first1), .un])) (if (decide (word = ("sink" : Str))) = true then (let bound : Int := (pyIx levels (pyIx best_here1 0))
  let first2 : List Int := ((rng 0 worlds).filter (fun (at_2 : Int) => decide ((pyIx levels at_2) ≤ bound)))
  first2) else (first)) h33.2 (ts_ifJ (st' := (fun (first1 : List Int) => [.dat ((eL eI) levels), .dat (eS word), .dat ((eT eI) lot_here), .dat (eI worlds), .un, .un, .dat ((eT eI) best_here1), .un, .un, .un, .dat ((eT eI) first1), .un])) (tt_eqS (TE.tp (te_var (pv 1))) (TE.tp te_str)) (fun h24 => (tss_ltK (st' := fun (bound : Int) => [.dat ((eL eI) levels), .dat (eS word), .dat ((eT eI) lot_here), .dat (eI worlds), .un, .un, .dat ((eT eI) best_here1), .un, .un, .un, .dat ((eT eI) first), .dat (eI bound)]) (pyIx levels (pyIx best_here1 0)) (h33.1 h24).2.2 (ts_set (te_ixE (em := eI) (te_var (pv 0)) rfl (TE.tp (te_ixE (em := eI) (te_var (pv 6)) rfl (TE.tp te_int) (h33.1 h24).1)) (h33.1 h24).2.1) (pg_name (i := 11) nd rfl (by first | exact Or.inl rfl | exact Or.inr rfl)) (nio0 io 11))
  (fun bound h28 => (tss_lt (st' := fun (first2 : List Int) => [.dat ((eL eI) levels), .dat (eS word), .dat ((eT eI) lot_here), .dat (eI worlds), .un, .un, .dat ((eT eI) best_here1), .un, .un, .un, .dat ((eT eI) first2), .dat (eI bound)]) ((rng 0 worlds).filter (fun (at_2 : Int) => decide ((pyIx levels at_2) ≤ bound))) (ts_set (te_tuple (em := eI) (by rfl) B.tuple (TN.tp (tn_lcf (δ2 := [.dat ((eL eI) levels), .dat (eS word), .dat ((eT eI) lot_here), .dat (eI worlds), .un, .un, .dat ((eT eI) best_here1), .un, .un, .un, .dat ((eT eI) first), .dat (eI bound)]) (own := [("_law_at", 9)]) (g := (gSet 9)) (emi := eI) (emx := eI) (xs := (rng 0 worlds)) (sx := fun (at_2 : Int) => [.dat ((eL eI) levels), .dat (eS word), .dat ((eT eI) lot_here), .dat (eI worlds), .un, .un, .dat ((eT eI) best_here1), .un, .un, .dat (eI at_2), .dat ((eT eI) first), .dat (eI bound)]) (t := fun (at_2 : Int) => decide ((pyIx levels at_2) ≤ bound))  rfl nd (ti_range1 (by rfl) B.range (te_var (pv 3)) h28.1) (blkOk_by (N := N_l_turn) (sc := defScope s_l_turn) (by decide +kernel)) (fun _ _ _ _ _ _ n => (dg_name (pg_name (i := 9) nd rfl (by first | exact Or.inl rfl | exact Or.inr rfl)) (n 9 (by simp)))) (fun _ _ h => h) (fun at_2 h25 _ _ _ _ _ _ => (tts_one (tt_le (te_ixE (em := eI) (te_var (pv 0)) rfl (TE.tp (te_var (pv 9))) (h28.2 at_2 h25)) (TE.tp (te_var (pv 11)))))) (fun at_2 h25 h26 _ _ _ _ _ _ => (te_var (pv 9))))) rfl) (pg_name (i := 10) nd rfl (by first | exact Or.inl rfl | exact Or.inr rfl)) (nio0 io 10))
  (fun first2 => (tss_unset (vs := [11]) (fun i hi => nio0 io i) (tss_end (fun (first1 : List Int) => [.dat ((eL eI) levels), .dat (eS word), .dat ((eT eI) lot_here), .dat (eI worlds), .un, .un, .dat ((eT eI) best_here1), .un, .un, .un, .dat ((eT eI) first1), .un]) first2))) rfl rfl)) rfl rfl)) (fun h24 => (tss_end (fun (first1 : List Int) => [.dat ((eL eI) levels), .dat (eS word), .dat ((eT eI) lot_here), .dat (eI worlds), .un, .un, .dat ((eT eI) best_here1), .un, .un, .un, .dat ((eT eI) first1), .un]) first)))
  (fun first1 h32 => (tss_one (ts_retNE eI (l_dense ((rng 0 worlds).map (fun (at_3 : Int) => (if (decide (at_3 ∈ first1)) = true then (-1) else (pyIx levels at_3))))) (tn_call c_l_dense hr (by decide) (by rfl) (ta_cons (TN.te (tn_lc0 (δ2 := [.dat ((eL eI) levels), .dat (eS word), .dat ((eT eI) lot_here), .dat (eI worlds), .un, .un, .dat ((eT eI) best_here1), .un, .un, .un, .dat ((eT eI) first1), .un]) (own := [("_law_at", 9)]) (g := (gSet 9)) (emi := eI) (emo := eI) (xs := (rng 0 worlds)) (sx := fun (at_3 : Int) => [.dat ((eL eI) levels), .dat (eS word), .dat ((eT eI) lot_here), .dat (eI worlds), .un, .un, .dat ((eT eI) best_here1), .un, .un, .dat (eI at_3), .dat ((eT eI) first1), .un]) (f := fun (at_3 : Int) => (if (decide (at_3 ∈ first1)) = true then (-1) else (pyIx levels at_3)))  rfl nd (ti_range1 (by rfl) B.range (te_var (pv 3)) h32.1) (blkOk_by (N := N_l_turn) (sc := defScope s_l_turn) (by decide +kernel)) (fun _ _ _ _ _ _ n => (dg_name (pg_name (i := 9) nd rfl (by first | exact Or.inl rfl | exact Or.inr rfl)) (n 9 (by simp)))) (fun _ _ h => h) (fun at_3 h29 _ _ _ _ _ _ => (te_if (em := eI) (tt_in fyI (te_var (pv 9)) (TE.tp (te_var (pv 10))) rfl) (fun h31 => (te_neg te_int)) (fun h31 => (te_ixE (em := eI) (te_var (pv 0)) rfl (TE.tp (te_var (pv 9))) ((h32.2.1 at_3 h29) h31))))))) ta_nil) (fun _ q_ => ⟨(((rng 0 worlds).map (fun (at_3 : Int) => (if (decide (at_3 ∈ first1)) = true then (-1) else (pyIx levels at_3))))), h32.2.2, rfl, q_⟩))))) rfl rfl)) rfl rfl)) rfl rfl))))
  (fun h22 => (tss_one (ts_retNE eI levels (tn_list (em := eI) (by rfl) B.list (TE.tp (te_var (pv 0))) rfl)))))))))) rfl rfl)) rfl
/-! ### _law_cells -/
abbrev s_l_cells : Stmt := top 53
abbrev N_l_cells : List Str := ["_law_levels", "_law_cells_here", "_law_level", "_law_world"]
theorem sc_l_cells : FnScope N_l_cells ["_law_levels"] (defScope s_l_cells) := ⟨rfl, rfl, rfl, by decide +kernel, rfl, by decide +kernel, by decide +kernel⟩
def T_l_cells (C_Rank : Addr) : TF := TFi (fun (i : List Int) => [(eL eI) i]) (fun i => ok_l_cells i) (fun i => (eT (eT eI)) (l_cells i))
theorem r_l_cells (B : Env K w mg C_Rank d_TURNS a_TURNS)  {cdv : Value} {A : Around} {outer : List PySem.Env} {s : Shared} {H : Hp} {E : XK} {f : Addr} {Fr : Fm} (hr : Room 0 (A.deeper (envOfC "_law_cells" (defScope s_l_cells) s.heap.objs.size f cdv))) (io : Fr.io = []) (levels : List Int) (h : ok_l_cells levels) :
    TSs (bcx P w K mg base N_l_cells "_law_cells" (defScope s_l_cells) f cdv A outer s H E) Fr (defBody s_l_cells) [.dat ((eL eI) levels), .un, .un, .un] (Rt (eT (eT eI)) (l_cells levels)) := by
  have nd := sc_l_cells.nd
  exact TSs.cast ((tss_ltK (st' := fun (cells_here : List (List Int)) => [.dat ((eL eI) levels), .own (cells_here.map (eT eI)), .un, .un]) [] h (ts_setN (tn_lst ta_nil (le_sz 0 rfl (by decide))) (pg_name (i := 1) nd rfl (by first | exact Or.inl rfl | exact Or.inr rfl)) (nio0 io 1))
  (fun cells_here h6 => (tss_lt (st' := (fun (cells_here1 : List (List Int)) => [.dat ((eL eI) levels), .own (cells_here1.map (eT eI)), .un, .un])) ((rng 0 ((maxL levels) + 1)).foldl (fun (cells_here1 : List (List Int)) (level : Int) => let cells_here2 : List (List Int) := (cells_here1 ++ [((rng 0 (levels.length : Int)).filter (fun (world : Int) => decide ((pyIx levels world) = level)))])
  cells_here2) cells_here) (ts_fold (g := (gSet 2)) (emi := eI) (st' := (fun (cells_here1 : List (List Int)) => [.dat ((eL eI) levels), .own (cells_here1.map (eT eI)), .un, .un])) (st1 := (fun (cells_here1 : List (List Int)) (level : Int) => [.dat ((eL eI) levels), .own (cells_here1.map (eT eI)), .dat (eI level), .un])) (body := (fun (cells_here1 : List (List Int)) (level : Int) => let cells_here2 : List (List Int) := (cells_here1 ++ [((rng 0 (levels.length : Int)).filter (fun (world : Int) => decide ((pyIx levels world) = level)))])
  cells_here2)) (xs := (rng 0 ((maxL levels) + 1))) (r0 := cells_here) PassesOwn.never rfl (ti_range1 (by rfl) B.range (te_add (te_max (by rfl) (by rfl) B.max (TE.tp (te_var (pv 0))) h6.1) (TE.tp te_int)) h6.2.1) (dg_name (pg_name (i := 2) nd rfl (by first | exact Or.inl rfl | exact Or.inr rfl)) (nio0 io 2)) (fun _ _ _ h => h) rfl h6.2.2 (fun cells_here1 level h1 => (tss_lt (st' := fun (cells_here2 : List (List Int)) => [.dat ((eL eI) levels), .own (cells_here2.map (eT eI)), .dat (eI level), .un]) (cells_here1 ++ [((rng 0 (levels.length : Int)).filter (fun (world : Int) => decide ((pyIx levels world) = level)))]) (ts_expr (te_app (em := (eT eI)) (xs := cells_here1) (x := ((rng 0 (levels.length : Int)).filter (fun (world : Int) => decide ((pyIx levels world) = level)))) (te_tuple (em := eI) (by rfl) B.tuple (TN.tp (tn_lcf (δ2 := [.dat ((eL eI) levels), .own (cells_here1.map (eT eI)), .dat (eI level), .un]) (own := [("_law_world", 3)]) (g := (gSet 3)) (emi := eI) (emx := eI) (xs := (rng 0 (levels.length : Int))) (sx := fun (world : Int) => [.dat ((eL eI) levels), .own (cells_here1.map (eT eI)), .dat (eI level), .dat (eI world)]) (t := fun (world : Int) => decide ((pyIx levels world) = level))  rfl nd (ti_range1 (by rfl) B.range (te_len (em := eI) (by rfl) B.len (TE.tp (te_var (pv 0))) rfl) h1.1) (blkOk_by (N := N_l_cells) (sc := defScope s_l_cells) (by decide +kernel)) (fun _ _ _ _ _ _ n => (dg_name (pg_name (i := 3) nd rfl (by first | exact Or.inl rfl | exact Or.inr rfl)) (n 3 (by simp)))) (fun _ _ h => h) (fun world h2 _ _ _ _ _ _ => (tts_one (tt_eq pyI hr.units (TE.tp (te_ixE (em := eI) (te_var (pv 0)) rfl (TE.tp (te_var (pv 3))) (h1.2.1 world h2))) (TE.tp (te_var (pv 2)))))) (fun world h2 h3 _ _ _ _ _ _ => (te_var (pv 3))))) rfl) h1.2.2 fun _ h => pe_bm PySem.F.plainAttrs_list PySem.F.slot_list_append PySem.F.type_list_append mt_append (pv 1) h))
  (fun cells_here2 => (tss_unset (vs := [2]) (fun i hi => nio0 io i) (tss_end (fun (cells_here1 : List (List Int)) => [.dat ((eL eI) levels), .own (cells_here1.map (eT eI)), .un, .un]) cells_here2))) rfl rfl)) fun _ _ h1 h2 => ps_for PassesOwn.never rfl h1 (dg_name (pg_name (i := 2) nd rfl (by first | exact Or.inl rfl | exact Or.inr rfl)) (nio0 io 2)) h2)
  (fun cells_here1 => (tss_one (ts_retE (eT (eT eI)) cells_here1 (te_tuple (em := (eT eI)) (by rfl) B.tuple (tp_own (pv 1)) rfl)))) rfl rfl)) rfl rfl)) rfl
/-! ### Rank.__eq__ -/
abbrev s_f_Rank__eq__ : Stmt := inClass (top 30) 13
abbrev N_f_Rank__eq__ : List Str := ["self", "other"]
theorem sc_f_Rank__eq__ : FnScope N_f_Rank__eq__ ["self", "other"] (defScope s_f_Rank__eq__) := ⟨rfl, rfl, rfl, by decide +kernel, rfl, by decide +kernel, by decide +kernel⟩
def T_f_Rank__eq__ (C_Rank : Addr) : TF := TFi (fun (i : Rank × Rank) => [(e_Rank C_Rank) i.1, (e_Rank C_Rank) i.2]) (fun _ => True) (fun i => eB (f_Rank__eq__ i.1 i.2))
theorem r_f_Rank__eq__ (B : Env K w mg C_Rank d_TURNS a_TURNS)  {cdv : Value} {A : Around} {outer : List PySem.Env} {s : Shared} {H : Hp} {E : XK} {f : Addr} {Fr : Fm} (hr : Room 0 (A.deeper (envOfC "Rank.__eq__" (defScope s_f_Rank__eq__) s.heap.objs.size f cdv))) (io : Fr.io = []) (self : Rank) (other : Rank) :
    TSs (bcx P w K mg base N_f_Rank__eq__ "Rank.__eq__" (defScope s_f_Rank__eq__) f cdv A outer s H E) Fr (defBody s_f_Rank__eq__) [.dat ((e_Rank C_Rank) self), .dat ((e_Rank C_Rank) other)] (Rt eB (f_Rank__eq__ self other)) := by
  have nd := sc_f_Rank__eq__.nd
  exact TSs.cast ((tss_one (ts_retE eB (true && decide (self.cells = other.cells)) (te_band (te_isC B.ic_Rank (by rfl) B.isinstance (te_var (pv 1)) (pe_glob (by rfl) B.mg_Rank rfl)) (fun h1 => (te_one (te_eq (pyT (pyT pyI)) hr.units (TE.tp (te_fld B.cl_Rank B.na_Rank_cells (te_var (pv 0)) (lk_Rank_cells _))) (TE.tp (te_fld B.cl_Rank B.na_Rank_cells (te_var (pv 1)) (lk_Rank_cells _)))))))))) rfl
/-! ### Rank.behind_best -/
abbrev s_f_Rank_behind_best : Stmt := inClass (top 30) 8
abbrev N_f_Rank_behind_best : List Str := ["self", "lot", "least", "world", "level"]
theorem sc_f_Rank_behind_best : FnScope N_f_Rank_behind_best ["self", "lot"] (defScope s_f_Rank_behind_best) := ⟨rfl, rfl, rfl, by decide +kernel, rfl, by decide +kernel, by decide +kernel⟩
def T_f_Rank_behind_best (C_Rank : Addr) : TF := TFi (fun (i : Rank × (List Int)) => [(e_Rank C_Rank) i.1, (eT eI) i.2]) (fun i => ok_f_Rank_behind_best i.1 i.2) (fun i => (eT eI) (f_Rank_behind_best i.1 i.2))
theorem r_f_Rank_behind_best (B : Env K w mg C_Rank d_TURNS a_TURNS) (m_f_Rank_best : Mth P w K mg base C_Rank "best" 6 (spF K 2 (T_f_Rank_best C_Rank))) {cdv : Value} {A : Around} {outer : List PySem.Env} {s : Shared} {H : Hp} {E : XK} {f : Addr} {Fr : Fm} (hr : Room 6 (A.deeper (envOfC "Rank.behind_best" (defScope s_f_Rank_behind_best) s.heap.objs.size f cdv))) (io : Fr.io = []) (self : Rank) (lot : List Int) (h : ok_f_Rank_behind_best self lot) :
    TSs (bcx P w K mg base N_f_Rank_behind_best "Rank.behind_best" (defScope s_f_Rank_behind_best) f cdv A outer s H E) Fr (defBody s_f_Rank_behind_best) [.dat ((e_Rank C_Rank) self), .dat ((eT eI) lot), .un, .un, .un] (Rt (eT eI) (f_Rank_behind_best self lot)) := by
  have nd := sc_f_Rank_behind_best.nd
  exact TSs.cast ((tss_lt (st' := fun (least : Int) => [.dat ((e_Rank C_Rank) self), .dat ((eT eI) lot), .dat (eI least), .un, .un]) (pyIx self.levels (pyIx (f_Rank_best self lot) 0)) (ts_set (te_ixE (em := eI) (te_fld B.cl_Rank B.na_Rank_levels (te_var (pv 0)) (lk_Rank_levels _)) rfl (TE.tp (te_ixE (em := eI) (te_meth m_f_Rank_best hr (by decide) (te_var (pv 0)) (ta_cons (te_var (pv 1)) ta_nil) (fun _ q_ => ⟨(self, lot), h.1, rfl, q_⟩) (lk_Rank_best _)) rfl (TE.tp te_int) h.2.1)) h.2.2) (pg_name (i := 2) nd rfl (by first | exact Or.inl rfl | exact Or.inr rfl)) (nio0 io 2))
  (fun least => (tss_one (ts_retE (eT eI) (((enm 0 self.levels).filter (fun (p : Int × Int) => decide (least < p.2))).map (fun (p : Int × Int) => p.1)) (te_tuple (em := eI) (by rfl) B.tuple (TN.tp (tn_lc (δ2 := [.dat ((e_Rank C_Rank) self), .dat ((eT eI) lot), .dat (eI least), .un, .un]) (own := [("world", 3), ("level", 4)]) (g := (wgTup 2 (wgCons (gSet 3) (wgCons (gSet 4) wgNil)))) (emi := (eP2 eI eI)) (emo := eI) (xs := (enm 0 self.levels)) (sx := fun (p : Int × Int) => [.dat ((e_Rank C_Rank) self), .dat ((eT eI) lot), .dat (eI least), .dat (eI p.1), .dat (eI p.2)]) (t := fun (p : Int × Int) => decide (least < p.2)) (f := fun (p : Int × Int) => p.1)  rfl nd (ti_enum (em := eI) (by rfl) B.enumerate (te_fld B.cl_Rank B.na_Rank_levels (te_var (pv 0)) (lk_Rank_levels _)) rfl) (blkOk_by (N := N_f_Rank_behind_best) (sc := defScope s_f_Rank_behind_best) (by decide +kernel)) (fun _ _ _ _ _ _ n => (dg_tup rfl (dgs_cons (dg_name (pg_name (i := 3) nd rfl (by first | exact Or.inl rfl | exact Or.inr rfl)) (n 3 (by simp))) (dgs_cons (dg_name (pg_name (i := 4) nd rfl (by first | exact Or.inl rfl | exact Or.inr rfl)) (n 4 (by simp))) dgs_nil)))) (fun _ _ h => ⟨_, rfl, rfl, _, _, rfl, _, _, rfl, rfl, h⟩) (fun p h1 _ _ _ _ _ _ => (tts_one (tt_gt (te_var (pv 4)) (TE.tp (te_var (pv 2)))))) (fun p h1 h2 _ _ _ _ _ _ => (te_var (pv 3))))) rfl)))) rfl rfl)) rfl
/-! ### parts_in -/
abbrev s_f_parts_in : Stmt := top 32
abbrev N_f_parts_in : List Str := ["cells", "lot", "part", "cell"]
theorem sc_f_parts_in : FnScope N_f_parts_in ["cells", "lot"] (defScope s_f_parts_in) := ⟨rfl, rfl, rfl, by decide +kernel, rfl, by decide +kernel, by decide +kernel⟩
def T_f_parts_in (C_Rank : Addr) : TFN := TFNi (fun (i : (List (List Int)) × (List Int)) => [(eT (eT eI)) i.1, (eT eI) i.2]) (fun _ => True) (fun i => (f_parts_in i.1 i.2).map (eT eI))
theorem r_f_parts_in (B : Env K w mg C_Rank d_TURNS a_TURNS) (c_f_common : Ca P w K mg base "common" 1 (spF K 2 (T_f_common C_Rank))) {cdv : Value} {A : Around} {outer : List PySem.Env} {s : Shared} {H : Hp} {E : XK} {f : Addr} {Fr : Fm} (hr : Room 1 (A.deeper (envOfC "parts_in" (defScope s_f_parts_in) s.heap.objs.size f cdv))) (io : Fr.io = []) (cells : List (List Int)) (lot : List Int) :
    TSs (bcx P w K mg base N_f_parts_in "parts_in" (defScope s_f_parts_in) f cdv A outer s H E) Fr (defBody s_f_parts_in) [.dat ((eT (eT eI)) cells), .dat ((eT eI) lot), .un, .un] (RtN (eT eI) (f_parts_in cells lot)) := by
  have nd := sc_f_parts_in.nd
  exact TSs.cast ((tss_one (ts_retNE (eT eI) ((cells.map (fun (cell : List Int) => (f_common cell lot))).filter (fun (part : List Int) => (!part.isEmpty))) (tn_lcf (δ2 := [.dat ((eT (eT eI)) cells), .dat ((eT eI) lot), .un, .un]) (own := [("part", 2)]) (g := (gSet 2)) (emi := (eT eI)) (emx := (eT eI)) (xs := (cells.map (fun (cell : List Int) => (f_common cell lot)))) (sx := fun (part : List Int) => [.dat ((eT (eT eI)) cells), .dat ((eT eI) lot), .dat ((eT eI) part), .un]) (t := fun (part : List Int) => (!part.isEmpty))  rfl nd (ti_seq (ds := List.map (eT eI) (cells.map (fun (cell : List Int) => (f_common cell lot)))) (TN.te (tn_lc0 (δ2 := [.dat ((eT (eT eI)) cells), .dat ((eT eI) lot), .un, .un]) (own := [("cell", 3)]) (g := (gSet 3)) (emi := (eT eI)) (emo := (eT eI)) (xs := cells) (sx := fun (cell : List Int) => [.dat ((eT (eT eI)) cells), .dat ((eT eI) lot), .un, .dat ((eT eI) cell)]) (f := fun (cell : List Int) => (f_common cell lot))  rfl nd (ti_seq (ds := List.map (eT eI) cells) (te_var (pv 0)) rfl) (blkOk_by (N := N_f_parts_in) (sc := defScope s_f_parts_in) (by decide +kernel)) (fun _ _ _ _ _ _ n => (dg_name (pg_name (i := 3) nd rfl (by first | exact Or.inl rfl | exact Or.inr rfl)) (n 3 (by simp)))) (fun _ _ h => h) (fun cell h1 _ _ _ _ _ _ => (te_call c_f_common hr (by decide) (by rfl) (ta_cons (te_var (pv 3)) (ta_cons (te_var (pv 1)) ta_nil)) (fun _ q_ => ⟨(cell, lot), trivial, rfl, q_⟩))))) rfl) (blkOk_by (N := N_f_parts_in) (sc := defScope s_f_parts_in) (by decide +kernel)) (fun _ _ _ _ _ _ n => (dg_name (pg_name (i := 2) nd rfl (by first | exact Or.inl rfl | exact Or.inr rfl)) (n 2 (by simp)))) (fun _ _ h => h) (fun part h3 _ _ _ _ _ _ => (tts_one (tt_tru (TE.tp (te_var (pv 2))) (by show some (!(List.isEmpty (List.map _ _))) = _; rw [List.isEmpty_map])))) (fun part h3 h4 _ _ _ _ _ _ => (te_var (pv 2))))))) rfl
/-! ### sunk -/
abbrev s_f_sunk : Stmt := top 38
abbrev N_f_sunk : List Str := ["rank", "lot", "gone", "back"]
theorem sc_f_sunk : FnScope N_f_sunk ["rank", "lot"] (defScope s_f_sunk) := ⟨rfl, rfl, rfl, by decide +kernel, rfl, by decide +kernel, by decide +kernel⟩
def T_f_sunk (C_Rank : Addr) : TF := TFi (fun (i : Rank × (List Int)) => [(e_Rank C_Rank) i.1, (eT eI) i.2]) (fun i => ok_f_sunk i.1 i.2) (fun i => (e_Rank C_Rank) (f_sunk i.1 i.2))
theorem r_f_sunk (B : Env K w mg C_Rank d_TURNS a_TURNS) (c_f_lot_but_all : Ca P w K mg base "lot_but_all" 6 (spF K 2 (T_f_lot_but_all C_Rank))) (p_f_Rank_held : Prp P w K mg base C_Rank "held" 1 (spF K 1 (T_f_Rank_held C_Rank))) (c_f_inside : Ca P w K mg base "inside" 1 (spF K 2 (T_f_inside C_Rank))) (c_f_rest_of : Ca P w K mg base "rest_of" 6 (spF K 2 (T_f_rest_of C_Rank))) (m_f_Rank_behind_best : Mth P w K mg base C_Rank "behind_best" 7 (spF K 2 (T_f_Rank_behind_best C_Rank))) (c_f_parts_in : Ca P w K mg base "parts_in" 2 (spFN K 2 (T_f_parts_in C_Rank))) (mk_f_Rank__init___2 : Mkr P w K mg base C_Rank 4 (spIn K C_Rank 1 (T_f_Rank__init___2 C_Rank))) {cdv : Value} {A : Around} {outer : List PySem.Env} {s : Shared} {H : Hp} {E : XK} {f : Addr} {Fr : Fm} (hr : Room 7 (A.deeper (envOfC "sunk" (defScope s_f_sunk) s.heap.objs.size f cdv))) (io : Fr.io = []) (rank : Rank) (lot : List Int) (h : ok_f_sunk rank lot) :
    TSs (bcx P w K mg base N_f_sunk "sunk" (defScope s_f_sunk) f cdv A outer s H E) Fr (defBody s_f_sunk) [.dat ((e_Rank C_Rank) rank), .dat ((eT eI) lot), .un, .un] (Rt (e_Rank C_Rank) (f_sunk rank lot)) := by
  have nd := sc_f_sunk.nd
  exact TSs.cast ((tss_ltK (st' := fun (gone : List Int) => [.dat ((e_Rank C_Rank) rank), .dat ((eT eI) lot), .dat ((eT eI) gone), .un]) (f_lot_but_all lot rank.worlds) h.2 (ts_set (te_call c_f_lot_but_all hr (by decide) (by rfl) (ta_cons (te_var (pv 1)) (ta_cons (te_fld B.cl_Rank B.na_Rank_worlds (te_var (pv 0)) (lk_Rank_worlds _)) ta_nil)) (fun _ q_ => ⟨(lot, rank.worlds), h.1, rfl, q_⟩)) (pg_name (i := 2) nd rfl (by first | exact Or.inl rfl | exact Or.inr rfl)) (nio0 io 2))
  (fun gone h3 => (tss_ifX (rt := (Rt (e_Rank C_Rank))) (tt_not (tt_val (te_call c_f_inside hr (by decide) (by rfl) (ta_cons (te_prop p_f_Rank_held hr (by decide) (te_var (pv 0)) (fun _ q_ => ⟨rank, h3.1, rfl, q_⟩)) (ta_cons (te_var (pv 2)) ta_nil)) (fun _ q_ => ⟨((f_Rank_held rank), gone), trivial, rfl, q_⟩)))) (by exact True.intro) (fun h1 => (tss_one (ts_retE (e_Rank C_Rank) rank (te_var (pv 0)))))
  (fun h1 => (tss_ltK (st' := fun (back : List Int) => [.dat ((e_Rank C_Rank) rank), .dat ((eT eI) lot), .dat ((eT eI) gone), .dat ((eT eI) back)]) (f_Rank_behind_best rank (f_rest_of gone rank.worlds)) (h3.2 h1).2.2 (ts_set (te_meth m_f_Rank_behind_best hr (by decide) (te_var (pv 0)) (ta_cons (te_call c_f_rest_of hr (by decide) (by rfl) (ta_cons (te_var (pv 2)) (ta_cons (te_fld B.cl_Rank B.na_Rank_worlds (te_var (pv 0)) (lk_Rank_worlds _)) ta_nil)) (fun _ q_ => ⟨(gone, rank.worlds), (h3.2 h1).1, rfl, q_⟩)) ta_nil) (fun _ q_ => ⟨(rank, (f_rest_of gone rank.worlds)), (h3.2 h1).2.1, rfl, q_⟩) (lk_Rank_behind_best _)) (pg_name (i := 3) nd rfl (by first | exact Or.inl rfl | exact Or.inr rfl)) (nio0 io 3))
  (fun back h2 => (tss_one (ts_retE (e_Rank C_Rank) (f_Rank__init___2 ([(f_rest_of back rank.worlds)] ++ (f_parts_in rank.cells back))) (te_make mk_f_Rank__init___2 hr (by decide) (by rfl) B.mg_Rank (ta_cons (TN.te (tn_catL (em := (eT eI)) (TN.tp (tn_lst (ta_cons (te_call c_f_rest_of hr (by decide) (by rfl) (ta_cons (te_var (pv 3)) (ta_cons (te_fld B.cl_Rank B.na_Rank_worlds (te_var (pv 0)) (lk_Rank_worlds _)) ta_nil)) (fun _ q_ => ⟨(back, rank.worlds), h2.1, rfl, q_⟩)) ta_nil) (le_sz 1 rfl (by decide)))) (TN.tp (tn_call c_f_parts_in hr (by decide) (by rfl) (ta_cons (te_fld B.cl_Rank B.na_Rank_cells (te_var (pv 0)) (lk_Rank_cells _)) (ta_cons (te_var (pv 3)) ta_nil)) (fun _ q_ => ⟨(rank.cells, back), trivial, rfl, q_⟩))) h2.2.1)) ta_nil) (fun _ q_ => ⟨(([(f_rest_of back rank.worlds)] ++ (f_parts_in rank.cells back))), h2.2.2, rfl, q_⟩))))) rfl rfl)))) rfl rfl)) rfl
/-! ### _law_two_levels -/
abbrev s_l_two_levels : Stmt := top 59
abbrev N_l_two_levels : List Str := ["_law_levels", "_law_one", "_law_other", "_law_worlds", "_law_rank_here", "_law_first", "_law_second", "_law_there", "_law_back", "_law_same", "_law_mixed"]
theorem sc_l_two_levels : FnScope N_l_two_levels ["_law_levels", "_law_one", "_law_other"] (defScope s_l_two_levels) := ⟨rfl, rfl, rfl, by decide +kernel, rfl, by decide +kernel, by decide +kernel⟩
def T_l_two_levels (C_Rank : Addr) : TF := TFi (fun (i : (List Int) × (List Int) × (List Int)) => [(eL eI) i.1, (eT eI) i.2.1, (eT eI) i.2.2]) (fun i => ok_l_two_levels i.1 i.2.1 i.2.2) (fun i => eB (l_two_levels i.1 i.2.1 i.2.2))
theorem r_l_two_levels (B : Env K w mg C_Rank d_TURNS a_TURNS) (cm_f_Rank_of_levels : CMt P w K mg base C_Rank "of_levels" 6 (spF K 2 (T_f_Rank_of_levels C_Rank))) (c_l_rest : Ca P w K mg base "_law_rest" 1 (spF K 2 (T_l_rest C_Rank))) (c_l_best : Ca P w K mg base "_law_best" 1 (spF K 2 (T_l_best C_Rank))) (c_f_levelled : Ca P w K mg base "levelled" 7 (spF K 2 (T_f_levelled C_Rank))) (c_l_turn : Ca P w K mg base "_law_turn" 3 (spFN K 3 (T_l_turn C_Rank))) (c_l_cells : Ca P w K mg base "_law_cells" 1 (spF K 1 (T_l_cells C_Rank))) (c_l_inside : Ca P w K mg base "_law_inside" 1 (spF K 2 (T_l_inside C_Rank))) (eq_f_Rank__eq__ : EqC P w K mg base C_Rank 1 (spF K 2 (T_f_Rank__eq__ C_Rank))) (p_f_Rank_held : Prp P w K mg base C_Rank "held" 1 (spF K 1 (T_f_Rank_held C_Rank))) (c_l_held : Ca P w K mg base "_law_held" 1 (spF K 1 (T_l_held C_Rank))) (c_l_plus : Ca P w K mg base "_law_plus" 1 (spF K 2 (T_l_plus C_Rank))) (c_f_sunk : Ca P w K mg base "sunk" 8 (spF K 2 (T_f_sunk C_Rank))) {cdv : Value} {A : Around} {outer : List PySem.Env} {s : Shared} {H : Hp} {E : XK} {f : Addr} {Fr : Fm} (hr : Room 8 (A.deeper (envOfC "_law_two_levels" (defScope s_l_two_levels) s.heap.objs.size f cdv))) (io : Fr.io = []) (levels : List Int) (one : List Int) (other : List Int) (h : ok_l_two_levels levels one other) :
    TSs (bcx P w K mg base N_l_two_levels "_law_two_levels" (defScope s_l_two_levels) f cdv A outer s H E) Fr (defBody s_l_two_levels) [.dat ((eL eI) levels), .dat ((eT eI) one), .dat ((eT eI) other), .un, .un, .un, .un, .un, .un, .un, .un] (Rt eB (l_two_levels levels one other)) := by
  have nd := sc_l_two_levels.nd
  exact TSs.cast ((tss_ltK (st' := fun (worlds : Int) => [.dat ((eL eI) levels), .dat ((eT eI) one), .dat ((eT eI) other), .dat (eI worlds), .un, .un, .un, .un, .un, .un, .un]) (levels.length : Int) h (ts_set (te_len (em := eI) (by rfl) B.len (TE.tp (te_var (pv 0))) rfl) (pg_name (i := 3) nd rfl (by first | exact Or.inl rfl | exact Or.inr rfl)) (nio0 io 3))
  (fun worlds h16 => (tss_ltK (st' := fun (rank_here : Rank) => [.dat ((eL eI) levels), .dat ((eT eI) one), .dat ((eT eI) other), .dat (eI worlds), .dat ((e_Rank C_Rank) rank_here), .un, .un, .un, .un, .un, .un]) (f_Rank_of_levels levels) h16.2 (ts_set (te_cmeth cm_f_Rank_of_levels hr (by decide) (pe_glob (by rfl) B.mg_Rank rfl) (ta_cons (te_var (pv 0)) ta_nil) (fun _ q_ => ⟨(levels), h16.1, rfl, q_⟩)) (pg_name (i := 4) nd rfl (by first | exact Or.inl rfl | exact Or.inr rfl)) (nio0 io 4))
  (fun rank_here h15 => (tss_ltK (st' := fun (first : List Int) => [.dat ((eL eI) levels), .dat ((eT eI) one), .dat ((eT eI) other), .dat (eI worlds), .dat ((e_Rank C_Rank) rank_here), .dat ((eT eI) first), .un, .un, .un, .un, .un]) (l_best levels (l_rest one worlds)) h15.2.2 (ts_set (te_call c_l_best hr (by decide) (by rfl) (ta_cons (te_var (pv 0)) (ta_cons (te_call c_l_rest hr (by decide) (by rfl) (ta_cons (te_var (pv 1)) (ta_cons (te_var (pv 3)) ta_nil)) (fun _ q_ => ⟨(one, worlds), h15.1, rfl, q_⟩)) ta_nil)) (fun _ q_ => ⟨(levels, (l_rest one worlds)), h15.2.1, rfl, q_⟩)) (pg_name (i := 5) nd rfl (by first | exact Or.inl rfl | exact Or.inr rfl)) (nio0 io 5))
  (fun first h14 => (tss_ltK (st' := fun (second : List Int) => [.dat ((eL eI) levels), .dat ((eT eI) one), .dat ((eT eI) other), .dat (eI worlds), .dat ((e_Rank C_Rank) rank_here), .dat ((eT eI) first), .dat ((eT eI) second), .un, .un, .un, .un]) (l_best levels (l_rest other worlds)) h14.2.2 (ts_set (te_call c_l_best hr (by decide) (by rfl) (ta_cons (te_var (pv 0)) (ta_cons (te_call c_l_rest hr (by decide) (by rfl) (ta_cons (te_var (pv 2)) (ta_cons (te_var (pv 3)) ta_nil)) (fun _ q_ => ⟨(other, worlds), h14.1, rfl, q_⟩)) ta_nil)) (fun _ q_ => ⟨(levels, (l_rest other worlds)), h14.2.1, rfl, q_⟩)) (pg_name (i := 6) nd rfl (by first | exact Or.inl rfl | exact Or.inr rfl)) (nio0 io 6))
  (fun second h13 => (tss_ltK (st' := fun (there : Rank) => [.dat ((eL eI) levels), .dat ((eT eI) one), .dat ((eT eI) other), .dat (eI worlds), .dat ((e_Rank C_Rank) rank_here), .dat ((eT eI) first), .dat ((eT eI) second), .dat ((e_Rank C_Rank) there), .un, .un, .un]) (f_levelled (f_levelled rank_here one) other) h13.2.2 (ts_set (te_call c_f_levelled hr (by decide) (by rfl) (ta_cons (te_call c_f_levelled hr (by decide) (by rfl) (ta_cons (te_var (pv 4)) (ta_cons (te_var (pv 1)) ta_nil)) (fun _ q_ => ⟨(rank_here, one), h13.1, rfl, q_⟩)) (ta_cons (te_var (pv 2)) ta_nil)) (fun _ q_ => ⟨((f_levelled rank_here one), other), h13.2.1, rfl, q_⟩)) (pg_name (i := 7) nd rfl (by first | exact Or.inl rfl | exact Or.inr rfl)) (nio0 io 7))
  (fun there h12 => (tss_ltK (st' := fun (back : Rank) => [.dat ((eL eI) levels), .dat ((eT eI) one), .dat ((eT eI) other), .dat (eI worlds), .dat ((e_Rank C_Rank) rank_here), .dat ((eT eI) first), .dat ((eT eI) second), .dat ((e_Rank C_Rank) there), .dat ((e_Rank C_Rank) back), .un, .un]) (f_levelled (f_levelled rank_here other) one) h12.2.2 (ts_set (te_call c_f_levelled hr (by decide) (by rfl) (ta_cons (te_call c_f_levelled hr (by decide) (by rfl) (ta_cons (te_var (pv 4)) (ta_cons (te_var (pv 2)) ta_nil)) (fun _ q_ => ⟨(rank_here, other), h12.1, rfl, q_⟩)) (ta_cons (te_var (pv 1)) ta_nil)) (fun _ q_ => ⟨((f_levelled rank_here other), one), h12.2.1, rfl, q_⟩)) (pg_name (i := 8) nd rfl (by first | exact Or.inl rfl | exact Or.inr rfl)) (nio0 io 8))
  (fun back h11 => (tss_ifX (rt := (Rt eB)) (tt_ne (pyT (pyT pyI)) hr.units (TE.tp (te_fld B.cl_Rank B.na_Rank_cells (te_var (pv 7)) (lk_Rank_cells _))) (TE.tp (te_call c_l_cells hr (by decide) (by rfl) (ta_cons (TN.te (tn_call c_l_turn hr (by decide) (by rfl) (ta_cons (TN.te (tn_call c_l_turn hr (by decide) (by rfl) (ta_cons (te_var (pv 0)) (ta_cons te_str (ta_cons (te_var (pv 1)) ta_nil))) (fun _ q_ => ⟨(levels, ("level" : Str), one), h11.1, rfl, q_⟩))) (ta_cons te_str (ta_cons (te_var (pv 2)) ta_nil))) (fun _ q_ => ⟨((l_turn levels ("level" : Str) one), ("level" : Str), other), h11.2.1, rfl, q_⟩))) ta_nil) (fun _ q_ => ⟨((l_turn (l_turn levels ("level" : Str) one) ("level" : Str) other)), h11.2.2.1, rfl, q_⟩)))) (by exact True.intro) (fun h1 => (tss_one (ts_retE eB false te_bl)))
  (fun h1 => (tss_ifX (rt := (Rt eB)) (tt_ne (pyT (pyT pyI)) hr.units (TE.tp (te_fld B.cl_Rank B.na_Rank_cells (te_var (pv 8)) (lk_Rank_cells _))) (TE.tp (te_call c_l_cells hr (by decide) (by rfl) (ta_cons (TN.te (tn_call c_l_turn hr (by decide) (by rfl) (ta_cons (TN.te (tn_call c_l_turn hr (by decide) (by rfl) (ta_cons (te_var (pv 0)) (ta_cons te_str (ta_cons (te_var (pv 2)) ta_nil))) (fun _ q_ => ⟨(levels, ("level" : Str), other), (h11.2.2.2 h1).1, rfl, q_⟩))) (ta_cons te_str (ta_cons (te_var (pv 1)) ta_nil))) (fun _ q_ => ⟨((l_turn levels ("level" : Str) other), ("level" : Str), one), (h11.2.2.2 h1).2.1, rfl, q_⟩))) ta_nil) (fun _ q_ => ⟨((l_turn (l_turn levels ("level" : Str) other) ("level" : Str) one)), (h11.2.2.2 h1).2.2.1, rfl, q_⟩)))) (by exact True.intro) (fun h2 => (tss_one (ts_retE eB false te_bl)))
  (fun h2 => (tss_ltK (st' := fun (same : Bool) => [.dat ((eL eI) levels), .dat ((eT eI) one), .dat ((eT eI) other), .dat (eI worlds), .dat ((e_Rank C_Rank) rank_here), .dat ((eT eI) first), .dat ((eT eI) second), .dat ((e_Rank C_Rank) there), .dat ((e_Rank C_Rank) back), .dat (eB same), .un]) (decide (first = second) || ((l_inside first other) && (l_inside second one))) ((h11.2.2.2 h1).2.2.2 h2) (ts_set (te_or (te_eq (pyT pyI) hr.units (TE.tp (te_var (pv 5))) (TE.tp (te_var (pv 6)))) (fun h3 => (te_one (te_band (te_call c_l_inside hr (by decide) (by rfl) (ta_cons (te_var (pv 5)) (ta_cons (te_var (pv 2)) ta_nil)) (fun _ q_ => ⟨(first, other), trivial, rfl, q_⟩)) (fun h4 => (te_one (te_call c_l_inside hr (by decide) (by rfl) (ta_cons (te_var (pv 6)) (ta_cons (te_var (pv 1)) ta_nil)) (fun _ q_ => ⟨(second, one), trivial, rfl, q_⟩)))))))) (pg_name (i := 9) nd rfl (by first | exact Or.inl rfl | exact Or.inr rfl)) (nio0 io 9))
  (fun same h10 => (tss_ifX (rt := (Rt eB)) (tt_ne pyB hr.units (TE.tp (te_eqO eq_f_Rank__eq__ hr (by decide) (te_var (pv 7)) (TE.tp (te_var (pv 8))) (fun _ q_ => ⟨(there, back), trivial, rfl, q_⟩))) (TE.tp (te_var (pv 9)))) (by exact True.intro) (fun h5 => (tss_one (ts_retE eB false te_bl)))
  (fun h5 => (tss_ifX (rt := (Rt eB)) (tt_w (tw_and (tt_val (te_var (pv 9))) (fun h6 => (tw_and1 (tt_ne (pyT pyI) hr.units (TE.tp (te_prop p_f_Rank_held hr (by decide) (te_var (pv 7)) (fun _ q_ => ⟨there, ((h10 h5).1 h6).1, rfl, q_⟩))) (TE.tp (te_call c_l_plus hr (by decide) (by rfl) (ta_cons (te_call c_l_plus hr (by decide) (by rfl) (ta_cons (te_call c_l_held hr (by decide) (by rfl) (ta_cons (te_var (pv 0)) ta_nil) (fun _ q_ => ⟨(levels), ((h10 h5).1 h6).2.1, rfl, q_⟩)) (ta_cons (te_var (pv 5)) ta_nil)) (fun _ q_ => ⟨((l_held levels), first), ((h10 h5).1 h6).2.2.1, rfl, q_⟩)) (ta_cons (te_var (pv 6)) ta_nil)) (fun _ q_ => ⟨((l_plus (l_held levels) first), second), ((h10 h5).1 h6).2.2.2, rfl, q_⟩)))))))) (by exact True.intro) (fun h7 => (tss_one (ts_retE eB false te_bl)))
  (fun h7 => (tss_ifX (rt := (Rt eB)) (tt_not (tt_val (te_call c_l_inside hr (by decide) (by rfl) (ta_cons (te_var (pv 5)) (ta_cons (te_var (pv 2)) ta_nil)) (fun _ q_ => ⟨(first, other), trivial, rfl, q_⟩)))) (by exact True.intro) (fun h8 => (tss_one (ts_retE eB true te_bl)))
  (fun h8 => (tss_ltK (st' := fun (mixed : Rank) => [.dat ((eL eI) levels), .dat ((eT eI) one), .dat ((eT eI) other), .dat (eI worlds), .dat ((e_Rank C_Rank) rank_here), .dat ((eT eI) first), .dat ((eT eI) second), .dat ((e_Rank C_Rank) there), .dat ((e_Rank C_Rank) back), .dat (eB same), .dat ((e_Rank C_Rank) mixed)]) (f_sunk (f_levelled rank_here one) other) (((h10 h5).2 h7) h8).2.2 (ts_set (te_call c_f_sunk hr (by decide) (by rfl) (ta_cons (te_call c_f_levelled hr (by decide) (by rfl) (ta_cons (te_var (pv 4)) (ta_cons (te_var (pv 1)) ta_nil)) (fun _ q_ => ⟨(rank_here, one), (((h10 h5).2 h7) h8).1, rfl, q_⟩)) (ta_cons (te_var (pv 2)) ta_nil)) (fun _ q_ => ⟨((f_levelled rank_here one), other), (((h10 h5).2 h7) h8).2.1, rfl, q_⟩)) (pg_name (i := 10) nd rfl (by first | exact Or.inl rfl | exact Or.inr rfl)) (nio0 io 10))
  (fun mixed h9 => (tss_one (ts_retE eB (decide ((f_Rank__eq__ mixed (f_sunk rank_here other)) = decide ((pyIx levels (pyIx first 0)) ≤ (pyIx levels (pyIx second 0))))) (te_eq pyB hr.units (TE.tp (te_eqO eq_f_Rank__eq__ hr (by decide) (te_var (pv 10)) (TE.tp (te_call c_f_sunk hr (by decide) (by rfl) (ta_cons (te_var (pv 4)) (ta_cons (te_var (pv 2)) ta_nil)) (fun _ q_ => ⟨(rank_here, other), h9.1, rfl, q_⟩))) (fun _ q_ => ⟨(mixed, (f_sunk rank_here other)), trivial, rfl, q_⟩))) (TE.tp (te_le (te_ixE (em := eI) (te_var (pv 0)) rfl (TE.tp (te_ixE (em := eI) (te_var (pv 5)) rfl (TE.tp te_int) h9.2.1)) h9.2.2.1) (TE.tp (te_ixE (em := eI) (te_var (pv 0)) rfl (TE.tp (te_ixE (em := eI) (te_var (pv 6)) rfl (TE.tp te_int) h9.2.2.2.1)) h9.2.2.2.2)))))))) rfl rfl)))))))) rfl rfl)))))) rfl rfl)) rfl rfl)) rfl rfl)) rfl rfl)) rfl rfl)) rfl rfl)) rfl
/-! ### _law_one_lot -/
abbrev s_l_one_lot : Stmt := top 60
abbrev N_l_one_lot : List Str := ["_law_levels", "_law_lot_here", "_law_rank_here", "_law_sink", "_law_level"]
theorem sc_l_one_lot : FnScope N_l_one_lot ["_law_levels", "_law_lot_here"] (defScope s_l_one_lot) := ⟨rfl, rfl, rfl, by decide +kernel, rfl, by decide +kernel, by decide +kernel⟩
def T_l_one_lot (C_Rank : Addr) : TF := TFi (fun (i : (List Int) × (List Int)) => [(eL eI) i.1, (eT eI) i.2]) (fun i => ok_l_one_lot i.1 i.2) (fun i => eB (l_one_lot i.1 i.2))
theorem r_l_one_lot (B : Env K w mg C_Rank d_TURNS a_TURNS) (cm_f_Rank_of_levels : CMt P w K mg base C_Rank "of_levels" 6 (spF K 2 (T_f_Rank_of_levels C_Rank))) (c_f_sunk : Ca P w K mg base "sunk" 8 (spF K 2 (T_f_sunk C_Rank))) (c_f_levelled : Ca P w K mg base "levelled" 7 (spF K 2 (T_f_levelled C_Rank))) (ne_f_Rank__eq__ : NeC P w K mg base C_Rank 1 (spF K 2 (T_f_Rank__eq__ C_Rank))) (c_l_turn : Ca P w K mg base "_law_turn" 3 (spFN K 3 (T_l_turn C_Rank))) (c_l_cells : Ca P w K mg base "_law_cells" 1 (spF K 1 (T_l_cells C_Rank))) {cdv : Value} {A : Around} {outer : List PySem.Env} {s : Shared} {H : Hp} {E : XK} {f : Addr} {Fr : Fm} (hr : Room 8 (A.deeper (envOfC "_law_one_lot" (defScope s_l_one_lot) s.heap.objs.size f cdv))) (io : Fr.io = []) (levels : List Int) (lot_here : List Int) (h : ok_l_one_lot levels lot_here) :
    TSs (bcx P w K mg base N_l_one_lot "_law_one_lot" (defScope s_l_one_lot) f cdv A outer s H E) Fr (defBody s_l_one_lot) [.dat ((eL eI) levels), .dat ((eT eI) lot_here), .un, .un, .un] (Rt eB (l_one_lot levels lot_here)) := by
  have nd := sc_l_one_lot.nd
  exact TSs.cast ((tss_ltK (st' := fun (rank_here : Rank) => [.dat ((eL eI) levels), .dat ((eT eI) lot_here), .dat ((e_Rank C_Rank) rank_here), .un, .un]) (f_Rank_of_levels levels) h.2 (ts_set (te_cmeth cm_f_Rank_of_levels hr (by decide) (pe_glob (by rfl) B.mg_Rank rfl) (ta_cons (te_var (pv 0)) ta_nil) (fun _ q_ => ⟨(levels), h.1, rfl, q_⟩)) (pg_name (i := 2) nd rfl (by first | exact Or.inl rfl | exact Or.inr rfl)) (nio0 io 2))
  (fun rank_here h6 => (tss_ltK (st' := fun (sink : Rank) => [.dat ((eL eI) levels), .dat ((eT eI) lot_here), .dat ((e_Rank C_Rank) rank_here), .dat ((e_Rank C_Rank) sink), .un]) (f_sunk rank_here lot_here) h6.2 (ts_set (te_call c_f_sunk hr (by decide) (by rfl) (ta_cons (te_var (pv 2)) (ta_cons (te_var (pv 1)) ta_nil)) (fun _ q_ => ⟨(rank_here, lot_here), h6.1, rfl, q_⟩)) (pg_name (i := 3) nd rfl (by first | exact Or.inl rfl | exact Or.inr rfl)) (nio0 io 3))
  (fun sink h5 => (tss_ltK (st' := fun (level : Rank) => [.dat ((eL eI) levels), .dat ((eT eI) lot_here), .dat ((e_Rank C_Rank) rank_here), .dat ((e_Rank C_Rank) sink), .dat ((e_Rank C_Rank) level)]) (f_levelled rank_here lot_here) h5.2 (ts_set (te_call c_f_levelled hr (by decide) (by rfl) (ta_cons (te_var (pv 2)) (ta_cons (te_var (pv 1)) ta_nil)) (fun _ q_ => ⟨(rank_here, lot_here), h5.1, rfl, q_⟩)) (pg_name (i := 4) nd rfl (by first | exact Or.inl rfl | exact Or.inr rfl)) (nio0 io 4))
  (fun level h4 => (tss_ifX (rt := (Rt eB)) (tt_w (tw_or (tt_neO ne_f_Rank__eq__ hr (by decide) (te_call c_f_levelled hr (by decide) (by rfl) (ta_cons (te_var (pv 3)) (ta_cons (te_var (pv 1)) ta_nil)) (fun _ q_ => ⟨(sink, lot_here), h4.1, rfl, q_⟩)) (TE.tp (te_var (pv 3))) (fun _ q_ => ⟨((f_levelled sink lot_here), sink), trivial, rfl, q_⟩)) (fun h1 => (tw_or1 (tt_neO ne_f_Rank__eq__ hr (by decide) (te_call c_f_sunk hr (by decide) (by rfl) (ta_cons (te_var (pv 4)) (ta_cons (te_var (pv 1)) ta_nil)) (fun _ q_ => ⟨(level, lot_here), (h4.2.1 h1), rfl, q_⟩)) (TE.tp (te_var (pv 4))) (fun _ q_ => ⟨((f_sunk level lot_here), level), trivial, rfl, q_⟩)))))) (by exact True.intro) (fun h2 => (tss_one (ts_retE eB false te_bl)))
  (fun h2 => (tss_one (ts_retE eB (decide (sink.cells = (l_cells (l_turn levels ("sink" : Str) lot_here))) && decide ((f_sunk sink lot_here).cells = sink.cells)) (te_band (te_eq (pyT (pyT pyI)) hr.units (TE.tp (te_fld B.cl_Rank B.na_Rank_cells (te_var (pv 3)) (lk_Rank_cells _))) (TE.tp (te_call c_l_cells hr (by decide) (by rfl) (ta_cons (TN.te (tn_call c_l_turn hr (by decide) (by rfl) (ta_cons (te_var (pv 0)) (ta_cons te_str (ta_cons (te_var (pv 1)) ta_nil))) (fun _ q_ => ⟨(levels, ("sink" : Str), lot_here), (h4.2.2 h2).1, rfl, q_⟩))) ta_nil) (fun _ q_ => ⟨((l_turn levels ("sink" : Str) lot_here)), (h4.2.2 h2).2.1, rfl, q_⟩)))) (fun h3 => (te_one (te_eq (pyT (pyT pyI)) hr.units (TE.tp (te_fld B.cl_Rank B.na_Rank_cells (te_call c_f_sunk hr (by decide) (by rfl) (ta_cons (te_var (pv 3)) (ta_cons (te_var (pv 1)) ta_nil)) (fun _ q_ => ⟨(sink, lot_here), ((h4.2.2 h2).2.2 h3), rfl, q_⟩)) (lk_Rank_cells _))) (TE.tp (te_fld B.cl_Rank B.na_Rank_cells (te_var (pv 3)) (lk_Rank_cells _)))))))))))) rfl rfl)) rfl rfl)) rfl rfl)) rfl
/-! ### _law_short -/
abbrev s_l_short : Stmt := top 47
abbrev N_l_short : List Str := ["_law_draws_here", "_law_worlds", "_law_missing", "_law_lot_here", "_law_world"]
theorem sc_l_short : FnScope N_l_short ["_law_draws_here", "_law_worlds"] (defScope s_l_short) := ⟨rfl, rfl, rfl, by decide +kernel, rfl, by decide +kernel, by decide +kernel⟩
def T_l_short (C_Rank : Addr) : TIO := TIOi (fun (i : (List Int) × Int) => (i.1.map eI)) (fun (i : (List Int) × Int) => [eI i.2]) (fun i => ok_l_short i.1 i.2) (fun i => (eT eI) (l_short i.1 i.2).1) (fun i => (l_short i.1 i.2).2.map eI)
theorem r_l_short (B : Env K w mg C_Rank d_TURNS a_TURNS) (c_l_take : Ca P w K mg base "_law_take" 1 (spIO K 2 (T_l_take C_Rank))) (c_l_lot : Ca P w K mg base "_law_lot" 2 (spIO K 2 (T_l_lot C_Rank))) {cdv : Value} {A : Around} {outer : List PySem.Env} {s : Shared} {H : Hp} {E : XK} {f : Addr} {Fr : Fm} (hr : Room 2 (A.deeper (envOfC "_law_short" (defScope s_l_short) s.heap.objs.size f cdv))) (io : ∃ a, Fr.io = [(0, a)]) (draws_here : List Int) (worlds : Int) (h : ok_l_short draws_here worlds) :
    TSs (bcx P w K mg base N_l_short "_law_short" (defScope s_l_short) f cdv A outer s H E) Fr (defBody s_l_short) [.own (draws_here.map eI), .dat (eI worlds), .un, .un, .un] (RtI (eT eI) eI (l_short draws_here worlds)) := by
  have nd := sc_l_short.nd
  exact TSs.cast ((tss_ltK (st' := fun (v : Int × (List Int)) => [.own (v.2.map eI), .dat (eI worlds), .dat (eI v.1), .un, .un]) ((l_take draws_here worlds).1, (l_take draws_here worlds).2) h.2 (ts_set (te_callIO (i := 0) c_l_take hr (by decide) (by rfl) (pv 0) (ta_cons (te_var (pv 1)) ta_nil) rfl (fun _ q_ => ⟨(draws_here, worlds), h.1, rfl, rfl, q_⟩)) (pg_name (i := 2) nd rfl (by first | exact Or.inl rfl | exact Or.inr rfl)) (nio1 io (by decide)))
  (fun v h4 => (tss_lt (st' := fun (v1 : (List Int) × (List Int)) => [.own (v1.2.map eI), .dat (eI worlds), .dat (eI v.1), .dat ((eT eI) v1.1), .un]) ((l_lot v.2 worlds).1, (l_lot v.2 worlds).2) (ts_set (te_callIO (i := 0) c_l_lot hr (by decide) (by rfl) (pv 0) (ta_cons (te_var (pv 1)) ta_nil) rfl (fun _ q_ => ⟨(v.2, worlds), h4, rfl, rfl, q_⟩)) (pg_name (i := 3) nd rfl (by first | exact Or.inl rfl | exact Or.inr rfl)) (nio1 io (by decide)))
  (fun v1 => (tss_one (ts_retIE (eT eI) eI ((v1.1.filter (fun (world : Int) => (!decide (world = v.1)))), v1.2) (te_tuple (em := eI) (by rfl) B.tuple (TN.tp (tn_lcf (δ2 := [.own (v1.2.map eI), .dat (eI worlds), .dat (eI v.1), .dat ((eT eI) v1.1), .un]) (own := [("_law_world", 4)]) (g := (gSet 4)) (emi := eI) (emx := eI) (xs := v1.1) (sx := fun (world : Int) => [.own (v1.2.map eI), .dat (eI worlds), .dat (eI v.1), .dat ((eT eI) v1.1), .dat (eI world)]) (t := fun (world : Int) => (!decide (world = v.1)))  rfl nd (ti_seq (ds := List.map eI v1.1) (te_var (pv 3)) rfl) (blkOk_by (N := N_l_short) (sc := defScope s_l_short) (by decide +kernel)) (fun _ _ _ _ _ _ n => (dg_name (pg_name (i := 4) nd rfl (by first | exact Or.inl rfl | exact Or.inr rfl)) (n 4 (by simp)))) (fun _ _ h => h) (fun world h1 _ _ _ _ _ _ => (tts_one (tt_ne pyI hr.units (TE.tp (te_var (pv 4))) (TE.tp (te_var (pv 2)))))) (fun world h1 h2 _ _ _ _ _ _ => (te_var (pv 4))))) rfl)))) rfl rfl)) rfl rfl)) rfl
/-! ### check_word -/
abbrev s_f_check_word : Stmt := top 41
abbrev N_f_check_word : List Str := ["word"]
theorem sc_f_check_word : FnScope N_f_check_word ["word"] (defScope s_f_check_word) := ⟨rfl, rfl, rfl, by decide +kernel, rfl, by decide +kernel, by decide +kernel⟩
def T_f_check_word (C_Rank : Addr) : TF := TFi (fun (i : Str) => [eS i]) (fun i => ok_f_check_word i) (fun _ => .non)
theorem r_f_check_word (B : Env K w mg C_Rank d_TURNS a_TURNS)  {cdv : Value} {A : Around} {outer : List PySem.Env} {s : Shared} {H : Hp} {E : XK} {f : Addr} {Fr : Fm} (hr : Room 0 (A.deeper (envOfC "check_word" (defScope s_f_check_word) s.heap.objs.size f cdv))) (io : Fr.io = []) (word : Str) (h : ok_f_check_word word) :
    TSs (bcx P w K mg base N_f_check_word "check_word" (defScope s_f_check_word) f cdv A outer s H E) Fr (defBody s_f_check_word) [.dat (eS word)] (.nx [.un]) := by
  have nd := sc_f_check_word.nd
  exact TSs.cast ((tss_ifN (tt_w (tw_or (tt_not (tt_val (te_isi (T := "str") (by rfl) B.isinstance (TE.tp (te_var (pv 0))) (pe_bltn (v := .ty "str") (u := .type "str") (by rfl) B.str (by decide +kernel) rfl) rfl (by decide +kernel)))) (fun h1 => (tw_or1 (tt_notinK B.kt_TURNS (te_var (pv 0)) (TE.tp (te_gref (pe_glob (by rfl) B.mg_TURNS rfl))) (kn_TURNS a_TURNS (h.1 h1))))))) h.2 (tss_unset (δ2 := [.un]) (vs := [0]) (fun i hi => nio0 io i) tss_nil))) rfl
/-! ### led -/
abbrev s_f_led : Stmt := top 34
abbrev N_f_led : List Str := ["rank", "lot", "news"]
theorem sc_f_led : FnScope N_f_led ["rank", "lot"] (defScope s_f_led) := ⟨rfl, rfl, rfl, by decide +kernel, rfl, by decide +kernel, by decide +kernel⟩
def T_f_led (C_Rank : Addr) : TF := TFi (fun (i : Rank × (List Int)) => [(e_Rank C_Rank) i.1, (eT eI) i.2]) (fun i => ok_f_led i.1 i.2) (fun i => (e_Rank C_Rank) (f_led i.1 i.2))
theorem r_f_led (B : Env K w mg C_Rank d_TURNS a_TURNS) (k2_f_lot_of : CaK P w K mg base "lot_of" 5 2 ["empty"] (spF K 3 (T_f_lot_of C_Rank))) (c_f_parts_in : Ca P w K mg base "parts_in" 2 (spFN K 2 (T_f_parts_in C_Rank))) (c_f_parts_out : Ca P w K mg base "parts_out" 2 (spFN K 2 (T_f_parts_out C_Rank))) (mk_f_Rank__init___2 : Mkr P w K mg base C_Rank 4 (spIn K C_Rank 1 (T_f_Rank__init___2 C_Rank))) {cdv : Value} {A : Around} {outer : List PySem.Env} {s : Shared} {H : Hp} {E : XK} {f : Addr} {Fr : Fm} (hr : Room 5 (A.deeper (envOfC "led" (defScope s_f_led) s.heap.objs.size f cdv))) (io : Fr.io = []) (rank : Rank) (lot : List Int) (h : ok_f_led rank lot) :
    TSs (bcx P w K mg base N_f_led "led" (defScope s_f_led) f cdv A outer s H E) Fr (defBody s_f_led) [.dat ((e_Rank C_Rank) rank), .dat ((eT eI) lot), .un] (Rt (e_Rank C_Rank) (f_led rank lot)) := by
  have nd := sc_f_led.nd
  exact TSs.cast ((tss_ltK (st' := fun (news : List Int) => [.dat ((e_Rank C_Rank) rank), .dat ((eT eI) lot), .dat ((eT eI) news)]) (f_lot_of lot rank.worlds false) h.2 (ts_set (te_callK k2_f_lot_of hr (by decide) (by rfl) (ta_cons (te_var (pv 1)) (ta_cons (te_fld B.cl_Rank B.na_Rank_worlds (te_var (pv 0)) (lk_Rank_worlds _)) ta_nil)) (tk_cons te_bl tk_nil) (fun _ q_ => ⟨(lot, rank.worlds, false), h.1, rfl, q_⟩)) (pg_name (i := 2) nd rfl (by first | exact Or.inl rfl | exact Or.inr rfl)) (nio0 io 2))
  (fun news h1 => (tss_one (ts_retE (e_Rank C_Rank) (f_Rank__init___2 ((f_parts_in rank.cells news) ++ (f_parts_out rank.cells news))) (te_make mk_f_Rank__init___2 hr (by decide) (by rfl) B.mg_Rank (ta_cons (TN.te (tn_catL (em := (eT eI)) (TN.tp (tn_call c_f_parts_in hr (by decide) (by rfl) (ta_cons (te_fld B.cl_Rank B.na_Rank_cells (te_var (pv 0)) (lk_Rank_cells _)) (ta_cons (te_var (pv 2)) ta_nil)) (fun _ q_ => ⟨(rank.cells, news), trivial, rfl, q_⟩))) (TN.tp (tn_call c_f_parts_out hr (by decide) (by rfl) (ta_cons (te_fld B.cl_Rank B.na_Rank_cells (te_var (pv 0)) (lk_Rank_cells _)) (ta_cons (te_var (pv 2)) ta_nil)) (fun _ q_ => ⟨(rank.cells, news), trivial, rfl, q_⟩))) h1.1)) ta_nil) (fun _ q_ => ⟨(((f_parts_in rank.cells news) ++ (f_parts_out rank.cells news))), h1.2, rfl, q_⟩))))) rfl rfl)) rfl
/-! ### pushed -/
abbrev s_f_pushed : Stmt := top 35
abbrev N_f_pushed : List Str := ["rank", "lot", "front"]
theorem sc_f_pushed : FnScope N_f_pushed ["rank", "lot"] (defScope s_f_pushed) := ⟨rfl, rfl, rfl, by decide +kernel, rfl, by decide +kernel, by decide +kernel⟩
def T_f_pushed (C_Rank : Addr) : TF := TFi (fun (i : Rank × (List Int)) => [(e_Rank C_Rank) i.1, (eT eI) i.2]) (fun i => ok_f_pushed i.1 i.2) (fun i => (e_Rank C_Rank) (f_pushed i.1 i.2))
theorem r_f_pushed (B : Env K w mg C_Rank d_TURNS a_TURNS) (m_f_Rank_best : Mth P w K mg base C_Rank "best" 6 (spF K 2 (T_f_Rank_best C_Rank))) (c_f_parts_out : Ca P w K mg base "parts_out" 2 (spFN K 2 (T_f_parts_out C_Rank))) (mk_f_Rank__init___2 : Mkr P w K mg base C_Rank 4 (spIn K C_Rank 1 (T_f_Rank__init___2 C_Rank))) {cdv : Value} {A : Around} {outer : List PySem.Env} {s : Shared} {H : Hp} {E : XK} {f : Addr} {Fr : Fm} (hr : Room 6 (A.deeper (envOfC "pushed" (defScope s_f_pushed) s.heap.objs.size f cdv))) (io : Fr.io = []) (rank : Rank) (lot : List Int) (h : ok_f_pushed rank lot) :
    TSs (bcx P w K mg base N_f_pushed "pushed" (defScope s_f_pushed) f cdv A outer s H E) Fr (defBody s_f_pushed) [.dat ((e_Rank C_Rank) rank), .dat ((eT eI) lot), .un] (Rt (e_Rank C_Rank) (f_pushed rank lot)) := by
  have nd := sc_f_pushed.nd
  exact TSs.cast ((tss_ltK (st' := fun (front : List Int) => [.dat ((e_Rank C_Rank) rank), .dat ((eT eI) lot), .dat ((eT eI) front)]) (f_Rank_best rank lot) h.2 (ts_set (te_meth m_f_Rank_best hr (by decide) (te_var (pv 0)) (ta_cons (te_var (pv 1)) ta_nil) (fun _ q_ => ⟨(rank, lot), h.1, rfl, q_⟩) (lk_Rank_best _)) (pg_name (i := 2) nd rfl (by first | exact Or.inl rfl | exact Or.inr rfl)) (nio0 io 2))
  (fun front h1 => (tss_one (ts_retE (e_Rank C_Rank) (f_Rank__init___2 ([front] ++ (f_parts_out rank.cells front))) (te_make mk_f_Rank__init___2 hr (by decide) (by rfl) B.mg_Rank (ta_cons (TN.te (tn_catL (em := (eT eI)) (TN.tp (tn_lst (ta_cons (te_var (pv 2)) ta_nil) (le_sz 1 rfl (by decide)))) (TN.tp (tn_call c_f_parts_out hr (by decide) (by rfl) (ta_cons (te_fld B.cl_Rank B.na_Rank_cells (te_var (pv 0)) (lk_Rank_cells _)) (ta_cons (te_var (pv 2)) ta_nil)) (fun _ q_ => ⟨(rank.cells, front), trivial, rfl, q_⟩))) h1.1)) ta_nil) (fun _ q_ => ⟨(([front] ++ (f_parts_out rank.cells front))), h1.2, rfl, q_⟩))))) rfl rfl)) rfl
/-! ### parts_in -/
abbrev s_f_parts_in_2 : Stmt := top 32
abbrev N_f_parts_in_2 : List Str := ["cells", "lot", "part", "cell"]
theorem sc_f_parts_in_2 : FnScope N_f_parts_in_2 ["cells", "lot"] (defScope s_f_parts_in_2) := ⟨rfl, rfl, rfl, by decide +kernel, rfl, by decide +kernel, by decide +kernel⟩
def T_f_parts_in_2 (C_Rank : Addr) : TFN := TFNi (fun (i : (List (List Int)) × (List Int)) => [(eL (eT eI)) i.1, (eT eI) i.2]) (fun _ => True) (fun i => (f_parts_in_2 i.1 i.2).map (eT eI))
theorem r_f_parts_in_2 (B : Env K w mg C_Rank d_TURNS a_TURNS) (c_f_common : Ca P w K mg base "common" 1 (spF K 2 (T_f_common C_Rank))) {cdv : Value} {A : Around} {outer : List PySem.Env} {s : Shared} {H : Hp} {E : XK} {f : Addr} {Fr : Fm} (hr : Room 1 (A.deeper (envOfC "parts_in" (defScope s_f_parts_in_2) s.heap.objs.size f cdv))) (io : Fr.io = []) (cells : List (List Int)) (lot : List Int) :
    TSs (bcx P w K mg base N_f_parts_in_2 "parts_in" (defScope s_f_parts_in_2) f cdv A outer s H E) Fr (defBody s_f_parts_in_2) [.dat ((eL (eT eI)) cells), .dat ((eT eI) lot), .un, .un] (RtN (eT eI) (f_parts_in_2 cells lot)) := by
  have nd := sc_f_parts_in_2.nd
  exact TSs.cast ((tss_one (ts_retNE (eT eI) ((cells.map (fun (cell : List Int) => (f_common cell lot))).filter (fun (part : List Int) => (!part.isEmpty))) (tn_lcf (δ2 := [.dat ((eL (eT eI)) cells), .dat ((eT eI) lot), .un, .un]) (own := [("part", 2)]) (g := (gSet 2)) (emi := (eT eI)) (emx := (eT eI)) (xs := (cells.map (fun (cell : List Int) => (f_common cell lot)))) (sx := fun (part : List Int) => [.dat ((eL (eT eI)) cells), .dat ((eT eI) lot), .dat ((eT eI) part), .un]) (t := fun (part : List Int) => (!part.isEmpty))  rfl nd (ti_seq (ds := List.map (eT eI) (cells.map (fun (cell : List Int) => (f_common cell lot)))) (TN.te (tn_lc0 (δ2 := [.dat ((eL (eT eI)) cells), .dat ((eT eI) lot), .un, .un]) (own := [("cell", 3)]) (g := (gSet 3)) (emi := (eT eI)) (emo := (eT eI)) (xs := cells) (sx := fun (cell : List Int) => [.dat ((eL (eT eI)) cells), .dat ((eT eI) lot), .un, .dat ((eT eI) cell)]) (f := fun (cell : List Int) => (f_common cell lot))  rfl nd (ti_seq (ds := List.map (eT eI) cells) (te_var (pv 0)) rfl) (blkOk_by (N := N_f_parts_in_2) (sc := defScope s_f_parts_in_2) (by decide +kernel)) (fun _ _ _ _ _ _ n => (dg_name (pg_name (i := 3) nd rfl (by first | exact Or.inl rfl | exact Or.inr rfl)) (n 3 (by simp)))) (fun _ _ h => h) (fun cell h1 _ _ _ _ _ _ => (te_call c_f_common hr (by decide) (by rfl) (ta_cons (te_var (pv 3)) (ta_cons (te_var (pv 1)) ta_nil)) (fun _ q_ => ⟨(cell, lot), trivial, rfl, q_⟩))))) rfl) (blkOk_by (N := N_f_parts_in_2) (sc := defScope s_f_parts_in_2) (by decide +kernel)) (fun _ _ _ _ _ _ n => (dg_name (pg_name (i := 2) nd rfl (by first | exact Or.inl rfl | exact Or.inr rfl)) (n 2 (by simp)))) (fun _ _ h => h) (fun part h3 _ _ _ _ _ _ => (tts_one (tt_tru (TE.tp (te_var (pv 2))) (by show some (!(List.isEmpty (List.map _ _))) = _; rw [List.isEmpty_map])))) (fun part h3 h4 _ _ _ _ _ _ => (te_var (pv 2))))))) rfl
/-! ### parts_out -/
abbrev s_f_parts_out_2 : Stmt := top 33
abbrev N_f_parts_out_2 : List Str := ["cells", "lot", "part", "cell"]
theorem sc_f_parts_out_2 : FnScope N_f_parts_out_2 ["cells", "lot"] (defScope s_f_parts_out_2) := ⟨rfl, rfl, rfl, by decide +kernel, rfl, by decide +kernel, by decide +kernel⟩
def T_f_parts_out_2 (C_Rank : Addr) : TFN := TFNi (fun (i : (List (List Int)) × (List Int)) => [(eL (eT eI)) i.1, (eT eI) i.2]) (fun _ => True) (fun i => (f_parts_out_2 i.1 i.2).map (eT eI))
theorem r_f_parts_out_2 (B : Env K w mg C_Rank d_TURNS a_TURNS) (c_f_minus : Ca P w K mg base "minus" 1 (spF K 2 (T_f_minus C_Rank))) {cdv : Value} {A : Around} {outer : List PySem.Env} {s : Shared} {H : Hp} {E : XK} {f : Addr} {Fr : Fm} (hr : Room 1 (A.deeper (envOfC "parts_out" (defScope s_f_parts_out_2) s.heap.objs.size f cdv))) (io : Fr.io = []) (cells : List (List Int)) (lot : List Int) :
    TSs (bcx P w K mg base N_f_parts_out_2 "parts_out" (defScope s_f_parts_out_2) f cdv A outer s H E) Fr (defBody s_f_parts_out_2) [.dat ((eL (eT eI)) cells), .dat ((eT eI) lot), .un, .un] (RtN (eT eI) (f_parts_out_2 cells lot)) := by
  have nd := sc_f_parts_out_2.nd
  exact TSs.cast ((tss_one (ts_retNE (eT eI) ((cells.map (fun (cell : List Int) => (f_minus cell lot))).filter (fun (part : List Int) => (!part.isEmpty))) (tn_lcf (δ2 := [.dat ((eL (eT eI)) cells), .dat ((eT eI) lot), .un, .un]) (own := [("part", 2)]) (g := (gSet 2)) (emi := (eT eI)) (emx := (eT eI)) (xs := (cells.map (fun (cell : List Int) => (f_minus cell lot)))) (sx := fun (part : List Int) => [.dat ((eL (eT eI)) cells), .dat ((eT eI) lot), .dat ((eT eI) part), .un]) (t := fun (part : List Int) => (!part.isEmpty))  rfl nd (ti_seq (ds := List.map (eT eI) (cells.map (fun (cell : List Int) => (f_minus cell lot)))) (TN.te (tn_lc0 (δ2 := [.dat ((eL (eT eI)) cells), .dat ((eT eI) lot), .un, .un]) (own := [("cell", 3)]) (g := (gSet 3)) (emi := (eT eI)) (emo := (eT eI)) (xs := cells) (sx := fun (cell : List Int) => [.dat ((eL (eT eI)) cells), .dat ((eT eI) lot), .un, .dat ((eT eI) cell)]) (f := fun (cell : List Int) => (f_minus cell lot))  rfl nd (ti_seq (ds := List.map (eT eI) cells) (te_var (pv 0)) rfl) (blkOk_by (N := N_f_parts_out_2) (sc := defScope s_f_parts_out_2) (by decide +kernel)) (fun _ _ _ _ _ _ n => (dg_name (pg_name (i := 3) nd rfl (by first | exact Or.inl rfl | exact Or.inr rfl)) (n 3 (by simp)))) (fun _ _ h => h) (fun cell h1 _ _ _ _ _ _ => (te_call c_f_minus hr (by decide) (by rfl) (ta_cons (te_var (pv 3)) (ta_cons (te_var (pv 1)) ta_nil)) (fun _ q_ => ⟨(cell, lot), trivial, rfl, q_⟩))))) rfl) (blkOk_by (N := N_f_parts_out_2) (sc := defScope s_f_parts_out_2) (by decide +kernel)) (fun _ _ _ _ _ _ n => (dg_name (pg_name (i := 2) nd rfl (by first | exact Or.inl rfl | exact Or.inr rfl)) (n 2 (by simp)))) (fun _ _ h => h) (fun part h3 _ _ _ _ _ _ => (tts_one (tt_tru (TE.tp (te_var (pv 2))) (by show some (!(List.isEmpty (List.map _ _))) = _; rw [List.isEmpty_map])))) (fun part h3 h4 _ _ _ _ _ _ => (te_var (pv 2))))))) rfl
/-! ### leaned -/
abbrev s_f_leaned : Stmt := top 36
abbrev N_f_leaned : List Str := ["rank", "lot", "front", "cells", "cell"]
theorem sc_f_leaned : FnScope N_f_leaned ["rank", "lot"] (defScope s_f_leaned) := ⟨rfl, rfl, rfl, by decide +kernel, rfl, by decide +kernel, by decide +kernel⟩
def T_f_leaned (C_Rank : Addr) : TF := TFi (fun (i : Rank × (List Int)) => [(e_Rank C_Rank) i.1, (eT eI) i.2]) (fun i => ok_f_leaned i.1 i.2) (fun i => (e_Rank C_Rank) (f_leaned i.1 i.2))
theorem r_f_leaned (B : Env K w mg C_Rank d_TURNS a_TURNS) (m_f_Rank_best : Mth P w K mg base C_Rank "best" 6 (spF K 2 (T_f_Rank_best C_Rank))) (c_f_parts_out : Ca P w K mg base "parts_out" 2 (spFN K 2 (T_f_parts_out C_Rank))) (c_f_parts_in_2 : Ca P w K mg base "parts_in" 2 (spFN K 2 (T_f_parts_in_2 C_Rank))) (c_f_parts_out_2 : Ca P w K mg base "parts_out" 2 (spFN K 2 (T_f_parts_out_2 C_Rank))) (mk_f_Rank__init___2 : Mkr P w K mg base C_Rank 4 (spIn K C_Rank 1 (T_f_Rank__init___2 C_Rank))) {cdv : Value} {A : Around} {outer : List PySem.Env} {s : Shared} {H : Hp} {E : XK} {f : Addr} {Fr : Fm} (hr : Room 6 (A.deeper (envOfC "leaned" (defScope s_f_leaned) s.heap.objs.size f cdv))) (io : Fr.io = []) (rank : Rank) (lot : List Int) (h : ok_f_leaned rank lot) :
    TSs (bcx P w K mg base N_f_leaned "leaned" (defScope s_f_leaned) f cdv A outer s H E) Fr (defBody s_f_leaned) [.dat ((e_Rank C_Rank) rank), .dat ((eT eI) lot), .un, .un, .un] (Rt (e_Rank C_Rank) (f_leaned rank lot)) := by
  have nd := sc_f_leaned.nd
  exact TSs.cast ((tss_ltK (st' := fun (front : List Int) => [.dat ((e_Rank C_Rank) rank), .dat ((eT eI) lot), .dat ((eT eI) front), .un, .un]) (f_Rank_best rank lot) h.2 (ts_set (te_meth m_f_Rank_best hr (by decide) (te_var (pv 0)) (ta_cons (te_var (pv 1)) ta_nil) (fun _ q_ => ⟨(rank, lot), h.1, rfl, q_⟩) (lk_Rank_best _)) (pg_name (i := 2) nd rfl (by first | exact Or.inl rfl | exact Or.inr rfl)) (nio0 io 2))
  (fun front h5 => (tss_ltK (st' := fun (cells : List (List Int)) => [.dat ((e_Rank C_Rank) rank), .dat ((eT eI) lot), .dat ((eT eI) front), .dat ((eL (eT eI)) cells), .un]) [front] h5 (ts_set (TN.te (tn_lst (ta_cons (te_var (pv 2)) ta_nil) (le_sz 1 rfl (by decide)))) (pg_name (i := 3) nd rfl (by first | exact Or.inl rfl | exact Or.inr rfl)) (nio0 io 3))
  (fun cells h4 => (tss_ltK (st' := (fun (cells1 : List (List Int)) => [.dat ((e_Rank C_Rank) rank), .dat ((eT eI) lot), .dat ((eT eI) front), .dat ((eL (eT eI)) cells1), .un])) ((f_parts_out rank.cells front).foldl (fun (cells1 : List (List Int)) (cell : List Int) => let cells2 : List (List Int) := ((cells1 ++ (f_parts_in_2 [cell] lot)) ++ (f_parts_out_2 [cell] lot))
  cells2) cells) h4.2 (ts_fold (g := (gSet 4)) (emi := (eT eI)) (st' := (fun (cells1 : List (List Int)) => [.dat ((e_Rank C_Rank) rank), .dat ((eT eI) lot), .dat ((eT eI) front), .dat ((eL (eT eI)) cells1), .un])) (st1 := (fun (cells1 : List (List Int)) (cell : List Int) => [.dat ((e_Rank C_Rank) rank), .dat ((eT eI) lot), .dat ((eT eI) front), .dat ((eL (eT eI)) cells1), .dat ((eT eI) cell)])) (body := (fun (cells1 : List (List Int)) (cell : List Int) => let cells2 : List (List Int) := ((cells1 ++ (f_parts_in_2 [cell] lot)) ++ (f_parts_out_2 [cell] lot))
  cells2)) (xs := (f_parts_out rank.cells front)) (r0 := cells) PassesOwn.never rfl (ti_seq (ds := List.map (eT eI) (f_parts_out rank.cells front)) (TN.te (tn_call c_f_parts_out hr (by decide) (by rfl) (ta_cons (te_fld B.cl_Rank B.na_Rank_cells (te_var (pv 0)) (lk_Rank_cells _)) (ta_cons (te_var (pv 2)) ta_nil)) (fun _ q_ => ⟨(rank.cells, front), trivial, rfl, q_⟩))) rfl) (dg_name (pg_name (i := 4) nd rfl (by first | exact Or.inl rfl | exact Or.inr rfl)) (nio0 io 4)) (fun _ _ _ h => h) rfl h4.1 (fun cells1 cell h1 => (tss_lt (st' := fun (cells2 : List (List Int)) => [.dat ((e_Rank C_Rank) rank), .dat ((eT eI) lot), .dat ((eT eI) front), .dat ((eL (eT eI)) cells2), .dat ((eT eI) cell)]) ((cells1 ++ (f_parts_in_2 [cell] lot)) ++ (f_parts_out_2 [cell] lot)) (ts_set (TN.te (tn_catL (em := (eT eI)) (TN.tp (tn_catL (em := (eT eI)) (TE.tp (te_var (pv 3))) (TN.tp (tn_call c_f_parts_in_2 hr (by decide) (by rfl) (ta_cons (TN.te (tn_lst (ta_cons (te_var (pv 4)) ta_nil) (le_sz 1 rfl (by decide)))) (ta_cons (te_var (pv 1)) ta_nil)) (fun _ q_ => ⟨([cell], lot), trivial, rfl, q_⟩))) h1.1)) (TN.tp (tn_call c_f_parts_out_2 hr (by decide) (by rfl) (ta_cons (TN.te (tn_lst (ta_cons (te_var (pv 4)) ta_nil) (le_sz 1 rfl (by decide)))) (ta_cons (te_var (pv 1)) ta_nil)) (fun _ q_ => ⟨([cell], lot), trivial, rfl, q_⟩))) h1.2)) (pg_name (i := 3) nd rfl (by first | exact Or.inl rfl | exact Or.inr rfl)) (nio0 io 3))
  (fun cells2 => (tss_unset (vs := [4]) (fun i hi => nio0 io i) (tss_end (fun (cells1 : List (List Int)) => [.dat ((e_Rank C_Rank) rank), .dat ((eT eI) lot), .dat ((eT eI) front), .dat ((eL (eT eI)) cells1), .un]) cells2))) rfl rfl)) fun _ _ h1 h2 => ps_for PassesOwn.never rfl h1 (dg_name (pg_name (i := 4) nd rfl (by first | exact Or.inl rfl | exact Or.inr rfl)) (nio0 io 4)) h2)
  (fun cells1 h3 => (tss_one (ts_retE (e_Rank C_Rank) (f_Rank__init___2 cells1) (te_make mk_f_Rank__init___2 hr (by decide) (by rfl) B.mg_Rank (ta_cons (te_var (pv 3)) ta_nil) (fun _ q_ => ⟨(cells1), h3, rfl, q_⟩))))) rfl rfl)) rfl rfl)) rfl rfl)) rfl
/-! ### unturned -/
abbrev s_f_unturned : Stmt := top 39
abbrev N_f_unturned : List Str := ["rank", "lot"]
theorem sc_f_unturned : FnScope N_f_unturned ["rank", "lot"] (defScope s_f_unturned) := ⟨rfl, rfl, rfl, by decide +kernel, rfl, by decide +kernel, by decide +kernel⟩
def T_f_unturned (C_Rank : Addr) : TF := TFi (fun (i : Rank × (List Int)) => [(e_Rank C_Rank) i.1, (eT eI) i.2]) (fun i => ok_f_unturned i.1 i.2) (fun i => (e_Rank C_Rank) (f_unturned i.1 i.2))
theorem r_f_unturned (B : Env K w mg C_Rank d_TURNS a_TURNS) (k2_f_lot_of : CaK P w K mg base "lot_of" 5 2 ["empty"] (spF K 3 (T_f_lot_of C_Rank))) {cdv : Value} {A : Around} {outer : List PySem.Env} {s : Shared} {H : Hp} {E : XK} {f : Addr} {Fr : Fm} (hr : Room 5 (A.deeper (envOfC "unturned" (defScope s_f_unturned) s.heap.objs.size f cdv))) (io : Fr.io = []) (rank : Rank) (lot : List Int) (h : ok_f_unturned rank lot) :
    TSs (bcx P w K mg base N_f_unturned "unturned" (defScope s_f_unturned) f cdv A outer s H E) Fr (defBody s_f_unturned) [.dat ((e_Rank C_Rank) rank), .dat ((eT eI) lot)] (Rt (e_Rank C_Rank) (f_unturned rank lot)) := by
  have nd := sc_f_unturned.nd
  exact TSs.cast ((tss_cons (ts_expr (te_callK k2_f_lot_of hr (by decide) (by rfl) (ta_cons (te_var (pv 1)) (ta_cons (te_fld B.cl_Rank B.na_Rank_worlds (te_var (pv 0)) (lk_Rank_worlds _)) ta_nil)) (tk_cons te_bl tk_nil) (fun _ q_ => ⟨(lot, rank.worlds, false), h, rfl, q_⟩)))
  (tss_one (ts_retE (e_Rank C_Rank) rank (te_var (pv 0)))))) rfl
def Tt_TURNS (C_Rank : Addr) (z : Str) : TF := TFi (fun (i : Rank × (List Int)) => [(e_Rank C_Rank) i.1, (eT eI) i.2]) (fun i => okt_TURNS z i.1 i.2) (fun i => (e_Rank C_Rank) (t_TURNS z i.1 i.2))
/-! ### turned -/
abbrev s_f_turned : Stmt := top 42
abbrev N_f_turned : List Str := ["rank", "word", "lot", "turn"]
theorem sc_f_turned : FnScope N_f_turned ["rank", "word", "lot"] (defScope s_f_turned) := ⟨rfl, rfl, rfl, by decide +kernel, rfl, by decide +kernel, by decide +kernel⟩
def T_f_turned (C_Rank : Addr) : TF := TFi (fun (i : Rank × Str × (List Int)) => [(e_Rank C_Rank) i.1, eS i.2.1, (eT eI) i.2.2]) (fun i => ok_f_turned i.1 i.2.1 i.2.2) (fun i => (e_Rank C_Rank) (f_turned i.1 i.2.1 i.2.2))
theorem r_f_turned (B : Env K w mg C_Rank d_TURNS a_TURNS) (c_f_check_word : Ca P w K mg base "check_word" 1 (spF K 1 (T_f_check_word C_Rank))) (v_TURNS : ∀ z ∈ tk_TURNS, CaA P w K mg base 8 (a_TURNS z) 2 (Tt_TURNS C_Rank z)) {cdv : Value} {A : Around} {outer : List PySem.Env} {s : Shared} {H : Hp} {E : XK} {f : Addr} {Fr : Fm} (hr : Room 8 (A.deeper (envOfC "turned" (defScope s_f_turned) s.heap.objs.size f cdv))) (io : Fr.io = []) (rank : Rank) (word : Str) (lot : List Int) (h : ok_f_turned rank word lot) :
    TSs (bcx P w K mg base N_f_turned "turned" (defScope s_f_turned) f cdv A outer s H E) Fr (defBody s_f_turned) [.dat ((e_Rank C_Rank) rank), .dat (eS word), .dat ((eT eI) lot), .un] (Rt (e_Rank C_Rank) (f_turned rank word lot)) := by
  have nd := sc_f_turned.nd
  exact TSs.cast ((tss_cons (ts_expr (te_call c_f_check_word hr (by decide) (by rfl) (ta_cons (te_var (pv 1)) ta_nil) (fun _ q_ => ⟨(word), h.1, rfl, q_⟩)))
  (tss_cons (ts_set (te_ixK B.kt_TURNS (TE.tp (te_gref (pe_glob (by rfl) B.mg_TURNS rfl))) (TE.tp (te_var (pv 1))) (kn_TURNS a_TURNS h.2.1)) (pg_name (i := 3) nd rfl (by first | exact Or.inl rfl | exact Or.inr rfl)) (nio0 io 3))
  (tss_one (ts_retE (e_Rank C_Rank) (t_TURNS word rank lot) (te_callV (fs := tk_TURNS.map fun z => (a_TURNS z, Tt_TURNS C_Rank z)) (fun q hq => by obtain ⟨z, hz, rfl⟩ := List.mem_map.mp hq; exact v_TURNS z hz) (hr.mono (by decide)) (pv 3) (ta_cons (te_var (pv 0)) (ta_cons (te_var (pv 2)) ta_nil)) (List.mem_map.mpr ⟨word, h.2.1, rfl⟩) (fun _ q_ => ⟨(rank, lot), h.2.2, rfl, q_⟩))))))) rfl
/-! ### _law_row -/
abbrev s_l_row : Stmt := top 61
abbrev N_l_row : List Str := ["_law_levels", "_law_lots", "_law_rank_here", "_law_ends", "_law_order", "_law_end", "_law_lot_here", "_law_due", "_law_alone"]
theorem sc_l_row : FnScope N_l_row ["_law_levels", "_law_lots"] (defScope s_l_row) := ⟨rfl, rfl, rfl, by decide +kernel, rfl, by decide +kernel, by decide +kernel⟩
def T_l_row (C_Rank : Addr) : TF := TFi (fun (i : (List Int) × (List (List Int))) => [(eL eI) i.1, (eL (eT eI)) i.2]) (fun i => ok_l_row i.1 i.2) (fun i => eB (l_row i.1 i.2))
theorem r_l_row (B : Env K w mg C_Rank d_TURNS a_TURNS) (cm_f_Rank_of_levels : CMt P w K mg base C_Rank "of_levels" 6 (spF K 2 (T_f_Rank_of_levels C_Rank))) (c_f_turned : Ca P w K mg base "turned" 9 (spF K 3 (T_f_turned C_Rank))) (c_l_turn : Ca P w K mg base "_law_turn" 3 (spFN K 3 (T_l_turn C_Rank))) (c_l_held : Ca P w K mg base "_law_held" 1 (spF K 1 (T_l_held C_Rank))) (c_l_cells : Ca P w K mg base "_law_cells" 1 (spF K 1 (T_l_cells C_Rank))) {cdv : Value} {A : Around} {outer : List PySem.Env} {s : Shared} {H : Hp} {E : XK} {f : Addr} {Fr : Fm} (hr : Room 9 (A.deeper (envOfC "_law_row" (defScope s_l_row) s.heap.objs.size f cdv))) (io : Fr.io = []) (levels : List Int) (lots : List (List Int)) (h : ok_l_row levels lots) :
    TSs (bcx P w K mg base N_l_row "_law_row" (defScope s_l_row) f cdv A outer s H E) Fr (defBody s_l_row) [.dat ((eL eI) levels), .dat ((eL (eT eI)) lots), .un, .un, .un, .un, .un, .un, .un] (Rt eB (l_row levels lots)) := by
  have nd := sc_l_row.nd
  exact TSs.cast ((tss_ltK (st' := fun (rank_here : Rank) => [.dat ((eL eI) levels), .dat ((eL (eT eI)) lots), .dat ((e_Rank C_Rank) rank_here), .un, .un, .un, .un, .un, .un]) (f_Rank_of_levels levels) h.2 (ts_set (te_cmeth cm_f_Rank_of_levels hr (by decide) (pe_glob (by rfl) B.mg_Rank rfl) (ta_cons (te_var (pv 0)) ta_nil) (fun _ q_ => ⟨(levels), h.1, rfl, q_⟩)) (pg_name (i := 2) nd rfl (by first | exact Or.inl rfl | exact Or.inr rfl)) (nio0 io 2))
  (fun rank_here h20 => (tss_ltK (st' := fun (ends : List Rank) => [.dat ((eL eI) levels), .dat ((eL (eT eI)) lots), .dat ((e_Rank C_Rank) rank_here), .own (ends.map (e_Rank C_Rank)), .un, .un, .un, .un, .un]) [] h20 (ts_setN (tn_lst ta_nil (le_sz 0 rfl (by decide))) (pg_name (i := 3) nd rfl (by first | exact Or.inl rfl | exact Or.inr rfl)) (nio0 io 3))
  (fun ends h19 => (tss_ltK (st' := (fun (ends1 : List Rank) => [.dat ((eL eI) levels), .dat ((eL (eT eI)) lots), .dat ((e_Rank C_Rank) rank_here), .own (ends1.map (e_Rank C_Rank)), .un, .un, .un, .un, .un])) ([lots, lots.reverse, ((pyCut lots (some 1) none) ++ (pyCut lots none (some 1))), (lots ++ lots)].foldl (fun (ends1 : List Rank) (order : List (List Int)) => let end_ : Rank := rank_here
  let end_1 : Rank := (order.foldl (fun (end_1 : Rank) (lot_here : List Int) => let end_2 : Rank := (f_turned end_1 ("sink" : Str) lot_here)
  end_2) end_)
  let ends2 : List Rank := (ends1 ++ [end_1])
  ends2) ends) h19.2.2.2 (ts_fold (g := (gSet 4)) (emi := (eL (eT eI))) (st' := (fun (ends1 : List Rank) => [.dat ((eL eI) levels), .dat ((eL (eT eI)) lots), .dat ((e_Rank C_Rank) rank_here), .own (ends1.map (e_Rank C_Rank)), .un, .un, .un, .un, .un])) (st1 := (fun (ends1 : List Rank) (order : List (List Int)) => [.dat ((eL eI) levels), .dat ((eL (eT eI)) lots), .dat ((e_Rank C_Rank) rank_here), .own (ends1.map (e_Rank C_Rank)), .dat ((eL (eT eI)) order), .un, .un, .un, .un])) (body := (fun (ends1 : List Rank) (order : List (List Int)) => let end_ : Rank := rank_here
  let end_1 : Rank := (order.foldl (fun (end_1 : Rank) (lot_here : List Int) => let end_2 : Rank := (f_turned end_1 ("sink" : Str) lot_here)
  end_2) end_)
  let ends2 : List Rank := (ends1 ++ [end_1])
  ends2)) (xs := [lots, lots.reverse, ((pyCut lots (some 1) none) ++ (pyCut lots none (some 1))), (lots ++ lots)]) (r0 := ends) PassesOwn.never rfl (ti_seq (ds := List.map (eL (eT eI)) [lots, lots.reverse, ((pyCut lots (some 1) none) ++ (pyCut lots none (some 1))), (lots ++ lots)]) (te_tup (ta_cons (te_var (pv 1)) (ta_cons (TN.te (tn_revL (em := (eT eI)) (TE.tp (te_var (pv 1))))) (ta_cons (TN.te (tn_catL (em := (eT eI)) (TN.tp (tn_slL (em := (eT eI)) (TE.tp (te_var (pv 1))) (to_some te_int) to_none)) (TN.tp (tn_slL (em := (eT eI)) (TE.tp (te_var (pv 1))) to_none (to_some te_int))) h19.1)) (ta_cons (TN.te (tn_catL (em := (eT eI)) (TE.tp (te_var (pv 1))) (TE.tp (te_var (pv 1))) h19.2.1)) ta_nil)))) (le_sz 4 rfl (by decide))) rfl) (dg_name (pg_name (i := 4) nd rfl (by first | exact Or.inl rfl | exact Or.inr rfl)) (nio0 io 4)) (fun _ _ _ h => h) rfl h19.2.2.1 (fun ends1 order h1 => (tss_ltK (st' := fun (end_ : Rank) => [.dat ((eL eI) levels), .dat ((eL (eT eI)) lots), .dat ((e_Rank C_Rank) rank_here), .own (ends1.map (e_Rank C_Rank)), .dat ((eL (eT eI)) order), .dat ((e_Rank C_Rank) end_), .un, .un, .un]) rank_here h1 (ts_set (te_var (pv 2)) (pg_name (i := 5) nd rfl (by first | exact Or.inl rfl | exact Or.inr rfl)) (nio0 io 5))
  (fun end_ h6 => (tss_ltK (st' := (fun (end_1 : Rank) => [.dat ((eL eI) levels), .dat ((eL (eT eI)) lots), .dat ((e_Rank C_Rank) rank_here), .own (ends1.map (e_Rank C_Rank)), .dat ((eL (eT eI)) order), .dat ((e_Rank C_Rank) end_1), .un, .un, .un])) (order.foldl (fun (end_1 : Rank) (lot_here : List Int) => let end_2 : Rank := (f_turned end_1 ("sink" : Str) lot_here)
  end_2) end_) h6.2 (ts_fold (g := (gSet 6)) (emi := (eT eI)) (st' := (fun (end_1 : Rank) => [.dat ((eL eI) levels), .dat ((eL (eT eI)) lots), .dat ((e_Rank C_Rank) rank_here), .own (ends1.map (e_Rank C_Rank)), .dat ((eL (eT eI)) order), .dat ((e_Rank C_Rank) end_1), .un, .un, .un])) (st1 := (fun (end_1 : Rank) (lot_here : List Int) => [.dat ((eL eI) levels), .dat ((eL (eT eI)) lots), .dat ((e_Rank C_Rank) rank_here), .own (ends1.map (e_Rank C_Rank)), .dat ((eL (eT eI)) order), .dat ((e_Rank C_Rank) end_1), .dat ((eT eI) lot_here), .un, .un])) (body := (fun (end_1 : Rank) (lot_here : List Int) => let end_2 : Rank := (f_turned end_1 ("sink" : Str) lot_here)
  end_2)) (xs := order) (r0 := end_) PassesOwn.never rfl (ti_seq (ds := List.map (eT eI) order) (te_var (pv 4)) rfl) (dg_name (pg_name (i := 6) nd rfl (by first | exact Or.inl rfl | exact Or.inr rfl)) (nio0 io 6)) (fun _ _ _ h => h) rfl h6.1 (fun end_1 lot_here h2 => (tss_lt (st' := fun (end_2 : Rank) => [.dat ((eL eI) levels), .dat ((eL (eT eI)) lots), .dat ((e_Rank C_Rank) rank_here), .own (ends1.map (e_Rank C_Rank)), .dat ((eL (eT eI)) order), .dat ((e_Rank C_Rank) end_2), .dat ((eT eI) lot_here), .un, .un]) (f_turned end_1 ("sink" : Str) lot_here) (ts_set (te_call c_f_turned hr (by decide) (by rfl) (ta_cons (te_var (pv 5)) (ta_cons te_str (ta_cons (te_var (pv 6)) ta_nil))) (fun _ q_ => ⟨(end_1, ("sink" : Str), lot_here), h2, rfl, q_⟩)) (pg_name (i := 5) nd rfl (by first | exact Or.inl rfl | exact Or.inr rfl)) (nio0 io 5))
  (fun end_2 => (tss_unset (vs := [6]) (fun i hi => nio0 io i) (tss_end (fun (end_1 : Rank) => [.dat ((eL eI) levels), .dat ((eL (eT eI)) lots), .dat ((e_Rank C_Rank) rank_here), .own (ends1.map (e_Rank C_Rank)), .dat ((eL (eT eI)) order), .dat ((e_Rank C_Rank) end_1), .un, .un, .un]) end_2))) rfl rfl)) fun _ _ h1 h2 => ps_for PassesOwn.never rfl h1 (dg_name (pg_name (i := 6) nd rfl (by first | exact Or.inl rfl | exact Or.inr rfl)) (nio0 io 6)) h2)
  (fun end_1 h5 => (tss_lt (st' := fun (ends2 : List Rank) => [.dat ((eL eI) levels), .dat ((eL (eT eI)) lots), .dat ((e_Rank C_Rank) rank_here), .own (ends2.map (e_Rank C_Rank)), .dat ((eL (eT eI)) order), .dat ((e_Rank C_Rank) end_1), .un, .un, .un]) (ends1 ++ [end_1]) (ts_expr (te_app (em := (e_Rank C_Rank)) (xs := ends1) (x := end_1) (te_var (pv 5)) h5 fun _ h => pe_bm PySem.F.plainAttrs_list PySem.F.slot_list_append PySem.F.type_list_append mt_append (pv 3) h))
  (fun ends2 => (tss_unset (vs := [4, 5]) (fun i hi => nio0 io i) (tss_end (fun (ends1 : List Rank) => [.dat ((eL eI) levels), .dat ((eL (eT eI)) lots), .dat ((e_Rank C_Rank) rank_here), .own (ends1.map (e_Rank C_Rank)), .un, .un, .un, .un, .un]) ends2))) rfl rfl)) rfl rfl)) rfl rfl)) fun _ _ h1 h2 => ps_for PassesOwn.never rfl h1 (dg_name (pg_name (i := 4) nd rfl (by first | exact Or.inl rfl | exact Or.inr rfl)) (nio0 io 4)) h2)
  (fun ends1 h18 => (tss_ltK (st' := fun (due : List Int) => [.dat ((eL eI) levels), .dat ((eL (eT eI)) lots), .dat ((e_Rank C_Rank) rank_here), .own (ends1.map (e_Rank C_Rank)), .un, .un, .un, .dat ((eL eI) due), .un]) levels h18 (ts_set (TN.te (tn_list (em := eI) (by rfl) B.list (TE.tp (te_var (pv 0))) rfl)) (pg_name (i := 7) nd rfl (by first | exact Or.inl rfl | exact Or.inr rfl)) (nio0 io 7))
  (fun due h17 => (tss_ltK (st' := (fun (due1 : List Int) => [.dat ((eL eI) levels), .dat ((eL (eT eI)) lots), .dat ((e_Rank C_Rank) rank_here), .own (ends1.map (e_Rank C_Rank)), .un, .un, .un, .dat ((eL eI) due1), .un])) (lots.foldl (fun (due1 : List Int) (lot_here1 : List Int) => let alone : List Int := (l_turn levels ("sink" : Str) lot_here1)
  let due2 : List Int := (if (decide (((l_held due1).length : Int) < ((l_held alone).length : Int))) = true then (let due3 : List Int := alone
  due3) else (due1))
  due2) due) h17.2 (ts_fold (g := (gSet 6)) (emi := (eT eI)) (st' := (fun (due1 : List Int) => [.dat ((eL eI) levels), .dat ((eL (eT eI)) lots), .dat ((e_Rank C_Rank) rank_here), .own (ends1.map (e_Rank C_Rank)), .un, .un, .un, .dat ((eL eI) due1), .un])) (st1 := (fun (due1 : List Int) (lot_here1 : List Int) => [.dat ((eL eI) levels), .dat ((eL (eT eI)) lots), .dat ((e_Rank C_Rank) rank_here), .own (ends1.map (e_Rank C_Rank)), .un, .un, .dat ((eT eI) lot_here1), .dat ((eL eI) due1), .un])) (body := (fun (due1 : List Int) (lot_here1 : List Int) => let alone : List Int := (l_turn levels ("sink" : Str) lot_here1)
  let due2 : List Int := (if (decide (((l_held due1).length : Int) < ((l_held alone).length : Int))) = true then (let due3 : List Int := alone
  due3) else (due1))
  due2)) (xs := lots) (r0 := due) PassesOwn.never rfl (ti_seq (ds := List.map (eT eI) lots) (te_var (pv 1)) rfl) (dg_name (pg_name (i := 6) nd rfl (by first | exact Or.inl rfl | exact Or.inr rfl)) (nio0 io 6)) (fun _ _ _ h => h) rfl h17.1 (fun due1 lot_here1 h7 => (tss_ltK (st' := fun (alone : List Int) => [.dat ((eL eI) levels), .dat ((eL (eT eI)) lots), .dat ((e_Rank C_Rank) rank_here), .own (ends1.map (e_Rank C_Rank)), .un, .un, .dat ((eT eI) lot_here1), .dat ((eL eI) due1), .dat ((eL eI) alone)]) (l_turn levels ("sink" : Str) lot_here1) h7.2 (ts_set (TN.te (tn_call c_l_turn hr (by decide) (by rfl) (ta_cons (te_var (pv 0)) (ta_cons te_str (ta_cons (te_var (pv 6)) ta_nil))) (fun _ q_ => ⟨(levels, ("sink" : Str), lot_here1), h7.1, rfl, q_⟩))) (pg_name (i := 8) nd rfl (by first | exact Or.inl rfl | exact Or.inr rfl)) (nio0 io 8))
  (fun alone h11 => (tss_lt (st' := (fun (due2 : List Int) => [.dat ((eL eI) levels), .dat ((eL (eT eI)) lots), .dat ((e_Rank C_Rank) rank_here), .own (ends1.map (e_Rank C_Rank)), .un, .un, .dat ((eT eI) lot_here1), .dat ((eL eI) due2), .dat ((eL eI) alone)])) (if (decide (((l_held due1).length : Int) < ((l_held alone).length : Int))) = true then (let due3 : List Int := alone
  due3) else (due1)) (ts_ifJ (st' := (fun (due2 : List Int) => [.dat ((eL eI) levels), .dat ((eL (eT eI)) lots), .dat ((e_Rank C_Rank) rank_here), .own (ends1.map (e_Rank C_Rank)), .un, .un, .dat ((eT eI) lot_here1), .dat ((eL eI) due2), .dat ((eL eI) alone)])) (tt_gt (te_len (em := eI) (by rfl) B.len (TE.tp (te_call c_l_held hr (by decide) (by rfl) (ta_cons (te_var (pv 8)) ta_nil) (fun _ q_ => ⟨(alone), h11.1, rfl, q_⟩))) rfl) (TE.tp (te_len (em := eI) (by rfl) B.len (TE.tp (te_call c_l_held hr (by decide) (by rfl) (ta_cons (te_var (pv 7)) ta_nil) (fun _ q_ => ⟨(due1), h11.2, rfl, q_⟩))) rfl))) (fun h8 => (tss_lt (st' := fun (due3 : List Int) => [.dat ((eL eI) levels), .dat ((eL (eT eI)) lots), .dat ((e_Rank C_Rank) rank_here), .own (ends1.map (e_Rank C_Rank)), .un, .un, .dat ((eT eI) lot_here1), .dat ((eL eI) due3), .dat ((eL eI) alone)]) alone (ts_set (te_var (pv 8)) (pg_name (i := 7) nd rfl (by first | exact Or.inl rfl | exact Or.inr rfl)) (nio0 io 7))
  (fun due3 => (tss_end (fun (due2 : List Int) => [.dat ((eL eI) levels), .dat ((eL (eT eI)) lots), .dat ((e_Rank C_Rank) rank_here), .own (ends1.map (e_Rank C_Rank)), .un, .un, .dat ((eT eI) lot_here1), .dat ((eL eI) due2), .dat ((eL eI) alone)]) due3)) rfl rfl)) (fun h8 => (tss_end (fun (due2 : List Int) => [.dat ((eL eI) levels), .dat ((eL (eT eI)) lots), .dat ((e_Rank C_Rank) rank_here), .own (ends1.map (e_Rank C_Rank)), .un, .un, .dat ((eT eI) lot_here1), .dat ((eL eI) due2), .dat ((eL eI) alone)]) due1)))
  (fun due2 => (tss_unset (vs := [6, 8]) (fun i hi => nio0 io i) (tss_end (fun (due1 : List Int) => [.dat ((eL eI) levels), .dat ((eL (eT eI)) lots), .dat ((e_Rank C_Rank) rank_here), .own (ends1.map (e_Rank C_Rank)), .un, .un, .un, .dat ((eL eI) due1), .un]) due2))) rfl rfl)) rfl rfl)) fun _ _ h1 h2 => ps_for PassesOwn.never rfl h1 (dg_name (pg_name (i := 6) nd rfl (by first | exact Or.inl rfl | exact Or.inr rfl)) (nio0 io 6)) h2)
  (fun due1 h16 => (tss_el (st' := (fun (r : Unit) => [.dat ((eL eI) levels), .dat ((eL (eT eI)) lots), .dat ((e_Rank C_Rank) rank_here), .dat ((eL (e_Rank C_Rank)) ends1), .un, .un, .un, .dat ((eL eI) due1), .un])) (rt := (Rt eB)) (okR := fun _ => True) (rt_ex eB) (bdR_true _) (ts_for (g := (gSet 5)) (emi := (e_Rank C_Rank)) (st' := (fun (r : Unit) => [.dat ((eL eI) levels), .dat ((eL (eT eI)) lots), .dat ((e_Rank C_Rank) rank_here), .dat ((eL (e_Rank C_Rank)) ends1), .un, .un, .un, .dat ((eL eI) due1), .un])) (st1 := (fun (r : Unit) (end_3 : Rank) => [.dat ((eL eI) levels), .dat ((eL (eT eI)) lots), .dat ((e_Rank C_Rank) rank_here), .dat ((eL (e_Rank C_Rank)) ends1), .un, .dat ((e_Rank C_Rank) end_3), .un, .dat ((eL eI) due1), .un])) (rt := (Rt eB)) (body := (fun (r : Unit) (end_3 : Rank) => (if ((!true) || (!decide (end_3.cells = (l_cells due1)))) = true then .ret false else
  .next () : Fl Unit Bool))) (xs := ends1) (r0 := ()) PassesOwn.never rfl (rt_ex eB) (rt_st eB) (ti_seq (ds := List.map (e_Rank C_Rank) ends1) (te_frz (pv 3) (nio0 io 3)) rfl) (dg_name (pg_name (i := 5) nd rfl (by first | exact Or.inl rfl | exact Or.inr rfl)) (nio0 io 5)) (fun _ _ _ h => h) rfl h16 (fun r end_3 h12 => (tss_ifX (rt := (Fl.oc (fun (r : Unit) => [.dat ((eL eI) levels), .dat ((eL (eT eI)) lots), .dat ((e_Rank C_Rank) rank_here), .dat ((eL (e_Rank C_Rank)) ends1), .un, .un, .un, .dat ((eL eI) due1), .un]) (Rt eB))) (tt_w (tw_or (tt_not (tt_val (te_isC B.ic_Rank (by rfl) B.isinstance (te_var (pv 5)) (pe_glob (by rfl) B.mg_Rank rfl)))) (fun h13 => (tw_or1 (tt_ne (pyT (pyT pyI)) hr.units (TE.tp (te_fld B.cl_Rank B.na_Rank_cells (te_var (pv 5)) (lk_Rank_cells _))) (TE.tp (te_call c_l_cells hr (by decide) (by rfl) (ta_cons (te_var (pv 7)) ta_nil) (fun _ q_ => ⟨(due1), (h12 h13), rfl, q_⟩)))))))) (by (repeat' split) <;> exact True.intro) (fun h14 => (tss_one (ts_retF (fun (r : Unit) => [.dat ((eL eI) levels), .dat ((eL (eT eI)) lots), .dat ((e_Rank C_Rank) rank_here), .dat ((eL (e_Rank C_Rank)) ends1), .un, .un, .un, .dat ((eL eI) due1), .un]) false (ts_retE eB false te_bl))))
  (fun h14 => (tss_unset (vs := [5]) (fun i hi => nio0 io i) (tss_endF (fun (r : Unit) => [.dat ((eL eI) levels), .dat ((eL (eT eI)) lots), .dat ((e_Rank C_Rank) rank_here), .dat ((eL (e_Rank C_Rank)) ends1), .un, .un, .un, .dat ((eL eI) due1), .un]) (Rt eB) ()))))) fun _ _ h1 h2 => ps_for PassesOwn.never rfl h1 (dg_name (pg_name (i := 5) nd rfl (by first | exact Or.inl rfl | exact Or.inr rfl)) (nio0 io 5)) h2)
  (fun r h15 => (tss_one (ts_retE eB true te_bl))))) rfl rfl)) rfl rfl)) rfl rfl)) rfl rfl)) rfl rfl)) rfl
/-! ### law -/
abbrev s_l_law : Stmt := top 62
abbrev N_l_law : List Str := ["_law_script", "_law_draws_here", "_law_worlds", "_law_levels", "_law_world", "_law_one", "_law_other", "_law_lots", "_law_turn_here", "_law_lot_here"]
theorem sc_l_law : FnScope N_l_law ["_law_script"] (defScope s_l_law) := ⟨rfl, rfl, rfl, by decide +kernel, rfl, by decide +kernel, by decide +kernel⟩
def T_l_law (C_Rank : Addr) : TF := TFi (fun (i : List Int) => [(eR eI) i]) (fun i => ok_l_law i) (fun i => eB (l_law i))
theorem r_l_law (B : Env K w mg C_Rank d_TURNS a_TURNS) (c_l_draws : Ca P w K mg base "_law_draws" 1 (spFN K 1 (T_l_draws C_Rank))) (c_l_take : Ca P w K mg base "_law_take" 1 (spIO K 2 (T_l_take C_Rank))) (c_l_rank : Ca P w K mg base "_law_rank" 2 (spIO K 2 (T_l_rank C_Rank))) (c_l_dense : Ca P w K mg base "_law_dense" 1 (spFN K 1 (T_l_dense C_Rank))) (c_l_around : Ca P w K mg base "_law_around" 3 (spIO K 2 (T_l_around C_Rank))) (c_l_two_levels : Ca P w K mg base "_law_two_levels" 9 (spF K 3 (T_l_two_levels C_Rank))) (c_l_one_lot : Ca P w K mg base "_law_one_lot" 9 (spF K 2 (T_l_one_lot C_Rank))) (c_l_short : Ca P w K mg base "_law_short" 3 (spIO K 2 (T_l_short C_Rank))) (c_l_held : Ca P w K mg base "_law_held" 1 (spF K 1 (T_l_held C_Rank))) (c_l_plus : Ca P w K mg base "_law_plus" 1 (spF K 2 (T_l_plus C_Rank))) (c_l_row : Ca P w K mg base "_law_row" 10 (spF K 2 (T_l_row C_Rank))) {cdv : Value} {A : Around} {outer : List PySem.Env} {s : Shared} {H : Hp} {E : XK} {f : Addr} {Fr : Fm} (hr : Room 10 (A.deeper (envOfC "law" (defScope s_l_law) s.heap.objs.size f cdv))) (io : Fr.io = []) (script : List Int) (h : ok_l_law script) :
    TSs (bcx P w K mg base N_l_law "law" (defScope s_l_law) f cdv A outer s H E) Fr (defBody s_l_law) [.dat ((eR eI) script), .un, .un, .un, .un, .un, .un, .un, .un, .un] (Rt eB (l_law script)) := by
  have nd := sc_l_law.nd
  exact TSs.cast ((tss_ltK (st' := fun (draws_here : List Int) => [.dat ((eR eI) script), .own (draws_here.map eI), .un, .un, .un, .un, .un, .un, .un, .un]) (l_draws script) h.2 (ts_setN (tn_call c_l_draws hr (by decide) (by rfl) (ta_cons (te_var (pv 0)) ta_nil) (fun _ q_ => ⟨(script), h.1, rfl, q_⟩)) (pg_name (i := 1) nd rfl (by first | exact Or.inl rfl | exact Or.inr rfl)) (nio0 io 1))
  (fun draws_here h28 => (tss_ltK (st' := fun (v : Int × (List Int)) => [.dat ((eR eI) script), .own (v.2.map eI), .dat (eI v.1), .un, .un, .un, .un, .un, .un, .un]) ((pyIx [4, 3, 5, 2, 6, 1, 4, 3] ((l_take draws_here 8).1)), (l_take draws_here 8).2) h28.2.2 (ts_set (te_ixE (em := eI) (TN.te (tn_lst (ta_cons te_int (ta_cons te_int (ta_cons te_int (ta_cons te_int (ta_cons te_int (ta_cons te_int (ta_cons te_int (ta_cons te_int ta_nil)))))))) (le_sz 8 rfl (by decide)))) rfl (TE.tp (te_callIO (i := 1) c_l_take hr (by decide) (by rfl) (pv 1) (ta_cons te_int ta_nil) rfl (fun _ q_ => ⟨(draws_here, 8), h28.1, rfl, rfl, q_⟩))) h28.2.1) (pg_name (i := 2) nd rfl (by first | exact Or.inl rfl | exact Or.inr rfl)) (nio0 io 2))
  (fun v h27 => (tss_ltK (st' := fun (v1 : (List Int) × (List Int)) => [.dat ((eR eI) script), .own (v1.2.map eI), .dat (eI v.1), .dat ((eL eI) v1.1), .un, .un, .un, .un, .un, .un]) ((l_rank v.2 v.1).1, (l_rank v.2 v.1).2) h27.2 (ts_set (te_callIO (i := 1) c_l_rank hr (by decide) (by rfl) (pv 1) (ta_cons (te_var (pv 2)) ta_nil) rfl (fun _ q_ => ⟨(v.2, v.1), h27.1, rfl, rfl, q_⟩)) (pg_name (i := 3) nd rfl (by first | exact Or.inl rfl | exact Or.inr rfl)) (nio0 io 3))
  (fun v1 h26 => (tss_ltK (st' := (fun (levels : List Int) => [.dat ((eR eI) script), .own ((if (decide ((maxL v1.1) = 0)) = true then (if (decide (1 < v.1)) = true then (l_take v1.2 4).2 else v1.2) else v1.2).map eI), .dat (eI v.1), .dat ((eL eI) levels), .un, .un, .un, .un, .un, .un])) (if (decide ((maxL v1.1) = 0) && (decide (1 < v.1) && decide ((l_take v1.2 4).1 < 3))) = true then (let levels1 : List Int := (l_dense ((rng 0 v.1).map (fun (world : Int) => world)))
  levels1) else (v1.1)) h26.2.2.2 (ts_ifJ (st' := (fun (levels : List Int) => [.dat ((eR eI) script), .own ((if (decide ((maxL v1.1) = 0)) = true then (if (decide (1 < v.1)) = true then (l_take v1.2 4).2 else v1.2) else v1.2).map eI), .dat (eI v.1), .dat ((eL eI) levels), .un, .un, .un, .un, .un, .un])) (tt_w (tw_and (tt_eq pyI hr.units (TE.tp (te_max (by rfl) (by rfl) B.max (TE.tp (te_var (pv 3))) h26.1)) (TE.tp te_int)) (fun h1 => (tw_and (tt_gt (te_var (pv 2)) (TE.tp te_int)) (fun h2 => (tw_and1 (tt_lt (te_callIO (i := 1) c_l_take hr (by decide) (by rfl) (pv 1) (ta_cons te_int ta_nil) rfl (fun _ q_ => ⟨(v1.2, 4), ((h26.2.1 h1) h2), rfl, rfl, q_⟩)) (TE.tp te_int)))) (δ3 := [.dat ((eR eI) script), .own ((if (decide (1 < v.1)) = true then (l_take v1.2 4).2 else v1.2).map eI), .dat (eI v.1), .dat ((eL eI) v1.1), .un, .un, .un, .un, .un, .un]) (fun hq => by simp only [hq]; rfl) (fun hq => by simp only [hq]; rfl))) (δ3 := [.dat ((eR eI) script), .own ((if (decide ((maxL v1.1) = 0)) = true then (if (decide (1 < v.1)) = true then (l_take v1.2 4).2 else v1.2) else v1.2).map eI), .dat (eI v.1), .dat ((eL eI) v1.1), .un, .un, .un, .un, .un, .un]) (fun hq => by simp only [hq]; rfl) (fun hq => by simp only [hq]; rfl))) (fun h3 => (tss_lt (st' := fun (levels1 : List Int) => [.dat ((eR eI) script), .own ((if (decide ((maxL v1.1) = 0)) = true then (if (decide (1 < v.1)) = true then (l_take v1.2 4).2 else v1.2) else v1.2).map eI), .dat (eI v.1), .dat ((eL eI) levels1), .un, .un, .un, .un, .un, .un]) (l_dense ((rng 0 v.1).map (fun (world : Int) => world))) (ts_set (TN.te (tn_call c_l_dense hr (by decide) (by rfl) (ta_cons (TN.te (tn_lc0 (δ2 := [.dat ((eR eI) script), .own ((if (decide ((maxL v1.1) = 0)) = true then (if (decide (1 < v.1)) = true then (l_take v1.2 4).2 else v1.2) else v1.2).map eI), .dat (eI v.1), .dat ((eL eI) v1.1), .un, .un, .un, .un, .un, .un]) (own := [("_law_world", 4)]) (g := (gSet 4)) (emi := eI) (emo := eI) (xs := (rng 0 v.1)) (sx := fun (world : Int) => [.dat ((eR eI) script), .own ((if (decide ((maxL v1.1) = 0)) = true then (if (decide (1 < v.1)) = true then (l_take v1.2 4).2 else v1.2) else v1.2).map eI), .dat (eI v.1), .dat ((eL eI) v1.1), .dat (eI world), .un, .un, .un, .un, .un]) (f := fun (world : Int) => world)  rfl nd (ti_range1 (by rfl) B.range (te_var (pv 2)) (h26.2.2.1 h3).1) (blkOk_by (N := N_l_law) (sc := defScope s_l_law) (by decide +kernel)) (fun _ _ _ _ _ _ n => (dg_name (pg_name (i := 4) nd rfl (by first | exact Or.inl rfl | exact Or.inr rfl)) (n 4 (by simp)))) (fun _ _ h => h) (fun world h4 _ _ _ _ _ _ => (te_var (pv 4))))) ta_nil) (fun _ q_ => ⟨(((rng 0 v.1).map (fun (world : Int) => world))), (h26.2.2.1 h3).2, rfl, q_⟩))) (pg_name (i := 3) nd rfl (by first | exact Or.inl rfl | exact Or.inr rfl)) (nio0 io 3))
  (fun levels1 => (tss_end (fun (levels : List Int) => [.dat ((eR eI) script), .own ((if (decide ((maxL v1.1) = 0)) = true then (if (decide (1 < v.1)) = true then (l_take v1.2 4).2 else v1.2) else v1.2).map eI), .dat (eI v.1), .dat ((eL eI) levels), .un, .un, .un, .un, .un, .un]) levels1)) rfl rfl)) (fun h3 => (tss_end (fun (levels : List Int) => [.dat ((eR eI) script), .own ((if (decide ((maxL v1.1) = 0)) = true then (if (decide (1 < v.1)) = true then (l_take v1.2 4).2 else v1.2) else v1.2).map eI), .dat (eI v.1), .dat ((eL eI) levels), .un, .un, .un, .un, .un, .un]) v1.1)))
  (fun levels h25 => (tss_el (st' := (fun (draws_here1 : List Int) => [.dat ((eR eI) script), .own (draws_here1.map eI), .dat (eI v.1), .dat ((eL eI) levels), .un, .un, .un, .un, .un, .un])) (rt := (Rt eB)) (rt_ex eB) h25.2.2 (ts_ifR (rt := Rs.oc (fun (draws_here1 : List Int) => [.dat ((eR eI) script), .own (draws_here1.map eI), .dat (eI v.1), .dat ((eL eI) levels), .un, .un, .un, .un, .un, .un]) (Rt eB)) (tt_gt (te_max (by rfl) (by rfl) B.max (TE.tp (te_var (pv 3))) h25.1) (TE.tp te_int)) (fun h7 => (tss_ltK (st' := fun (v2 : (List Int) × (List Int)) => [.dat ((eR eI) script), .own (v2.2.map eI), .dat (eI v.1), .dat ((eL eI) levels), .un, .dat ((eT eI) v2.1), .un, .un, .un, .un]) ((l_around (if (decide ((maxL v1.1) = 0)) = true then (if (decide (1 < v.1)) = true then (l_take v1.2 4).2 else v1.2) else v1.2) levels).1, (l_around (if (decide ((maxL v1.1) = 0)) = true then (if (decide (1 < v.1)) = true then (l_take v1.2 4).2 else v1.2) else v1.2) levels).2) (h25.2.1 h7).2 (ts_set (te_callIO (i := 1) c_l_around hr (by decide) (by rfl) (pv 1) (ta_cons (te_var (pv 3)) ta_nil) rfl (fun _ q_ => ⟨((if (decide ((maxL v1.1) = 0)) = true then (if (decide (1 < v.1)) = true then (l_take v1.2 4).2 else v1.2) else v1.2), levels), (h25.2.1 h7).1, rfl, rfl, q_⟩)) (pg_name (i := 5) nd rfl (by first | exact Or.inl rfl | exact Or.inr rfl)) (nio0 io 5))
  (fun v2 h12 => (tss_ltK (st' := fun (v3 : (List Int) × (List Int)) => [.dat ((eR eI) script), .own (v3.2.map eI), .dat (eI v.1), .dat ((eL eI) levels), .un, .dat ((eT eI) v2.1), .dat ((eT eI) v3.1), .un, .un, .un]) ((l_around v2.2 levels).1, (l_around v2.2 levels).2) h12.2 (ts_set (te_callIO (i := 1) c_l_around hr (by decide) (by rfl) (pv 1) (ta_cons (te_var (pv 3)) ta_nil) rfl (fun _ q_ => ⟨(v2.2, levels), h12.1, rfl, rfl, q_⟩)) (pg_name (i := 6) nd rfl (by first | exact Or.inl rfl | exact Or.inr rfl)) (nio0 io 6))
  (fun v3 h11 => (tss_ifX (rt := (Rs.oc (fun (draws_here1 : List Int) => [.dat ((eR eI) script), .own (draws_here1.map eI), .dat (eI v.1), .dat ((eL eI) levels), .un, .un, .un, .un, .un, .un]) (Rt eB))) (tt_w (tw_or (tt_not (tt_val (te_call c_l_two_levels hr (by decide) (by rfl) (ta_cons (te_var (pv 3)) (ta_cons (te_var (pv 5)) (ta_cons (te_var (pv 6)) ta_nil))) (fun _ q_ => ⟨(levels, v2.1, v3.1), h11.1, rfl, q_⟩)))) (fun h8 => (tw_or1 (tt_not (tt_val (te_call c_l_two_levels hr (by decide) (by rfl) (ta_cons (te_var (pv 3)) (ta_cons (te_var (pv 6)) (ta_cons (te_var (pv 5)) ta_nil))) (fun _ q_ => ⟨(levels, v3.1, v2.1), (h11.2.1 h8), rfl, q_⟩)))))))) (by (repeat' split) <;> exact True.intro) (fun h9 => (tss_one (ts_retR (fun (draws_here1 : List Int) => [.dat ((eR eI) script), .own (draws_here1.map eI), .dat (eI v.1), .dat ((eL eI) levels), .un, .un, .un, .un, .un, .un]) false (ts_retE eB false te_bl))))
  (fun h9 => (tss_ifX (rt := (Rs.oc (fun (draws_here1 : List Int) => [.dat ((eR eI) script), .own (draws_here1.map eI), .dat (eI v.1), .dat ((eL eI) levels), .un, .un, .un, .un, .un, .un]) (Rt eB))) (tt_not (tt_val (te_call c_l_one_lot hr (by decide) (by rfl) (ta_cons (te_var (pv 3)) (ta_cons (te_var (pv 5)) ta_nil)) (fun _ q_ => ⟨(levels, v2.1), (h11.2.2 h9), rfl, q_⟩)))) (by (repeat' split) <;> exact True.intro) (fun h10 => (tss_one (ts_retR (fun (draws_here1 : List Int) => [.dat ((eR eI) script), .own (draws_here1.map eI), .dat (eI v.1), .dat ((eL eI) levels), .un, .un, .un, .un, .un, .un]) false (ts_retE eB false te_bl))))
  (fun h10 => (tss_unset (vs := [5, 6]) (fun i hi => nio0 io i) (tss_endR (fun (draws_here1 : List Int) => [.dat ((eR eI) script), .own (draws_here1.map eI), .dat (eI v.1), .dat ((eL eI) levels), .un, .un, .un, .un, .un, .un]) (Rt eB) v3.2))))))) rfl rfl)) rfl rfl)) (fun h7 => (tss_endR (fun (draws_here1 : List Int) => [.dat ((eR eI) script), .own (draws_here1.map eI), .dat (eI v.1), .dat ((eL eI) levels), .un, .un, .un, .un, .un, .un]) (Rt eB) (if (decide ((maxL v1.1) = 0)) = true then (if (decide (1 < v.1)) = true then (l_take v1.2 4).2 else v1.2) else v1.2))))
  (fun draws_here1 h24 => (tss_ltK (st' := fun (lots : List (List Int)) => [.dat ((eR eI) script), .own (draws_here1.map eI), .dat (eI v.1), .dat ((eL eI) levels), .un, .un, .un, .own (lots.map (eT eI)), .un, .un]) [] h24 (ts_setN (tn_lst ta_nil (le_sz 0 rfl (by decide))) (pg_name (i := 7) nd rfl (by first | exact Or.inl rfl | exact Or.inr rfl)) (nio0 io 7))
  (fun lots h23 => (tss_el (st' := (fun (r : (List Int) × (List (List Int))) => [.dat ((eR eI) script), .own (r.1.map eI), .dat (eI v.1), .dat ((eL eI) levels), .un, .un, .un, .own (r.2.map (eT eI)), .un, .un])) (rt := (Rt eB)) (rt_ex eB) h23.2.2.2 (ts_for (g := (gSet 8)) (emi := eI) (st' := (fun (r : (List Int) × (List (List Int))) => [.dat ((eR eI) script), .own (r.1.map eI), .dat (eI v.1), .dat ((eL eI) levels), .un, .un, .un, .own (r.2.map (eT eI)), .un, .un])) (st1 := (fun (r : (List Int) × (List (List Int))) (turn_here : Int) => [.dat ((eR eI) script), .own (r.1.map eI), .dat (eI v.1), .dat ((eL eI) levels), .un, .un, .un, .own (r.2.map (eT eI)), .dat (eI turn_here), .un])) (rt := (Rt eB)) (body := (fun (r : (List Int) × (List (List Int))) (turn_here : Int) => (let v4 : (List Int) × (List Int) := ((l_short r.1 v.1).1, (l_short r.1 v.1).2)
  let lot_here : List Int := (if (decide ((l_take v4.2 3).1 < 2)) = true then (let lot_here1 : List Int := ((l_plus v4.1 (l_held levels)).filter (fun (world1 : Int) => (!decide (world1 = (v.1 - 1)))))
  lot_here1) else (v4.1))
  let lots1 : List (List Int) := (r.2 ++ [lot_here])
  if (!(l_one_lot levels lot_here)) = true then .ret false else
  .next ((l_take v4.2 3).2, lots1) : Fl ((List Int) × (List (List Int))) Bool))) (xs := (rng 0 (1 + (l_take draws_here1 4).1))) (r0 := ((l_take draws_here1 4).2, lots)) PassesOwn.never rfl (rt_ex eB) (rt_st eB) (ti_range1 (by rfl) B.range (te_add te_int (TE.tp (te_callIO (i := 1) c_l_take hr (by decide) (by rfl) (pv 1) (ta_cons te_int ta_nil) rfl (fun _ q_ => ⟨(draws_here1, 4), h23.1, rfl, rfl, q_⟩)))) h23.2.1) (dg_name (pg_name (i := 8) nd rfl (by first | exact Or.inl rfl | exact Or.inr rfl)) (nio0 io 8)) (fun _ _ _ h => h) rfl h23.2.2.1 (fun r turn_here h13 => (tss_ltK (st' := fun (v4 : (List Int) × (List Int)) => [.dat ((eR eI) script), .own (v4.2.map eI), .dat (eI v.1), .dat ((eL eI) levels), .un, .un, .un, .own (r.2.map (eT eI)), .dat (eI turn_here), .dat ((eT eI) v4.1)]) ((l_short r.1 v.1).1, (l_short r.1 v.1).2) h13.2 (ts_set (te_callIO (i := 1) c_l_short hr (by decide) (by rfl) (pv 1) (ta_cons (te_var (pv 2)) ta_nil) rfl (fun _ q_ => ⟨(r.1, v.1), h13.1, rfl, rfl, q_⟩)) (pg_name (i := 9) nd rfl (by first | exact Or.inl rfl | exact Or.inr rfl)) (nio0 io 9))
  (fun v4 h21 => (tss_ltK (st' := (fun (lot_here : List Int) => [.dat ((eR eI) script), .own (((l_take v4.2 3).2).map eI), .dat (eI v.1), .dat ((eL eI) levels), .un, .un, .un, .own (r.2.map (eT eI)), .dat (eI turn_here), .dat ((eT eI) lot_here)])) (if (decide ((l_take v4.2 3).1 < 2)) = true then (let lot_here1 : List Int := ((l_plus v4.1 (l_held levels)).filter (fun (world1 : Int) => (!decide (world1 = (v.1 - 1)))))
  lot_here1) else (v4.1)) h21.2.2 (ts_ifJ (st' := (fun (lot_here : List Int) => [.dat ((eR eI) script), .own (((l_take v4.2 3).2).map eI), .dat (eI v.1), .dat ((eL eI) levels), .un, .un, .un, .own (r.2.map (eT eI)), .dat (eI turn_here), .dat ((eT eI) lot_here)])) (tt_lt (te_callIO (i := 1) c_l_take hr (by decide) (by rfl) (pv 1) (ta_cons te_int ta_nil) rfl (fun _ q_ => ⟨(v4.2, 3), h21.1, rfl, rfl, q_⟩)) (TE.tp te_int)) (fun h14 => (tss_lt (st' := fun (lot_here1 : List Int) => [.dat ((eR eI) script), .own (((l_take v4.2 3).2).map eI), .dat (eI v.1), .dat ((eL eI) levels), .un, .un, .un, .own (r.2.map (eT eI)), .dat (eI turn_here), .dat ((eT eI) lot_here1)]) ((l_plus v4.1 (l_held levels)).filter (fun (world1 : Int) => (!decide (world1 = (v.1 - 1))))) (ts_set (te_tuple (em := eI) (by rfl) B.tuple (TN.tp (tn_lcf (δ2 := [.dat ((eR eI) script), .own (((l_take v4.2 3).2).map eI), .dat (eI v.1), .dat ((eL eI) levels), .un, .un, .un, .own (r.2.map (eT eI)), .dat (eI turn_here), .dat ((eT eI) v4.1)]) (own := [("_law_world", 4)]) (g := (gSet 4)) (emi := eI) (emx := eI) (xs := (l_plus v4.1 (l_held levels))) (sx := fun (world1 : Int) => [.dat ((eR eI) script), .own (((l_take v4.2 3).2).map eI), .dat (eI v.1), .dat ((eL eI) levels), .dat (eI world1), .un, .un, .own (r.2.map (eT eI)), .dat (eI turn_here), .dat ((eT eI) v4.1)]) (t := fun (world1 : Int) => (!decide (world1 = (v.1 - 1))))  rfl nd (ti_seq (ds := List.map eI (l_plus v4.1 (l_held levels))) (te_call c_l_plus hr (by decide) (by rfl) (ta_cons (te_var (pv 9)) (ta_cons (te_call c_l_held hr (by decide) (by rfl) (ta_cons (te_var (pv 3)) ta_nil) (fun _ q_ => ⟨(levels), (h21.2.1 h14).1, rfl, q_⟩)) ta_nil)) (fun _ q_ => ⟨(v4.1, (l_held levels)), (h21.2.1 h14).2, rfl, q_⟩)) rfl) (blkOk_by (N := N_l_law) (sc := defScope s_l_law) (by decide +kernel)) (fun _ _ _ _ _ _ n => (dg_name (pg_name (i := 4) nd rfl (by first | exact Or.inl rfl | exact Or.inr rfl)) (n 4 (by simp)))) (fun _ _ h => h) (fun world1 h15 _ _ _ _ _ _ => (tts_one (tt_ne pyI hr.units (TE.tp (te_var (pv 4))) (TE.tp (te_sub (te_var (pv 2)) (TE.tp te_int)))))) (fun world1 h15 h16 _ _ _ _ _ _ => (te_var (pv 4))))) rfl) (pg_name (i := 9) nd rfl (by first | exact Or.inl rfl | exact Or.inr rfl)) (nio0 io 9))
  (fun lot_here1 => (tss_end (fun (lot_here : List Int) => [.dat ((eR eI) script), .own (((l_take v4.2 3).2).map eI), .dat (eI v.1), .dat ((eL eI) levels), .un, .un, .un, .own (r.2.map (eT eI)), .dat (eI turn_here), .dat ((eT eI) lot_here)]) lot_here1)) rfl rfl)) (fun h14 => (tss_end (fun (lot_here : List Int) => [.dat ((eR eI) script), .own (((l_take v4.2 3).2).map eI), .dat (eI v.1), .dat ((eL eI) levels), .un, .un, .un, .own (r.2.map (eT eI)), .dat (eI turn_here), .dat ((eT eI) lot_here)]) v4.1)))
  (fun lot_here h20 => (tss_ltK (st' := fun (lots1 : List (List Int)) => [.dat ((eR eI) script), .own (((l_take v4.2 3).2).map eI), .dat (eI v.1), .dat ((eL eI) levels), .un, .un, .un, .own (lots1.map (eT eI)), .dat (eI turn_here), .dat ((eT eI) lot_here)]) (r.2 ++ [lot_here]) h20.2 (ts_expr (te_app (em := (eT eI)) (xs := r.2) (x := lot_here) (te_var (pv 9)) h20.1 fun _ h => pe_bm PySem.F.plainAttrs_list PySem.F.slot_list_append PySem.F.type_list_append mt_append (pv 7) h))
  (fun lots1 h19 => (tss_ifX (rt := (Fl.oc (fun (r : (List Int) × (List (List Int))) => [.dat ((eR eI) script), .own (r.1.map eI), .dat (eI v.1), .dat ((eL eI) levels), .un, .un, .un, .own (r.2.map (eT eI)), .un, .un]) (Rt eB))) (tt_not (tt_val (te_call c_l_one_lot hr (by decide) (by rfl) (ta_cons (te_var (pv 3)) (ta_cons (te_var (pv 9)) ta_nil)) (fun _ q_ => ⟨(levels, lot_here), h19, rfl, q_⟩)))) (by (repeat' split) <;> exact True.intro) (fun h18 => (tss_one (ts_retF (fun (r : (List Int) × (List (List Int))) => [.dat ((eR eI) script), .own (r.1.map eI), .dat (eI v.1), .dat ((eL eI) levels), .un, .un, .un, .own (r.2.map (eT eI)), .un, .un]) false (ts_retE eB false te_bl))))
  (fun h18 => (tss_unset (vs := [8, 9]) (fun i hi => nio0 io i) (tss_endF (fun (r : (List Int) × (List (List Int))) => [.dat ((eR eI) script), .own (r.1.map eI), .dat (eI v.1), .dat ((eL eI) levels), .un, .un, .un, .own (r.2.map (eT eI)), .un, .un]) (Rt eB) ((l_take v4.2 3).2, lots1)))))) rfl rfl)) rfl rfl)) rfl rfl)) fun _ _ h1 h2 => ps_for PassesOwn.never rfl h1 (dg_name (pg_name (i := 8) nd rfl (by first | exact Or.inl rfl | exact Or.inr rfl)) (nio0 io 8)) h2)
  (fun r h22 => (tss_one (ts_retE eB (l_row levels r.2) (te_call c_l_row hr (by decide) (by rfl) (ta_cons (te_var (pv 3)) (ta_cons (te_frz (pv 7) (nio0 io 7)) ta_nil)) (fun _ q_ => ⟨(levels, r.2), h22, rfl, q_⟩))))))) rfl rfl)))) rfl rfl)) rfl rfl)) rfl rfl)) rfl rfl)) rfl
end
end NB
end
section
set_option maxHeartbeats 4000000
namespace NB
open PySem PySem.Spec PyProof.Rows L2 DT He
def dA_l_draws : He5.DefA := ⟨fun K => ga K "_law_draws", "_law_draws", "_law_draws", defArgs s_l_draws, defBody s_l_draws, defScope s_l_draws, [], []⟩
def dA_l_take : He5.DefA := ⟨fun K => ga K "_law_take", "_law_take", "_law_take", defArgs s_l_take, defBody s_l_take, defScope s_l_take, [], []⟩
def dA_l_dense : He5.DefA := ⟨fun K => ga K "_law_dense", "_law_dense", "_law_dense", defArgs s_l_dense, defBody s_l_dense, defScope s_l_dense, [], []⟩
def dA_l_rank : He5.DefA := ⟨fun K => ga K "_law_rank", "_law_rank", "_law_rank", defArgs s_l_rank, defBody s_l_rank, defScope s_l_rank, [], []⟩
def dA_l_held : He5.DefA := ⟨fun K => ga K "_law_held", "_law_held", "_law_held", defArgs s_l_held, defBody s_l_held, defScope s_l_held, [], []⟩
def dA_l_rest : He5.DefA := ⟨fun K => ga K "_law_rest", "_law_rest", "_law_rest", defArgs s_l_rest, defBody s_l_rest, defScope s_l_rest, [], []⟩
def dA_l_lot : He5.DefA := ⟨fun K => ga K "_law_lot", "_law_lot", "_law_lot", defArgs s_l_lot, defBody s_l_lot, defScope s_l_lot, [], []⟩
def dA_l_plus : He5.DefA := ⟨fun K => ga K "_law_plus", "_law_plus", "_law_plus", defArgs s_l_plus, defBody s_l_plus, defScope s_l_plus, [], []⟩
def dA_l_around : He5.DefA := ⟨fun K => ga K "_law_around", "_law_around", "_law_around", defArgs s_l_around, defBody s_l_around, defScope s_l_around, [], []⟩
def dA_f_is_row : He5.DefA := ⟨fun K => ga K "is_row", "is_row", "is_row", defArgs s_f_is_row, defBody s_f_is_row, defScope s_f_is_row, [], []⟩
def dA_f_is_integer : He5.DefA := ⟨fun K => ga K "is_integer", "is_integer", "is_integer", defArgs s_f_is_integer, defBody s_f_is_integer, defScope s_f_is_integer, [], []⟩
def dA_f_cells_by : He5.DefA := ⟨fun K => ga K "cells_by", "cells_by", "cells_by", defArgs s_f_cells_by, defBody s_f_cells_by, defScope s_f_cells_by, [], []⟩
def dA_f_is_within : He5.DefA := ⟨fun K => ga K "is_within", "is_within", "is_within", defArgs s_f_is_within, defBody s_f_is_within, defScope s_f_is_within, [], []⟩
def dA_f_cells_fault : He5.DefA := ⟨fun K => ga K "cells_fault", "cells_fault", "cells_fault", defArgs s_f_cells_fault, defBody s_f_cells_fault, defScope s_f_cells_fault, [], []⟩
def dA_f_levels_of : He5.DefA := ⟨fun K => ga K "levels_of", "levels_of", "levels_of", defArgs s_f_levels_of, defBody s_f_levels_of, defScope s_f_levels_of, [], []⟩
def dA_f_Rank__init__ : He5.DefA := ⟨fun K => ma K (ga K "Rank") "__init__", "__init__", "Rank.__init__", defArgs s_f_Rank__init__, defBody s_f_Rank__init__, defScope s_f_Rank__init__, [], []⟩
def dA_f_Rank_of_levels : He5.DefA := ⟨fun K => He5.wf K (ga K "Rank") "classmethod" "of_levels", "of_levels", "Rank.of_levels", defArgs s_f_Rank_of_levels, defBody s_f_Rank_of_levels, defScope s_f_Rank_of_levels, [], []⟩
def dA_l_best : He5.DefA := ⟨fun K => ga K "_law_best", "_law_best", "_law_best", defArgs s_l_best, defBody s_l_best, defScope s_l_best, [], []⟩
def dA_f_check_worlds : He5.DefA := ⟨fun K => ga K "check_worlds", "check_worlds", "check_worlds", defArgs s_f_check_worlds, defBody s_f_check_worlds, defScope s_f_check_worlds, [.int 12], []⟩
def dA_f_wrong_entry : He5.DefA := ⟨fun K => ga K "wrong_entry", "wrong_entry", "wrong_entry", defArgs s_f_wrong_entry, defBody s_f_wrong_entry, defScope s_f_wrong_entry, [], []⟩
def dA_f_lot_fault : He5.DefA := ⟨fun K => ga K "lot_fault", "lot_fault", "lot_fault", defArgs s_f_lot_fault, defBody s_f_lot_fault, defScope s_f_lot_fault, [], []⟩
def dA_f_lot_of : He5.DefA := ⟨fun K => ga K "lot_of", "lot_of", "lot_of", defArgs s_f_lot_of, defBody s_f_lot_of, defScope s_f_lot_of, [], [("empty", .bl true)]⟩
def dA_f_lot_but_all : He5.DefA := ⟨fun K => ga K "lot_but_all", "lot_but_all", "lot_but_all", defArgs s_f_lot_but_all, defBody s_f_lot_but_all, defScope s_f_lot_but_all, [], []⟩
def dA_f_Rank_held : He5.DefA := ⟨fun K => He5.wf K (ga K "Rank") "property" "held", "held", "Rank.held", defArgs s_f_Rank_held, defBody s_f_Rank_held, defScope s_f_Rank_held, [], []⟩
def dA_f_inside : He5.DefA := ⟨fun K => ga K "inside", "inside", "inside", defArgs s_f_inside, defBody s_f_inside, defScope s_f_inside, [], []⟩
def dA_f_every : He5.DefA := ⟨fun K => ga K "every", "every", "every", defArgs s_f_every, defBody s_f_every, defScope s_f_every, [], []⟩
def dA_f_minus : He5.DefA := ⟨fun K => ga K "minus", "minus", "minus", defArgs s_f_minus, defBody s_f_minus, defScope s_f_minus, [], []⟩
def dA_f_rest_of : He5.DefA := ⟨fun K => ga K "rest_of", "rest_of", "rest_of", defArgs s_f_rest_of, defBody s_f_rest_of, defScope s_f_rest_of, [], []⟩
def dA_f_common : He5.DefA := ⟨fun K => ga K "common", "common", "common", defArgs s_f_common, defBody s_f_common, defScope s_f_common, [], []⟩
def dA_f_Rank_best : He5.DefA := ⟨fun K => ma K (ga K "Rank") "best", "best", "Rank.best", defArgs s_f_Rank_best, defBody s_f_Rank_best, defScope s_f_Rank_best, [], []⟩
def dA_f_plus : He5.DefA := ⟨fun K => ga K "plus", "plus", "plus", defArgs s_f_plus, defBody s_f_plus, defScope s_f_plus, [], []⟩
def dA_f_parts_out : He5.DefA := ⟨fun K => ga K "parts_out", "parts_out", "parts_out", defArgs s_f_parts_out, defBody s_f_parts_out, defScope s_f_parts_out, [], []⟩
def dA_f_levelled : He5.DefA := ⟨fun K => ga K "levelled", "levelled", "levelled", defArgs s_f_levelled, defBody s_f_levelled, defScope s_f_levelled, [], []⟩
def dA_l_product : He5.DefA := ⟨fun K => ga K "_law_product", "_law_product", "_law_product", defArgs s_l_product, defBody s_l_product, defScope s_l_product, [], []⟩
def dA_l_inside : He5.DefA := ⟨fun K => ga K "_law_inside", "_law_inside", "_law_inside", defArgs s_l_inside, defBody s_l_inside, defScope s_l_inside, [], []⟩
def dA_l_turn : He5.DefA := ⟨fun K => ga K "_law_turn", "_law_turn", "_law_turn", defArgs s_l_turn, defBody s_l_turn, defScope s_l_turn, [], []⟩
def dA_l_cells : He5.DefA := ⟨fun K => ga K "_law_cells", "_law_cells", "_law_cells", defArgs s_l_cells, defBody s_l_cells, defScope s_l_cells, [], []⟩
def dA_f_Rank__eq__ : He5.DefA := ⟨fun K => ma K (ga K "Rank") "__eq__", "__eq__", "Rank.__eq__", defArgs s_f_Rank__eq__, defBody s_f_Rank__eq__, defScope s_f_Rank__eq__, [], []⟩
def dA_f_Rank_behind_best : He5.DefA := ⟨fun K => ma K (ga K "Rank") "behind_best", "behind_best", "Rank.behind_best", defArgs s_f_Rank_behind_best, defBody s_f_Rank_behind_best, defScope s_f_Rank_behind_best, [], []⟩
def dA_f_parts_in : He5.DefA := ⟨fun K => ga K "parts_in", "parts_in", "parts_in", defArgs s_f_parts_in, defBody s_f_parts_in, defScope s_f_parts_in, [], []⟩
def dA_f_sunk : He5.DefA := ⟨fun K => ga K "sunk", "sunk", "sunk", defArgs s_f_sunk, defBody s_f_sunk, defScope s_f_sunk, [], []⟩
def dA_l_two_levels : He5.DefA := ⟨fun K => ga K "_law_two_levels", "_law_two_levels", "_law_two_levels", defArgs s_l_two_levels, defBody s_l_two_levels, defScope s_l_two_levels, [], []⟩
def dA_l_one_lot : He5.DefA := ⟨fun K => ga K "_law_one_lot", "_law_one_lot", "_law_one_lot", defArgs s_l_one_lot, defBody s_l_one_lot, defScope s_l_one_lot, [], []⟩
def dA_l_short : He5.DefA := ⟨fun K => ga K "_law_short", "_law_short", "_law_short", defArgs s_l_short, defBody s_l_short, defScope s_l_short, [], []⟩
def dA_f_check_word : He5.DefA := ⟨fun K => ga K "check_word", "check_word", "check_word", defArgs s_f_check_word, defBody s_f_check_word, defScope s_f_check_word, [], []⟩
def dA_f_led : He5.DefA := ⟨fun K => ga K "led", "led", "led", defArgs s_f_led, defBody s_f_led, defScope s_f_led, [], []⟩
def dA_f_pushed : He5.DefA := ⟨fun K => ga K "pushed", "pushed", "pushed", defArgs s_f_pushed, defBody s_f_pushed, defScope s_f_pushed, [], []⟩
def dA_f_leaned : He5.DefA := ⟨fun K => ga K "leaned", "leaned", "leaned", defArgs s_f_leaned, defBody s_f_leaned, defScope s_f_leaned, [], []⟩
def dA_f_unturned : He5.DefA := ⟨fun K => ga K "unturned", "unturned", "unturned", defArgs s_f_unturned, defBody s_f_unturned, defScope s_f_unturned, [], []⟩
def dA_f_turned : He5.DefA := ⟨fun K => ga K "turned", "turned", "turned", defArgs s_f_turned, defBody s_f_turned, defScope s_f_turned, [], []⟩
def dA_l_row : He5.DefA := ⟨fun K => ga K "_law_row", "_law_row", "_law_row", defArgs s_l_row, defBody s_l_row, defScope s_l_row, [], []⟩
def dA_l_law : He5.DefA := ⟨fun K => ga K "law", "law", "law", defArgs s_l_law, defBody s_l_law, defScope s_l_law, [], []⟩
def nm_TURNS (z : Str) : Str := if z = "lead" then "led" else if z = "push" then "pushed" else if z = "lean" then "leaned" else if z = "level" then "levelled" else if z = "sink" then "sunk" else "unturned"
def fn : List He5.DefA := [dA_l_draws, dA_l_take, dA_l_dense, dA_l_rank, dA_l_held, dA_l_rest, dA_l_lot, dA_l_plus, dA_l_around, dA_f_is_row, dA_f_is_integer, dA_f_cells_by, dA_f_is_within, dA_f_cells_fault, dA_f_levels_of, dA_f_Rank__init__, dA_f_Rank_of_levels, dA_l_best, dA_f_check_worlds, dA_f_wrong_entry, dA_f_lot_fault, dA_f_lot_of, dA_f_lot_but_all, dA_f_Rank_held, dA_f_inside, dA_f_every, dA_f_minus, dA_f_rest_of, dA_f_common, dA_f_Rank_best, dA_f_plus, dA_f_parts_out, dA_f_levelled, dA_l_product, dA_l_inside, dA_l_turn, dA_l_cells, dA_f_Rank__eq__, dA_f_Rank_behind_best, dA_f_parts_in, dA_f_sunk, dA_l_two_levels, dA_l_one_lot, dA_l_short, dA_f_check_word, dA_f_led, dA_f_pushed, dA_f_leaned, dA_f_unturned, dA_f_turned, dA_l_row, dA_l_law]
def fa0 : List Fa := [.glo "_law_draws", .glo "_law_take", .glo "_law_dense", .glo "_law_rank", .glo "_law_held", .glo "_law_rest", .glo "_law_lot", .glo "_law_plus", .glo "_law_around", .glo "is_row", .glo "is_integer", .glo "cells_by", .glo "is_within", .glo "cells_fault", .glo "levels_of", .glo "_law_best", .glo "check_worlds", .glo "wrong_entry", .glo "lot_fault", .glo "lot_of", .glo "lot_but_all", .glo "inside", .glo "every", .glo "minus", .glo "rest_of", .glo "common", .glo "plus", .glo "parts_out", .glo "levelled", .glo "_law_product", .glo "_law_inside", .glo "_law_turn", .glo "_law_cells", .glo "parts_in", .glo "sunk", .glo "_law_two_levels", .glo "_law_one_lot", .glo "_law_short", .glo "check_word", .glo "led"]
def fa1 : List Fa := [.glo "pushed", .glo "leaned", .glo "unturned", .glo "turned", .glo "_law_row", .glo "law", .glo "TURNS", .free "all", .free "any", .free "bool", .free "dict", .free "enumerate", .free "int", .free "isinstance", .free "len", .free "list", .free "max", .free "min", .free "range", .free "set", .free "sorted", .free "str", .free "sum", .free "tuple", .free "zip", .int "MOST_WORLDS" 12, .glo "Rank", .cls "Rank", .mkr "Rank", .keep "Rank", .noat "Rank" "cells", .noat "Rank" "levels", .noat "Rank" "worlds", .meth "Rank" "best", .meth "Rank" "behind_best"]
def fa : List Fa := fa0 ++ fa1
def ts : List Tab := [((fun K => ga K "TURNS"), tk_TURNS)]
def ex (K : PySem.W.Frag) : Bool := insB K (ga K "Rank") && (creadB K (ga K "Rank") && (cmB K (ga K "Rank") "of_levels" && (propB K (ga K "Rank") "held" && (eqB K (ga K "Rank") && (neB K (ga K "Rank") && (tabB K "TURNS" (tk_TURNS.map fun z => (z, nm_TURNS z))))))))
section
variable {P : Program} {w : World} {K : PySem.W.Frag} {h : Heap} {mg : Str → Option Value} {base : Heap}
theorem env (X : K.In h) (Gm : h.Ns mainGlobals mg) (c : SaysZ fa fn ts ex w K) : Env K w mg (ga K "Rank") (ga K "TURNS") (fun z => ga K (nm_TURNS z)) := by
  have hx : ex K = true := c.more
  unfold ex at hx
  exact {
    all := free_ok X Gm (c.a.fact 47 (f := .free "all") rfl)
    any := free_ok X Gm (c.a.fact 48 (f := .free "any") rfl)
    bool := free_ok X Gm (c.a.fact 49 (f := .free "bool") rfl)
    dict := free_ok X Gm (c.a.fact 50 (f := .free "dict") rfl)
    enumerate := free_ok X Gm (c.a.fact 51 (f := .free "enumerate") rfl)
    int := free_ok X Gm (c.a.fact 52 (f := .free "int") rfl)
    isinstance := free_ok X Gm (c.a.fact 53 (f := .free "isinstance") rfl)
    len := free_ok X Gm (c.a.fact 54 (f := .free "len") rfl)
    list := free_ok X Gm (c.a.fact 55 (f := .free "list") rfl)
    max := free_ok X Gm (c.a.fact 56 (f := .free "max") rfl)
    min := free_ok X Gm (c.a.fact 57 (f := .free "min") rfl)
    range := free_ok X Gm (c.a.fact 58 (f := .free "range") rfl)
    set := free_ok X Gm (c.a.fact 59 (f := .free "set") rfl)
    sorted := free_ok X Gm (c.a.fact 60 (f := .free "sorted") rfl)
    str := free_ok X Gm (c.a.fact 61 (f := .free "str") rfl)
    sum := free_ok X Gm (c.a.fact 62 (f := .free "sum") rfl)
    tuple := free_ok X Gm (c.a.fact 63 (f := .free "tuple") rfl)
    zip := free_ok X Gm (c.a.fact 64 (f := .free "zip") rfl)
    MOST_WORLDS := (int_ok X Gm (c.a.fact 65 (f := .int "MOST_WORLDS" 12) rfl)).elim fun t e => ⟨_, e, ⟨t, rfl⟩⟩
    cl_Rank := cls_ok (c.a.fact 67 (f := .cls "Rank") rfl)
    na_Rank_cells := noat_ok (c.a.fact 70 (f := .noat "Rank" "cells") rfl)
    na_Rank_levels := noat_ok (c.a.fact 71 (f := .noat "Rank" "levels") rfl)
    na_Rank_worlds := noat_ok (c.a.fact 72 (f := .noat "Rank" "worlds") rfl)
    mg_Rank := glo_ok X Gm (c.a.fact 66 (f := .glo "Rank") rfl)
    ic_Rank := insB_ok (cls_ok (c.a.fact 67 (f := .cls "Rank") rfl)) (ba hx).1
    mg_TURNS := glo_ok X Gm (c.a.fact 46 (f := .glo "TURNS") rfl)
    kt_TURNS := ⟨c.tab 0 (t := ((fun K => ga K "TURNS"), tk_TURNS)) rfl, fun z a m => by
        obtain ⟨z1, hz, e⟩ := List.mem_map.mp m
        cases e
        exact tabB_ok (ba (ba (ba (ba (ba (ba hx).2).2).2).2).2).2 (List.mem_map_of_mem (f := fun z => (z, nm_TURNS z)) hz)⟩
  }
theorem chain (X : K.In h) (Gm : h.Ns mainGlobals mg) (c : SaysZ fa fn ts ex w K) : ∃ fd, (∀ (s : Shared) (us : List Value), us.length = 1 → BindsTo s fd ⟨us, []⟩ ((["_law_script"] : List Str).zip us)) ∧ ∀ base : Heap, FnOk P w K mg base CX0 11 (ga K "law") fd ["_law_script"] (spF K 1 (T_l_law (ga K "Rank"))) := by
  have B := env X Gm c
  have hx : ex K = true := c.more
  unfold ex at hx
  obtain ⟨fd_l_draws, D_l_draws⟩ := c.a.def_ 0 (d := dA_l_draws) rfl
  replace D_l_draws : L2.FunD K "_law_draws" "_law_draws" (defArgs s_l_draws) (defBody s_l_draws) (defScope s_l_draws) [] [] (ga K "_law_draws") fd_l_draws := D_l_draws
  have F_l_draws := He5.fun_of D_l_draws
  have b_l_draws := L2.FunD.bindsN (ps := ["_law_script"]) D_l_draws fun _ _ _ _ _ _ us hl => match us, hl with | [_], _ => rfl
  obtain ⟨fd_l_take, D_l_take⟩ := c.a.def_ 1 (d := dA_l_take) rfl
  replace D_l_take : L2.FunD K "_law_take" "_law_take" (defArgs s_l_take) (defBody s_l_take) (defScope s_l_take) [] [] (ga K "_law_take") fd_l_take := D_l_take
  have F_l_take := He5.fun_of D_l_take
  have b_l_take := L2.FunD.bindsN (ps := ["_law_draws_here", "_law_bound"]) D_l_take fun _ _ _ _ _ _ us hl => match us, hl with | [_, _], _ => rfl
  obtain ⟨fd_l_dense, D_l_dense⟩ := c.a.def_ 2 (d := dA_l_dense) rfl
  replace D_l_dense : L2.FunD K "_law_dense" "_law_dense" (defArgs s_l_dense) (defBody s_l_dense) (defScope s_l_dense) [] [] (ga K "_law_dense") fd_l_dense := D_l_dense
  have F_l_dense := He5.fun_of D_l_dense
  have b_l_dense := L2.FunD.bindsN (ps := ["_law_numbers"]) D_l_dense fun _ _ _ _ _ _ us hl => match us, hl with | [_], _ => rfl
  obtain ⟨fd_l_rank, D_l_rank⟩ := c.a.def_ 3 (d := dA_l_rank) rfl
  replace D_l_rank : L2.FunD K "_law_rank" "_law_rank" (defArgs s_l_rank) (defBody s_l_rank) (defScope s_l_rank) [] [] (ga K "_law_rank") fd_l_rank := D_l_rank
  have F_l_rank := He5.fun_of D_l_rank
  have b_l_rank := L2.FunD.bindsN (ps := ["_law_draws_here", "_law_worlds"]) D_l_rank fun _ _ _ _ _ _ us hl => match us, hl with | [_, _], _ => rfl
  obtain ⟨fd_l_held, D_l_held⟩ := c.a.def_ 4 (d := dA_l_held) rfl
  replace D_l_held : L2.FunD K "_law_held" "_law_held" (defArgs s_l_held) (defBody s_l_held) (defScope s_l_held) [] [] (ga K "_law_held") fd_l_held := D_l_held
  have F_l_held := He5.fun_of D_l_held
  have b_l_held := L2.FunD.bindsN (ps := ["_law_levels"]) D_l_held fun _ _ _ _ _ _ us hl => match us, hl with | [_], _ => rfl
  obtain ⟨fd_l_rest, D_l_rest⟩ := c.a.def_ 5 (d := dA_l_rest) rfl
  replace D_l_rest : L2.FunD K "_law_rest" "_law_rest" (defArgs s_l_rest) (defBody s_l_rest) (defScope s_l_rest) [] [] (ga K "_law_rest") fd_l_rest := D_l_rest
  have F_l_rest := He5.fun_of D_l_rest
  have b_l_rest := L2.FunD.bindsN (ps := ["_law_lot_here", "_law_worlds"]) D_l_rest fun _ _ _ _ _ _ us hl => match us, hl with | [_, _], _ => rfl
  obtain ⟨fd_l_lot, D_l_lot⟩ := c.a.def_ 6 (d := dA_l_lot) rfl
  replace D_l_lot : L2.FunD K "_law_lot" "_law_lot" (defArgs s_l_lot) (defBody s_l_lot) (defScope s_l_lot) [] [] (ga K "_law_lot") fd_l_lot := D_l_lot
  have F_l_lot := He5.fun_of D_l_lot
  have b_l_lot := L2.FunD.bindsN (ps := ["_law_draws_here", "_law_worlds"]) D_l_lot fun _ _ _ _ _ _ us hl => match us, hl with | [_, _], _ => rfl
  obtain ⟨fd_l_plus, D_l_plus⟩ := c.a.def_ 7 (d := dA_l_plus) rfl
  replace D_l_plus : L2.FunD K "_law_plus" "_law_plus" (defArgs s_l_plus) (defBody s_l_plus) (defScope s_l_plus) [] [] (ga K "_law_plus") fd_l_plus := D_l_plus
  have F_l_plus := He5.fun_of D_l_plus
  have b_l_plus := L2.FunD.bindsN (ps := ["_law_one", "_law_other"]) D_l_plus fun _ _ _ _ _ _ us hl => match us, hl with | [_, _], _ => rfl
  obtain ⟨fd_l_around, D_l_around⟩ := c.a.def_ 8 (d := dA_l_around) rfl
  replace D_l_around : L2.FunD K "_law_around" "_law_around" (defArgs s_l_around) (defBody s_l_around) (defScope s_l_around) [] [] (ga K "_law_around") fd_l_around := D_l_around
  have F_l_around := He5.fun_of D_l_around
  have b_l_around := L2.FunD.bindsN (ps := ["_law_draws_here", "_law_levels"]) D_l_around fun _ _ _ _ _ _ us hl => match us, hl with | [_, _], _ => rfl
  obtain ⟨fd_f_is_row, D_f_is_row⟩ := c.a.def_ 9 (d := dA_f_is_row) rfl
  replace D_f_is_row : L2.FunD K "is_row" "is_row" (defArgs s_f_is_row) (defBody s_f_is_row) (defScope s_f_is_row) [] [] (ga K "is_row") fd_f_is_row := D_f_is_row
  have F_f_is_row := He5.fun_of D_f_is_row
  have b_f_is_row := L2.FunD.bindsN (ps := ["value"]) D_f_is_row fun _ _ _ _ _ _ us hl => match us, hl with | [_], _ => rfl
  obtain ⟨fd_f_is_integer, D_f_is_integer⟩ := c.a.def_ 10 (d := dA_f_is_integer) rfl
  replace D_f_is_integer : L2.FunD K "is_integer" "is_integer" (defArgs s_f_is_integer) (defBody s_f_is_integer) (defScope s_f_is_integer) [] [] (ga K "is_integer") fd_f_is_integer := D_f_is_integer
  have F_f_is_integer := He5.fun_of D_f_is_integer
  have b_f_is_integer := L2.FunD.bindsN (ps := ["value"]) D_f_is_integer fun _ _ _ _ _ _ us hl => match us, hl with | [_], _ => rfl
  obtain ⟨fd_f_cells_by, D_f_cells_by⟩ := c.a.def_ 11 (d := dA_f_cells_by) rfl
  replace D_f_cells_by : L2.FunD K "cells_by" "cells_by" (defArgs s_f_cells_by) (defBody s_f_cells_by) (defScope s_f_cells_by) [] [] (ga K "cells_by") fd_f_cells_by := D_f_cells_by
  have F_f_cells_by := He5.fun_of D_f_cells_by
  have b_f_cells_by := L2.FunD.bindsN (ps := ["numbers"]) D_f_cells_by fun _ _ _ _ _ _ us hl => match us, hl with | [_], _ => rfl
  obtain ⟨fd_f_is_within, D_f_is_within⟩ := c.a.def_ 12 (d := dA_f_is_within) rfl
  replace D_f_is_within : L2.FunD K "is_within" "is_within" (defArgs s_f_is_within) (defBody s_f_is_within) (defScope s_f_is_within) [] [] (ga K "is_within") fd_f_is_within := D_f_is_within
  have F_f_is_within := He5.fun_of D_f_is_within
  have b_f_is_within := L2.FunD.bindsN (ps := ["value", "low", "high"]) D_f_is_within fun _ _ _ _ _ _ us hl => match us, hl with | [_, _, _], _ => rfl
  obtain ⟨fd_f_cells_fault, D_f_cells_fault⟩ := c.a.def_ 13 (d := dA_f_cells_fault) rfl
  replace D_f_cells_fault : L2.FunD K "cells_fault" "cells_fault" (defArgs s_f_cells_fault) (defBody s_f_cells_fault) (defScope s_f_cells_fault) [] [] (ga K "cells_fault") fd_f_cells_fault := D_f_cells_fault
  have F_f_cells_fault := He5.fun_of D_f_cells_fault
  have b_f_cells_fault := L2.FunD.bindsN (ps := ["cells"]) D_f_cells_fault fun _ _ _ _ _ _ us hl => match us, hl with | [_], _ => rfl
  obtain ⟨fd_f_levels_of, D_f_levels_of⟩ := c.a.def_ 14 (d := dA_f_levels_of) rfl
  replace D_f_levels_of : L2.FunD K "levels_of" "levels_of" (defArgs s_f_levels_of) (defBody s_f_levels_of) (defScope s_f_levels_of) [] [] (ga K "levels_of") fd_f_levels_of := D_f_levels_of
  have F_f_levels_of := He5.fun_of D_f_levels_of
  have b_f_levels_of := L2.FunD.bindsN (ps := ["cells"]) D_f_levels_of fun _ _ _ _ _ _ us hl => match us, hl with | [_], _ => rfl
  obtain ⟨fd_f_Rank__init__, D_f_Rank__init__⟩ := c.a.def_ 15 (d := dA_f_Rank__init__) rfl
  replace D_f_Rank__init__ : L2.FunD K "__init__" "Rank.__init__" (defArgs s_f_Rank__init__) (defBody s_f_Rank__init__) (defScope s_f_Rank__init__) [] [] (ma K (ga K "Rank") "__init__") fd_f_Rank__init__ := D_f_Rank__init__
  have F_f_Rank__init__ := He5.fun_of D_f_Rank__init__
  have b_f_Rank__init__ := L2.FunD.bindsN (ps := ["self", "cells"]) D_f_Rank__init__ fun _ _ _ _ _ _ us hl => match us, hl with | [_, _], _ => rfl
  obtain ⟨fd_f_Rank_of_levels, D_f_Rank_of_levels⟩ := c.a.def_ 16 (d := dA_f_Rank_of_levels) rfl
  replace D_f_Rank_of_levels : L2.FunD K "of_levels" "Rank.of_levels" (defArgs s_f_Rank_of_levels) (defBody s_f_Rank_of_levels) (defScope s_f_Rank_of_levels) [] [] (He5.wf K (ga K "Rank") "classmethod" "of_levels") fd_f_Rank_of_levels := D_f_Rank_of_levels
  have F_f_Rank_of_levels := He5.fun_of D_f_Rank_of_levels
  have b_f_Rank_of_levels := L2.FunD.bindsN (ps := ["cls", "numbers"]) D_f_Rank_of_levels fun _ _ _ _ _ _ us hl => match us, hl with | [_, _], _ => rfl
  obtain ⟨fd_l_best, D_l_best⟩ := c.a.def_ 17 (d := dA_l_best) rfl
  replace D_l_best : L2.FunD K "_law_best" "_law_best" (defArgs s_l_best) (defBody s_l_best) (defScope s_l_best) [] [] (ga K "_law_best") fd_l_best := D_l_best
  have F_l_best := He5.fun_of D_l_best
  have b_l_best := L2.FunD.bindsN (ps := ["_law_levels", "_law_lot_here"]) D_l_best fun _ _ _ _ _ _ us hl => match us, hl with | [_, _], _ => rfl
  obtain ⟨fd_f_check_worlds, D_f_check_worlds⟩ := c.a.def_ 18 (d := dA_f_check_worlds) rfl
  replace D_f_check_worlds : L2.FunD K "check_worlds" "check_worlds" (defArgs s_f_check_worlds) (defBody s_f_check_worlds) (defScope s_f_check_worlds) [.int 12] [] (ga K "check_worlds") fd_f_check_worlds := D_f_check_worlds
  obtain ⟨fd_f_wrong_entry, D_f_wrong_entry⟩ := c.a.def_ 19 (d := dA_f_wrong_entry) rfl
  replace D_f_wrong_entry : L2.FunD K "wrong_entry" "wrong_entry" (defArgs s_f_wrong_entry) (defBody s_f_wrong_entry) (defScope s_f_wrong_entry) [] [] (ga K "wrong_entry") fd_f_wrong_entry := D_f_wrong_entry
  have F_f_wrong_entry := He5.fun_of D_f_wrong_entry
  have b_f_wrong_entry := L2.FunD.bindsN (ps := ["entries", "count"]) D_f_wrong_entry fun _ _ _ _ _ _ us hl => match us, hl with | [_, _], _ => rfl
  obtain ⟨fd_f_lot_fault, D_f_lot_fault⟩ := c.a.def_ 20 (d := dA_f_lot_fault) rfl
  replace D_f_lot_fault : L2.FunD K "lot_fault" "lot_fault" (defArgs s_f_lot_fault) (defBody s_f_lot_fault) (defScope s_f_lot_fault) [] [] (ga K "lot_fault") fd_f_lot_fault := D_f_lot_fault
  have F_f_lot_fault := He5.fun_of D_f_lot_fault
  have b_f_lot_fault := L2.FunD.bindsN (ps := ["lot", "worlds"]) D_f_lot_fault fun _ _ _ _ _ _ us hl => match us, hl with | [_, _], _ => rfl
  obtain ⟨fd_f_lot_of, D_f_lot_of⟩ := c.a.def_ 21 (d := dA_f_lot_of) rfl
  replace D_f_lot_of : L2.FunD K "lot_of" "lot_of" (defArgs s_f_lot_of) (defBody s_f_lot_of) (defScope s_f_lot_of) [] [("empty", .bl true)] (ga K "lot_of") fd_f_lot_of := D_f_lot_of
  have F_f_lot_of := He5.fun_of D_f_lot_of
  obtain ⟨fd_f_lot_but_all, D_f_lot_but_all⟩ := c.a.def_ 22 (d := dA_f_lot_but_all) rfl
  replace D_f_lot_but_all : L2.FunD K "lot_but_all" "lot_but_all" (defArgs s_f_lot_but_all) (defBody s_f_lot_but_all) (defScope s_f_lot_but_all) [] [] (ga K "lot_but_all") fd_f_lot_but_all := D_f_lot_but_all
  have F_f_lot_but_all := He5.fun_of D_f_lot_but_all
  have b_f_lot_but_all := L2.FunD.bindsN (ps := ["lot", "worlds"]) D_f_lot_but_all fun _ _ _ _ _ _ us hl => match us, hl with | [_, _], _ => rfl
  obtain ⟨fd_f_Rank_held, D_f_Rank_held⟩ := c.a.def_ 23 (d := dA_f_Rank_held) rfl
  replace D_f_Rank_held : L2.FunD K "held" "Rank.held" (defArgs s_f_Rank_held) (defBody s_f_Rank_held) (defScope s_f_Rank_held) [] [] (He5.wf K (ga K "Rank") "property" "held") fd_f_Rank_held := D_f_Rank_held
  have F_f_Rank_held := He5.fun_of D_f_Rank_held
  have b_f_Rank_held := L2.FunD.bindsN (ps := ["self"]) D_f_Rank_held fun _ _ _ _ _ _ us hl => match us, hl with | [_], _ => rfl
  obtain ⟨fd_f_inside, D_f_inside⟩ := c.a.def_ 24 (d := dA_f_inside) rfl
  replace D_f_inside : L2.FunD K "inside" "inside" (defArgs s_f_inside) (defBody s_f_inside) (defScope s_f_inside) [] [] (ga K "inside") fd_f_inside := D_f_inside
  have F_f_inside := He5.fun_of D_f_inside
  have b_f_inside := L2.FunD.bindsN (ps := ["one", "other"]) D_f_inside fun _ _ _ _ _ _ us hl => match us, hl with | [_, _], _ => rfl
  obtain ⟨fd_f_every, D_f_every⟩ := c.a.def_ 25 (d := dA_f_every) rfl
  replace D_f_every : L2.FunD K "every" "every" (defArgs s_f_every) (defBody s_f_every) (defScope s_f_every) [] [] (ga K "every") fd_f_every := D_f_every
  have F_f_every := He5.fun_of D_f_every
  have b_f_every := L2.FunD.bindsN (ps := ["worlds"]) D_f_every fun _ _ _ _ _ _ us hl => match us, hl with | [_], _ => rfl
  obtain ⟨fd_f_minus, D_f_minus⟩ := c.a.def_ 26 (d := dA_f_minus) rfl
  replace D_f_minus : L2.FunD K "minus" "minus" (defArgs s_f_minus) (defBody s_f_minus) (defScope s_f_minus) [] [] (ga K "minus") fd_f_minus := D_f_minus
  have F_f_minus := He5.fun_of D_f_minus
  have b_f_minus := L2.FunD.bindsN (ps := ["one", "other"]) D_f_minus fun _ _ _ _ _ _ us hl => match us, hl with | [_, _], _ => rfl
  obtain ⟨fd_f_rest_of, D_f_rest_of⟩ := c.a.def_ 27 (d := dA_f_rest_of) rfl
  replace D_f_rest_of : L2.FunD K "rest_of" "rest_of" (defArgs s_f_rest_of) (defBody s_f_rest_of) (defScope s_f_rest_of) [] [] (ga K "rest_of") fd_f_rest_of := D_f_rest_of
  have F_f_rest_of := He5.fun_of D_f_rest_of
  have b_f_rest_of := L2.FunD.bindsN (ps := ["lot", "worlds"]) D_f_rest_of fun _ _ _ _ _ _ us hl => match us, hl with | [_, _], _ => rfl
  obtain ⟨fd_f_common, D_f_common⟩ := c.a.def_ 28 (d := dA_f_common) rfl
  replace D_f_common : L2.FunD K "common" "common" (defArgs s_f_common) (defBody s_f_common) (defScope s_f_common) [] [] (ga K "common") fd_f_common := D_f_common
  have F_f_common := He5.fun_of D_f_common
  have b_f_common := L2.FunD.bindsN (ps := ["one", "other"]) D_f_common fun _ _ _ _ _ _ us hl => match us, hl with | [_, _], _ => rfl
  obtain ⟨fd_f_Rank_best, D_f_Rank_best⟩ := c.a.def_ 29 (d := dA_f_Rank_best) rfl
  replace D_f_Rank_best : L2.FunD K "best" "Rank.best" (defArgs s_f_Rank_best) (defBody s_f_Rank_best) (defScope s_f_Rank_best) [] [] (ma K (ga K "Rank") "best") fd_f_Rank_best := D_f_Rank_best
  have F_f_Rank_best := He5.fun_of D_f_Rank_best
  have b_f_Rank_best := L2.FunD.bindsN (ps := ["self", "lot"]) D_f_Rank_best fun _ _ _ _ _ _ us hl => match us, hl with | [_, _], _ => rfl
  obtain ⟨fd_f_plus, D_f_plus⟩ := c.a.def_ 30 (d := dA_f_plus) rfl
  replace D_f_plus : L2.FunD K "plus" "plus" (defArgs s_f_plus) (defBody s_f_plus) (defScope s_f_plus) [] [] (ga K "plus") fd_f_plus := D_f_plus
  have F_f_plus := He5.fun_of D_f_plus
  have b_f_plus := L2.FunD.bindsN (ps := ["one", "other"]) D_f_plus fun _ _ _ _ _ _ us hl => match us, hl with | [_, _], _ => rfl
  obtain ⟨fd_f_parts_out, D_f_parts_out⟩ := c.a.def_ 31 (d := dA_f_parts_out) rfl
  replace D_f_parts_out : L2.FunD K "parts_out" "parts_out" (defArgs s_f_parts_out) (defBody s_f_parts_out) (defScope s_f_parts_out) [] [] (ga K "parts_out") fd_f_parts_out := D_f_parts_out
  have F_f_parts_out := He5.fun_of D_f_parts_out
  have b_f_parts_out := L2.FunD.bindsN (ps := ["cells", "lot"]) D_f_parts_out fun _ _ _ _ _ _ us hl => match us, hl with | [_, _], _ => rfl
  obtain ⟨fd_f_levelled, D_f_levelled⟩ := c.a.def_ 32 (d := dA_f_levelled) rfl
  replace D_f_levelled : L2.FunD K "levelled" "levelled" (defArgs s_f_levelled) (defBody s_f_levelled) (defScope s_f_levelled) [] [] (ga K "levelled") fd_f_levelled := D_f_levelled
  have F_f_levelled := He5.fun_of D_f_levelled
  have b_f_levelled := L2.FunD.bindsN (ps := ["rank", "lot"]) D_f_levelled fun _ _ _ _ _ _ us hl => match us, hl with | [_, _], _ => rfl
  obtain ⟨fd_l_product, D_l_product⟩ := c.a.def_ 33 (d := dA_l_product) rfl
  replace D_l_product : L2.FunD K "_law_product" "_law_product" (defArgs s_l_product) (defBody s_l_product) (defScope s_l_product) [] [] (ga K "_law_product") fd_l_product := D_l_product
  have F_l_product := He5.fun_of D_l_product
  have b_l_product := L2.FunD.bindsN (ps := ["_law_one", "_law_other"]) D_l_product fun _ _ _ _ _ _ us hl => match us, hl with | [_, _], _ => rfl
  obtain ⟨fd_l_inside, D_l_inside⟩ := c.a.def_ 34 (d := dA_l_inside) rfl
  replace D_l_inside : L2.FunD K "_law_inside" "_law_inside" (defArgs s_l_inside) (defBody s_l_inside) (defScope s_l_inside) [] [] (ga K "_law_inside") fd_l_inside := D_l_inside
  have F_l_inside := He5.fun_of D_l_inside
  have b_l_inside := L2.FunD.bindsN (ps := ["_law_one", "_law_other"]) D_l_inside fun _ _ _ _ _ _ us hl => match us, hl with | [_, _], _ => rfl
  obtain ⟨fd_l_turn, D_l_turn⟩ := c.a.def_ 35 (d := dA_l_turn) rfl
  replace D_l_turn : L2.FunD K "_law_turn" "_law_turn" (defArgs s_l_turn) (defBody s_l_turn) (defScope s_l_turn) [] [] (ga K "_law_turn") fd_l_turn := D_l_turn
  have F_l_turn := He5.fun_of D_l_turn
  have b_l_turn := L2.FunD.bindsN (ps := ["_law_levels", "_law_word", "_law_lot_here"]) D_l_turn fun _ _ _ _ _ _ us hl => match us, hl with | [_, _, _], _ => rfl
  obtain ⟨fd_l_cells, D_l_cells⟩ := c.a.def_ 36 (d := dA_l_cells) rfl
  replace D_l_cells : L2.FunD K "_law_cells" "_law_cells" (defArgs s_l_cells) (defBody s_l_cells) (defScope s_l_cells) [] [] (ga K "_law_cells") fd_l_cells := D_l_cells
  have F_l_cells := He5.fun_of D_l_cells
  have b_l_cells := L2.FunD.bindsN (ps := ["_law_levels"]) D_l_cells fun _ _ _ _ _ _ us hl => match us, hl with | [_], _ => rfl
  obtain ⟨fd_f_Rank__eq__, D_f_Rank__eq__⟩ := c.a.def_ 37 (d := dA_f_Rank__eq__) rfl
  replace D_f_Rank__eq__ : L2.FunD K "__eq__" "Rank.__eq__" (defArgs s_f_Rank__eq__) (defBody s_f_Rank__eq__) (defScope s_f_Rank__eq__) [] [] (ma K (ga K "Rank") "__eq__") fd_f_Rank__eq__ := D_f_Rank__eq__
  have F_f_Rank__eq__ := He5.fun_of D_f_Rank__eq__
  have b_f_Rank__eq__ := L2.FunD.bindsN (ps := ["self", "other"]) D_f_Rank__eq__ fun _ _ _ _ _ _ us hl => match us, hl with | [_, _], _ => rfl
  obtain ⟨fd_f_Rank_behind_best, D_f_Rank_behind_best⟩ := c.a.def_ 38 (d := dA_f_Rank_behind_best) rfl
  replace D_f_Rank_behind_best : L2.FunD K "behind_best" "Rank.behind_best" (defArgs s_f_Rank_behind_best) (defBody s_f_Rank_behind_best) (defScope s_f_Rank_behind_best) [] [] (ma K (ga K "Rank") "behind_best") fd_f_Rank_behind_best := D_f_Rank_behind_best
  have F_f_Rank_behind_best := He5.fun_of D_f_Rank_behind_best
  have b_f_Rank_behind_best := L2.FunD.bindsN (ps := ["self", "lot"]) D_f_Rank_behind_best fun _ _ _ _ _ _ us hl => match us, hl with | [_, _], _ => rfl
  obtain ⟨fd_f_parts_in, D_f_parts_in⟩ := c.a.def_ 39 (d := dA_f_parts_in) rfl
  replace D_f_parts_in : L2.FunD K "parts_in" "parts_in" (defArgs s_f_parts_in) (defBody s_f_parts_in) (defScope s_f_parts_in) [] [] (ga K "parts_in") fd_f_parts_in := D_f_parts_in
  have F_f_parts_in := He5.fun_of D_f_parts_in
  have b_f_parts_in := L2.FunD.bindsN (ps := ["cells", "lot"]) D_f_parts_in fun _ _ _ _ _ _ us hl => match us, hl with | [_, _], _ => rfl
  obtain ⟨fd_f_sunk, D_f_sunk⟩ := c.a.def_ 40 (d := dA_f_sunk) rfl
  replace D_f_sunk : L2.FunD K "sunk" "sunk" (defArgs s_f_sunk) (defBody s_f_sunk) (defScope s_f_sunk) [] [] (ga K "sunk") fd_f_sunk := D_f_sunk
  have F_f_sunk := He5.fun_of D_f_sunk
  have b_f_sunk := L2.FunD.bindsN (ps := ["rank", "lot"]) D_f_sunk fun _ _ _ _ _ _ us hl => match us, hl with | [_, _], _ => rfl
  obtain ⟨fd_l_two_levels, D_l_two_levels⟩ := c.a.def_ 41 (d := dA_l_two_levels) rfl
  replace D_l_two_levels : L2.FunD K "_law_two_levels" "_law_two_levels" (defArgs s_l_two_levels) (defBody s_l_two_levels) (defScope s_l_two_levels) [] [] (ga K "_law_two_levels") fd_l_two_levels := D_l_two_levels
  have F_l_two_levels := He5.fun_of D_l_two_levels
  have b_l_two_levels := L2.FunD.bindsN (ps := ["_law_levels", "_law_one", "_law_other"]) D_l_two_levels fun _ _ _ _ _ _ us hl => match us, hl with | [_, _, _], _ => rfl
  obtain ⟨fd_l_one_lot, D_l_one_lot⟩ := c.a.def_ 42 (d := dA_l_one_lot) rfl
  replace D_l_one_lot : L2.FunD K "_law_one_lot" "_law_one_lot" (defArgs s_l_one_lot) (defBody s_l_one_lot) (defScope s_l_one_lot) [] [] (ga K "_law_one_lot") fd_l_one_lot := D_l_one_lot
  have F_l_one_lot := He5.fun_of D_l_one_lot
  have b_l_one_lot := L2.FunD.bindsN (ps := ["_law_levels", "_law_lot_here"]) D_l_one_lot fun _ _ _ _ _ _ us hl => match us, hl with | [_, _], _ => rfl
  obtain ⟨fd_l_short, D_l_short⟩ := c.a.def_ 43 (d := dA_l_short) rfl
  replace D_l_short : L2.FunD K "_law_short" "_law_short" (defArgs s_l_short) (defBody s_l_short) (defScope s_l_short) [] [] (ga K "_law_short") fd_l_short := D_l_short
  have F_l_short := He5.fun_of D_l_short
  have b_l_short := L2.FunD.bindsN (ps := ["_law_draws_here", "_law_worlds"]) D_l_short fun _ _ _ _ _ _ us hl => match us, hl with | [_, _], _ => rfl
  obtain ⟨fd_f_check_word, D_f_check_word⟩ := c.a.def_ 44 (d := dA_f_check_word) rfl
  replace D_f_check_word : L2.FunD K "check_word" "check_word" (defArgs s_f_check_word) (defBody s_f_check_word) (defScope s_f_check_word) [] [] (ga K "check_word") fd_f_check_word := D_f_check_word
  have F_f_check_word := He5.fun_of D_f_check_word
  have b_f_check_word := L2.FunD.bindsN (ps := ["word"]) D_f_check_word fun _ _ _ _ _ _ us hl => match us, hl with | [_], _ => rfl
  obtain ⟨fd_f_led, D_f_led⟩ := c.a.def_ 45 (d := dA_f_led) rfl
  replace D_f_led : L2.FunD K "led" "led" (defArgs s_f_led) (defBody s_f_led) (defScope s_f_led) [] [] (ga K "led") fd_f_led := D_f_led
  have F_f_led := He5.fun_of D_f_led
  have b_f_led := L2.FunD.bindsN (ps := ["rank", "lot"]) D_f_led fun _ _ _ _ _ _ us hl => match us, hl with | [_, _], _ => rfl
  obtain ⟨fd_f_pushed, D_f_pushed⟩ := c.a.def_ 46 (d := dA_f_pushed) rfl
  replace D_f_pushed : L2.FunD K "pushed" "pushed" (defArgs s_f_pushed) (defBody s_f_pushed) (defScope s_f_pushed) [] [] (ga K "pushed") fd_f_pushed := D_f_pushed
  have F_f_pushed := He5.fun_of D_f_pushed
  have b_f_pushed := L2.FunD.bindsN (ps := ["rank", "lot"]) D_f_pushed fun _ _ _ _ _ _ us hl => match us, hl with | [_, _], _ => rfl
  obtain ⟨fd_f_leaned, D_f_leaned⟩ := c.a.def_ 47 (d := dA_f_leaned) rfl
  replace D_f_leaned : L2.FunD K "leaned" "leaned" (defArgs s_f_leaned) (defBody s_f_leaned) (defScope s_f_leaned) [] [] (ga K "leaned") fd_f_leaned := D_f_leaned
  have F_f_leaned := He5.fun_of D_f_leaned
  have b_f_leaned := L2.FunD.bindsN (ps := ["rank", "lot"]) D_f_leaned fun _ _ _ _ _ _ us hl => match us, hl with | [_, _], _ => rfl
  obtain ⟨fd_f_unturned, D_f_unturned⟩ := c.a.def_ 48 (d := dA_f_unturned) rfl
  replace D_f_unturned : L2.FunD K "unturned" "unturned" (defArgs s_f_unturned) (defBody s_f_unturned) (defScope s_f_unturned) [] [] (ga K "unturned") fd_f_unturned := D_f_unturned
  have F_f_unturned := He5.fun_of D_f_unturned
  have b_f_unturned := L2.FunD.bindsN (ps := ["rank", "lot"]) D_f_unturned fun _ _ _ _ _ _ us hl => match us, hl with | [_, _], _ => rfl
  obtain ⟨fd_f_turned, D_f_turned⟩ := c.a.def_ 49 (d := dA_f_turned) rfl
  replace D_f_turned : L2.FunD K "turned" "turned" (defArgs s_f_turned) (defBody s_f_turned) (defScope s_f_turned) [] [] (ga K "turned") fd_f_turned := D_f_turned
  have F_f_turned := He5.fun_of D_f_turned
  have b_f_turned := L2.FunD.bindsN (ps := ["rank", "word", "lot"]) D_f_turned fun _ _ _ _ _ _ us hl => match us, hl with | [_, _, _], _ => rfl
  obtain ⟨fd_l_row, D_l_row⟩ := c.a.def_ 50 (d := dA_l_row) rfl
  replace D_l_row : L2.FunD K "_law_row" "_law_row" (defArgs s_l_row) (defBody s_l_row) (defScope s_l_row) [] [] (ga K "_law_row") fd_l_row := D_l_row
  have F_l_row := He5.fun_of D_l_row
  have b_l_row := L2.FunD.bindsN (ps := ["_law_levels", "_law_lots"]) D_l_row fun _ _ _ _ _ _ us hl => match us, hl with | [_, _], _ => rfl
  obtain ⟨fd_l_law, D_l_law⟩ := c.a.def_ 51 (d := dA_l_law) rfl
  replace D_l_law : L2.FunD K "law" "law" (defArgs s_l_law) (defBody s_l_law) (defScope s_l_law) [] [] (ga K "law") fd_l_law := D_l_law
  have F_l_law := He5.fun_of D_l_law
  have b_l_law := L2.FunD.bindsN (ps := ["_law_script"]) D_l_law fun _ _ _ _ _ _ us hl => match us, hl with | [_], _ => rfl
  refine ⟨fd_l_law, fun s us hl => L2.FunD.bindsA (ps := ["_law_script"]) D_l_law (fun _ _ _ _ _ _ us hl => match us, hl with | [_], _ => rfl) s us hl, fun base => ?_⟩
  have o_l_draws : FnOk P w K mg base CX0 1 (ga K "_law_draws") fd_l_draws ["_law_script"] (spFN K 1 (T_l_draws (ga K "Rank"))) := fn_TN (ι := List Int) F_l_draws sc_l_draws (by decide) (fun i ho cdv A outer s H E Fr hr hio => r_l_draws B hr hio i ho)
  have o_l_take : FnOk P w K mg base CX0 1 (ga K "_law_take") fd_l_take ["_law_draws_here", "_law_bound"] (spIO K 2 (T_l_take (ga K "Rank"))) := fn_TI (ι := (List Int) × Int) F_l_take sc_l_take (by decide) (fun i ho cdv A outer s H E Fr hr hio => r_l_take B hr hio i.1 i.2 ho)
  have o_l_dense : FnOk P w K mg base CX0 1 (ga K "_law_dense") fd_l_dense ["_law_numbers"] (spFN K 1 (T_l_dense (ga K "Rank"))) := fn_TN (ι := List Int) F_l_dense sc_l_dense (by decide) (fun i ho cdv A outer s H E Fr hr hio => r_l_dense B hr hio i ho)
  have c_l_take : Ca P w K mg base "_law_take" 1 (spIO K 2 (T_l_take (ga K "Rank"))) := ⟨_, fd_l_take, _, o_l_take, glo_ok X Gm (c.a.fact 1 (f := .glo "_law_take") rfl), D_l_take.kp, b_l_take⟩
  have c_l_dense : Ca P w K mg base "_law_dense" 1 (spFN K 1 (T_l_dense (ga K "Rank"))) := ⟨_, fd_l_dense, _, o_l_dense, glo_ok X Gm (c.a.fact 2 (f := .glo "_law_dense") rfl), D_l_dense.kp, b_l_dense⟩
  have o_l_rank : FnOk P w K mg base CX0 2 (ga K "_law_rank") fd_l_rank ["_law_draws_here", "_law_worlds"] (spIO K 2 (T_l_rank (ga K "Rank"))) := fn_TI (ι := (List Int) × Int) F_l_rank sc_l_rank (by decide) (fun i ho cdv A outer s H E Fr hr hio => r_l_rank B c_l_take c_l_dense hr hio i.1 i.2 ho)
  have o_l_held : FnOk P w K mg base CX0 1 (ga K "_law_held") fd_l_held ["_law_levels"] (spF K 1 (T_l_held (ga K "Rank"))) := fn_T (ι := List Int) F_l_held sc_l_held (by decide) (fun i ho cdv A outer s H E Fr hr hio => r_l_held B hr hio i ho)
  have o_l_rest : FnOk P w K mg base CX0 1 (ga K "_law_rest") fd_l_rest ["_law_lot_here", "_law_worlds"] (spF K 2 (T_l_rest (ga K "Rank"))) := fn_T (ι := (List Int) × Int) F_l_rest sc_l_rest (by decide) (fun i ho cdv A outer s H E Fr hr hio => r_l_rest B hr hio i.1 i.2 ho)
  have o_l_lot : FnOk P w K mg base CX0 2 (ga K "_law_lot") fd_l_lot ["_law_draws_here", "_law_worlds"] (spIO K 2 (T_l_lot (ga K "Rank"))) := fn_TI (ι := (List Int) × Int) F_l_lot sc_l_lot (by decide) (fun i ho cdv A outer s H E Fr hr hio => r_l_lot B c_l_take hr hio i.1 i.2 ho)
  have o_l_plus : FnOk P w K mg base CX0 1 (ga K "_law_plus") fd_l_plus ["_law_one", "_law_other"] (spF K 2 (T_l_plus (ga K "Rank"))) := fn_T (ι := (List Int) × (List Int)) F_l_plus sc_l_plus (by decide) (fun i ho cdv A outer s H E Fr hr hio => r_l_plus B hr hio i.1 i.2 ho)
  have c_l_held : Ca P w K mg base "_law_held" 1 (spF K 1 (T_l_held (ga K "Rank"))) := ⟨_, fd_l_held, _, o_l_held, glo_ok X Gm (c.a.fact 4 (f := .glo "_law_held") rfl), D_l_held.kp, b_l_held⟩
  have c_l_rest : Ca P w K mg base "_law_rest" 1 (spF K 2 (T_l_rest (ga K "Rank"))) := ⟨_, fd_l_rest, _, o_l_rest, glo_ok X Gm (c.a.fact 5 (f := .glo "_law_rest") rfl), D_l_rest.kp, b_l_rest⟩
  have c_l_lot : Ca P w K mg base "_law_lot" 2 (spIO K 2 (T_l_lot (ga K "Rank"))) := ⟨_, fd_l_lot, _, o_l_lot, glo_ok X Gm (c.a.fact 6 (f := .glo "_law_lot") rfl), D_l_lot.kp, b_l_lot⟩
  have c_l_plus : Ca P w K mg base "_law_plus" 1 (spF K 2 (T_l_plus (ga K "Rank"))) := ⟨_, fd_l_plus, _, o_l_plus, glo_ok X Gm (c.a.fact 7 (f := .glo "_law_plus") rfl), D_l_plus.kp, b_l_plus⟩
  have o_l_around : FnOk P w K mg base CX0 3 (ga K "_law_around") fd_l_around ["_law_draws_here", "_law_levels"] (spIO K 2 (T_l_around (ga K "Rank"))) := fn_TI (ι := (List Int) × (List Int)) F_l_around sc_l_around (by decide) (fun i ho cdv A outer s H E Fr hr hio => r_l_around B c_l_held c_l_rest c_l_take c_l_lot c_l_plus hr hio i.1 i.2 ho)
  have o_f_is_row : FnOk P w K mg base CX0 1 (ga K "is_row") fd_f_is_row ["value"] (spF K 1 (T_f_is_row (ga K "Rank"))) := fn_T (ι := List Int) F_f_is_row sc_f_is_row (by decide) (fun i ho cdv A outer s H E Fr hr hio => r_f_is_row B hr hio i)
  have o_f_is_integer : FnOk P w K mg base CX0 1 (ga K "is_integer") fd_f_is_integer ["value"] (spF K 1 (T_f_is_integer (ga K "Rank"))) := fn_T (ι := Int) F_f_is_integer sc_f_is_integer (by decide) (fun i ho cdv A outer s H E Fr hr hio => r_f_is_integer B hr hio i)
  have o_f_cells_by : FnOk P w K mg base CX0 1 (ga K "cells_by") fd_f_cells_by ["numbers"] (spFN K 1 (T_f_cells_by (ga K "Rank"))) := fn_TN (ι := List Int) F_f_cells_by sc_f_cells_by (by decide) (fun i ho cdv A outer s H E Fr hr hio => r_f_cells_by B hr hio i ho)
  have o_f_is_row_2 : FnOk P w K mg base CX0 1 (ga K "is_row") fd_f_is_row ["value"] (spF K 1 (T_f_is_row_2 (ga K "Rank"))) := fn_T (ι := List (List Int)) F_f_is_row sc_f_is_row_2 (by decide) (fun i ho cdv A outer s H E Fr hr hio => r_f_is_row_2 B hr hio i)
  have c_f_is_integer : Ca P w K mg base "is_integer" 1 (spF K 1 (T_f_is_integer (ga K "Rank"))) := ⟨_, fd_f_is_integer, _, o_f_is_integer, glo_ok X Gm (c.a.fact 10 (f := .glo "is_integer") rfl), D_f_is_integer.kp, b_f_is_integer⟩
  have o_f_is_within : FnOk P w K mg base CX0 2 (ga K "is_within") fd_f_is_within ["value", "low", "high"] (spF K 3 (T_f_is_within (ga K "Rank"))) := fn_T (ι := Int × Int × Int) F_f_is_within sc_f_is_within (by decide) (fun i ho cdv A outer s H E Fr hr hio => r_f_is_within B c_f_is_integer hr hio i.1 i.2.1 i.2.2)
  have c_f_is_row_2 : Ca P w K mg base "is_row" 1 (spF K 1 (T_f_is_row_2 (ga K "Rank"))) := ⟨_, fd_f_is_row, _, o_f_is_row_2, glo_ok X Gm (c.a.fact 9 (f := .glo "is_row") rfl), D_f_is_row.kp, b_f_is_row⟩
  have c_f_is_row : Ca P w K mg base "is_row" 1 (spF K 1 (T_f_is_row (ga K "Rank"))) := ⟨_, fd_f_is_row, _, o_f_is_row, glo_ok X Gm (c.a.fact 9 (f := .glo "is_row") rfl), D_f_is_row.kp, b_f_is_row⟩
  have c_f_is_within : Ca P w K mg base "is_within" 2 (spF K 3 (T_f_is_within (ga K "Rank"))) := ⟨_, fd_f_is_within, _, o_f_is_within, glo_ok X Gm (c.a.fact 12 (f := .glo "is_within") rfl), D_f_is_within.kp, b_f_is_within⟩
  have o_f_cells_fault : FnOk P w K mg base CX0 3 (ga K "cells_fault") fd_f_cells_fault ["cells"] (spF K 1 (T_f_cells_fault (ga K "Rank"))) := fn_T (ι := List (List Int)) F_f_cells_fault sc_f_cells_fault (by decide) (fun i ho cdv A outer s H E Fr hr hio => r_f_cells_fault B c_f_is_row_2 c_f_is_row c_f_is_within hr hio i ho)
  have o_f_levels_of : FnOk P w K mg base CX0 1 (ga K "levels_of") fd_f_levels_of ["cells"] (spF K 1 (T_f_levels_of (ga K "Rank"))) := fn_T (ι := List (List Int)) F_f_levels_of sc_f_levels_of (by decide) (fun i ho cdv A outer s H E Fr hr hio => r_f_levels_of B hr hio i ho)
  have c_f_cells_fault : Ca P w K mg base "cells_fault" 3 (spF K 1 (T_f_cells_fault (ga K "Rank"))) := ⟨_, fd_f_cells_fault, _, o_f_cells_fault, glo_ok X Gm (c.a.fact 13 (f := .glo "cells_fault") rfl), D_f_cells_fault.kp, b_f_cells_fault⟩
  have c_f_levels_of : Ca P w K mg base "levels_of" 1 (spF K 1 (T_f_levels_of (ga K "Rank"))) := ⟨_, fd_f_levels_of, _, o_f_levels_of, glo_ok X Gm (c.a.fact 14 (f := .glo "levels_of") rfl), D_f_levels_of.kp, b_f_levels_of⟩
  have o_f_Rank__init__ : FnOk P w K mg base CX0 4 (ma K (ga K "Rank") "__init__") fd_f_Rank__init__ ["self", "cells"] (spIn K (ga K "Rank") 1 (T_f_Rank__init__ (ga K "Rank"))) := fn_TIn (ι := List (List Int)) F_f_Rank__init__ sc_f_Rank__init__ (by decide) rfl (fun i => rfl) (fun i ho cdv A outer s H E Fr hr hio => r_f_Rank__init__ B c_f_cells_fault c_f_levels_of hr hio i ho)
  have c_f_cells_by : Ca P w K mg base "cells_by" 1 (spFN K 1 (T_f_cells_by (ga K "Rank"))) := ⟨_, fd_f_cells_by, _, o_f_cells_by, glo_ok X Gm (c.a.fact 11 (f := .glo "cells_by") rfl), D_f_cells_by.kp, b_f_cells_by⟩
  have mk_f_Rank__init__ : Mkr P w K mg base (ga K "Rank") 4 (spIn K (ga K "Rank") 1 (T_f_Rank__init__ (ga K "Rank"))) := ⟨_, fd_f_Rank__init__, _, mkr_ok (c.a.fact 68 (f := .mkr "Rank") rfl), o_f_Rank__init__, b_f_Rank__init__⟩
  have o_f_Rank_of_levels : FnOk P w K mg base CX0 6 (He5.wf K (ga K "Rank") "classmethod" "of_levels") fd_f_Rank_of_levels ["cls", "numbers"] (spF K 2 (T_f_Rank_of_levels (ga K "Rank"))) := fn_T (ι := List Int) F_f_Rank_of_levels sc_f_Rank_of_levels (by decide) (fun i ho cdv A outer s H E Fr hr hio => r_f_Rank_of_levels B c_f_is_row c_f_is_integer c_f_cells_by mk_f_Rank__init__ hr hio i ho)
  have o_l_best : FnOk P w K mg base CX0 1 (ga K "_law_best") fd_l_best ["_law_levels", "_law_lot_here"] (spF K 2 (T_l_best (ga K "Rank"))) := fn_T (ι := (List Int) × (List Int)) F_l_best sc_l_best (by decide) (fun i ho cdv A outer s H E Fr hr hio => r_l_best B hr hio i.1 i.2 ho)
  have o_f_check_worlds : FnOk P w K mg base CX0 3 (ga K "check_worlds") fd_f_check_worlds ["worlds", "most"] (spF K 2 (T_f_check_worlds (ga K "Rank"))) := fn_PD (ι := Int × Int) D_f_check_worlds sc_f_check_worlds (by decide) (fun i ho cdv A outer s H E Fr hr hio => r_f_check_worlds B c_f_is_within hr hio i.1 i.2 ho)
  have o_f_is_row_3 : FnOk P w K mg base CX0 1 (ga K "is_row") fd_f_is_row ["value"] (spF K 1 (T_f_is_row_3 (ga K "Rank"))) := fn_T (ι := List Int) F_f_is_row sc_f_is_row_3 (by decide) (fun i ho cdv A outer s H E Fr hr hio => r_f_is_row_3 B hr hio i)
  have o_f_wrong_entry : FnOk P w K mg base CX0 3 (ga K "wrong_entry") fd_f_wrong_entry ["entries", "count"] (spF K 2 (T_f_wrong_entry (ga K "Rank"))) := fn_T (ι := (List Int) × Int) F_f_wrong_entry sc_f_wrong_entry (by decide) (fun i ho cdv A outer s H E Fr hr hio => r_f_wrong_entry B c_f_is_within hr hio i.1 i.2)
  have c_f_is_row_3 : Ca P w K mg base "is_row" 1 (spF K 1 (T_f_is_row_3 (ga K "Rank"))) := ⟨_, fd_f_is_row, _, o_f_is_row_3, glo_ok X Gm (c.a.fact 9 (f := .glo "is_row") rfl), D_f_is_row.kp, b_f_is_row⟩
  have c_f_wrong_entry : Ca P w K mg base "wrong_entry" 3 (spF K 2 (T_f_wrong_entry (ga K "Rank"))) := ⟨_, fd_f_wrong_entry, _, o_f_wrong_entry, glo_ok X Gm (c.a.fact 17 (f := .glo "wrong_entry") rfl), D_f_wrong_entry.kp, b_f_wrong_entry⟩
  have o_f_lot_fault : FnOk P w K mg base CX0 4 (ga K "lot_fault") fd_f_lot_fault ["lot", "worlds"] (spF K 2 (T_f_lot_fault (ga K "Rank"))) := fn_T (ι := (List Int) × Int) F_f_lot_fault sc_f_lot_fault (by decide) (fun i ho cdv A outer s H E Fr hr hio => r_f_lot_fault B c_f_is_row_3 c_f_wrong_entry hr hio i.1 i.2)
  have d1_f_check_worlds : CaD P w K mg base "check_worlds" 3 (spF K 2 (T_f_check_worlds (ga K "Rank"))) [.int 12] := by
    obtain ⟨ds, r, b⟩ := L2.FunD.binds1 (ps := ["worlds", "most"]) D_f_check_worlds 1 0 (by decide) (by decide) fun _ _ _ _ _ _ _ us its h1 h2 => match us, its, h1, h2 with | [_], [_], _, _ => ⟨_, rfl, rfl⟩
    exact ⟨_, fd_f_check_worlds, _, ds, _, o_f_check_worlds, glo_ok X Gm (c.a.fact 16 (f := .glo "check_worlds") rfl), D_f_check_worlds.kp, b, r, fun H => (.cons (.int _) .nil)⟩
  have c_f_lot_fault : Ca P w K mg base "lot_fault" 4 (spF K 2 (T_f_lot_fault (ga K "Rank"))) := ⟨_, fd_f_lot_fault, _, o_f_lot_fault, glo_ok X Gm (c.a.fact 18 (f := .glo "lot_fault") rfl), D_f_lot_fault.kp, b_f_lot_fault⟩
  have o_f_lot_of : FnOk P w K mg base CX0 5 (ga K "lot_of") fd_f_lot_of ["lot", "worlds", "empty"] (spF K 3 (T_f_lot_of (ga K "Rank"))) := fn_T (ι := (List Int) × Int × Bool) F_f_lot_of sc_f_lot_of (by decide) (fun i ho cdv A outer s H E Fr hr hio => r_f_lot_of B d1_f_check_worlds c_f_lot_fault hr hio i.1 i.2.1 i.2.2 ho)
  have d2_f_lot_of : CaD P w K mg base "lot_of" 5 (spF K 3 (T_f_lot_of (ga K "Rank"))) [.bl true] := by
    obtain ⟨ds, r, b⟩ := L2.FunD.binds0 (ps := ["lot", "worlds", "empty"]) D_f_lot_of 2 (by decide) (by decide) fun _ _ _ _ _ _ us ks h1 h2 => match us, ks, h1, h2 with | [_, _], [_], _, _ => ⟨_, _, _, _, _, _, rfl, rfl, rfl⟩
    exact ⟨_, fd_f_lot_of, _, ds, _, o_f_lot_of, glo_ok X Gm (c.a.fact 19 (f := .glo "lot_of") rfl), D_f_lot_of.kp, b, r, fun H => (.cons (.bl _) .nil)⟩
  have o_f_lot_but_all : FnOk P w K mg base CX0 6 (ga K "lot_but_all") fd_f_lot_but_all ["lot", "worlds"] (spF K 2 (T_f_lot_but_all (ga K "Rank"))) := fn_T (ι := (List Int) × Int) F_f_lot_but_all sc_f_lot_but_all (by decide) (fun i ho cdv A outer s H E Fr hr hio => r_f_lot_but_all B d2_f_lot_of hr hio i.1 i.2 ho)
  have o_f_Rank_held : FnOk P w K mg base CX0 1 (He5.wf K (ga K "Rank") "property" "held") fd_f_Rank_held ["self"] (spF K 1 (T_f_Rank_held (ga K "Rank"))) := fn_T (ι := Rank) F_f_Rank_held sc_f_Rank_held (by decide) (fun i ho cdv A outer s H E Fr hr hio => r_f_Rank_held B hr hio i ho)
  have o_f_inside : FnOk P w K mg base CX0 1 (ga K "inside") fd_f_inside ["one", "other"] (spF K 2 (T_f_inside (ga K "Rank"))) := fn_T (ι := (List Int) × (List Int)) F_f_inside sc_f_inside (by decide) (fun i ho cdv A outer s H E Fr hr hio => r_f_inside B hr hio i.1 i.2)
  have o_f_every : FnOk P w K mg base CX0 4 (ga K "every") fd_f_every ["worlds"] (spF K 1 (T_f_every (ga K "Rank"))) := fn_T (ι := Int) F_f_every sc_f_every (by decide) (fun i ho cdv A outer s H E Fr hr hio => r_f_every B d1_f_check_worlds hr hio i ho)
  have o_f_minus : FnOk P w K mg base CX0 1 (ga K "minus") fd_f_minus ["one", "other"] (spF K 2 (T_f_minus (ga K "Rank"))) := fn_T (ι := (List Int) × (List Int)) F_f_minus sc_f_minus (by decide) (fun i ho cdv A outer s H E Fr hr hio => r_f_minus B hr hio i.1 i.2)
  have c_f_every : Ca P w K mg base "every" 4 (spF K 1 (T_f_every (ga K "Rank"))) := ⟨_, fd_f_every, _, o_f_every, glo_ok X Gm (c.a.fact 22 (f := .glo "every") rfl), D_f_every.kp, b_f_every⟩
  have c_f_minus : Ca P w K mg base "minus" 1 (spF K 2 (T_f_minus (ga K "Rank"))) := ⟨_, fd_f_minus, _, o_f_minus, glo_ok X Gm (c.a.fact 23 (f := .glo "minus") rfl), D_f_minus.kp, b_f_minus⟩
  have o_f_rest_of : FnOk P w K mg base CX0 6 (ga K "rest_of") fd_f_rest_of ["lot", "worlds"] (spF K 2 (T_f_rest_of (ga K "Rank"))) := fn_T (ι := (List Int) × Int) F_f_rest_of sc_f_rest_of (by decide) (fun i ho cdv A outer s H E Fr hr hio => r_f_rest_of B c_f_every d2_f_lot_of c_f_minus hr hio i.1 i.2 ho)
  have o_f_common : FnOk P w K mg base CX0 1 (ga K "common") fd_f_common ["one", "other"] (spF K 2 (T_f_common (ga K "Rank"))) := fn_T (ι := (List Int) × (List Int)) F_f_common sc_f_common (by decide) (fun i ho cdv A outer s H E Fr hr hio => r_f_common B hr hio i.1 i.2)
  have k2_f_lot_of : CaK P w K mg base "lot_of" 5 2 ["empty"] (spF K 3 (T_f_lot_of (ga K "Rank"))) := ⟨_, fd_f_lot_of, _, _, _, o_f_lot_of, glo_ok X Gm (c.a.fact 19 (f := .glo "lot_of") rfl), D_f_lot_of.kp, kbn_all (ps := ["lot", "worlds", "empty"]) D_f_lot_of fun _ _ _ _ _ _ us ws h1 h2 => match us, ws, h1, h2 with | [_, _], [_], _, _ => rfl, fun _ _ _ _ => rfl⟩
  have c_f_common : Ca P w K mg base "common" 1 (spF K 2 (T_f_common (ga K "Rank"))) := ⟨_, fd_f_common, _, o_f_common, glo_ok X Gm (c.a.fact 25 (f := .glo "common") rfl), D_f_common.kp, b_f_common⟩
  have o_f_Rank_best : FnOk P w K mg base CX0 6 (ma K (ga K "Rank") "best") fd_f_Rank_best ["self", "lot"] (spF K 2 (T_f_Rank_best (ga K "Rank"))) := fn_T (ι := Rank × (List Int)) F_f_Rank_best sc_f_Rank_best (by decide) (fun i ho cdv A outer s H E Fr hr hio => r_f_Rank_best B k2_f_lot_of c_f_common hr hio i.1 i.2 ho)
  have o_f_plus : FnOk P w K mg base CX0 1 (ga K "plus") fd_f_plus ["one", "other"] (spF K 2 (T_f_plus (ga K "Rank"))) := fn_T (ι := (List Int) × (List Int)) F_f_plus sc_f_plus (by decide) (fun i ho cdv A outer s H E Fr hr hio => r_f_plus B hr hio i.1 i.2 ho)
  have o_f_parts_out : FnOk P w K mg base CX0 2 (ga K "parts_out") fd_f_parts_out ["cells", "lot"] (spFN K 2 (T_f_parts_out (ga K "Rank"))) := fn_TN (ι := (List (List Int)) × (List Int)) F_f_parts_out sc_f_parts_out (by decide) (fun i ho cdv A outer s H E Fr hr hio => r_f_parts_out B c_f_minus hr hio i.1 i.2)
  have o_f_is_row_4 : FnOk P w K mg base CX0 1 (ga K "is_row") fd_f_is_row ["value"] (spF K 1 (T_f_is_row_4 (ga K "Rank"))) := fn_T (ι := List (List Int)) F_f_is_row sc_f_is_row_4 (by decide) (fun i ho cdv A outer s H E Fr hr hio => r_f_is_row_4 B hr hio i)
  have c_f_is_row_4 : Ca P w K mg base "is_row" 1 (spF K 1 (T_f_is_row_4 (ga K "Rank"))) := ⟨_, fd_f_is_row, _, o_f_is_row_4, glo_ok X Gm (c.a.fact 9 (f := .glo "is_row") rfl), D_f_is_row.kp, b_f_is_row⟩
  have o_f_cells_fault_2 : FnOk P w K mg base CX0 3 (ga K "cells_fault") fd_f_cells_fault ["cells"] (spF K 1 (T_f_cells_fault_2 (ga K "Rank"))) := fn_T (ι := List (List Int)) F_f_cells_fault sc_f_cells_fault_2 (by decide) (fun i ho cdv A outer s H E Fr hr hio => r_f_cells_fault_2 B c_f_is_row_4 c_f_is_row_3 c_f_is_within hr hio i ho)
  have c_f_cells_fault_2 : Ca P w K mg base "cells_fault" 3 (spF K 1 (T_f_cells_fault_2 (ga K "Rank"))) := ⟨_, fd_f_cells_fault, _, o_f_cells_fault_2, glo_ok X Gm (c.a.fact 13 (f := .glo "cells_fault") rfl), D_f_cells_fault.kp, b_f_cells_fault⟩
  have o_f_Rank__init___2 : FnOk P w K mg base CX0 4 (ma K (ga K "Rank") "__init__") fd_f_Rank__init__ ["self", "cells"] (spIn K (ga K "Rank") 1 (T_f_Rank__init___2 (ga K "Rank"))) := fn_TIn (ι := List (List Int)) F_f_Rank__init__ sc_f_Rank__init___2 (by decide) rfl (fun i => rfl) (fun i ho cdv A outer s H E Fr hr hio => r_f_Rank__init___2 B c_f_cells_fault_2 c_f_levels_of hr hio i ho)
  have c_f_lot_but_all : Ca P w K mg base "lot_but_all" 6 (spF K 2 (T_f_lot_but_all (ga K "Rank"))) := ⟨_, fd_f_lot_but_all, _, o_f_lot_but_all, glo_ok X Gm (c.a.fact 20 (f := .glo "lot_but_all") rfl), D_f_lot_but_all.kp, b_f_lot_but_all⟩
  have p_f_Rank_held : Prp P w K mg base (ga K "Rank") "held" 1 (spF K 1 (T_f_Rank_held (ga K "Rank"))) := ⟨_, _, fd_f_Rank_held, _, B.cl_Rank, propB_ok (ba (ba (ba (ba hx).2).2).2).1, o_f_Rank_held, b_f_Rank_held⟩
  have c_f_inside : Ca P w K mg base "inside" 1 (spF K 2 (T_f_inside (ga K "Rank"))) := ⟨_, fd_f_inside, _, o_f_inside, glo_ok X Gm (c.a.fact 21 (f := .glo "inside") rfl), D_f_inside.kp, b_f_inside⟩
  have c_f_rest_of : Ca P w K mg base "rest_of" 6 (spF K 2 (T_f_rest_of (ga K "Rank"))) := ⟨_, fd_f_rest_of, _, o_f_rest_of, glo_ok X Gm (c.a.fact 24 (f := .glo "rest_of") rfl), D_f_rest_of.kp, b_f_rest_of⟩
  have m_f_Rank_best : Mth P w K mg base (ga K "Rank") "best" 6 (spF K 2 (T_f_Rank_best (ga K "Rank"))) := ⟨_, fd_f_Rank_best, _, B.cl_Rank, meth_ok (c.a.fact 73 (f := .meth "Rank" "best") rfl), o_f_Rank_best, b_f_Rank_best⟩
  have c_f_plus : Ca P w K mg base "plus" 1 (spF K 2 (T_f_plus (ga K "Rank"))) := ⟨_, fd_f_plus, _, o_f_plus, glo_ok X Gm (c.a.fact 26 (f := .glo "plus") rfl), D_f_plus.kp, b_f_plus⟩
  have c_f_parts_out : Ca P w K mg base "parts_out" 2 (spFN K 2 (T_f_parts_out (ga K "Rank"))) := ⟨_, fd_f_parts_out, _, o_f_parts_out, glo_ok X Gm (c.a.fact 27 (f := .glo "parts_out") rfl), D_f_parts_out.kp, b_f_parts_out⟩
  have mk_f_Rank__init___2 : Mkr P w K mg base (ga K "Rank") 4 (spIn K (ga K "Rank") 1 (T_f_Rank__init___2 (ga K "Rank"))) := ⟨_, fd_f_Rank__init__, _, mkr_ok (c.a.fact 68 (f := .mkr "Rank") rfl), o_f_Rank__init___2, b_f_Rank__init__⟩
  have o_f_levelled : FnOk P w K mg base CX0 7 (ga K "levelled") fd_f_levelled ["rank", "lot"] (spF K 2 (T_f_levelled (ga K "Rank"))) := fn_T (ι := Rank × (List Int)) F_f_levelled sc_f_levelled (by decide) (fun i ho cdv A outer s H E Fr hr hio => r_f_levelled B c_f_lot_but_all p_f_Rank_held c_f_inside c_f_rest_of m_f_Rank_best c_f_plus c_f_parts_out mk_f_Rank__init___2 hr hio i.1 i.2 ho)
  have o_l_product : FnOk P w K mg base CX0 2 (ga K "_law_product") fd_l_product ["_law_one", "_law_other"] (spFN K 2 (T_l_product (ga K "Rank"))) := fn_TN (ι := (List Int) × (List Int)) F_l_product sc_l_product (by decide) (fun i ho cdv A outer s H E Fr hr hio => r_l_product B c_l_dense hr hio i.1 i.2 ho)
  have o_l_inside : FnOk P w K mg base CX0 1 (ga K "_law_inside") fd_l_inside ["_law_one", "_law_other"] (spF K 2 (T_l_inside (ga K "Rank"))) := fn_T (ι := (List Int) × (List Int)) F_l_inside sc_l_inside (by decide) (fun i ho cdv A outer s H E Fr hr hio => r_l_inside B hr hio i.1 i.2)
  have c_l_product : Ca P w K mg base "_law_product" 2 (spFN K 2 (T_l_product (ga K "Rank"))) := ⟨_, fd_l_product, _, o_l_product, glo_ok X Gm (c.a.fact 29 (f := .glo "_law_product") rfl), D_l_product.kp, b_l_product⟩
  have c_l_best : Ca P w K mg base "_law_best" 1 (spF K 2 (T_l_best (ga K "Rank"))) := ⟨_, fd_l_best, _, o_l_best, glo_ok X Gm (c.a.fact 15 (f := .glo "_law_best") rfl), D_l_best.kp, b_l_best⟩
  have c_l_inside : Ca P w K mg base "_law_inside" 1 (spF K 2 (T_l_inside (ga K "Rank"))) := ⟨_, fd_l_inside, _, o_l_inside, glo_ok X Gm (c.a.fact 30 (f := .glo "_law_inside") rfl), D_l_inside.kp, b_l_inside⟩
  have o_l_turn : FnOk P w K mg base CX0 3 (ga K "_law_turn") fd_l_turn ["_law_levels", "_law_word", "_law_lot_here"] (spFN K 3 (T_l_turn (ga K "Rank"))) := fn_TN (ι := (List Int) × Str × (List Int)) F_l_turn sc_l_turn (by decide) (fun i ho cdv A outer s H E Fr hr hio => r_l_turn B c_l_product c_l_best c_l_dense c_l_held c_l_inside c_l_rest c_l_plus hr hio i.1 i.2.1 i.2.2 ho)
  have o_l_cells : FnOk P w K mg base CX0 1 (ga K "_law_cells") fd_l_cells ["_law_levels"] (spF K 1 (T_l_cells (ga K "Rank"))) := fn_T (ι := List Int) F_l_cells sc_l_cells (by decide) (fun i ho cdv A outer s H E Fr hr hio => r_l_cells B hr hio i ho)
  have o_f_Rank__eq__ : FnOk P w K mg base CX0 1 (ma K (ga K "Rank") "__eq__") fd_f_Rank__eq__ ["self", "other"] (spF K 2 (T_f_Rank__eq__ (ga K "Rank"))) := fn_T (ι := Rank × Rank) F_f_Rank__eq__ sc_f_Rank__eq__ (by decide) (fun i ho cdv A outer s H E Fr hr hio => r_f_Rank__eq__ B hr hio i.1 i.2)
  have o_f_Rank_behind_best : FnOk P w K mg base CX0 7 (ma K (ga K "Rank") "behind_best") fd_f_Rank_behind_best ["self", "lot"] (spF K 2 (T_f_Rank_behind_best (ga K "Rank"))) := fn_T (ι := Rank × (List Int)) F_f_Rank_behind_best sc_f_Rank_behind_best (by decide) (fun i ho cdv A outer s H E Fr hr hio => r_f_Rank_behind_best B m_f_Rank_best hr hio i.1 i.2 ho)
  have o_f_parts_in : FnOk P w K mg base CX0 2 (ga K "parts_in") fd_f_parts_in ["cells", "lot"] (spFN K 2 (T_f_parts_in (ga K "Rank"))) := fn_TN (ι := (List (List Int)) × (List Int)) F_f_parts_in sc_f_parts_in (by decide) (fun i ho cdv A outer s H E Fr hr hio => r_f_parts_in B c_f_common hr hio i.1 i.2)
  have m_f_Rank_behind_best : Mth P w K mg base (ga K "Rank") "behind_best" 7 (spF K 2 (T_f_Rank_behind_best (ga K "Rank"))) := ⟨_, fd_f_Rank_behind_best, _, B.cl_Rank, meth_ok (c.a.fact 74 (f := .meth "Rank" "behind_best") rfl), o_f_Rank_behind_best, b_f_Rank_behind_best⟩
  have c_f_parts_in : Ca P w K mg base "parts_in" 2 (spFN K 2 (T_f_parts_in (ga K "Rank"))) := ⟨_, fd_f_parts_in, _, o_f_parts_in, glo_ok X Gm (c.a.fact 33 (f := .glo "parts_in") rfl), D_f_parts_in.kp, b_f_parts_in⟩
  have o_f_sunk : FnOk P w K mg base CX0 8 (ga K "sunk") fd_f_sunk ["rank", "lot"] (spF K 2 (T_f_sunk (ga K "Rank"))) := fn_T (ι := Rank × (List Int)) F_f_sunk sc_f_sunk (by decide) (fun i ho cdv A outer s H E Fr hr hio => r_f_sunk B c_f_lot_but_all p_f_Rank_held c_f_inside c_f_rest_of m_f_Rank_behind_best c_f_parts_in mk_f_Rank__init___2 hr hio i.1 i.2 ho)
  have cm_f_Rank_of_levels : CMt P w K mg base (ga K "Rank") "of_levels" 6 (spF K 2 (T_f_Rank_of_levels (ga K "Rank"))) := ⟨_, _, _, creadB_ok (ba (ba hx).2).1, cmB_ok (ba (ba (ba hx).2).2).1, fnR_of o_f_Rank_of_levels b_f_Rank_of_levels⟩
  have c_f_levelled : Ca P w K mg base "levelled" 7 (spF K 2 (T_f_levelled (ga K "Rank"))) := ⟨_, fd_f_levelled, _, o_f_levelled, glo_ok X Gm (c.a.fact 28 (f := .glo "levelled") rfl), D_f_levelled.kp, b_f_levelled⟩
  have c_l_turn : Ca P w K mg base "_law_turn" 3 (spFN K 3 (T_l_turn (ga K "Rank"))) := ⟨_, fd_l_turn, _, o_l_turn, glo_ok X Gm (c.a.fact 31 (f := .glo "_law_turn") rfl), D_l_turn.kp, b_l_turn⟩
  have c_l_cells : Ca P w K mg base "_law_cells" 1 (spF K 1 (T_l_cells (ga K "Rank"))) := ⟨_, fd_l_cells, _, o_l_cells, glo_ok X Gm (c.a.fact 32 (f := .glo "_law_cells") rfl), D_l_cells.kp, b_l_cells⟩
  have eq_f_Rank__eq__ : EqC P w K mg base (ga K "Rank") 1 (spF K 2 (T_f_Rank__eq__ (ga K "Rank"))) := ⟨_, fd_f_Rank__eq__, _, (eqB_ok (ba (ba (ba (ba (ba hx).2).2).2).2).1).1, (eqB_ok (ba (ba (ba (ba (ba hx).2).2).2).2).1).2.1, (eqB_ok (ba (ba (ba (ba (ba hx).2).2).2).2).1).2.2, o_f_Rank__eq__, b_f_Rank__eq__⟩
  have c_f_sunk : Ca P w K mg base "sunk" 8 (spF K 2 (T_f_sunk (ga K "Rank"))) := ⟨_, fd_f_sunk, _, o_f_sunk, glo_ok X Gm (c.a.fact 34 (f := .glo "sunk") rfl), D_f_sunk.kp, b_f_sunk⟩
  have o_l_two_levels : FnOk P w K mg base CX0 9 (ga K "_law_two_levels") fd_l_two_levels ["_law_levels", "_law_one", "_law_other"] (spF K 3 (T_l_two_levels (ga K "Rank"))) := fn_T (ι := (List Int) × (List Int) × (List Int)) F_l_two_levels sc_l_two_levels (by decide) (fun i ho cdv A outer s H E Fr hr hio => r_l_two_levels B cm_f_Rank_of_levels c_l_rest c_l_best c_f_levelled c_l_turn c_l_cells c_l_inside eq_f_Rank__eq__ p_f_Rank_held c_l_held c_l_plus c_f_sunk hr hio i.1 i.2.1 i.2.2 ho)
  have ne_f_Rank__eq__ : NeC P w K mg base (ga K "Rank") 1 (spF K 2 (T_f_Rank__eq__ (ga K "Rank"))) := ⟨_, fd_f_Rank__eq__, _, (neB_ok (ba (ba (ba (ba (ba (ba hx).2).2).2).2).2).1).1, (neB_ok (ba (ba (ba (ba (ba (ba hx).2).2).2).2).2).1).2, (eqB_ok (ba (ba (ba (ba (ba hx).2).2).2).2).1).1, (eqB_ok (ba (ba (ba (ba (ba hx).2).2).2).2).1).2.1, o_f_Rank__eq__, b_f_Rank__eq__⟩
  have o_l_one_lot : FnOk P w K mg base CX0 9 (ga K "_law_one_lot") fd_l_one_lot ["_law_levels", "_law_lot_here"] (spF K 2 (T_l_one_lot (ga K "Rank"))) := fn_T (ι := (List Int) × (List Int)) F_l_one_lot sc_l_one_lot (by decide) (fun i ho cdv A outer s H E Fr hr hio => r_l_one_lot B cm_f_Rank_of_levels c_f_sunk c_f_levelled ne_f_Rank__eq__ c_l_turn c_l_cells hr hio i.1 i.2 ho)
  have o_l_short : FnOk P w K mg base CX0 3 (ga K "_law_short") fd_l_short ["_law_draws_here", "_law_worlds"] (spIO K 2 (T_l_short (ga K "Rank"))) := fn_TI (ι := (List Int) × Int) F_l_short sc_l_short (by decide) (fun i ho cdv A outer s H E Fr hr hio => r_l_short B c_l_take c_l_lot hr hio i.1 i.2 ho)
  have o_f_check_word : FnOk P w K mg base CX0 1 (ga K "check_word") fd_f_check_word ["word"] (spF K 1 (T_f_check_word (ga K "Rank"))) := fn_P (ι := Str) F_f_check_word sc_f_check_word (by decide) (fun i ho cdv A outer s H E Fr hr hio => r_f_check_word B hr hio i ho)
  have o_f_led : FnOk P w K mg base CX0 6 (ga K "led") fd_f_led ["rank", "lot"] (spF K 2 (T_f_led (ga K "Rank"))) := fn_T (ι := Rank × (List Int)) F_f_led sc_f_led (by decide) (fun i ho cdv A outer s H E Fr hr hio => r_f_led B k2_f_lot_of c_f_parts_in c_f_parts_out mk_f_Rank__init___2 hr hio i.1 i.2 ho)
  have o_f_pushed : FnOk P w K mg base CX0 7 (ga K "pushed") fd_f_pushed ["rank", "lot"] (spF K 2 (T_f_pushed (ga K "Rank"))) := fn_T (ι := Rank × (List Int)) F_f_pushed sc_f_pushed (by decide) (fun i ho cdv A outer s H E Fr hr hio => r_f_pushed B m_f_Rank_best c_f_parts_out mk_f_Rank__init___2 hr hio i.1 i.2 ho)
  have o_f_parts_in_2 : FnOk P w K mg base CX0 2 (ga K "parts_in") fd_f_parts_in ["cells", "lot"] (spFN K 2 (T_f_parts_in_2 (ga K "Rank"))) := fn_TN (ι := (List (List Int)) × (List Int)) F_f_parts_in sc_f_parts_in_2 (by decide) (fun i ho cdv A outer s H E Fr hr hio => r_f_parts_in_2 B c_f_common hr hio i.1 i.2)
  have o_f_parts_out_2 : FnOk P w K mg base CX0 2 (ga K "parts_out") fd_f_parts_out ["cells", "lot"] (spFN K 2 (T_f_parts_out_2 (ga K "Rank"))) := fn_TN (ι := (List (List Int)) × (List Int)) F_f_parts_out sc_f_parts_out_2 (by decide) (fun i ho cdv A outer s H E Fr hr hio => r_f_parts_out_2 B c_f_minus hr hio i.1 i.2)
  have c_f_parts_in_2 : Ca P w K mg base "parts_in" 2 (spFN K 2 (T_f_parts_in_2 (ga K "Rank"))) := ⟨_, fd_f_parts_in, _, o_f_parts_in_2, glo_ok X Gm (c.a.fact 33 (f := .glo "parts_in") rfl), D_f_parts_in.kp, b_f_parts_in⟩
  have c_f_parts_out_2 : Ca P w K mg base "parts_out" 2 (spFN K 2 (T_f_parts_out_2 (ga K "Rank"))) := ⟨_, fd_f_parts_out, _, o_f_parts_out_2, glo_ok X Gm (c.a.fact 27 (f := .glo "parts_out") rfl), D_f_parts_out.kp, b_f_parts_out⟩
  have o_f_leaned : FnOk P w K mg base CX0 7 (ga K "leaned") fd_f_leaned ["rank", "lot"] (spF K 2 (T_f_leaned (ga K "Rank"))) := fn_T (ι := Rank × (List Int)) F_f_leaned sc_f_leaned (by decide) (fun i ho cdv A outer s H E Fr hr hio => r_f_leaned B m_f_Rank_best c_f_parts_out c_f_parts_in_2 c_f_parts_out_2 mk_f_Rank__init___2 hr hio i.1 i.2 ho)
  have o_f_unturned : FnOk P w K mg base CX0 6 (ga K "unturned") fd_f_unturned ["rank", "lot"] (spF K 2 (T_f_unturned (ga K "Rank"))) := fn_T (ι := Rank × (List Int)) F_f_unturned sc_f_unturned (by decide) (fun i ho cdv A outer s H E Fr hr hio => r_f_unturned B k2_f_lot_of hr hio i.1 i.2 ho)
  have c_f_check_word : Ca P w K mg base "check_word" 1 (spF K 1 (T_f_check_word (ga K "Rank"))) := ⟨_, fd_f_check_word, _, o_f_check_word, glo_ok X Gm (c.a.fact 38 (f := .glo "check_word") rfl), D_f_check_word.kp, b_f_check_word⟩
  have v_TURNS : ∀ z ∈ tk_TURNS, CaA P w K mg base 8 (ga K (nm_TURNS z)) 2 (Tt_TURNS (ga K "Rank") z) := by
    intro z hz
    simp only [tk_TURNS, List.mem_cons, List.not_mem_nil, or_false] at hz
    rcases hz with rfl | rfl | rfl | rfl | rfl | rfl
    · exact CaA.mono ⟨fd_f_led, _, o_f_led, D_f_led.kp, b_f_led⟩ (by decide)
    · exact CaA.mono ⟨fd_f_pushed, _, o_f_pushed, D_f_pushed.kp, b_f_pushed⟩ (by decide)
    · exact CaA.mono ⟨fd_f_leaned, _, o_f_leaned, D_f_leaned.kp, b_f_leaned⟩ (by decide)
    · exact CaA.mono ⟨fd_f_levelled, _, o_f_levelled, D_f_levelled.kp, b_f_levelled⟩ (by decide)
    · exact CaA.mono ⟨fd_f_sunk, _, o_f_sunk, D_f_sunk.kp, b_f_sunk⟩ (by decide)
    · exact CaA.mono ⟨fd_f_unturned, _, o_f_unturned, D_f_unturned.kp, b_f_unturned⟩ (by decide)
  have o_f_turned : FnOk P w K mg base CX0 9 (ga K "turned") fd_f_turned ["rank", "word", "lot"] (spF K 3 (T_f_turned (ga K "Rank"))) := fn_T (ι := Rank × Str × (List Int)) F_f_turned sc_f_turned (by decide) (fun i ho cdv A outer s H E Fr hr hio => r_f_turned B c_f_check_word v_TURNS hr hio i.1 i.2.1 i.2.2 ho)
  have c_f_turned : Ca P w K mg base "turned" 9 (spF K 3 (T_f_turned (ga K "Rank"))) := ⟨_, fd_f_turned, _, o_f_turned, glo_ok X Gm (c.a.fact 43 (f := .glo "turned") rfl), D_f_turned.kp, b_f_turned⟩
  have o_l_row : FnOk P w K mg base CX0 10 (ga K "_law_row") fd_l_row ["_law_levels", "_law_lots"] (spF K 2 (T_l_row (ga K "Rank"))) := fn_T (ι := (List Int) × (List (List Int))) F_l_row sc_l_row (by decide) (fun i ho cdv A outer s H E Fr hr hio => r_l_row B cm_f_Rank_of_levels c_f_turned c_l_turn c_l_held c_l_cells hr hio i.1 i.2 ho)
  have c_l_draws : Ca P w K mg base "_law_draws" 1 (spFN K 1 (T_l_draws (ga K "Rank"))) := ⟨_, fd_l_draws, _, o_l_draws, glo_ok X Gm (c.a.fact 0 (f := .glo "_law_draws") rfl), D_l_draws.kp, b_l_draws⟩
  have c_l_rank : Ca P w K mg base "_law_rank" 2 (spIO K 2 (T_l_rank (ga K "Rank"))) := ⟨_, fd_l_rank, _, o_l_rank, glo_ok X Gm (c.a.fact 3 (f := .glo "_law_rank") rfl), D_l_rank.kp, b_l_rank⟩
  have c_l_around : Ca P w K mg base "_law_around" 3 (spIO K 2 (T_l_around (ga K "Rank"))) := ⟨_, fd_l_around, _, o_l_around, glo_ok X Gm (c.a.fact 8 (f := .glo "_law_around") rfl), D_l_around.kp, b_l_around⟩
  have c_l_two_levels : Ca P w K mg base "_law_two_levels" 9 (spF K 3 (T_l_two_levels (ga K "Rank"))) := ⟨_, fd_l_two_levels, _, o_l_two_levels, glo_ok X Gm (c.a.fact 35 (f := .glo "_law_two_levels") rfl), D_l_two_levels.kp, b_l_two_levels⟩
  have c_l_one_lot : Ca P w K mg base "_law_one_lot" 9 (spF K 2 (T_l_one_lot (ga K "Rank"))) := ⟨_, fd_l_one_lot, _, o_l_one_lot, glo_ok X Gm (c.a.fact 36 (f := .glo "_law_one_lot") rfl), D_l_one_lot.kp, b_l_one_lot⟩
  have c_l_short : Ca P w K mg base "_law_short" 3 (spIO K 2 (T_l_short (ga K "Rank"))) := ⟨_, fd_l_short, _, o_l_short, glo_ok X Gm (c.a.fact 37 (f := .glo "_law_short") rfl), D_l_short.kp, b_l_short⟩
  have c_l_row : Ca P w K mg base "_law_row" 10 (spF K 2 (T_l_row (ga K "Rank"))) := ⟨_, fd_l_row, _, o_l_row, glo_ok X Gm (c.a.fact 44 (f := .glo "_law_row") rfl), D_l_row.kp, b_l_row⟩
  have o_l_law : FnOk P w K mg base CX0 11 (ga K "law") fd_l_law ["_law_script"] (spF K 1 (T_l_law (ga K "Rank"))) := fn_T (ι := List Int) F_l_law sc_l_law (by decide) (fun i ho cdv A outer s H E Fr hr hio => r_l_law B c_l_draws c_l_take c_l_rank c_l_dense c_l_around c_l_two_levels c_l_one_lot c_l_short c_l_held c_l_plus c_l_row hr hio i ho)
  exact o_l_law
end
end NB
end
section
set_option maxHeartbeats 4000000
namespace NB
open PySem PySem.Spec PyProof.Rows L2 DT He
def nms0 : List Str := [("_wall" : Str), ("__name__" : Str), ("NewsError" : Str), ("BadNumber" : Str), ("BadLot" : Str), ("BadRank" : Str), ("BadWord" : Str), ("OtherWorlds" : Str), ("MOST_WORLDS" : Str), ("is_integer" : Str), ("is_within" : Str), ("is_row" : Str), ("check_worlds" : Str), ("check_same_worlds" : Str), ("wrong_entry" : Str), ("lot_fault" : Str), ("lot_of" : Str), ("lot_but_all" : Str), ("every" : Str), ("rest_of" : Str), ("plus" : Str), ("common" : Str), ("minus" : Str), ("inside" : Str), ("cells_fault" : Str), ("levels_of" : Str), ("cells_by" : Str), ("Rank" : Str), ("parts_in" : Str), ("parts_out" : Str), ("led" : Str), ("pushed" : Str), ("leaned" : Str), ("levelled" : Str), ("sunk" : Str), ("unturned" : Str), ("TURNS" : Str), ("check_word" : Str), ("turned" : Str), ("_law_draws" : Str)]
def nms1 : List Str := [("_law_take" : Str), ("_law_lot" : Str), ("_law_short" : Str), ("_law_rest" : Str), ("_law_plus" : Str), ("_law_inside" : Str), ("_law_dense" : Str), ("_law_rank" : Str), ("_law_cells" : Str), ("_law_best" : Str), ("_law_held" : Str), ("_law_product" : Str), ("_law_turn" : Str), ("_law_around" : Str), ("_law_two_levels" : Str), ("_law_one_lot" : Str), ("_law_row" : Str)]
def nms : List Str := nms0 ++ nms1
abbrev R : PySem.W.OpenRow := PySem.W.OpenLaw.row PySem.Challenge.rw_newsbooks_k44_two_levels_and_sinks
abbrev hk : PySem.W.Hook := hookZ 6 fa fn ts ex
def ob (s : PySem.W.SharedT) : AlZ := obsZG 6 fa fn ts ex (HandSHeadRun.getT s)
theorem ob_eq (s : PySem.W.SharedT) : ob s = hk.obs s.abs := obsZG_eq (HandSHeadRun.getT_eq s)
set_option maxHeartbeats 0
theorem run0 (w : World) : HandSHeadRun.RunEq R (PySem.W.view R.prog [62]) hk ob 6000 nms (w.withFollow "special-get-raises" false) := by
  intro os
  kernel_rfl
theorem run1 (w : World) : HandSHeadRun.RunEq R (PySem.W.view R.prog [62]) hk ob 6000 nms (w.withFollow "special-get-raises" true) := by
  intro os
  kernel_rfl
theorem run (w : World) : HandSHeadRun.RunEq R (PySem.W.view R.prog [62]) hk ob 6000 nms w := PySem.W.byRow2 "special-get-raises" (P := fun w => HandSHeadRun.RunEq R (PySem.W.view R.prog [62]) hk ob 6000 nms w) run0 run1 w
end NB
end
section
set_option maxHeartbeats 4000000
namespace NB
open PySem PySem.Spec PyProof.Rows L2 DT He
open PySem PySem.W PySem.Calls PyProof.Rows
set_option maxHeartbeats 0
theorem holds (math : ∀ ns : List Int, ns.length ≤ 63 → ok_l_law ns ∧ l_law ns = true) : PySem.Challenge.rw_newsbooks_k44_two_levels_and_sinks.Holds := by
  w_on; o_law
  refine HandSHeadRun.head_any (r := OpenLaw.row PySem.Challenge.rw_newsbooks_k44_two_levels_and_sinks) (q := view (OpenLaw.row PySem.Challenge.rw_newsbooks_k44_two_levels_and_sinks).prog [62]) (H := hk) (ob := ob) (M := 6000) (loose := nms) (d := HandSHeadRun.topDef (OpenLaw.row PySem.Challenge.rw_newsbooks_k44_two_levels_and_sinks).prog 62) (kwd := []) ob_eq
    (by kernel_rfl) (fun s => by kernel_rfl) run (by kernel_rfl) (by kernel_rfl) (by kernel_rfl) (by rfl) (by first | assumption | decide +kernel) (by decide +kernel) ⟨rfl, rfl, rfl, rfl, rfl, by decide +kernel⟩ ?hw ?hc
  case hw => w_witness2
  case hc =>
    refine L2.walk_ofE (l := PySem.Challenge.rw_newsbooks_k44_two_levels_and_sinks) (n := 63) (k := 11) (x := "_law_script") (CX := L2.CX0) rfl (by decide) (by kernel_rfl) ⟨rfl, by decide, by decide⟩ ?F (fun _ _ _ _ z => z)
    intro w mg fa h Y Gm hmg0
    obtain ⟨K, KX, c⟩ := Y
    have hmg : mg ("law" : PySem.Str) = some (.ref fa) := by
      have e : (HandSHeadRun.topDef (OpenLaw.row PySem.Challenge.rw_newsbooks_k44_two_levels_and_sinks).prog 62).name = ("law" : PySem.Str) := by kernel_rfl
      rw [← e]
      exact hmg0
    obtain ⟨fd, hb, hF⟩ := chain (P := (PySem.Challenge.rw_newsbooks_k44_two_levels_and_sinks).prog) (w := w) KX Gm c
    have e := hmg.symm.trans (glo_ok KX Gm (c.a.fact 45 (f := .glo "law") rfl))
    cases e
    refine ⟨K, fd, _, KX, fun s u => hb s [u] rfl, fun H a ns hl _ hS => ?_, fun base _ _ => hF base⟩
    obtain ⟨m1, m2⟩ := math ns hl
    have rs : ∀ ms : List Int, Reps K H (ms.map V.int) (ms.map eI) := fun ms => by
      induction ms with
      | nil => exact .nil
      | cons m ms ih => exact .cons (.int m) ih
    refine ⟨rfl, H, _, (fun d => d = .bl true), Same.refl H, .cons (.row hS (rs ns)) .nil, ⟨ns, m1, rfl, congrArg D.bl m2⟩, fun d hd Hf' H' v _ r => ?_⟩
    subst hd
    cases r
    rfl
end NB
end
section
namespace RK
/-! ## ranks as functions of worlds -/
def idx (n : Nat) : List Int := (List.range n).map Int.ofNat
theorem mem_idx {n : Nat} {x : Int} : x ∈ idx n ↔ 0 ≤ x ∧ x < n := by
  unfold idx
  rw [List.mem_map]
  constructor
  · rintro ⟨k, hk, rfl⟩
    have := List.mem_range.mp hk
    exact ⟨Int.natCast_nonneg k, by simpa using this⟩
  · rintro ⟨h0, h1⟩
    exact ⟨x.toNat, List.mem_range.mpr (by omega), Int.toNat_of_nonneg h0⟩
abbrev SS (l : List Int) : Prop := l.Pairwise (· < ·)
theorem ss_idx (n : Nat) : SS (idx n) := by
  unfold idx SS
  rw [List.pairwise_map]
  exact List.Pairwise.imp (fun h => by simpa using h) List.pairwise_lt_range
theorem ss_ext : ∀ {a b : List Int}, SS a → SS b → (∀ x, x ∈ a ↔ x ∈ b) → a = b
  | [], [], _, _, _ => rfl
  | [], y :: b, _, _, h => by have := (h y).mpr (by simp); simp at this
  | x :: a, [], _, _, h => by have := (h x).mp (by simp); simp at this
  | x :: a, y :: b, ha, hb, h => by
    have ha' := List.pairwise_cons.mp ha
    have hb' := List.pairwise_cons.mp hb
    have e : x = y := by
      rcases List.mem_cons.mp ((h x).mp (by simp)) with e | e
      · exact e
      · rcases List.mem_cons.mp ((h y).mpr (by simp)) with e' | e'
        · exact e'.symm
        · have := ha'.1 y e'; have := hb'.1 x e; omega
    subst e
    rw [ss_ext ha'.2 hb'.2 fun z => ?_]
    constructor
    · intro hz
      rcases List.mem_cons.mp ((h z).mp (List.mem_cons_of_mem _ hz)) with e | e
      · have := ha'.1 z hz; omega
      · exact e
    · intro hz
      rcases List.mem_cons.mp ((h z).mpr (List.mem_cons_of_mem _ hz)) with e | e
      · have := hb'.1 z hz; omega
      · exact e
def insS (v : Int) : List Int → List Int
  | [] => [v]
  | w :: l => if v < w then v :: w :: l else if v = w then w :: l else w :: insS v l
def sset (l : List Int) : List Int := l.foldr insS []
theorem mem_insS {v x : Int} : ∀ {l : List Int}, x ∈ insS v l ↔ x = v ∨ x ∈ l
  | [] => by simp [insS]
  | w :: l => by
    unfold insS
    split
    · simp
    · split
      · next h => subst h; simp
      · rw [List.mem_cons, mem_insS, List.mem_cons]
        constructor
        · rintro (h | h | h) <;> simp [h]
        · rintro (h | h | h) <;> simp [h]
theorem ss_insS {v : Int} : ∀ {l : List Int}, SS l → SS (insS v l)
  | [], _ => by simp [insS]
  | w :: l, h => by
    have h' := List.pairwise_cons.mp h
    unfold insS
    split
    · next hv =>
      refine List.pairwise_cons.mpr ⟨fun y hy => ?_, h⟩
      rcases List.mem_cons.mp hy with e | e
      · rw [e]; exact hv
      · have := h'.1 y e; omega
    · split
      · exact h
      · next h1 h2 =>
        refine List.pairwise_cons.mpr ⟨fun y hy => ?_, ss_insS h'.2⟩
        rcases mem_insS.mp hy with e | e
        · omega
        · exact h'.1 y e
theorem mem_sset {x : Int} : ∀ {l : List Int}, x ∈ sset l ↔ x ∈ l
  | [] => by simp [sset]
  | v :: l => by
    show x ∈ insS v (sset l) ↔ _
    rw [mem_insS, mem_sset, List.mem_cons]
theorem ss_sset : ∀ (l : List Int), SS (sset l)
  | [] => by simp [sset]
  | v :: l => ss_insS (ss_sset l)
theorem idxOf_lt : ∀ {l : List Int}, SS l → ∀ {v w : Int}, v ∈ l → w ∈ l → (l.idxOf v < l.idxOf w ↔ v < w)
  | [], _, v, w, hv, _ => by simp at hv
  | u :: l, h, v, w, hv, hw => by
    have h' := List.pairwise_cons.mp h
    rw [List.idxOf_cons, List.idxOf_cons]
    by_cases e1 : u = v
    · subst e1
      by_cases e2 : u = w
      · subst e2; simp
      · have : w ∈ l := by rcases List.mem_cons.mp hw with e | e; exact absurd e.symm e2; exact e
        have := h'.1 w this
        have b2 : (u == w) = false := by simpa using e2
        simp [b2, this]
    · have hv' : v ∈ l := by rcases List.mem_cons.mp hv with e | e; exact absurd e.symm e1; exact e
      by_cases e2 : u = w
      · subst e2
        have := h'.1 v hv'
        have b1 : (u == v) = false := by simpa using e1
        simp [b1]; omega
      · have hw' : w ∈ l := by rcases List.mem_cons.mp hw with e | e; exact absurd e.symm e2; exact e
        have := idxOf_lt h'.2 hv' hw'
        have b1 : (u == v) = false := by simpa using e1
        have b2 : (u == w) = false := by simpa using e2
        simpa [b1, b2] using this
/-- the values of a rank's function -/
def vals (n : Nat) (f : Int → Int) : List Int := sset ((idx n).map f)
theorem mem_vals {n : Nat} {f : Int → Int} {v : Int} : v ∈ vals n f ↔ ∃ x ∈ idx n, f x = v := by
  unfold vals; rw [mem_sset, List.mem_map]
def cellsBy (n : Nat) (f : Int → Int) : List (List Int) := (vals n f).map fun v => (idx n).filter fun x => decide (f x = v)
def dense (n : Nat) (f : Int → Int) (x : Int) : Int := ((vals n f).idxOf (f x) : Nat)
def OEq (n : Nat) (f g : Int → Int) : Prop := ∀ x ∈ idx n, ∀ y ∈ idx n, (f x < f y ↔ g x < g y)
theorem OEq.refl (n : Nat) (f : Int → Int) : OEq n f f := fun _ _ _ _ => Iff.rfl
theorem OEq.symm {n : Nat} {f g : Int → Int} (h : OEq n f g) : OEq n g f := fun x hx y hy => (h x hx y hy).symm
theorem OEq.trans {n : Nat} {f g k : Int → Int} (h : OEq n f g) (h' : OEq n g k) : OEq n f k := fun x hx y hy => (h x hx y hy).trans (h' x hx y hy)
theorem OEq.eq {n : Nat} {f g : Int → Int} (h : OEq n f g) {x y : Int} (hx : x ∈ idx n) (hy : y ∈ idx n) : f x = f y ↔ g x = g y := by
  have a := h x hx y hy
  have b := h y hy x hx
  constructor <;> intro e <;> omega
theorem dense_oeq (n : Nat) (f : Int → Int) : OEq n (dense n f) f := by
  intro x hx y hy
  unfold dense
  rw [Int.ofNat_lt]
  exact idxOf_lt (ss_sset _) (mem_vals.mpr ⟨x, hx, rfl⟩) (mem_vals.mpr ⟨y, hy, rfl⟩)
def phi (n : Nat) (f g : Int → Int) (v : Int) : Int := match (idx n).find? fun x => decide (f x = v) with
  | some x => g x
  | none => 0
theorem phi_at {n : Nat} {f g : Int → Int} (h : OEq n f g) {x : Int} (hx : x ∈ idx n) : phi n f g (f x) = g x := by
  unfold phi
  cases e : (idx n).find? fun y => decide (f y = f x) with
  | none =>
    have := List.find?_eq_none.mp e x hx
    simp at this
  | some y =>
    have h1 := List.find?_some e
    have h2 := List.mem_of_find?_eq_some e
    simp at h1
    exact (h.eq h2 hx).mp h1
theorem vals_oeq {n : Nat} {f g : Int → Int} (h : OEq n f g) : vals n g = (vals n f).map (phi n f g) := by
  refine ss_ext (ss_sset _) ?_ fun v => ?_
  · unfold SS
    rw [List.pairwise_map]
    refine List.Pairwise.imp_of_mem ?_ (ss_sset _)
    intro v w hv hw hlt
    obtain ⟨x, hx, rfl⟩ := mem_vals.mp hv
    obtain ⟨y, hy, rfl⟩ := mem_vals.mp hw
    rw [phi_at h hx, phi_at h hy]
    exact (h x hx y hy).mp hlt
  · rw [mem_vals, List.mem_map]
    constructor
    · rintro ⟨x, hx, rfl⟩
      exact ⟨f x, mem_vals.mpr ⟨x, hx, rfl⟩, phi_at h hx⟩
    · rintro ⟨u, hu, rfl⟩
      obtain ⟨x, hx, rfl⟩ := mem_vals.mp hu
      exact ⟨x, hx, (phi_at h hx).symm⟩
theorem cells_oeq {n : Nat} {f g : Int → Int} (h : OEq n f g) : cellsBy n f = cellsBy n g := by
  unfold cellsBy
  rw [vals_oeq h, List.map_map]
  refine List.map_congr_left fun v hv => ?_
  obtain ⟨x, hx, rfl⟩ := mem_vals.mp hv
  show _ = (idx n).filter fun y => decide (g y = phi n f g (f x))
  rw [phi_at h hx]
  refine List.filter_congr fun y hy => ?_
  have := h.eq hy hx
  simp [this]
theorem idxOf_map {φ : Int → Int} : ∀ {l : List Int} {v : Int}, v ∈ l → (∀ w ∈ l, φ w = φ v → w = v) → (l.map φ).idxOf (φ v) = l.idxOf v
  | [], v, hv, _ => by simp at hv
  | w :: l, v, hv, h => by
    rw [List.map_cons, List.idxOf_cons, List.idxOf_cons]
    by_cases e : w = v
    · subst e; simp
    · have e' : ¬ φ w = φ v := fun z => e (h w (by simp) z)
      have hv' : v ∈ l := by rcases List.mem_cons.mp hv with z | z; exact absurd z.symm e; exact z
      have := idxOf_map hv' fun u hu => h u (List.mem_cons_of_mem _ hu)
      have b1 : (w == v) = false := by simpa using e
      have b2 : (φ w == φ v) = false := by simpa using e'
      simp [b1, b2, this]
theorem dense_eq {n : Nat} {f g : Int → Int} (h : OEq n f g) {x : Int} (hx : x ∈ idx n) : dense n f x = dense n g x := by
  unfold dense
  rw [vals_oeq h, ← phi_at h hx, idxOf_map (mem_vals.mpr ⟨x, hx, rfl⟩)]
  intro w hw e
  obtain ⟨y, hy, rfl⟩ := mem_vals.mp hw
  rw [phi_at h hy, phi_at h hx] at e
  exact (h.eq hy hx).mpr e
theorem findIdx_cells {n : Nat} {f : Int → Int} {x : Int} (hx : x ∈ idx n) : ∀ (l : List Int), f x ∈ l →
    (l.map fun v => (idx n).filter fun y => decide (f y = v)).findIdx (fun c => decide (x ∈ c)) = l.idxOf (f x)
  | [], h => by simp at h
  | v :: l, h => by
    rw [List.map_cons, List.findIdx_cons, List.idxOf_cons]
    by_cases e : f x = v
    · subst e; simp [hx]
    · have hl : f x ∈ l := by rcases List.mem_cons.mp h with z | z; exact absurd z e; exact z
      have e' : ¬ v = f x := fun z => e z.symm
      have := findIdx_cells hx l hl
      have b1 : (v == f x) = false := by simpa using e'
      rw [this, b1]
      simp [hx, e]
theorem dense_cells {n : Nat} {f : Int → Int} {x : Int} (hx : x ∈ idx n) : dense n f x = ((cellsBy n f).findIdx fun c => decide (x ∈ c) : Nat) := by
  unfold dense cellsBy
  rw [findIdx_cells hx _ (mem_vals.mpr ⟨x, hx, rfl⟩)]
theorem oeq_cells {n : Nat} {f g : Int → Int} (h : cellsBy n f = cellsBy n g) : OEq n f g := by
  refine (dense_oeq n f).symm.trans (OEq.trans ?_ (dense_oeq n g))
  intro x hx y hy
  rw [dense_cells hx, dense_cells hy, dense_cells hx, dense_cells hy, h]
theorem cells_iff {n : Nat} {f g : Int → Int} : cellsBy n f = cellsBy n g ↔ OEq n f g := ⟨oeq_cells, cells_oeq⟩
/-! ### a lot put in front -/
def front (p : Int → Bool) (f : Int → Int) (x : Int) : Int := if p x then -1 else f x
def partsOut (cs : List (List Int)) (p : Int → Bool) : List (List Int) := (cs.map fun c => c.filter fun x => !p x).filter fun c => !c.isEmpty
theorem vals_front {n : Nat} {p : Int → Bool} {f : Int → Int} (h0 : ∀ x ∈ idx n, 0 ≤ f x) (hp : ∃ x ∈ idx n, p x = true) :
    vals n (front p f) = -1 :: (vals n f).filter fun v => (idx n).any fun x => !p x && decide (f x = v) := by
  refine ss_ext (ss_sset _) (List.pairwise_cons.mpr ⟨fun v hv => ?_, List.Pairwise.filter _ (ss_sset _)⟩) fun v => ?_
  · obtain ⟨x, hx, rfl⟩ := mem_vals.mp (List.mem_filter.mp hv).1
    have := h0 x hx; omega
  · rw [mem_vals, List.mem_cons, List.mem_filter, List.any_eq_true]
    unfold front
    constructor
    · rintro ⟨x, hx, e⟩
      by_cases hq : p x = true
      · rw [if_pos hq] at e; exact .inl e.symm
      · rw [if_neg hq] at e
        exact .inr ⟨mem_vals.mpr ⟨x, hx, e⟩, x, hx, by simp [hq, e]⟩
    · rintro (e | ⟨_, x, hx, e⟩)
      · obtain ⟨x, hx, hq⟩ := hp
        exact ⟨x, hx, by rw [if_pos hq, e]⟩
      · simp at e
        exact ⟨x, hx, by simp [e.1, e.2]⟩
theorem cells_front {n : Nat} {p : Int → Bool} {f : Int → Int} (h0 : ∀ x ∈ idx n, 0 ≤ f x) (hp : ∃ x ∈ idx n, p x = true) :
    cellsBy n (front p f) = (idx n).filter p :: partsOut (cellsBy n f) p := by
  unfold cellsBy partsOut
  rw [vals_front h0 hp, List.map_cons, List.map_map, List.filter_map]
  refine congr (congrArg _ ?_) ?_
  · refine List.filter_congr fun x hx => ?_
    have := h0 x hx
    unfold front
    by_cases hq : p x = true <;> simp [hq]; omega
  · have e : (vals n f).filter (fun v => (idx n).any fun x => !p x && decide (f x = v)) =
        (vals n f).filter ((fun c : List Int => !c.isEmpty) ∘ ((fun c : List Int => c.filter fun x => !p x) ∘ fun v => (idx n).filter fun x => decide (f x = v))) := by
      refine List.filter_congr fun v _ => ?_
      show _ = !(List.isEmpty _)
      rw [Bool.eq_iff_iff]
      simp only [Function.comp, List.any_eq_true, Bool.not_eq_true', List.isEmpty_eq_false_iff_exists_mem, List.mem_filter, Bool.and_eq_true, decide_eq_true_eq]
      constructor
      · rintro ⟨x, hx, a, b⟩; exact ⟨x, ⟨hx, b⟩, a⟩
      · rintro ⟨x, ⟨hx, b⟩, a⟩; exact ⟨x, hx, a, b⟩
    rw [← e]
    refine List.map_congr_left fun v hv => ?_
    obtain ⟨x, hx, rfl⟩ := mem_vals.mp (List.mem_filter.mp hv).1
    have hv0 := h0 x hx
    show _ = List.filter _ (List.filter _ _)
    rw [List.filter_filter]
    refine List.filter_congr fun y hy => ?_
    unfold front
    by_cases hq : p y = true
    · simp [hq]; omega
    · simp [hq]
theorem front_lt {n : Nat} {p : Int → Bool} {f : Int → Int} (h0 : ∀ x ∈ idx n, 0 ≤ f x) {x y : Int} (hx : x ∈ idx n) (hy : y ∈ idx n) :
    front p f x < front p f y ↔ (p x = true ∧ p y = false) ∨ (p x = false ∧ p y = false ∧ f x < f y) := by
  have a := h0 x hx
  have b := h0 y hy
  unfold front
  by_cases h1 : p x = true <;> by_cases h2 : p y = true <;> simp [h1, h2] <;> omega
theorem dense_nonneg (n : Nat) (f : Int → Int) (x : Int) : 0 ≤ dense n f x := Int.natCast_nonneg _
end RK
end
section
namespace RK
/-! ## level and sink -/
def hd (n : Nat) (f : Int → Int) (x : Int) : Bool := decide (∀ y ∈ idx n, f x ≤ f y)
def bs (n : Nat) (f : Int → Int) (p : Int → Bool) (x : Int) : Bool := p x && decide (∀ y ∈ idx n, p y = true → f x ≤ f y)
def isIn (n : Nat) (f : Int → Int) (p : Int → Bool) : Bool := decide (∀ x ∈ idx n, hd n f x = true → p x = true)
def nt (p : Int → Bool) (x : Int) : Bool := !p x
def snk (n : Nat) (f : Int → Int) (p : Int → Bool) (x : Int) : Bool := decide (∃ y ∈ idx n, bs n f (nt p) y = true ∧ f x ≤ f y)
def lvl (n : Nat) (f : Int → Int) (p : Int → Bool) (x : Int) : Bool := hd n f x || bs n f (nt p) x
def levF (n : Nat) (f : Int → Int) (p : Int → Bool) : Int → Int := if isIn n f p = true then front (lvl n f p) (dense n f) else dense n f
def snkF (n : Nat) (f : Int → Int) (p : Int → Bool) : Int → Int := if isIn n f p = true then front (snk n f p) (dense n f) else dense n f
theorem hd_iff {n : Nat} {f : Int → Int} {x : Int} : hd n f x = true ↔ ∀ y ∈ idx n, f x ≤ f y := by simp [hd]
theorem bs_iff {n : Nat} {f : Int → Int} {p : Int → Bool} {x : Int} : bs n f p x = true ↔ p x = true ∧ ∀ y ∈ idx n, p y = true → f x ≤ f y := by simp [bs]
theorem isIn_iff {n : Nat} {f : Int → Int} {p : Int → Bool} : isIn n f p = true ↔ ∀ x ∈ idx n, hd n f x = true → p x = true := by simp [isIn]
theorem nt_iff {p : Int → Bool} {x : Int} : nt p x = true ↔ p x = false := by simp [nt]
theorem snk_iff {n : Nat} {f : Int → Int} {p : Int → Bool} {x : Int} : snk n f p x = true ↔ ∃ y ∈ idx n, bs n f (nt p) y = true ∧ f x ≤ f y := by simp [snk]
theorem lvl_iff {n : Nat} {f : Int → Int} {p : Int → Bool} {x : Int} : lvl n f p x = true ↔ hd n f x = true ∨ bs n f (nt p) x = true := by simp [lvl]
theorem min_ex (f : Int → Int) (p : Int → Bool) : ∀ l : List Int, (∃ x ∈ l, p x = true) → ∃ x ∈ l, p x = true ∧ ∀ y ∈ l, p y = true → f x ≤ f y
  | [], h => by obtain ⟨x, hx, _⟩ := h; simp at hx
  | z :: l, h => by
    by_cases hl : ∃ x ∈ l, p x = true
    · obtain ⟨x, hx, px, hm⟩ := min_ex f p l hl
      by_cases hz : p z = true ∧ f z ≤ f x
      · refine ⟨z, by simp, hz.1, fun y hy py => ?_⟩
        rcases List.mem_cons.mp hy with e | e
        · rw [e]; exact Int.le_refl _
        · exact Int.le_trans hz.2 (hm y e py)
      · refine ⟨x, List.mem_cons_of_mem _ hx, px, fun y hy py => ?_⟩
        rcases List.mem_cons.mp hy with e | e
        · subst e
          have : ¬ f y ≤ f x := fun q => hz ⟨py, q⟩
          omega
        · exact hm y e py
    · obtain ⟨x, hx, px⟩ := h
      rcases List.mem_cons.mp hx with e | e
      · subst e
        refine ⟨x, by simp, px, fun y hy py => ?_⟩
        rcases List.mem_cons.mp hy with e | e
        · rw [e]; exact Int.le_refl _
        · exact absurd ⟨y, e, py⟩ hl
      · exact absurd ⟨x, e, px⟩ hl
theorem bs_ex {n : Nat} {f : Int → Int} {p : Int → Bool} (h : ∃ x ∈ idx n, p x = true) : ∃ x ∈ idx n, bs n f p x = true := by
  obtain ⟨x, hx, px, hm⟩ := min_ex f p (idx n) h
  exact ⟨x, hx, bs_iff.mpr ⟨px, hm⟩⟩
theorem hd_ex {n : Nat} {f : Int → Int} (h : 0 < n) : ∃ x ∈ idx n, hd n f x = true := by
  have : ∃ x ∈ idx n, (fun _ => true : Int → Bool) x = true := ⟨0, mem_idx.mpr ⟨by omega, by omega⟩, rfl⟩
  obtain ⟨x, hx, _, hm⟩ := min_ex f (fun _ => true) (idx n) this
  exact ⟨x, hx, hd_iff.mpr fun y hy => hm y hy rfl⟩
/-- g orders as f does behind a front D -/
def Fr (n : Nat) (f : Int → Int) (D : Int → Bool) (g : Int → Int) : Prop :=
  ∀ x ∈ idx n, ∀ y ∈ idx n, (g x < g y ↔ (D x = true ∧ D y = false) ∨ (D x = false ∧ D y = false ∧ f x < f y))
theorem Fr.oeq {n : Nat} {f g g' : Int → Int} {D : Int → Bool} (h : Fr n f D g) (h' : OEq n g g') : Fr n f D g' :=
  fun x hx y hy => (h' x hx y hy).symm.trans (h x hx y hy)
theorem Fr.hd {n : Nat} {f g : Int → Int} {D : Int → Bool} (h : Fr n f D g) (hD : ∃ x ∈ idx n, D x = true) {x : Int} (hx : x ∈ idx n) : RK.hd n g x = D x := by
  rw [Bool.eq_iff_iff, hd_iff]
  constructor
  · intro hm
    obtain ⟨z, hz, dz⟩ := hD
    have := hm z hz
    cases e : D x with
    | true => rfl
    | false =>
      have := (h z hz x hx).mpr (.inl ⟨dz, e⟩)
      omega
  · intro dx y hy
    have : ¬ g y < g x := fun z => by
      rcases (h y hy x hx).mp z with ⟨_, b⟩ | ⟨_, b, _⟩ <;> rw [dx] at b <;> cases b
    omega
theorem Fr.same {n : Nat} {f g g' : Int → Int} {D D' : Int → Bool} (h : Fr n f D g) (h' : Fr n f D' g') (hD : ∃ x ∈ idx n, D x = true) (hD' : ∃ x ∈ idx n, D' x = true) :
    OEq n g g' ↔ ∀ x ∈ idx n, D x = D' x := by
  constructor
  · intro e x hx
    rw [← h.hd hD hx, ← h'.hd hD' hx, Bool.eq_iff_iff, hd_iff, hd_iff]
    constructor <;> intro hm y hy <;> have a := hm y hy <;> have b := e y hy x hx <;> omega
  · intro e x hx y hy
    rw [h x hx y hy, h' x hx y hy, e x hx, e y hy]
theorem fr_self {n : Nat} (f : Int → Int) : Fr n f (RK.hd n f) f := by
  intro x hx y hy
  constructor
  · intro hl
    have hy' : RK.hd n f y = false := by
      cases e : RK.hd n f y with
      | false => rfl
      | true => have := hd_iff.mp e x hx; omega
    cases e : RK.hd n f x with
    | true => exact .inl ⟨rfl, hy'⟩
    | false => exact .inr ⟨rfl, hy', hl⟩
  · rintro (⟨a, b⟩ | ⟨_, _, c⟩)
    · have hx' := hd_iff.mp a
      have : ¬ ∀ z ∈ idx n, f y ≤ f z := fun q => by rw [hd_iff.mpr q] at b; cases b
      rcases Classical.not_forall.mp this with ⟨z, hz⟩
      rcases Classical.not_imp.mp hz with ⟨hz, hl⟩
      have := hx' z hz
      omega
    · exact c
theorem fr_front {n : Nat} {f g : Int → Int} {D S : Int → Bool} (h : Fr n f D g) (hS : ∀ x ∈ idx n, D x = true → S x = true) : Fr n f S (front S (dense n g)) := by
  intro x hx y hy
  rw [front_lt (fun _ _ => dense_nonneg _ _ _) hx hy, (dense_oeq n g) x hx y hy, h x hx y hy]
  have a := hS x hx
  have b := hS y hy
  constructor
  · rintro (q | ⟨q, r, s⟩)
    · exact .inl q
    · rcases s with ⟨s, _⟩ | ⟨_, _, s⟩
      · rw [a s] at q; cases q
      · exact .inr ⟨q, r, s⟩
  · rintro (q | ⟨q, r, s⟩)
    · exact .inl q
    · refine .inr ⟨q, r, .inr ⟨?_, ?_, s⟩⟩
      · cases e : D x with
        | false => rfl
        | true => rw [a e] at q; cases q
      · cases e : D y with
        | false => rfl
        | true => rw [b e] at r; cases r
theorem Fr.congr {n : Nat} {f g : Int → Int} {D S : Int → Bool} (h : Fr n f D g) (e : ∀ x ∈ idx n, D x = S x) : Fr n f S g := by
  intro x hx y hy
  rw [h x hx y hy, e x hx, e y hy]
theorem Fr.isIn {n : Nat} {f g : Int → Int} {D : Int → Bool} (h : Fr n f D g) (hD : ∃ x ∈ idx n, D x = true) {q : Int → Bool} : RK.isIn n g q = true ↔ ∀ x ∈ idx n, D x = true → q x = true := by
  rw [isIn_iff]
  constructor <;> intro k x hx hy
  · exact k x hx (by rw [h.hd hD hx]; exact hy)
  · exact k x hx (by rw [h.hd hD hx] at hy; exact hy)
theorem Fr.bs {n : Nat} {f g : Int → Int} {D : Int → Bool} (h : Fr n f D g) {q : Int → Bool} (hq : ∀ x ∈ idx n, D x = true → q x = true) {x : Int} (hx : x ∈ idx n) : RK.bs n g (nt q) x = RK.bs n f (nt q) x := by
  have out : ∀ y ∈ idx n, nt q y = true → D y = false := fun y hy e => by
    cases d : D y with
    | false => rfl
    | true => rw [nt_iff, hq y hy d] at e; cases e
  rw [Bool.eq_iff_iff, bs_iff, bs_iff]
  refine and_congr_right fun hxq => ?_
  constructor <;> intro k y hy hyq <;> have a := k y hy hyq <;> have b := h y hy x hx <;> rw [out x hx hxq, out y hy hyq] at b <;> simp at b <;> omega
theorem lev_step {n : Nat} {f g : Int → Int} {D : Int → Bool} (h : Fr n f D g) (hD : ∃ x ∈ idx n, D x = true) {q : Int → Bool} (hq : ∀ x ∈ idx n, D x = true → q x = true) :
    Fr n f (fun x => D x || RK.bs n f (nt q) x) (levF n g q) := by
  unfold levF
  rw [if_pos ((h.isIn hD).mpr hq)]
  refine (fr_front h fun x hx d => ?_).congr fun x hx => ?_
  · rw [lvl_iff, h.hd hD hx]; exact .inl d
  · show (RK.hd n g x || RK.bs n g (nt q) x) = _
    rw [h.hd hD hx, h.bs hq hx]
theorem lev_stay {n : Nat} {f g : Int → Int} {D : Int → Bool} (h : Fr n f D g) (hD : ∃ x ∈ idx n, D x = true) {q : Int → Bool} (hq : ¬ ∀ x ∈ idx n, D x = true → q x = true) :
    Fr n f D (levF n g q) := by
  unfold levF
  rw [if_neg fun z => hq ((h.isIn hD).mp z)]
  exact h.oeq (dense_oeq n g).symm
theorem snk_step {n : Nat} {f g : Int → Int} {D : Int → Bool} (h : Fr n f D g) (hD : ∃ x ∈ idx n, D x = true) {q : Int → Bool} (hq : ∀ x ∈ idx n, D x = true → q x = true) (hn : ∃ x ∈ idx n, q x = false) :
    Fr n f (fun x => D x || snk n f q x) (snkF n g q) := by
  unfold snkF
  rw [if_pos ((h.isIn hD).mpr hq)]
  have out : ∀ y ∈ idx n, nt q y = true → D y = false := fun y hy e => by
    cases d : D y with
    | false => rfl
    | true => rw [nt_iff, hq y hy d] at e; cases e
  obtain ⟨z, hz, bz⟩ := bs_ex (n := n) (f := f) (p := nt q) (by obtain ⟨x, hx, e⟩ := hn; exact ⟨x, hx, nt_iff.mpr e⟩)
  have dz := out z hz (bs_iff.mp bz).1
  have key : ∀ x ∈ idx n, snk n g q x = (D x || snk n f q x) := by
    intro x hx
    rw [Bool.eq_iff_iff, snk_iff, Bool.or_eq_true, snk_iff]
    constructor
    · rintro ⟨y, hy, by', hl⟩
      rw [h.bs hq hy] at by'
      cases d : D x with
      | true => exact .inl rfl
      | false =>
        refine .inr ⟨y, hy, by', ?_⟩
        have b := h y hy x hx
        rw [out y hy (bs_iff.mp by').1, d] at b
        simp at b; omega
    · rintro (d | ⟨y, hy, by', hl⟩)
      · refine ⟨z, hz, by rw [h.bs hq hz]; exact bz, ?_⟩
        have b := h z hz x hx
        rw [d, dz] at b
        simp at b; omega
      · refine ⟨y, hy, by rw [h.bs hq hy]; exact by', ?_⟩
        have b := h y hy x hx
        rw [out y hy (bs_iff.mp by').1] at b
        simp at b
        cases d : D x with
        | true => rw [d] at b; simp at b; omega
        | false => rw [d] at b; simp at b; omega
  refine (fr_front h fun x hx d => ?_).congr key
  rw [key x hx, d]; rfl
theorem snk_stay {n : Nat} {f g : Int → Int} {D : Int → Bool} (h : Fr n f D g) (hD : ∃ x ∈ idx n, D x = true) {q : Int → Bool} (hq : ¬ ∀ x ∈ idx n, D x = true → q x = true) :
    Fr n f D (snkF n g q) := by
  unfold snkF
  rw [if_neg fun z => hq ((h.isIn hD).mp z)]
  exact h.oeq (dense_oeq n g).symm
end RK
end
section
namespace RK
/-! ## what the law of two levels and of sinks asks -/
variable {n : Nat} {f : Int → Int} {p q : Int → Bool}
theorem hd_not_bs (hp : isIn n f p = true) {x : Int} (hx : x ∈ idx n) (h : hd n f x = true) : bs n f (nt p) x = false := by
  cases e : bs n f (nt p) x with
  | false => rfl
  | true => have := (bs_iff.mp e).1; rw [nt_iff, isIn_iff.mp hp x hx h] at this; cases this
theorem lev_lev_in (hn : 0 < n) (hp : isIn n f p = true) (hq : isIn n f q = true) (h : ∀ x ∈ idx n, bs n f (nt p) x = true → q x = true) :
    Fr n f (fun x => (hd n f x || bs n f (nt p) x) || bs n f (nt q) x) (levF n (levF n f p) q) := by
  have h1 := lev_step (fr_self f) (hd_ex hn) (isIn_iff.mp hp)
  refine lev_step h1 ?_ ?_
  · obtain ⟨x, hx, e⟩ := hd_ex (f := f) hn
    exact ⟨x, hx, by simp [e]⟩
  · intro x hx e
    rcases Bool.or_eq_true _ _ ▸ e with e | e
    · exact isIn_iff.mp hq x hx e
    · exact h x hx e
theorem lev_lev_out (hn : 0 < n) (hp : isIn n f p = true) (h : ¬ ∀ x ∈ idx n, bs n f (nt p) x = true → q x = true) :
    Fr n f (fun x => hd n f x || bs n f (nt p) x) (levF n (levF n f p) q) := by
  have h1 := lev_step (fr_self f) (hd_ex hn) (isIn_iff.mp hp)
  refine lev_stay h1 ?_ ?_
  · obtain ⟨x, hx, e⟩ := hd_ex (f := f) hn
    exact ⟨x, hx, by simp [e]⟩
  · intro z
    exact h fun x hx e => z x hx (by simp [e])
theorem or_ex {D S : Int → Bool} (h : ∃ x ∈ idx n, D x = true) : ∃ x ∈ idx n, (fun x => D x || S x) x = true := by
  obtain ⟨x, hx, e⟩ := h
  exact ⟨x, hx, by simp [e]⟩
/-- two levels in both orders -/
theorem two_levels (hn : 0 < n) (hp : isIn n f p = true) (hq : isIn n f q = true) (np : ∃ x ∈ idx n, p x = false) (nq : ∃ x ∈ idx n, q x = false) :
    OEq n (levF n (levF n f p) q) (levF n (levF n f q) p) ↔
      ((∀ x ∈ idx n, bs n f (nt p) x = bs n f (nt q) x) ∨ ((∀ x ∈ idx n, bs n f (nt p) x = true → q x = true) ∧ ∀ x ∈ idx n, bs n f (nt q) x = true → p x = true)) := by
  have ep : ∃ x ∈ idx n, nt p x = true := by obtain ⟨x, hx, e⟩ := np; exact ⟨x, hx, nt_iff.mpr e⟩
  have eq' : ∃ x ∈ idx n, nt q x = true := by obtain ⟨x, hx, e⟩ := nq; exact ⟨x, hx, nt_iff.mpr e⟩
  obtain ⟨xa, ha, ea⟩ := bs_ex (f := f) ep
  obtain ⟨xb, hb, eb⟩ := bs_ex (f := f) eq'
  have eh := hd_ex (f := f) hn
  by_cases h1 : ∀ x ∈ idx n, bs n f (nt p) x = true → q x = true
  · by_cases h2 : ∀ x ∈ idx n, bs n f (nt q) x = true → p x = true
    · rw [(lev_lev_in hn hp hq h1).same (lev_lev_in hn hq hp h2) (or_ex (or_ex eh)) (or_ex (or_ex eh))]
      refine ⟨fun _ => .inr ⟨h1, h2⟩, fun _ x hx => ?_⟩
      simp only [Bool.or_assoc, Bool.or_comm (bs n f (nt p) x)]
    · rw [(lev_lev_in hn hp hq h1).same (lev_lev_out hn hq h2) (or_ex (or_ex eh)) (or_ex eh)]
      constructor
      · intro e
        have := e xa ha
        simp only [ea, Bool.or_true, Bool.true_or] at this
        have z := (Bool.or_eq_true _ _).mp this.symm
        rcases z with z | z
        · rw [hd_not_bs hp ha z] at ea; cases ea
        · have := (bs_iff.mp z).1
          rw [nt_iff, h1 xa ha ea] at this; cases this
      · rintro (e | e)
        · have z := e xa ha
          rw [ea] at z
          have := (bs_iff.mp z.symm).1
          rw [nt_iff, h1 xa ha ea] at this; cases this
        · exact absurd e.2 h2
  · by_cases h2 : ∀ x ∈ idx n, bs n f (nt q) x = true → p x = true
    · rw [(lev_lev_out hn hp h1).same (lev_lev_in hn hq hp h2) (or_ex eh) (or_ex (or_ex eh))]
      constructor
      · intro e
        have := e xb hb
        simp only [eb, Bool.or_true, Bool.true_or] at this
        have z := (Bool.or_eq_true _ _).mp this
        rcases z with z | z
        · rw [hd_not_bs hq hb z] at eb; cases eb
        · have := (bs_iff.mp z).1
          rw [nt_iff, h2 xb hb eb] at this; cases this
      · rintro (e | e)
        · have z := e xb hb
          rw [eb] at z
          have := (bs_iff.mp z).1
          rw [nt_iff, h2 xb hb eb] at this; cases this
        · exact absurd e.1 h1
    · rw [(lev_lev_out hn hp h1).same (lev_lev_out hn hq h2) (or_ex eh) (or_ex eh)]
      constructor
      · intro e
        refine .inl fun x hx => ?_
        have := e x hx
        cases eh : hd n f x with
        | true => rw [hd_not_bs hp hx eh, hd_not_bs hq hx eh]
        | false => simpa [eh] using this
      · rintro (e | e)
        · intro x hx
          show (_ || _) = (_ || _)
          rw [e x hx]
        · exact absurd e.1 h1
/-- .. and what they hold -/
theorem two_held (hn : 0 < n) (hp : isIn n f p = true) (hq : isIn n f q = true)
    (h : (∀ x ∈ idx n, bs n f (nt p) x = bs n f (nt q) x) ∨ ((∀ x ∈ idx n, bs n f (nt p) x = true → q x = true) ∧ ∀ x ∈ idx n, bs n f (nt q) x = true → p x = true)) {x : Int} (hx : x ∈ idx n) :
    hd n (levF n (levF n f p) q) x = ((hd n f x || bs n f (nt p) x) || bs n f (nt q) x) := by
  by_cases h1 : ∀ x ∈ idx n, bs n f (nt p) x = true → q x = true
  · rw [(lev_lev_in hn hp hq h1).hd (or_ex (or_ex (hd_ex hn))) hx]
  · rw [(lev_lev_out hn hp h1).hd (or_ex (hd_ex hn)) hx]
    rcases h with h | h
    · rw [h x hx, Bool.or_assoc, Bool.or_self]
    · exact absurd h.1 h1
theorem snk_hd (nq : ∃ x ∈ idx n, q x = false) {x : Int} (hx : x ∈ idx n) (h : hd n f x = true) : snk n f q x = true := by
  obtain ⟨z, hz, bz⟩ := bs_ex (n := n) (f := f) (p := nt q) (by obtain ⟨x, hx, e⟩ := nq; exact ⟨x, hx, nt_iff.mpr e⟩)
  exact snk_iff.mpr ⟨z, hz, bz, hd_iff.mp h z hz⟩
/-- level, then sink -/
theorem lev_snk (hn : 0 < n) (hp : isIn n f p = true) (hq : isIn n f q = true) (nq : ∃ x ∈ idx n, q x = false)
    (h1 : ∀ x ∈ idx n, bs n f (nt p) x = true → q x = true) {x y : Int} (hx : x ∈ idx n) (hy : y ∈ idx n) (ex : bs n f (nt p) x = true) (ey : bs n f (nt q) y = true) :
    OEq n (snkF n (levF n f p) q) (snkF n f q) ↔ f x ≤ f y := by
  have a1 := lev_step (fr_self f) (hd_ex hn) (isIn_iff.mp hp)
  have a2 := snk_step a1 (or_ex (hd_ex hn)) (q := q) (fun x hx e => by
    rcases (Bool.or_eq_true _ _).mp e with e | e
    · exact isIn_iff.mp hq x hx e
    · exact h1 x hx e) nq
  have a3 := snk_step (fr_self f) (hd_ex hn) (isIn_iff.mp hq) nq
  rw [a2.same a3 (or_ex (or_ex (hd_ex hn))) (or_ex (hd_ex hn))]
  constructor
  · intro e
    have := e x hx
    simp only [ex, Bool.or_true, Bool.true_or] at this
    rcases (Bool.or_eq_true _ _).mp this.symm with z | z
    · exact hd_iff.mp z y hy
    · obtain ⟨w, hw, ew, hl⟩ := snk_iff.mp z
      have := (bs_iff.mp ew).2 y hy (bs_iff.mp ey).1
      omega
  · intro hl z hz
    show (_ || _) = (_ || _)
    cases ez : bs n f (nt p) z with
    | false => simp
    | true =>
      have : snk n f q z = true := snk_iff.mpr ⟨y, hy, ey, Int.le_trans ((bs_iff.mp ez).2 x hx (bs_iff.mp ex).1) hl⟩
      simp [this]
/-- behind a deed of giving up a lot, giving it up again turns nothing -/
theorem lev_again {g : Int → Int} {D : Int → Bool} (h : Fr n f D g) (hD : ∃ x ∈ idx n, D x = true) (h2 : ¬ ∀ x ∈ idx n, D x = true → p x = true) : OEq n (levF n g p) g :=
  ((lev_stay h hD h2).same h hD hD).mpr fun _ _ => rfl
theorem snk_again {g : Int → Int} {D : Int → Bool} (h : Fr n f D g) (hD : ∃ x ∈ idx n, D x = true) (h2 : ¬ ∀ x ∈ idx n, D x = true → p x = true) : OEq n (snkF n g p) g :=
  ((snk_stay h hD h2).same h hD hD).mpr fun _ _ => rfl
theorem snk_fr (hn : 0 < n) (np : ∃ x ∈ idx n, p x = false) : ∃ D : Int → Bool, Fr n f D (snkF n f p) ∧ (∃ x ∈ idx n, D x = true) ∧ ¬ ∀ x ∈ idx n, D x = true → p x = true := by
  by_cases h : ∀ x ∈ idx n, hd n f x = true → p x = true
  · refine ⟨_, snk_step (fr_self f) (hd_ex hn) h np, or_ex (hd_ex hn), fun z => ?_⟩
    obtain ⟨x, hx, e⟩ := bs_ex (n := n) (f := f) (p := nt p) (by obtain ⟨x, hx, e⟩ := np; exact ⟨x, hx, nt_iff.mpr e⟩)
    have s : snk n f p x = true := snk_iff.mpr ⟨x, hx, e, Int.le_refl _⟩
    have := z x hx (by simp [s])
    have k := (bs_iff.mp e).1
    rw [nt_iff, this] at k; cases k
  · exact ⟨_, snk_stay (fr_self f) (hd_ex hn) h, hd_ex hn, h⟩
theorem lev_fr (hn : 0 < n) (np : ∃ x ∈ idx n, p x = false) : ∃ D : Int → Bool, Fr n f D (levF n f p) ∧ (∃ x ∈ idx n, D x = true) ∧ ¬ ∀ x ∈ idx n, D x = true → p x = true := by
  by_cases h : ∀ x ∈ idx n, hd n f x = true → p x = true
  · refine ⟨_, lev_step (fr_self f) (hd_ex hn) h, or_ex (hd_ex hn), fun z => ?_⟩
    obtain ⟨x, hx, e⟩ := bs_ex (n := n) (f := f) (p := nt p) (by obtain ⟨x, hx, e⟩ := np; exact ⟨x, hx, nt_iff.mpr e⟩)
    have := z x hx (by simp [e])
    have k := (bs_iff.mp e).1
    rw [nt_iff, this] at k; cases k
  · exact ⟨_, lev_stay (fr_self f) (hd_ex hn) h, hd_ex hn, h⟩
theorem one_lot (hn : 0 < n) (np : ∃ x ∈ idx n, p x = false) :
    OEq n (levF n (snkF n f p) p) (snkF n f p) ∧ OEq n (snkF n (levF n f p) p) (levF n f p) ∧ OEq n (snkF n (snkF n f p) p) (snkF n f p) := by
  obtain ⟨D, h, hD, h2⟩ := snk_fr (f := f) hn np
  obtain ⟨E, k, hE, k2⟩ := lev_fr (f := f) hn np
  exact ⟨lev_again h hD h2, snk_again k hE k2, snk_again h hD h2⟩
/-! ### rows of sinks -/
/-- what the sink of a lot holds -/
def sk (n : Nat) (f : Int → Int) (q : Int → Bool) (x : Int) : Bool := hd n f x || (isIn n f q && snk n f q x)
def Dn (n : Nat) (f : Int → Int) (D : Int → Bool) : Prop := ∀ x ∈ idx n, ∀ y ∈ idx n, D y = true → f x ≤ f y → D x = true
theorem dn_hd : Dn n f (hd n f) := fun x _ y hy e hl => hd_iff.mpr fun z hz => Int.le_trans hl (hd_iff.mp e z hz)
theorem dn_sk : Dn n f (sk n f q) := by
  intro x hx y hy e hl
  unfold sk at e ⊢
  rcases (Bool.or_eq_true _ _).mp e with e | e
  · rw [dn_hd x hx y hy e hl]; rfl
  · rw [Bool.and_eq_true] at e
    obtain ⟨z, hz, ez, hl'⟩ := snk_iff.mp e.2
    rw [e.1, snk_iff.mpr ⟨z, hz, ez, Int.le_trans hl hl'⟩]; simp
theorem dn_or {D E : Int → Bool} (h : Dn n f D) (h' : Dn n f E) : Dn n f (fun x => D x || E x) := by
  intro x hx y hy e hl
  rcases (Bool.or_eq_true _ _).mp e with e | e
  · show (_ || _) = true
    rw [h x hx y hy e hl]; rfl
  · show (_ || _) = true
    rw [h' x hx y hy e hl]; simp
theorem snk_fold1 {g : Int → Int} {D : Int → Bool} (h : Fr n f D g) (hd' : Dn n f D) (hh : ∀ x ∈ idx n, hd n f x = true → D x = true) (hD : ∃ x ∈ idx n, D x = true) (nq : ∃ x ∈ idx n, q x = false) :
    Fr n f (fun x => D x || sk n f q x) (snkF n g q) := by
  by_cases k : ∀ x ∈ idx n, D x = true → q x = true
  · refine (snk_step h hD k nq).congr fun x hx => ?_
    have : isIn n f q = true := isIn_iff.mpr fun x hx e => k x hx (hh x hx e)
    show (_ || _) = (_ || sk n f q x)
    unfold sk
    rw [this, Bool.true_and]
    cases e : hd n f x with
    | false => simp
    | true => rw [hh x hx e]; simp
  · refine (snk_stay h hD k).congr fun x hx => ?_
    show _ = (_ || sk n f q x)
    unfold sk
    rw [Bool.eq_iff_iff, Bool.or_eq_true, Bool.or_eq_true, Bool.and_eq_true]
    refine ⟨.inl, fun z => ?_⟩
    rcases z with z | z | z
    · exact z
    · exact hh x hx z
    · obtain ⟨w, hw⟩ := Classical.not_forall.mp k
      obtain ⟨hw, k'⟩ := Classical.not_imp.mp hw
      obtain ⟨dw, qw⟩ := Classical.not_imp.mp k'
      obtain ⟨y, hy, ey, hl⟩ := snk_iff.mp z.2
      refine hd' x hx w hw dw (Int.le_trans hl ((bs_iff.mp ey).2 w hw ?_))
      rw [nt_iff]; cases e : q w; rfl; exact absurd e qw
def un (n : Nat) (f : Int → Int) (qs : List (Int → Bool)) (x : Int) : Bool := hd n f x || qs.any fun q => sk n f q x
theorem snk_row : ∀ (qs : List (Int → Bool)) {g : Int → Int} {D : Int → Bool}, Fr n f D g → Dn n f D → (∀ x ∈ idx n, hd n f x = true → D x = true) → (∃ x ∈ idx n, D x = true) →
    (∀ q ∈ qs, ∃ x ∈ idx n, q x = false) → Fr n f (fun x => D x || qs.any fun q => sk n f q x) (qs.foldl (fun g q => snkF n g q) g)
  | [], g, D, h, _, _, _, _ => h.congr fun x _ => by simp
  | q :: qs, g, D, h, hd', hh, hD, hq => by
    have := snk_row qs (snk_fold1 h hd' hh hD (hq q (by simp))) (dn_or hd' dn_sk) (fun x hx e => by show (_ || _) = true; rw [hh x hx e]; rfl) (or_ex hD) fun q' h' => hq q' (List.mem_cons_of_mem _ h')
    refine this.congr fun x hx => ?_
    show ((D x || sk n f q x) || _) = _
    rw [List.any_cons, Bool.or_assoc]
theorem sink_row (hn : 0 < n) (qs : List (Int → Bool)) (hq : ∀ q ∈ qs, ∃ x ∈ idx n, q x = false) : Fr n f (un n f qs) (qs.foldl (fun g q => snkF n g q) f) :=
  snk_row qs (fr_self f) dn_hd (fun _ _ e => e) (hd_ex hn) hq
theorem un_ex (hn : 0 < n) (qs : List (Int → Bool)) : ∃ x ∈ idx n, un n f qs x = true := or_ex (hd_ex hn)
theorem snk_sk (hn : 0 < n) (nq : ∃ x ∈ idx n, q x = false) : Fr n f (sk n f q) (snkF n f q) := by
  refine (snk_fold1 (fr_self f) dn_hd (fun _ _ e => e) (hd_ex hn) nq).congr fun x _ => ?_
  show (_ || sk n f q x) = _
  unfold sk
  rw [← Bool.or_assoc, Bool.or_self]
/-! ### the sink that holds most -/
def cnt (n : Nat) (D : Int → Bool) : Nat := ((idx n).filter D).length
theorem cnt_le {D E : Int → Bool} (h : ∀ x ∈ idx n, D x = true → E x = true) : cnt n D ≤ cnt n E := by
  have : (idx n).filter D = ((idx n).filter E).filter D := by
    rw [List.filter_filter]
    refine List.filter_congr fun x hx => ?_
    cases e : D x with
    | false => simp
    | true => rw [h x hx e]; rfl
  unfold cnt
  rw [this]
  exact List.length_filter_le _ _
theorem cnt_eq {D E : Int → Bool} (h : ∀ x ∈ idx n, D x = true → E x = true) (hl : cnt n E ≤ cnt n D) : ∀ x ∈ idx n, D x = E x := by
  have e1 : (idx n).filter D = ((idx n).filter E).filter D := by
    rw [List.filter_filter]
    refine List.filter_congr fun x hx => ?_
    cases e : D x with
    | false => simp
    | true => rw [h x hx e]; rfl
  have e2 : ((idx n).filter E).filter D = (idx n).filter E := by
    refine List.Sublist.eq_of_length_le List.filter_sublist ?_
    rw [← e1]; exact hl
  intro x hx
  cases e : E x with
  | false => cases d : D x with
    | false => rfl
    | true => rw [h x hx d] at e; cases e
  | true =>
    have : x ∈ (idx n).filter E := List.mem_filter.mpr ⟨hx, e⟩
    rw [← e2] at this
    exact (List.mem_filter.mp this).2
theorem dn_nest {D E : Int → Bool} (h : Dn n f D) (h' : Dn n f E) : (∀ x ∈ idx n, D x = true → E x = true) ∨ (∀ x ∈ idx n, E x = true → D x = true) := by
  by_cases k : ∀ x ∈ idx n, D x = true → E x = true
  · exact .inl k
  · obtain ⟨x, k⟩ := Classical.not_forall.mp k
    obtain ⟨hx, k⟩ := Classical.not_imp.mp k
    obtain ⟨dx, ex⟩ := Classical.not_imp.mp k
    refine .inr fun y hy ey => ?_
    by_cases hl : f y ≤ f x
    · exact h y hy x hx dx hl
    · exact absurd (h' x hx y hy ey (by omega)) ex
theorem cnt_step {D E : Int → Bool} (h : Dn n f D) (h' : Dn n f E) : ∀ x ∈ idx n, (if cnt n D < cnt n E then E x else D x) = (D x || E x) := by
  intro x hx
  rcases dn_nest h h' with k | k
  · split
    · cases e : D x with
      | false => simp
      | true => rw [k x hx e]; rfl
    · next c => rw [cnt_eq k (by omega) x hx]; simp
  · have c : ¬ cnt n D < cnt n E := by have := cnt_le k; omega
    rw [if_neg c]
    cases e : E x with
    | false => simp
    | true => rw [k x hx e]; rfl
end RK
end
section
namespace BR
open DT RK
/-! ## lists of numbers below n, lots and level rows as lists -/
theorem rng_idx (n : Nat) : rng 0 (n : Int) = idx n := by
  unfold rng idx
  rw [Int.sub_zero, Int.toNat_natCast]
  exact List.map_congr_left fun i _ => by simp
theorem len_idx (n : Nat) : (idx n).length = n := by unfold idx; simp
theorem get_idx {n i : Nat} (h : i < n) : (idx n)[i]? = some (i : Int) := by
  unfold idx; rw [List.getElem?_map, List.getElem?_range h]; rfl
def lot (n : Nat) (p : Int → Bool) : List Int := (idx n).filter p
def rows (n : Nat) (f : Int → Int) : List Int := (idx n).map f
variable {n : Nat} {f g : Int → Int} {p q : Int → Bool} {x : Int}
theorem len_rows : (rows n f).length = n := by unfold rows; rw [List.length_map, len_idx]
theorem ix_rows (hx : x ∈ idx n) : pyIx (rows n f) x = f x := by
  obtain ⟨h0, h1⟩ := mem_idx.mp hx
  unfold pyIx rows
  rw [if_pos h0, List.getD_eq_getElem?_getD, List.getElem?_map, get_idx (by omega)]
  simp [Int.toNat_of_nonneg h0]
theorem ok_rows (hx : x ∈ idx n) : IxOk (rows n f) x := by
  obtain ⟨h0, h1⟩ := mem_idx.mp hx
  unfold IxOk; rw [len_rows]; omega
theorem rows_congr (h : ∀ x ∈ idx n, f x = g x) : rows n f = rows n g := List.map_congr_left h
theorem rows_of (l : List Int) : l = rows l.length (fun x => pyIx l x) := by
  unfold rows
  refine List.ext_getElem? fun i => ?_
  by_cases h : i < l.length
  · rw [List.getElem?_map, get_idx h]
    show _ = some (pyIx l (i : Int))
    unfold pyIx
    rw [if_pos (Int.natCast_nonneg i), Int.toNat_natCast, List.getD_eq_getElem?_getD, List.getElem?_eq_getElem h]
    rfl
  · rw [List.getElem?_eq_none (by omega), List.getElem?_eq_none (by rw [List.length_map, len_idx]; omega)]
theorem mem_lot : x ∈ lot n p ↔ x ∈ idx n ∧ p x = true := List.mem_filter
theorem lot_congr (h : ∀ x ∈ idx n, p x = q x) : lot n p = lot n q := List.filter_congr h
theorem ss_lot : SS (lot n p) := List.Pairwise.filter _ (ss_idx n)
theorem lot_ext : lot n p = lot n q ↔ ∀ x ∈ idx n, p x = q x := by
  constructor
  · intro h x hx
    have := congrArg (fun l => x ∈ l) h
    simp only [mem_lot, hx, true_and, eq_iff_iff] at this
    rw [Bool.eq_iff_iff]; exact this
  · exact lot_congr
theorem srt_ss {l : List Int} (h : SS l) : srt l = l := srt_id (h.imp fun h => Int.le_of_lt h)
theorem lot_by {l : List Int} (h : SS l) (hm : ∀ x, x ∈ l ↔ x ∈ idx n ∧ p x = true) : l = lot n p := RK.ss_ext h ss_lot fun x => (hm x).trans mem_lot.symm
theorem filter_lot : (lot n p).filter q = lot n fun x => p x && q x := by
  unfold lot; rw [List.filter_filter]
  exact List.filter_congr fun x _ => Bool.and_comm _ _
theorem len_lot_le : (lot n p).length ≤ n := by
  have := List.length_filter_le p (idx n)
  rw [len_idx] at this; exact this
theorem srt_app {a b : List Int} (h : ∀ x, x ∈ a ∨ x ∈ b ↔ x ∈ idx n ∧ p x = true) (ha : SS a) (hb : SS b) (hd : ∀ x ∈ a, x ∉ b) : srt (a ++ b) = lot n p := by
  refine lot_by ?_ fun x => by rw [mem_srt, List.mem_append]; exact h x
  have nd : (srt (a ++ b)).Nodup := (srt_perm _).nodup_iff.mpr (List.nodup_append.mpr ⟨ha.imp fun h => Int.ne_of_lt h, hb.imp fun h => Int.ne_of_lt h, fun x hx y hy e => hd x hx (e ▸ hy)⟩)
  have pw := srt_pw (a ++ b)
  exact (List.Pairwise.and pw nd).imp fun h => by omega
theorem isEmpty_lot : (lot n p).isEmpty = true ↔ ∀ x ∈ idx n, p x = false := by
  rw [List.isEmpty_iff]; unfold lot; rw [List.filter_eq_nil_iff]
  exact forall_congr' fun x => forall_congr' fun _ => by simp
/-! ### a sorted row without doubles -/
theorem lastI {u : List Int} (h : u ≠ []) : pyIx u (-1) = u.getLast h := by
  have hl := List.length_pos_iff.mpr h
  unfold pyIx
  rw [if_neg (by decide), List.getLast_eq_getElem, List.getD_eq_getElem?_getD]
  have e : (-1 + (u.length : Int)).toNat = u.length - 1 := by omega
  rw [e, List.getElem?_eq_getElem (by omega)]; rfl
theorem le_last {u : List Int} (hs : SS u) (h : u ≠ []) {a : Int} (ha : a ∈ u) : a ≤ u.getLast h := by
  rw [← List.dropLast_concat_getLast h] at hs ha
  rcases List.mem_append.mp ha with ha | ha
  · exact Int.le_of_lt ((List.pairwise_append.mp hs).2.2 a ha _ (by simp))
  · simp at ha; omega
abbrev ddB (u : List Int) (v : Int) : List Int := if (decide ((u.length : Int) = 0) || (!decide ((pyIx u (-1)) = v))) = true then u ++ [v] else u
theorem dd_fold : ∀ (l u : List Int), SS u → l.Pairwise (· ≤ ·) → (∀ a ∈ u, ∀ y ∈ l, a ≤ y) → SS (l.foldl ddB u) ∧ ∀ x, x ∈ l.foldl ddB u ↔ x ∈ u ∨ x ∈ l
  | [], u, hs, _, _ => ⟨hs, fun x => by simp⟩
  | v :: l, u, hs, hl, hu => by
    have hl' := List.pairwise_cons.mp hl
    rw [List.foldl_cons]
    have step : SS (ddB u v) ∧ (∀ x, x ∈ ddB u v ↔ x ∈ u ∨ x = v) := by
      unfold ddB
      by_cases h0 : u = []
      · subst h0; simp
      · have h0' : ¬ (u.length : Int) = 0 := by have := List.length_pos_iff.mpr h0; omega
        by_cases hv : pyIx u (-1) = v
        · rw [if_neg (by simp [h0, hv])]
          refine ⟨hs, fun x => ⟨.inl, fun h => ?_⟩⟩
          rcases h with h | h
          · exact h
          · rw [h, ← hv, lastI h0]; exact List.getLast_mem h0
        · rw [if_pos (by simp [hv])]
          refine ⟨List.pairwise_append.mpr ⟨hs, List.pairwise_singleton _ _, fun a ha b hb => ?_⟩, fun x => by simp⟩
          rw [List.mem_singleton] at hb; subst hb
          have h1 := hu a ha b (by simp)
          have h2 := le_last hs h0 ha
          have h3 := hu _ (List.getLast_mem h0) b (by simp)
          rw [lastI h0] at hv
          omega
    obtain ⟨r1, r2⟩ := dd_fold l (ddB u v) step.1 hl'.2 fun a ha y hy => by
      rcases (step.2 a).mp ha with h | h
      · exact hu a h y (List.mem_cons_of_mem _ hy)
      · subst h; exact hl'.1 y hy
    refine ⟨r1, fun x => ?_⟩
    rw [r2, step.2, List.mem_cons, or_assoc]
theorem dd_sset (l : List Int) : (srt l).foldl ddB [] = RK.sset l := by
  obtain ⟨h1, h2⟩ := dd_fold (srt l) [] List.Pairwise.nil (srt_pw l) (by simp)
  refine RK.ss_ext h1 (RK.ss_sset l) fun x => ?_
  rw [h2, RK.mem_sset, mem_srt]; simp
theorem dd_ok : ∀ (l u : List Int), u.length + l.length ≤ 1000 → OkFold ddB (fun u v => ((decide ((u.length : Int) = 0)) = false → IxOk u (-1)) ∧ ((decide ((u.length : Int) = 0) || (!decide ((pyIx u (-1)) = v))) = true → u.length < PySem.sizeLine)) l u
  | [], _, _ => trivial
  | v :: l, u, h => by
    rw [List.length_cons] at h
    refine ⟨⟨fun h0 => ?_, fun _ => L2.small1000 (by omega)⟩, dd_ok l _ ?_⟩
    · have : ¬ (u.length : Int) = 0 := by simpa using h0
      unfold IxOk; omega
    · unfold ddB; split
      · rw [List.length_append]; simp; omega
      · omega
theorem sset_sset (l : List Int) : DT.sset l = RK.sset l := RK.ss_ext (DT.ss_sset l) (RK.ss_sset l) fun x => DT.mem_sset.trans RK.mem_sset.symm
theorem enm_rows : ∀ (l : List Int) (k : Nat), enm k l = (List.range l.length).map fun (i : Nat) => (((k + i : Nat) : Int), l.getD i 0)
  | [], _ => rfl
  | x :: l, k => by
    unfold enm
    rw [enm_rows l (k + 1), List.length_cons, List.range_succ_eq_map, List.map_cons, List.map_map]
    refine congr (congrArg _ (by simp)) (List.map_congr_left fun i _ => ?_)
    simp only [Function.comp, Nat.succ_eq_add_one, List.getD_cons_succ, Prod.mk.injEq, and_true]
    omega
theorem enm_idx : enm 0 (rows n f) = (idx n).map fun x => (x, f x) := by
  rw [enm_rows, len_rows]; unfold idx
  rw [List.map_map]
  refine List.map_congr_left fun i hi => ?_
  have hi' := List.mem_range.mp hi
  simp only [Function.comp, Nat.zero_add, Prod.mk.injEq]
  refine ⟨rfl, ?_⟩
  unfold rows
  rw [List.getD_eq_getElem?_getD, List.getElem?_map, get_idx hi']; rfl
theorem cells_by : ((DT.sset (rows n f)).map fun (step : Int) => (((enm 0 (rows n f)).filter (fun (p : Int × Int) => decide (p.2 = step))).map (fun (p : Int × Int) => p.1))) = cellsBy n f := by
  rw [sset_sset]; unfold cellsBy vals
  refine List.map_congr_left fun v _ => ?_
  rw [enm_idx, List.filter_map, List.map_map]
  show List.map (fun x => x) _ = _
  rw [List.map_id']; rfl
end BR
end
section
namespace BR
open DT RK
variable {n : Nat} {f g : Int → Int} {p q : Int → Bool} {x : Int}
/-! ## cells: none empty, no world twice, all worlds -/
structure Part (n : Nat) (cs : List (List Int)) : Prop where
  full : ∀ c ∈ cs, c ≠ []
  nd : cs.flatten.Nodup
  mem : ∀ x, x ∈ cs.flatten ↔ x ∈ idx n
theorem part_cells (n : Nat) (f : Int → Int) : Part n (cellsBy n f) := by
  refine ⟨fun c hc => ?_, ?_, fun x => ?_⟩
  · obtain ⟨v, hv, rfl⟩ := List.mem_map.mp hc
    obtain ⟨x, hx, e⟩ := mem_vals.mp hv
    exact List.ne_nil_of_mem (List.mem_filter.mpr ⟨hx, by simp [e]⟩)
  · unfold List.Nodup
    rw [List.pairwise_flatten]
    refine ⟨fun c hc => ?_, ?_⟩
    · obtain ⟨v, hv, rfl⟩ := List.mem_map.mp hc
      exact (List.Pairwise.filter _ (ss_idx n)).imp fun h => Int.ne_of_lt h
    · unfold cellsBy
      rw [List.pairwise_map]
      refine (RK.ss_sset _).imp fun {a b} h y hy z hz => ?_
      have h1 := (List.mem_filter.mp hy).2
      have h2 := (List.mem_filter.mp hz).2
      intro e; subst e; simp at h1 h2; omega
  · unfold cellsBy
    simp only [List.mem_flatten, List.mem_map]
    constructor
    · rintro ⟨c, ⟨v, hv, rfl⟩, hx⟩; exact (List.mem_filter.mp hx).1
    · intro hx
      exact ⟨_, ⟨f x, mem_vals.mpr ⟨x, hx, rfl⟩, rfl⟩, List.mem_filter.mpr ⟨hx, by simp⟩⟩
theorem Part.len {cs : List (List Int)} (h : Part n cs) : cs.flatten.length = n := by
  have : cs.flatten.Perm (idx n) := (List.perm_ext_iff_of_nodup h.nd ((ss_idx n).imp fun h => Int.ne_of_lt h)).mpr h.mem
  rw [this.length_eq, len_idx]
/-! ### which cell -/
theorem put_new {ks : List (Int × Int)} {k v : Int} (h : k ∉ ks.map (·.1)) : putI ks k v = ks ++ [(k, v)] := by
  unfold putI
  rw [if_neg]
  rw [List.any_eq_true]
  rintro ⟨p, hp, e⟩
  exact h (List.mem_map.mpr ⟨p, hp, by simpa using e⟩)
theorem put_in : ∀ (c : List Int) (k : Int) (acc : List (Int × Int)), (acc.map (·.1) ++ c).Nodup → c.foldl (fun acc y => putI acc y k) acc = acc ++ c.map fun y => (y, k)
  | [], k, acc, _ => by simp
  | y :: c, k, acc, h => by
    have h1 := List.nodup_append.mp h
    have hn : y ∉ acc.map (·.1) := fun z => h1.2.2 y z y (by simp) rfl
    rw [List.foldl_cons, put_new hn, put_in c k _ (by simpa [List.map_append, List.append_assoc] using h)]
    simp
def tabOf (xs : List (Int × List Int)) : List (Int × Int) := xs.flatMap fun p => p.2.map fun y => (y, p.1)
theorem put_out : ∀ (xs : List (Int × List Int)) (acc : List (Int × Int)), (acc.map (·.1) ++ (xs.map (·.2)).flatten).Nodup → xs.foldl (fun acc p => p.2.foldl (fun acc y => putI acc y p.1) acc) acc = acc ++ tabOf xs
  | [], acc, _ => by simp [tabOf]
  | p :: xs, acc, h => by
    rw [List.map_cons, List.flatten_cons, ← List.append_assoc] at h
    rw [List.foldl_cons, put_in p.2 p.1 acc (List.nodup_append.mp h).1, put_out xs _ ?_]
    · unfold tabOf; rw [List.flatMap_cons, List.append_assoc]
    · rw [List.map_append, List.map_map]
      have e : p.2.map ((fun z : Int × Int => z.1) ∘ fun y => (y, p.1)) = p.2 := by
        rw [show ((fun z : Int × Int => z.1) ∘ fun y => (y, p.1)) = id from rfl, List.map_id]
      rw [e]; exact h
theorem enm_snd : ∀ (cs : List (List Int)) (k : Nat), (enm k cs).map (·.2) = cs
  | [], _ => rfl
  | c :: cs, k => by unfold enm; rw [List.map_cons, enm_snd cs]
theorem tab_keys : ∀ (xs : List (Int × List Int)), (tabOf xs).map (·.1) = (xs.map (·.2)).flatten
  | [] => rfl
  | p :: xs => by
    unfold tabOf
    rw [List.flatMap_cons, List.map_append, List.map_map, List.map_cons, List.flatten_cons]
    have e : p.2.map ((fun z : Int × Int => z.1) ∘ fun y => (y, p.1)) = p.2 := by
      rw [show ((fun z : Int × Int => z.1) ∘ fun y => (y, p.1)) = id from rfl, List.map_id]
    rw [e]; exact congrArg _ (tab_keys xs)
theorem dc_tab {cs : List (List Int)} (h : cs.flatten.Nodup) : dc2F (fun (p : Int × (List Int)) => p.2) (fun (p : Int × (List Int)) (world : Int) => world) (fun (p : Int × (List Int)) (world : Int) => p.1) (enm 0 cs) = tabOf (enm 0 cs) := by
  unfold dc2F
  rw [put_out (enm 0 cs) [] (by rw [enm_snd]; simpa using h)]; rfl
theorem get_mem : ∀ {ks : List (Int × Int)} {x k : Int}, (ks.map (·.1)).Nodup → (x, k) ∈ ks → getI ks x = some k
  | [], _, _, _, h => by simp at h
  | (y, l) :: ks, x, k, hn, h => by
    rw [List.map_cons, List.nodup_cons] at hn
    rcases List.mem_cons.mp h with e | e
    · cases e; simp [getI]
    · have hne : y ≠ x := fun z => hn.1 (z ▸ List.mem_map.mpr ⟨_, e, rfl⟩)
      have := get_mem hn.2 e
      unfold getI at this ⊢
      rw [List.find?_cons_of_neg (by simpa using hne)]; exact this
theorem mem_enm : ∀ {cs : List (List Int)} {k i : Nat} {c : List Int}, cs[i]? = some c → (((k + i : Nat) : Int), c) ∈ enm k cs
  | [], _, _, _, h => by simp at h
  | d :: cs, k, 0, c, h => by simp at h; subst h; unfold enm; simp
  | d :: cs, k, i + 1, c, h => by
    unfold enm
    have := mem_enm (k := k + 1) (by simpa using h : cs[i]? = some c)
    rw [show k + (i + 1) = k + 1 + i by omega]
    exact List.mem_cons_of_mem _ this
theorem get_dense (hx : x ∈ idx n) : getI (tabOf (enm 0 (cellsBy n f))) x = some (dense n f x) := by
  refine get_mem ?_ ?_
  · rw [tab_keys, enm_snd]; exact (part_cells n f).nd
  · have hv : f x ∈ vals n f := mem_vals.mpr ⟨x, hx, rfl⟩
    have hc : (cellsBy n f)[(vals n f).idxOf (f x)]? = some ((idx n).filter fun y => decide (f y = f x)) := by
      unfold cellsBy
      rw [List.getElem?_map, idxOf_get hv]; rfl
    have := mem_enm (k := 0) hc
    rw [Nat.zero_add] at this
    exact List.mem_flatMap.mpr ⟨_, this, List.mem_map.mpr ⟨x, List.mem_filter.mpr ⟨hx, by simp⟩, rfl⟩⟩
theorem tab_len {cs : List (List Int)} (h : Part n cs) : (tabOf (enm 0 cs)).length = n := by
  rw [← List.length_map (f := fun z : Int × Int => z.1), tab_keys, enm_snd, h.len]
/-! ### the check of cells, two loops -/
def inB (a : Option Int) (w : Int → Bool) (s : List Int) (e : Int) : Fl (List Int) (Option Int) := if (!(w e) || decide (e ∈ s)) = true then .ret a else .next (s ++ [e])
theorem in_ok {a : Option Int} {w : Int → Bool} : ∀ (c s : List Int), (∀ e ∈ c, w e = true) → (s ++ c).Nodup → forF (inB a w) c s = .next (s ++ c)
  | [], s, _, _ => by simp [forF]
  | e :: c, s, hw, hn => by
    have h1 := List.nodup_append.mp hn
    have hs : e ∉ s := fun z => h1.2.2 e z e (by simp) rfl
    have hb : inB a w s e = .next (s ++ [e]) := by unfold inB; rw [if_neg (by simp [hw e (by simp), hs])]
    unfold forF; rw [hb]
    show forF _ c (s ++ [e]) = _
    rw [in_ok c (s ++ [e]) (fun z hz => hw z (List.mem_cons_of_mem _ hz)) (by simpa [List.append_assoc] using hn)]
    simp
theorem in_okk {a : Option Int} {w : Int → Bool} {P : Int → Prop} (hP : ∀ e, P e) : ∀ (c s : List Int), s.length + c.length ≤ 1000 → OkFor (inB a w) (fun s e => (!(w e) || decide (e ∈ s)) = false → s.length < PySem.sizeLine) c s
  | [], _, _ => trivial
  | e :: c, s, h => by
    rw [List.length_cons] at h
    refine ⟨fun _ => L2.small1000 (by omega), ?_⟩
    cases hb : inB a w s e with
    | next r =>
      have hr : r = s ++ [e] := by
        unfold inB at hb; split at hb
        · cases hb
        · cases hb; rfl
      subst hr
      exact in_okk hP c _ (by rw [List.length_append]; simp; omega)
    | cnt r => unfold inB at hb; split at hb <;> cases hb
    | brk r => trivial
    | ret r => trivial
end BR
end
section
namespace BR
open DT RK
variable {n : Nat} {f g : Int → Int} {p q : Int → Bool} {x : Int}
theorem in_next {a : Option Int} {w : Int → Bool} : ∀ {c s r : List Int}, forF (inB a w) c s = .next r → r = s ++ c
  | [], s, r, h => by unfold forF at h; cases h; simp
  | e :: c, s, r, h => by
    unfold forF at h
    have hb : inB a w s e = .ret a ∨ inB a w s e = .next (s ++ [e]) := by unfold inB; split <;> simp
    rcases hb with hb | hb
    · rw [hb] at h; cases h
    · rw [hb] at h
      have := in_next (c := c) (s := s ++ [e]) (r := r) h
      rw [this]; simp
def outB (w : Int → Bool) (s : List Int) (p : Int × List Int) : Fl (List Int) (Option Int) :=
  if ((!true) || decide ((p.2.length : Int) = 0)) = true then .ret (some p.1) else (forF (inB (some p.1) w) p.2 s).fl fun s2 => .next s2
theorem out_ok {w : Int → Bool} : ∀ (xs : List (Int × List Int)) (s : List Int), (∀ p ∈ xs, p.2 ≠ [] ∧ ∀ e ∈ p.2, w e = true) → (s ++ (xs.map (·.2)).flatten).Nodup → forF (outB w) xs s = .next (s ++ (xs.map (·.2)).flatten)
  | [], s, _, _ => by simp [forF]
  | p :: xs, s, hp, hn => by
    obtain ⟨h1, h2⟩ := hp p (by simp)
    rw [List.map_cons, List.flatten_cons, ← List.append_assoc] at hn ⊢
    have hl : ¬ (p.2.length : Int) = 0 := by have := List.length_pos_iff.mpr h1; omega
    have hb : outB w s p = .next (s ++ p.2) := by
      unfold outB
      rw [if_neg (by simp [h1]), in_ok p.2 s h2 (List.nodup_append.mp hn).1]; rfl
    unfold forF; rw [hb]
    exact out_ok xs (s ++ p.2) (fun z hz => hp z (List.mem_cons_of_mem _ hz)) hn
theorem out_okk {w : Int → Bool} : ∀ (xs : List (Int × List Int)) (s : List Int), s.length + ((xs.map (·.2)).flatten).length ≤ 1000 →
    OkFor (outB w) (fun s p => ((!true) || decide ((p.2.length : Int) = 0)) = false → OkFor (inB (some p.1) w) (fun s e => (!(w e) || decide (e ∈ s)) = false → s.length < PySem.sizeLine) p.2 s) xs s
  | [], _, _ => trivial
  | p :: xs, s, h => by
    rw [List.map_cons, List.flatten_cons, List.length_append] at h
    refine ⟨fun _ => in_okk (P := fun _ => True) (fun _ => trivial) _ _ (by omega), ?_⟩
    cases hb : outB w s p with
    | next r =>
      have hr : r = s ++ p.2 := by
        unfold outB at hb; split at hb
        · cases hb
        · cases e : forF (inB (some p.1) w) p.2 s with
          | next r2 => rw [e] at hb; cases hb; exact in_next e
          | ret a => rw [e] at hb; cases hb
      subst hr
      exact out_okk xs _ (by rw [List.length_append]; omega)
    | cnt r =>
      unfold outB at hb; split at hb
      · cases hb
      · cases e : forF (inB (some p.1) w) p.2 s with
        | next r2 => rw [e] at hb; cases hb
        | ret a => rw [e] at hb; cases hb
    | brk r => trivial
    | ret r => trivial
theorem enm_mem : ∀ {cs : List (List Int)} {k : Nat} {p : Int × List Int}, p ∈ enm k cs → p.2 ∈ cs
  | [], _, _, h => by simp [enm] at h
  | c :: cs, k, p, h => by
    unfold enm at h
    rcases List.mem_cons.mp h with e | e
    · subst e; simp
    · exact List.mem_cons_of_mem _ (enm_mem e)
theorem Part.out {cs : List (List Int)} (h : Part n cs) {w : Int → Bool} (hw : ∀ x ∈ idx n, w x = true) : forF (outB w) (enm 0 cs) [] = .next cs.flatten := by
  have := out_ok (w := w) (enm 0 cs) [] (fun p hp => ⟨h.full _ (enm_mem hp), fun e he => hw e ((h.mem e).mp (List.mem_flatten.mpr ⟨_, enm_mem hp, he⟩))⟩) (by rw [enm_snd]; exact h.nd)
  rw [enm_snd] at this; simpa using this
theorem Part.max {cs : List (List Int)} (h : Part n cs) (hn : 0 < n) : ¬ (cs.flatten.length : Int) ≤ maxL cs.flatten := by
  have hne : cs.flatten ≠ [] := fun e => by have := h.len; rw [e] at this; simp at this; omega
  have := (mem_idx.mp ((h.mem _).mp (maxL_mem hne))).2
  rw [h.len]; omega
theorem Part.ne {cs : List (List Int)} (h : Part n cs) (hn : 0 < n) : cs ≠ [] := fun e => by
  have := h.len; rw [e] at this; simp at this; omega
/-! ### what is no lot, found by a loop -/
def weB (w : Int → Bool) (l : List Int) (r : Unit) (p : Int × Int) : Fl Unit (Option Int) := if (!(w p.2) || decide (p.2 ∈ pyCut l none (some p.1))) = true then .ret (some p.1) else .next ()
theorem we_go {w : Int → Bool} {l : List Int} : ∀ (xs : List (Int × Int)), (∀ p ∈ xs, w p.2 = true ∧ p.2 ∉ pyCut l none (some p.1)) → forF (weB w l) xs () = .next ()
  | [], _ => rfl
  | p :: xs, h => by
    obtain ⟨h1, h2⟩ := h p (by simp)
    unfold forF
    rw [show weB w l () p = .next () by unfold weB; rw [if_neg (by simp [h1, h2])]]
    exact we_go xs fun z hz => h z (List.mem_cons_of_mem _ hz)
theorem cut_take {l : List Int} {i : Nat} (h : i ≤ l.length) : pyCut l none (some (i : Int)) = l.take i := by
  unfold pyCut HT.sIx
  have h1 : ¬ (i : Int) < 0 := by omega
  simp [h1, Nat.min_eq_left h]
theorem we_lot {w : Int → Bool} {l : List Int} (hn : l.Nodup) (hw : ∀ x ∈ l, w x = true) : forF (weB w l) (enm 0 l) () = .next () := by
  refine we_go _ fun p hp => ?_
  rw [enm_rows] at hp
  obtain ⟨i, hi, rfl⟩ := List.mem_map.mp hp
  have hi' := List.mem_range.mp hi
  rw [Nat.zero_add]
  have e : l.getD i 0 = l[i] := by rw [List.getD_eq_getElem?_getD, List.getElem?_eq_getElem hi']; rfl
  refine ⟨by rw [e]; exact hw _ (List.getElem_mem hi'), ?_⟩
  rw [cut_take (by omega), e]
  intro hm
  obtain ⟨j, hj, e2⟩ := List.mem_iff_getElem.mp hm
  rw [List.getElem_take] at e2
  rw [List.length_take] at hj
  have e3 : l[j] = l[i] := e2
  exact List.pairwise_iff_getElem.mp hn j i (by omega) hi' (by omega) e3
end BR
end
section
set_option maxHeartbeats 1000000
namespace NB
open DT RK BR
variable {n : Nat} {f g : Int → Int} {p q : Int → Bool} {x : Int}
/-! ## the program's functions on ranks and lots -/
abbrev wW : Int → Bool := fun e => f_is_within e 0 (12 - 1)
theorem within (h0 : 0 ≤ x) (h1 : x ≤ 11) : wW x = true := by
  show ((true && !false) && (decide (0 ≤ x) && decide (x ≤ 12 - 1))) = true
  simp; omega
theorem fault_none {cs : List (List Int)} (h : Part n cs) (hn : 0 < n) (h12 : n ≤ 12) : f_cells_fault cs = none := by
  show (if ((!true) || decide ((cs.length : Int) = 0)) = true then (some (-1)) else (forF (outB wW) (enm 0 cs) []).el fun (seen1 : List Int) => if (decide ((seen1.length : Int) ≤ (maxL seen1))) = true then (some (cs.length : Int)) else none) = none
  have h0 : ¬ (cs.length : Int) = 0 := by have := List.length_pos_iff.mpr (h.ne hn); omega
  rw [if_neg (by simp [h.ne hn]), h.out fun x hx => within (mem_idx.mp hx).1 (by have := (mem_idx.mp hx).2; omega)]
  show (if _ then _ else _) = _
  rw [if_neg (by simpa using h.max hn)]
theorem fault_ok {cs : List (List Int)} (h : Part n cs) (hn : 0 < n) (h12 : n ≤ 12) : ok_f_cells_fault cs := by
  unfold ok_f_cells_fault
  intro _
  refine ⟨out_okk (w := wW) (enm 0 cs) [] (by rw [enm_snd, h.len]; simp; omega), ?_⟩
  intro r hr
  have e : (forF (outB wW) (enm 0 cs) []) = .next r := hr
  rw [h.out fun x hx => within (mem_idx.mp hx).1 (by have := (mem_idx.mp hx).2; omega)] at e
  cases e
  intro e; have := h.len; rw [e] at this; simp at this; omega
theorem fault_none2 {cs : List (List Int)} (h : Part n cs) (hn : 0 < n) (h12 : n ≤ 12) : f_cells_fault_2 cs = none := fault_none h hn h12
theorem fault_ok2 {cs : List (List Int)} (h : Part n cs) (hn : 0 < n) (h12 : n ≤ 12) : ok_f_cells_fault_2 cs := fault_ok h hn h12
/-- a rank as its levels say -/
def rk (n : Nat) (f : Int → Int) : Rank := { cells := cellsBy n f, levels := rows n (dense n f), worlds := (n : Int) }
theorem cells_sorted : (cellsBy n f).map (fun c => srt c) = cellsBy n f := by
  unfold cellsBy; rw [List.map_map]
  exact List.map_congr_left fun v _ => srt_ss (List.Pairwise.filter _ (ss_idx n))
theorem levels_of : f_levels_of (cellsBy n f) = rows n (dense n f) := by
  unfold f_levels_of
  rw [dc_tab (part_cells n f).nd]
  show (rng 0 ((tabOf (enm 0 (cellsBy n f))).length : Int)).map _ = _
  rw [tab_len (part_cells n f), rng_idx]
  exact List.map_congr_left fun x hx => by rw [get_dense hx]; rfl
theorem levels_ok (h12 : n ≤ 12) : ok_f_levels_of (cellsBy n f) := by
  unfold ok_f_levels_of
  refine ⟨?_, ?_⟩
  · have e : ((enm 0 (cellsBy n f)).map fun (p : Int × (List Int)) => p.2.length) = (cellsBy n f).map List.length := by
      have := congrArg (List.map List.length) (enm_snd (cellsBy n f) 0)
      rw [List.map_map] at this; exact this
    rw [e, ← List.length_flatten, (part_cells n f).len]
    exact Nat.le_of_lt (L2.small1000 (by omega))
  · rw [dc_tab (part_cells n f).nd]
    show (_ ∧ _) ∧ _
    rw [tab_len (part_cells n f), rng_idx]
    exact ⟨⟨by omega, by omega⟩, fun x hx => by rw [get_dense hx]; rfl⟩
theorem init_eq : f_Rank__init__ (cellsBy n f) = rk n f := by
  unfold f_Rank__init__ rk
  dsimp only
  rw [cells_sorted, levels_of, len_rows]
theorem init_eq2 : f_Rank__init___2 (cellsBy n f) = rk n f := init_eq
theorem init_ok (hn : 0 < n) (h12 : n ≤ 12) : ok_f_Rank__init__ (cellsBy n f) := by
  unfold ok_f_Rank__init__
  refine ⟨fault_ok (part_cells n f) hn h12, ?_⟩
  rw [fault_none (part_cells n f) hn h12, cells_sorted]
  exact ⟨rfl, levels_ok h12⟩
theorem init_ok2 (hn : 0 < n) (h12 : n ≤ 12) : ok_f_Rank__init___2 (cellsBy n f) := init_ok hn h12
theorem of_levels_eq : f_Rank_of_levels (rows n f) = rk n f := by
  unfold f_Rank_of_levels
  have e : f_cells_by (rows n f) = cellsBy n f := cells_by
  rw [e, init_eq]
theorem of_levels_ok (hn : 0 < n) (h12 : n ≤ 12) : ok_f_Rank_of_levels (rows n f) := by
  have e : f_cells_by (rows n f) = cellsBy n f := cells_by
  unfold ok_f_Rank_of_levels
  rw [e]
  refine ⟨?_, ?_, ?_, init_ok hn h12⟩
  · show (!true || !(decide (1 ≤ ((rows n f).length : Int)) && decide (((rows n f).length : Int) ≤ 12))) = false
    rw [len_rows]; simp; omega
  · show (!((rows n f).map fun _ => (true && !false)).all id) = false
    simp
  · show (rows n f).length < 64
    rw [len_rows]; omega
/-! ### lots -/
theorem fault_lot (h12 : n ≤ 12) : f_lot_fault (lot n p) (n : Int) = none := by
  show (if (!true) = true then some (-1) else (forF (weB (fun e => f_is_within e 0 ((n : Int) - 1)) (lot n p)) (enm 0 (lot n p)) ()).el fun _ => none) = none
  rw [if_neg (by decide), we_lot (ss_lot.imp fun h => Int.ne_of_lt h) ?_]
  · rfl
  · intro x hx
    have := mem_idx.mp (mem_lot.mp hx).1
    show ((true && !false) && (decide (0 ≤ x) && decide (x ≤ (n : Int) - 1))) = true
    simp; omega
theorem lot_of_eq {e : Bool} : f_lot_of (lot n p) (n : Int) e = lot n p := srt_ss ss_lot
theorem worlds_ok (hn : 0 < n) (h12 : n ≤ 12) : ok_f_check_worlds (n : Int) 12 := by
  show (!((true && !false) && (decide (1 ≤ (n : Int)) && decide ((n : Int) ≤ 12)))) = false
  simp; omega
theorem lot_of_ok {e : Bool} (hn : 0 < n) (h12 : n ≤ 12) (he : e = true ∨ ∃ x ∈ idx n, p x = true) : ok_f_lot_of (lot n p) (n : Int) e := by
  refine ⟨worlds_ok hn h12, ?_⟩
  rw [fault_lot h12]
  refine ⟨rfl, ?_⟩
  rcases he with he | ⟨x, hx, e⟩
  · rw [he]; simp
  · have : lot n p ≠ [] := List.ne_nil_of_mem (mem_lot.mpr ⟨hx, e⟩)
    have h0 : ¬ ((lot n p).length : Int) = 0 := by have := List.length_pos_iff.mpr this; omega
    simp [this]
theorem common_eq : f_common (lot n p) (lot n q) = lot n fun x => p x && q x := by
  unfold f_common
  have e : (lot n p).filter (fun w => decide (w ∈ lot n q)) = lot n fun x => p x && q x := by
    rw [filter_lot]
    refine lot_congr fun x hx => ?_
    have : decide (x ∈ lot n q) = q x := by rw [Bool.eq_iff_iff, decide_eq_true_eq, mem_lot]; exact ⟨fun h => h.2, fun h => ⟨hx, h⟩⟩
    rw [this]
  rw [e]; exact srt_ss ss_lot
theorem minus_eq : f_minus (lot n p) (lot n q) = lot n fun x => p x && !q x := by
  unfold f_minus
  have e : (lot n p).filter (fun w => !decide (w ∈ lot n q)) = lot n fun x => p x && !q x := by
    rw [filter_lot]
    refine lot_congr fun x hx => ?_
    have : decide (x ∈ lot n q) = q x := by rw [Bool.eq_iff_iff, decide_eq_true_eq, mem_lot]; exact ⟨fun h => h.2, fun h => ⟨hx, h⟩⟩
    rw [this]
  rw [e]; exact srt_ss ss_lot
theorem plus_eq : f_plus (lot n p) (lot n q) = lot n fun x => p x || q x := by
  unfold f_plus
  refine RK.ss_ext (DT.ss_sset _) ss_lot fun x => ?_
  rw [DT.mem_sset, List.mem_append, mem_lot, mem_lot, mem_lot, Bool.or_eq_true]
  constructor
  · rintro (h | h)
    · exact ⟨h.1, .inl h.2⟩
    · exact ⟨h.1, .inr h.2⟩
  · rintro ⟨h, h1 | h1⟩
    · exact .inl ⟨h, h1⟩
    · exact .inr ⟨h, h1⟩
end NB
end
section
set_option maxHeartbeats 1000000
namespace NB
open DT RK BR
variable {n : Nat} {f g : Int → Int} {p q : Int → Bool} {x : Int}
theorem rk_oeq (h : OEq n f g) : rk n f = rk n g := by
  unfold rk; rw [cells_oeq h, rows_congr fun x hx => dense_eq h hx]
theorem cell_at (hx : x ∈ idx n) : (cellsBy n f)[(vals n f).idxOf (f x)]? = some (lot n fun y => decide (f y = f x)) := by
  unfold cellsBy
  rw [List.getElem?_map, idxOf_get (mem_vals.mpr ⟨x, hx, rfl⟩)]; rfl
theorem cell_ix (hx : x ∈ idx n) : pyIx (cellsBy n f) (dense n f x) = lot n fun y => decide (f y = f x) := by
  unfold pyIx
  rw [if_pos (dense_nonneg n f x), List.getD_eq_getElem?_getD]
  unfold dense
  rw [Int.toNat_natCast, cell_at hx]; rfl
theorem cell_ok (hx : x ∈ idx n) : IxOk (cellsBy n f) (dense n f x) := by
  obtain ⟨h, _⟩ := List.getElem?_eq_some_iff.mp (cell_at (f := f) hx)
  unfold IxOk dense
  omega
theorem dense_le (hx : x ∈ idx n) {y : Int} (hy : y ∈ idx n) : dense n f x ≤ dense n f y ↔ f x ≤ f y := by
  have h := dense_oeq n f y hy x hx
  constructor <;> intro e
  · exact Int.not_lt.mp fun z => absurd (h.mpr z) (by omega)
  · exact Int.not_lt.mp fun z => absurd (h.mp z) (by omega)
theorem dense_inj (hx : x ∈ idx n) {y : Int} (hy : y ∈ idx n) : dense n f x = dense n f y ↔ f x = f y := (dense_oeq n f).eq hx hy
/-- the least world has number 0 -/
theorem dense_zero (hx : x ∈ idx n) : dense n f x = 0 ↔ hd n f x = true := by
  rw [hd_iff]
  constructor
  · intro e y hy
    rw [← dense_le hx hy, e]; exact dense_nonneg n f y
  · intro h
    unfold dense
    have hv : f x ∈ vals n f := mem_vals.mpr ⟨x, hx, rfl⟩
    cases e : vals n f with
    | nil => rw [e] at hv; simp at hv
    | cons v vs =>
      have hv0 : v ∈ vals n f := by rw [e]; simp
      obtain ⟨y, hy, ey⟩ := mem_vals.mp hv0
      have hs : SS (v :: vs) := e ▸ RK.ss_sset _
      have h1 := h y hy
      rw [e] at hv
      have : f x = v := by
        rcases List.mem_cons.mp hv with h2 | h2
        · exact h2
        · have := (List.pairwise_cons.mp hs).1 _ h2; omega
      rw [this]; simp
theorem held_eq (hn : 0 < n) : f_Rank_held (rk n f) = lot n (hd n f) := by
  obtain ⟨x, hx, e⟩ := hd_ex (f := f) hn
  show pyIx (cellsBy n f) 0 = _
  rw [← (dense_zero hx).mpr e, cell_ix hx]
  refine lot_congr fun y hy => ?_
  rw [Bool.eq_iff_iff, decide_eq_true_eq, hd_iff]
  have := hd_iff.mp e
  constructor
  · intro h z hz; rw [h]; exact this z hz
  · intro h; have := this y hy; have := h x hx; omega
theorem held_ok (hn : 0 < n) : ok_f_Rank_held (rk n f) := by
  obtain ⟨x, hx, e⟩ := hd_ex (f := f) hn
  have := cell_ok (f := f) hx
  rw [(dense_zero hx).mpr e] at this; exact this
theorem min_lot (h : ∃ x ∈ idx n, p x = true) (g : Int → Int) : ∃ x ∈ idx n, p x = true ∧ minL ((lot n p).map g) = g x ∧ ∀ y ∈ idx n, p y = true → g x ≤ g y := by
  obtain ⟨x, hx, e⟩ := h
  have hne : (lot n p).map g ≠ [] := List.ne_nil_of_mem (List.mem_map.mpr ⟨x, mem_lot.mpr ⟨hx, e⟩, rfl⟩)
  obtain ⟨y, hy, ey⟩ := List.mem_map.mp (minL_mem hne)
  exact ⟨y, (mem_lot.mp hy).1, (mem_lot.mp hy).2, ey.symm, fun z hz e2 => by rw [ey]; exact minL_le (List.mem_map.mpr ⟨z, mem_lot.mpr ⟨hz, e2⟩, rfl⟩)⟩
theorem map_ix : (lot n p).map (fun w => pyIx (rows n g) w) = (lot n p).map g := List.map_congr_left fun x hx => ix_rows (mem_lot.mp hx).1
theorem best_eq (h : ∃ x ∈ idx n, p x = true) : f_Rank_best (rk n f) (lot n p) = lot n (bs n f p) := by
  show f_common (f_lot_of (lot n p) (n : Int) false) (pyIx (cellsBy n f) (minL ((f_lot_of (lot n p) (n : Int) false).map fun w => pyIx (rows n (dense n f)) w))) = _
  rw [lot_of_eq, map_ix]
  obtain ⟨x, hx, e1, e2, e3⟩ := min_lot h (dense n f)
  rw [e2, cell_ix hx, common_eq]
  refine lot_congr fun y hy => ?_
  rw [Bool.eq_iff_iff, Bool.and_eq_true, decide_eq_true_eq, bs_iff]
  constructor
  · rintro ⟨a, b⟩; exact ⟨a, fun z hz c => by rw [b]; exact (dense_le hx hz).mp (e3 z hz c)⟩
  · rintro ⟨a, b⟩; refine ⟨a, ?_⟩
    have h1 := b x hx e1
    have h2 := (dense_le hx hy).mp (e3 y hy a)
    omega
theorem best_ok (hn : 0 < n) (h12 : n ≤ 12) (h : ∃ x ∈ idx n, p x = true) : ok_f_Rank_best (rk n f) (lot n p) := by
  refine ⟨lot_of_ok hn h12 (.inr h), ?_⟩
  show (∀ w ∈ f_lot_of (lot n p) (n : Int) false, IxOk (rows n (dense n f)) w) ∧ ((f_lot_of (lot n p) (n : Int) false).map fun w => pyIx (rows n (dense n f)) w) ≠ [] ∧ IxOk (cellsBy n f) (minL ((f_lot_of (lot n p) (n : Int) false).map fun w => pyIx (rows n (dense n f)) w))
  rw [lot_of_eq, map_ix]
  obtain ⟨x, hx, e1, e2, e3⟩ := min_lot h (dense n f)
  refine ⟨fun w hw => ok_rows (mem_lot.mp hw).1, List.ne_nil_of_mem (List.mem_map.mpr ⟨x, mem_lot.mpr ⟨hx, e1⟩, rfl⟩), ?_⟩
  rw [e2]; exact cell_ok hx
theorem every_eq : f_every (n : Int) = lot n fun _ => true := by
  show rng 0 (n : Int) = _
  rw [rng_idx]; exact (List.filter_eq_self.mpr fun _ _ => rfl).symm
theorem every_ok (hn : 0 < n) (h12 : n ≤ 12) : ok_f_every (n : Int) := ⟨worlds_ok hn h12, by omega, by omega⟩
theorem rest_eq : f_rest_of (lot n p) (n : Int) = lot n (nt p) := by
  unfold f_rest_of
  rw [every_eq, lot_of_eq, minus_eq]
  exact lot_congr fun x _ => by simp [nt]
theorem rest_ok (hn : 0 < n) (h12 : n ≤ 12) : ok_f_rest_of (lot n p) (n : Int) := ⟨every_ok hn h12, lot_of_ok hn h12 (.inl rfl)⟩
theorem parts_out_eq : f_parts_out (cellsBy n f) (lot n q) = partsOut (cellsBy n f) q := by
  unfold f_parts_out partsOut
  have e : (cellsBy n f).map (fun c => f_minus c (lot n q)) = (cellsBy n f).map fun c => c.filter fun x => !q x := by
    unfold cellsBy
    rw [List.map_map, List.map_map]
    refine List.map_congr_left fun v _ => ?_
    show f_minus (lot n fun x => decide (f x = v)) (lot n q) = (lot n fun x => decide (f x = v)).filter _
    rw [minus_eq, filter_lot]
  rw [e]
theorem parts_in_eq : f_parts_in (cellsBy n f) (lot n q) = partsOut (cellsBy n f) (nt q) := by
  unfold f_parts_in partsOut
  have e : (cellsBy n f).map (fun c => f_common c (lot n q)) = (cellsBy n f).map fun c => c.filter fun x => !(nt q x) := by
    unfold cellsBy
    rw [List.map_map, List.map_map]
    refine List.map_congr_left fun v _ => ?_
    show f_common (lot n fun x => decide (f x = v)) (lot n q) = (lot n fun x => decide (f x = v)).filter _
    rw [common_eq, filter_lot]
    exact lot_congr fun x _ => by simp [nt]
  rw [e]
theorem inside_eq : f_inside (lot n p) (lot n q) = decide (∀ x ∈ idx n, p x = true → q x = true) := by
  unfold f_inside
  rw [Bool.eq_iff_iff, decide_eq_true_eq, List.all_map, List.all_eq_true]
  simp only [Function.comp, id, decide_eq_true_eq, mem_lot]
  exact ⟨fun h x hx e => (h x ⟨hx, e⟩).2, fun h x hx => ⟨hx.1, h x hx.1 hx.2⟩⟩
theorem but_all_eq : f_lot_but_all (lot n p) (n : Int) = lot n p := lot_of_eq (e := true)
theorem lot_short (np : ∃ x ∈ idx n, p x = false) : (lot n p).length < n := by
  have : ((idx n).filter p).length < (idx n).length := by
    rw [← Nat.not_le]
    intro h
    have e : (idx n).filter p = idx n := List.Sublist.eq_of_length_le List.filter_sublist h
    obtain ⟨x, hx, ex⟩ := np
    rw [← e] at hx
    rw [(List.mem_filter.mp hx).2] at ex; cases ex
  rw [len_idx] at this; exact this
theorem but_all_ok (hn : 0 < n) (h12 : n ≤ 12) (np : ∃ x ∈ idx n, p x = false) : ok_f_lot_but_all (lot n p) (n : Int) := by
  refine ⟨lot_of_ok hn h12 (.inl rfl), ?_⟩
  show decide (((f_lot_of (lot n p) (n : Int) true).length : Int) = (n : Int)) = false
  rw [lot_of_eq]
  have := lot_short np
  simp; omega
theorem lvl_ex (hn : 0 < n) : ∃ x ∈ idx n, lvl n f p x = true := by
  obtain ⟨x, hx, e⟩ := hd_ex (f := f) hn
  exact ⟨x, hx, lvl_iff.mpr (.inl e)⟩
theorem rk_dense : rk n (dense n f) = rk n f := rk_oeq (dense_oeq n f)
theorem front_cells (hp : ∃ x ∈ idx n, q x = true) : lot n q :: partsOut (cellsBy n f) q = cellsBy n (front q (dense n f)) := by
  rw [cells_front (fun x _ => dense_nonneg n f x) hp, cells_oeq (dense_oeq n f)]; rfl
theorem len_parts (h12 : n ≤ 12) : ([lot n q].length + (partsOut (cellsBy n f) p).length) ≤ PySem.sizeLine := by
  have h1 : (partsOut (cellsBy n f) p).length ≤ (cellsBy n f).length := by
    unfold partsOut
    exact Nat.le_trans (List.length_filter_le ..) (by rw [List.length_map]; exact Nat.le_refl _)
  have h2 : (cellsBy n f).length ≤ (cellsBy n f).flatten.length := by
    have : ∀ cs : List (List Int), (∀ c ∈ cs, c ≠ []) → cs.length ≤ cs.flatten.length := by
      intro cs
      induction cs with
      | nil => intro _; simp
      | cons c cs ih =>
        intro h
        have := List.length_pos_iff.mpr (h c (by simp))
        have := ih fun d hd => h d (List.mem_cons_of_mem _ hd)
        rw [List.length_cons, List.flatten_cons, List.length_append]; omega
    exact this _ (part_cells n f).full
  rw [(part_cells n f).len] at h2
  exact Nat.le_of_lt (L2.small1000 (by simp; omega))
theorem levelled_eq (hn : 0 < n) (np : ∃ x ∈ idx n, p x = false) : f_levelled (rk n f) (lot n p) = rk n (levF n f p) := by
  have er : ∃ x ∈ idx n, nt p x = true := by obtain ⟨x, hx, e⟩ := np; exact ⟨x, hx, nt_iff.mpr e⟩
  show (if (!(f_inside (f_Rank_held (rk n f)) (f_lot_but_all (lot n p) (n : Int)))) = true then rk n f else f_Rank__init___2 ([f_plus (f_Rank_held (rk n f)) (f_Rank_best (rk n f) (f_rest_of (f_lot_but_all (lot n p) (n : Int)) (n : Int)))] ++ f_parts_out (cellsBy n f) (f_plus (f_Rank_held (rk n f)) (f_Rank_best (rk n f) (f_rest_of (f_lot_but_all (lot n p) (n : Int)) (n : Int)))))) = _
  rw [held_eq hn, but_all_eq, inside_eq, rest_eq, best_eq er, plus_eq]
  unfold levF
  by_cases h : isIn n f p = true
  · have h' := isIn_iff.mp h
    rw [if_neg (by simpa using h'), if_pos h, parts_out_eq]
    show f_Rank__init___2 (lot n (lvl n f p) :: partsOut (cellsBy n f) (lvl n f p)) = _
    rw [front_cells (lvl_ex hn), init_eq2]
  · have h' := fun z => h (isIn_iff.mpr z)
    rw [if_pos (by simpa using h'), if_neg h, rk_dense]
theorem plus_ok (h12 : n ≤ 12) : ok_f_plus (lot n p) (lot n q) := by
  have a := len_lot_le (n := n) (p := p)
  have b := len_lot_le (n := n) (p := q)
  exact ⟨Nat.le_of_lt (L2.small1000 (by omega)), by rw [List.length_append]; omega⟩
theorem levelled_ok (hn : 0 < n) (h12 : n ≤ 12) (np : ∃ x ∈ idx n, p x = false) : ok_f_levelled (rk n f) (lot n p) := by
  have er : ∃ x ∈ idx n, nt p x = true := by obtain ⟨x, hx, e⟩ := np; exact ⟨x, hx, nt_iff.mpr e⟩
  refine ⟨but_all_ok hn h12 np, held_ok hn, fun _ => ?_⟩
  show _ ∧ ok_f_rest_of (f_lot_but_all (lot n p) (n : Int)) (n : Int) ∧ ok_f_Rank_best (rk n f) (f_rest_of (f_lot_but_all (lot n p) (n : Int)) (n : Int)) ∧ ok_f_plus (f_Rank_held (rk n f)) (f_Rank_best (rk n f) (f_rest_of (f_lot_but_all (lot n p) (n : Int)) (n : Int))) ∧ ([f_plus (f_Rank_held (rk n f)) (f_Rank_best (rk n f) (f_rest_of (f_lot_but_all (lot n p) (n : Int)) (n : Int)))].length + (f_parts_out (cellsBy n f) (f_plus (f_Rank_held (rk n f)) (f_Rank_best (rk n f) (f_rest_of (f_lot_but_all (lot n p) (n : Int)) (n : Int))))).length ≤ PySem.sizeLine) ∧ ok_f_Rank__init___2 ([f_plus (f_Rank_held (rk n f)) (f_Rank_best (rk n f) (f_rest_of (f_lot_but_all (lot n p) (n : Int)) (n : Int)))] ++ f_parts_out (cellsBy n f) (f_plus (f_Rank_held (rk n f)) (f_Rank_best (rk n f) (f_rest_of (f_lot_but_all (lot n p) (n : Int)) (n : Int)))))
  rw [but_all_eq, rest_eq, held_eq hn, best_eq er, plus_eq, parts_out_eq]
  refine ⟨held_ok hn, rest_ok hn h12, best_ok hn h12 er, plus_ok h12, len_parts h12, ?_⟩
  show ok_f_Rank__init___2 (lot n (lvl n f p) :: partsOut (cellsBy n f) (lvl n f p))
  rw [front_cells (lvl_ex hn)]
  exact init_ok2 hn h12
end NB
end
section
set_option maxHeartbeats 1000000
namespace NB
open DT RK BR
variable {n : Nat} {f g : Int → Int} {p q : Int → Bool} {x : Int}
/-! ## sink -/
theorem head_lot (h : ∃ x ∈ idx n, p x = true) : pyIx (lot n p) 0 ∈ idx n ∧ p (pyIx (lot n p) 0) = true := by
  obtain ⟨x, hx, e⟩ := h
  have hm : x ∈ lot n p := mem_lot.mpr ⟨hx, e⟩
  rw [← mem_lot]
  cases e2 : lot n p with
  | nil => rw [e2] at hm; simp at hm
  | cons y l => show y ∈ _; simp
theorem head_ok (h : ∃ x ∈ idx n, p x = true) : IxOk (lot n p) 0 := by
  obtain ⟨x, hx, e⟩ := h
  have := List.length_pos_of_mem (mem_lot.mpr ⟨hx, e⟩)
  unfold IxOk; omega
theorem bs_alike {y : Int} (hx : x ∈ idx n) (hy : y ∈ idx n) (e1 : bs n f p x = true) (e2 : bs n f p y = true) : f x = f y := by
  obtain ⟨a1, b1⟩ := bs_iff.mp e1
  obtain ⟨a2, b2⟩ := bs_iff.mp e2
  have := b1 y hy a2; have := b2 x hx a1; omega
theorem behind_eq (h : ∃ x ∈ idx n, nt p x = true) : f_Rank_behind_best (rk n f) (lot n (nt p)) = lot n fun x => !snk n f p x := by
  show ((enm 0 (rows n (dense n f))).filter (fun (z : Int × Int) => decide (pyIx (rows n (dense n f)) (pyIx (f_Rank_best (rk n f) (lot n (nt p))) 0) < z.2))).map (fun z => z.1) = _
  rw [best_eq h]
  obtain ⟨hb, eb⟩ := head_lot (bs_ex (f := f) h)
  rw [ix_rows hb, enm_idx, List.filter_map, List.map_map]
  show List.map (fun x => x) _ = _
  rw [List.map_id']
  refine lot_congr fun x hx => ?_
  show decide (dense n f _ < dense n f x) = _
  rw [Bool.eq_iff_iff, decide_eq_true_eq, Bool.not_eq_true', ← Bool.not_eq_true, snk_iff, dense_oeq n f _ hb _ hx]
  constructor
  · rintro hl ⟨y, hy, e1, e2⟩
    have := bs_alike hb hy eb e1; omega
  · intro hs
    exact Int.not_le.mp fun z => hs ⟨_, hb, eb, z⟩
theorem behind_ok (hn : 0 < n) (h12 : n ≤ 12) (h : ∃ x ∈ idx n, nt p x = true) : ok_f_Rank_behind_best (rk n f) (lot n (nt p)) := by
  refine ⟨best_ok hn h12 h, ?_⟩
  rw [best_eq h]
  exact ⟨head_ok (bs_ex h), ok_rows (head_lot (bs_ex (f := f) h)).1⟩
theorem snk_ex (np : ∃ x ∈ idx n, nt p x = true) : ∃ x ∈ idx n, snk n f p x = true := by
  obtain ⟨x, hx, e⟩ := bs_ex (f := f) np
  exact ⟨x, hx, snk_iff.mpr ⟨x, hx, e, Int.le_refl _⟩⟩
theorem parts_nn (a : Int → Bool) : partsOut (cellsBy n f) (nt fun x => !a x) = partsOut (cellsBy n f) a := by
  have e : (nt fun x => !a x) = a := by funext x; simp [nt]
  rw [e]
theorem sunk_eq (hn : 0 < n) (np : ∃ x ∈ idx n, p x = false) : f_sunk (rk n f) (lot n p) = rk n (snkF n f p) := by
  have er : ∃ x ∈ idx n, nt p x = true := by obtain ⟨x, hx, e⟩ := np; exact ⟨x, hx, nt_iff.mpr e⟩
  show (if (!(f_inside (f_Rank_held (rk n f)) (f_lot_but_all (lot n p) (n : Int)))) = true then rk n f else f_Rank__init___2 ([f_rest_of (f_Rank_behind_best (rk n f) (f_rest_of (f_lot_but_all (lot n p) (n : Int)) (n : Int))) (n : Int)] ++ f_parts_in (cellsBy n f) (f_Rank_behind_best (rk n f) (f_rest_of (f_lot_but_all (lot n p) (n : Int)) (n : Int))))) = _
  rw [held_eq hn, but_all_eq, inside_eq, rest_eq, behind_eq er, rest_eq, parts_in_eq, parts_nn]
  unfold snkF
  by_cases h : isIn n f p = true
  · have h' := isIn_iff.mp h
    rw [if_neg (by simpa using h'), if_pos h]
    have e : lot n (nt fun x => !snk n f p x) = lot n (snk n f p) := lot_congr fun x _ => by simp [nt]
    rw [e]
    show f_Rank__init___2 (lot n (snk n f p) :: partsOut (cellsBy n f) (snk n f p)) = _
    rw [front_cells (snk_ex er), init_eq2]
  · have h' := fun z => h (isIn_iff.mpr z)
    rw [if_pos (by simpa using h'), if_neg h, rk_dense]
theorem sunk_ok (hn : 0 < n) (h12 : n ≤ 12) (np : ∃ x ∈ idx n, p x = false) : ok_f_sunk (rk n f) (lot n p) := by
  have er : ∃ x ∈ idx n, nt p x = true := by obtain ⟨x, hx, e⟩ := np; exact ⟨x, hx, nt_iff.mpr e⟩
  refine ⟨but_all_ok hn h12 np, held_ok hn, fun _ => ?_⟩
  show ok_f_rest_of (f_lot_but_all (lot n p) (n : Int)) (n : Int) ∧ ok_f_Rank_behind_best (rk n f) (f_rest_of (f_lot_but_all (lot n p) (n : Int)) (n : Int)) ∧ (ok_f_rest_of (f_Rank_behind_best (rk n f) (f_rest_of (f_lot_but_all (lot n p) (n : Int)) (n : Int))) (n : Int) ∧ ([f_rest_of (f_Rank_behind_best (rk n f) (f_rest_of (f_lot_but_all (lot n p) (n : Int)) (n : Int))) (n : Int)].length + (f_parts_in (cellsBy n f) (f_Rank_behind_best (rk n f) (f_rest_of (f_lot_but_all (lot n p) (n : Int)) (n : Int)))).length ≤ PySem.sizeLine) ∧ ok_f_Rank__init___2 ([f_rest_of (f_Rank_behind_best (rk n f) (f_rest_of (f_lot_but_all (lot n p) (n : Int)) (n : Int))) (n : Int)] ++ f_parts_in (cellsBy n f) (f_Rank_behind_best (rk n f) (f_rest_of (f_lot_but_all (lot n p) (n : Int)) (n : Int)))))
  rw [but_all_eq, rest_eq, behind_eq er, rest_eq, parts_in_eq, parts_nn]
  refine ⟨rest_ok hn h12, behind_ok hn h12 er, rest_ok hn h12, len_parts h12, ?_⟩
  have e : lot n (nt fun x => !snk n f p x) = lot n (snk n f p) := lot_congr fun x _ => by simp [nt]
  rw [e]
  show ok_f_Rank__init___2 (lot n (snk n f p) :: partsOut (cellsBy n f) (snk n f p))
  rw [front_cells (snk_ex er)]
  exact init_ok2 hn h12
/-! ## the law's own reckoning -/
theorem l_dense_eq : l_dense (rows n f) = rows n (dense n f) := by
  show (rows n f).map (fun v => idxI ((srt (rows n f)).foldl ddB []) v) = _
  rw [dd_sset]
  unfold rows; rw [List.map_map]
  rfl
theorem l_dense_ok (h : n ≤ 900) : ok_l_dense (rows n f) := by
  refine ⟨dd_ok _ _ (by rw [(srt_perm _).length_eq, len_rows]; simp; omega), ?_⟩
  show ∀ v ∈ rows n f, v ∈ (srt (rows n f)).foldl ddB []
  rw [dd_sset]
  exact fun v hv => RK.mem_sset.mpr hv
theorem l_held_eq : l_held (rows n f) = lot n fun x => decide (f x = 0) := by
  show (rng 0 ((rows n f).length : Int)).filter (fun w => decide (pyIx (rows n f) w = 0)) = _
  rw [len_rows, rng_idx]
  exact List.filter_congr fun x hx => by rw [ix_rows hx]
theorem l_held_ok (h : n ≤ 900) : ok_l_held (rows n f) := by
  show (-(2 ^ 62) ≤ ((rows n f).length : Int) ∧ ((rows n f).length : Int) ≤ 16777216) ∧ ∀ w ∈ rng 0 ((rows n f).length : Int), IxOk (rows n f) w
  rw [len_rows, rng_idx]
  exact ⟨⟨by omega, by omega⟩, fun x hx => ok_rows hx⟩
theorem l_held_dense : l_held (rows n (dense n f)) = lot n (hd n f) := by
  rw [l_held_eq]
  exact lot_congr fun x hx => by rw [Bool.eq_iff_iff, decide_eq_true_eq, dense_zero hx]
theorem l_rest_eq : l_rest (lot n p) (n : Int) = lot n (nt p) := by
  show (rng 0 (n : Int)).filter (fun w => !decide (w ∈ lot n p)) = _
  rw [rng_idx]
  refine List.filter_congr fun x hx => ?_
  have : decide (x ∈ lot n p) = p x := by rw [Bool.eq_iff_iff, decide_eq_true_eq, mem_lot]; exact ⟨fun h => h.2, fun h => ⟨hx, h⟩⟩
  rw [this]; rfl
theorem l_rest_ok (h : n ≤ 900) : ok_l_rest (lot n p) (n : Int) := ⟨by omega, by omega⟩
theorem l_plus_eq : l_plus (lot n p) (lot n q) = lot n fun x => p x || q x := by
  show srt (lot n p ++ (lot n q).filter (fun w => !decide (w ∈ lot n p))) = _
  have e : (lot n q).filter (fun w => !decide (w ∈ lot n p)) = lot n fun x => q x && !p x := by
    rw [filter_lot]
    refine lot_congr fun x hx => ?_
    have : decide (x ∈ lot n p) = p x := by rw [Bool.eq_iff_iff, decide_eq_true_eq, mem_lot]; exact ⟨fun h => h.2, fun h => ⟨hx, h⟩⟩
    rw [this]
  rw [e]
  refine srt_app (fun x => ?_) ss_lot ss_lot fun x hx hy => ?_
  · rw [mem_lot, mem_lot]
    cases p x <;> cases q x <;> simp
  · have h1 := (mem_lot.mp hx).2
    have h2 := (mem_lot.mp hy).2
    simp [h1] at h2
theorem l_plus_ok (h : n ≤ 400) : ok_l_plus (lot n p) (lot n q) := by
  show (lot n p).length + ((lot n q).filter (fun w => !decide (w ∈ lot n p))).length ≤ PySem.sizeLine
  have a := len_lot_le (n := n) (p := p)
  have b := len_lot_le (n := n) (p := q)
  have c := List.length_filter_le (fun w => !decide (w ∈ lot n p)) (lot n q)
  exact Nat.le_of_lt (L2.small1000 (by omega))
theorem l_inside_eq : l_inside (lot n p) (lot n q) = decide (∀ x ∈ idx n, p x = true → q x = true) := by
  show decide ((((lot n p).filter (fun w => !decide (w ∈ lot n q))).length : Int) = 0) = _
  rw [Bool.eq_iff_iff, decide_eq_true_eq, decide_eq_true_eq]
  have e : ((((lot n p).filter (fun w => !decide (w ∈ lot n q))).length : Int) = 0) ↔ ((lot n p).filter (fun w => !decide (w ∈ lot n q))) = [] := by rw [← List.length_eq_zero_iff]; omega
  rw [e, List.filter_eq_nil_iff]
  simp only [Bool.not_eq_true', decide_eq_false_iff_not, Decidable.not_not, mem_lot]
  exact ⟨fun h x hx e => (h x ⟨hx, e⟩).2, fun h x hx => ⟨hx.1, h x hx.1 hx.2⟩⟩
theorem l_best_eq (h : ∃ x ∈ idx n, p x = true) : l_best (rows n f) (lot n p) = lot n (bs n f p) := by
  show (lot n p).filter (fun w => decide (pyIx (rows n f) w = minL ((lot n p).map fun w => pyIx (rows n f) w))) = _
  rw [map_ix]
  obtain ⟨x, hx, e1, e2, e3⟩ := min_lot h f
  rw [e2]
  have e : (lot n p).filter (fun w => decide (pyIx (rows n f) w = f x)) = (lot n p).filter fun w => decide (f w = f x) := List.filter_congr fun w hw => by rw [ix_rows (mem_lot.mp hw).1]
  rw [e, filter_lot]
  refine lot_congr fun y hy => ?_
  rw [Bool.eq_iff_iff, Bool.and_eq_true, decide_eq_true_eq, bs_iff]
  constructor
  · rintro ⟨a, b⟩; exact ⟨a, fun z hz c => by rw [b]; exact e3 z hz c⟩
  · rintro ⟨a, b⟩; refine ⟨a, ?_⟩
    have h1 := b x hx e1
    have h2 := e3 y hy a
    omega
theorem l_best_ok (h : ∃ x ∈ idx n, p x = true) : ok_l_best (rows n f) (lot n p) := by
  obtain ⟨x, hx, e⟩ := h
  exact ⟨fun w hw => ok_rows (mem_lot.mp hw).1, List.ne_nil_of_mem (List.mem_map.mpr ⟨x, mem_lot.mpr ⟨hx, e⟩, rfl⟩), fun w hw => ok_rows (mem_lot.mp hw).1⟩
end NB
end
section
set_option maxHeartbeats 1000000
namespace NB
open PySem DT RK BR
variable {n : Nat} {f g : Int → Int} {p q : Int → Bool} {x : Int}
theorem idx_of {l : List Int} (hs : SS l) {i : Nat} (h : i < l.length) : l.idxOf l[i] = i := by
  have hm : l[i] ∈ l := List.getElem_mem h
  have hj := List.idxOf_lt_length_of_mem hm
  have e : l[l.idxOf l[i]] = l[i] := List.getElem_idxOf hj
  rcases Nat.lt_trichotomy (l.idxOf l[i]) i with z | z | z
  · have := List.pairwise_iff_getElem.mp hs _ _ hj h z; omega
  · exact z
  · have := List.pairwise_iff_getElem.mp hs _ _ h hj z; omega
theorem ss_vals (n : Nat) (f : Int → Int) : SS (vals n f) := RK.ss_sset _
theorem bs_dense (hx : x ∈ idx n) : bs n (dense n f) p x = bs n f p x := by
  rw [Bool.eq_iff_iff, bs_iff, bs_iff]
  exact and_congr_right fun _ => forall_congr' fun y => ⟨fun h hy e => (dense_le hx hy).mp (h hy e), fun h hy e => (dense_le hx hy).mpr (h hy e)⟩
theorem dense_dense : rows n (dense n (dense n f)) = rows n (dense n f) := rows_congr fun x hx => dense_eq (dense_oeq n f) hx
theorem put_front {L : List Int} {S : Int → Bool} (hL : ∀ x ∈ idx n, decide (x ∈ L) = S x) : l_dense ((rng 0 (n : Int)).map fun w => if decide (w ∈ L) = true then (-1) else pyIx (rows n (dense n f)) w) = rows n (dense n (front S (dense n f))) := by
  rw [rng_idx]
  have e : ((idx n).map fun w => if decide (w ∈ L) = true then (-1) else pyIx (rows n (dense n f)) w) = rows n (front S (dense n f)) := by
    refine List.map_congr_left fun x hx => ?_
    rw [hL x hx, ix_rows hx]; rfl
  rw [e, l_dense_eq]
theorem in_lot : ∀ x ∈ idx n, decide (x ∈ lot n p) = p x := fun x hx => by rw [Bool.eq_iff_iff, decide_eq_true_eq, mem_lot]; exact ⟨fun h => h.2, fun h => ⟨hx, h⟩⟩
theorem ins_isIn : decide (∀ x ∈ idx n, hd n f x = true → p x = true) = isIn n f p := rfl
theorem turn_level (np : ∃ x ∈ idx n, p x = false) : l_turn (rows n (dense n f)) "level" (lot n p) = rows n (dense n (levF n f p)) := by
  have er : ∃ x ∈ idx n, nt p x = true := by obtain ⟨x, hx, e⟩ := np; exact ⟨x, hx, nt_iff.mpr e⟩
  unfold l_turn
  rw [if_neg (by decide +kernel), if_neg (by decide +kernel), if_pos (by decide +kernel)]
  show (if (!(l_inside (l_held (rows n (dense n f))) (lot n p))) = true then rows n (dense n f) else l_dense ((rng 0 ((rows n (dense n f)).length : Int)).map fun w => if decide (w ∈ (if decide (("level" : Str) = "sink") = true then (rng 0 ((rows n (dense n f)).length : Int)).filter (fun z => decide (pyIx (rows n (dense n f)) z ≤ pyIx (rows n (dense n f)) (pyIx (l_best (rows n (dense n f)) (l_rest (lot n p) ((rows n (dense n f)).length : Int))) 0))) else l_plus (l_held (rows n (dense n f))) (l_best (rows n (dense n f)) (l_rest (lot n p) ((rows n (dense n f)).length : Int))))) = true then (-1) else pyIx (rows n (dense n f)) w)) = _
  rw [len_rows, l_held_dense, l_inside_eq, ins_isIn, l_rest_eq, l_best_eq er, if_neg (by decide +kernel : ¬ decide (("level" : Str) = "sink") = true), l_plus_eq]
  unfold levF
  cases h : isIn n f p with
  | false => rw [if_pos (by decide), if_neg (by decide), dense_dense]
  | true =>
    rw [if_neg (by decide), if_pos rfl]
    refine put_front fun x hx => ?_
    rw [in_lot x hx, bs_dense hx]; rfl
theorem turn_sink (np : ∃ x ∈ idx n, p x = false) : l_turn (rows n (dense n f)) "sink" (lot n p) = rows n (dense n (snkF n f p)) := by
  have er : ∃ x ∈ idx n, nt p x = true := by obtain ⟨x, hx, e⟩ := np; exact ⟨x, hx, nt_iff.mpr e⟩
  unfold l_turn
  rw [if_neg (by decide +kernel), if_neg (by decide +kernel), if_pos (by decide +kernel)]
  show (if (!(l_inside (l_held (rows n (dense n f))) (lot n p))) = true then rows n (dense n f) else l_dense ((rng 0 ((rows n (dense n f)).length : Int)).map fun w => if decide (w ∈ (if decide (("sink" : Str) = "sink") = true then (rng 0 ((rows n (dense n f)).length : Int)).filter (fun z => decide (pyIx (rows n (dense n f)) z ≤ pyIx (rows n (dense n f)) (pyIx (l_best (rows n (dense n f)) (l_rest (lot n p) ((rows n (dense n f)).length : Int))) 0))) else l_plus (l_held (rows n (dense n f))) (l_best (rows n (dense n f)) (l_rest (lot n p) ((rows n (dense n f)).length : Int))))) = true then (-1) else pyIx (rows n (dense n f)) w)) = _
  rw [len_rows, l_held_dense, l_inside_eq, ins_isIn, l_rest_eq, l_best_eq er, if_pos (by decide +kernel : decide (("sink" : Str) = "sink") = true)]
  unfold snkF
  cases h : isIn n f p with
  | false => rw [if_pos (by decide), if_neg (by decide), dense_dense]
  | true =>
    rw [if_neg (by decide), if_pos rfl]
    refine put_front fun x hx => ?_
    obtain ⟨hb, eb⟩ := head_lot (bs_ex (f := dense n f) er)
    rw [ix_rows hb, Bool.eq_iff_iff, decide_eq_true_eq, List.mem_filter, rng_idx, decide_eq_true_eq, ix_rows hx, snk_iff, dense_le hx hb]
    rw [bs_dense hb] at eb
    constructor
    · rintro ⟨_, h2⟩; exact ⟨_, hb, eb, h2⟩
    · rintro ⟨y, hy, e1, e2⟩
      have := bs_alike hb hy eb e1
      exact ⟨hx, by omega⟩
/-! ### cells of a level row -/
theorem fold_app {α β : Type} (φ : α → β) : ∀ (l : List α) (u : List β), l.foldl (fun u x => u ++ [φ x]) u = u ++ l.map φ
  | [], u => by simp
  | x :: l, u => by rw [List.foldl_cons, fold_app φ l]; simp
theorem top_level (hn : 0 < n) : maxL (rows n (dense n f)) + 1 = ((vals n f).length : Int) := by
  have hne : rows n (dense n f) ≠ [] := fun e => by have := len_rows (n := n) (f := dense n f); rw [e] at this; simp at this; omega
  have lt : ∀ x ∈ idx n, dense n f x < (vals n f).length := fun x hx => by
    have := List.idxOf_lt_length_of_mem (mem_vals.mpr ⟨x, hx, rfl⟩ : f x ∈ vals n f)
    unfold dense; omega
  obtain ⟨x, hx, e⟩ := List.mem_map.mp (maxL_mem hne)
  have h1 := lt x hx
  have hv : (vals n f).length - 1 < (vals n f).length := by have := lt x hx; have := dense_nonneg n f x; omega
  obtain ⟨y, hy, ey⟩ := mem_vals.mp (List.getElem_mem hv)
  have h2 : dense n f y = ((vals n f).length - 1 : Nat) := by
    unfold dense
    rw [ey, idx_of (ss_vals n f) (by assumption)]
  have h3 := le_maxL (List.mem_map.mpr ⟨y, hy, rfl⟩ : dense n f y ∈ rows n (dense n f))
  have e2 : maxL (rows n (dense n f)) = dense n f x := e.symm
  have h4 : dense n f y ≤ maxL (rows n (dense n f)) := h3
  rw [e2] at h4 ⊢
  omega
theorem l_cells_eq (hn : 0 < n) : l_cells (rows n (dense n f)) = cellsBy n f := by
  show (rng 0 (maxL (rows n (dense n f)) + 1)).foldl (fun u lv => u ++ [(rng 0 ((rows n (dense n f)).length : Int)).filter fun w => decide (pyIx (rows n (dense n f)) w = lv)]) [] = _
  rw [fold_app, List.nil_append, top_level hn, rng_idx, len_rows, rng_idx]
  unfold cellsBy
  refine List.ext_getElem? fun i => ?_
  rw [List.getElem?_map, List.getElem?_map]
  by_cases h : i < (vals n f).length
  · rw [get_idx h, List.getElem?_eq_getElem h]
    show some _ = some _
    refine congrArg some (List.filter_congr fun x hx => ?_)
    rw [ix_rows hx, Bool.eq_iff_iff, decide_eq_true_eq, decide_eq_true_eq]
    unfold dense
    constructor
    · intro e
      have e' : (vals n f).idxOf (f x) = i := by omega
      have := List.getElem_idxOf (List.idxOf_lt_length_of_mem (mem_vals.mpr ⟨x, hx, rfl⟩ : f x ∈ vals n f))
      rw [← this]; simp only [e']
    · intro e
      rw [e, idx_of (ss_vals n f) (by assumption)]
  · rw [List.getElem?_eq_none (by rw [len_idx]; omega), List.getElem?_eq_none (by omega)]; rfl
end NB
end
section
set_option maxHeartbeats 1000000
namespace NB
open PySem DT RK BR
variable {n : Nat} {f g : Int → Int} {p q : Int → Bool} {x : Int}
instance decO (n : Nat) (f g : Int → Int) : Decidable (OEq n f g) := by unfold OEq; exact inferInstance
theorem rk_eq : f_Rank__eq__ (rk n f) (rk n g) = decide (OEq n f g) := by
  show (true && decide (cellsBy n f = cellsBy n g)) = _
  rw [Bool.true_and, Bool.eq_iff_iff, decide_eq_true_eq, decide_eq_true_eq, cells_iff]
theorem best_dense (h : ∃ x ∈ idx n, p x = true) : l_best (rows n (dense n f)) (lot n p) = lot n (bs n f p) := by
  rw [l_best_eq h]; exact lot_congr fun x hx => bs_dense hx
theorem of_dense : f_Rank_of_levels (rows n (dense n f)) = rk n f := by rw [of_levels_eq, rk_dense]
theorem nt_ex (np : ∃ x ∈ idx n, p x = false) : ∃ x ∈ idx n, nt p x = true := by obtain ⟨x, hx, e⟩ := np; exact ⟨x, hx, nt_iff.mpr e⟩
theorem two_eq (hn : 0 < n) (hp : isIn n f p = true) (hq : isIn n f q = true) (np : ∃ x ∈ idx n, p x = false) (nq : ∃ x ∈ idx n, q x = false) :
    l_two_levels (rows n (dense n f)) (lot n p) (lot n q) = true := by
  have ep := nt_ex np
  have eq' := nt_ex nq
  unfold l_two_levels
  simp only [len_rows, of_dense, l_rest_eq, best_dense ep, best_dense eq', levelled_eq hn np, levelled_eq hn nq, turn_level np, turn_level nq, l_cells_eq hn, sunk_eq hn nq, l_held_dense, l_plus_eq, l_inside_eq, held_eq hn, rk_eq]
  have c1 : (rk n (levF n (levF n f p) q)).cells = cellsBy n (levF n (levF n f p) q) := rfl
  have c2 : (rk n (levF n (levF n f q) p)).cells = cellsBy n (levF n (levF n f q) p) := rfl
  rw [c1, c2, if_neg (by simp), if_neg (by simp)]
  have h2 := two_levels hn hp hq np nq
  have es : (decide (lot n (bs n f (nt p)) = lot n (bs n f (nt q))) || (decide (∀ x ∈ idx n, bs n f (nt p) x = true → q x = true) && decide (∀ x ∈ idx n, bs n f (nt q) x = true → p x = true))) = decide (OEq n (levF n (levF n f p) q) (levF n (levF n f q) p)) := by
    rw [Bool.eq_iff_iff, Bool.or_eq_true, Bool.and_eq_true, decide_eq_true_eq, decide_eq_true_eq, decide_eq_true_eq, decide_eq_true_eq, lot_ext, h2]
  rw [es, if_neg (by simp)]
  rw [if_neg ?_]
  · by_cases h1 : ∀ x ∈ idx n, bs n f (nt p) x = true → q x = true
    · rw [if_neg (by simpa using h1)]
      obtain ⟨hx, ex⟩ := head_lot (bs_ex (f := f) ep)
      obtain ⟨hy, ey⟩ := head_lot (bs_ex (f := f) eq')
      rw [ix_rows hx, ix_rows hy, decide_eq_true_eq, Bool.eq_iff_iff, decide_eq_true_eq, decide_eq_true_eq, dense_le hx hy]
      exact lev_snk hn hp hq nq h1 hx hy ex ey
    · rw [if_pos (by simpa using h1)]
  · simp only [Bool.and_eq_true, decide_eq_true_eq, Bool.not_eq_true', decide_eq_false_iff_not, not_and, Decidable.not_not]
    intro ho
    exact lot_congr fun x hx => two_held hn hp hq (h2.mp ho) hx
theorem one_eq (hn : 0 < n) (np : ∃ x ∈ idx n, p x = false) : l_one_lot (rows n (dense n f)) (lot n p) = true := by
  obtain ⟨h1, h2, h3⟩ := one_lot (f := f) hn np
  unfold l_one_lot
  simp only [of_dense, sunk_eq hn np, levelled_eq hn np, turn_sink np, l_cells_eq hn, rk_eq]
  rw [if_neg (by simp [h1, h2])]
  have c1 : (rk n (snkF n f p)).cells = cellsBy n (snkF n f p) := rfl
  have c2 : (rk n (snkF n (snkF n f p) p)).cells = cellsBy n (snkF n (snkF n f p) p) := rfl
  rw [c1, c2, cells_oeq h3]; simp
end NB
end
section
set_option maxHeartbeats 1000000
namespace NB
open PySem DT RK BR
variable {n : Nat} {f g : Int → Int} {p q : Int → Bool} {x : Int}
theorem fold_okc {α β : Type} (φ : α → β) {A : Prop} (hA : A) {B : Prop} (hB : B) : ∀ (l : List α) (u : List β), u.length + l.length ≤ 1000 → OkFold (fun u x => u ++ [φ x]) (fun u _ => A ∧ B ∧ u.length < sizeLine) l u
  | [], _, _ => trivial
  | x :: l, u, h => by
    rw [List.length_cons] at h
    exact ⟨⟨hA, hB, L2.small1000 (by omega)⟩, fold_okc φ hA hB l _ (by rw [List.length_append]; simp; omega)⟩
theorem vals_le (n : Nat) (f : Int → Int) : (vals n f).length ≤ n := by
  have h : (cellsBy n f).length ≤ n := by
    have h2 : (cellsBy n f).length ≤ (cellsBy n f).flatten.length := by
      have : ∀ cs : List (List Int), (∀ c ∈ cs, c ≠ []) → cs.length ≤ cs.flatten.length := by
        intro cs
        induction cs with
        | nil => intro _; simp
        | cons c cs ih =>
          intro h
          have := List.length_pos_iff.mpr (h c (by simp))
          have := ih fun d hd => h d (List.mem_cons_of_mem _ hd)
          rw [List.length_cons, List.flatten_cons, List.length_append]; omega
      exact this _ (part_cells n f).full
    rw [(part_cells n f).len] at h2; exact h2
  unfold cellsBy at h; rw [List.length_map] at h; exact h
theorem l_cells_ok (hn : 0 < n) (h12 : n ≤ 12) : ok_l_cells (rows n (dense n f)) := by
  have hv := vals_le n f
  refine ⟨fun e => by have := len_rows (n := n) (f := dense n f); rw [e] at this; simp at this; omega, ?_, ?_⟩
  · rw [top_level hn]; exact ⟨by omega, by omega⟩
  · show OkFold (fun u lv => u ++ [(rng 0 ((rows n (dense n f)).length : Int)).filter fun w => decide (pyIx (rows n (dense n f)) w = lv)]) _ (rng 0 (maxL (rows n (dense n f)) + 1)) []
    have hA : -(2 ^ 62) ≤ ((rows n (dense n f)).length : Int) ∧ ((rows n (dense n f)).length : Int) ≤ 16777216 := by rw [len_rows]; omega
    have hB : ∀ w ∈ rng 0 ((rows n (dense n f)).length : Int), IxOk (rows n (dense n f)) w := by rw [len_rows, rng_idx]; exact fun w hw => ok_rows hw
    exact fold_okc _ hA hB _ _ (by rw [top_level hn, rng_idx, len_idx]; simp; omega)
theorem l_rest_okn (h : n ≤ 900) : ok_l_rest (lot n p) ((rows n f).length : Int) := by rw [len_rows]; exact l_rest_ok h
/-- what a level or a sink asks -/
theorem turn_ok {w : Str} (hw : w = "level" ∨ w = "sink") (h12 : n ≤ 12) (np : ∃ x ∈ idx n, p x = false) : ok_l_turn (rows n (dense n f)) w (lot n p) := by
  have er := nt_ex np
  have b1 : -(2 ^ 62) ≤ (n : Int) ∧ (n : Int) ≤ 16777216 := by omega
  unfold ok_l_turn
  unfold Bd
  simp only [len_rows, rng_idx, l_held_dense, l_rest_eq, best_dense er, l_inside_eq, l_plus_eq]
  refine ⟨fun h => ?_, fun _ => ⟨fun h => ?_, fun _ _ => ⟨?_, fun _ => ⟨l_rest_ok (by omega), l_best_ok er, ?_, l_plus_ok (by omega), fun h => ⟨head_ok (bs_ex er), ok_rows (head_lot (bs_ex (f := f) er)).1, b1, fun z hz => ok_rows hz⟩, b1, fun z hz _ => ok_rows hz, ?_⟩⟩⟩⟩
  · rcases hw with rfl | rfl <;> exact absurd h (by decide +kernel)
  · rcases hw with rfl | rfl <;> exact absurd h (by decide +kernel)
  · exact l_held_ok (by omega)
  · exact l_held_ok (by omega)
  · exact l_dense_ok (f := fun z => _) (by omega)
end NB
end
section
set_option maxHeartbeats 1000000
namespace NB
open PySem DT RK BR
variable {n : Nat} {f g : Int → Int} {p q : Int → Bool} {x : Int}
theorem two_ok (hn : 0 < n) (h12 : n ≤ 12) (np : ∃ x ∈ idx n, p x = false) (nq : ∃ x ∈ idx n, q x = false) :
    ok_l_two_levels (rows n (dense n f)) (lot n p) (lot n q) := by
  have ep := nt_ex np
  have eq' := nt_ex nq
  unfold ok_l_two_levels
  unfold Bd
  simp only [len_rows, of_dense, l_rest_eq, best_dense ep, best_dense eq', levelled_eq hn np, levelled_eq hn nq, turn_level np, turn_level nq, l_cells_eq hn, sunk_eq hn nq, l_held_dense, l_plus_eq, l_inside_eq, held_eq hn]
  refine ⟨of_levels_ok hn h12, l_rest_ok (by omega), l_best_ok ep, l_rest_ok (by omega), l_best_ok eq', levelled_ok hn h12 np, levelled_ok hn h12 nq, levelled_ok hn h12 nq, levelled_ok hn h12 np, turn_ok (.inl rfl) h12 np, turn_ok (.inl rfl) h12 nq, l_cells_ok hn h12, fun _ => ⟨turn_ok (.inl rfl) h12 nq, turn_ok (.inl rfl) h12 np, l_cells_ok hn h12, fun _ _ => ⟨fun _ => ⟨held_ok hn, l_held_ok (by omega), l_plus_ok (by omega), l_plus_ok (by omega)⟩, fun _ _ => ⟨levelled_ok hn h12 np, sunk_ok hn h12 nq, sunk_ok hn h12 nq, head_ok (bs_ex ep), ok_rows (head_lot (bs_ex (f := f) ep)).1, head_ok (bs_ex eq'), ok_rows (head_lot (bs_ex (f := f) eq')).1⟩⟩⟩⟩
theorem one_ok (hn : 0 < n) (h12 : n ≤ 12) (np : ∃ x ∈ idx n, p x = false) : ok_l_one_lot (rows n (dense n f)) (lot n p) := by
  unfold ok_l_one_lot
  unfold Bd
  simp only [of_dense, sunk_eq hn np, levelled_eq hn np, turn_sink np, l_cells_eq hn]
  exact ⟨of_levels_ok hn h12, sunk_ok hn h12 np, levelled_ok hn h12 np, levelled_ok hn h12 np, fun _ => sunk_ok hn h12 np, fun _ => ⟨turn_ok (.inr rfl) h12 np, l_cells_ok hn h12, fun _ => sunk_ok hn h12 np⟩⟩
end NB
end
section
set_option maxHeartbeats 1000000
namespace NB
open PySem DT RK BR
variable {n : Nat} {f g : Int → Int} {p q : Int → Bool} {x : Int}
theorem turned_sink (r : Rank) (l : List Int) : f_turned r "sink" l = f_sunk r l := by
  show (if ("sink" : Str) = "lead" then f_led r l else if ("sink" : Str) = "push" then f_pushed r l else if ("sink" : Str) = "lean" then f_leaned r l else if ("sink" : Str) = "level" then f_levelled r l else if ("sink" : Str) = "sink" then f_sunk r l else f_unturned r l) = _
  rw [if_neg (by decide +kernel), if_neg (by decide +kernel), if_neg (by decide +kernel), if_neg (by decide +kernel), if_pos rfl]
theorem turned_ok {r : Rank} {l : List Int} (h : ok_f_sunk r l) : ok_f_turned r "sink" l := by
  have hm : ("sink" : Str) ∈ tk_TURNS := by unfold tk_TURNS; simp
  refine ⟨⟨fun _ => hm, rfl⟩, hm, ?_⟩
  unfold okt_TURNS
  rw [if_neg (by decide +kernel), if_neg (by decide +kernel), if_neg (by decide +kernel), if_neg (by decide +kernel), if_pos rfl]
  exact h
abbrev Miss (n : Nat) (qs : List (Int → Bool)) : Prop := ∀ q ∈ qs, ∃ x ∈ idx n, q x = false
theorem sink_fold (hn : 0 < n) : ∀ (qs : List (Int → Bool)) (g : Int → Int), Miss n qs → (qs.map (lot n)).foldl (fun r l => f_turned r "sink" l) (rk n g) = rk n (qs.foldl (fun g q => snkF n g q) g)
  | [], g, _ => rfl
  | q :: qs, g, h => by
    rw [List.map_cons, List.foldl_cons, List.foldl_cons, turned_sink, sunk_eq hn (h q (by simp))]
    exact sink_fold hn qs _ fun q' h' => h q' (List.mem_cons_of_mem _ h')
theorem sink_fok (hn : 0 < n) (h12 : n ≤ 12) : ∀ (qs : List (Int → Bool)) (g : Int → Int), Miss n qs → OkFold (fun r l => f_turned r "sink" l) (fun r l => ok_f_turned r "sink" l) (qs.map (lot n)) (rk n g)
  | [], g, _ => trivial
  | q :: qs, g, h => by
    refine ⟨turned_ok (sunk_ok hn h12 (h q (by simp))), ?_⟩
    show OkFold _ _ (qs.map (lot n)) (f_turned (rk n g) "sink" (lot n q))
    rw [turned_sink, sunk_eq hn (h q (by simp))]
    exact sink_fok hn h12 qs _ fun q' h' => h q' (List.mem_cons_of_mem _ h')
theorem un_same {qs rs : List (Int → Bool)} (h : ∀ q, q ∈ qs ↔ q ∈ rs) : un n f qs x = un n f rs x := by
  unfold un
  have : (qs.any fun q => sk n f q x) = rs.any fun q => sk n f q x := by
    rw [Bool.eq_iff_iff, List.any_eq_true, List.any_eq_true]
    exact ⟨fun ⟨q, a, b⟩ => ⟨q, (h q).mp a, b⟩, fun ⟨q, a, b⟩ => ⟨q, (h q).mpr a, b⟩⟩
  rw [this]
abbrev dueB (levels : List Int) (due l : List Int) : List Int := if decide (((l_held due).length : Int) < ((l_held (l_turn levels "sink" l)).length : Int)) = true then l_turn levels "sink" l else due
theorem due_go (hn : 0 < n) : ∀ (qs : List (Int → Bool)) (h : Int → Int) (D : Int → Bool), Miss n qs → Fr n f D h → Dn n f D → (∃ x ∈ idx n, D x = true) →
    ∃ k, (qs.map (lot n)).foldl (dueB (rows n (dense n f))) (rows n (dense n h)) = rows n (dense n k) ∧ Fr n f (fun x => D x || qs.any fun q => sk n f q x) k
  | [], h, D, _, hF, _, _ => ⟨h, rfl, hF.congr fun x _ => by simp⟩
  | q :: qs, h, D, hm, hF, hd, hD => by
    have nq := hm q (by simp)
    have hE := snk_sk (f := f) hn nq
    have eE : ∃ x ∈ idx n, sk n f q x = true := by
      obtain ⟨x, hx, e⟩ := hd_ex (f := f) hn
      exact ⟨x, hx, by unfold sk; rw [e]; rfl⟩
    have e1 : (l_held (rows n (dense n h))).length = cnt n D := by
      rw [l_held_dense]; exact congrArg List.length (lot_congr fun x hx => hF.hd hD hx)
    have e2 : (l_held (rows n (dense n (snkF n f q)))).length = cnt n (sk n f q) := by
      rw [l_held_dense]; exact congrArg List.length (lot_congr fun x hx => hE.hd eE hx)
    rw [List.map_cons, List.foldl_cons]
    have st := cnt_step (n := n) (f := f) hd (dn_sk (n := n) (f := f) (q := q))
    have rest : ∀ (h' : Int → Int) (D' : Int → Bool), dueB (rows n (dense n f)) (rows n (dense n h)) (lot n q) = rows n (dense n h') → Fr n f D' h' → (∀ x ∈ idx n, D' x = (D x || sk n f q x)) →
        ∃ k, (qs.map (lot n)).foldl (dueB (rows n (dense n f))) (dueB (rows n (dense n f)) (rows n (dense n h)) (lot n q)) = rows n (dense n k) ∧ Fr n f (fun x => D x || (q :: qs).any fun q => sk n f q x) k := fun h' D' eh hF' ec => by
      rw [eh]
      obtain ⟨k, r1, r2⟩ := due_go hn qs h' (fun x => D x || sk n f q x) (fun q' h' => hm q' (List.mem_cons_of_mem _ h')) (hF'.congr ec) (dn_or hd dn_sk) (or_ex hD)
      exact ⟨k, r1, r2.congr fun x _ => by rw [List.any_cons, Bool.or_assoc]⟩
    by_cases hc : cnt n D < cnt n (sk n f q)
    · refine rest (snkF n f q) (sk n f q) ?_ hE fun x hx => by have := st x hx; rw [if_pos hc] at this; exact this
      unfold dueB
      rw [turn_sink nq, e1, e2, if_pos (by simpa using hc)]
    · refine rest h D ?_ hF fun x hx => by have := st x hx; rw [if_neg hc] at this; exact this
      unfold dueB
      rw [turn_sink nq, e1, e2, if_neg (by simpa using hc)]
theorem due_ok (hn : 0 < n) (h12 : n ≤ 12) : ∀ (qs : List (Int → Bool)) (h : Int → Int), Miss n qs →
    OkFold (dueB (rows n (dense n f))) (fun due l => ok_l_turn (rows n (dense n f)) "sink" l ∧ ok_l_held (l_turn (rows n (dense n f)) "sink" l) ∧ ok_l_held due) (qs.map (lot n)) (rows n (dense n h))
  | [], _, _ => trivial
  | q :: qs, h, hm => by
    have nq := hm q (by simp)
    refine ⟨⟨turn_ok (.inr rfl) h12 nq, by rw [turn_sink nq]; exact l_held_ok (by omega), l_held_ok (by omega)⟩, ?_⟩
    have : dueB (rows n (dense n f)) (rows n (dense n h)) (lot n q) = rows n (dense n h) ∨ dueB (rows n (dense n f)) (rows n (dense n h)) (lot n q) = rows n (dense n (snkF n f q)) := by
      unfold dueB; split
      · exact .inr (turn_sink nq)
      · exact .inl rfl
    rcases this with e | e
    · rw [e]; exact due_ok hn h12 qs _ fun q' h' => hm q' (List.mem_cons_of_mem _ h')
    · rw [e]; exact due_ok hn h12 qs _ fun q' h' => hm q' (List.mem_cons_of_mem _ h')
end NB
end
section
set_option maxHeartbeats 1000000
namespace NB
open PySem DT RK BR
variable {n : Nat} {f g : Int → Int} {p q : Int → Bool} {x : Int}
theorem cut_from1 {α : Type} (xs : List α) : pyCut xs (some 1) none = xs.drop 1 := by
  cases xs with
  | nil => rfl
  | cons a l =>
    unfold pyCut
    have e : HT.sIx (a :: l).length 0 (some 1) = 1 := by rw [show (1 : Int) = ((1 : Nat) : Int) from rfl, HT.sIx_nat]; simp
    rw [e, HT.sIx_none, List.take_of_length_le (by rw [List.length_drop]; exact Nat.le_refl _)]
theorem cut_to1 {α : Type} (xs : List α) : pyCut xs none (some 1) = xs.take 1 := by
  unfold pyCut
  have e : HT.sIx xs.length xs.length (some 1) = min 1 xs.length := by rw [show (1 : Int) = ((1 : Nat) : Int) from rfl, HT.sIx_nat]
  rw [HT.sIx_none, e, List.drop_zero, Nat.sub_zero]
  cases xs with
  | nil => rfl
  | cons a l => simp
theorem all_next {P : Rank → Bool} : ∀ (es : List Rank), (∀ e ∈ es, P e = true) → forF (fun (_ : Unit) (e : Rank) => (if ((!true) || (!P e)) = true then .ret false else .next () : Fl Unit Bool)) es () = .next ()
  | [], _ => rfl
  | e :: es, h => by
    unfold forF
    rw [if_neg (by simp [h e (by simp)])]
    exact all_next es fun z hz => h z (List.mem_cons_of_mem _ hz)
theorem all_ok {P : Rank → Bool} {A : Prop} (hA : A) : ∀ (es : List Rank) (r : Unit), OkFor (fun (_ : Unit) (e : Rank) => (if ((!true) || (!P e)) = true then .ret false else .next () : Fl Unit Bool)) (fun _ _ => (!true) = false → A) es r
  | [], _ => trivial
  | e :: es, r => by
    refine ⟨fun _ => hA, ?_⟩
    dsimp only
    by_cases h : ((!true) || (!P e)) = true
    · rw [if_pos h]; trivial
    · rw [if_neg h]; exact all_ok hA es ()
def ords (qs : List (Int → Bool)) : List (List (Int → Bool)) := [qs, qs.reverse, qs.drop 1 ++ qs.take 1, qs ++ qs]
theorem ords_mem {qs o : List (Int → Bool)} (h : o ∈ ords qs) (q : Int → Bool) : q ∈ o ↔ q ∈ qs := by
  unfold ords at h
  simp only [List.mem_cons, List.not_mem_nil, or_false] at h
  rcases h with rfl | rfl | rfl | rfl
  · exact Iff.rfl
  · exact List.mem_reverse
  · rw [List.mem_append, Or.comm, ← List.mem_append, List.take_append_drop]
  · rw [List.mem_append, or_self]
theorem ords_lots (qs : List (Int → Bool)) : [qs.map (lot n), (qs.map (lot n)).reverse, pyCut (qs.map (lot n)) (some 1) none ++ pyCut (qs.map (lot n)) none (some 1), qs.map (lot n) ++ qs.map (lot n)] = (ords qs).map (List.map (lot n)) := by
  unfold ords
  rw [cut_from1, cut_to1]
  simp [List.map_append, List.map_reverse, List.map_drop, List.map_take]
theorem ends_eq (hn : 0 < n) {qs : List (Int → Bool)} (hm : Miss n qs) : ((ords qs).map (List.map (lot n))).foldl (fun (u : List Rank) o => u ++ [o.foldl (fun r l => f_turned r "sink" l) (rk n f)]) [] = (ords qs).map fun o => rk n (o.foldl (fun g q => snkF n g q) f) := by
  rw [fold_app, List.nil_append, List.map_map]
  exact List.map_congr_left fun o ho => sink_fold hn o f fun q hq => hm q ((ords_mem ho q).mp hq)
theorem due_eq (hn : 0 < n) {qs : List (Int → Bool)} (hm : Miss n qs) : ∃ k, (qs.map (lot n)).foldl (dueB (rows n (dense n f))) (rows n (dense n f)) = rows n (dense n k) ∧ Fr n f (un n f qs) k :=
  due_go hn qs f (hd n f) hm (fr_self f) dn_hd (hd_ex hn)
theorem row_eq (hn : 0 < n) {qs : List (Int → Bool)} (hm : Miss n qs) : l_row (rows n (dense n f)) (qs.map (lot n)) = true := by
  obtain ⟨k, e1, e2⟩ := due_eq (f := f) hn hm
  show ((forF (fun (_ : Unit) (e : Rank) => (if ((!true) || (!decide (e.cells = l_cells ((qs.map (lot n)).foldl (dueB (rows n (dense n f))) (rows n (dense n f)))))) = true then .ret false else .next () : Fl Unit Bool)) ([qs.map (lot n), (qs.map (lot n)).reverse, pyCut (qs.map (lot n)) (some 1) none ++ pyCut (qs.map (lot n)) none (some 1), qs.map (lot n) ++ qs.map (lot n)].foldl (fun (u : List Rank) o => u ++ [o.foldl (fun r l => f_turned r "sink" l) (f_Rank_of_levels (rows n (dense n f)))]) []) ()).el fun _ => true) = true
  rw [ords_lots, of_dense, ends_eq hn hm, e1, l_cells_eq hn]
  rw [all_next (P := fun e => decide (e.cells = cellsBy n k))]
  · rfl
  · intro e he
    obtain ⟨o, ho, rfl⟩ := List.mem_map.mp he
    show decide (cellsBy n _ = cellsBy n k) = true
    rw [decide_eq_true_eq, cells_iff]
    have h1 := sink_row (f := f) hn o fun q hq => hm q ((ords_mem ho q).mp hq)
    exact (h1.same e2 (un_ex hn o) (un_ex hn qs)).mpr fun x _ => un_same fun q => ords_mem ho q
theorem ends_ok (hn : 0 < n) (h12 : n ≤ 12) : ∀ (os : List (List (Int → Bool))) (u : List Rank), (∀ o ∈ os, Miss n o) → u.length + os.length ≤ 1000 →
    OkFold (fun (u : List Rank) (o : List (List Int)) => u ++ [o.foldl (fun r l => f_turned r "sink" l) (rk n f)]) (fun u o => OkFold (fun r l => f_turned r "sink" l) (fun r l => ok_f_turned r "sink" l) o (rk n f) ∧ u.length < sizeLine) (os.map (List.map (lot n))) u
  | [], _, _, _ => trivial
  | o :: os, u, hm, h => by
    rw [List.length_cons] at h
    exact ⟨⟨sink_fok hn h12 o f (hm o (by simp)), L2.small1000 (by omega)⟩, ends_ok hn h12 os _ (fun z hz => hm z (List.mem_cons_of_mem _ hz)) (by rw [List.length_append]; simp; omega)⟩
theorem row_ok (hn : 0 < n) (h12 : n ≤ 12) {qs : List (Int → Bool)} (hm : Miss n qs) (hl : qs.length ≤ 100) : ok_l_row (rows n (dense n f)) (qs.map (lot n)) := by
  obtain ⟨k, e1, e2⟩ := due_eq (f := f) hn hm
  refine ⟨of_levels_ok hn h12, ?_⟩
  refine ⟨?_, ?_, ?_, ?_⟩
  · rw [cut_from1, cut_to1]; exact Nat.le_of_lt (L2.small1000 (by simp; omega))
  · exact Nat.le_of_lt (L2.small1000 (by simp; omega))
  · show OkFold (fun (u : List Rank) (o : List (List Int)) => u ++ [o.foldl (fun r l => f_turned r "sink" l) (f_Rank_of_levels (rows n (dense n f)))]) (fun u o => OkFold (fun r l => f_turned r "sink" l) (fun r l => ok_f_turned r "sink" l) o (f_Rank_of_levels (rows n (dense n f))) ∧ u.length < sizeLine) [qs.map (lot n), (qs.map (lot n)).reverse, pyCut (qs.map (lot n)) (some 1) none ++ pyCut (qs.map (lot n)) none (some 1), qs.map (lot n) ++ qs.map (lot n)] []
    rw [ords_lots, of_dense]
    exact ends_ok hn h12 _ _ (fun o ho q hq => hm q ((ords_mem ho q).mp hq)) (by simp [ords])
  · refine ⟨due_ok hn h12 qs f hm, ?_⟩
    show OkFor (fun (_ : Unit) (e : Rank) => (if ((!true) || (!decide (e.cells = l_cells ((qs.map (lot n)).foldl (dueB (rows n (dense n f))) (rows n (dense n f)))))) = true then .ret false else .next () : Fl Unit Bool)) (fun _ _ => (!true) = false → ok_l_cells ((qs.map (lot n)).foldl (dueB (rows n (dense n f))) (rows n (dense n f)))) _ ()
    rw [e1]
    exact all_ok (P := fun e => decide (e.cells = l_cells (rows n (dense n k)))) (l_cells_ok hn h12) _ ()
end NB
end
section
set_option maxHeartbeats 1000000
namespace NB
open PySem DT RK BR
variable {n : Nat} {f g : Int → Int} {p q : Int → Bool} {x : Int}
/-! ## what is drawn -/
theorem take_lt (d : List Int) {b : Int} (hb : 0 < b) : 0 ≤ (l_take d b).1 ∧ (l_take d b).1 < b := by
  show 0 ≤ (if (decide ((d.length : Int) = 0)) = true then ((0 : Int), d) else ((d.getLastD default) % b, d.dropLast)).1 ∧ (if (decide ((d.length : Int) = 0)) = true then ((0 : Int), d) else ((d.getLastD default) % b, d.dropLast)).1 < b
  split
  · exact ⟨Int.le_refl _, hb⟩
  · exact ⟨Int.emod_nonneg _ (by omega), Int.emod_lt_of_pos _ hb⟩
theorem take_ok (d : List Int) {b : Int} (hb : 0 < b) : ok_l_take d b := fun h => ⟨fun e => by subst e; simp at h, hb⟩
theorem okComp_all {α ι ρ : Type} {F : ρ → ι → Option α × ρ} {okb : ρ → ι → Prop} (h : ∀ r x, okb r x) : ∀ (xs : List ι) (r : ρ), OkComp F okb xs r
  | [], _ => trivial
  | x :: xs, r => ⟨h r x, okComp_all h xs _⟩
theorem comp_sub {ι ρ : Type} {t : ρ → ι → Bool} {r1 r2 : ρ → ι → ρ} : ∀ (xs : List ι) (r : ρ), ((compS (turnS t r1 (fun _ w => w) r2) xs r).1).Sublist xs
  | [], _ => List.Sublist.refl _
  | x :: xs, r => by
    unfold compS turnS
    by_cases h : t r x = true
    · rw [if_pos h]; exact (comp_sub xs _).cons₂ x
    · rw [if_neg h]; exact (comp_sub xs _).cons x
theorem comp_len {α ι ρ : Type} {e : ρ → ι → α} {r1 r2 : ρ → ι → ρ} : ∀ (xs : List ι) (r : ρ), ((compS (turnS (fun _ _ => true) r1 e r2) xs r).1).length = xs.length
  | [], _ => rfl
  | x :: xs, r => by
    exact congrArg Nat.succ (comp_len (e := e) (r1 := r1) (r2 := r2) xs (r2 r x))
theorem lot_sub {l : List Int} (h : l.Sublist (idx n)) : l = lot n fun x => decide (x ∈ l) :=
  lot_by ((ss_idx n).sublist h) fun x => ⟨fun e => ⟨h.subset e, by simpa using e⟩, fun e => by simpa using e.2⟩
theorem lot_eq (d : List Int) : ∃ p, (l_lot d (n : Int)).1 = lot n p := by
  refine ⟨_, lot_sub ?_⟩
  show ((compS (turnS (fun (r : (List Int)) (world : Int) => decide ((l_take r 2).1 = 1)) (fun (r : (List Int)) (world : Int) => ((l_take r 2).2)) (fun (r : (List Int)) (world : Int) => world) (fun (r : (List Int)) (world : Int) => ((l_take r 2).2))) (rng 0 (n : Int)) d).1).Sublist (idx n)
  rw [rng_idx]; exact comp_sub _ _
theorem lot_ok (d : List Int) (h : n ≤ 900) : ok_l_lot d (n : Int) := ⟨⟨by omega, by omega⟩, okComp_all (fun r _ => take_ok r (by decide)) _ _⟩
theorem lot_ne {m : Int} : (lot n p).filter (fun w => !decide (w = m)) = lot n fun x => p x && !decide (x = m) := filter_lot
theorem short_eq (hn : 0 < n) (d : List Int) : ∃ p, (l_short d (n : Int)).1 = lot n p ∧ ∃ x ∈ idx n, p x = false := by
  obtain ⟨p, e⟩ := lot_eq (n := n) (l_take d (n : Int)).2
  have h := take_lt d (show (0 : Int) < n by omega)
  refine ⟨fun x => p x && !decide (x = (l_take d (n : Int)).1), ?_, (l_take d (n : Int)).1, mem_idx.mpr h, by simp⟩
  show ((l_lot (l_take d (n : Int)).2 (n : Int)).1).filter (fun w => !decide (w = (l_take d (n : Int)).1)) = _
  rw [e, lot_ne]
theorem short_ok (hn : 0 < n) (h : n ≤ 900) (d : List Int) : ok_l_short d (n : Int) := ⟨take_ok d (by omega), lot_ok _ h⟩
theorem top_pos (h : 0 < maxL (rows n (dense n f))) : ∃ x ∈ idx n, nt (hd n f) x = true := by
  have hne : rows n (dense n f) ≠ [] := fun e => by rw [e] at h; exact absurd h (by decide)
  obtain ⟨x, hx, e⟩ := List.mem_map.mp (maxL_mem hne)
  refine ⟨x, hx, nt_iff.mpr ?_⟩
  cases e2 : hd n f x with
  | false => rfl
  | true =>
    have := (dense_zero hx).mpr e2
    have e3 : dense n f x = maxL (rows n (dense n f)) := e
    omega
theorem pick {l : List Int} {i : Int} (h0 : 0 ≤ i) (h1 : i < l.length) : pyIx l i ∈ l ∧ IxOk l i := by
  refine ⟨?_, by unfold IxOk; omega⟩
  unfold pyIx
  rw [if_pos h0, List.getD_eq_getElem?_getD, List.getElem?_eq_getElem (by omega)]
  exact List.getElem_mem _
theorem around_eq (h : 0 < maxL (rows n (dense n f))) (d : List Int) : ∃ p, (l_around d (rows n (dense n f))).1 = lot n p ∧ isIn n f p = true ∧ ∃ x ∈ idx n, p x = false := by
  obtain ⟨z, hz, ez⟩ := top_pos h
  have hl : (0 : Int) < ((lot n (nt (hd n f))).length : Int) := by have := List.length_pos_of_mem (mem_lot.mpr ⟨hz, ez⟩); omega
  have ht := take_lt d hl
  have hm := (pick ht.1 ht.2).1
  obtain ⟨p, e⟩ := lot_eq (n := n) (l_take d ((lot n (nt (hd n f))).length : Int)).2
  refine ⟨fun x => hd n f x || (p x && !decide (x = pyIx (lot n (nt (hd n f))) (l_take d ((lot n (nt (hd n f))).length : Int)).1)), ?_, isIn_iff.mpr fun x _ e => by simp [e], _, (mem_lot.mp hm).1, ?_⟩
  · show l_plus (l_held (rows n (dense n f))) (((l_lot (l_take d ((l_rest (l_held (rows n (dense n f))) ((rows n (dense n f)).length : Int)).length : Int)).2 ((rows n (dense n f)).length : Int)).1).filter fun w => !decide (w = pyIx (l_rest (l_held (rows n (dense n f))) ((rows n (dense n f)).length : Int)) (l_take d ((l_rest (l_held (rows n (dense n f))) ((rows n (dense n f)).length : Int)).length : Int)).1)) = _
    rw [len_rows, l_held_dense, l_rest_eq, e, lot_ne, l_plus_eq]
  · have := nt_iff.mp (mem_lot.mp hm).2
    simp [this]
theorem around_ok (h12 : n ≤ 12) (h : 0 < maxL (rows n (dense n f))) (d : List Int) : ok_l_around d (rows n (dense n f)) := by
  obtain ⟨z, hz, ez⟩ := top_pos h
  have hl : (0 : Int) < ((lot n (nt (hd n f))).length : Int) := by have := List.length_pos_of_mem (mem_lot.mpr ⟨hz, ez⟩); omega
  have ht := take_lt d hl
  obtain ⟨p, e⟩ := lot_eq (n := n) (l_take d ((lot n (nt (hd n f))).length : Int)).2
  unfold ok_l_around
  unfold Bd
  simp only [len_rows, l_held_dense, l_rest_eq]
  refine ⟨l_held_ok (by omega), l_rest_ok (by omega), take_ok d hl, (pick ht.1 ht.2).2, lot_ok _ (by omega), ?_⟩
  rw [e, lot_ne]; exact l_plus_ok (by omega)
theorem rank_eq (d : List Int) : ∃ f, (l_rank d (n : Int)).1 = rows n (dense n f) := by
  refine ⟨fun x => pyIx ((compS (turnS (fun (r : (List Int)) (world : Int) => true) (fun (r : (List Int)) (world : Int) => (r)) (fun (r : (List Int)) (world : Int) => (l_take r (n : Int)).1) (fun (r : (List Int)) (world : Int) => ((l_take r (n : Int)).2))) (rng 0 (n : Int)) d).1) x, ?_⟩
  show l_dense ((compS (turnS (fun (r : (List Int)) (world : Int) => true) (fun (r : (List Int)) (world : Int) => (r)) (fun (r : (List Int)) (world : Int) => (l_take r (n : Int)).1) (fun (r : (List Int)) (world : Int) => ((l_take r (n : Int)).2))) (rng 0 (n : Int)) d).1) = _
  have hl : ((compS (turnS (fun (r : (List Int)) (world : Int) => true) (fun (r : (List Int)) (world : Int) => (r)) (fun (r : (List Int)) (world : Int) => (l_take r (n : Int)).1) (fun (r : (List Int)) (world : Int) => ((l_take r (n : Int)).2))) (rng 0 (n : Int)) d).1).length = n := by rw [comp_len, rng_idx, len_idx]
  conv => lhs; rw [rows_of (compS _ _ _).1, hl]
  rw [l_dense_eq]
theorem rank_ok (hn : 0 < n) (h12 : n ≤ 12) (d : List Int) : ok_l_rank d (n : Int) := by
  refine ⟨⟨by omega, by omega⟩, okComp_all (fun r _ _ => take_ok r (by omega)) _ _, ?_⟩
  have hl : ((compS (turnS (fun (r : (List Int)) (world : Int) => true) (fun (r : (List Int)) (world : Int) => (r)) (fun (r : (List Int)) (world : Int) => (l_take r (n : Int)).1) (fun (r : (List Int)) (world : Int) => ((l_take r (n : Int)).2))) (rng 0 (n : Int)) d).1).length = n := by rw [comp_len, rng_idx, len_idx]
  rw [rows_of (compS _ _ _).1, hl]
  exact l_dense_ok (by omega)
end NB
end
section
set_option maxHeartbeats 1000000
namespace NB
open PySem DT RK BR
variable {n : Nat} {f g : Int → Int} {p q : Int → Bool} {x : Int}
/-! ## the draws -/
theorem okFold_inv {ρ ι : Type} {body : ρ → ι → ρ} {okb : ρ → ι → Prop} (I : Nat → ρ → Prop) (N : Nat) : ∀ (xs : List ι) (k : Nat) (r : ρ), k + xs.length = N → (∀ k r, ∀ x ∈ xs, k < N → I k r → okb r x ∧ I (k + 1) (body r x)) → I k r → OkFold body okb xs r ∧ I N (xs.foldl body r)
  | [], k, r, e, _, h => ⟨trivial, by simp at e; rw [← e]; exact h⟩
  | x :: xs, k, r, e, h, hr => by
    rw [List.length_cons] at e
    obtain ⟨h1, h2⟩ := h k r x (by simp) (by omega) hr
    obtain ⟨h3, h4⟩ := okFold_inv I N xs (k + 1) (body r x) (by omega) (fun k r z hz => h k r z (List.mem_cons_of_mem _ hz)) h2
    exact ⟨⟨h1, h3⟩, by rw [List.foldl_cons]; exact h4⟩
theorem cmul_small {a : Int} (h0 : 0 ≤ a) (h1 : a < 2147483648) : L2.CMul a a := .inl ⟨by omega, by omega⟩
theorem lt_sz {m : Nat} (h : m ≤ 20000) : m < sizeLine := by rw [sizeLine_eq]; omega
abbrev bigB (r1 : List Int × Int) (_ : Int) : List Int × Int := ((if (decide (0 < r1.2)) = true then (r1.1 ++ [(r1.2 % 30)], r1.2 / 30) else (r1.1, r1.2)).1, (if (decide (0 < r1.2)) = true then (r1.1 ++ [(r1.2 % 30)], r1.2 / 30) else (r1.1, r1.2)).2)
theorem big_go (L : Nat) (hL : L ≤ 10000) (r : List Int × Int) (h : r.1.length ≤ L) : OkFold bigB (fun r1 _ => (decide (0 < r1.2)) = true → r1.1.length < sizeLine) (rng 0 50) r ∧ ((rng 0 50).foldl bigB r).1.length ≤ L + 50 := by
  have e : rng 0 50 = idx 50 := rng_idx 50
  rw [e]
  refine okFold_inv (body := bigB) (fun k r => r.1.length ≤ L + k) 50 (idx 50) 0 r (by rw [len_idx]) (fun k r x _ hk hi => ⟨fun _ => lt_sz (by omega), ?_⟩) (by omega)
  show (if _ then _ else _ : List Int × Int).1.length ≤ _
  split
  · show (r.1 ++ _).length ≤ _
    rw [List.length_append]; simp; omega
  · show r.1.length ≤ _
    omega
abbrev smB (place : Int) (r3 : Int × List Int) (t : Int) : Int × List Int := ((((((r3.1 * r3.1) + (t * 90001)) + (place * 43)) + 3) % 2147483587), r3.2 ++ [(((((r3.1 * r3.1) + (t * 90001)) + (place * 43)) + 3) % 2147483587)])
theorem small_go (L : Nat) (hL : L ≤ 10000) (place : Int) (r : Int × List Int) (h : r.2.length ≤ L) (h0 : 0 ≤ r.1) (h1 : r.1 < 2147483648) : OkFold (smB place) (fun r3 t => L2.CMul r3.1 r3.1 ∧ r3.2.length < sizeLine) (rng 0 6) r ∧ ((rng 0 6).foldl (smB place) r).2.length ≤ L + 6 := by
  have e : rng 0 6 = idx 6 := rng_idx 6
  rw [e]
  obtain ⟨a, b⟩ := okFold_inv (body := smB place) (okb := fun r3 t => L2.CMul r3.1 r3.1 ∧ r3.2.length < sizeLine) (fun k r => r.2.length ≤ L + k ∧ 0 ≤ r.1 ∧ r.1 < 2147483648) 6 (idx 6) 0 r (by rw [len_idx]) (fun k r x _ hk hi => ⟨⟨cmul_small hi.2.1 hi.2.2, lt_sz (by omega)⟩, by
    show (r.2 ++ _).length ≤ _ ∧ 0 ≤ _ % _ ∧ _ % _ < _
    refine ⟨by rw [List.length_append]; simp; omega, Int.emod_nonneg _ (by decide), ?_⟩
    have := Int.emod_lt_of_pos (((((r.1 * r.1) + (x * 90001)) + (place * 43)) + 3)) (show (0 : Int) < 2147483587 by decide)
    omega⟩) ⟨by omega, h0, h1⟩
  exact ⟨a, b.1⟩
theorem pmin_len {l : List Int} (h : l.length ≤ 63) : pmin (l.length : Int) 63 = (l.length : Int) := by
  unfold pmin; rw [if_neg (by omega)]
theorem draws_ok {script : List Int} (hl : script.length ≤ 63) : ok_l_draws script := by
  unfold ok_l_draws Bd
  rw [pmin_len hl, rng_idx]
  refine ⟨⟨by omega, by omega⟩, ?_⟩
  refine (okFold_inv (fun k (d : List Int) => d.length ≤ 50 * k) script.length (idx script.length) 0 [] (by rw [len_idx]; simp) (fun k d x hx hk hi => ?_) (by simp)).1
  have hd0 := Int.emod_nonneg ((((if (decide (pyIx script x < 0)) = true then 7 - pyIx script x else pyIx script x) * 48271) + (x * 6007)) + 17) (show (2147483629 : Int) ≠ 0 by decide)
  have hd1 := Int.emod_lt_of_pos ((((if (decide (pyIx script x < 0)) = true then 7 - pyIx script x else pyIx script x) * 48271) + (x * 6007)) + 17) (show (0 : Int) < 2147483629 by decide)
  have b := big_go (50 * k) (by omega) (d, if (decide (pyIx script x < 0)) = true then 7 - pyIx script x else pyIx script x) hi
  have s := small_go (50 * k) (by omega) x ((((if (decide (pyIx script x < 0)) = true then 7 - pyIx script x else pyIx script x) * 48271) + (x * 6007) + 17) % 2147483629, d) hi hd0 (by omega)
  refine ⟨⟨?_, fun _ => b.1, fun _ => s.1⟩, ?_⟩
  · have := mem_idx.mp hx
    unfold IxOk; omega
  · show ((if (decide ((10 ^ (18 : Int).toNat) ≤ (if (decide (pyIx script x < 0)) = true then 7 - pyIx script x else pyIx script x))) = true then (((rng 0 50).foldl bigB (d, (if (decide (pyIx script x < 0)) = true then 7 - pyIx script x else pyIx script x))).1, ((rng 0 50).foldl bigB (d, (if (decide (pyIx script x < 0)) = true then 7 - pyIx script x else pyIx script x))).2) else (((rng 0 6).foldl (smB x) (((((if (decide (pyIx script x < 0)) = true then 7 - pyIx script x else pyIx script x) * 48271) + (x * 6007)) + 17) % 2147483629, d)).2, (if (decide (pyIx script x < 0)) = true then 7 - pyIx script x else pyIx script x)) : List Int × Int).1).length ≤ 50 * (k + 1)
    by_cases hc : (decide ((10 ^ (18 : Int).toNat) ≤ (if (decide (pyIx script x < 0)) = true then 7 - pyIx script x else pyIx script x))) = true
    · rw [if_pos hc]; have := b.2; show ((rng 0 50).foldl bigB (d, (if (decide (pyIx script x < 0)) = true then 7 - pyIx script x else pyIx script x))).1.length ≤ _; omega
    · rw [if_neg hc]; have := s.2; show ((rng 0 6).foldl (smB x) (((((if (decide (pyIx script x < 0)) = true then 7 - pyIx script x else pyIx script x) * 48271) + (x * 6007)) + 17) % 2147483629, d)).2.length ≤ _; omega
end NB
end
section
set_option maxHeartbeats 1000000
namespace NB
open PySem DT RK BR
variable {n : Nat} {f g : Int → Int} {p q : Int → Bool} {x : Int}
/-! ## the row of lots -/
abbrev lotH (n : Nat) (f : Int → Int) (d : List Int) : List Int := if (decide ((l_take (l_short d (n : Int)).2 3).1 < 2)) = true then (l_plus (l_short d (n : Int)).1 (l_held (rows n (dense n f)))).filter (fun w => !decide (w = (n : Int) - 1)) else (l_short d (n : Int)).1
abbrev lotB (n : Nat) (f : Int → Int) (r : List Int × List (List Int)) (_ : Int) : Fl (List Int × List (List Int)) Bool := if (!(l_one_lot (rows n (dense n f)) (lotH n f r.1))) = true then .ret false else .next ((l_take (l_short r.1 (n : Int)).2 3).2, r.2 ++ [lotH n f r.1])
theorem lotH_eq (hn : 0 < n) (d : List Int) : ∃ p, lotH n f d = lot n p ∧ ∃ x ∈ idx n, p x = false := by
  obtain ⟨p, e, m⟩ := short_eq hn d
  unfold lotH
  split
  · refine ⟨fun x => (p x || hd n f x) && !decide (x = (n : Int) - 1), ?_, (n : Int) - 1, mem_idx.mpr ⟨by omega, by omega⟩, by simp⟩
    rw [e, l_held_dense, l_plus_eq, lot_ne]
  · exact ⟨p, e, m⟩
theorem loop_go (hn : 0 < n) (h12 : n ≤ 12) {okb : List Int × List (List Int) → Int → Prop} (hb : ∀ d qs t, Miss n qs → qs.length ≤ 100 → okb (d, qs.map (lot n)) t) : ∀ (ts : List Int) (d : List Int) (qs : List (Int → Bool)), Miss n qs → qs.length + ts.length ≤ 100 →
    (∃ d' qs', forF (lotB n f) ts (d, qs.map (lot n)) = .next (d', qs'.map (lot n)) ∧ Miss n qs' ∧ qs'.length ≤ 100) ∧ OkFor (lotB n f) okb ts (d, qs.map (lot n))
  | [], d, qs, hm, hl => ⟨⟨d, qs, rfl, hm, by simpa using hl⟩, trivial⟩
  | t :: ts, d, qs, hm, hl => by
    rw [List.length_cons] at hl
    obtain ⟨p, e, m⟩ := lotH_eq (f := f) hn d
    have hs : lotB n f (d, qs.map (lot n)) t = .next ((l_take (l_short d (n : Int)).2 3).2, (qs ++ [p]).map (lot n)) := by
      show (if (!(l_one_lot (rows n (dense n f)) (lotH n f d))) = true then _ else _) = _
      rw [e, one_eq hn m, if_neg (by decide)]
      simp
    obtain ⟨r1, r2⟩ := loop_go hn h12 hb ts (l_take (l_short d (n : Int)).2 3).2 (qs ++ [p]) (fun q hq => by
      rcases List.mem_append.mp hq with h | h
      · exact hm q h
      · rw [List.mem_singleton] at h; subst h; exact m) (by rw [List.length_append]; simp; omega)
    refine ⟨?_, hb d qs t hm (by omega), ?_⟩
    · unfold forF; rw [hs]; exact r1
    · rw [hs]; exact r2
theorem worlds_n {t : Int} (h0 : 0 ≤ t) (h1 : t < 8) : ∃ n : Nat, 0 < n ∧ n ≤ 6 ∧ pyIx [4, 3, 5, 2, 6, 1, 4, 3] t = (n : Int) := by
  have h : t = 0 ∨ t = 1 ∨ t = 2 ∨ t = 3 ∨ t = 4 ∨ t = 5 ∨ t = 6 ∨ t = 7 := by omega
  rcases h with rfl | rfl | rfl | rfl | rfl | rfl | rfl | rfl
  · exact ⟨4, by decide, by decide, rfl⟩
  · exact ⟨3, by decide, by decide, rfl⟩
  · exact ⟨5, by decide, by decide, rfl⟩
  · exact ⟨2, by decide, by decide, rfl⟩
  · exact ⟨6, by decide, by decide, rfl⟩
  · exact ⟨1, by decide, by decide, rfl⟩
  · exact ⟨4, by decide, by decide, rfl⟩
  · exact ⟨3, by decide, by decide, rfl⟩
theorem rows_ne (hn : 0 < n) : rows n g ≠ [] := fun e => by have := len_rows (n := n) (f := g); rw [e] at this; simp at this; omega
theorem ident : (rng 0 (n : Int)).map (fun w => w) = rows n (fun x => x) := by rw [rng_idx]; rfl
end NB
end
section
set_option maxHeartbeats 1000000
namespace NB
open PySem DT RK BR
abbrev okL (n : Nat) (f : Int → Int) (r : List Int × List (List Int)) (_ : Int) : Prop := ok_l_short r.1 (n : Int) ∧ ok_l_take (l_short r.1 (n : Int)).2 3 ∧ ((decide ((l_take (l_short r.1 (n : Int)).2 3).1 < 2)) = true → ok_l_held (rows n (dense n f)) ∧ ok_l_plus (l_short r.1 (n : Int)).1 (l_held (rows n (dense n f)))) ∧ r.2.length < sizeLine ∧ ok_l_one_lot (rows n (dense n f)) (lotH n f r.1)
theorem math (script : List Int) (hl : script.length ≤ 63) : ok_l_law script ∧ l_law script = true := by
  have t8 := take_lt (l_draws script) (show (0 : Int) < 8 by decide)
  obtain ⟨n, hn, h6, ew⟩ := worlds_n t8.1 t8.2
  obtain ⟨f1, e1⟩ := rank_eq (n := n) (l_take (l_draws script) 8).2
  have h12 : n ≤ 12 := by omega
  unfold ok_l_law l_law Bd
  simp only [ew, e1]
  generalize hlv : (if (decide (maxL (rows n (dense n f1)) = 0) && (decide (1 < (n : Int)) && decide ((l_take (l_rank (l_take (l_draws script) 8).2 (n : Int)).2 4).1 < 3))) = true then l_dense ((rng 0 (n : Int)).map fun world => world) else rows n (dense n f1)) = lv
  have hlev : ∃ f, lv = rows n (dense n f) := by
    rw [← hlv]; split
    · exact ⟨fun x => x, by rw [ident, l_dense_eq]⟩
    · exact ⟨f1, rfl⟩
  obtain ⟨f, e2⟩ := hlev
  subst e2
  generalize (if decide (maxL (rows n (dense n f1)) = 0) = true then if decide (1 < (n : Int)) = true then (l_take (l_rank (l_take (l_draws script) 8).2 (n : Int)).2 4).2 else (l_rank (l_take (l_draws script) 8).2 (n : Int)).2 else (l_rank (l_take (l_draws script) 8).2 (n : Int)).2) = dd
  -- the first part
  have first : ∃ d', (if decide (0 < maxL (rows n (dense n f))) = true then
      if (!l_two_levels (rows n (dense n f)) (l_around dd (rows n (dense n f))).1 (l_around (l_around dd (rows n (dense n f))).2 (rows n (dense n f))).1 || !l_two_levels (rows n (dense n f)) (l_around (l_around dd (rows n (dense n f))).2 (rows n (dense n f))).1 (l_around dd (rows n (dense n f))).1) = true then (Rs.ret false : Rs (List Int) Bool) else
      if (!l_one_lot (rows n (dense n f)) (l_around dd (rows n (dense n f))).1) = true then .ret false else .next (l_around (l_around dd (rows n (dense n f))).2 (rows n (dense n f))).2
    else .next dd) = .next d' := by
    by_cases hp : 0 < maxL (rows n (dense n f))
    · obtain ⟨p, ep, ip, mp⟩ := around_eq hp dd
      obtain ⟨q, eq', iq, mq⟩ := around_eq hp (l_around dd (rows n (dense n f))).2
      refine ⟨(l_around (l_around dd (rows n (dense n f))).2 (rows n (dense n f))).2, ?_⟩
      rw [if_pos (by simpa using hp), ep, eq', two_eq hn ip iq mp mq, two_eq hn iq ip mq mp, one_eq hn mp, if_neg (by decide), if_neg (by decide)]
    · exact ⟨dd, by rw [if_neg (by simpa using hp)]⟩
  obtain ⟨d', ed⟩ := first
  rw [ed]
  have t4 := take_lt d' (show (0 : Int) < 4 by decide)
  have hb : ∀ d qs (t : Int), Miss n qs → qs.length ≤ 100 → okL n f (d, qs.map (lot n)) t := fun d qs t hm hq => by
    obtain ⟨p, e, m⟩ := short_eq hn d
    obtain ⟨p2, e2, m2⟩ := lotH_eq (f := f) hn d
    refine ⟨short_ok hn (by omega) d, take_ok _ (by decide), fun _ => ⟨l_held_ok (by omega), ?_⟩, lt_sz (by simp; omega), ?_⟩
    · show ok_l_plus (l_short d (n : Int)).1 (l_held (rows n (dense n f)))
      rw [e, l_held_dense]; exact l_plus_ok (by omega)
    · show ok_l_one_lot (rows n (dense n f)) (lotH n f d)
      rw [e2]; exact one_ok hn h12 m2
  have hlen : (rng 0 (1 + (l_take d' 4).1)).length ≤ 10 := by unfold rng; simp; omega
  obtain ⟨⟨d2, qs, g1, g2, g3⟩, g4⟩ := loop_go (f := f) (okb := okL n f) hn h12 hb (rng 0 (1 + (l_take d' 4).1)) (l_take d' 4).2 [] (by intro q hq; simp at hq) (by simp; omega)
  refine ⟨⟨draws_ok hl, take_ok _ (by decide), (pick (l := [4, 3, 5, 2, 6, 1, 4, 3]) t8.1 t8.2).2, rank_ok hn h12 _, rows_ne hn, fun _ _ => take_ok _ (by decide), fun _ => ⟨⟨by omega, by omega⟩, by rw [ident]; exact l_dense_ok (by omega)⟩, rows_ne hn, fun h => ?_, ?_⟩, ?_⟩
  · have hp : 0 < maxL (rows n (dense n f)) := by simpa using h
    obtain ⟨p, ep, ip, mp⟩ := around_eq hp dd
    obtain ⟨q, eq', iq, mq⟩ := around_eq hp (l_around dd (rows n (dense n f))).2
    rw [ep, eq']
    exact ⟨around_ok h12 hp dd, around_ok h12 hp _, two_ok hn h12 mp mq, fun _ => two_ok hn h12 mq mp, fun _ => one_ok hn h12 mp⟩
  · intro r hr
    cases hr
    refine ⟨take_ok _ (by decide), ⟨by omega, by omega⟩, g4, ?_⟩
    intro r hr
    have e3 : (Rs.next (d2, qs.map (lot n)) : Rs (List Int × List (List Int)) Bool) = .next r := g1.symm.trans hr
    cases e3
    exact row_ok hn h12 g2 g3
  · show ((forF (lotB n f) (rng 0 (1 + (l_take d' 4).1)) ((l_take d' 4).2, ([] : List (Int → Bool)).map (lot n))).el fun r => l_row (rows n (dense n f)) r.2) = true
    rw [g1]
    exact row_eq hn g2
end NB
end
theorem PySem.Challenge.cw_newsbooks_k44_two_levels_and_sinks_holds : PySem.Challenge.rw_newsbooks_k44_two_levels_and_sinks.Holds :=
  NB.holds NB.math
