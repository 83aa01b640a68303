import PyProof.Rows.All
import Wide.All
import OpenK.AllK
import Wide.FinOn
import HandS.ForMost
import HandS.ForExc
import HandS.ExcInit
import HandS.AnyAll
import HandS.EndTab
import HandS.Zip
import HandS.Walk
import HandS.Flow
import HandS.IsInst
import HandS.TupLe
import HandS.Replace
import KE.GoesZip
import KE.GoesMore
import KE.GoesEnum
import KE.LtSeq
import HandS.Codes
import HandS.ReplaceLit
import HandS.ReplaceList
import HandS.ReplaceDef
import HandS.ExcField
import HandS.EndBits
import HandS.ExcIs
import PySem.Challenge.RW_rightfares_k02_texts_of_alignments
set_option Elab.async false
set_option linter.all false
set_option maxRecDepth 100000
set_option maxHeartbeats 4000000
/-! DL: a program logic over plain data: frozen data (F), mutable objects (ro, M), slots (Ga) -/
namespace DL
open PySem PySem.Spec PyProof.Rows L2
abbrev SS := L2.St

/-- plain data -/
inductive D where
  | non
  | bl (b : Bool)
  | int (i : Int)
  | str (x : List Nat)
  | lst (xs : List D)
  | tup (xs : List D)
  | obj (C : Addr) (ks : List Str) (xs : List D)
/-- what a slot holds: nothing known, data, the k-th mutable object, the script -/
inductive DV where
  | un
  | d (x : D)
  | m (k : Nat)
  | ro (ns : List Int)
/-- a mutable object -/
inductive MO where
  | lst (xs : List DV)
  | ins (C : Addr) (ks : List Str) (xs : List DV)
abbrev Mem := List (Option MO)

def sOf (x : List Nat) : Str := ⟨x.toArray⟩
theorem sOf_toList (s : Str) : sOf s.cps.toList = s := by cases s; simp [sOf]
theorem sOf_len (x : List Nat) : (sOf x).length = x.length := by simp [sOf, Str.length]
theorem sOf_app (x y : List Nat) : sOf x ++ sOf y = sOf (x ++ y) := by
  show (⟨x.toArray ++ y.toArray⟩ : Str) = _
  simp [sOf]
theorem sOf_inj {x y : List Nat} (h : sOf x = sOf y) : x = y := by
  have := congrArg (fun s : Str => s.cps.toList) h
  simpa [sOf] using this

mutual
inductive Dr (F : Hp) : V → D → Prop
  | non : Dr F .non .non
  | bl (b : Bool) : Dr F (.bl b) (.bl b)
  | int (i : Int) : Dr F (.int i) (.int i)
  | str (x : List Nat) : Dr F (.str (sOf x)) (.str x)
  | lst {a : Addr} {vs : List V} {ds : List D} : F a = some (.lst vs) → DrA F vs ds → Dr F (.ref a) (.lst ds)
  | tup {a : Addr} {vs : List V} {ds : List D} : F a = some (.tup vs) → DrA F vs ds → Dr F (.ref a) (.tup ds)
  | obj {a C dx : Addr} {fs : List (Str × V)} {ds : List D} : F a = some (.ins C dx fs) → DrA F (fs.map (·.2)) ds → Dr F (.ref a) (.obj C (fs.map (·.1)) ds)
inductive DrA (F : Hp) : List V → List D → Prop
  | nil : DrA F [] []
  | cons {v : V} {d : D} {vs : List V} {ds : List D} : Dr F v d → DrA F vs ds → DrA F (v :: vs) (d :: ds)
end
def Sub (F F' : Hp) : Prop := ∀ a o, F a = some o → F' a = some o
theorem Sub.refl (F : Hp) : Sub F F := fun _ _ h => h
theorem Sub.trans {F F1 F2 : Hp} (a : Sub F F1) (b : Sub F1 F2) : Sub F F2 := fun x o h => b x o (a x o h)
theorem Sub.new {F : Hp} {p : Addr} {o : HO} (h : F p = none) : Sub F (upd F p o) := fun a u e => by
  rw [upd_ne (ne_of_none e h)]; exact e
mutual
theorem Dr.mono {F F' : Hp} (s : Sub F F') : ∀ {v : V} {d : D}, Dr F v d → Dr F' v d
  | _, _, .non => .non
  | _, _, .bl b => .bl b
  | _, _, .int i => .int i
  | _, _, .str x => .str x
  | _, _, .lst h r => .lst (s _ _ h) (DrA.mono s r)
  | _, _, .tup h r => .tup (s _ _ h) (DrA.mono s r)
  | _, _, .obj h r => .obj (s _ _ h) (DrA.mono s r)
theorem DrA.mono {F F' : Hp} (s : Sub F F') : ∀ {v : List V} {d : List D}, DrA F v d → DrA F' v d
  | _, _, .nil => .nil
  | _, _, .cons h r => .cons (Dr.mono s h) (DrA.mono s r)
end
theorem DrA.length {F : Hp} : ∀ {v : List V} {d : List D}, DrA F v d → v.length = d.length
  | _, _, .nil => rfl
  | _, _, .cons _ r => by simp [DrA.length r]
theorem DrA.get {F : Hp} : ∀ {v : List V} {d : List D} {i : Nat} {x : D}, DrA F v d → d[i]? = some x → ∃ u, v[i]? = some u ∧ Dr F u x
  | _, _, i, _, .nil, e => by simp at e
  | _, _, 0, _, .cons h _, e => by simp at e; subst e; exact ⟨_, rfl, h⟩
  | _, _, i + 1, _, .cons _ r, e => by
    obtain ⟨u, e1, e2⟩ := DrA.get (i := i) r (by simpa using e)
    exact ⟨u, by simpa using e1, e2⟩
theorem DrA.app {F : Hp} : ∀ {v v' : List V} {d d' : List D}, DrA F v d → DrA F v' d' → DrA F (v ++ v') (d ++ d')
  | _, _, _, _, .nil, s => s
  | _, _, _, _, .cons h r, s => .cons h (DrA.app r s)
theorem DrA.take {F : Hp} : ∀ {v : List V} {d : List D} (n : Nat), DrA F v d → DrA F (v.take n) (d.take n)
  | _, _, 0, _ => by simp; exact .nil
  | _, _, n + 1, .nil => .nil
  | _, _, n + 1, .cons h r => .cons h (DrA.take n r)
theorem DrA.drop {F : Hp} : ∀ {v : List V} {d : List D} (n : Nat), DrA F v d → DrA F (v.drop n) (d.drop n)
  | _, _, 0, r => by simpa using r
  | _, _, n + 1, .nil => .nil
  | _, _, n + 1, .cons h r => DrA.drop n r
theorem DrA.ints {F : Hp} : ∀ {v : List V} {ns : List Int}, DrA F v (ns.map D.int) → v = ns.map V.int
  | [], [], .nil => rfl
  | _, n :: ns, .cons h r => by cases h; rw [DrA.ints r]; rfl
theorem DrA.bools {F : Hp} : ∀ {v : List V} {ns : List Bool}, DrA F v (ns.map D.bl) → v = ns.map V.bl
  | [], [], .nil => rfl
  | _, n :: ns, .cons h r => by cases h; rw [DrA.bools r]; rfl
theorem DrA.strs {F : Hp} : ∀ {v : List V} {ns : List (List Nat)}, DrA F v (ns.map D.str) → v = (ns.map sOf).map V.str
  | [], [], .nil => rfl
  | _, n :: ns, .cons h r => by cases h; rw [DrA.strs r]; rfl
theorem DrA.ofInts {F : Hp} : ∀ (ns : List Int), DrA F (ns.map V.int) (ns.map D.int)
  | [] => .nil
  | n :: ns => .cons (.int n) (DrA.ofInts ns)

/-- the world: what the top has written, the tables of code objects, the error's class -/
structure G where
  K : PySem.W.Frag
  T : List Addr
  C : Addr

def Rv (g : G) (ρ : List Addr) (F : Hp) (v : V) : DV → Prop
  | .un => True
  | .d x => Dr F v x
  | .m k => ∃ a, v = .ref a ∧ ρ[k]? = some a
  | .ro ns => ∃ a, v = .ref a ∧ SqL g.K F a (ns.map V.int)
inductive RvA (g : G) (ρ : List Addr) (F : Hp) : List V → List DV → Prop
  | nil : RvA g ρ F [] []
  | cons {v : V} {d : DV} {vs : List V} {ds : List DV} : Rv g ρ F v d → RvA g ρ F vs ds → RvA g ρ F (v :: vs) (d :: ds)
def RvO (g : G) (ρ : List Addr) (F : Hp) : Option V → DV → Prop
  | _, .un => True
  | some v, dv => Rv g ρ F v dv
  | none, _ => False
inductive RvS (g : G) (ρ : List Addr) (F : Hp) : List (Option V) → List DV → Prop
  | nil : RvS g ρ F [] []
  | cons {v : Option V} {d : DV} {vs : List (Option V)} {ds : List DV} : RvO g ρ F v d → RvS g ρ F vs ds → RvS g ρ F (v :: vs) (d :: ds)
def MoOk (g : G) (ρ : List Addr) (F H : Hp) (a : Addr) : MO → Prop
  | .lst xs => ∃ vs, H a = some (.lst vs) ∧ RvA g ρ F vs xs
  | .ins C ks xs => ∃ dx fs, H a = some (.ins C dx fs) ∧ fs.map (·.1) = ks ∧ RvA g ρ F (fs.map (·.2)) xs
structure Sat (g : G) (ρ : List Addr) (F H : Hp) (M : Mem) : Prop where
  sub : Sub F H
  nd : ρ.Nodup
  len : ρ.length = M.length
  mo : ∀ (k : Nat) (a : Addr) (mo : MO), ρ[k]? = some a → M[k]? = some (some mo) → F a = none ∧ MoOk g ρ F H a mo
  tab : ∀ P ∈ g.T, GxR.TabG H P ∧ F P = none
  live : ∀ a ∈ ρ, H a ≠ none
def KeepO (o : HO) (x : Option HO) : Prop := match o with
  | .tbl ps => ∃ qs, x = some (.tbl qs) ∧ (TriplesOk ps.toList → TriplesOk qs.toList)
  | o => x = some o
theorem KeepO.refl (o : HO) : KeepO o (some o) := by cases o <;> first | rfl | exact ⟨_, rfl, id⟩
theorem KeepO.some {o : HO} {x : Option HO} (h : KeepO o x) : ∃ u, x = Option.some u := by
  cases o <;> first | exact ⟨_, h⟩ | (obtain ⟨q, e, _⟩ := h; exact ⟨_, e⟩)
theorem KeepO.plain {o : HO} {x : Option HO} (h : KeepO o x) (n : ∀ ps, o ≠ .tbl ps) : x = Option.some o := by
  cases o <;> first | exact h | exact absurd rfl (n _)
structure Step (ρ : List Addr) (F H : Hp) (ρ' : List Addr) (F' H' : Hp) : Prop where
  f : Sub F F'
  r : ∃ τ, ρ' = ρ ++ τ
  keep : ∀ a o, H a = some o → a ∉ ρ → KeepO o (H' a)
  there : ∀ a o, H a = some o → H' a ≠ none
  newF : ∀ a, F' a ≠ none → F a ≠ none ∨ H a = none ∨ a ∈ ρ
  newR : ∀ a ∈ ρ', a ∈ ρ ∨ H a = none
theorem Step.refl (ρ : List Addr) (F H : Hp) : Step ρ F H ρ F H :=
  ⟨Sub.refl F, ⟨[], by simp⟩, fun a o e _ => (by rw [e]; exact KeepO.refl o), fun a o e z => (by rw [e] at z; cases z), fun _ h => .inl h, fun _ h => .inl h⟩
theorem Step.trans {ρ ρ1 ρ2 : List Addr} {F F1 F2 H H1 H2 : Hp} (a : Step ρ F H ρ1 F1 H1) (b : Step ρ1 F1 H1 ρ2 F2 H2) : Step ρ F H ρ2 F2 H2 := by
  have nn : ∀ x, H1 x = none → H x = none := fun x e => by
    cases q : H x with
    | none => rfl
    | some o => exact absurd e (a.there x o q)
  refine ⟨a.f.trans b.f, ?_, fun x o e n => ?_, fun x o e => ?_, fun x h => ?_, fun x h => ?_⟩
  · obtain ⟨t1, e1⟩ := a.r
    obtain ⟨t2, e2⟩ := b.r
    exact ⟨t1 ++ t2, by rw [e2, e1, List.append_assoc]⟩
  · have k1 := a.keep x o e n
    have n1 : x ∉ ρ1 := fun z => by
      rcases a.newR x z with h | h
      · exact n h
      · rw [e] at h; cases h
    obtain ⟨u, hu⟩ := k1.some
    have k2 := b.keep x u hu n1
    cases o <;> first
      | (have z := hu.symm.trans k1; cases z; exact k2)
      | (obtain ⟨qs, e1, t1⟩ := k1
         have z := hu.symm.trans e1
         cases z
         obtain ⟨qs2, e2, t2⟩ := k2
         exact ⟨qs2, e2, fun t => t2 (t1 t)⟩)
  · cases q : H1 x with
    | none => exact absurd q (a.there x o e)
    | some u => exact b.there x u q
  · rcases b.newF x h with h1 | h1 | h1
    · exact a.newF x h1
    · exact .inr (.inl (nn x h1))
    · rcases a.newR x h1 with h2 | h2
      · exact .inr (.inr h2)
      · exact .inr (.inl h2)
  · rcases b.newR x h with h1 | h1
    · exact a.newR x h1
    · exact .inr (nn x h1)
section
variable {g : G} {ρ ρ' : List Addr} {F F' H H' : Hp}
theorem get_pre {α : Type} {l t : List α} {k : Nat} {a : α} (h : l[k]? = some a) : (l ++ t)[k]? = some a := by
  rw [List.getElem?_append_left (List.getElem?_eq_some_iff.mp h).1]; exact h
theorem Rv.mono' {v : V} {d : DV} (f : Sub F F') (r : ∃ τ, ρ' = ρ ++ τ) (h : Rv g ρ F v d) : Rv g ρ' F' v d := by
  cases d with
  | un => trivial
  | d x => exact Dr.mono f h
  | m k =>
    obtain ⟨a, e, hk⟩ := h
    obtain ⟨τ, e2⟩ := r
    exact ⟨a, e, by rw [e2]; exact get_pre hk⟩
  | ro ns =>
    obtain ⟨a, e, hk⟩ := h
    refine ⟨a, e, ?_⟩
    rcases hk with (h | ⟨o, h⟩) | h
    · exact .inl (.inl (f _ _ h))
    · exact .inl (.inr ⟨o, f _ _ h⟩)
    · exact .inr h
theorem RvA.mono' (f : Sub F F') (r : ∃ τ, ρ' = ρ ++ τ) : ∀ {v : List V} {d : List DV}, RvA g ρ F v d → RvA g ρ' F' v d
  | _, _, .nil => .nil
  | _, _, .cons h t => .cons (h.mono' f r) (RvA.mono' f r t)
theorem RvO.mono' (f : Sub F F') (r : ∃ τ, ρ' = ρ ++ τ) {v : Option V} {d : DV} (h : RvO g ρ F v d) : RvO g ρ' F' v d := by
  cases v with
  | none => cases d <;> first | trivial | exact h
  | some v => exact match d, h with
    | .un, _ => trivial
    | .d x, h => Rv.mono' (g := g) (d := .d x) f r h
    | .m k, h => Rv.mono' (g := g) (d := .m k) f r h
    | .ro ns, h => Rv.mono' (g := g) (d := .ro ns) f r h
theorem RvS.mono' (f : Sub F F') (r : ∃ τ, ρ' = ρ ++ τ) : ∀ {v : List (Option V)} {d : List DV}, RvS g ρ F v d → RvS g ρ' F' v d
  | _, _, .nil => .nil
  | _, _, .cons h t => .cons (h.mono' f r) (RvS.mono' f r t)
theorem Rv.mono (st : Step ρ F H ρ' F' H') {v : V} {d : DV} (h : Rv g ρ F v d) : Rv g ρ' F' v d := h.mono' st.f st.r
theorem RvA.mono (st : Step ρ F H ρ' F' H') {v : List V} {d : List DV} (h : RvA g ρ F v d) : RvA g ρ' F' v d := h.mono' st.f st.r
theorem RvS.mono (st : Step ρ F H ρ' F' H') {v : List (Option V)} {d : List DV} (h : RvS g ρ F v d) : RvS g ρ' F' v d := h.mono' st.f st.r
theorem RvA.length : ∀ {v : List V} {d : List DV}, RvA g ρ F v d → v.length = d.length
  | _, _, .nil => rfl
  | _, _, .cons _ t => by simp [RvA.length t]
theorem RvS.length : ∀ {v : List (Option V)} {d : List DV}, RvS g ρ F v d → v.length = d.length
  | _, _, .nil => rfl
  | _, _, .cons _ t => by simp [RvS.length t]
theorem RvA.get : ∀ {v : List V} {d : List DV} {i : Nat} {x : DV}, RvA g ρ F v d → d[i]? = some x → ∃ u, v[i]? = some u ∧ Rv g ρ F u x
  | _, _, i, _, .nil, e => by simp at e
  | _, _, 0, _, .cons h _, e => by simp at e; subst e; exact ⟨_, rfl, h⟩
  | _, _, i + 1, _, .cons _ r, e => by
    obtain ⟨u, e1, e2⟩ := RvA.get (i := i) r (by simpa using e)
    exact ⟨u, by simpa using e1, e2⟩
theorem RvA.app : ∀ {v v' : List V} {d d' : List DV}, RvA g ρ F v d → RvA g ρ F v' d' → RvA g ρ F (v ++ v') (d ++ d')
  | _, _, _, _, .nil, s => s
  | _, _, _, _, .cons h r, s => .cons h (RvA.app r s)
theorem RvA.set : ∀ {vs : List V} {ds : List DV} {v : V} {d : DV} (i : Nat), RvA g ρ F vs ds → Rv g ρ F v d → RvA g ρ F (vs.set i v) (ds.set i d)
  | _, _, _, _, i, .nil, s => .nil
  | _, _, _, _, 0, .cons h r, s => .cons s r
  | _, _, _, _, i + 1, .cons h r, s => .cons h (RvA.set i r s)
theorem RvA.toD : ∀ {vs : List V} {ds : List D}, RvA g ρ F vs (ds.map DV.d) → DrA F vs ds
  | [], [], .nil => .nil
  | _, d :: ds, .cons h r => .cons h (RvA.toD r)
theorem RvA.ofD : ∀ {vs : List V} {ds : List D}, DrA F vs ds → RvA g ρ F vs (ds.map DV.d)
  | _, _, .nil => .nil
  | _, _, .cons h r => .cons h (RvA.ofD r)
theorem RvS.set : ∀ {vs : List (Option V)} {ds : List DV} {v : V} {d : DV} (i : Nat), RvS g ρ F vs ds → Rv g ρ F v d → RvS g ρ F (vs.set i (some v)) (ds.set i d)
  | _, _, _, _, i, .nil, s => .nil
  | _, _, v, d, 0, .cons h r, s => .cons (by cases d <;> first | trivial | exact s) r
  | _, _, _, _, i + 1, .cons h r, s => .cons h (RvS.set i r s)
theorem RvS.clr : ∀ {vs : List (Option V)} {ds : List DV} {o : Option V} (i : Nat), RvS g ρ F vs ds → RvS g ρ F (vs.set i o) (ds.set i .un)
  | _, _, _, i, .nil => .nil
  | _, _, o, 0, .cons h r => .cons (by cases o <;> trivial) r
  | _, _, _, i + 1, .cons h r => .cons h (RvS.clr i r)
theorem RvS.get : ∀ {v : List (Option V)} {d : List DV} {i : Nat} {x : DV}, RvS g ρ F v d → d[i]? = some x → x ≠ .un → ∃ u, v[i]? = some (some u) ∧ Rv g ρ F u x
  | _, _, i, _, .nil, e, _ => by simp at e
  | _, _, 0, _, .cons (v := v) (d := d) h _, e, n => by
    simp at e; subst e
    cases v with
    | none => cases d <;> first | exact absurd rfl n | exact h.elim
    | some v => exact ⟨v, rfl, by cases d <;> first | exact absurd rfl n | exact h⟩
  | _, _, i + 1, _, .cons _ r, e, n => by
    obtain ⟨u, e1, e2⟩ := RvS.get (i := i) r (by simpa using e) n
    exact ⟨u, by simpa using e1, e2⟩
def wipeD (Γ : List DV) : List Nat → List DV
  | [] => Γ
  | v :: vs => (wipeD Γ vs).set v .un
theorem RvS.wipe {σ : List (Option V)} {Γ : List DV} (h : RvS g ρ F σ Γ) : ∀ vs : List Nat, RvS g ρ F (L2.wipe σ vs) (wipeD Γ vs)
  | [] => h
  | v :: vs => (RvS.wipe h vs).clr v
theorem some_of_ne {α : Type} {o : Option α} (h : o ≠ none) : ∃ x, o = some x := by cases o with
  | none => exact absurd rfl h
  | some x => exact ⟨x, rfl⟩
theorem upd_some {H : Hp} {p a : Addr} {o : HO} (h : H a ≠ none) : upd H p o a ≠ none := by
  by_cases e : a = p
  · rw [e, upd_same]; exact fun z => nomatch z
  · rw [upd_ne e]; exact h
variable {M : Mem} {p : Addr} {o : HO}
theorem Sat.fresh (s : Sat g ρ F H M) (hp : H p = none) : F p = none ∧ p ∉ ρ ∧ p ∉ g.T := by
  refine ⟨?_, fun z => s.live p z hp, fun z => ?_⟩
  · cases e : F p with
    | none => rfl
    | some u => rw [s.sub p u e] at hp; cases hp
  · obtain ⟨⟨ps, e, _⟩, _⟩ := s.tab p z
    rw [e] at hp; cases hp
theorem MoOk.keep {mo : MO} {a : Addr} (f : Sub F F') (r : ∃ τ, ρ' = ρ ++ τ) (e : H' a = H a) (h : MoOk g ρ F H a mo) : MoOk g ρ' F' H' a mo := by
  cases mo with
  | lst xs => obtain ⟨vs, h1, h2⟩ := h; exact ⟨vs, e.trans h1, h2.mono' f r⟩
  | ins C ks xs => obtain ⟨dx, fs, h1, h2, h3⟩ := h; exact ⟨dx, fs, e.trans h1, h2, h3.mono' f r⟩
/-- an object of nobody's is laid or changed -/
theorem Sat.aside (s : Sat g ρ F H M) (h1 : F p = none) (h2 : p ∉ ρ) (h3 : p ∉ g.T) : Sat g ρ F (upd H p o) M := by
  refine ⟨fun a u e => ?_, s.nd, s.len, fun k a mo hk hm => ?_, fun P hP => ?_, fun a ha => upd_some (s.live a ha)⟩
  · rw [upd_ne (fun z => by rw [z, h1] at e; cases e)]; exact s.sub a u e
  · have na : a ≠ p := fun z => h2 (z ▸ List.mem_iff_getElem?.mpr ⟨k, hk⟩)
    obtain ⟨f, mk⟩ := s.mo k a mo hk hm
    exact ⟨f, mk.keep (Sub.refl F) ⟨[], by simp⟩ (upd_ne na)⟩
  · have nP : P ≠ p := fun z => h3 (z ▸ hP)
    obtain ⟨⟨ps, e, t⟩, f⟩ := s.tab P hP
    exact ⟨⟨ps, by rw [upd_ne nP]; exact e, t⟩, f⟩
/-- an object of nobody's is frozen -/
theorem Sat.froze (s : Sat g ρ F H M) (h1 : H p = some o) (h2 : p ∉ ρ) (h3 : p ∉ g.T) (h4 : F p = none) : Sat g ρ (upd F p o) H M := by
  refine ⟨fun a u e => ?_, s.nd, s.len, fun k a mo hk hm => ?_, fun P hP => ?_, s.live⟩
  · by_cases z : a = p
    · rw [z, upd_same] at e; cases e; rw [z]; exact h1
    · rw [upd_ne z] at e; exact s.sub a u e
  · have na : a ≠ p := fun z => h2 (z ▸ List.mem_iff_getElem?.mpr ⟨k, hk⟩)
    obtain ⟨f, mk⟩ := s.mo k a mo hk hm
    exact ⟨by rw [upd_ne na]; exact f, mk.keep (Sub.new h4) ⟨[], by simp⟩ rfl⟩
  · have nP : P ≠ p := fun z => h3 (z ▸ hP)
    obtain ⟨t, f⟩ := s.tab P hP
    exact ⟨t, by rw [upd_ne nP]; exact f⟩
theorem Step.aside (hp : H p = none) : Step ρ F H ρ F (upd H p o) := by
  refine ⟨Sub.refl F, ⟨[], by simp⟩, fun a u e _ => ?_, fun a u e => upd_some (by rw [e]; exact fun z => nomatch z), fun a h => .inl h, fun a h => .inl h⟩
  rw [upd_ne (ne_of_none e hp), e]; exact KeepO.refl u
/-- a new frozen object -/
theorem Sat.lay (s : Sat g ρ F H M) (hp : H p = none) : Sat g ρ (upd F p o) (upd H p o) M ∧ Step ρ F H ρ (upd F p o) (upd H p o) := by
  obtain ⟨h1, h2, h3⟩ := s.fresh hp
  refine ⟨(s.aside h1 h2 h3).froze upd_same h2 h3 h1, Sub.new h1, ⟨[], by simp⟩, fun a u e _ => ?_, fun a u e => upd_some (by rw [e]; exact fun z => nomatch z), fun a h => ?_, fun a h => .inl h⟩
  · rw [upd_ne (ne_of_none e hp), e]; exact KeepO.refl u
  · by_cases z : a = p
    · exact .inr (.inl (z ▸ hp))
    · rw [upd_ne z] at h; exact .inl h
theorem get_snoc {α : Type} {l : List α} {x y : α} {k : Nat} (h : (l ++ [x])[k]? = some y) : l[k]? = some y ∨ (k = l.length ∧ y = x) := by
  by_cases hk : k < l.length
  · rw [List.getElem?_append_left hk] at h; exact .inl h
  · rw [List.getElem?_append_right (by omega)] at h
    have : k - l.length = 0 := by
      rcases Nat.lt_or_ge (k - l.length) 1 with q | q
      · omega
      · rw [List.getElem?_eq_none (by simpa using q)] at h; cases h
    rw [this] at h
    exact .inr ⟨by omega, (Option.some.inj h).symm⟩
/-- an object of nobody's becomes a mutable one -/
theorem Sat.own (s : Sat g ρ F H M) {mo : MO} (h1 : H p ≠ none) (h2 : p ∉ ρ) (h4 : F p = none) (hm : MoOk g ρ F H p mo) : Sat g (ρ ++ [p]) F H (M ++ [some mo]) := by
  refine ⟨s.sub, ?_, by simp [s.len], fun k a mo' hk hm' => ?_, s.tab, fun a ha => ?_⟩
  · rw [List.nodup_append]
    exact ⟨s.nd, by simp, fun a ha b hb => fun z => by
      have : b = p := by simpa using hb
      exact h2 (by rw [← this, ← z]; exact ha)⟩
  · have hl := s.len
    rcases get_snoc hk with q | ⟨q, rfl⟩
    · have lt := (List.getElem?_eq_some_iff.mp q).1
      rw [List.getElem?_append_left (by omega)] at hm'
      obtain ⟨f, mk⟩ := s.mo k a mo' q hm'
      exact ⟨f, mk.keep (Sub.refl F) ⟨[p], rfl⟩ rfl⟩
    · rcases get_snoc hm' with q' | ⟨q', e⟩
      · have lt := (List.getElem?_eq_some_iff.mp q').1
        omega
      · have e := Option.some.inj e
        subst e
        exact ⟨h4, hm.keep (Sub.refl F) ⟨_, rfl⟩ rfl⟩
  · rcases List.mem_append.mp ha with q | q
    · exact s.live a q
    · have : a = p := by simpa using q
      rw [this]; exact h1
theorem Step.own {p : Addr} (st : Step ρ F H ρ' F' H') (h : H p = none) : Step ρ F H (ρ' ++ [p]) F' H' := by
  obtain ⟨τ, e⟩ := st.r
  refine ⟨st.f, ⟨τ ++ [p], by rw [e, List.append_assoc]⟩, st.keep, st.there, st.newF, fun a ha => ?_⟩
  rcases List.mem_append.mp ha with q | q
  · exact st.newR a q
  · have : a = p := by simpa using q
    exact .inr (this ▸ h)
/-- an object of nobody's, new since, frozen -/
theorem Step.froze {p : Addr} {o : HO} (st : Step ρ F H ρ' F' H') (h : H p = none) (h4 : F' p = none) : Step ρ F H ρ' (upd F' p o) H' := by
  refine ⟨st.f.trans (Sub.new h4), st.r, st.keep, st.there, fun a ha => ?_, st.newR⟩
  by_cases z : a = p
  · exact .inr (.inl (z ▸ h))
  · rw [upd_ne z] at ha; exact st.newF a ha
/-- .. changed -/
theorem Step.chg {p : Addr} {o : HO} (st : Step ρ F H ρ' F' H') (h : H p = none) : Step ρ F H ρ' F' (upd H' p o) := by
  refine ⟨st.f, st.r, fun a u e n => ?_, fun a u e => ?_, st.newF, st.newR⟩
  · rw [upd_ne (ne_of_none e h)]; exact st.keep a u e n
  · rw [upd_ne (ne_of_none e h)]; exact st.there a u e
/-- the k-th mutable object is changed -/
theorem Sat.chg (s : Sat g ρ F H M) {k : Nat} {a : Addr} {mo mo' : MO} {o : HO} (hk : ρ[k]? = some a) (hm : M[k]? = some (some mo)) (ho : MoOk g ρ F (upd H a o) a mo') :
    Sat g ρ F (upd H a o) (M.set k (some mo')) ∧ Step ρ F H ρ F (upd H a o) := by
  obtain ⟨fa, mk⟩ := s.mo k a mo hk hm
  have ma : a ∈ ρ := List.mem_iff_getElem?.mpr ⟨k, hk⟩
  have nt : ∀ P ∈ g.T, P ≠ a := fun P hP z => by
    obtain ⟨⟨ps, e, _⟩, _⟩ := s.tab P hP
    rw [z] at e
    cases mo with
    | lst xs => obtain ⟨vs, h1, _⟩ := mk; rw [e] at h1; cases h1
    | ins C ks xs => obtain ⟨dx, fs, h1, _⟩ := mk; rw [e] at h1; cases h1
  refine ⟨⟨fun b u e => ?_, s.nd, by simp [s.len], fun j b mo2 hj hm2 => ?_, fun P hP => ?_, fun b hb => upd_some (s.live b hb)⟩, Sub.refl F, ⟨[], by simp⟩, fun b u e n => ?_, fun b u e => upd_some (by rw [e]; exact fun z => nomatch z), fun b h => .inl h, fun b h => .inl h⟩
  · rw [upd_ne (fun z => by rw [z, fa] at e; cases e)]; exact s.sub b u e
  · by_cases z : j = k
    · subst z
      rw [hk] at hj; cases hj
      have lt := (List.getElem?_eq_some_iff.mp hm).1
      rw [List.getElem?_set_self lt] at hm2
      cases hm2
      exact ⟨fa, ho⟩
    · rw [List.getElem?_set_ne (Ne.symm z)] at hm2
      obtain ⟨f, mk2⟩ := s.mo j b mo2 hj hm2
      have nb : b ≠ a := fun q => by
        subst q
        exact z (nd_ix s.nd hj hk)
      exact ⟨f, mk2.keep (Sub.refl F) ⟨[], by simp⟩ (upd_ne nb)⟩
  · obtain ⟨⟨ps, e, t⟩, f⟩ := s.tab P hP
    exact ⟨⟨ps, by rw [upd_ne (nt P hP)]; exact e, t⟩, f⟩
  · rw [upd_ne (fun z => n (by rw [z]; exact ma)), e]; exact KeepO.refl u
/-- the k-th mutable object, a list of data, is frozen -/
theorem Sat.ice (s : Sat g ρ F H M) {k : Nat} {a : Addr} {ds : List D} (hk : ρ[k]? = some a) (hm : M[k]? = some (some (.lst (ds.map DV.d)))) :
    ∃ F', Sat g ρ F' H (M.set k none) ∧ Step ρ F H ρ F' H ∧ Dr F' (.ref a) (.lst ds) := by
  obtain ⟨fa, vs, e, r⟩ := s.mo k a _ hk hm
  have ma : a ∈ ρ := List.mem_iff_getElem?.mpr ⟨k, hk⟩
  have sb : Sub F (upd F a (.lst vs)) := Sub.new fa
  refine ⟨upd F a (.lst vs), ⟨fun b u e2 => ?_, s.nd, by simp [s.len], fun j b mo2 hj hm2 => ?_, fun P hP => ?_, s.live⟩, ⟨sb, ⟨[], by simp⟩, fun b u e2 n => ?_, fun b u e2 z => ?_, fun b h => ?_, fun b h => .inl h⟩, .lst upd_same (r.toD.mono sb)⟩
  · by_cases z : b = a
    · rw [z, upd_same] at e2; cases e2; rw [z]; exact e
    · rw [upd_ne z] at e2; exact s.sub b u e2
  · by_cases z : j = k
    · subst z
      have lt := (List.getElem?_eq_some_iff.mp hm).1
      rw [List.getElem?_set_self lt] at hm2
      cases hm2
    · rw [List.getElem?_set_ne (Ne.symm z)] at hm2
      obtain ⟨f, mk2⟩ := s.mo j b mo2 hj hm2
      have nb : b ≠ a := fun q => by
        subst q
        exact z (nd_ix s.nd hj hk)
      exact ⟨by rw [upd_ne nb]; exact f, mk2.keep sb ⟨[], by simp⟩ rfl⟩
  · obtain ⟨⟨ps, e3, t⟩, f⟩ := s.tab P hP
    exact ⟨⟨ps, e3, t⟩, by rw [upd_ne (fun z => by rw [z, e] at e3; cases e3)]; exact f⟩
  · rw [e2]; exact KeepO.refl u
  · rw [e2] at z; cases z
  · by_cases z : b = a
    · exact .inr (.inr (z ▸ ma))
    · rw [upd_ne z] at h; exact .inl h
end
end DL
set_option maxRecDepth 100000
set_option maxHeartbeats 4000000
/-! DL2: the judgements and their rules -/
namespace DL
open PySem PySem.Spec PyProof.Rows L2

structure DX where
  W : WX
  ex : D → List DV → Mem → Prop
/-- nothing is raised -/
def DX.no : DX := ⟨fun _ _ _ _ => False, fun _ _ _ => False⟩

def XhE (g : G) (Z : DX) (ρ : List Addr) (F H : Hp) (σ : SS) (Γ : List DV) : Prop :=
  ∀ (d : Addr) (v : V) (x : D) (ρ' : List Addr) (F' H' : Hp) (M' : Mem), Sat g ρ' F' H' M' → Step ρ F H ρ' F' H' → H' d = some (.xd [("reason", v)]) → Dr F' v x → Z.ex x Γ M' → Z.W (.ref g.C) (some d) σ H'
def XhS (g : G) (Z : DX) (ρ : List Addr) (F H : Hp) : Prop :=
  ∀ (d : Addr) (v : V) (x : D) (ρ' : List Addr) (F' H' : Hp) (σ' : SS) (Γ' : List DV) (M' : Mem), Sat g ρ' F' H' M' → Step ρ F H ρ' F' H' → RvS g ρ' F' σ' Γ' → H' d = some (.xd [("reason", v)]) → Dr F' v x → Z.ex x Γ' M' → Z.W (.ref g.C) (some d) σ' H'
section
variable {g : G} {Z : DX} {ρ ρ' : List Addr} {F F' H H' : Hp} {σ : SS} {Γ : List DV} {M : Mem}
theorem XhE.mono (h : XhE g Z ρ F H σ Γ) (st : Step ρ F H ρ' F' H') : XhE g Z ρ' F' H' σ Γ := fun d v x ρ2 F2 H2 M2 s2 st2 e r z => h d v x ρ2 F2 H2 M2 s2 (st.trans st2) e r z
theorem XhS.mono (h : XhS g Z ρ F H) (st : Step ρ F H ρ' F' H') : XhS g Z ρ' F' H' := fun d v x ρ2 F2 H2 σ2 G2 M2 s2 st2 rs e r z => h d v x ρ2 F2 H2 σ2 G2 M2 s2 (st.trans st2) rs e r z
theorem XhS.e (h : XhS g Z ρ F H) (r : RvS g ρ F σ Γ) : XhE g Z ρ F H σ Γ := fun d v x ρ2 F2 H2 M2 s2 st2 e rr z => h d v x ρ2 F2 H2 σ Γ M2 s2 st2 (r.mono st2) e rr z
end

/-- an expression -/
def XE (g : G) (Z : DX) (te : TE) (Γ : List DV) (M : Mem) (R : DV → Mem → Prop) : Prop :=
  ∀ (ρ : List Addr) (F H : Hp) (σ : SS) (Q : VK), Sat g ρ F H M → RvS g ρ F σ Γ → XhE g Z ρ F H σ Γ →
    (∀ (v : V) (dv : DV) (ρ' : List Addr) (F' H' : Hp) (M' : Mem), Sat g ρ' F' H' M' → Step ρ F H ρ' F' H' → Rv g ρ' F' v dv → R dv M' → Q v H') → te σ H Q
/-- a test -/
def XT (g : G) (Z : DX) (tt : TT) (Γ : List DV) (M : Mem) (R : Bool → Mem → Prop) : Prop :=
  ∀ (ρ : List Addr) (F H : Hp) (σ : SS) (Q : Bool → Hp → Prop), Sat g ρ F H M → RvS g ρ F σ Γ → XhE g Z ρ F H σ Γ →
    (∀ (b : Bool) (ρ' : List Addr) (F' H' : Hp) (M' : Mem), Sat g ρ' F' H' M' → Step ρ F H ρ' F' H' → R b M' → Q b H') → tt σ H Q
/-- arguments -/
def XA (g : G) (Z : DX) (ta : TA) (Γ : List DV) (M : Mem) (R : List DV → Mem → Prop) : Prop :=
  ∀ (ρ : List Addr) (F H : Hp) (σ : SS) (Q : List V → Hp → Prop), Sat g ρ F H M → RvS g ρ F σ Γ → XhE g Z ρ F H σ Γ →
    (∀ (vs : List V) (ds : List DV) (ρ' : List Addr) (F' H' : Hp) (M' : Mem), Sat g ρ' F' H' M' → Step ρ F H ρ' F' H' → RvA g ρ' F' vs ds → R ds M' → Q vs H') → ta σ H Q
/-- a part of a slice -/
def XO (g : G) (Z : DX) (to : TO) (Γ : List DV) (M : Mem) (R : Option Int → Mem → Prop) : Prop :=
  ∀ (ρ : List Addr) (F H : Hp) (σ : SS) (Q : Option Int → Hp → Prop), Sat g ρ F H M → RvS g ρ F σ Γ → XhE g Z ρ F H σ Γ →
    (∀ (o : Option Int) (ρ' : List Addr) (F' H' : Hp) (M' : Mem), Sat g ρ' F' H' M' → Step ρ F H ρ' F' H' → R o M' → Q o H') → to σ H Q
/-- operations by values -/
def X2 (g : G) (r : R2) (a b : DV) (M : Mem) (R : DV → Mem → Prop) : Prop :=
  ∀ (ρ : List Addr) (F H : Hp) (x y : V) (Q : VK), Sat g ρ F H M → Rv g ρ F x a → Rv g ρ F y b →
    (∀ (v : V) (dv : DV) (ρ' : List Addr) (F' H' : Hp) (M' : Mem), Sat g ρ' F' H' M' → Step ρ F H ρ' F' H' → Rv g ρ' F' v dv → R dv M' → Q v H') → r x y H Q
def X1 (g : G) (r : V → Hp → VK → Prop) (a : DV) (M : Mem) (R : DV → Mem → Prop) : Prop :=
  ∀ (ρ : List Addr) (F H : Hp) (x : V) (Q : VK), Sat g ρ F H M → Rv g ρ F x a →
    (∀ (v : V) (dv : DV) (ρ' : List Addr) (F' H' : Hp) (M' : Mem), Sat g ρ' F' H' M' → Step ρ F H ρ' F' H' → Rv g ρ' F' v dv → R dv M' → Q v H') → r x H Q
def XN (g : G) (r : List V → Hp → VK → Prop) (as : List DV) (M : Mem) (R : DV → Mem → Prop) : Prop :=
  ∀ (ρ : List Addr) (F H : Hp) (xs : List V) (Q : VK), Sat g ρ F H M → RvA g ρ F xs as →
    (∀ (v : V) (dv : DV) (ρ' : List Addr) (F' H' : Hp) (M' : Mem), Sat g ρ' F' H' M' → Step ρ F H ρ' F' H' → Rv g ρ' F' v dv → R dv M' → Q v H') → r xs H Q
def XM (g : G) (r : V → List V → Hp → VK → Prop) (a : DV) (as : List DV) (M : Mem) (R : DV → Mem → Prop) : Prop :=
  ∀ (ρ : List Addr) (F H : Hp) (x : V) (xs : List V) (Q : VK), Sat g ρ F H M → Rv g ρ F x a → RvA g ρ F xs as →
    (∀ (v : V) (dv : DV) (ρ' : List Addr) (F' H' : Hp) (M' : Mem), Sat g ρ' F' H' M' → Step ρ F H ρ' F' H' → Rv g ρ' F' v dv → R dv M' → Q v H') → r x xs H Q
def XSl (g : G) (r : V → Option Int → Option Int → Hp → VK → Prop) (a : DV) (lo hi : Option Int) (M : Mem) (R : DV → Mem → Prop) : Prop :=
  ∀ (ρ : List Addr) (F H : Hp) (x : V) (Q : VK), Sat g ρ F H M → Rv g ρ F x a →
    (∀ (v : V) (dv : DV) (ρ' : List Addr) (F' H' : Hp) (M' : Mem), Sat g ρ' F' H' M' → Step ρ F H ρ' F' H' → Rv g ρ' F' v dv → R dv M' → Q v H') → r x lo hi H Q
structure DEnds where
  nx : List DV → Mem → Prop
  rt : DV → Mem → Prop
  bk : List DV → Mem → Prop := fun _ _ => False
  ct : List DV → Mem → Prop := fun _ _ => False
def XK1 (g : G) (ρ : List Addr) (F H : Hp) (N : List DV → Mem → Prop) (Q : SS → Hp → Prop) : Prop :=
  ∀ (σ' : SS) (Γ' : List DV) (ρ' : List Addr) (F' H' : Hp) (M' : Mem), Sat g ρ' F' H' M' → Step ρ F H ρ' F' H' → RvS g ρ' F' σ' Γ' → N Γ' M' → Q σ' H'
def XK2 (g : G) (ρ : List Addr) (F H : Hp) (R : DV → Mem → Prop) (Q : VK) : Prop :=
  ∀ (v : V) (dv : DV) (ρ' : List Addr) (F' H' : Hp) (M' : Mem), Sat g ρ' F' H' M' → Step ρ F H ρ' F' H' → Rv g ρ' F' v dv → R dv M' → Q v H'
section
variable {g : G} {Z : DX} {ρ ρ' : List Addr} {F F' H H' : Hp}
theorem XK1.mono {N : List DV → Mem → Prop} {Q : SS → Hp → Prop} (h : XK1 g ρ F H N Q) (st : Step ρ F H ρ' F' H') : XK1 g ρ' F' H' N Q :=
  fun σ2 G2 ρ2 F2 H2 M2 s2 st2 r n => h σ2 G2 ρ2 F2 H2 M2 s2 (st.trans st2) r n
theorem XK2.mono {R : DV → Mem → Prop} {Q : VK} (h : XK2 g ρ F H R Q) (st : Step ρ F H ρ' F' H') : XK2 g ρ' F' H' R Q :=
  fun v dv ρ2 F2 H2 M2 s2 st2 r n => h v dv ρ2 F2 H2 M2 s2 (st.trans st2) r n
end
/-- a statement -/
structure XDk (g : G) (Z : DX) (ρ : List Addr) (F H : Hp) (E : DEnds) (D : L2.Ends) : Prop where
  nx : XK1 g ρ F H E.nx D.nx
  rt : XK2 g ρ F H E.rt D.rt
  bk : XK1 g ρ F H E.bk D.bk
  ct : XK1 g ρ F H E.ct D.ct
  ex : XhS g Z ρ F H
def XS (g : G) (Z : DX) (t : TS) (Γ : List DV) (M : Mem) (E : DEnds) : Prop :=
  ∀ (ρ : List Addr) (F H : Hp) (σ : SS) (D : L2.Ends), Sat g ρ F H M → RvS g ρ F σ Γ → XDk g Z ρ F H E D → t D σ H
/-- a target -/
def XG (g : G) (t : TG) (dv : DV) (Γ : List DV) (M : Mem) (N : List DV → Mem → Prop) : Prop :=
  ∀ (ρ : List Addr) (F H : Hp) (σ : SS) (v : V) (Q : SS → Hp → Prop), Sat g ρ F H M → RvS g ρ F σ Γ → Rv g ρ F v dv → XK1 g ρ F H N Q → t v σ H Q
/-- what is walked: its items -/
structure ItOk (g : G) (F : Hp) (J : It) (n : Nat) (dvs : Nat → DV → Prop) : Prop where
  go : ∀ (ρ : List Addr) (F1 H : Hp) (M : Mem), Sat g ρ F1 H M → Sub F F1 → ∀ i, i < n → J.go i H
  stop : ∀ (ρ : List Addr) (F1 H : Hp) (M : Mem), Sat g ρ F1 H M → Sub F F1 → J.stop n H
  yld : ∀ (ρ : List Addr) (F1 H : Hp) (M : Mem), Sat g ρ F1 H M → Sub F F1 → ∀ i x H', i < n → J.yld i H x H' → ∃ F' dv, Sat g ρ F' H' M ∧ Step ρ F1 H ρ F' H' ∧ Rv g ρ F' x dv ∧ dvs i dv
def XI (g : G) (Z : DX) (wi : TI) (Γ : List DV) (M : Mem) (R : List DV → Mem → Prop) : Prop :=
  ∀ (ρ : List Addr) (F H : Hp) (σ : SS) (Q : It → Hp → Prop), Sat g ρ F H M → RvS g ρ F σ Γ → XhE g Z ρ F H σ Γ →
    (∀ (J : It) (ds : List DV) (ρ' : List Addr) (F' H' : Hp) (M' : Mem), Sat g ρ' F' H' M' → Step ρ F H ρ' F' H' → ItOk g F' J ds.length (fun i d => ds[i]? = some d) → R ds M' → Q J H') → wi σ H Q
section
variable {g : G} {Z : DX} {Γ : List DV} {M : Mem} {R : DV → Mem → Prop} {ta tb tc te : TE} {t u : TT} {E : DEnds}

/-! ### expressions -/
theorem xe_var {i : Nat} {dv : DV} (h : Γ[i]? = some dv) (n : dv ≠ .un) (k : R dv M) : XE g Z (tVar i) Γ M R := fun ρ F H σ Q s r _ q => by
  obtain ⟨v, e, rv⟩ := r.get h n
  exact ⟨v, e, q v dv ρ F H M s (Step.refl ..) rv k⟩
theorem xe_ci {i : Int} (k : R (.d (.int i)) M) : XE g Z (tC (.int i)) Γ M R := fun ρ F H σ Q s r _ q => q _ (.d (.int i)) ρ F H M s (Step.refl ..) (Dr.int i) k
theorem xe_cb {i : Bool} (k : R (.d (.bl i)) M) : XE g Z (tC (.bl i)) Γ M R := fun ρ F H σ Q s r _ q => q _ (.d (.bl i)) ρ F H M s (Step.refl ..) (Dr.bl i) k
theorem xe_cn (k : R (.d .non) M) : XE g Z (tC .non) Γ M R := fun ρ F H σ Q s r _ q => q _ (.d .non) ρ F H M s (Step.refl ..) Dr.non k
theorem xe_cs {x : Str} (k : R (.d (.str x.cps.toList)) M) : XE g Z (tC (.str x)) Γ M R := fun ρ F H σ Q s r _ q => q _ (.d (.str x.cps.toList)) ρ F H M s (Step.refl ..) (by
  show Dr F (.str x) (.str x.cps.toList)
  have h := Dr.str (F := F) x.cps.toList
  rw [sOf_toList] at h
  exact h) k
theorem xe_op {r : R2} (h : XE g Z ta Γ M fun a M1 => XE g Z tb Γ M1 fun b M2 => X2 g r a b M2 R) : XE g Z (tOp r ta tb) Γ M R := fun ρ F H σ Q s rs kx q => by
  refine h ρ F H σ _ s rs kx fun x a ρ1 F1 H1 M1 s1 st1 rx h1 => ?_
  refine h1 ρ1 F1 H1 σ _ s1 (rs.mono st1) (kx.mono st1) fun y b ρ2 F2 H2 M2 s2 st2 ry h2 => ?_
  exact h2 ρ2 F2 H2 x y Q s2 (rx.mono st2) ry fun v dv ρ3 F3 H3 M3 s3 st3 rv k => q v dv ρ3 F3 H3 M3 s3 ((st1.trans st2).trans st3) rv k
theorem xe_un {r : V → Hp → VK → Prop} (h : XE g Z ta Γ M fun a M1 => X1 g r a M1 R) : XE g Z (tUn r ta) Γ M R := fun ρ F H σ Q s rs kx q => by
  refine h ρ F H σ _ s rs kx fun x a ρ1 F1 H1 M1 s1 st1 rx h1 => ?_
  exact h1 ρ1 F1 H1 x Q s1 rx fun v dv ρ3 F3 H3 M3 s3 st3 rv k => q v dv ρ3 F3 H3 M3 s3 (st1.trans st3) rv k
theorem xe_if (h : XT g Z t Γ M fun b M1 => if b = true then XE g Z ta Γ M1 R else XE g Z tb Γ M1 R) : XE g Z (tIf t ta tb) Γ M R := fun ρ F H σ Q s rs kx q => by
  refine h ρ F H σ _ s rs kx fun b ρ1 F1 H1 M1 s1 st1 h1 => ?_
  have q1 := fun v dv ρ3 F3 H3 M3 s3 st3 rv k => q v dv ρ3 F3 H3 M3 s3 (st1.trans st3) rv k
  cases b with
  | true => exact h1 ρ1 F1 H1 σ Q s1 (rs.mono st1) (kx.mono st1) q1
  | false => exact h1 ρ1 F1 H1 σ Q s1 (rs.mono st1) (kx.mono st1) q1
theorem xe_andV (h : XE g Z ta Γ M fun a M1 => ∃ c, a = .d (.bl c) ∧ if c = true then XE g Z tb Γ M1 R else R (.d (.bl false)) M1) : XE g Z (tAndV ta tb) Γ M R := fun ρ F H σ Q s rs kx q => by
  refine h ρ F H σ _ s rs kx fun x a ρ1 F1 H1 M1 s1 st1 rx h1 => ?_
  obtain ⟨c, rfl, h1⟩ := h1
  cases rx
  refine ⟨c, rfl, ?_⟩
  cases c with
  | true => exact h1 ρ1 F1 H1 σ Q s1 (rs.mono st1) (kx.mono st1) fun v dv ρ3 F3 H3 M3 s3 st3 rv k => q v dv ρ3 F3 H3 M3 s3 (st1.trans st3) rv k
  | false => exact q _ (.d (.bl false)) _ _ _ _ s1 st1 (Dr.bl false) h1
theorem xe_orV (h : XE g Z ta Γ M fun a M1 => ∃ c, a = .d (.bl c) ∧ if c = true then R (.d (.bl true)) M1 else XE g Z tb Γ M1 R) : XE g Z (tOrV ta tb) Γ M R := fun ρ F H σ Q s rs kx q => by
  refine h ρ F H σ _ s rs kx fun x a ρ1 F1 H1 M1 s1 st1 rx h1 => ?_
  obtain ⟨c, rfl, h1⟩ := h1
  cases rx
  refine ⟨c, rfl, ?_⟩
  cases c with
  | false => exact h1 ρ1 F1 H1 σ Q s1 (rs.mono st1) (kx.mono st1) fun v dv ρ3 F3 H3 M3 s3 st3 rv k => q v dv ρ3 F3 H3 M3 s3 (st1.trans st3) rv k
  | true => exact q _ (.d (.bl true)) _ _ _ _ s1 st1 (Dr.bl true) h1
theorem xe_notV (h : XE g Z ta Γ M fun a M1 => ∃ c, a = .d (.bl c) ∧ R (.d (.bl (!c))) M1) : XE g Z (tNotV ta) Γ M R := fun ρ F H σ Q s rs kx q => by
  refine h ρ F H σ _ s rs kx fun x a ρ1 F1 H1 M1 s1 st1 rx h1 => ?_
  obtain ⟨c, rfl, h1⟩ := h1
  cases rx
  exact ⟨c, rfl, q _ (.d (.bl (!c))) _ _ _ _ s1 st1 (Dr.bl _) h1⟩
theorem xe_chain {r r' : R2} (h : XE g Z ta Γ M fun a M1 => XE g Z tb Γ M1 fun b M2 => X2 g r a b M2 fun z M3 => ∃ k, z = .d (.bl k) ∧ if k = true then XE g Z tc Γ M3 fun c M4 => X2 g r' b c M4 R else R (.d (.bl false)) M3) : XE g Z (tChain r r' ta tb tc) Γ M R := fun ρ F H σ Q s rs kx q => by
  refine h ρ F H σ _ s rs kx fun x a ρ1 F1 H1 M1 s1 st1 rx h1 => ?_
  refine h1 ρ1 F1 H1 σ _ s1 (rs.mono st1) (kx.mono st1) fun y b ρ2 F2 H2 M2 s2 st2 ry h2 => ?_
  refine h2 ρ2 F2 H2 x y _ s2 (rx.mono st2) ry fun z dz ρ3 F3 H3 M3 s3 st3 rz h3 => ?_
  obtain ⟨k, rfl, h3⟩ := h3
  cases rz
  have st13 := (st1.trans st2).trans st3
  refine ⟨k, rfl, ?_⟩
  cases k with
  | true =>
    refine h3 ρ3 F3 H3 σ _ s3 (rs.mono st13) (kx.mono st13) fun w c ρ4 F4 H4 M4 s4 st4 rw h4 => ?_
    exact h4 ρ4 F4 H4 y w Q s4 ((ry.mono st3).mono st4) rw fun v dv ρ5 F5 H5 M5 s5 st5 rv k => q v dv ρ5 F5 H5 M5 s5 ((st13.trans st4).trans st5) rv k
  | false => exact q _ (.d (.bl false)) _ _ _ _ s3 st13 (Dr.bl false) h3
theorem xe_tup {ta : TA} (h : XA g Z ta Γ M fun ds M1 => ∃ xs, ds = xs.map DV.d ∧ xs.length ≤ 100000 ∧ R (.d (.tup xs)) M1) : XE g Z (tTup ta) Γ M R := fun ρ F H σ Q s rs kx q => by
  refine h ρ F H σ _ s rs kx fun vs ds ρ1 F1 H1 M1 s1 st1 rx h1 => ?_
  obtain ⟨xs, rfl, hl, k⟩ := h1
  have rd := rx.toD
  have hlen := rd.length
  refine ⟨Nat.le_trans (by omega) (by decide : 100000 ≤ sizeLine), fun p hp => ?_⟩
  obtain ⟨s2, st2⟩ := s1.lay (o := .tup vs) hp
  exact q _ (.d (.tup xs)) _ _ _ _ s2 (st1.trans st2) (.tup upd_same (rd.mono st2.f)) k
end
end DL
set_option maxRecDepth 100000
set_option maxHeartbeats 4000000
/-! DL3: displays, tests, arguments, statements, loops, comprehensions, calls -/
namespace DL
open PySem PySem.Spec PyProof.Rows L2
section
variable {g : G} {Z : DX} {Γ : List DV} {M : Mem} {R : DV → Mem → Prop} {ta tb tc te : TE} {t u : TT} {E : DEnds} {s1' s2' : TS}

theorem xa_nil {R : List DV → Mem → Prop} (k : R [] M) : XA g Z tNil Γ M R := fun ρ F H σ Q s rs kx q => q [] [] ρ F H M s (Step.refl ..) .nil k
theorem xa_cons {ts : TA} {R : List DV → Mem → Prop} (h : XE g Z te Γ M fun a M1 => XA g Z ts Γ M1 fun as M2 => R (a :: as) M2) : XA g Z (tCons te ts) Γ M R := fun ρ F H σ Q s rs kx q => by
  refine h ρ F H σ _ s rs kx fun x a ρ1 F1 H1 M1 s1 st1 rx h1 => ?_
  refine h1 ρ1 F1 H1 σ _ s1 (rs.mono st1) (kx.mono st1) fun xs as ρ2 F2 H2 M2 s2 st2 rxs k => ?_
  exact q (x :: xs) (a :: as) ρ2 F2 H2 M2 s2 (st1.trans st2) (.cons (rx.mono st2) rxs) k
theorem xe_lstF {ta : TA} (h : XA g Z ta Γ M fun ds M1 => ∃ xs, ds = xs.map DV.d ∧ xs.length ≤ 100000 ∧ R (.d (.lst xs)) M1) : XE g Z (tLst ta) Γ M R := fun ρ F H σ Q s rs kx q => by
  refine h ρ F H σ _ s rs kx fun vs ds ρ1 F1 H1 M1 s1 st1 rx h1 => ?_
  obtain ⟨xs, rfl, hl, k⟩ := h1
  have rd := rx.toD
  have hlen := rd.length
  refine ⟨Nat.le_trans (by omega) (by decide : 100000 ≤ sizeLine), fun p hp => ?_⟩
  obtain ⟨s2, st2⟩ := s1.lay (o := .lst vs) hp
  exact q _ (.d (.lst xs)) _ _ _ _ s2 (st1.trans st2) (.lst upd_same (rd.mono st2.f)) k
theorem xe_lstM {ta : TA} (h : XA g Z ta Γ M fun ds M1 => ds.length ≤ 100000 ∧ R (.m M1.length) (M1 ++ [some (.lst ds)])) : XE g Z (tLst ta) Γ M R := fun ρ F H σ Q s rs kx q => by
  refine h ρ F H σ _ s rs kx fun vs ds ρ1 F1 H1 M1 s1 st1 rx h1 => ?_
  obtain ⟨hl, k⟩ := h1
  have hlen := rx.length
  refine ⟨Nat.le_trans (by omega) (by decide : 100000 ≤ sizeLine), fun p hp => ?_⟩
  obtain ⟨f1, f2, f3⟩ := s1.fresh hp
  have s2 := (s1.aside (o := .lst vs) f1 f2 f3).own (mo := .lst ds) (by rw [upd_same]; exact fun z => nomatch z) f2 f1 ⟨vs, upd_same, rx⟩
  have st2 : Step ρ1 F1 H1 (ρ1 ++ [p]) F1 (upd H1 p (.lst vs)) := (Step.aside hp).own hp
  refine q _ (.m M1.length) _ _ _ _ s2 (st1.trans st2) ⟨p, rfl, ?_⟩ k
  rw [← s1.len, List.getElem?_append_right (Nat.le_refl _), Nat.sub_self]
  rfl
/-! ### tests -/
theorem xt_test {R : Bool → Mem → Prop} (h : XE g Z te Γ M fun a M1 => ∃ k, a = .d (.bl k) ∧ R k M1) : XT g Z (tTest te) Γ M R := fun ρ F H σ Q s rs kx q => by
  refine h ρ F H σ _ s rs kx fun x a ρ1 F1 H1 M1 s1 st1 rx h1 => ?_
  obtain ⟨c, rfl, h1⟩ := h1
  cases rx
  exact ⟨c, rfl, q c _ _ _ _ s1 st1 h1⟩
theorem xt_B {R : Bool → Mem → Prop} (h : XE g Z te Γ M fun a M1 => ∃ k, a = .d (.bl k) ∧ R k M1) : XT g Z (tB te) Γ M R := fun ρ F H σ Q s rs kx q => by
  refine h ρ F H σ _ s rs kx fun x a ρ1 F1 H1 M1 s1 st1 rx h1 => ?_
  obtain ⟨c, rfl, h1⟩ := h1
  cases rx
  exact ⟨c, rfl, q c _ _ _ _ s1 st1 h1⟩
theorem xt_and {R : Bool → Mem → Prop} (h : XT g Z t Γ M fun b M1 => if b = true then XT g Z u Γ M1 R else R false M1) : XT g Z (tAnd t u) Γ M R := fun ρ F H σ Q s rs kx q => by
  refine h ρ F H σ _ s rs kx fun b ρ1 F1 H1 M1 s1 st1 h1 => ?_
  cases b with
  | true => exact h1 ρ1 F1 H1 σ Q s1 (rs.mono st1) (kx.mono st1) fun b ρ3 F3 H3 M3 s3 st3 k => q b ρ3 F3 H3 M3 s3 (st1.trans st3) k
  | false => exact q _ _ _ _ _ s1 st1 h1
theorem xt_or {R : Bool → Mem → Prop} (h : XT g Z t Γ M fun b M1 => if b = true then R true M1 else XT g Z u Γ M1 R) : XT g Z (tOr t u) Γ M R := fun ρ F H σ Q s rs kx q => by
  refine h ρ F H σ _ s rs kx fun b ρ1 F1 H1 M1 s1 st1 h1 => ?_
  cases b with
  | false => exact h1 ρ1 F1 H1 σ Q s1 (rs.mono st1) (kx.mono st1) fun b ρ3 F3 H3 M3 s3 st3 k => q b ρ3 F3 H3 M3 s3 (st1.trans st3) k
  | true => exact q _ _ _ _ _ s1 st1 h1
theorem xt_not {R : Bool → Mem → Prop} (h : XT g Z t Γ M fun b M1 => R (!b) M1) : XT g Z (tNot t) Γ M R := fun ρ F H σ Q s rs kx q => by
  refine h ρ F H σ _ s rs kx fun b ρ1 F1 H1 M1 s1 st1 h1 => ?_
  exact q _ _ _ _ _ s1 st1 h1
theorem xt_yes {R : Bool → Mem → Prop} (k : R true M) : XT g Z tYes Γ M R := fun ρ F H σ Q s rs kx q => q true ρ F H M s (Step.refl ..) k
/-- what is true -/
def truD : D → Option Bool
  | .non => some false
  | .bl b => some b
  | .int i => some (i != 0)
  | .str x => some (!x.isEmpty)
  | .lst xs => some (!xs.isEmpty)
  | .tup xs => some (!xs.isEmpty)
  | .obj _ _ _ => none
theorem tru_len {x : List Nat} : (((sOf x).length : Int) != 0) = !x.isEmpty := by
  rw [sOf_len]
  cases x with
  | nil => rfl
  | cons a r => simp [bne]; omega
def tTruK (K : PySem.W.Frag) (ta : TE) : TT := fun σ H Q => ta σ H fun x H' => ∃ k, TruV K x H' k ∧ Q k H'
theorem pt_tru {X : Cx} {a : Expr} {ta : TE} (ha : PE X a ta) (he : ∀ whole, isTrue a X.env whole = (do let v ← whole; standAt a.pos; holding [v] (truthy v)) := by intro _; rfl) : PT X a (tTruK X.K ta) := pt_truth ha he
theorem xt_tru {K : PySem.W.Frag} {R : Bool → Mem → Prop} (hK : K = g.K) (h : XE g Z te Γ M fun a M1 => ∃ x b, a = .d x ∧ truD x = some b ∧ (∀ z, x = .str z → z.length ≤ 100000) ∧ R b M1) : XT g Z (tTruK K te) Γ M R := fun ρ F H σ Q s rs kx q => by
  subst hK
  refine h ρ F H σ _ s rs kx fun x a ρ1 F1 H1 M1 s1 st1 rx h1 => ?_
  obtain ⟨y, b, rfl, hb, hz, h1⟩ := h1
  refine ⟨b, ?_, q b _ _ _ _ s1 st1 h1⟩
  cases rx with
  | non => cases hb; rfl
  | bl c => cases hb; rfl
  | int i => cases hb; rfl
  | str z =>
    cases hb
    exact ⟨by rw [sOf_len]; exact Nat.le_trans (hz z rfl) (by decide), tru_len.symm⟩
  | lst e r =>
    cases hb
    refine .inl ⟨_, SqL.of (s1.sub _ _ e), ?_⟩
    cases r <;> rfl
  | tup e r =>
    cases hb
    refine .inr (.inl ⟨_, SqT.of (s1.sub _ _ e), ?_⟩)
    cases r <;> rfl
  | obj e r => cases hb
/-! ### statements -/
variable {D' : L2.Ends}
theorem XDk.mono {ρ ρ' : List Addr} {F F' H H' : Hp} {D : L2.Ends} (h : XDk g Z ρ F H E D) (st : Step ρ F H ρ' F' H') : XDk g Z ρ' F' H' E D := ⟨h.nx.mono st, h.rt.mono st, h.bk.mono st, h.ct.mono st, h.ex.mono st⟩
theorem xs_next (k : E.nx Γ M) : XS g Z tNext Γ M E := fun ρ F H σ D s rs d => d.nx σ Γ ρ F H M s (Step.refl ..) rs k
theorem xs_seq {a b : TS} (h : XS g Z a Γ M { E with nx := fun Γ' M' => XS g Z b Γ' M' E }) : XS g Z (tSeq a b) Γ M E := fun ρ F H σ D s rs d => by
  refine h ρ F H σ _ s rs ⟨fun σ' Γ' ρ' F' H' M' s' st' rs' k => ?_, d.rt, d.bk, d.ct, d.ex⟩
  exact k ρ' F' H' σ' D s' rs' (d.mono st')
theorem xs_ret (h : XE g Z te Γ M E.rt) : XS g Z (tRet te) Γ M E := fun ρ F H σ D s rs d => h ρ F H σ _ s rs (d.ex.e rs) d.rt
theorem xs_retN (k : E.rt (.d .non) M) : XS g Z tRetN Γ M E := fun ρ F H σ D s rs d => d.rt .non (.d .non) ρ F H M s (Step.refl ..) Dr.non k
theorem xs_drop (h : XE g Z te Γ M fun _ M1 => E.nx Γ M1) : XS g Z (tDrop te) Γ M E := fun ρ F H σ D s rs d => h ρ F H σ _ s rs (d.ex.e rs) fun v dv ρ1 F1 H1 M1 s1 st1 _ k => d.nx σ Γ ρ1 F1 H1 M1 s1 st1 (rs.mono st1) k
theorem xs_brk (k : E.bk Γ M) : XS g Z tBreak Γ M E := fun ρ F H σ D s rs d => d.bk σ Γ ρ F H M s (Step.refl ..) rs k
theorem xs_cont (k : E.ct Γ M) : XS g Z tCont Γ M E := fun ρ F H σ D s rs d => d.ct σ Γ ρ F H M s (Step.refl ..) rs k
theorem xs_if {a b : TS} (h : XT g Z t Γ M fun c M1 => if c = true then XS g Z a Γ M1 E else XS g Z b Γ M1 E) : XS g Z (tIfS t a b) Γ M E := fun ρ F H σ D s rs d => by
  refine h ρ F H σ _ s rs (d.ex.e rs) fun c ρ1 F1 H1 M1 s1 st1 h1 => ?_
  cases c with
  | true => exact h1 ρ1 F1 H1 σ D s1 (rs.mono st1) (d.mono st1)
  | false => exact h1 ρ1 F1 H1 σ D s1 (rs.mono st1) (d.mono st1)
theorem xs_asg {tg : TG} (h : XE g Z te Γ M fun a M1 => XG g tg a Γ M1 E.nx) : XS g Z (tAsg te tg) Γ M E := fun ρ F H σ D s rs d => by
  refine h ρ F H σ _ s rs (d.ex.e rs) fun v a ρ1 F1 H1 M1 s1 st1 rv h1 => ?_
  exact h1 ρ1 F1 H1 σ v _ s1 (rs.mono st1) rv (d.nx.mono st1)
theorem xs_weak {t : TS} {Γ' : List DV} (h : XS g Z t Γ' M E) (w : ∀ ρ F σ, RvS g ρ F σ Γ → RvS g ρ F σ Γ') : XS g Z t Γ M E := fun ρ F H σ D s rs d => h ρ F H σ D s (w ρ F σ rs) d
/-! ### targets -/
theorem xg_name {i : Nat} {dv : DV} {N : List DV → Mem → Prop} (k : N (Γ.set i dv) M) : XG g (gName i) dv Γ M N := fun ρ F H σ v Q s rs rv q => q _ _ ρ F H M s (Step.refl ..) (rs.set i rv) k
theorem xg_two {i j : Nat} {K : PySem.W.Frag} {a b : D} {N : List DV → Mem → Prop} (hK : K = g.K) (k : N ((Γ.set i (.d a)).set j (.d b)) M) : XG g (gTup K 2 (gCons (gName i) (gCons (gName j) gNil))) (.d (.tup [a, b])) Γ M N := fun ρ F H σ v Q s rs rv q => by
  cases rv with
  | tup e r =>
    cases r with
    | cons h1 r =>
      cases r with
      | cons h2 r =>
        cases r
        refine ⟨_, _, rfl, SqT.of (s.sub _ _ e), rfl, _, _, rfl, _, _, rfl, rfl, ?_⟩
        exact q _ _ ρ F H M s (Step.refl ..) ((rs.set i (d := .d a) h1).set j (d := .d b) h2) k
/-! ### loops -/
theorem xs_for {wi : TI} {tg : TG} {t : TS} (h : XI g Z wi Γ M fun dvs M1 => ∃ Iv : List DV → List DV → Mem → Prop, Iv dvs Γ M1 ∧
      (∀ x r Γ' M', Iv (x :: r) Γ' M' → XG g tg x Γ' M' fun Γ2 M2 => XS g Z t Γ2 M2 { nx := Iv r, ct := Iv r, bk := E.nx, rt := E.rt }) ∧ ∀ Γ' M', Iv [] Γ' M' → E.nx Γ' M') : XS g Z (tFor wi tg t) Γ M E := fun ρ F H σ D s rs d => by
  refine h ρ F H σ _ s rs (d.ex.e rs) fun J ds ρ1 F1 H1 M1 s1 st1 it h1 => ?_
  obtain ⟨Iv, i0, istep, iend⟩ := h1
  refine ⟨fun i m σ' H' => m = ds.length - i ∧ i ≤ ds.length ∧ ∃ Γ' ρ' F' M', Sat g ρ' F' H' M' ∧ Step ρ1 F1 H1 ρ' F' H' ∧ RvS g ρ' F' σ' Γ' ∧ Iv (ds.drop i) Γ' M', ⟨ds.length, by simp, Nat.zero_le _, Γ, ρ1, F1, M1, s1, Step.refl .., rs.mono st1, i0⟩, fun i m σ' H' hw => ?_⟩
  obtain ⟨rfl, hi, Γ', ρ', F', M', s', st', rs', iv⟩ := hw
  have d' := (d.mono st1).mono st'
  by_cases lt : i < ds.length
  · refine .inr ⟨it.go ρ' F' H' M' s' st'.f i lt, fun σ2 H2 => ∃ Γ2 ρ2 F2 M2, Sat g ρ2 F2 H2 M2 ∧ Step ρ' F' H' ρ2 F2 H2 ∧ RvS g ρ2 F2 σ2 Γ2 ∧ Iv (ds.drop (i + 1)) Γ2 M2, fun σ2 H2 hn => ?_, fun x H2 hy => ?_⟩
    · obtain ⟨Γ2, ρ2, F2, M2, s2, st2, rs2, iv2⟩ := hn
      exact ⟨ds.length - (i + 1), by omega, rfl, lt, Γ2, ρ2, F2, M2, s2, st'.trans st2, rs2, iv2⟩
    · obtain ⟨F2, dv, s2, st2, rv, e⟩ := it.yld ρ' F' H' M' s' st'.f i x H2 lt hy
      have ed : ds.drop i = dv :: ds.drop (i + 1) := by
        obtain ⟨hl, e'⟩ := List.getElem?_eq_some_iff.mp e
        rw [List.drop_eq_getElem_cons hl, e']
      rw [ed] at iv
      have hb := istep dv (ds.drop (i + 1)) Γ' M' iv
      refine hb ρ' F2 H2 σ' x _ s2 (rs'.mono st2) rv fun σ3 Γ3 ρ3 F3 H3 M3 s3 st3 rs3 hb3 => ?_
      have d3 := (d'.mono st2).mono st3
      have st23 := st2.trans st3
      refine hb3 ρ3 F3 H3 σ3 _ s3 rs3 ⟨fun σ4 Γ4 ρ4 F4 H4 M4 s4 st4 rs4 k4 => ⟨Γ4, ρ4, F4, M4, s4, st23.trans st4, rs4, k4⟩, d3.rt, d3.nx, fun σ4 Γ4 ρ4 F4 H4 M4 s4 st4 rs4 k4 => ⟨Γ4, ρ4, F4, M4, s4, st23.trans st4, rs4, k4⟩, d3.ex⟩
  · have e : i = ds.length := by omega
    subst e
    rw [List.drop_length] at iv
    exact .inl ⟨it.stop ρ' F' H' M' s' st'.f, d'.nx σ' Γ' ρ' F' H' M' s' (Step.refl ..) rs' (iend Γ' M' iv)⟩
theorem xs_while {t : TT} {b : TS} (W : Nat → List DV → Mem → Prop) {m0 : Nat} (h0 : W m0 Γ M) (hs : ∀ m Γ' M', W m Γ' M' → XT g Z t Γ' M' fun c M1 => if c = true then XS g Z b Γ' M1 { nx := fun Γ2 M2 => ∃ m', m' < m ∧ W m' Γ2 M2, ct := fun Γ2 M2 => ∃ m', m' < m ∧ W m' Γ2 M2, bk := E.nx, rt := E.rt } else E.nx Γ' M1) : XS g Z (tWhile t b) Γ M E := fun ρ F H σ D s rs d => by
  refine ⟨fun m σ' H' => ∃ Γ' ρ' F' M', Sat g ρ' F' H' M' ∧ Step ρ F H ρ' F' H' ∧ RvS g ρ' F' σ' Γ' ∧ W m Γ' M', ⟨m0, Γ, ρ, F, M, s, Step.refl .., rs, h0⟩, fun m σ' H' hw => ?_⟩
  obtain ⟨Γ', ρ', F', M', s', st', rs', w⟩ := hw
  have d' := d.mono st'
  refine hs m Γ' M' w ρ' F' H' σ' _ s' rs' (d'.ex.e rs') fun c ρ1 F1 H1 M1 s1 st1 h1 => ?_
  have d1 := d'.mono st1
  cases c with
  | true =>
    refine iteT ⟨fun σ2 H2 => ∃ m', m' < m ∧ ∃ Γ' ρ' F' M', Sat g ρ' F' H2 M' ∧ Step ρ F H ρ' F' H2 ∧ RvS g ρ' F' σ2 Γ' ∧ W m' Γ' M', fun σ2 H2 n => n, ?_⟩
    refine h1 ρ1 F1 H1 σ' _ s1 (rs'.mono st1) ⟨fun σ4 Γ4 ρ4 F4 H4 M4 s4 st4 rs4 k4 => ?_, d1.rt, d1.nx, fun σ4 Γ4 ρ4 F4 H4 M4 s4 st4 rs4 k4 => ?_, d1.ex⟩
    · obtain ⟨m', lt, w'⟩ := k4
      exact ⟨m', lt, Γ4, ρ4, F4, M4, s4, (st'.trans st1).trans st4, rs4, w'⟩
    · obtain ⟨m', lt, w'⟩ := k4
      exact ⟨m', lt, Γ4, ρ4, F4, M4, s4, (st'.trans st1).trans st4, rs4, w'⟩
  | false => exact iteF (d1.nx σ' Γ' ρ1 F1 H1 M1 s1 (Step.refl ..) (rs'.mono st1) h1)
/-! ### comprehensions -/
theorem wipe_at (σ : SS) : ∀ (vs : List Nat) (k : Nat), (L2.wipe σ vs)[k]? = if k ∈ vs then (σ[k]?).map (fun _ => none) else σ[k]?
  | [], k => by simp [L2.wipe]
  | v :: vs, k => by
    show ((L2.wipe σ vs).set v none)[k]? = _
    have ih := wipe_at σ vs k
    by_cases e : v = k
    · subst e
      rw [List.getElem?_set_self']
      simp only [List.mem_cons, true_or, if_true]
      rw [ih]
      split
      · cases σ[v]? <;> rfl
      · cases σ[v]? <;> rfl
    · rw [List.getElem?_set_ne e, ih]
      have : (k ∈ v :: vs) ↔ k ∈ vs := by
        rw [List.mem_cons]
        exact ⟨fun h => h.resolve_left (fun z => e z.symm), .inr⟩
      simp only [this]
theorem wipe_wipe (σ : SS) (vs : List Nat) : L2.wipe (L2.wipe σ vs) vs = L2.wipe σ vs := by
  apply List.ext_getElem?
  intro k
  rw [wipe_at, wipe_at]
  split
  · cases σ[k]? <;> rfl
  · rfl
theorem wipe_set (σ : SS) {vs : List Nat} {j : Nat} {x : Option V} (h : j ∈ vs) : L2.wipe (σ.set j x) vs = L2.wipe σ vs := by
  apply List.ext_getElem?
  intro k
  rw [wipe_at, wipe_at]
  by_cases e : j = k
  · subst e
    rw [if_pos h, if_pos h, List.getElem?_set_self']
    cases σ[j]? <;> rfl
  · rw [List.getElem?_set_ne e]
/-- the target stores to names of the comprehension alone -/
def GTo (tg : TG) (vs : List Nat) : Prop := ∀ (v : V) (σ : SS) (H : Hp) (Q : SS → Hp → Prop), tg v σ H Q → tg v σ H fun σ2 H2 => L2.wipe σ2 vs = L2.wipe σ vs ∧ Q σ2 H2
theorem gto_name {j : Nat} {vs : List Nat} (h : j ∈ vs) : GTo (gName j) vs := fun v σ H Q q => ⟨wipe_set σ h, q⟩
theorem gto_two {i j : Nat} {vs : List Nat} {K : PySem.W.Frag} (hi : i ∈ vs) (hj : j ∈ vs) : GTo (gTup K 2 (gCons (gName i) (gCons (gName j) gNil))) vs := fun v σ H Q q => by
  obtain ⟨a, xs, e, h, l, v1, r1, e1, v2, r2, e2, e3, q⟩ := q
  exact ⟨a, xs, e, h, l, v1, r1, e1, v2, r2, e2, e3, (wipe_set _ hj).trans (wipe_set _ hi), q⟩
theorem xh_no {ρ : List Addr} {F H : Hp} {σ : SS} {Γ : List DV} : XhE g DX.no ρ F H σ Γ := fun _ _ _ _ _ _ _ _ _ _ _ z => z
/-- Iv: what is left, what was made so far, the memory -/
theorem lc_base {wi : TI} {tg : TG} {tt : TT} {vs : List Nat} (gt : GTo tg vs) {Fin : List DV → Mem → Prop} (h : XI g Z wi Γ M fun dvs M1 => ∃ Iv : List DV → List DV → Mem → Prop, Iv dvs [] M1 ∧
      (∀ x r acc M', Iv (x :: r) acc M' → XG g tg x (wipeD Γ vs) M' fun Γ2 M2 => XT g DX.no tt Γ2 M2 fun b M3 =>
        if b = true then XE g DX.no te Γ2 M3 fun y M4 => acc.length < 100000 ∧ Iv r (acc ++ [y]) M4 else Iv r acc M3) ∧ ∀ acc M', Iv [] acc M' → Fin acc M')
    {ρ : List Addr} {F H : Hp} {σ : SS} {Q : VK} (s : Sat g ρ F H M) (rs : RvS g ρ F σ Γ) (kx : XhE g Z ρ F H σ Γ)
    (fin : ∀ (D : Addr) (ρ' : List Addr) (F' H' : Hp) (M' : Mem) (av : List V) (acc : List DV), Sat g ρ' F' H' M' → Step ρ F H ρ' F' H' → H D = none → H' D = some (.lst av) → F' D = none → D ∉ ρ' → D ∉ g.T → RvA g ρ' F' av acc → Fin acc M' → Q (.ref D) H') :
    tLc wi tg tt te vs σ H Q := by
  refine h ρ F H σ _ s rs kx fun J ds ρ1 F1 H1 M1 s1 st1 it h1 => ?_
  obtain ⟨Iv, i0, istep, iend⟩ := h1
  intro D hD
  have hD0 : H D = none := by
    cases e : H D with
    | none => rfl
    | some o => exact absurd hD (st1.there D o e)
  obtain ⟨fD, rD, tD⟩ := s1.fresh hD
  refine ⟨fun i m H' => m = ds.length - i ∧ i ≤ ds.length ∧ ∃ ρ' F' M' av acc, Sat g ρ' F' H' M' ∧ Step ρ1 F1 H1 ρ' F' H' ∧ H' D = some (.lst av) ∧ F' D = none ∧ D ∉ ρ' ∧ RvA g ρ' F' av acc ∧ Iv (ds.drop i) acc M',
    ⟨ds.length, by simp, Nat.zero_le _, ρ1, F1, M1, [], [], s1.aside fD rD tD, Step.aside hD, upd_same, fD, rD, .nil, i0⟩, fun i m H' hw => ?_⟩
  obtain ⟨rfl, hi, ρ', F', M', av, acc, s', st', eD, fD', rD', ra, iv⟩ := hw
  by_cases lt : i < ds.length
  · refine .inr ⟨it.go ρ' F' H' M' s' st'.f i lt, fun H2 => ∃ ρ2 F2 M2 av acc, Sat g ρ2 F2 H2 M2 ∧ Step ρ1 F1 H1 ρ2 F2 H2 ∧ H2 D = some (.lst av) ∧ F2 D = none ∧ D ∉ ρ2 ∧ RvA g ρ2 F2 av acc ∧ Iv (ds.drop (i + 1)) acc M2, fun H2 hn => ?_, fun x H2 hy => ?_⟩
    · obtain ⟨ρ2, F2, M2, av2, acc2, r⟩ := hn
      exact ⟨ds.length - (i + 1), by omega, rfl, lt, ρ2, F2, M2, av2, acc2, r⟩
    · obtain ⟨F2, dv, s2, st2, rv, e⟩ := it.yld ρ' F' H' M' s' st'.f i x H2 lt hy
      have ed : ds.drop i = dv :: ds.drop (i + 1) := by
        obtain ⟨hl, e'⟩ := List.getElem?_eq_some_iff.mp e
        rw [List.drop_eq_getElem_cons hl, e']
      rw [ed] at iv
      have keepD : ∀ {ρ3 F3 H3}, Step ρ' F' H' ρ3 F3 H3 → H3 D = some (.lst av) ∧ F3 D = none ∧ D ∉ ρ3 := fun {ρ3 F3 H3} st => by
        refine ⟨(st.keep D _ eD rD').plain (fun ps z => nomatch z), ?_, fun z => ?_⟩
        · cases q : F3 D with
          | none => rfl
          | some o =>
            rcases st.newF D (by rw [q]; exact fun z => nomatch z) with z | z | z
            · exact absurd fD' z
            · rw [eD] at z; cases z
            · exact absurd z rD'
        · rcases st.newR D z with z | z
          · exact rD' z
          · rw [eD] at z; cases z
      have hg := istep dv (ds.drop (i + 1)) acc M' iv ρ' F2 H2 (L2.wipe σ vs) x (fun σ2 H3 => tt σ2 H3 fun b H4 => if b = true then te σ2 H4 fun y H5 => ∃ acc, H5 D = some (.lst acc) ∧ acc.length < sizeLine ∧ ∃ ρ2 F2 M2 av accd, Sat g ρ2 F2 (upd H5 D (.lst (acc ++ [y]))) M2 ∧ Step ρ1 F1 H1 ρ2 F2 (upd H5 D (.lst (acc ++ [y]))) ∧ (upd H5 D (.lst (acc ++ [y]))) D = some (.lst av) ∧ F2 D = none ∧ D ∉ ρ2 ∧ RvA g ρ2 F2 av accd ∧ Iv (ds.drop (i + 1)) accd M2 else ∃ ρ2 F2 M2 av acc, Sat g ρ2 F2 H4 M2 ∧ Step ρ1 F1 H1 ρ2 F2 H4 ∧ H4 D = some (.lst av) ∧ F2 D = none ∧ D ∉ ρ2 ∧ RvA g ρ2 F2 av acc ∧ Iv (ds.drop (i + 1)) acc M2) s2
        (((rs.mono st1).mono (st'.trans st2)).wipe vs) rv fun σ2 Γ2 ρ3 F3 H3 M3 s3 st3 rs3 k3 => ?_
      · have hg2 := gt x (L2.wipe σ vs) H2 _ hg
        rw [wipe_wipe] at hg2
        exact hg2
      · refine k3 ρ3 F3 H3 σ2 _ s3 rs3 xh_no fun b ρ4 F4 H4 M4 s4 st4 k4 => ?_
        have st24 := (st2.trans st3).trans st4
        cases b with
        | true =>
          refine iteT (k4 ρ4 F4 H4 σ2 _ s4 (rs3.mono st4) xh_no fun y dy ρ5 F5 H5 M5 s5 st5 ry k5 => ?_)
          have st25 := st24.trans st5
          obtain ⟨e5, f5, n5⟩ := keepD st25
          have hl := ra.length
          refine ⟨av, e5, Nat.lt_of_lt_of_le (by omega) (by decide : 100000 ≤ sizeLine), ρ5, F5, M5, av ++ [y], acc ++ [dy], s5.aside f5 n5 tD, (st'.trans st25).chg hD, upd_same, f5, n5, (ra.mono st25).app (.cons ry .nil), k5.2⟩
        | false =>
          obtain ⟨e4, f4, n4⟩ := keepD st24
          exact iteF ⟨ρ4, F4, M4, av, acc, s4, st'.trans st24, e4, f4, n4, ra.mono st24, k4⟩
  · have e : i = ds.length := by omega
    subst e
    rw [List.drop_length] at iv
    exact .inl ⟨it.stop ρ' F' H' M' s' st'.f, fin D ρ' F' H' M' av acc s' (st1.trans st') hD0 eD fD' rD' tD ra (iend acc M' iv)⟩
/-- the new list is data -/
theorem xe_lcF {wi : TI} {tg : TG} {tt : TT} {vs : List Nat} (gt : GTo tg vs) (h : XI g Z wi Γ M fun dvs M1 => ∃ Iv : List DV → List DV → Mem → Prop, Iv dvs [] M1 ∧
      (∀ x r acc M', Iv (x :: r) acc M' → XG g tg x (wipeD Γ vs) M' fun Γ2 M2 => XT g DX.no tt Γ2 M2 fun b M3 =>
        if b = true then XE g DX.no te Γ2 M3 fun y M4 => acc.length < 100000 ∧ Iv r (acc ++ [y]) M4 else Iv r acc M3) ∧ ∀ acc M', Iv [] acc M' → ∃ xs, acc = xs.map DV.d ∧ R (.d (.lst xs)) M') :
    XE g Z (tLc wi tg tt te vs) Γ M R := fun ρ F H σ Q s rs kx q => by
  refine lc_base gt h s rs kx fun D ρ' F' H' M' av acc s' st' hD eD fD rD tD ra fin => ?_
  obtain ⟨xs, rfl, k⟩ := fin
  exact q _ (.d (.lst xs)) _ _ _ _ (s'.froze eD rD tD fD) (st'.froze hD fD) (.lst upd_same (ra.toD.mono (Sub.new fD))) k
/-- the new list is a mutable object -/
theorem xe_lcM {wi : TI} {tg : TG} {tt : TT} {vs : List Nat} (gt : GTo tg vs) (h : XI g Z wi Γ M fun dvs M1 => ∃ Iv : List DV → List DV → Mem → Prop, Iv dvs [] M1 ∧
      (∀ x r acc M', Iv (x :: r) acc M' → XG g tg x (wipeD Γ vs) M' fun Γ2 M2 => XT g DX.no tt Γ2 M2 fun b M3 =>
        if b = true then XE g DX.no te Γ2 M3 fun y M4 => acc.length < 100000 ∧ Iv r (acc ++ [y]) M4 else Iv r acc M3) ∧ ∀ acc M', Iv [] acc M' → R (.m M'.length) (M' ++ [some (.lst acc)])) :
    XE g Z (tLc wi tg tt te vs) Γ M R := fun ρ F H σ Q s rs kx q => by
  refine lc_base gt h s rs kx fun D ρ' F' H' M' av acc s' st' hD eD fD rD tD ra fin => ?_
  refine q _ (.m M'.length) _ _ _ _ (s'.own (mo := .lst acc) (by rw [eD]; exact fun z => nomatch z) rD fD ⟨av, eD, ra⟩) (st'.own hD) ⟨D, rfl, ?_⟩ fin
  rw [← s'.len, List.getElem?_append_right (Nat.le_refl _), Nat.sub_self]
  rfl
/-! ### calls -/
theorem xe_cB {r : List V → Hp → VK → Prop} {ta : TA} (h : XA g Z ta Γ M fun as M1 => XN g r as M1 R) : XE g Z (tCB r ta) Γ M R := fun ρ F H σ Q s rs kx q => by
  refine h ρ F H σ _ s rs kx fun xs as ρ1 F1 H1 M1 s1 st1 ra h1 => ?_
  exact h1 ρ1 F1 H1 xs Q s1 ra fun v dv ρ3 F3 H3 M3 s3 st3 rv k => q v dv ρ3 F3 H3 M3 s3 (st1.trans st3) rv k
theorem xe_m1 {r : V → List V → Hp → VK → Prop} (h : XE g Z ta Γ M fun a M1 => ∃ x, a = .d (.str x) ∧ XE g Z tb Γ M1 fun b M2 => XM g r (.d (.str x)) [b] M2 R) : XE g Z (tM1 r ta tb) Γ M R := fun ρ F H σ Q s rs kx q => by
  refine h ρ F H σ _ s rs kx fun v a ρ1 F1 H1 M1 s1 st1 rv h1 => ?_
  obtain ⟨x, rfl, h1⟩ := h1
  cases rv
  refine ⟨⟨_, rfl⟩, h1 ρ1 F1 H1 σ _ s1 (rs.mono st1) (kx.mono st1) fun y b ρ2 F2 H2 M2 s2 st2 ry h2 => ?_⟩
  exact h2 ρ2 F2 H2 _ [y] Q s2 (Dr.str x) (.cons ry .nil) fun v dv ρ3 F3 H3 M3 s3 st3 rv k => q v dv ρ3 F3 H3 M3 s3 ((st1.trans st2).trans st3) rv k
/-- what a method's type asks of its object -/
def TyD (M : Mem) (T : String) : DV → Prop
  | .d (.str _) => T = "str"
  | .d (.lst _) => T = "list"
  | .m k => T = "list" ∧ ∃ xs, M[k]? = some (some (.lst xs))
  | _ => False
theorem tyV_of {K : PySem.W.Frag} {ρ : List Addr} {F H : Hp} {T : String} {x : V} {a : DV} (s : Sat g ρ F H M) (r : Rv g ρ F x a) (h : TyD M T a) : tyV K T x H := by
  cases a with
  | un => exact h.elim
  | ro ns => exact h.elim
  | m k =>
    obtain ⟨p, rfl, hk⟩ := r
    obtain ⟨rfl, xs, hm⟩ := h
    obtain ⟨_, vs, e, _⟩ := s.mo k p _ hk hm
    exact .inl ⟨rfl, _, SqL.of e⟩
  | d y =>
    cases r with
    | str z => exact h
    | lst e rr => exact .inl ⟨h, _, SqL.of (s.sub _ _ e)⟩
    | _ => exact h.elim
theorem xe_bm {K : PySem.W.Frag} {T : String} {r : V → List V → Hp → VK → Prop} {ta' : TA} (h : XE g Z ta Γ M fun a M1 => TyD M1 T a ∧ XA g Z ta' Γ M1 fun as M2 => XM g r a as M2 R) : XE g Z (tBM K T r ta ta') Γ M R := fun ρ F H σ Q s rs kx q => by
  refine h ρ F H σ _ s rs kx fun v a ρ1 F1 H1 M1 s1 st1 rv h1 => ?_
  obtain ⟨ty, h1⟩ := h1
  refine ⟨tyV_of s1 rv ty, h1 ρ1 F1 H1 σ _ s1 (rs.mono st1) (kx.mono st1) fun ys bs ρ2 F2 H2 M2 s2 st2 ry h2 => ?_⟩
  exact h2 ρ2 F2 H2 v ys Q s2 (rv.mono st2) ry fun v dv ρ3 F3 H3 M3 s3 st3 rv k => q v dv ρ3 F3 H3 M3 s3 ((st1.trans st2).trans st3) rv k
theorem xe_sl {r : V → Option Int → Option Int → Hp → VK → Prop} {tl th : TO} (h : XE g Z ta Γ M fun a M1 => XO g Z tl Γ M1 fun lo M2 => XO g Z th Γ M2 fun hi M3 => XSl g r a lo hi M3 R) : XE g Z (tSl r ta tl th) Γ M R := fun ρ F H σ Q s rs kx q => by
  refine h ρ F H σ _ s rs kx fun v a ρ1 F1 H1 M1 s1 st1 rv h1 => ?_
  refine h1 ρ1 F1 H1 σ _ s1 (rs.mono st1) (kx.mono st1) fun lo ρ2 F2 H2 M2 s2 st2 h2 => ?_
  have st12 := st1.trans st2
  refine h2 ρ2 F2 H2 σ _ s2 (rs.mono st12) (kx.mono st12) fun hi ρ3 F3 H3 M3 s3 st3 h3 => ?_
  exact h3 ρ3 F3 H3 v Q s3 ((rv.mono st2).mono st3) fun v dv ρ4 F4 H4 M4 s4 st4 rv k => q v dv ρ4 F4 H4 M4 s4 ((st12.trans st3).trans st4) rv k
theorem xo_no {R : Option Int → Mem → Prop} (k : R none M) : XO g Z tNoPart Γ M R := fun ρ F H σ Q s rs kx q => q none ρ F H M s (Step.refl ..) k
theorem xo_some {R : Option Int → Mem → Prop} (h : XE g Z te Γ M fun a M1 => ∃ i, a = .d (.int i) ∧ R (some i) M1) : XO g Z (tPart te) Γ M R := fun ρ F H σ Q s rs kx q => by
  refine h ρ F H σ _ s rs kx fun v a ρ1 F1 H1 M1 s1 st1 rv h1 => ?_
  obtain ⟨i, rfl, k⟩ := h1
  cases rv
  exact ⟨i, rfl, q _ _ _ _ _ s1 st1 k⟩
/-! ### the promises of defs -/
abbrev DSpec := List DV → Mem → (DV → Mem → Prop) → (D → Mem → Prop) → Prop
def SPd (g : G) (sp : DSpec) : Sp := fun vs H Q E => ∃ (ρ : List Addr) (F : Hp) (M : Mem) (ds : List DV) (R : DV → Mem → Prop) (Xq : D → Mem → Prop), Sat g ρ F H M ∧ RvA g ρ F vs ds ∧ sp ds M R Xq ∧ XK2 g ρ F H R Q ∧
  ∀ (d : Addr) (v : V) (x : D) (ρ' : List Addr) (F' H' : Hp) (M' : Mem), Sat g ρ' F' H' M' → Step ρ F H ρ' F' H' → H' d = some (.xd [("reason", v)]) → Dr F' v x → Xq x M' → E (.ref g.C) (some d) H'
theorem xe_call {sp : DSpec} {E : XK} {ta : TA} (h : XA g Z ta Γ M fun ds M1 => sp ds M1 R fun _ _ => False) : XE g Z (tCall (SPd g sp) [] E ta) Γ M R := fun ρ F H σ Q s rs kx q => by
  refine h ρ F H σ _ s rs kx fun xs as ρ1 F1 H1 M1 s1 st1 ra h1 => ?_
  rw [List.append_nil]
  exact ⟨ρ1, F1, M1, as, R, _, s1, ra, h1, fun v dv ρ3 F3 H3 M3 s3 st3 rv k => q v dv ρ3 F3 H3 M3 s3 (st1.trans st3) rv k, fun _ _ _ _ _ _ _ _ _ _ _ z => z.elim⟩
theorem xe_callS {sp : DSpec} {ta : TA} (h : XA g Z ta Γ M fun ds M1 => sp ds M1 R fun x M' => Z.ex x Γ M') : XE g Z (tCallS (SPd g sp) (WE Z.W) ta) Γ M R := fun ρ F H σ Q s rs kx q => by
  refine h ρ F H σ _ s rs kx fun xs as ρ1 F1 H1 M1 s1 st1 ra h1 => ?_
  exact ⟨ρ1, F1, M1, as, R, _, s1, ra, h1, fun v dv ρ3 F3 H3 M3 s3 st3 rv k => q v dv ρ3 F3 H3 M3 s3 (st1.trans st3) rv k, fun d v x ρ' F' H' M' s' st' e r z => kx d v x ρ' F' H' M' s' (st1.trans st') e r z⟩
end
end DL
set_option maxRecDepth 100000
set_option maxHeartbeats 4000000
/-! DZ: zip of two texts, for and comprehensions; lists of ints compared -/
namespace DL
open PySem PySem.Spec PyProof.Rows L2
def nMin (a b : Str) : Nat := min a.cps.size b.cps.size
/-- the signs of two texts, in new pairs -/
def ItzS (a b : Str) : It :=
  ⟨fun i _ => i < nMin a b, fun i H v H' => ∃ p c d, v = .ref p ∧ H p = none ∧ H' = upd H p (.tup [.str ⟨#[c]⟩, .str ⟨#[d]⟩]) ∧ a.cps[i]? = some c ∧ b.cps[i]? = some d, fun i _ => i = nMin a b⟩
theorem nab {n a b : Nat} (h : a ≠ b) : n + a ≠ n + b := by omega
theorem na0 {n a : Nat} (h : 0 < a) : n + a ≠ n := by omega
theorem n0a {n a : Nat} (h : 0 < a) : n ≠ n + a := by omega
theorem ltN {n a m : Nat} (h : n + 4 < m) (ha : a ≤ 4) : n + a ≠ m := by omega
theorem lt0 {n m : Nat} (h : n + 4 < m) : n ≠ m := by omega
theorem mem5 {c q1 q2 q3 q4 q5 : Addr} (h : c ∈ [q1, q2, q3, q4, q5]) : c = q1 ∨ c = q2 ∨ c = q3 ∨ c = q4 ∨ c = q5 := by simpa using h
theorem turn_zipS {P : Program} {w : World} {K : PySem.W.Frag} {elts : List Expr} {kk : Nat} {tpos : Pos} {a b : Str} {ta tb : Tok} {N : Addr} :
    Turn P w K (.Tuple elts kk tpos) (ItzS a b) [N + 4, N + 2, N + 3, N, N + 1] (N + 4) (fun i h => IsZip h (N + 4) (N + 2) (N + 3) .none ∧ IsTupOf2 h (N + 2) (.ref N) (.ref (N + 1)) ∧ (∃ x y, IsTupOf2 h (N + 3) x y) ∧
      h.IsStrIter N (strIterType a) a ta i ∧ h.IsStrIter (N + 1) (strIterType b) b tb i) := by
  have sep : ZipSep2 (N + 4) (N + 2) (N + 3) N (N + 1) (N :: []) ((N + 1) :: []) := zip_sep2 (fun _ z => nomatch z) (fun _ z => nomatch z)
  refine ⟨by simp, fun i h st c hc => ?_, fun i h h' st kp => ?_, ?_, ?_, fun A i s Q E st q => wpAny_pyIter_zip st.1 q⟩
  · obtain ⟨z1, z2, ⟨x, y, z3⟩, ⟨o1, e1, _, d1⟩, ⟨o2, e2, _, d2⟩⟩ := st
    rcases mem5 hc with rfl | rfl | rfl | rfl | rfl
    · exact ⟨_, z1, fun v q => nomatch q⟩
    · exact ⟨_, z2, fun v q => nomatch q⟩
    · exact ⟨_, z3, fun v q => nomatch q⟩
    · exact ⟨o1, e1, fun v q => by rw [d1] at q; cases q⟩
    · exact ⟨o2, e2, fun v q => by rw [d2] at q; cases q⟩
  · obtain ⟨z1, z2, ⟨x, y, z3⟩, ⟨o1, e1, r1⟩, ⟨o2, e2, r2⟩⟩ := st
    exact ⟨kp _ (by simp) _ z1, kp _ (by simp) _ z2, ⟨x, y, kp _ (by simp) _ z3⟩, ⟨o1, kp _ (by simp) _ e1, r1⟩, ⟨o2, kp _ (by simp) _ e2, r2⟩⟩
  · intro X eP eW eK hc i pins s σ H E I hf st hi
    subst eP eW eK
    obtain ⟨z1, z2, ⟨x, y, z3⟩, t1, t2⟩ := st
    have hcal := I.ok.hd hc
    have dr1 := Draws.text (prog := X.prog) (w := X.w) (A := X.A.in1) hcal N a ta
    have dr2 := Draws.text (prog := X.prog) (w := X.w) (A := X.A.in1) hcal (N + 1) b tb
    have i1 : i < a.cps.size := Nat.lt_of_lt_of_le hi (Nat.min_le_left _ _)
    have i2 : i < b.cps.size := Nat.lt_of_lt_of_le hi (Nat.min_le_right _ _)
    have szl : N + 4 < s.heap.objs.size := Heap.lt_size z1
    refine wpAny_pyNext_zipD2_item sep dr1 dr2 z1 z2 z3 t1 t2 i1 i2 fun v1 v2 h1 tk y1 y2 b1 b2 d1 d2 b5 b6 kp => ?_
    obtain ⟨c1, u1, g1, rfl⟩ := y1
    obtain ⟨c2, u2, g2, rfl⟩ := y2
    refine ⟨_, rfl, wpAny_letOwnedTupleGo_zip (s := { s with heap := h1, toks := tk }) b1 fun h2 b1' sb => ?_⟩
    have ne4 : ∀ {q : Addr}, q ≠ N + 4 → ∀ o, h1.get? q = some o → h2.get? q = some o := fun {q} nq o e => (sb.2 _ nq).trans e
    have szT : s.heap.objs.size ≠ N + 4 := Nat.ne_of_gt szl
    have eT := ne4 szT _ b5
    have new : ObjOk X.prog X.w (upd H s.heap.objs.size (.tup [.str ⟨#[c1]⟩, .str ⟨#[c2]⟩])) h2 s.heap.objs.size (.tup [.str ⟨#[c1]⟩, .str ⟨#[c2]⟩]) :=
      ⟨(by decide : 2 ≤ sizeLine), [.str ⟨#[c1]⟩ u1, .str ⟨#[c2]⟩ u2], .cons ⟨u1, rfl⟩ (.cons ⟨u2, rfl⟩ .nil), ⟨_, eT, rfl, _, rfl⟩⟩
    have I2 : Inv X pins σ (upd H s.heap.objs.size (.tup [.str ⟨#[c1]⟩, .str ⟨#[c2]⟩])) { s with heap := h2, toks := tk } := by
      refine I.turnedNew (t' := tk) (ch := [N + 4, N + 2, N + 3, N, N + 1]) (fun q o nq e => ?_) hf (Nat.le_refl _) new
      have n0 : q ≠ N + 4 := fun z => nq (by simp [z])
      exact ne4 n0 o (kp q o n0 (fun z => nq (by simp [z])) (fun z => nq (by simp [z])) (fun z => nq (by simp [z])) e)
    refine ⟨.ref s.heap.objs.size, _, I2, rfl, ⟨_, c1, c2, rfl, I.hok.fresh (Nat.le_refl _), rfl, g1, g2⟩, ⟨b1', ?_, ⟨_, _, ne4 (nab (by decide)) _ b2⟩, ?_, ?_⟩, fun c hcm => ?_⟩
    · exact ne4 (nab (by decide)) _ (kp _ _ (nab (by decide)) (nab (by decide)) (na0 (by decide)) (nab (by decide)) z2)
    · obtain ⟨o1, e1, r1⟩ := d1
      exact ⟨o1, ne4 (n0a (by decide)) _ e1, r1⟩
    · obtain ⟨o2, e2, r2⟩ := d2
      exact ⟨o2, ne4 (nab (by decide)) _ e2, r2⟩
    · have lt : c ≠ s.heap.objs.size := by
        rcases mem5 hcm with rfl | rfl | rfl | rfl | rfl <;> first | exact ltN szl (by decide) | exact lt0 szl
      rw [upd_ne lt]
      exact (hf c hcm).1
  · intro X eP eW eK hc i pins s σ H E I hf st hi
    subst eP eW eK
    obtain ⟨z1, z2, ⟨x, y, z3⟩, t1, t2⟩ := st
    have hcal := I.ok.hd hc
    have hi : i = min a.cps.size b.cps.size := hi
    refine wpAny_pyNext_zipD2_end sep (Draws.text (prog := X.prog) (w := X.w) (A := X.A.in1) hcal N a ta) (Draws.text (prog := X.prog) (w := X.w) (A := X.A.in1) hcal (N + 1) b tb) z1 z2 z3 t1 t2 (by omega) (by omega) (by omega) fun h1 tk kp => ⟨rfl, ?_⟩
    exact I.turnedL (t' := tk) (ch := [N + 4, N + 2, N + 3, N, N + 1]) (fun q o nq e => kp q o (fun z => nq (by simp [z])) (fun z => nq (by simp [z])) (fun z => nq (by simp [z])) (fun z => nq (by simp [z])) e) hf
def iZipS (ta : TA) : TI := fun σ H R => ta σ H fun vs H1 => ∃ a b, vs = [.str a, .str b] ∧ R (ItzS a b) H1
theorem pi_zipS {X : Cx} {e1 e2 : Expr} {ta : TA} {p pos tpos : Pos} {elts : List Expr} {kk : Nat} (hg : Gl X "zip") (hm : X.mg "zip" = none) (ha : PA X [e1, e2] ta)
    (st1 : starEach [e1, e2] X.env = (false, eval e1 X.env) :: starEach [e2] X.env := by rfl) (st2 : (backTo pos (starEach [e2] X.env)).any (·.1) = false := by rfl) :
    PI X (.Tuple elts kk tpos) (.Call (.Name "zip" p) [e1, e2] [] pos) (iZipS ta) := by
  refine ⟨fun pins s σ H R I h => ?_⟩
  refine Call_ (ld_blt I hg hm PyProof.Rows.boot_zip (PyProof.Rows.callWith_type1 (thn (ha.run pos pins s σ H _ I h) fun us s1 hh => ?_) st1 st2))
  obtain ⟨vs, H1, I1, r1, a, b, rfl, q⟩ := hh
  cases r1 with
  | cons ra rr =>
    cases rr with
    | cons rb rn =>
      cases rn
      obtain ⟨t1, rfl⟩ := ra
      obtain ⟨t2, rfl⟩ := rb
      refine zip_begins2 (begins_text a t1) (begins_text b t2) trivial trivial fun h' z1 z2 z3 g1 g2 hs kp => wpAny_pyIter_zip z1 ?_
      have I2 : Inv X pins σ H1 { s1 with heap := h' } := I1.kept (t' := s1.toks) kp
      refine ⟨s1.heap.objs.size + 4, [s1.heap.objs.size + 4, s1.heap.objs.size + 2, s1.heap.objs.size + 3, s1.heap.objs.size, s1.heap.objs.size + 1], _, _, H1, rfl, I2, turn_zipS (ta := t1) (tb := t2), ⟨z1, z2, ⟨_, _, z3⟩, ⟨_, g1, rfl, rfl⟩, ⟨_, g2, rfl, rfl⟩⟩, fun c hcm => ?_, q⟩
      have le : s1.heap.objs.size ≤ c := by
        rcases mem5 hcm with rfl | rfl | rfl | rfl | rfl <;> first | exact Nat.le_refl _ | exact Nat.le_add_right _ _
      exact I1.fpOk le (I1.hok.fresh le)
end DL
set_option maxRecDepth 100000
set_option maxHeartbeats 4000000
/-! DL4: operators, comparisons, indexes, slices, built-ins, what is walked -/
namespace DL
open PySem PySem.Spec PyProof.Rows L2
/-! ### universal operators -/
def rOr (r1 r2 : R2) : R2 := fun x y H Q => r1 x y H Q ∨ r2 x y H Q
theorem op_or2 {X : Cx} {f : Value → Value → Sem Value} {r1 r2 : R2} (h1 : OpR X f r1) (h2 : OpR X f r2) : OpR X f (rOr r1 r2) := fun pins s σ H x y v u Q I rx ry h =>
  h.elim (fun q => h1 pins s σ H x y v u Q I rx ry q) (fun q => h2 pins s σ H x y v u Q I rx ry q)
section
variable {g : G} {Z : DX} {Γ : List DV} {M : Mem} {R : DV → Mem → Prop} {r1 r2 : R2} {a b : DV}
theorem x2_l (h : X2 g r1 a b M R) : X2 g (rOr r1 r2) a b M R := fun ρ F H x y Q s ra rb q => .inl (h ρ F H x y Q s ra rb q)
theorem x2_r (h : X2 g r2 a b M R) : X2 g (rOr r1 r2) a b M R := fun ρ F H x y Q s ra rb q => .inr (h ρ F H x y Q s ra rb q)
theorem x2_I0 {f : Int → Int → V} {k : Int → Int → D} {i j : Int} (hf : ∀ F i j, Dr F (f i j) (k i j)) (q : R (.d (k i j)) M) : X2 g (rI0 f) (.d (.int i)) (.d (.int j)) M R := fun ρ F H x y Q s ra rb kk => by
  cases ra
  cases rb
  exact ⟨i, j, rfl, rfl, kk _ (.d (k i j)) ρ F H M s (Step.refl ..) (hf F i j) q⟩
theorem x2_I {C : Int → Int → Prop} {f : Int → Int → V} {k : Int → Int → D} {i j : Int} (hf : ∀ F i j, Dr F (f i j) (k i j)) (hc : C i j) (q : R (.d (k i j)) M) : X2 g (rI C f) (.d (.int i)) (.d (.int j)) M R := fun ρ F H x y Q s ra rb kk => by
  cases ra
  cases rb
  exact ⟨i, j, rfl, rfl, hc, kk _ (.d (k i j)) ρ F H M s (Step.refl ..) (hf F i j) q⟩
end
/-- + -/
def rCatS : R2 := fun x y H Q => ∃ i j, x = .str i ∧ y = .str j ∧ i.length + j.length ≤ sizeLine ∧ Q (.str (i ++ j)) H
def rAddU : R2 := rOr (rI0 fun i j => .int (i + j)) (rOr rCatS rCat)
theorem op_addU {X : Cx} : OpR X (binaryOp .Add) rAddU := op_or2 op_add (op_or2 op_add_str op_cat)
def rSubU : R2 := rI0 fun i j => .int (i - j)
theorem op_subU {X : Cx} : OpR X (binaryOp .Sub) rSubU := op_sub
def rMulU : R2 := rOr (rI CMul fun i j => .int (i * j)) rRep
theorem op_mulU {X : Cx} : OpR X (binaryOp .Mult) rMulU := op_or2 op_mul op_rep
def rModU : R2 := rI (fun _ j => 0 < j) fun i j => .int (i % j)
theorem op_modU {X : Cx} : OpR X (binaryOp .Mod) rModU := op_mod
def rDivU : R2 := rI CDiv fun i j => .int (i / j)
theorem op_divU {X : Cx} : OpR X (binaryOp .FloorDiv) rDivU := op_fdiv
def rPowU : R2 := rI CPow fun i j => .int (i ^ j.toNat)
theorem op_powU {X : Cx} : OpR X (binaryOp .Pow) rPowU := op_pow
section
variable {g : G} {Z : DX} {Γ : List DV} {M : Mem} {R : DV → Mem → Prop} {i j : Int} {x y : List Nat} {xs ys : List D}
theorem x2_addI (q : R (.d (.int (i + j))) M) : X2 g rAddU (.d (.int i)) (.d (.int j)) M R := x2_l (x2_I0 (k := fun i j => .int (i + j)) (fun _ _ _ => .int _) q)
theorem x2_addS (hl : x.length + y.length ≤ 100000) (q : R (.d (.str (x ++ y))) M) : X2 g rAddU (.d (.str x)) (.d (.str y)) M R := x2_r (x2_l fun ρ F H v u Q s ra rb kk => by
  cases ra
  cases rb
  refine ⟨_, _, rfl, rfl, ?_, ?_⟩
  · rw [sOf_len, sOf_len]; exact Nat.le_trans hl (by decide)
  · rw [sOf_app]
    exact kk _ (.d (.str (x ++ y))) ρ F H M s (Step.refl ..) (.str _) q)
theorem x2_addL (hl : xs.length + ys.length ≤ 100000) (q : R (.d (.lst (xs ++ ys))) M) : X2 g rAddU (.d (.lst xs)) (.d (.lst ys)) M R := x2_r (x2_r fun ρ F H v u Q s ra rb kk => by
  cases ra with
  | lst e1 d1 =>
    cases rb with
    | lst e2 d2 =>
      have l1 := d1.length
      have l2 := d2.length
      refine ⟨_, _, _, _, rfl, rfl, s.sub _ _ e1, s.sub _ _ e2, Nat.le_trans (by omega) (by decide : 100000 ≤ sizeLine), fun p hp => ?_⟩
      obtain ⟨s2, st2⟩ := s.lay (o := .lst (_ ++ _)) hp
      exact kk _ (.d (.lst (xs ++ ys))) _ _ _ _ s2 st2 (.lst upd_same ((d1.app d2).mono st2.f)) q)
theorem x2_subI (q : R (.d (.int (i - j))) M) : X2 g rSubU (.d (.int i)) (.d (.int j)) M R := x2_I0 (k := fun i j => .int (i - j)) (fun _ _ _ => .int _) q
theorem x2_mulI (hc : CMul i j) (q : R (.d (.int (i * j))) M) : X2 g rMulU (.d (.int i)) (.d (.int j)) M R := x2_l (x2_I (k := fun i j => .int (i * j)) (fun _ _ _ => .int _) hc q)
theorem x2_rep {k : Int} (hk : 0 ≤ k ∧ k ≤ 100000) (hl : xs.length * k.toNat ≤ 100000) (q : R (.d (.lst (List.replicate k.toNat xs).flatten)) M) : X2 g rMulU (.d (.lst xs)) (.d (.int k)) M R := x2_r fun ρ F H v u Q s ra rb kk => by
  cases ra with
  | lst e1 d1 =>
    cases rb
    have l1 := d1.length
    refine ⟨_, k, _, rfl, rfl, s.sub _ _ e1, by omega, by omega, Nat.le_trans (by rw [l1]; exact hl) (by decide : 100000 ≤ sizeLine), fun p hp => ?_⟩
    obtain ⟨s2, st2⟩ := s.lay (o := .lst _) hp
    refine kk _ (.d (.lst (List.replicate k.toNat xs).flatten)) _ _ _ _ s2 st2 (.lst upd_same (DrA.mono st2.f ?_)) q
    generalize k.toNat = n
    induction n with
    | zero => exact .nil
    | succ n ih => exact d1.app ih
theorem x2_mod (hc : 0 < j) (q : R (.d (.int (i % j))) M) : X2 g rModU (.d (.int i)) (.d (.int j)) M R := x2_I (k := fun i j => .int (i % j)) (fun _ _ _ => .int _) hc q
theorem x2_div (hc : CDiv i j) (q : R (.d (.int (i / j))) M) : X2 g rDivU (.d (.int i)) (.d (.int j)) M R := x2_I (k := fun i j => .int (i / j)) (fun _ _ _ => .int _) hc q
theorem x2_pow (hc : CPow i j) (q : R (.d (.int (i ^ j.toNat))) M) : X2 g rPowU (.d (.int i)) (.d (.int j)) M R := x2_I (k := fun i j => .int (i ^ j.toNat)) (fun _ _ _ => .int _) hc q
end
/-! ### == of data -/
mutual
def D.pd : D → PyData
  | .non => .none
  | .bl b => .bool b
  | .int i => .int i
  | .str x => .str (sOf x)
  | .lst xs => .list (pdA xs)
  | .tup xs => .tuple (pdA xs)
  | .obj _ _ _ => .none
def pdA : List D → List PyData
  | [] => []
  | x :: xs => x.pd :: pdA xs
end
mutual
def D.ok : Nat → D → Bool
  | _, .non => true
  | _, .bl _ => true
  | _, .int _ => true
  | _, .str x => x.all (· < 0x110000)
  | 0, .lst _ => false
  | 0, .tup _ => false
  | n + 1, .lst xs => okA n xs
  | n + 1, .tup xs => okA n xs
  | _, .obj _ _ _ => false
def okA : Nat → List D → Bool
  | _, [] => true
  | n, x :: xs => D.ok n x && okA n xs
end
mutual
theorem Dr.dp {K : PySem.W.Frag} {F H : Hp} (sb : Sub F H) : ∀ {n : Nat} {v : V} {x : D}, Dr F v x → D.ok n x = true → Dp K H v x.pd
  | _, _, _, .non, _ => .non
  | _, _, _, .bl b, _ => .bl b
  | _, _, _, .int i, _ => .int i
  | _, _, _, .str x, _ => .str _
  | 0, _, _, .lst e r, h => by simp [D.ok] at h
  | 0, _, _, .tup e r, h => by simp [D.ok] at h
  | n + 1, _, _, .lst e r, h => .lst (SqL.of (sb _ _ e)) (DrA.dp sb r (by simpa only [D.ok] using h))
  | n + 1, _, _, .tup e r, h => .tup (SqT.of (sb _ _ e)) (DrA.dp sb r (by simpa only [D.ok] using h))
  | n, _, _, .obj e r, h => by cases n <;> simp [D.ok] at h
theorem DrA.dp {K : PySem.W.Frag} {F H : Hp} (sb : Sub F H) : ∀ {n : Nat} {v : List V} {x : List D}, DrA F v x → okA n x = true → DpAll K H v (pdA x)
  | _, _, _, .nil, _ => .nil
  | n, _, _, .cons a r, h => by
    simp only [okA, Bool.and_eq_true] at h
    exact .cons (Dr.dp sb a h.1) (DrA.dp sb r h.2)
end
mutual
theorem ok_shape : ∀ {n : Nat} {x : D}, D.ok n x = true → x.pd.canLay0 = true ∧ x.pd.depth ≤ n
  | _, .non, _ => ⟨rfl, Nat.zero_le _⟩
  | _, .bl b, _ => ⟨rfl, Nat.zero_le _⟩
  | _, .int i, _ => ⟨rfl, Nat.zero_le _⟩
  | n, .str x, h => by
    refine ⟨?_, Nat.zero_le _⟩
    show PyData.strOk (sOf x) = true
    have h' : x.all (fun c => decide (c < 0x110000)) = true := by cases n <;> simpa only [D.ok] using h
    unfold PyData.strOk sOf
    simpa using h'
  | 0, .lst xs, h => by simp [D.ok] at h
  | 0, .tup xs, h => by simp [D.ok] at h
  | n + 1, .lst xs, h => by
    obtain ⟨a, b⟩ := okA_shape (n := n) (x := xs) (by simpa only [D.ok] using h)
    exact ⟨a, Nat.succ_le_succ b⟩
  | n + 1, .tup xs, h => by
    obtain ⟨a, b⟩ := okA_shape (n := n) (x := xs) (by simpa only [D.ok] using h)
    exact ⟨a, Nat.succ_le_succ b⟩
  | n, .obj _ _ _, h => by cases n <;> simp [D.ok] at h
theorem okA_shape : ∀ {n : Nat} {x : List D}, okA n x = true → PyData.canLayAll0 (pdA x) = true ∧ PyData.depthAll (pdA x) ≤ n
  | _, [], _ => ⟨rfl, Nat.zero_le _⟩
  | n, x :: xs, h => by
    simp only [okA, Bool.and_eq_true] at h
    obtain ⟨a, b⟩ := ok_shape h.1
    obtain ⟨c, d⟩ := okA_shape h.2
    refine ⟨?_, ?_⟩
    · show (x.pd.canLay0 && PyData.canLayAll0 (pdA xs)) = true
      rw [a, c]; rfl
    · show max x.pd.depth (PyData.depthAll (pdA xs)) ≤ n
      omega
end
theorem ok_shaped {n : Nat} {x : D} (h : D.ok n x = true) (hn : n ≤ 64) : SeqAt.shaped x.pd = true := by
  obtain ⟨a, b⟩ := ok_shape h
  unfold SeqAt.shaped
  rw [a, decide_eq_true (Nat.le_trans b hn)]
  rfl
def D.beq (x y : D) : Bool := PyData.eqv x.pd y.pd
theorem beq_int (i j : Int) : D.beq (.int i) (.int j) = (i == j) := rfl
theorem beq_bl (i j : Bool) : D.beq (.bl i) (.bl j) = (i == j) := rfl
theorem beq_str (x y : List Nat) : D.beq (.str x) (.str y) = (x == y) := by
  show (sOf x == sOf y) = (x == y)
  by_cases h : x = y
  · subst h; simp
  · have h2 : ¬ sOf x = sOf y := fun z => h (sOf_inj z)
    rw [beq_eq_false_iff_ne.mpr h, beq_eq_false_iff_ne.mpr h2]
theorem beq_tup2 (a b c d : D) : D.beq (.tup [a, b]) (.tup [c, d]) = (D.beq a c && (D.beq b d && true)) := rfl
theorem beq_lst_nil : D.beq (.lst []) (.lst []) = true := rfl
theorem beq_lst_cons (a b : D) (as bs : List D) : D.beq (.lst (a :: as)) (.lst (b :: bs)) = (D.beq a b && D.beq (.lst as) (.lst bs)) := rfl
theorem beq_ints : ∀ (xs ys : List Int), D.beq (.lst (xs.map D.int)) (.lst (ys.map D.int)) = (xs == ys)
  | [], [] => rfl
  | [], y :: ys => rfl
  | x :: xs, [] => rfl
  | x :: xs, y :: ys => by
    show (D.beq (.int x) (.int y) && D.beq (.lst (xs.map D.int)) (.lst (ys.map D.int))) = _
    rw [beq_ints xs ys, beq_int]
    rfl
theorem beq_refl {n : Nat} {x : D} (h : D.ok n x = true) : D.beq x x = true := SeqAt.eqv_refl _ (ok_shape h).1
def rEqU (K : PySem.W.Frag) : R2 := rEqD K
def rNeU (K : PySem.W.Frag) : R2 := rNeD K
theorem op_eqU {X : Cx} (hu : X.A.units + 64 < cLine) : OpR X (compareOp .Eq) (rEqU X.K) := op_eqD hu
theorem op_neU {X : Cx} (hu : X.A.units + 64 < cLine) : OpR X (compareOp .NotEq) (rNeU X.K) := op_neD hu
section
variable {g : G} {Z : DX} {Γ : List DV} {M : Mem} {R : DV → Mem → Prop} {x y : D} {K : PySem.W.Frag}
theorem x2_eq (n : Nat) (hx : D.ok n x = true) (hy : D.ok n y = true) (q : R (.d (.bl (D.beq x y))) M) (hn : n ≤ 64 := by decide) : X2 g (rEqU K) (.d x) (.d y) M R := fun ρ F H v u Q s ra rb kk =>
  ⟨_, _, Dr.dp s.sub ra hx, Dr.dp s.sub rb hy, ok_shaped hx hn, ok_shaped hy hn, kk _ (.d (.bl (D.beq x y))) ρ F H M s (Step.refl ..) (.bl _) q⟩
theorem x2_ne (n : Nat) (hx : D.ok n x = true) (hy : D.ok n y = true) (q : R (.d (.bl (!D.beq x y))) M) (hn : n ≤ 64 := by decide) : X2 g (rNeU K) (.d x) (.d y) M R := fun ρ F H v u Q s ra rb kk =>
  ⟨_, _, Dr.dp s.sub ra hx, Dr.dp s.sub rb hy, ok_shaped hx hn, ok_shaped hy hn, kk _ (.d (.bl (!D.beq x y))) ρ F H M s (Step.refl ..) (.bl _) q⟩
end
/-! ### order -/
def rLtS : R2 := fun x y H Q => ∃ i j, x = .str i ∧ y = .str j ∧ Q (.bl (decide (i.cps.toList < j.cps.toList))) H
def rLeS : R2 := fun x y H Q => ∃ i j, x = .str i ∧ y = .str j ∧ Q (.bl (!decide (j.cps.toList < i.cps.toList))) H
def rLtL (K : PySem.W.Frag) : R2 := fun x y H Q => ∃ a b ns ms, x = .ref a ∧ y = .ref b ∧ SqL K H a (ns.map V.int) ∧ SqL K H b (ms.map V.int) ∧ Q (.bl (HT.lexLt ns ms)) H
theorem first_shift (e r : Nat → Bool) (z : Bool) : ∀ (l : List Nat), SeqAt.firstLt e r z (l.map (· + 1)) = SeqAt.firstLt (fun j => e (j + 1)) (fun j => r (j + 1)) z l
  | [] => rfl
  | j :: l => by
    show (if e (j + 1) = true then SeqAt.firstLt e r z (l.map (· + 1)) else r (j + 1)) = _
    rw [first_shift e r z l]
    rfl
theorem first_lex : ∀ (ns ms : List Int), SeqAt.firstLt (fun j => decide (ns.getD j 0 = ms.getD j 0)) (fun j => decide (ns.getD j 0 < ms.getD j 0)) (decide (ns.length < ms.length)) (List.range (min ns.length ms.length)) = HT.lexLt ns ms
  | [], [] => rfl
  | [], y :: ys => by simp [SeqAt.firstLt, HT.lexLt]
  | x :: xs, [] => by simp [SeqAt.firstLt, HT.lexLt]
  | x :: xs, y :: ys => by
    have e : min (x :: xs).length (y :: ys).length = min xs.length ys.length + 1 := by simp only [List.length_cons]; omega
    rw [e, List.range_succ_eq_map, HT.lexLt_cons]
    show (if decide (x = y) = true then _ else decide (x < y)) = _
    by_cases h : x = y
    · rw [if_pos (decide_eq_true h), if_pos h]
      have s := first_shift (fun j => decide ((x :: xs).getD j 0 = (y :: ys).getD j 0)) (fun j => decide ((x :: xs).getD j 0 < (y :: ys).getD j 0)) (decide ((x :: xs).length < (y :: ys).length)) (List.range (min xs.length ys.length))
      refine Eq.trans s ?_
      have ih := first_lex xs ys
      have l : decide ((x :: xs).length < (y :: ys).length) = decide (xs.length < ys.length) := by simp
      rw [l]
      exact ih
    · rw [if_neg (by simpa using h), if_neg h]
end DL
set_option maxRecDepth 100000
set_option maxHeartbeats 4000000
/-! DL5: order, in, indexes, slices, built-ins, methods, what is walked -/
namespace DL
open PySem PySem.Spec PyProof.Rows L2
theorem op_ltL {X : Cx} (hu : X.A.units < cLine) : OpR X (compareOp .Lt) (rLtL X.K) := by
  intro pins s σ H x y v u Q I rx ry h
  obtain ⟨a, b, ns, ms, rfl, rfl, ha, hb, q⟩ := h
  cases rx
  cases ry
  obtain ⟨l1, w1, p1, _⟩ := I.list ha
  obtain ⟨l2, w2, p2, _⟩ := I.list hb
  have i1 : IntsAre l1 ns := Vals.ints w1
  have i2 : IntsAre l2 ms := Vals.ints w2
  have s1 : l1.toArray.size = ns.length := by rw [List.size_toArray]; exact i1.length
  have s2 : l2.toArray.size = ms.length := by rw [List.size_toArray]; exact i2.length
  have g1 : ∀ j (hj : j < l1.toArray.size), ∃ t, l1.toArray[j] = .int (ns.getD j 0) t := fun j hj => PyProof.Rows.IntsAre.int_at i1 _ _ (by simp at hj; simp [hj])
  have g2 : ∀ j (hj : j < l2.toArray.size), ∃ t, l2.toArray[j] = .int (ms.getD j 0) t := fun j hj => PyProof.Rows.IntsAre.int_at i2 _ _ (by simp at hj; simp [hj])
  have L := SeqAt.RcLt.lists (A := X.A) (s := s) (e := fun j => decide (ns.getD j 0 = ms.getD j 0)) (r := fun j => decide (ns.getD j 0 < ms.getD j 0)) p1.isList p2.isList hu (fun j q1 q2 => by
    obtain ⟨t1, e1⟩ := g1 j q1
    obtain ⟨t2, e2⟩ := g2 j q2
    rw [e1, e2]
    have hz : decide (ns.getD j 0 = ms.getD j 0) = (ns.getD j 0 == ms.getD j 0) := (Bool.beq_eq_decide_eq _ _).symm
    rw [hz]
    exact SeqAt.EqAt.int_int _ _ _ _) (fun j q1 q2 _ => by
    obtain ⟨t1, e1⟩ := g1 j q1
    obtain ⟨t2, e2⟩ := g2 j q2
    rw [e1, e2]
    exact fun _ _ _ _ h => PyProof.Rows.lt_int h)
  rw [s1, s2, first_lex] at L
  have fin : wpAny (model X.prog X.w) X.A (compareOp .Lt (.ref a) (.ref b)) (EP X pins σ Q) X.xe s := L X.prog X.w X.xe (EP X pins σ Q) ⟨.bl _, H, I, rfl, q⟩
  exact fin
def rLtU (K : PySem.W.Frag) : R2 := rOr (rI0 fun i j => .bl (decide (i < j))) (rOr rLtS (rLtL K))
theorem op_ltU {X : Cx} (hu : X.A.units + 64 < cLine) : OpR X (compareOp .Lt) (rLtU X.K) := op_or2 op_lt (op_or2 op_lt_str (op_ltL (Nat.lt_of_le_of_lt (Nat.le_add_right _ _) hu)))
def rLeU : R2 := rOr (rI0 fun i j => .bl (decide (i ≤ j))) rLeS
theorem op_leU {X : Cx} : OpR X (compareOp .LtE) rLeU := op_or2 op_le op_le_str
def rGtU : R2 := rI0 fun i j => .bl (decide (j < i))
theorem op_gtU {X : Cx} : OpR X (compareOp .Gt) rGtU := op_gt
def rGeU : R2 := rI0 fun i j => .bl (decide (j ≤ i))
theorem op_geU {X : Cx} : OpR X (compareOp .GtE) rGeU := op_ge
/-- in -/
def rInT : R2 := fun x y H Q => ∃ c z, x = .str ⟨#[c]⟩ ∧ y = .str z ∧ Q (.bl (decide (c ∈ z.cps.toList))) H
def rNiT : R2 := fun x y H Q => ∃ c z, x = .str ⟨#[c]⟩ ∧ y = .str z ∧ Q (.bl (!decide (c ∈ z.cps.toList))) H
def rInU (K : PySem.W.Frag) : R2 := rOr rInT (rIn K false)
def rNiU (K : PySem.W.Frag) : R2 := rOr rNiT (rIn K true)
theorem op_inU {X : Cx} : OpR X (compareOp .In) (rInU X.K) := op_or2 op_in_sign op_in_seq
theorem op_niU {X : Cx} : OpR X (compareOp .NotIn) (rNiU X.K) := op_or2 op_notIn_sign op_notIn_seq
section
variable {g : G} {Z : DX} {Γ : List DV} {M : Mem} {R : DV → Mem → Prop} {i j : Int} {x y : List Nat} {xs ys : List D} {K : PySem.W.Frag}
theorem x2_ltI (q : R (.d (.bl (decide (i < j)))) M) : X2 g (rLtU K) (.d (.int i)) (.d (.int j)) M R := x2_l (x2_I0 (k := fun i j => .bl (decide (i < j))) (fun _ _ _ => .bl _) q)
theorem x2_leI (q : R (.d (.bl (decide (i ≤ j)))) M) : X2 g rLeU (.d (.int i)) (.d (.int j)) M R := x2_l (x2_I0 (k := fun i j => .bl (decide (i ≤ j))) (fun _ _ _ => .bl _) q)
theorem x2_gtI (q : R (.d (.bl (decide (j < i)))) M) : X2 g rGtU (.d (.int i)) (.d (.int j)) M R := x2_I0 (k := fun i j => .bl (decide (j < i))) (fun _ _ _ => .bl _) q
theorem x2_geI (q : R (.d (.bl (decide (j ≤ i)))) M) : X2 g rGeU (.d (.int i)) (.d (.int j)) M R := x2_I0 (k := fun i j => .bl (decide (j ≤ i))) (fun _ _ _ => .bl _) q
theorem x2_leS (q : R (.d (.bl (!decide (y < x)))) M) : X2 g rLeU (.d (.str x)) (.d (.str y)) M R := x2_r fun ρ F H v u Q s ra rb kk => by
  cases ra
  cases rb
  refine ⟨_, _, rfl, rfl, ?_⟩
  exact kk _ (.d (.bl (!decide (y < x)))) ρ F H M s (Step.refl ..) (by simp only [sOf]; exact .bl _) q
theorem x2_ltLI {ns ms : List Int} (hK : K = g.K) (q : R (.d (.bl (HT.lexLt ns ms))) M) : X2 g (rLtU K) (.d (.lst (ns.map D.int))) (.d (.lst (ms.map D.int))) M R := x2_r (x2_r fun ρ F H v u Q s ra rb kk => by
  cases ra with
  | lst e1 d1 =>
    cases rb with
    | lst e2 d2 =>
      rw [d1.ints] at e1
      rw [d2.ints] at e2
      exact ⟨_, _, ns, ms, rfl, rfl, SqL.of (s.sub _ _ e1), SqL.of (s.sub _ _ e2), kk _ (.d (.bl (HT.lexLt ns ms))) ρ F H M s (Step.refl ..) (.bl _) q⟩)
theorem x2_inS {c : Nat} (q : R (.d (.bl (decide (c ∈ y)))) M) : X2 g (rInU K) (.d (.str [c])) (.d (.str y)) M R := x2_l fun ρ F H v u Q s ra rb kk => by
  cases ra
  cases rb
  refine ⟨c, _, rfl, rfl, kk _ (.d (.bl (decide (c ∈ y)))) ρ F H M s (Step.refl ..) (by simp only [sOf]; exact .bl _) q⟩
theorem x2_niS {c : Nat} (q : R (.d (.bl (!decide (c ∈ y)))) M) : X2 g (rNiU K) (.d (.str [c])) (.d (.str y)) M R := x2_l fun ρ F H v u Q s ra rb kk => by
  cases ra
  cases rb
  refine ⟨c, _, rfl, rfl, kk _ (.d (.bl (!decide (c ∈ y)))) ρ F H M s (Step.refl ..) (by simp only [sOf]; exact .bl _) q⟩
/-! ### indexes -/
theorem atI_map {α β : Type} {f : α → β} {l : List α} {i : Int} : atI (l.map f) i = (atI l i).map f := by
  unfold atI
  rw [List.length_map]
  cases ixN l.length i with
  | none => rfl
  | some j => simp
theorem DrA.atI {F : Hp} {vs : List V} {ds : List D} {i : Int} {d : D} (r : DrA F vs ds) (h : L2.atI ds i = some d) : ∃ v, L2.atI vs i = some v ∧ Dr F v d := by
  unfold L2.atI at h ⊢
  rw [r.length]
  cases e : ixN ds.length i with
  | none => rw [e] at h; cases h
  | some j =>
    rw [e] at h
    exact r.get h
theorem x2_ixL {d : D} (hK : K = g.K) (h : atI xs i = some d) (q : R (.d d) M) : X2 g (rIx K) (.d (.lst xs)) (.d (.int i)) M R := fun ρ F H v u Q s ra rb kk => by
  cases ra with
  | lst e1 d1 =>
    cases rb
    obtain ⟨w, e2, rw'⟩ := d1.atI h
    exact .inl ⟨_, _, i, w, rfl, rfl, SqL.of (s.sub _ _ e1), e2, kk _ (.d d) ρ F H M s (Step.refl ..) rw' q⟩
theorem x2_ixT {d : D} (hK : K = g.K) (h : atI xs i = some d) (q : R (.d d) M) : X2 g (rIx K) (.d (.tup xs)) (.d (.int i)) M R := fun ρ F H v u Q s ra rb kk => by
  cases ra with
  | tup e1 d1 =>
    cases rb
    obtain ⟨w, e2, rw'⟩ := d1.atI h
    exact .inr (.inl ⟨_, _, i, w, rfl, rfl, SqT.of (s.sub _ _ e1), e2, kk _ (.d d) ρ F H M s (Step.refl ..) rw' q⟩)
theorem x2_ixS {c : Nat} (h : atI x i = some c) (hl : x.length ≤ 100000) (q : R (.d (.str [c])) M) : X2 g (rIx K) (.d (.str x)) (.d (.int i)) M R := fun ρ F H v u Q s ra rb kk => by
  cases ra
  cases rb
  refine .inr (.inr ⟨_, i, c, rfl, rfl, ?_, ?_, kk _ (.d (.str [c])) ρ F H M s (Step.refl ..) (.str [c]) q⟩)
  · rw [sOf_len]; exact Nat.le_trans hl (by decide)
  · simpa [sOf] using h
theorem x2_ixR {ns : List Int} {z : Int} (hK : K = g.K) (h : atI ns i = some z) (q : R (.d (.int z)) M) : X2 g (rIx K) (.ro ns) (.d (.int i)) M R := fun ρ F H v u Q s ra rb kk => by
  obtain ⟨a, rfl, h1⟩ := ra
  cases rb
  subst hK
  refine .inl ⟨a, _, i, .int z, rfl, rfl, ?_, by rw [atI_map, h]; rfl, kk _ (.d (.int z)) ρ F H M s (Step.refl ..) (.int z) q⟩
  rcases h1 with (h1 | ⟨o, h1⟩) | h1
  · exact .inl (.inl (s.sub _ _ h1))
  · exact .inl (.inr ⟨o, s.sub _ _ h1⟩)
  · exact .inr h1
theorem x2_ixM {k : Nat} {ds : List DV} {dv : DV} (hK : K = g.K) (hm : M[k]? = some (some (.lst ds))) (h : atI ds i = some dv) (q : R dv M) : X2 g (rIx K) (.m k) (.d (.int i)) M R := fun ρ F H v u Q s ra rb kk => by
  obtain ⟨a, rfl, hk⟩ := ra
  cases rb
  obtain ⟨_, vs, e, r⟩ := s.mo k a _ hk hm
  unfold L2.atI at h
  cases ej : ixN ds.length i with
  | none => rw [ej] at h; cases h
  | some j =>
    rw [ej] at h
    obtain ⟨w, e2, rw'⟩ := r.get (show ds[j]? = some dv from h)
    refine .inl ⟨a, vs, i, w, rfl, rfl, SqL.of e, ?_, kk _ dv ρ F H M s (Step.refl ..) rw' q⟩
    unfold L2.atI
    rw [r.length, ej]
    exact e2
theorem at_0 {α : Type} {x : α} {l : List α} : atI (x :: l) 0 = some x := atI_nat (j := 0) rfl
theorem at_1 {α : Type} {x y : α} {l : List α} : atI (x :: y :: l) 1 = some y := atI_nat (j := 1) rfl
theorem at_n {α : Type} {l : List α} {j : Nat} {z : α} (h : l[j]? = some z) : atI l (j : Int) = some z := atI_nat h
theorem at_i {α : Type} {l : List α} {i : Int} (h0 : 0 ≤ i) (h1 : i < l.length) : atI l i = some (l[i.toNat]'(by omega)) := by
  have e : ((i.toNat : Nat) : Int) = i := by omega
  have q := atI_nat (xs := l) (j := i.toNat) (v := l[i.toNat]'(by omega)) (List.getElem?_eq_getElem (by omega))
  rw [e] at q
  exact q
/-! ### slices -/
theorem sl_s {lo hi : Option Int} (hl : x.length ≤ 100000) (q : R (.d (.str ((x.drop (HT.sIx x.length 0 lo)).take (HT.sIx x.length x.length hi - HT.sIx x.length 0 lo)))) M) : XSl g rSlS (.d (.str x)) lo hi M R := fun ρ F H v Q s ra kk => by
  cases ra
  refine ⟨_, rfl, by rw [sOf_len]; exact Nat.le_trans hl (by decide), ?_⟩
  have e : cutS (sOf x) lo hi = sOf ((x.drop (HT.sIx x.length 0 lo)).take (HT.sIx x.length x.length hi - HT.sIx x.length 0 lo)) := by
    unfold cutS
    rw [sOf_len]
    rfl
  rw [e]
  exact kk _ (.d (.str _)) ρ F H M s (Step.refl ..) (.str _) q
/-! ### built-ins -/
def rLen (K : PySem.W.Frag) : List V → Hp → VK → Prop := fun xs H Q => ∃ x n, xs = [x] ∧ LenV K x H n ∧ Q (.int n) H
theorem call_lenU {X : Cx} : CallR X (.builtin "len") (rLen X.K) := call_len
def rAbs : List V → Hp → VK → Prop := fun xs H Q => ∃ i, xs = [V.int i] ∧ Q (V.int (if i < 0 then -i else i)) H
theorem call_absU {X : Cx} : CallR X (.builtin "abs") rAbs := call_abs
def rInt1 : List V → Hp → VK → Prop := fun xs H Q => (∃ i, xs = [V.int i] ∧ Q (V.int i) H) ∨ ∃ k, xs = [V.bl k] ∧ Q (V.int (if k = true then 1 else 0)) H
theorem call_intU {X : Cx} : CallR X (.type "int") rInt1 := call_int1
def rList1 (K : PySem.W.Frag) : List V → Hp → VK → Prop := fun xs H Q => ∃ p ys, xs = [V.ref p] ∧ (SqL K H p ys ∨ SqT K H p ys) ∧ ∀ (l : Addr), H l = none → Q (V.ref l) (upd H l (HO.lst ys))
theorem call_listU {X : Cx} : CallR X (.type "list") (rList1 X.K) := call_list_of
theorem xn_lenS (hl : x.length ≤ 100000) (q : R (.d (.int x.length)) M) : XN g (rLen K) [.d (.str x)] M R := fun ρ F H xs Q s ra kk => by
  cases ra with
  | cons h r =>
    cases r
    cases h
    exact ⟨_, x.length, rfl, ⟨by rw [sOf_len]; exact Nat.le_trans hl (by decide), (sOf_len x).symm⟩, kk _ (.d (.int x.length)) ρ F H M s (Step.refl ..) (.int _) q⟩
theorem xn_lenL (q : R (.d (.int xs.length)) M) : XN g (rLen K) [.d (.lst xs)] M R := fun ρ F H vs Q s ra kk => by
  cases ra with
  | cons h r =>
    cases r
    cases h with
    | lst e d => exact ⟨_, xs.length, rfl, .inl ⟨_, SqL.of (s.sub _ _ e), d.length.symm⟩, kk _ (.d (.int xs.length)) ρ F H M s (Step.refl ..) (.int _) q⟩
theorem xn_lenT (q : R (.d (.int xs.length)) M) : XN g (rLen K) [.d (.tup xs)] M R := fun ρ F H vs Q s ra kk => by
  cases ra with
  | cons h r =>
    cases r
    cases h with
    | tup e d => exact ⟨_, xs.length, rfl, .inr ⟨_, SqT.of (s.sub _ _ e), d.length.symm⟩, kk _ (.d (.int xs.length)) ρ F H M s (Step.refl ..) (.int _) q⟩
theorem xn_lenR {ns : List Int} (hK : K = g.K) (q : R (.d (.int ns.length)) M) : XN g (rLen K) [.ro ns] M R := fun ρ F H vs Q s ra kk => by
  subst hK
  cases ra with
  | cons h r =>
    cases r
    obtain ⟨a, rfl, h1⟩ := h
    refine ⟨_, ns.length, rfl, .inl ⟨ns.map V.int, ?_, (List.length_map (f := V.int)).symm⟩, kk _ (.d (.int ns.length)) ρ F H M s (Step.refl ..) (.int _) q⟩
    rcases h1 with (h1 | ⟨o, h1⟩) | h1
    · exact .inl (.inl (s.sub _ _ h1))
    · exact .inl (.inr ⟨o, s.sub _ _ h1⟩)
    · exact .inr h1
theorem xn_lenM {k : Nat} {ds : List DV} (hm : M[k]? = some (some (.lst ds))) (q : R (.d (.int ds.length)) M) : XN g (rLen K) [.m k] M R := fun ρ F H vs Q s ra kk => by
  cases ra with
  | cons h r =>
    cases r
    obtain ⟨a, rfl, hk⟩ := h
    obtain ⟨_, vs, e, r⟩ := s.mo k a _ hk hm
    exact ⟨_, ds.length, rfl, .inl ⟨_, SqL.of e, r.length.symm⟩, kk _ (.d (.int ds.length)) ρ F H M s (Step.refl ..) (.int _) q⟩
theorem xn_abs (q : R (.d (.int (if i < 0 then -i else i))) M) : XN g rAbs [.d (.int i)] M R := fun ρ F H vs Q s ra kk => by
  cases ra with
  | cons h r =>
    cases r
    cases h
    exact ⟨i, rfl, kk _ (.d (.int _)) ρ F H M s (Step.refl ..) (.int _) q⟩
theorem xn_intI (q : R (.d (.int i)) M) : XN g rInt1 [.d (.int i)] M R := fun ρ F H vs Q s ra kk => by
  cases ra with
  | cons h r =>
    cases r
    cases h
    exact .inl ⟨i, rfl, kk _ (.d (.int _)) ρ F H M s (Step.refl ..) (.int _) q⟩
theorem xn_intB {b : Bool} (q : R (.d (.int (if b = true then 1 else 0))) M) : XN g rInt1 [.d (.bl b)] M R := fun ρ F H vs Q s ra kk => by
  cases ra with
  | cons h r =>
    cases r
    cases h
    exact .inr ⟨b, rfl, kk _ (.d (.int _)) ρ F H M s (Step.refl ..) (.int _) q⟩
theorem xn_listF (q : R (.d (.lst xs)) M) : XN g (rList1 K) [.d (.lst xs)] M R := fun ρ F H vs Q s ra kk => by
  cases ra with
  | cons h r =>
    cases r
    cases h with
    | lst e d =>
      refine ⟨_, _, rfl, .inl (SqL.of (s.sub _ _ e)), fun p hp => ?_⟩
      obtain ⟨s2, st2⟩ := s.lay (o := .lst _) hp
      exact kk _ (.d (.lst xs)) _ _ _ _ s2 st2 (.lst upd_same (d.mono st2.f)) q
def rAllL (K : PySem.W.Frag) : List V → Hp → VK → Prop := rAll K
def rAnyL (K : PySem.W.Frag) : List V → Hp → VK → Prop := rAny K
def rSumL (K : PySem.W.Frag) : List V → Hp → VK → Prop := rSum K
theorem xn_all {bs : List Bool} (q : R (.d (.bl (bs.all id))) M) : XN g (rAllL K) [.d (.lst (bs.map D.bl))] M R := fun ρ F H vs Q s ra kk => by
  cases ra with
  | cons h r =>
    cases r
    cases h with
    | lst e d =>
      rw [d.bools] at e
      exact ⟨_, bs, rfl, SqL.of (s.sub _ _ e), kk _ (.d (.bl (bs.all id))) _ _ _ _ s (Step.refl ..) (.bl _) q⟩
theorem xn_sum {bs : List Int} (q : R (.d (.int bs.sum)) M) : XN g (rSumL K) [.d (.lst (bs.map D.int))] M R := fun ρ F H vs Q s ra kk => by
  cases ra with
  | cons h r =>
    cases r
    cases h with
    | lst e d =>
      rw [d.ints] at e
      exact ⟨_, bs, rfl, SqL.of (s.sub _ _ e), kk _ (.d (.int bs.sum)) _ _ _ _ s (Step.refl ..) (.int _) q⟩
/-! isinstance -/
def tyOf : D → Option String
  | .non => some "NoneType"
  | .bl _ => some "bool"
  | .int _ => some "int"
  | .str _ => some "str"
  | .lst _ => some "list"
  | .tup _ => some "tuple"
  | .obj _ _ _ => none
theorem ty_dr {K : PySem.W.Frag} {F H : Hp} {v : V} {x : D} {t : String} (sb : Sub F H) (r : Dr F v x) (h : tyOf x = some t) : TyX K H v (.type t) := by
  cases r with
  | non => cases h; exact .base .non
  | bl b => cases h; exact .base (.bl b)
  | int i => cases h; exact .base (.int i)
  | str z => cases h; exact .base (.str _)
  | lst e d => cases h; exact .base (.lst (sb _ _ e))
  | tup e d => cases h; exact .base (.tup (sb _ _ e))
  | obj e d => cases h
/-- isinstance(e, T), T a built-in class by its name -/
def tIsi (K : PySem.W.Frag) (T : String) (te : TE) : TE := tCB (rIsi K) (tCons te (tCons (tC (.ty T)) tNil))
theorem xe_isi {te : TE} {T : String} (h : XE g Z te Γ M fun a M1 => ∃ x t b, a = .d x ∧ tyOf x = some t ∧ kitB t T = some b ∧ R (.d (.bl b)) M1) : XE g Z (tIsi K T te) Γ M R := fun ρ F H σ Q s rs kx q => by
  refine h ρ F H σ _ s rs kx fun v a ρ1 F1 H1 M1 s1 st1 rv h1 => ?_
  obtain ⟨x, t, b, rfl, ht, hb, k⟩ := h1
  exact ⟨v, .ty T, _, _, b, rfl, .ty T, ty_dr s1.sub rv ht, kit_ty hb, q _ (.d (.bl b)) _ _ _ _ s1 st1 (.bl b) k⟩
/-! ### methods -/
theorem xm_app {k : Nat} {ds : List DV} {dv : DV} (hm : M[k]? = some (some (.lst ds))) (hl : ds.length < 100000) (q : R (.d .non) (M.set k (some (.lst (ds ++ [dv]))))) : XM g rAppend (.m k) [dv] M R := fun ρ F H v vs Q s ra rb kk => by
  obtain ⟨a, rfl, hk⟩ := ra
  cases rb with
  | cons h r =>
    cases r
    obtain ⟨_, vs, e, r⟩ := s.mo k a _ hk hm
    obtain ⟨s2, st2⟩ := s.chg hk hm (mo' := .lst (ds ++ [dv])) (o := .lst (vs ++ [_])) ⟨_, upd_same, r.app (.cons h .nil)⟩
    exact ⟨a, vs, _, rfl, rfl, e, Nat.lt_of_lt_of_le (by rw [r.length]; exact hl) (by decide : 100000 ≤ sizeLine), kk _ (.d .non) _ _ _ _ s2 st2 .non q⟩
theorem xm_ext {k : Nat} {ds : List DV} (hm : M[k]? = some (some (.lst ds))) (hl : ds.length + xs.length ≤ 100000) (q : R (.d .non) (M.set k (some (.lst (ds ++ xs.map DV.d))))) : XM g rExtend (.m k) [.d (.lst xs)] M R := fun ρ F H v vs Q s ra rb kk => by
  obtain ⟨a, rfl, hk⟩ := ra
  cases rb with
  | cons h r =>
    cases r
    cases h with
    | lst e2 d2 =>
      obtain ⟨_, vs, e, r⟩ := s.mo k a _ hk hm
      obtain ⟨s2, st2⟩ := s.chg hk hm (mo' := .lst (ds ++ xs.map DV.d)) (o := .lst (vs ++ _)) ⟨_, upd_same, r.app (RvA.ofD d2)⟩
      exact ⟨a, _, vs, _, rfl, rfl, e, s.sub _ _ e2, Nat.le_trans (by rw [r.length, d2.length]; exact hl) (by decide : 100000 ≤ sizeLine), kk _ (.d .non) _ _ _ _ s2 st2 .non q⟩
def rJoin (K : PySem.W.Frag) : V → List V → Hp → VK → Prop := fun x xs H Q => ∃ a p ys, x = V.str a ∧ xs = [V.ref p] ∧ (SqL K H p (ys.map V.str) ∨ SqT K H p (ys.map V.str)) ∧ (ys.map (·.length)).sum + ys.length * a.length ≤ 16777216 ∧ Q (V.str (Txt.join a ys)) H
theorem xm_join {zs : List (List Nat)} (hl : (zs.map List.length).sum + zs.length * x.length ≤ 100000) (q : R (.d (.str (TL.joinL x zs))) M) : XM g (rJoin K) (.d (.str x)) [.d (.lst (zs.map D.str))] M R := fun ρ F H v vs Q s ra rb kk => by
  cases ra
  cases rb with
  | cons h r =>
    cases r
    cases h with
    | lst e2 d2 =>
      rw [d2.strs] at e2
      refine ⟨_, _, _, rfl, rfl, .inl (SqL.of (s.sub _ _ e2)), ?_, ?_⟩
      · have e : (zs.map sOf).map (fun z => z.length) = zs.map List.length := by
          rw [List.map_map]
          exact List.map_congr_left fun z _ => sOf_len z
        rw [e, sOf_len, List.length_map]
        exact Nat.le_trans hl (by decide)
      · have e : Txt.join (sOf x) (zs.map sOf) = sOf (TL.joinL x zs) := SX.join_S x zs
        rw [e]
        exact kk _ (.d (.str _)) ρ F H M s (Step.refl ..) (.str _) q
end
/-! ### what is walked -/
section
variable {g : G} {Z : DX} {Γ : List DV} {M : Mem} {R : List DV → Mem → Prop} {te : TE} {ta : TA} {K : PySem.W.Frag} {x y : List Nat} {xs : List D}
theorem xi_list (hK : K = g.K) (h : XE g Z te Γ M fun a M1 => ∃ xs, a = .d (.lst xs) ∧ R (xs.map DV.d) M1) : XI g Z (iList K te) Γ M R := fun ρ F H σ Q s rs kx q => by
  subst hK
  refine h ρ F H σ _ s rs kx fun v a ρ1 F1 H1 M1 s1 st1 rv h1 => ?_
  obtain ⟨xs, rfl, k⟩ := h1
  cases rv with
  | lst e d =>
    refine ⟨_, rfl, ⟨_, SqL.of (s1.sub _ _ e)⟩, q _ _ ρ1 F1 H1 M1 s1 st1 ⟨fun ρ2 F2 H2 M2 s2 sb i hi => ?_, fun ρ2 F2 H2 M2 s2 sb => ?_, fun ρ2 F2 H2 M2 s2 sb i x H' hi hy => ?_⟩ k⟩
    · have e2 := SqL.of (K := g.K) (s2.sub _ _ (sb _ _ e))
      have hl := d.length
      rw [List.length_map] at hi
      exact ⟨_, _, e2, List.getElem?_eq_getElem (by omega)⟩
    · have e2 := SqL.of (K := g.K) (s2.sub _ _ (sb _ _ e))
      refine ⟨_, e2, ?_⟩
      rw [List.length_map, d.length]
      exact Nat.le_refl _
    · obtain ⟨rfl, hx⟩ := hy
      have hx := hx _ (SqL.of (s2.sub _ _ (sb _ _ e)))
      rw [List.length_map] at hi
      obtain ⟨u, e3, r3⟩ := d.get (List.getElem?_eq_getElem hi)
      rw [hx] at e3; cases e3
      exact ⟨F2, .d xs[i], s2, Step.refl .., r3.mono sb, by rw [List.getElem?_map, List.getElem?_eq_getElem hi]; rfl⟩
theorem xi_str (h : XE g Z te Γ M fun a M1 => ∃ x, a = .d (.str x) ∧ R (x.map fun c => .d (.str [c])) M1) : XI g Z (iStr te) Γ M R := fun ρ F H σ Q s rs kx q => by
  refine h ρ F H σ _ s rs kx fun v a ρ1 F1 H1 M1 s1 st1 rv h1 => ?_
  obtain ⟨x, rfl, k⟩ := h1
  cases rv
  have sz : (sOf x).cps.size = x.length := by simp [sOf]
  refine ⟨_, rfl, q _ _ ρ1 F1 H1 M1 s1 st1 ⟨fun ρ2 F2 H2 M2 s2 sb i hi => ?_, fun ρ2 F2 H2 M2 s2 sb => ?_, fun ρ2 F2 H2 M2 s2 sb i v H' hi hy => ?_⟩ k⟩
  · show i < (sOf x).cps.size
    rw [sz]; rw [List.length_map] at hi; exact hi
  · show (sOf x).cps.size ≤ _
    rw [sz, List.length_map]; exact Nat.le_refl _
  · obtain ⟨rfl, c, hc, rfl⟩ := hy
    have hc' : x[i]? = some c := by simpa [sOf] using hc
    exact ⟨F2, .d (.str [c]), s2, Step.refl .., Dr.str [c], by rw [List.getElem?_map, hc']; rfl⟩
def rngD (lo : Int) (n : Nat) : List DV := (List.range n).map fun i => .d (.int (lo + (i : Nat)))
theorem it_rng {F : Hp} {lo : Int} {n : Nat} : ItOk g F (Itr lo n) (rngD lo n).length (fun i d => (rngD lo n)[i]? = some d) := by
  have hl : (rngD lo n).length = n := by unfold rngD; rw [List.length_map, List.length_range]
  refine ⟨fun ρ2 F2 H2 M2 s2 sb i hi => ?_, fun ρ2 F2 H2 M2 s2 sb => ?_, fun ρ2 F2 H2 M2 s2 sb i v H' hi hy => ?_⟩
  · rw [hl] at hi; exact hi
  · show n ≤ _
    rw [hl]; exact Nat.le_refl _
  · obtain ⟨rfl, rfl⟩ := hy
    rw [hl] at hi
    refine ⟨F2, .d (.int (lo + (i : Nat))), s2, Step.refl .., Dr.int _, ?_⟩
    unfold rngD
    rw [List.getElem?_map, List.getElem?_range hi]; rfl
theorem xi_rng1 (h : XA g Z ta Γ M fun as M1 => ∃ j : Int, as = [.d (.int j)] ∧ -100000 ≤ j ∧ j ≤ 100000 ∧ R (rngD 0 j.toNat) M1) : XI g Z (iRng1 ta) Γ M R := fun ρ F H σ Q s rs kx q => by
  refine h ρ F H σ _ s rs kx fun vs as ρ1 F1 H1 M1 s1 st1 rv h1 => ?_
  obtain ⟨j, rfl, l1, l2, k⟩ := h1
  cases rv with
  | cons a r =>
    cases r
    cases a
    exact ⟨j, rfl, by omega, by omega, q _ _ ρ1 F1 H1 M1 s1 st1 it_rng k⟩
theorem xi_rng2 (h : XA g Z ta Γ M fun as M1 => ∃ i j : Int, as = [.d (.int i), .d (.int j)] ∧ (-100000 ≤ i ∧ i ≤ 100000 ∧ -100000 ≤ j ∧ j ≤ 100000) ∧ R (rngD i (j - i).toNat) M1) : XI g Z (iRng2 ta) Γ M R := fun ρ F H σ Q s rs kx q => by
  refine h ρ F H σ _ s rs kx fun vs as ρ1 F1 H1 M1 s1 st1 rv h1 => ?_
  obtain ⟨i, j, rfl, l, k⟩ := h1
  cases rv with
  | cons a r =>
    cases r with
    | cons b r =>
      cases r
      cases a
      cases b
      exact ⟨i, j, rfl, by omega, q _ _ ρ1 F1 H1 M1 s1 st1 it_rng k⟩
def zipS (x y : List Nat) : List DV := (x.zip y).map fun p => .d (.tup [.str [p.1], .str [p.2]])
theorem xi_zipS (h : XA g Z ta Γ M fun as M1 => ∃ x y, as = [.d (.str x), .d (.str y)] ∧ R (zipS x y) M1) : XI g Z (iZipS ta) Γ M R := fun ρ F H σ Q s rs kx q => by
  refine h ρ F H σ _ s rs kx fun vs as ρ1 F1 H1 M1 s1 st1 rv h1 => ?_
  obtain ⟨x, y, rfl, k⟩ := h1
  cases rv with
  | cons a r =>
    cases r with
    | cons b r =>
      cases r
      cases a
      cases b
      have sz : nMin (sOf x) (sOf y) = (zipS x y).length := by simp [nMin, zipS, sOf, List.length_zip]
      refine ⟨_, _, rfl, q _ _ ρ1 F1 H1 M1 s1 st1 ⟨fun ρ2 F2 H2 M2 s2 sb i hi => ?_, fun ρ2 F2 H2 M2 s2 sb => ?_, fun ρ2 F2 H2 M2 s2 sb i v H' hi hy => ?_⟩ k⟩
      · show i < nMin _ _
        rw [sz]; exact hi
      · exact sz.symm
      · obtain ⟨p, c, d, rfl, hp, rfl, h1, h2⟩ := hy
        have h1 : x[i]? = some c := by simpa [sOf] using h1
        have h2 : y[i]? = some d := by simpa [sOf] using h2
        obtain ⟨s3, st3⟩ := s2.lay (o := .tup [.str ⟨#[c]⟩, .str ⟨#[d]⟩]) hp
        refine ⟨_, .d (.tup [.str [c], .str [d]]), s3, st3, .tup upd_same (.cons (.str [c]) (.cons (.str [d]) .nil)), ?_⟩
        unfold zipS
        rw [List.getElem?_map]
        have : (x.zip y)[i]? = some (c, d) := by rw [List.getElem?_zip_eq_some]; exact ⟨h1, h2⟩
        rw [this]; rfl
end
end DL
set_option maxRecDepth 100000
set_option maxHeartbeats 4000000
/-! DL6: defs -/
namespace DL
open PySem PySem.Spec PyProof.Rows L2
def startD (N : List Str) (ds : List DV) : List DV := ds ++ List.replicate (N.length - ds.length) .un
theorem rvs_start {g : G} {ρ : List Addr} {F : Hp} {N : List Str} : ∀ {vs : List V} {ds : List DV}, RvA g ρ F vs ds → RvS g ρ F (L2.start N vs) (startD N ds) := by
  intro vs ds r
  unfold L2.start startD
  rw [r.length]
  generalize N.length - ds.length = n
  induction r with
  | nil =>
    induction n with
    | zero => exact .nil
    | succ n ih => exact .cons trivial ih
  | cons h r ih =>
    rename_i v d vs ds
    exact .cons (by cases d <;> first | trivial | exact h) ih
section
variable {P : Program} {w : World} {K : PySem.W.Frag} {mg : Str → Option Value} {base : Heap}
/-- a def that lets nothing out -/
theorem okD {g : G} {x qual : Str} {st : Stmt} {f : Addr} {fd : FuncData} {N ps : List Str} {k : Nat} {sp : DSpec} (F : Fun K x qual st f fd) (S : FnScope N ps (defScope st))
    (len : ∀ ds M R X, sp ds M R X → ds.length = ps.length)
    (body : ∀ (cdv : Value) (A : Around) (outer : List Env) (s : Shared) (H : Hp) (E : XK), Room k (A.deeper (envOfC qual (defScope st) s.heap.objs.size f cdv)) → PySem.W.codeIn K cdv qual = true → (∀ oc od kV doc pm an ct osl, fd = PySem.W.fnOf x qual (defArgs st) (defBody st) (defScope st) .none kV doc pm an cdv ct → K.lookup f = some ⟨oc, od, .func fd, osl⟩ → True) →
      ∃ t, PSs (cxOf CX0 P w K mg base N qual (defScope st) f cdv A outer s H E).nox (defBody st) t ∧
        ∀ ds M R X, sp ds M R X → XS g DX.no t (startD N ds) M { nx := fun _ M' => R (.d .non) M', rt := R }) :
    FnOk P w K mg base CX0 (k + 1) f fd ps (SPd g sp) := by
  obtain ⟨oc, od, kV, doc, pm, an, cdv, ct, osl, rfl, lk, hcd⟩ := F.ex
  refine fn_of lk hcd S (fun vs H Q E h => ?_) fun A outer s H vs Q E hr hsp => ?_
  · obtain ⟨ρ, F, M, ds, R, X, _, r, h, _⟩ := h
    rw [r.length]; exact len ds M R X h
  · obtain ⟨t, h, q⟩ := body cdv A outer s H E hr hcd (fun _ _ _ _ _ _ _ _ _ _ => trivial)
    obtain ⟨ρ, F, M, ds, R, X, s1, r, hs, hq, hx⟩ := hsp
    refine ⟨t, h.nox, ?_⟩
    refine q ds M R X hs ρ F H _ _ s1 (rvs_start r) ⟨fun σ' Γ' ρ' F' H' M' s' st' rs' kk => hq .non (.d .non) ρ' F' H' M' s' st' Dr.non kk, hq, fun _ _ _ _ _ _ _ _ _ z => z.elim, fun _ _ _ _ _ _ _ _ _ z => z.elim, fun _ _ _ _ _ _ _ _ _ _ _ _ _ _ z => z⟩
/-- a def that may raise -/
theorem okDX {g : G} {x qual : Str} {st : Stmt} {f : Addr} {fd : FuncData} {N ps : List Str} {k : Nat} {sp : DSpec} (F : Fun K x qual st f fd) (S : FnScope N ps (defScope st))
    (len : ∀ ds M R X, sp ds M R X → ds.length = ps.length)
    (body : ∀ (cdv : Value) (A : Around) (outer : List Env) (s : Shared) (H : Hp) (E : XK), Room k (A.deeper (envOfC qual (defScope st) s.heap.objs.size f cdv)) → PySem.W.codeIn K cdv qual = true →
      ∃ t, PSs (cxOf (L2.CX P w) P w K mg base N qual (defScope st) f cdv A outer s H E) (defBody st) t ∧
        ∀ ds M R X, sp ds M R X → XS g ⟨fun cls d _ H' => E cls d H', fun x _ M' => X x M'⟩ t (startD N ds) M { nx := fun _ M' => R (.d .non) M', rt := R }) :
    FnOk P w K mg base (L2.CX P w) (k + 1) f fd ps (SPd g sp) := by
  obtain ⟨oc, od, kV, doc, pm, an, cdv, ct, osl, rfl, lk, hcd⟩ := F.ex
  refine fn_of lk hcd S (fun vs H Q E h => ?_) fun A outer s H vs Q E hr hsp => ?_
  · obtain ⟨ρ, F, M, ds, R, X, _, r, h, _⟩ := h
    rw [r.length]; exact len ds M R X h
  · obtain ⟨t, h, q⟩ := body cdv A outer s H E hr hcd
    obtain ⟨ρ, F, M, ds, R, X, s1, r, hs, hq, hx⟩ := hsp
    refine ⟨t, h, ?_⟩
    refine q ds M R X hs ρ F H _ _ s1 (rvs_start r) ⟨fun σ' Γ' ρ' F' H' M' s' st' rs' kk => hq .non (.d .non) ρ' F' H' M' s' st' Dr.non kk, hq, fun _ _ _ _ _ _ _ _ _ z => z.elim, fun _ _ _ _ _ _ _ _ _ z => z.elim, fun d v x ρ' F' H' σ' Γ' M' s' st' rs' e r z => hx d v x ρ' F' H' M' s' st' e r z⟩
/-- a def with str.replace: return e.replace(y, z) alone -/
theorem okDT {g : G} {x qual : Str} {st : Stmt} {f : Addr} {fd : FuncData} {N ps : List Str} {k : Nat} {sp : DSpec} (F : Fun K x qual st f fd) (S : FnScope N ps (defScope st)) (hnc : ∀ y ∈ (defScope st).names, y.2 ≠ .cell) (hps : 1 ≤ ps.length)
    (len : ∀ ds M R X, sp ds M R X → ds.length = ps.length)
    (body : ∀ (cdv : Value) (A : Around) (outer : List Env) (s : Shared) (H : Hp) (E : XK), Room k (A.deeper (envOfC qual (defScope st) s.heap.objs.size f cdv)) →
      ∃ t, PSsT (cxOf CX0 P w K mg base N qual (defScope st) f cdv A outer s H E) (defBody st) t ∧
        ∀ ds M R X, sp ds M R X → XS g DX.no t (startD N ds) M { nx := fun _ M' => R (.d .non) M', rt := R }) :
    FnOk P w K mg base CX0 (k + 1) f fd ps (SPd g sp) := by
  obtain ⟨oc, od, kV, doc, pm, an, cdv, ct, osl, rfl, lk, hcd⟩ := F.ex
  refine fn_ofT lk hcd S hnc hps (fun vs H Q E h => ?_) fun A outer s H vs Q E hr hsp => ?_
  · obtain ⟨ρ, F, M, ds, R, X, _, r, h, _⟩ := h
    rw [r.length]; exact len ds M R X h
  · obtain ⟨t, h, q⟩ := body cdv A outer s H E hr
    obtain ⟨ρ, F, M, ds, R, X, s1, r, hs, hq, hx⟩ := hsp
    refine ⟨t, h, ?_⟩
    refine q ds M R X hs ρ F H _ _ s1 (rvs_start r) ⟨fun σ' Γ' ρ' F' H' M' s' st' rs' kk => hq .non (.d .non) ρ' F' H' M' s' st' Dr.non kk, hq, fun _ _ _ _ _ _ _ _ _ z => z.elim, fun _ _ _ _ _ _ _ _ _ z => z.elim, fun _ _ _ _ _ _ _ _ _ _ _ _ _ _ z => z⟩
end
/-! ### str.replace of one sign by nothing -/
theorem replS_no {c : Nat} : ∀ (l : List Nat), PySem.StrLaws.replL [c] [] l = l.filter (· != c)
  | [] => by rw [PySem.StrLaws.replL_nil]; rfl
  | x :: l => by
    by_cases h : x = c
    · subst h
      rw [PySem.StrLaws.replL_hit (by simp) (by simp)]
      have ih := replS_no (c := x) l
      simp at ih ⊢
      exact ih
    · rw [PySem.StrLaws.replL_miss (by simpa using h), replS_no l]
      simp [h]
theorem repl_one {c : Nat} {x : List Nat} : Txt.replace (sOf x) (sOf [c]) (sOf []) = sOf (x.filter (· != c)) := by
  have h := PySem.StrLaws.replace_list (x := sOf x) (y := sOf [c]) (z := sOf []) (by rw [sOf_len]; exact Nat.le_refl 1)
  have e : (Txt.replace (sOf x) (sOf [c]) (sOf [])).cps.toList = x.filter (· != c) := by
    rw [h]; exact replS_no x
  rw [← e, sOf_toList]
theorem xe_repl1 {g : G} {Z : DX} {Γ : List DV} {M : Mem} {R : DV → Mem → Prop} {to : TE} {y z : Str} {c : Nat} (hy : y = sOf [c]) (hz : z = sOf []) (h : XE g Z to Γ M fun a M1 => ∃ x, a = .d (.str x) ∧ x.length ≤ 100000 ∧ R (.d (.str (x.filter (· != c)))) M1) : XE g Z (CwR.tReplC to y z) Γ M R := fun ρ F H σ Q s rs kx q => by
  refine h ρ F H σ _ s rs kx fun v a ρ1 F1 H1 M1 s1 st1 rv h1 => ?_
  obtain ⟨x, rfl, hl, k⟩ := h1
  cases rv
  subst hy hz
  refine ⟨_, rfl, ?_, ?_⟩
  · rw [sOf_len, sOf_len]; simp; omega
  · rw [repl_one]
    exact q _ (.d (.str _)) _ _ _ _ s1 st1 (.str _) k
/-! ### all(c1 <= x <= c2 for x in a text) -/
theorem elt_in {prog : Program} {w : World} {scope : Scope} {x k1 k2 : Str} {j1 j2 : Nat} {p1 p2 p3 p4 : Pos} (hk : scope.kind = .function) (hl : scope.names.lookup x = some .local) (hd : (x == ("__debug__" : Str)) = false := by decide) :
    GxR.EltP prog w scope x (.Compare (.Constant (.str k1) j1 p1) [.LtE, .LtE] [.Name x p2, .Constant (.str k2) j2 p3] p4) (fun c => !decide ([c] < k1.cps.toList) && !decide (k2.cps.toList < [c])) := by
  intro cenv A' E' c t s2 m2 hs hn hm
  have ld : ∀ (s3 : Shared) (Q : Value → Shared → Prop), s3.heap = s2.heap → Q (.str ⟨#[c]⟩ t) s3 → wpAny (model prog w) A' (eval (.Name x p2) cenv) Q E' s3 := fun s3 Q e q =>
    wpAny_Name (wpAny_loadName_local (by rw [hs]; exact hk) (show cenv.scope.names.lookup x = some .local by rw [hs]; exact hl) (by rw [e]; exact hn) hm q) hd
  refine Compare_chain (Calls.Constant_str (chain_link (ld _ _ rfl ?_))) (by rfl)
  refine PySem.P.le_str (wpAny_truthy_bool ?_)
  cases h1 : (!decide ([c] < k1.cps.toList)) with
  | false =>
    refine ite_ff ⟨?_, GxR.keeps_tok _ _⟩
    show Value.bool false = Value.bool (!decide ([c] < k1.cps.toList) && _)
    rw [h1]
    rfl
  | true =>
    refine ite_tt (chain_last (Calls.Constant_str ?_))
    refine PySem.P.le_str ⟨?_, GxR.keeps_tok _ _⟩
    show _ = Value.bool (!decide ([c] < k1.cps.toList) && _)
    rw [h1]
    rfl
def rAllS (P : Addr) (pb : Nat → Bool) (te : TE) : TE := GxR.tAllS P pb te
theorem xe_allS {g : G} {Z : DX} {Γ : List DV} {M : Mem} {R : DV → Mem → Prop} {te : TE} {P : Addr} {pb : Nat → Bool} (hP : P ∈ g.T) (h : XE g Z te Γ M fun a M1 => ∃ x, a = .d (.str x) ∧ R (.d (.bl (x.all pb))) M1) : XE g Z (GxR.tAllS P pb te) Γ M R := fun ρ F H σ Q s rs kx q => by
  refine h ρ F H σ _ s rs kx fun v a ρ1 F1 H1 M1 s1 st1 rv h1 => ?_
  obtain ⟨x, rfl, k⟩ := h1
  cases rv
  refine ⟨_, rfl, (s1.tab P hP).1, fun H2 hT => ?_⟩
  have fP := (s1.tab P hP).2
  obtain ⟨⟨ps, eP, tP⟩, _⟩ := s1.tab P hP
  obtain ⟨⟨qs, e2, t2⟩, same⟩ := hT
  have rP : P ∉ ρ1 → True := fun _ => trivial
  have ne : ∀ b u, H1 b = some u → (∀ ps, u ≠ .tbl ps) → H2 b = some u := fun b u e n => by
    rw [same b (fun z => by rw [z, eP] at e; cases e; exact n ps rfl)]; exact e
  have s2 : Sat g ρ1 F1 H2 M1 := by
    refine ⟨fun b u e => ?_, s1.nd, s1.len, fun k b mo hk hm => ?_, fun P' hP' => ?_, fun b hb => ?_⟩
    · rw [same b (fun z => by rw [z, fP] at e; cases e)]; exact s1.sub b u e
    · obtain ⟨f, mk⟩ := s1.mo k b mo hk hm
      refine ⟨f, mk.keep (Sub.refl F1) ⟨[], by simp⟩ (same b fun z => ?_)⟩
      rw [z] at mk
      cases mo with
      | lst xs => obtain ⟨vs, h1, _⟩ := mk; rw [eP] at h1; cases h1
      | ins C ks xs => obtain ⟨dx, fs, h1, _⟩ := mk; rw [eP] at h1; cases h1
    · by_cases z : P' = P
      · rw [z]; exact ⟨⟨qs, e2, t2⟩, fP⟩
      · obtain ⟨⟨ps', e', t'⟩, f'⟩ := s1.tab P' hP'
        exact ⟨⟨ps', by rw [same P' z]; exact e', t'⟩, f'⟩
    · by_cases z : b = P
      · rw [z, e2]; exact fun z => nomatch z
      · rw [same b z]; exact s1.live b hb
  have st2 : Step ρ1 F1 H1 ρ1 F1 H2 := by
    refine ⟨Sub.refl F1, ⟨[], by simp⟩, fun b u e n => ?_, fun b u e => ?_, fun b h => .inl h, fun b h => .inl h⟩
    · by_cases z : b = P
      · rw [z] at e ⊢
        rw [eP] at e; cases e
        exact ⟨qs, e2, fun _ => t2⟩
      · rw [same b z, e]; exact KeepO.refl u
    · by_cases z : b = P
      · rw [z, e2]; exact fun z => nomatch z
      · rw [same b z, e]; exact fun z => nomatch z
  refine q _ (.d (.bl (x.all pb))) _ _ _ _ s2 (st1.trans st2) ?_ k
  show Dr F1 (.bl ((sOf x).cps.toList.all pb)) _
  simp only [sOf]
  exact .bl _
end DL
set_option maxRecDepth 100000
set_option maxHeartbeats 4000000
/-! DL7: wrappers, exceptions with a reason, the walk of a law -/
namespace DL
open PySem PySem.Spec PyProof.Rows L2
section
variable {X : Cx}
theorem call_allU (hc : X.calm = true) : CallR X (.builtin "all") (rAllL X.K) := cr_all hc
theorem call_sumU (hc : X.calm = true) : CallR X (.builtin "sum") (rSumL X.K) := cr_sum hc
theorem pe_isi {T : String} {y : Str} {p p2 pos : Pos} {e : Expr} {te : TE} (hg : Gl X "isinstance") (hm : X.mg "isinstance" = none) (hg2 : Gl X y) (hm2 : X.mg y = none) (hb : bootBuiltins y = some (.type T)) (he : PE X e te)
    (st1 : starEach [e, .Name y p2] X.env = (false, eval e X.env) :: starEach [.Name y p2] X.env := by rfl) (st2 : (backTo pos (starEach [.Name y p2] X.env)).any (·.1) = false := by rfl)
    (st3 : starEach [.Name y p2] X.env = (false, eval (.Name y p2) X.env) :: starEach [] X.env := by rfl)
    (hn : y ≠ "__name__" := by decide) (hd : (y == ("__debug__" : Str)) = false := by decide) :
    PE X (.Call (.Name "isinstance" p) [e, .Name y p2] [] pos) (tIsi X.K T te) :=
  pe_callB call_isi hg hm (by decide +kernel) (pa_cons he (pa_cons (pe_bltn (v := .ty T) hg2 hm2 hb rfl hn hd) pa_nil st3) st1) (by decide) (by decide) st1 st2
theorem pe_joinU {o e : Expr} {to te : TE} {apos pos : Pos} (ho : PE X o to) (he : PE X e te) (h1 : starEach [e] X.env = [(false, eval e X.env)] := by rfl) (h2 : attributeBase o "join" X.env (eval o X.env) = eval o X.env := by rfl) (h3 : (apos.endLine == pos.line) = true := by rfl) :
    PE X (.Call (.Attribute o "join" apos) [e] [] pos) (tM1 (rJoin X.K) to te) := pe_join ho he h1 h2 h3
end
theorem gs_plain {env : Env} {scope : Scope} {x : Str} (h1 : scope.kind = .function) (h2 : scope.isCoroutine = false) (h3 : scope.names.lookup (".0" : Str) = some NameKind.local) (h4 : scope.names.lookup x = some .local)
    (h5 : (scope.names.all fun y => decide (y.2 ≠ .cell) && decide (y.2 ≠ .free)) = true) : GxR.GenS env scope x := by
  rw [List.all_eq_true] at h5
  refine ⟨h1, h2, fun y hy => ?_, h3, h4, fun y hy e => ?_⟩
  · have q := h5 y hy
    simp only [Bool.and_eq_true, decide_eq_true_eq] at q
    exact q.1
  · have q := h5 y hy
    simp only [Bool.and_eq_true, decide_eq_true_eq] at q
    exact absurd e q.2
/-- a def whose code object stands at c -/
structure FunC (K : PySem.W.Frag) (x qual : Str) (st : Stmt) (f : Addr) (fd : FuncData) (c : Addr) : Prop where
  ex : ∃ (oc : Value) (od : Option Addr) (kV doc pm : Value) (an : Option Addr) (ct : Value) (osl : Array (Option Value)),
    fd = PySem.W.fnOf x qual (defArgs st) (defBody st) (defScope st) .none kV doc pm an (.ref c) ct ∧ K.lookup f = some ⟨oc, od, .func fd, osl⟩ ∧ PySem.W.codeIn K (.ref c) qual = true
  kp : PySem.W.keepIn K (.ref f) = true
theorem FunC.toFun {K : PySem.W.Frag} {x qual : Str} {st : Stmt} {f c : Addr} {fd : FuncData} (F : FunC K x qual st f fd c) : Fun K x qual st f fd := by
  obtain ⟨oc, od, kV, doc, pm, an, ct, osl, e, l, h⟩ := F.ex
  exact ⟨⟨oc, od, kV, doc, pm, an, .ref c, ct, osl, e, l, h⟩, F.kp⟩
theorem okDC {P : Program} {w : World} {K : PySem.W.Frag} {mg : Str → Option Value} {base : Heap} {g : G} {x qual : Str} {st : Stmt} {f c : Addr} {fd : FuncData} {N ps : List Str} {k : Nat} {sp : DSpec} (F : FunC K x qual st f fd c) (S : FnScope N ps (defScope st))
    (len : ∀ ds M R X, sp ds M R X → ds.length = ps.length)
    (body : ∀ (A : Around) (outer : List Env) (s : Shared) (H : Hp) (E : XK), Room k (A.deeper (envOfC qual (defScope st) s.heap.objs.size f (.ref c))) →
      ∃ t, PSs (cxOf CX0 P w K mg base N qual (defScope st) f (.ref c) A outer s H E).nox (defBody st) t ∧
        ∀ ds M R X, sp ds M R X → XS g DX.no t (startD N ds) M { nx := fun _ M' => R (.d .non) M', rt := R }) :
    FnOk P w K mg base CX0 (k + 1) f fd ps (SPd g sp) := by
  obtain ⟨oc, od, kV, doc, pm, an, ct, osl, rfl, lk, hcd⟩ := F.ex
  refine fn_of lk hcd S (fun vs H Q E h => ?_) fun A outer s H vs Q E hr hsp => ?_
  · obtain ⟨ρ, F, M, ds, R, X, _, r, h, _⟩ := h
    rw [r.length]; exact len ds M R X h
  · obtain ⟨t, h, q⟩ := body A outer s H E hr
    obtain ⟨ρ, F, M, ds, R, X, s1, r, hs, hq, hx⟩ := hsp
    refine ⟨t, h.nox, ?_⟩
    exact q ds M R X hs ρ F H _ _ s1 (rvs_start r) ⟨fun σ' Γ' ρ' F' H' M' s' st' rs' kk => hq .non (.d .non) ρ' F' H' M' s' st' Dr.non kk, hq, fun _ _ _ _ _ _ _ _ _ z => z.elim, fun _ _ _ _ _ _ _ _ _ z => z.elim, fun _ _ _ _ _ _ _ _ _ _ _ _ _ _ z => z⟩
end DL
set_option maxRecDepth 100000
set_option maxHeartbeats 4000000
/-! DM: shapes of promises, and the mirrors of the alignments -/
namespace DL
open PySem PySem.Spec PyProof.Rows L2
abbrev vS (x : List Nat) : DV := .d (.str x)
abbrev vI (i : Int) : DV := .d (.int i)
abbrev vT (xs : List D) : DV := .d (.tup xs)
abbrev vP (p : List Nat × List Nat) : DV := .d (.tup [.str p.1, .str p.2])
def fn1 {α : Type} (e : α → DV) (pre : α → Prop) (f : α → D) : DSpec := fun ds M R _ => ∃ x, ds = [e x] ∧ pre x ∧ R (.d (f x)) M
def fn2 {α β : Type} (e : α → DV) (e2 : β → DV) (pre : α → β → Prop) (f : α → β → D) : DSpec := fun ds M R _ => ∃ x y, ds = [e x, e2 y] ∧ pre x y ∧ R (.d (f x y)) M
/-! ### mirrors -/
def isL (c : Nat) : Bool := decide (97 ≤ c) && decide (c ≤ 122)
def nod (x : List Nat) : List Nat := x.filter (· != 45)
def noObj : D → Bool
  | .obj _ _ _ => false
  | _ => true
def okS (x : List Nat) : Prop := ∀ c ∈ x, c < 1114112
def smallD (d : D) : Prop := (∀ z, d = .str z → z.length ≤ 1000 ∧ okS z) ∧ noObj d = true
def isSeq : D → Bool
  | .str x => decide (x.length ≤ 6) && x.all isL
  | _ => false
def isRow : D → Bool
  | .str x => isSeq (.str (nod x))
  | _ => false
def noGap (x y : List Nat) : Bool := (x.zip y).all fun p => p.1 != 45 || p.2 != 45
def isAl : D → Bool
  | .tup [.str x, .str y] => isRow (.str x) && (isRow (.str y) && (decide (x.length = y.length) && noGap x y))
  | _ => false
def kindN (c d : Nat) : Int := if d = 45 then 1 else if c = 45 then 2 else 0
def kindsN (p : List Nat × List Nat) : List Int := (p.1.zip p.2).map fun q => kindN q.1 q.2
def seqs (p : List Nat × List Nat) : List Nat × List Nat := (nod p.1, nod p.2)
def encP (p : List Nat × List Nat) : D := .tup [.str p.1, .str p.2]
theorem nod_len (x : List Nat) : (nod x).length ≤ x.length := List.length_filter_le _ _
theorem lt1 (c d : Nat) : (decide ([c] < [d])) = decide (c < d) := by
  have e : ([c] < [d]) ↔ c < d := by
    rw [List.cons_lt_cons_iff]
    exact ⟨fun h => h.elim id fun q => absurd q.2 (List.not_lt_nil _), .inl⟩
  exact decide_eq_decide.mpr e
theorem isL_eq (c : Nat) : (!decide ([c] < [97]) && !decide ([122] < [c])) = isL c := by
  rw [lt1, lt1]
  unfold isL
  by_cases h : 97 ≤ c <;> by_cases h2 : c ≤ 122 <;> simp [h, h2] <;> omega
theorem ok1 {n c : Nat} (h : c < 1114112) : D.ok n (.str [c]) = true := by
  cases n <;> simp [D.ok] <;> omega
theorem beq1 {c : Nat} {d : Str} : D.beq (.str [c]) (.str d.cps.toList) = ([c] == d.cps.toList) := beq_str _ _
theorem nod_ok {x : List Nat} (h : okS x) : okS (nod x) := fun c hc => h c (List.mem_filter.mp hc).1
theorem okS_mem {x : List Nat} (h : okS x) {c : Nat} (m : c ∈ x) : c < 1114112 := h c m
theorem okS_ok {n : Nat} {x : List Nat} (h : okS x) : D.ok n (.str x) = true := by
  have e : x.all (fun c => decide (c < 0x110000)) = true := List.all_eq_true.mpr fun c hc => decide_eq_true (h c hc)
  cases n <;> simpa only [D.ok] using e
theorem beqd {c : Nat} : D.beq (.str [c]) (.str (PySem.Str.ofString "-").cps.toList) = decide (c = 45) := by
  rw [beq_str, show (PySem.Str.ofString "-").cps.toList = [45] from by decide +kernel]
  by_cases h : c = 45
  · subst h; rfl
  · rw [decide_eq_false h]; simpa using h
section
variable {g : G} {Z : DX} {Γ : List DV} {M : Mem} {R : DV → Mem → Prop}
theorem xe_varD {i : Nat} {x : D} (h : Γ[i]? = some (.d x)) (k : R (.d x) M) : XE g Z (tVar i) Γ M R := xe_var h (fun z => nomatch z) k
theorem xe_varM {i j : Nat} (h : Γ[i]? = some (.m j)) (k : R (.m j) M) : XE g Z (tVar i) Γ M R := xe_var h (fun z => nomatch z) k
theorem xe_varR {i : Nat} {ns : List Int} (h : Γ[i]? = some (.ro ns)) (k : R (.ro ns) M) : XE g Z (tVar i) Γ M R := xe_var h (fun z => nomatch z) k
end
theorem natLe {a b : Nat} (h : decide ((a : Int) ≤ (b : Int)) = true) : a ≤ b := by have := of_decide_eq_true h; omega
theorem natGt {a b : Nat} (h : ¬ decide ((a : Int) ≤ (b : Int)) = true) : ¬ a ≤ b := fun z => h (decide_eq_true (by omega))
end DL
set_option maxRecDepth 100000
set_option maxHeartbeats 4000000
/-! DG: defs with mutable objects of their own -/
namespace DL
open PySem PySem.Spec PyProof.Rows L2
def cl (n : Nat) : DV → Prop
  | .m j => j < n
  | _ => True
def clMo (n : Nat) : MO → Prop
  | .lst xs => ∀ d ∈ xs, cl n d
  | .ins _ _ xs => ∀ d ∈ xs, cl n d
def clM (n : Nat) (M : Mem) : Prop := ∀ (k : Nat) (mo : MO), M[k]? = some (some mo) → clMo n mo
section
variable {g : G} {ρ ρ' : List Addr} {F F' H H' : Hp} {M : Mem}
theorem Rv.clo {v : V} {d : DV} (h : Rv g ρ F v d) : DL.cl ρ.length d := by
  cases d with
  | m j => obtain ⟨a, _, e⟩ := h; exact (List.getElem?_eq_some_iff.mp e).1
  | _ => trivial
theorem RvA.clo : ∀ {vs : List V} {ds : List DV}, RvA g ρ F vs ds → ∀ d ∈ ds, DL.cl ρ.length d
  | _, _, .nil, d, h => by cases h
  | _, _, .cons a r, d, h => by
    rcases List.mem_cons.mp h with e | h
    · rw [e]; exact a.clo
    · exact RvA.clo r d h
theorem Sat.clo (s : Sat g ρ F H M) : clM M.length M := fun k mo e => by
  have hk : k < ρ.length := by rw [s.len]; exact (List.getElem?_eq_some_iff.mp e).1
  obtain ⟨_, h⟩ := s.mo k ρ[k] mo (List.getElem?_eq_getElem hk) e
  rw [← s.len]
  cases mo with
  | lst xs => obtain ⟨vs, _, r⟩ := h; exact r.clo
  | ins C ks xs => obtain ⟨dx, fs, _, _, r⟩ := h; exact r.clo
theorem Rv.cut {v : V} {d : DV} (h : Rv g (ρ ++ ρ') F v d) (c : DL.cl ρ.length d) : Rv g ρ F v d := by
  cases d with
  | m j =>
    obtain ⟨a, e, h⟩ := h
    refine ⟨a, e, ?_⟩
    rw [List.getElem?_append_left c] at h
    exact h
  | un => trivial
  | d x => exact h
  | ro ns => exact h
theorem RvA.cut : ∀ {vs : List V} {ds : List DV}, RvA g (ρ ++ ρ') F vs ds → (∀ d ∈ ds, DL.cl ρ.length d) → RvA g ρ F vs ds
  | _, _, .nil, _ => .nil
  | _, _, .cons a r, c => .cons (a.cut (c _ List.mem_cons_self)) (RvA.cut r fun d h => c d (List.mem_cons_of_mem _ h))
theorem Sat.cut {t : Mem} (s : Sat g (ρ ++ ρ') F H (M ++ t)) (hl : ρ.length = M.length) (c : clM M.length M) : Sat g ρ F H M := by
  refine ⟨s.sub, (List.nodup_append.mp s.nd).1, hl, fun k a mo hk hm => ?_, s.tab, fun a ha => s.live a (List.mem_append_left _ ha)⟩
  obtain ⟨f, h⟩ := s.mo k a mo (get_pre hk) (get_pre hm)
  refine ⟨f, ?_⟩
  have cc := c k mo hm
  rw [← hl] at cc
  cases mo with
  | lst xs => obtain ⟨vs, e, r⟩ := h; exact ⟨vs, e, r.cut cc⟩
  | ins C ks xs => obtain ⟨dx, fs, e1, e2, r⟩ := h; exact ⟨dx, fs, e1, e2, r.cut cc⟩
end
section
variable {X : Cx} {K : PySem.W.Frag}
theorem op_eqK (hK : X.K = K) (hu : X.A.units + 64 < cLine) : OpR X (compareOp .Eq) (rEqU K) := by subst hK; exact op_eqU hu
theorem op_neK (hK : X.K = K) (hu : X.A.units + 64 < cLine) : OpR X (compareOp .NotEq) (rNeU K) := by subst hK; exact op_neU hu
theorem op_ltK (hK : X.K = K) (hu : X.A.units + 64 < cLine) : OpR X (compareOp .Lt) (rLtU K) := by subst hK; exact op_ltU hu
theorem op_inK (hK : X.K = K) : OpR X (compareOp .In) (rInU K) := by subst hK; exact op_inU
theorem op_niK (hK : X.K = K) : OpR X (compareOp .NotIn) (rNiU K) := by subst hK; exact op_niU
theorem call_lenK (hK : X.K = K) : CallR X (.builtin "len") (rLen K) := by subst hK; exact call_lenU
theorem call_listK (hK : X.K = K) : CallR X (.type "list") (rList1 K) := by subst hK; exact call_listU
theorem call_allK (hK : X.K = K) (hc : X.calm = true) : CallR X (.builtin "all") (rAllL K) := by subst hK; exact call_allU hc
theorem call_sumK (hK : X.K = K) (hc : X.calm = true) : CallR X (.builtin "sum") (rSumL K) := by subst hK; exact call_sumU hc
theorem ix_seqK (hK : X.K = K) : IxR X (rIx K) := by subst hK; exact ix_seq
theorem pe_isK {T : String} {y : Str} {p p2 pos : Pos} {e : Expr} {te : TE} (hK : X.K = K) (hg : Gl X "isinstance") (hm : X.mg "isinstance" = none) (hg2 : Gl X y) (hm2 : X.mg y = none) (hb : bootBuiltins y = some (.type T)) (he : PE X e te)
    (st1 : starEach [e, .Name y p2] X.env = (false, eval e X.env) :: starEach [.Name y p2] X.env := by rfl) (st2 : (backTo pos (starEach [.Name y p2] X.env)).any (·.1) = false := by rfl)
    (st3 : starEach [.Name y p2] X.env = (false, eval (.Name y p2) X.env) :: starEach [] X.env := by rfl)
    (hn : y ≠ "__name__" := by decide) (hd : (y == ("__debug__" : Str)) = false := by decide) :
    PE X (.Call (.Name "isinstance" p) [e, .Name y p2] [] pos) (tIsi K T te) := by subst hK; exact pe_isi hg hm hg2 hm2 hb he st1 st2 st3 hn hd
theorem pe_joinK {o e : Expr} {to te : TE} {apos pos : Pos} (hK : X.K = K) (ho : PE X o to) (he : PE X e te) (h1 : starEach [e] X.env = [(false, eval e X.env)] := by rfl) (h2 : attributeBase o "join" X.env (eval o X.env) = eval o X.env := by rfl) (h3 : (apos.endLine == pos.line) = true := by rfl) :
    PE X (.Call (.Attribute o "join" apos) [e] [] pos) (tM1 (rJoin K) to te) := by subst hK; exact pe_joinU ho he h1 h2 h3
theorem pt_truK {a : Expr} {ta : TE} (hK : X.K = K) (ha : PE X a ta) (he : ∀ whole, isTrue a X.env whole = (do let v ← whole; standAt a.pos; holding [v] (truthy v)) := by intro _; rfl) : PT X a (tTruK K ta) := by subst hK; exact pt_tru ha he
theorem pi_listK {tg l : Expr} {tl : TE} (hK : X.K = K) (hl : PE X l tl) : PI X tg l (iList K tl) := by subst hK; exact pi_list hl
end
/-- what is handed back does not hang on the def's own mutable objects -/
def Gb (M : Mem) (R : DV → Mem → Prop) : DV → Mem → Prop := fun dv M2 => ∃ M0 t, M2 = M0 ++ t ∧ M0.length = M.length ∧ cl M.length dv ∧ clM M0.length M0 ∧ R dv M0
theorem gb_d {M : Mem} {R : DV → Mem → Prop} {x : D} {t : Mem} (c : clM M.length M) (h : R (.d x) M) : Gb M R (.d x) (M ++ t) := ⟨M, t, rfl, rfl, trivial, c, h⟩
theorem gb_0 {M : Mem} {R : DV → Mem → Prop} {x : D} (c : clM M.length M) (h : R (.d x) M) : Gb M R (.d x) M := ⟨M, [], by simp, rfl, trivial, c, h⟩
theorem okDG {P : Program} {w : World} {K : PySem.W.Frag} {mg : Str → Option Value} {base : Heap} {g : G} {x qual : Str} {st : Stmt} {f : Addr} {fd : FuncData} {N ps : List Str} {k : Nat} {sp : DSpec} (F : Fun K x qual st f fd) (S : FnScope N ps (defScope st))
    (len : ∀ ds M R X, sp ds M R X → ds.length = ps.length)
    (body : ∀ (cdv : Value) (A : Around) (outer : List Env) (s : Shared) (H : Hp) (E : XK), Room k (A.deeper (envOfC qual (defScope st) s.heap.objs.size f cdv)) →
      ∃ t, PSs (cxOf CX0 P w K mg base N qual (defScope st) f cdv A outer s H E).nox (defBody st) t ∧
        ∀ ds M R X, clM M.length M → sp ds M R X → XS g DX.no t (startD N ds) M { nx := fun _ M' => Gb M R (.d .non) M', rt := Gb M R }) :
    FnOk P w K mg base CX0 (k + 1) f fd ps (SPd g sp) := by
  obtain ⟨oc, od, kV, doc, pm, an, cdv, ct, osl, rfl, lk, hcd⟩ := F.ex
  refine fn_of lk hcd S (fun vs H Q E h => ?_) fun A outer s H vs Q E hr hsp => ?_
  · obtain ⟨ρ, F, M, ds, R, X, _, r, h, _⟩ := h
    rw [r.length]; exact len ds M R X h
  · obtain ⟨t, h, q⟩ := body cdv A outer s H E hr
    obtain ⟨ρ, F, M, ds, R, X, s1, r, hs, hq, hx⟩ := hsp
    refine ⟨t, h.nox, ?_⟩
    have fin : ∀ (v : V) (dv : DV) (ρ' : List Addr) (F' H' : Hp) (M' : Mem), Sat g ρ' F' H' M' → DL.Step ρ F H ρ' F' H' → Rv g ρ' F' v dv → Gb M R dv M' → Q v H' := fun v dv ρ' F' H' M' s' st' rv gb => by
      obtain ⟨M0, t, rfl, hl, c1, c2, rr⟩ := gb
      obtain ⟨τ, rfl⟩ := st'.r
      have hρ : ρ.length = M0.length := by rw [s1.len, hl]
      rw [← s1.len] at c1
      exact hq v dv ρ F' H' M0 (s'.cut hρ c2) ⟨st'.f, ⟨[], by simp⟩, st'.keep, st'.there, st'.newF, fun a h => .inl h⟩ (rv.cut c1) rr
    exact q ds M R X s1.clo hs ρ F H _ _ s1 (rvs_start r) ⟨fun σ' Γ' ρ' F' H' M' s' st' rs' kk => fin .non (.d .non) ρ' F' H' M' s' st' Dr.non kk, fun v dv ρ' F' H' M' s' st' rv kk => fin v dv ρ' F' H' M' s' st' rv kk, fun _ _ _ _ _ _ _ _ _ z => z.elim, fun _ _ _ _ _ _ _ _ _ z => z.elim, fun _ _ _ _ _ _ _ _ _ _ _ _ _ _ z => z⟩
section
variable {g : G} {Z : DX} {Γ : List DV} {M : Mem} {R : DV → Mem → Prop} {te : TE} {K : PySem.W.Frag}
/-- a mutable list is read for the last time: it is data from here on -/
theorem xe_ice {i k : Nat} {ds : List D} (h : Γ[i]? = some (.m k)) (hm : M[k]? = some (some (.lst (ds.map DV.d)))) (q : R (.d (.lst ds)) (M.set k none)) : XE g Z (tVar i) Γ M R := fun ρ F H σ Q s rs kx kk => by
  obtain ⟨v, e, rv⟩ := rs.get h (fun z => nomatch z)
  obtain ⟨a, rfl, hk⟩ := rv
  obtain ⟨F', s2, st2, d⟩ := s.ice hk hm
  exact ⟨_, e, kk _ (.d (.lst ds)) _ _ _ _ s2 st2 d q⟩
theorem xt_truB {R : Bool → Mem → Prop} (hK : K = g.K) (h : XE g Z te Γ M fun a M1 => ∃ b, a = .d (.bl b) ∧ R b M1) : XT g Z (tTruK K te) Γ M R := fun ρ F H σ Q s rs kx q =>
  xt_tru hK (fun ρ F H σ Q s rs kx q2 => h ρ F H σ Q s rs kx fun v dv ρ' F' H' M' s' st' rv ⟨b, e, r⟩ => q2 v dv ρ' F' H' M' s' st' rv ⟨.bl b, b, e, rfl, (fun z h => nomatch h), r⟩) ρ F H σ Q s rs kx q
end
end DL
set_option maxRecDepth 100000
set_option maxHeartbeats 4000000
/-! DE: errors with a reason -/
namespace DL
open PySem PySem.Spec PyProof.Rows L2
theorem x1_neg {g : G} {M : Mem} {R : DV → Mem → Prop} {i : Int} (q : R (.d (.int (-i))) M) : X1 g (rU fun i => .int (-i)) (.d (.int i)) M R := fun ρ F H x Q s ra kk => by
  cases ra
  exact ⟨i, rfl, kk _ (.d (.int (-i))) ρ F H M s (Step.refl ..) (.int _) q⟩
/-- __init__(self, reason): ValueError.__init__(self, reason); self.reason = reason -/
def spInit (C : Addr) : Sp := fun vs H Q _ => ∃ a v, vs = [.ref a, v] ∧ H a = some (exo a C none) ∧ ∀ dx, H dx = none → dx ≠ a → Q .non (upd (upd H dx (exd dx [("reason", v)])) a (exo a C (some dx)))
/-- what the top says of the class -/
structure ErrC (K : PySem.W.Frag) (mg : Str → Option Value) (C fI : Addr) : Prop where
  oex : OexC K C
  gC : mg "RightfaresError" = some (.ref C)
  iC : PySem.W.findIn K (.ref C) "__init__" = some (some (.ref fI))
  tI : PySem.W.typeIn K (.ref fI) = some (.type "function")
  noR : PySem.W.findIn K (.ref C) "reason" = some none
  xf : XfC K C
  em : PySem.W.exmOne K (.ref C) (.ref C) = some true
theorem ok_init {P : Program} {w : World} {K : PySem.W.Frag} {mg : Str → Option Value} {base : Heap} {st : Stmt} {C fI : Addr} {fd : FuncData} (F : Fun K "__init__" "RightfaresError.__init__" st fI fd) (S : FnScope ["self", "reason"] ["self", "reason"] (defScope st))
    (hb : ∃ p1 p2 p3 p4 p5 p6 p7 p8 p9 p10, defBody st = [.Expr (.Call (.Attribute (.Name "ValueError" p1) "__init__" p2) [.Name "self" p3, .Name "reason" p4] [] p5) p6, .Assign [.Attribute (.Name "self" p7) "reason" p8] (.Name "reason" p9) p10])
    (T : ErrC K mg C fI) (zV : mg "ValueError" = none) : True := trivial
section
variable {g : G} {Z : DX} {Γ : List DV} {M : Mem} {E : DEnds} {ta : TA}
theorem xs_raise (h : XA g Z ta Γ M fun as M1 => ∃ x, as = [.d x] ∧ Z.ex x Γ M1) : XS g Z (fun _ σ H => tMkO g.C (spInit g.C) [] ta σ H fun cls d H' => Z.W cls d σ H') Γ M E := fun ρ F H σ D s rs dd => by
  refine h ρ F H σ _ s rs (dd.ex.e rs) fun vs as ρ1 F1 H1 M1 s1 st1 ra h1 => ?_
  obtain ⟨x, rfl, k⟩ := h1
  cases ra with
  | cons rv r =>
    rename_i v vs
    cases r
    refine ⟨(by show 1 ≤ 1000; omega), fun a ha => ⟨a, v, rfl, upd_same, fun dx hdx ne => ⟨rfl, dx, [("reason", v)], upd_same, ?_, ?_, ?_⟩⟩⟩
    · rw [upd_ne ne, upd_same]
    · rw [upd_ne ne] at hdx; exact hdx
    · have hd : H1 dx = none := by rw [upd_ne ne] at hdx; exact hdx
      have e : upd (L2.del (upd (upd (upd H1 a (exo a g.C none)) dx (exd dx [("reason", v)])) a (exo a g.C (some dx))) a) dx (.xd [("reason", v)]) = upd H1 dx (.xd [("reason", v)]) := by
        funext b
        by_cases h1 : b = dx
        · rw [h1, upd_same, upd_same]
        · rw [upd_ne h1, upd_ne h1]
          by_cases h2 : b = a
          · rw [h2, del_same, ha]
          · rw [del_ne h2, upd_ne h2, upd_ne h1, upd_ne h2]
      rw [e]
      obtain ⟨f1, f2, f3⟩ := s1.fresh hd
      exact dd.ex dx v x ρ1 F1 _ σ Γ M1 (s1.aside f1 f2 f3) (st1.trans (Step.aside hd)) (rs.mono st1) upd_same rv k
/-- try: .. except RightfaresError as e: return e.reason -/
theorem xs_tryRet {K : PySem.W.Frag} {tb : WX → TS} {i : Nat} {Wout : WX} (hm : PySem.W.exmOne K (.ref g.C) (.ref g.C) = some true) (h : ∀ W, XS g ⟨W, fun x Γ' M' => i < Γ'.length ∧ E.rt (.d x) M'⟩ (tb W) Γ M E) :
    XS g Z (fun D σ H => tb (wAs K (.ref g.C) i (fun a cls d => tRet (tXf a cls d g.C "reason" (tVar i))) Wout D) D σ H) Γ M E := fun ρ F H σ D s rs dd => by
  refine h _ ρ F H σ D s rs ⟨dd.nx, dd.rt, dd.bk, dd.ct, fun q v x ρ' F' H' σ' Γ' M' s' st' rs' e r ex => ⟨true, hm, fun _ a ha => ?_, fun z => nomatch z⟩⟩
  have hl : i < σ'.length := by rw [rs'.length]; exact ex.1
  refine ⟨.ref a, by rw [List.getElem?_set_self hl], rfl, rfl, q, _, v, rfl, e, by simp [List.lookup], ?_⟩
  exact dd.rt v (.d x) ρ' F' H' M' s' st' r ex.2
theorem xg_set {to ti : TE} {dv : DV} {N : List DV → Mem → Prop} (h : XE g DX.no to Γ M fun o M1 => XE g DX.no ti Γ M1 fun i M2 => ∃ k ds z j, o = .m k ∧ i = .d (.int z) ∧ M2[k]? = some (some (.lst ds)) ∧ ixN ds.length z = some j ∧ N Γ (M2.set k (some (.lst (ds.set j dv))))) : XG g (gSub to ti rSetL) dv Γ M N := fun ρ F H σ v Q s rs rv q => by
  refine h ρ F H σ _ s rs xh_no fun o do' ρ1 F1 H1 M1 s1 st1 ro h1 => ?_
  refine h1 ρ1 F1 H1 σ _ s1 (rs.mono st1) xh_no fun i di ρ2 F2 H2 M2 s2 st2 ri h2 => ?_
  obtain ⟨k, ds, z, j, rfl, rfl, hm, hj, hn⟩ := h2
  obtain ⟨a, rfl, hk⟩ := ro.mono st2
  cases ri
  obtain ⟨_, vs, e, r⟩ := s2.mo k a _ hk hm
  have st12 := st1.trans st2
  obtain ⟨s3, st3⟩ := s2.chg hk hm (mo' := .lst (ds.set j dv)) (o := .lst (vs.set j v)) ⟨_, upd_same, r.set j (rv.mono st12)⟩
  refine ⟨a, vs, z, j, rfl, rfl, e, by rw [r.length]; exact hj, ?_⟩
  exact q σ Γ _ _ _ _ s3 (st12.trans st3) ((rs.mono st12).mono st3) hn
end
end DL
set_option maxRecDepth 100000
set_option maxHeartbeats 2000000
namespace DL
open PySem PySem.Spec PyProof.Rows L2
/-- a law's own start: nothing is tracked but the script and the tables -/
theorem spd_start {g : G} {spec : DSpec} {H : Hp} {a : Addr} {ns : List Int} (hT : ∀ P ∈ g.T, H P = some (.tbl #[])) (hS : SqL g.K H a (ns.map V.int)) (h : spec [.ro ns] [] (fun d _ => d = .d (.bl true)) fun _ _ => False) :
    SPd g spec [.ref a] H (fun v _ => v = .bl true) fun _ _ _ => False := by
  let F : Hp := fun b => if b ∈ g.T then none else H b
  have nt : ∀ (b : Addr) (o : HO), H b = some o → (∀ q, o ≠ .tbl q) → F b = some o := fun b o e n => by
    have hb : b ∉ g.T := fun z => by
      rw [hT b z] at e
      exact n _ (Option.some.inj e).symm
    show (if b ∈ g.T then none else H b) = some o
    rw [if_neg hb]; exact e
  have sF : SqL g.K F a (ns.map V.int) := by
    rcases hS with (e | ⟨o, e⟩) | r
    · exact .inl (.inl (nt _ _ e fun q z => by cases z))
    · exact .inl (.inr ⟨o, nt _ _ e fun q z => by cases z⟩)
    · exact .inr r
  refine ⟨[], F, [], [.ro ns], _, _, ⟨fun b o e => ?_, List.nodup_nil, rfl, fun k a mo e => by simp at e, fun P hP => ⟨⟨#[], hT P hP, trivial⟩, if_pos hP⟩, fun a z => by simp at z⟩, .cons ⟨a, rfl, sF⟩ .nil, h, fun v dv ρ' F' H' M' s st r e => ?_, fun d v x ρ' F' H' M' s st e r z => z.elim⟩
  · have e : (if b ∈ g.T then none else H b) = some o := e
    by_cases hb : b ∈ g.T
    · rw [if_pos hb] at e; cases e
    · rw [if_neg hb] at e; exact e
  · have e : dv = .d (.bl true) := e
    subst e
    cases r
    rfl
theorem tabB_g {base : Heap} {mg : Str → Option Value} {c P : Addr} (t : LamX.TabB base mg c P) : GxR.TabB base mg c P := ⟨t.code, t.bm, t.gP⟩
/-- what the top tells of the tables of the defs -/
def TabsAt (q : Program) (K : PySem.W.Frag) (h : Heap) : Prop := ∀ (x : Str) (d : DefRec) (c P : Addr), (recsOf q).find? (fun e => e.name == x) = some d → PySem.W.tabIn K x = some (c, P) → PySem.W.CodeHd h c P ∧ h.get? P = some { cls := .none, data := .fields #[] }
theorem funC_mk {K : PySem.W.Frag} {x qual : Str} {st : Stmt} {f c : Addr} {oc : Value} {od an : Option Addr} {osl : Array (Option Value)} {kV doc pm ct : Value} (l : K.lookup f = some ⟨oc, od, .func (PySem.W.fnOf x qual (defArgs st) (defBody st) (defScope st) .none kV doc pm an (.ref c) ct), osl⟩)
    (hc : PySem.W.codeIn K (.ref c) qual = true) (k : PySem.W.keepIn K (.ref f) = true) : FunC K x qual st f (PySem.W.fnOf x qual (defArgs st) (defBody st) (defScope st) .none kV doc pm an (.ref c) ct) c := ⟨⟨oc, od, kV, doc, pm, an, ct, osl, rfl, l, hc⟩, k⟩
theorem self_caught {K : PySem.W.Frag} {S : Addr} (h1 : PySem.W.subIn K (.ref S) (.type "BaseException") = some true) (h2 : PySem.W.isClsIn K S = true) (h3 : PySem.W.typeIn K (.ref S) = some (.type "type")) (h4 : PySem.W.subIn K (.ref S) (.ref S) = some true) :
    PySem.W.exmOne K (.ref S) (.ref S) = some true := by
  unfold PySem.W.exmOne
  have h2' : (PySem.W.clsIn K S).isSome = true := h2
  simp [h1, h2', h3, h4, PySem.W.kitCls]
theorem tabIn_mk {K : PySem.W.Frag} {x : Str} {f c P : Addr} {oc ec : Value} {od dd : Option Addr} {fd : FuncData} {sl s2 : Array (Option Value)} {vs : Array Value} (a : PySem.W.nsIn K mainGlobals x = some (some (.ref f))) (l : K.lookup f = some ⟨oc, od, .func fd, sl⟩) (e : fd.code = .ref c)
    (lc : K.lookup c = some ⟨ec, dd, .fields vs, s2⟩) (p : vs[11]? = some (.ref P)) : PySem.W.tabIn K x = some (c, P) := by
  unfold PySem.W.tabIn
  simp only [a, l, e, lc, p]
/-- the end of a law: the walk of its own call -/
theorem walk_law {l : PySem.W.OpenLaw} {n k : Nat} {q : Program} {loose : List Str} {XP : (Str → Option Value) → Heap → Prop} {YP : World → Heap → Prop} {d : DefRec} {K : Params → PySem.W.Frag} {x : Str}
    (hn : l.most = some n) (hn2 : n ≤ sizeLine) (hdf : d.params.defaults = []) (hr : Room k callerA) (hY : ∀ (w : World) (h : Heap), YP w h → (K w.params).In h)
    (F : ∀ (w : World) (mg : Str → Option Value) (fa : Addr) (h : Heap), YP w h → (K w.params).In h → h.Ns mainGlobals mg → mg d.name = some (.ref fa) → TabsAt q (K w.params) h → LamX.LawAtS l w (K w.params) CX0 k n x mg fa h) :
    PySem.W.WalkO q loose XP YP l.row.toRowW d [] (fun f vs => PySem.call f vs) := by
  refine Att.attach_callB hn hdf fun w s₀ s₁ mg mb fa o pm cd doc a vs ns G Y ho hd hcd hmg hobj hints hlen hbits hg => ?_
  have KX := hY w _ Y
  obtain ⟨fd, cs, sp, hT, nT, C, hb, hsp, hF⟩ := F w mg fa _ Y KX G.T.g hmg fun x d c P hr ht => PySem.W.tab_of G.T KX hr ht
  exact LamX.law_callTs KX G.T.g G.T.b G.T.builtins G.T.nolimit hg hT nT C G.T.bmain hobj hints (Nat.le_trans hlen hn2) hr hF hb (fun H hH hS => hsp H a ns hlen hbits hH hS) fun H e s' z => z
end DL
set_option maxRecDepth 100000
set_option maxHeartbeats 4000000
/-! DS: a text cut at its line ends; isinstance of a caught error -/
namespace DL
open PySem PySem.Spec PyProof.Rows L2
def rSplit : V → List V → Hp → VK → Prop := fun x xs H Q => ∃ a b, x = .str a ∧ xs = [.str b] ∧ (b.length == 0) = false ∧ a.length + 2 ≤ sizeLine ∧ rNewStrs (Txt.split a b) H Q
theorem pe_splitU {X : Cx} {o e : Expr} {to te : TE} {apos pos : Pos} (ho : PE X o to) (he : PE X e te) (h1 : starEach [e] X.env = [(false, eval e X.env)] := by rfl) (h2 : attributeBase o "split" X.env (eval o X.env) = eval o X.env := by rfl) (h3 : (apos.endLine == pos.line) = true := by rfl) :
    PE X (.Call (.Attribute o "split" apos) [e] [] pos) (tM1 rSplit to te) := pe_split ho he h1 h2 h3
def lns : List Nat → List (List Nat)
  | [] => [[]]
  | c :: r => if c = 10 then [] :: lns r else match lns r with
    | h :: t => (c :: h) :: t
    | [] => [[c]]
theorem lns_ne : ∀ x, lns x ≠ []
  | [] => by simp [lns]
  | c :: r => by
    unfold lns
    by_cases h : c = 10
    · simp [h]
    · rw [if_neg h]
      cases lns r <;> simp
theorem spl_lns : ∀ (x acc : List Nat), TL.spl [10] 0 acc x = (match lns x with | h :: t => (acc ++ h) :: t | [] => [acc])
  | [], acc => by simp [TL.spl, lns]
  | c :: r, acc => by
    have ih := spl_lns r
    unfold TL.spl lns
    by_cases h : c = 10
    · have hp : TL.pre [10] (c :: r) = true := by simp [TL.pre, h]
      rw [if_pos hp, if_pos h]
      show acc :: TL.spl [10] 0 [] r = _
      rw [ih]
      cases hl : lns r with
      | nil => exact absurd hl (lns_ne r)
      | cons a t => simp
    · have hp : ¬ TL.pre [10] (c :: r) = true := by
        simp [TL.pre]; exact h
      rw [if_neg hp, if_neg h, ih]
      cases hl : lns r with
      | nil => exact absurd hl (lns_ne r)
      | cons a t => simp
theorem split_lns (x : List Nat) : Txt.split (sOf x) (sOf [10]) = (lns x).map sOf := by
  have e := SX.split_S (a := x) (b := [10]) (by simp) (by decide)
  rw [spl_lns] at e
  have e2 : (match lns x with | h :: t => ([] ++ h) :: t | [] => [[]]) = lns x := by
    cases hl : lns x with
    | nil => exact absurd hl (lns_ne x)
    | cons a t => simp
  rw [e2] at e
  exact e
theorem DrA.ofStrs {F : Hp} : ∀ (zs : List (List Nat)), DrA F ((zs.map sOf).map V.str) (zs.map D.str)
  | [] => .nil
  | z :: zs => .cons (.str z) (DrA.ofStrs zs)
theorem xm_split {g : G} {M : Mem} {R : DV → Mem → Prop} {x : List Nat} (hl : x.length ≤ 10000) (q : R (.d (.lst ((lns x).map D.str))) M) : XM g rSplit (.d (.str x)) [.d (.str [10])] M R := fun ρ F H v vs Q s ra rb kk => by
  cases ra
  cases rb with
  | cons h r =>
    cases r
    cases h
    refine ⟨_, _, rfl, rfl, by rw [sOf_len]; rfl, by rw [sOf_len]; exact Nat.le_trans (Nat.add_le_add_right hl 2) (by decide), fun p hp => ?_⟩
    rw [split_lns]
    obtain ⟨s2, st2⟩ := s.lay (o := .lst _) hp
    exact kk _ (.d (.lst _)) _ _ _ _ s2 st2 (.lst upd_same (DrA.ofStrs _)) q
/-! ### isinstance -/
section
variable {K : PySem.W.Frag} {x D : Addr} {c : Value} {ox : Obj} {od : Option Obj}
theorem isa_ans (q : (Value.ref D == c) = false) (e : PySem.W.kitCls K (.ref D) c = some true) :
    Answers (fun s => K.In s.heap ∧ PySem.W.InstAt s.heap x ox D od) (.ref x) c true := fun dep tk pr w A R s hs => by
  obtain ⟨hp, gs, dr, tt, os⟩ := s
  obtain ⟨⟨X, I⟩, fin⟩ := hs
  have t0 := I.type (M := model pr w)
  obtain ⟨u1, u2, u3⟩ := PySem.W.kit_cls (M := model pr w) X e
  unfold Builtin.«isinstance.nested»
  refine wpAny_bind (t0.at ?_)
  rw [if_neg (by rw [q]; exact Bool.false_ne_true)]
  refine wpAny_bind (u1.at ?_)
  rw [if_pos (by decide)]
  k_delta "plainIsInstance"
  refine wpAny_bind (wpAny_bind (u2.at ?_))
  simp only [Bool.not_true, Bool.false_eq_true, if_false]
  refine wpAny_bind ((t0.andThen u3 : PySem.W.Looks (model pr w) hp (isInstance (.ref x) c) true).at ?_)
  first
    | exact wpAny_pure (wpAny_pure (fin tt))
    | (simp only [if_true]; exact wpAny_bind (wpAny_pure (wpAny_pure (fin tt))))
    | (simp only [if_true]; exact wpAny_pure (wpAny_pure (fin tt)))
    | (simp only [if_true]; exact wpAny_pure (fin tt))
end
/-- isinstance(e, T), e the error that the suite holds: True -/
def rIsD (K : PySem.W.Frag) (a : Addr) (cls : Value) (d : Option Addr) (T : String) : List V → Hp → VK → Prop := fun xs H Q => ∃ (D dd : Addr) (fs : List (Str × V)), xs = [.ref a, .ty T] ∧ cls = .ref D ∧ d = some dd ∧ H dd = some (.xd fs) ∧ PySem.W.kitCls K (.ref D) (.type T) = some true ∧ Q (.bl true) H
theorem call_isD {X : Cx} {a : Addr} {cls : Value} {d : Option Addr} {oe : Obj} {pn : List (Addr × Obj)} {T : String} (hz : Zc cls d oe) (hf : ∃ vs, oe.data = .fields vs) : CallR (X.suite a ((a, oe) :: pn)) (.builtin "isinstance") (rIsD X.K a cls d T) := fun pins s σ H xs us Q I r h => by
  obtain ⟨D, dd, fs, rfl, rfl, rfl, ea, ek, k⟩ := h
  cases r with
  | cons r1 rr =>
    cases rr with
    | cons r2 rr =>
      cases rr
      cases r1
      cases r2
      have ha := (I.pin (a, oe) (List.mem_append_left _ List.mem_cons_self)).1
      obtain ⟨vs, hd⟩ := hf
      have ho : ObjOk X.prog X.w H s.heap dd (.xd fs) := I.hok dd _ ea
      obtain ⟨mA, ns, -⟩ := ho
      obtain ⟨o2, h2, -⟩ := lookIn_ns ns
      have J : PySem.W.InstAt s.heap a oe D (some o2) := ⟨ha, hz.1, by unfold PySem.W.notCls; rw [hd] <;> rfl, by rw [hz.2]; exact h2⟩
      refine call_isinstance (S := fun _ R t => (X.K.In t.heap ∧ PySem.W.InstAt t.heap a oe D (some o2)) ∧ ∀ tk, R (.ok (.ret (.bool true))) { t with toks := tk }) (fun pr w A R t ht => isinstance_outer (isa_ans rfl ek 0 _ pr w A R t ht) fun z => nomatch z) ⟨⟨I.kIn, J⟩, fun tk => ⟨.bl true, H, I.tok tk, rfl, k⟩⟩
theorem pe_isE {X : Cx} {a : Addr} {cls : Value} {d : Option Addr} {oe : Obj} {pn : List (Addr × Obj)} {T : String} {y : Str} {p p2 pos : Pos} {e : Expr} {te : TE} (hz : Zc cls d oe) (hf : ∃ vs, oe.data = .fields vs) (hg : Gl (X.suite a ((a, oe) :: pn)) "isinstance") (hm : X.mg "isinstance" = none) (hg2 : Gl (X.suite a ((a, oe) :: pn)) y) (hm2 : X.mg y = none) (hb : bootBuiltins y = some (.type T)) (he : PE (X.suite a ((a, oe) :: pn)) e te)
    (st1 : starEach [e, .Name y p2] X.env = (false, eval e X.env) :: starEach [.Name y p2] X.env := by rfl) (st2 : (backTo pos (starEach [.Name y p2] X.env)).any (·.1) = false := by rfl)
    (st3 : starEach [.Name y p2] X.env = (false, eval (.Name y p2) X.env) :: starEach [] X.env := by rfl)
    (hn : y ≠ "__name__" := by decide) (hd : (y == ("__debug__" : Str)) = false := by decide) :
    PE (X.suite a ((a, oe) :: pn)) (.Call (.Name "isinstance" p) [e, .Name y p2] [] pos) (tCB (rIsD X.K a cls d T) (tCons te (tCons (tC (.ty T)) tNil))) :=
  pe_callB (call_isD hz hf) hg hm (by decide +kernel) (pa_cons he (pa_cons (pe_bltn (v := .ty T) hg2 hm2 hb rfl hn hd) pa_nil st3) st1) (by decide) (by decide) st1 st2
section
variable {g : G} {Z : DX} {Γ : List DV} {M : Mem} {E : DEnds}
/-- try: .. except RightfaresError as e: if e.reason == y and isinstance(e, T): return None -/
theorem xs_tryIs {K : PySem.W.Frag} {tb : WX → TS} {i : Nat} {Wout : WX} {y : Str} {T : String} (hm : PySem.W.exmOne K (.ref g.C) (.ref g.C) = some true) (hk : PySem.W.kitCls K (.ref g.C) (.type T) = some true)
    (h : ∀ W, XS g ⟨W, fun x Γ' M' => i < Γ'.length ∧ x = .str y.cps.toList ∧ okS y.cps.toList ∧ E.rt (.d .non) M'⟩ (tb W) Γ M E) :
    XS g Z (fun D σ H => tb (wAs K (.ref g.C) i (fun a cls d => tIfS (tAnd (tTest (tOp (rEqU K) (tXf a cls d g.C "reason" (tVar i)) (tC (.str y)))) (tTruK K (tCB (rIsD K a cls d T) (tCons (tVar i) (tCons (tC (.ty T)) tNil))))) (tRet (tC .non)) tNext) Wout D) D σ H) Γ M E := fun ρ F H σ D s rs dd => by
  refine h _ ρ F H σ D s rs ⟨dd.nx, dd.rt, dd.bk, dd.ct, fun q v x ρ' F' H' σ' Γ' M' s' st' rs' e r ex => ⟨true, hm, fun _ a ha => ?_, fun z => nomatch z⟩⟩
  obtain ⟨hi, rfl, oy, hr⟩ := ex
  have hl : i < σ'.length := by rw [rs'.length]; exact hi
  have gi : (σ'.set i (some (V.ref a)))[i]? = some (some (V.ref a)) := List.getElem?_set_self hl
  refine ⟨.ref a, gi, rfl, rfl, q, _, v, rfl, e, by simp [List.lookup], ?_⟩
  have rY : Dr F' (.str y) (.str y.cps.toList) := by
    have h := Dr.str (F := F') y.cps.toList
    rw [sOf_toList] at h
    exact h
  have bt : DL.D.beq (.str y.cps.toList) (.str y.cps.toList) = true := by rw [beq_str]; simp
  refine ⟨_, _, Dr.dp s'.sub r (okS_ok (n := 0) oy), Dr.dp s'.sub rY (okS_ok (n := 0) oy), ok_shaped (okS_ok (n := 0) oy) (by decide), ok_shaped (okS_ok (n := 0) oy) (by decide), true, congrArg V.bl bt, ?_⟩
  refine iteT ⟨.ref a, gi, ⟨g.C, q, _, rfl, rfl, rfl, e, hk, true, rfl, ?_⟩⟩
  refine iteT ?_
  exact dd.rt .non (.d .non) ρ' F' H' M' s' st' .non hr
end
end DL
set_option maxRecDepth 100000
set_option maxHeartbeats 4000000
namespace K02
open PySem PySem.Spec PyProof.Rows L2 DL
def topS (i : Nat) : Stmt := PySem.Challenge.pw_rightfares_k02_texts_of_alignments.main.body.getD i (.Pass ⟨0, 0, 0, 0⟩)
local macro_rules | `(tactic| walk_at "d") => `(tactic| with_reducible first
  | refine xs_seq ?_ | refine xs_asg ?_ | refine xs_ret ?_ | refine xs_if ?_ | refine xs_drop ?_ | refine xs_next ?_ | refine xs_retN ?_
  | (refine' xe_varD ?va ?vk; (case va => with_unfolding_all rfl)) | (refine' xe_varM ?va ?vk; (case va => with_unfolding_all rfl)) | (refine' xe_varR ?va ?vk; (case va => with_unfolding_all rfl)) | refine xe_ci ?_ | refine xe_cs ?_ | refine xe_cb ?_ | refine xe_cn ?_
  | refine xe_op ?_ | refine xe_isi ?_ | refine xe_cB ?_ | refine xe_call ?_ | refine xe_callS ?_ | refine xa_cons ?_ | refine xa_nil ?_
  | refine xg_name ?_ | refine xe_andV ?_ | refine xe_orV ?_ | refine xe_notV ?_ | refine xe_chain ?_ | refine xe_if ?_
  | refine xt_test ?_ | refine xt_and ?_ | refine xt_or ?_ | refine xt_not ?_ | refine xt_yes ?_ | refine xt_truB (by assumption) ?_
  | refine xe_m1 ?_ | refine xe_bm ?_ | refine xe_sl ?_ | refine xo_no ?_ | refine xo_some ?_ | refine xe_tup ?_)

section
variable {P : Program} {w : World} {K : PySem.W.Frag} {mg : Str → Option Value} {base : Heap} {g : G}
def sp_has_only_letters : DSpec := fun ds M R _ => ∃ x, ds = [vS x] ∧ x.length ≤ 100000 ∧ R (.d (.bl (x.all isL))) M
abbrev s_has_only_letters : Stmt := topS 7
abbrev n_has_only_letters : List Str := ["text"]
abbrev p_has_only_letters : List Str := ["text"]
theorem sc_has_only_letters : FnScope n_has_only_letters p_has_only_letters (defScope s_has_only_letters) := ⟨rfl, rfl, rfl, by decide +kernel, rfl, by decide +kernel, by decide +kernel⟩
theorem ok_has_only_letters {f : Addr} {fd : FuncData} (z_all : mg "all" = none) {c P_ : Addr} (TB : GxR.TabB base mg c P_) (F : FunC K "has_only_letters" "has_only_letters" s_has_only_letters f fd c) (gK : K = g.K) (hP : P_ ∈ g.T) : FnOk P w K mg base CX0 1 f fd p_has_only_letters (SPd g sp_has_only_letters) := by
  refine okDC (k := 0) F sc_has_only_letters (fun ds M R X h => by first | (obtain ⟨rfl, _⟩ := h; rfl) | (obtain ⟨_, rfl, _⟩ := h; rfl) | (obtain ⟨_, _, rfl, _⟩ := h; rfl) | (obtain ⟨_, _, _, rfl, _⟩ := h; rfl) | (obtain ⟨_, _, _, _, rfl, _⟩ := h; rfl) | (obtain ⟨_, _, _, _, _, rfl, _⟩ := h; rfl)) (fun A outer s H E hr => ⟨_, (pss_one (ps_ret (GxR.pe_allS hr (by rfl) z_all (by decide +kernel) TB rfl (gs_plain (by rfl) (by rfl) (by rfl) (by rfl) (by decide +kernel)) (pv 0) (elt_in (by rfl) (by rfl)) (fun _ => rfl)))), ?_⟩)
  intro ds M R X h
  obtain ⟨x, rfl, hl, q⟩ := h
  refine xs_ret (xe_allS hP (xe_var rfl (by intro h; cases h) ⟨x, rfl, ?_⟩))
  have e : x.all (fun c => !decide ([c] < ("a" : Str).cps.toList) && !decide (("z" : Str).cps.toList < [c])) = x.all isL := by
    congr 1
    funext c
    exact isL_eq c
  rw [e]
  exact q
def sp_without_dashes : DSpec := fun ds M R _ => ∃ x, ds = [vS x] ∧ x.length ≤ 100000 ∧ R (.d (.str (nod x))) M
abbrev s_without_dashes : Stmt := topS 11
abbrev n_without_dashes : List Str := ["row"]
abbrev p_without_dashes : List Str := ["row"]
theorem sc_without_dashes : FnScope n_without_dashes p_without_dashes (defScope s_without_dashes) := ⟨rfl, rfl, rfl, by decide +kernel, rfl, by decide +kernel, by decide +kernel⟩
theorem ok_without_dashes {f : Addr} {fd : FuncData}  (F : Fun K "without_dashes" "without_dashes" s_without_dashes f fd) (gK : K = g.K) : FnOk P w K mg base CX0 1 f fd p_without_dashes (SPd g sp_without_dashes) := by
  refine okDT (k := 0) F sc_without_dashes (by decide +kernel) (by decide) (fun ds M R X h => by first | (obtain ⟨rfl, _⟩ := h; rfl) | (obtain ⟨_, rfl, _⟩ := h; rfl) | (obtain ⟨_, _, rfl, _⟩ := h; rfl) | (obtain ⟨_, _, _, rfl, _⟩ := h; rfl) | (obtain ⟨_, _, _, _, rfl, _⟩ := h; rfl) | (obtain ⟨_, _, _, _, _, rfl, _⟩ := h; rfl)) (fun cdv A outer s H E hr => ⟨_, (CwR.psst_one (CwR.pst_ret (CwR.pet_replC (pv 0)))), ?_⟩)
  intro ds M R X h
  obtain ⟨x, rfl, hl, q⟩ := h
  refine xs_ret (xe_repl1 (c := 45) rfl rfl (xe_var rfl (by intro h; cases h) ⟨x, rfl, hl, q⟩))
def sp_is_sequence : DSpec := fun ds M R _ => ∃ x, ds = [.d x] ∧ smallD x ∧ R (.d (.bl (isSeq x))) M
abbrev s_is_sequence : Stmt := topS 8
abbrev n_is_sequence : List Str := ["thing"]
abbrev p_is_sequence : List Str := ["thing"]
theorem sc_is_sequence : FnScope n_is_sequence p_is_sequence (defScope s_is_sequence) := ⟨rfl, rfl, rfl, by decide +kernel, rfl, by decide +kernel, by decide +kernel⟩
theorem ok_is_sequence {f : Addr} {fd : FuncData} {a_has_only_letters : Addr} {fd_has_only_letters : FuncData} (G_has_only_letters : FnOk P w K mg base CX0 1 a_has_only_letters fd_has_only_letters p_has_only_letters (SPd g sp_has_only_letters)) (m_has_only_letters : mg "has_only_letters" = some (.ref a_has_only_letters)) (k_has_only_letters : PySem.W.keepIn K (.ref a_has_only_letters) = true) (b_has_only_letters : Binds K fd_has_only_letters p_has_only_letters []) (z_isinstance : mg "isinstance" = none) (z_str : mg "str" = none) (z_len : mg "len" = none) {t_MOST_LETTERS : Tok} (m_MOST_LETTERS : mg "MOST_LETTERS" = some (.int 6 t_MOST_LETTERS)) (F : Fun K "is_sequence" "is_sequence" s_is_sequence f fd) (gK : K = g.K) : FnOk P w K mg base CX0 2 f fd p_is_sequence (SPd g sp_is_sequence) := by
  refine okD (k := 1) F sc_is_sequence (fun ds M R X h => by first | (obtain ⟨rfl, _⟩ := h; rfl) | (obtain ⟨_, rfl, _⟩ := h; rfl) | (obtain ⟨_, _, rfl, _⟩ := h; rfl) | (obtain ⟨_, _, _, rfl, _⟩ := h; rfl) | (obtain ⟨_, _, _, _, rfl, _⟩ := h; rfl) | (obtain ⟨_, _, _, _, _, rfl, _⟩ := h; rfl)) (fun cdv A outer s H E hr hcd _ => ⟨_, (pss_one (ps_ret (pe_and (pe_isK (K := K) (T := "str") rfl (by rfl) z_isinstance (by rfl) z_str (by decide +kernel) (pv 0)) (pe_and (pe_cmpR op_leU (pe_callB (call_lenK (K := K) rfl) (by rfl) z_len (by decide +kernel) (pa_cons (pv 0) pa_nil)) (pe_glob (v := .int 6) (by rfl) m_MOST_LETTERS ⟨_, rfl⟩) (nomark _)) (pe_one (pe_call G_has_only_letters (hr.mono (by decide)) (by rfl) m_has_only_letters k_has_only_letters b_has_only_letters .nil pass0 (pa_cons (pv 0) pa_nil))))))), ?_⟩)
  intro ds M R X h
  obtain ⟨x, rfl, ⟨hs, hno⟩, q⟩ := h
  walk_at "d"; walk_at "d"; walk_at "d"; walk_at "d"
  cases x with
  | str z =>
    have hz := (hs z rfl).1
    refine ⟨_, "str", true, rfl, rfl, by decide +kernel, _, rfl, iteT ?_⟩
    repeat walk_at "d"
    refine xn_lenS (by omega) ?_
    repeat walk_at "d"
    refine x2_leI ⟨_, rfl, ?_⟩
    refine ite2 (fun h => ?_) (fun h => ?_)
    · repeat walk_at "d"
      refine ⟨z, rfl, by omega, ?_⟩
      have e : isSeq (.str z) = z.all isL := by
        have h' : z.length ≤ 6 := natLe h
        simp [isSeq, h']
      rw [e] at q
      exact q
    · have e : isSeq (.str z) = false := by
        have h' : ¬ z.length ≤ 6 := natGt h
        simp [isSeq, h']
      rw [e] at q
      exact q
  | obj C ks xs => exact absurd hno (by simp [noObj])
  | non => exact ⟨_, "NoneType", false, rfl, rfl, by decide +kernel, _, rfl, iteF q⟩
  | bl b => exact ⟨_, "bool", false, rfl, rfl, by decide +kernel, _, rfl, iteF q⟩
  | int i => exact ⟨_, "int", false, rfl, rfl, by decide +kernel, _, rfl, iteF q⟩
  | lst xs => exact ⟨_, "list", false, rfl, rfl, by decide +kernel, _, rfl, iteF q⟩
  | tup xs => exact ⟨_, "tuple", false, rfl, rfl, by decide +kernel, _, rfl, iteF q⟩
def sp_is_row : DSpec := fun ds M R _ => ∃ x, ds = [.d x] ∧ smallD x ∧ R (.d (.bl (isRow x))) M
abbrev s_is_row : Stmt := topS 9
abbrev n_is_row : List Str := ["thing"]
abbrev p_is_row : List Str := ["thing"]
theorem sc_is_row : FnScope n_is_row p_is_row (defScope s_is_row) := ⟨rfl, rfl, rfl, by decide +kernel, rfl, by decide +kernel, by decide +kernel⟩
theorem ok_is_row {f : Addr} {fd : FuncData} {a_is_sequence : Addr} {fd_is_sequence : FuncData} (G_is_sequence : FnOk P w K mg base CX0 2 a_is_sequence fd_is_sequence p_is_sequence (SPd g sp_is_sequence)) (m_is_sequence : mg "is_sequence" = some (.ref a_is_sequence)) (k_is_sequence : PySem.W.keepIn K (.ref a_is_sequence) = true) (b_is_sequence : Binds K fd_is_sequence p_is_sequence []) {a_without_dashes : Addr} {fd_without_dashes : FuncData} (G_without_dashes : FnOk P w K mg base CX0 1 a_without_dashes fd_without_dashes p_without_dashes (SPd g sp_without_dashes)) (m_without_dashes : mg "without_dashes" = some (.ref a_without_dashes)) (k_without_dashes : PySem.W.keepIn K (.ref a_without_dashes) = true) (b_without_dashes : Binds K fd_without_dashes p_without_dashes []) (z_isinstance : mg "isinstance" = none) (z_str : mg "str" = none) (F : Fun K "is_row" "is_row" s_is_row f fd) (gK : K = g.K) : FnOk P w K mg base CX0 3 f fd p_is_row (SPd g sp_is_row) := by
  refine okD (k := 2) F sc_is_row (fun ds M R X h => by first | (obtain ⟨rfl, _⟩ := h; rfl) | (obtain ⟨_, rfl, _⟩ := h; rfl) | (obtain ⟨_, _, rfl, _⟩ := h; rfl) | (obtain ⟨_, _, _, rfl, _⟩ := h; rfl) | (obtain ⟨_, _, _, _, rfl, _⟩ := h; rfl) | (obtain ⟨_, _, _, _, _, rfl, _⟩ := h; rfl)) (fun cdv A outer s H E hr hcd _ => ⟨_, (pss_one (ps_ret (pe_and (pe_isK (K := K) (T := "str") rfl (by rfl) z_isinstance (by rfl) z_str (by decide +kernel) (pv 0)) (pe_one (pe_call G_is_sequence (hr.mono (by decide)) (by rfl) m_is_sequence k_is_sequence b_is_sequence .nil pass0 (pa_cons (pe_call G_without_dashes (hr.mono (by decide)) (by rfl) m_without_dashes k_without_dashes b_without_dashes .nil pass0 (pa_cons (pv 0) pa_nil)) pa_nil)))))), ?_⟩)
  intro ds M R X h
  obtain ⟨x, rfl, ⟨hs, hno⟩, q⟩ := h
  walk_at "d"; walk_at "d"; walk_at "d"; walk_at "d"
  cases x with
  | str z =>
    have hz := (hs z rfl).1
    refine ⟨_, "str", true, rfl, rfl, by decide +kernel, _, rfl, iteT ?_⟩
    repeat walk_at "d"
    refine ⟨z, rfl, by omega, ?_⟩
    repeat walk_at "d"
    refine ⟨.str (nod z), rfl, ⟨fun y e => ?_, rfl⟩, q⟩
    cases e
    exact ⟨Nat.le_trans (nod_len z) hz, nod_ok (hs z rfl).2⟩
  | obj C ks xs => exact absurd hno (by simp [noObj])
  | non => exact ⟨_, "NoneType", false, rfl, rfl, by decide +kernel, _, rfl, iteF q⟩
  | bl b => exact ⟨_, "bool", false, rfl, rfl, by decide +kernel, _, rfl, iteF q⟩
  | int i => exact ⟨_, "int", false, rfl, rfl, by decide +kernel, _, rfl, iteF q⟩
  | lst xs => exact ⟨_, "list", false, rfl, rfl, by decide +kernel, _, rfl, iteF q⟩
  | tup xs => exact ⟨_, "tuple", false, rfl, rfl, by decide +kernel, _, rfl, iteF q⟩
def sp_kind_of : DSpec := fun ds M R _ => ∃ c d, ds = [vS [c], vS [d]] ∧ (c < 1114112 ∧ d < 1114112) ∧ R (.d (.int (kindN c d))) M
abbrev s_kind_of : Stmt := topS 12
abbrev n_kind_of : List Str := ["top", "bottom"]
abbrev p_kind_of : List Str := ["top", "bottom"]
theorem sc_kind_of : FnScope n_kind_of p_kind_of (defScope s_kind_of) := ⟨rfl, rfl, rfl, by decide +kernel, rfl, by decide +kernel, by decide +kernel⟩
theorem ok_kind_of {f : Addr} {fd : FuncData} {t_MATCH : Tok} (m_MATCH : mg "MATCH" = some (.int 0 t_MATCH)) {t_INSERTION : Tok} (m_INSERTION : mg "INSERTION" = some (.int 2 t_INSERTION)) {t_DELETION : Tok} (m_DELETION : mg "DELETION" = some (.int 1 t_DELETION)) (F : Fun K "kind_of" "kind_of" s_kind_of f fd) (gK : K = g.K) : FnOk P w K mg base CX0 1 f fd p_kind_of (SPd g sp_kind_of) := by
  refine okD (k := 0) F sc_kind_of (fun ds M R X h => by first | (obtain ⟨rfl, _⟩ := h; rfl) | (obtain ⟨_, rfl, _⟩ := h; rfl) | (obtain ⟨_, _, rfl, _⟩ := h; rfl) | (obtain ⟨_, _, _, rfl, _⟩ := h; rfl) | (obtain ⟨_, _, _, _, rfl, _⟩ := h; rfl) | (obtain ⟨_, _, _, _, _, rfl, _⟩ := h; rfl)) (fun cdv A outer s H E hr hcd _ => ⟨_, (pss_cons (ps_if (pt_cmpR (op_eqK (K := K) rfl hr.units) (pv 1) pe_str (nomark _))
  (pss_one (ps_ret (pe_glob (v := .int 1) (by rfl) m_DELETION ⟨_, rfl⟩)))
  pss_nil)
  (pss_cons (ps_if (pt_cmpR (op_eqK (K := K) rfl hr.units) (pv 0) pe_str (nomark _))
  (pss_one (ps_ret (pe_glob (v := .int 2) (by rfl) m_INSERTION ⟨_, rfl⟩)))
  pss_nil)
  (pss_one (ps_ret (pe_glob (v := .int 0) (by rfl) m_MATCH ⟨_, rfl⟩))))), ?_⟩)
  intro ds M R X h
  obtain ⟨c, d, rfl, ⟨hc, hd⟩, q⟩ := h
  repeat walk_at "d"
  refine x2_eq 1 (ok1 hd) rfl ⟨_, rfl, ?_⟩
  rw [beqd]
  refine ite2 (fun h => ?_) (fun h => ?_)
  · repeat walk_at "d"
    rw [kindN, if_pos (by simpa using h)] at q
    exact q
  · repeat walk_at "d"
    refine x2_eq 1 (ok1 hc) rfl ⟨_, rfl, ?_⟩
    rw [beqd]
    rw [kindN, if_neg (by simpa using h)] at q
    refine ite2 (fun h2 => ?_) (fun h2 => ?_)
    · repeat walk_at "d"
      rw [if_pos (by simpa using h2)] at q
      exact q
    · repeat walk_at "d"
      rw [if_neg (by simpa using h2)] at q
      exact q
end
end K02
set_option maxRecDepth 100000
set_option maxHeartbeats 4000000
namespace K02
open PySem PySem.Spec PyProof.Rows L2 DL
local macro_rules | `(tactic| walk_at "d") => `(tactic| with_reducible first
  | refine xs_seq ?_ | refine xs_asg ?_ | refine xs_ret ?_ | refine xs_if ?_ | refine xs_drop ?_ | refine xs_next ?_ | refine xs_retN ?_
  | (refine' xe_varD ?va ?vk; (case va => with_unfolding_all rfl)) | (refine' xe_varM ?va ?vk; (case va => with_unfolding_all rfl)) | (refine' xe_varR ?va ?vk; (case va => with_unfolding_all rfl)) | refine xe_ci ?_ | refine xe_cs ?_ | refine xe_cb ?_ | refine xe_cn ?_
  | refine xe_op ?_ | refine xe_isi ?_ | refine xe_cB ?_ | refine xe_call ?_ | refine xe_callS ?_ | refine xa_cons ?_ | refine xa_nil ?_
  | refine xg_name ?_ | refine xe_andV ?_ | refine xe_orV ?_ | refine xe_notV ?_ | refine xe_chain ?_ | refine xe_if ?_
  | refine xt_test ?_ | refine xt_and ?_ | refine xt_or ?_ | refine xt_not ?_ | refine xt_yes ?_ | refine xt_truB (by assumption) ?_
  | refine xe_m1 ?_ | refine xe_bm ?_ | refine xe_sl ?_ | refine xo_no ?_ | refine xo_some ?_ | refine xe_tup ?_)

section
variable {P : Program} {w : World} {K : PySem.W.Frag} {mg : Str → Option Value} {base : Heap} {g : G}
theorem isRow_str : ∀ {d : D}, isRow d = true → ∃ x, d = .str x
  | .str x, _ => ⟨x, rfl⟩
theorem isRow_ok {x : List Nat} (h : isRow (.str x) = true) : okS x := fun c hc => by
  by_cases e : c = 45
  · omega
  · have h2 : (nod x).all isL = true := by
      have q : (decide ((nod x).length ≤ 6) && (nod x).all isL) = true := h
      rw [Bool.and_eq_true] at q
      exact q.2
    have hm : c ∈ nod x := List.mem_filter.mpr ⟨hc, by simpa using e⟩
    have q := List.all_eq_true.mp h2 c hm
    simp [isL] at q
    omega
def alSmall (x : D) : Prop := noObj x = true ∧ ∀ xs, x = .tup xs → ∀ y ∈ xs, smallD y
def isAlB : D → Bool
  | .tup [a, b] => isRow a && (isRow b && isAl (.tup [a, b]))
  | _ => false
theorem isAlB_eq : ∀ (d : D), isAlB d = isAl d := by
  intro d
  match d with
  | .tup [.str x, .str y] =>
    show (isRow (.str x) && (isRow (.str y) && (isRow (.str x) && (isRow (.str y) && _)))) = (isRow (.str x) && (isRow (.str y) && _))
    cases isRow (.str x) <;> cases isRow (.str y) <;> rfl
  | .tup [a] => cases a <;> rfl
  | .tup (a :: b :: c :: r) => cases a <;> (try rfl) <;> cases b <;> rfl
  | .tup [] | .non | .bl _ | .int _ | .str _ | .lst _ | .obj _ _ _ => rfl
  | .tup [.str x, .non] | .tup [.str x, .bl _] | .tup [.str x, .int _] | .tup [.str x, .lst _] | .tup [.str x, .tup _] | .tup [.str x, .obj _ _ _] =>
    show (isRow (.str x) && _) = false
    cases isRow (.str x) <;> rfl
  | .tup [.non, b] | .tup [.bl _, b] | .tup [.int _, b] | .tup [.lst _, b] | .tup [.tup _, b] | .tup [.obj _ _ _, b] => cases b <;> rfl
def sp_is_alignment : DSpec := fun ds M R _ => ∃ x, ds = [.d x] ∧ alSmall x ∧ R (.d (.bl (isAl x))) M
abbrev s_is_alignment : Stmt := topS 10
abbrev n_is_alignment : List Str := ["thing", "first_row", "second_row", "top", "bottom"]
abbrev p_is_alignment : List Str := ["thing"]
theorem sc_is_alignment : FnScope n_is_alignment p_is_alignment (defScope s_is_alignment) := ⟨rfl, rfl, rfl, by decide +kernel, rfl, by decide +kernel, by decide +kernel⟩
theorem ok_is_alignment {f : Addr} {fd : FuncData} {a_is_row : Addr} {fd_is_row : FuncData} (G_is_row : FnOk P w K mg base CX0 3 a_is_row fd_is_row p_is_row (SPd g sp_is_row)) (m_is_row : mg "is_row" = some (.ref a_is_row)) (k_is_row : PySem.W.keepIn K (.ref a_is_row) = true) (b_is_row : Binds K fd_is_row p_is_row []) (z_all : mg "all" = none) (z_zip : mg "zip" = none) (z_len : mg "len" = none) (z_isinstance : mg "isinstance" = none) (z_tuple : mg "tuple" = none) (F : Fun K "is_alignment" "is_alignment" s_is_alignment f fd) (gK : K = g.K) : FnOk P w K mg base CX0 4 f fd p_is_alignment (SPd g sp_is_alignment) := by
  refine okD (k := 3) F sc_is_alignment (fun ds M R X h => by first | (obtain ⟨rfl, _⟩ := h; rfl) | (obtain ⟨_, rfl, _⟩ := h; rfl) | (obtain ⟨_, _, rfl, _⟩ := h; rfl) | (obtain ⟨_, _, _, rfl, _⟩ := h; rfl) | (obtain ⟨_, _, _, _, rfl, _⟩ := h; rfl) | (obtain ⟨_, _, _, _, _, rfl, _⟩ := h; rfl)) (fun cdv A outer s H E hr hcd _ => ⟨_, (pss_cons (ps_if (PW.pt (pw_or (pt_not (pt_truK (K := K) rfl (pe_isK (K := K) (T := "tuple") rfl (by rfl) z_isinstance (by rfl) z_tuple (by decide +kernel) (pv 0)))) (pw_or1 (pt_cmpR (op_neK (K := K) rfl hr.units) (pe_callB (call_lenK (K := K) rfl) (by rfl) z_len (by decide +kernel) (pa_cons (pv 0) pa_nil)) pe_int (nomark _)))))
  (pss_one (ps_ret pe_bl))
  pss_nil)
  (pss_cons (ps_asg (pv 0) (pg_tup (n := 2) rfl (pgs_cons (pg_name (i := 1) sc_is_alignment.nd rfl (by first | exact Or.inl rfl | exact Or.inr rfl)) (pgs_cons (pg_name (i := 2) sc_is_alignment.nd rfl (by first | exact Or.inl rfl | exact Or.inr rfl)) pgs_nil))))
  (pss_cons (ps_if (PW.pt (pw_or (pt_not (pt_truK (K := K) rfl (pe_call G_is_row (hr.mono (by decide)) (by rfl) m_is_row k_is_row b_is_row .nil pass0 (pa_cons (pv 1) pa_nil)))) (pw_or (pt_not (pt_truK (K := K) rfl (pe_call G_is_row (hr.mono (by decide)) (by rfl) m_is_row k_is_row b_is_row .nil pass0 (pa_cons (pv 2) pa_nil)))) (pw_or1 (pt_cmpR (op_neK (K := K) rfl hr.units) (pe_callB (call_lenK (K := K) rfl) (by rfl) z_len (by decide +kernel) (pa_cons (pv 1) pa_nil)) (pe_callB (call_lenK (K := K) rfl) (by rfl) z_len (by decide +kernel) (pa_cons (pv 2) pa_nil)) (nomark _))))))
  (pss_one (ps_ret pe_bl))
  pss_nil)
  (pss_one (ps_ret (pe_callB (call_allK (K := K) rfl rfl) (by rfl) z_all (by decide +kernel) (pa_cons (pe_lc (own := [("top", 3), ("bottom", 4)]) (g := gTup K 2 (gCons (gName 3) (gCons (gName 4) gNil))) (tt := tYes) rfl sc_is_alignment.nd (pi_zipS (by rfl) z_zip (pa_cons (pv 1) (pa_cons (pv 2) pa_nil))) (blkOk_by (own := [("top", 3), ("bottom", 4)]) (N := n_is_alignment) (sc := defScope s_is_alignment) (by decide +kernel)) (fun _ _ _ _ _ => (pg_tup (n := 2) rfl (pgs_cons (pg_name (i := 3) sc_is_alignment.nd rfl (Or.inl rfl)) (pgs_cons (pg_name (i := 4) sc_is_alignment.nd rfl (Or.inl rfl)) pgs_nil)))) (fun _ _ _ _ _ => pts_nil) (fun _ _ _ _ _ => (pe_or (pe_cmpR (op_neK (K := K) rfl hr.units) (pv 3) pe_str (nomark _)) (pe_one (pe_cmpR (op_neK (K := K) rfl hr.units) (pv 4) pe_str (nomark _)))))) pa_nil))))))), ?_⟩)
  intro ds M R X h
  obtain ⟨x, rfl, ⟨hno, hs⟩, q⟩ := h
  repeat walk_at "d"
  rw [← isAlB_eq] at q
  cases x with
  | obj C ks xs => exact absurd hno (by simp [noObj])
  | non => exact ⟨_, "NoneType", false, rfl, rfl, by decide +kernel, _, rfl, iteT (iteT (xs_ret (xe_cb q)))⟩
  | bl b => exact ⟨_, "bool", false, rfl, rfl, by decide +kernel, _, rfl, iteT (iteT (xs_ret (xe_cb q)))⟩
  | int i => exact ⟨_, "int", false, rfl, rfl, by decide +kernel, _, rfl, iteT (iteT (xs_ret (xe_cb q)))⟩
  | str i => exact ⟨_, "str", false, rfl, rfl, by decide +kernel, _, rfl, iteT (iteT (xs_ret (xe_cb q)))⟩
  | lst xs => exact ⟨_, "list", false, rfl, rfl, by decide +kernel, _, rfl, iteT (iteT (xs_ret (xe_cb q)))⟩
  | tup xs =>
    refine ⟨_, "tuple", true, rfl, rfl, by decide +kernel, _, rfl, iteF ?_⟩
    repeat walk_at "d"
    refine xn_lenT ?_
    repeat walk_at "d"
    refine x2_ne 1 rfl rfl ⟨_, rfl, ?_⟩
    by_cases hl : xs.length = 2
    · obtain ⟨a, b, rfl⟩ : ∃ a b, xs = [a, b] := by
        match xs, hl with
        | [a, b], _ => exact ⟨a, b, rfl⟩
      have sa := hs _ rfl a (by simp)
      have sb := hs _ rfl b (by simp)
      refine iteF ?_
      repeat walk_at "d"
      refine xg_two gK ?_
      repeat walk_at "d"
      refine ⟨a, rfl, sa, _, rfl, ?_⟩
      have q : R (DV.d (D.bl (isRow a && (isRow b && isAl (.tup [a, b]))))) M := q
      cases ha : isRow a with
      | false =>
        rw [ha] at q
        exact iteT (iteT (xs_ret (xe_cb q)))
      | true =>
        refine iteF ?_
        repeat walk_at "d"
        refine ⟨b, rfl, sb, _, rfl, ?_⟩
        cases hb : isRow b with
        | false =>
          rw [ha, hb] at q
          exact iteT (iteT (xs_ret (xe_cb q)))
        | true =>
          refine iteF ?_
          rw [ha, hb] at q
          obtain ⟨x, rfl⟩ := isRow_str ha
          obtain ⟨y, rfl⟩ := isRow_str hb
          have lx := (sa.1 x rfl).1
          have ly := (sb.1 y rfl).1
          repeat walk_at "d"
          refine xn_lenS (by omega) ?_
          repeat walk_at "d"
          refine xn_lenS (by omega) ?_
          refine x2_ne 1 rfl rfl ⟨_, rfl, ?_⟩
          have e2 : isAl (.tup [.str x, .str y]) = (decide (x.length = y.length) && noGap x y) := by
            show (isRow (.str x) && (isRow (.str y) && _)) = _
            rw [ha, hb]
            rfl
          rw [e2] at q
          by_cases hxy : x.length = y.length
          · have e3 : (!D.beq (.int (x.length : Int)) (.int (y.length : Int))) = false := by rw [beq_int, hxy]; simp
            rw [e3]
            refine iteF ?_
            repeat walk_at "d"
            refine xe_lcF (gto_two (by decide) (by decide)) ?_
            refine xi_zipS ?_
            repeat walk_at "d"
            have ox := isRow_ok ha
            have oy := isRow_ok hb
            refine ⟨x, y, rfl, fun l acc M' => M' = M ∧ ∃ a b, x.zip y = a ++ b ∧ l = b.map (fun z => .d (.tup [.str [z.1], .str [z.2]])) ∧ acc = (a.map fun z => D.bl (z.1 != 45 || z.2 != 45)).map DV.d, ⟨rfl, [], x.zip y, rfl, rfl, rfl⟩, fun v r acc M' hI => ?_, fun acc M' hI => ?_⟩
            · obtain ⟨rfl, a, b, e, el, rfl⟩ := hI
              cases b with
              | nil => simp at el
              | cons z b =>
                simp only [List.map_cons, List.cons.injEq] at el
                obtain ⟨rfl, rfl⟩ := el
                have hm : z ∈ x.zip y := by rw [e]; simp
                have m1 := okS_mem ox (List.of_mem_zip hm).1
                have m2 := okS_mem oy (List.of_mem_zip hm).2
                have hl : a.length < 100000 := by
                  have := congrArg List.length e
                  simp [List.length_zip] at this
                  omega
                refine xg_two gK ?_
                repeat walk_at "d"
                refine iteT ?_
                repeat walk_at "d"
                refine x2_ne 1 (ok1 m1) rfl ⟨_, rfl, ?_⟩
                rw [beqd]
                have fin : ∀ bb : Bool, bb = (z.1 != 45 || z.2 != 45) → (List.map DV.d (List.map (fun z => D.bl (z.1 != 45 || z.2 != 45)) a)).length < 100000 ∧ M' = M' ∧ ∃ a2 b2, x.zip y = a2 ++ b2 ∧ b.map (fun z => DV.d (.tup [.str [z.1], .str [z.2]])) = b2.map (fun z => .d (.tup [.str [z.1], .str [z.2]])) ∧ List.map DV.d (List.map (fun z => D.bl (z.1 != 45 || z.2 != 45)) a) ++ [DV.d (.bl bb)] = (a2.map fun z => D.bl (z.1 != 45 || z.2 != 45)).map DV.d := fun bb hb => ⟨by simpa using hl, rfl, a ++ [z], b, by rw [e]; simp, rfl, by rw [hb]; simp⟩
                by_cases h45 : z.1 = 45
                · rw [decide_eq_true h45]
                  refine iteF ?_
                  repeat walk_at "d"
                  refine x2_ne 1 (ok1 m2) rfl ?_
                  rw [beqd]
                  exact fin _ (by rw [h45]; by_cases q2 : z.2 = 45 <;> simp [q2])
                · rw [decide_eq_false h45]
                  exact iteT (fin _ (by simp [h45]))
            · obtain ⟨rfl, a, b, e, el, rfl⟩ := hI
              cases b with
              | cons z b => simp at el
              | nil =>
                rw [List.append_nil] at e
                refine ⟨_, rfl, ?_⟩
                repeat walk_at "d"
                have e5 : (a.map fun z => D.bl (z.1 != 45 || z.2 != 45)) = (a.map fun z => (z.1 != 45 || z.2 != 45)).map D.bl := by rw [List.map_map]; rfl
                rw [e5]
                refine xn_all ?_
                have e6 : (a.map fun z : Nat × Nat => (z.1 != 45 || z.2 != 45)).all id = noGap x y := by
                  unfold noGap
                  rw [e, List.all_map]
                  rfl
                rw [e6]
                rw [decide_eq_true hxy] at q
                exact q
          · have e3 : (!D.beq (.int (x.length : Int)) (.int (y.length : Int))) = true := by rw [beq_int]; simp; omega
            rw [e3]
            rw [decide_eq_false hxy] at q
            exact iteT (xs_ret (xe_cb q))
    · have e3 : (!D.beq (.int (xs.length : Int)) (.int 2)) = true := by rw [beq_int]; simp; omega
      rw [e3]
      have e4 : isAlB (.tup xs) = false := by
        match xs, hl with
        | [], _ => rfl
        | [_], _ => rfl
        | [_, _], h => exact absurd rfl h
        | _ :: _ :: _ :: _, _ => rfl
      rw [e4] at q
      exact iteT (xs_ret (xe_cb q))
end
end K02
set_option maxRecDepth 100000
set_option maxHeartbeats 4000000
namespace K02
open PySem PySem.Spec PyProof.Rows L2 DL
local macro_rules | `(tactic| walk_at "d") => `(tactic| with_reducible first
  | refine xs_seq ?_ | refine xs_asg ?_ | refine xs_ret ?_ | refine xs_if ?_ | refine xs_drop ?_ | refine xs_next ?_ | refine xs_retN ?_
  | (refine' xe_varD ?va ?vk; (case va => with_unfolding_all rfl)) | (refine' xe_varM ?va ?vk; (case va => with_unfolding_all rfl)) | (refine' xe_varR ?va ?vk; (case va => with_unfolding_all rfl)) | refine xe_ci ?_ | refine xe_cs ?_ | refine xe_cb ?_ | refine xe_cn ?_
  | refine xe_op ?_ | refine xe_isi ?_ | refine xe_cB ?_ | refine xe_call ?_ | refine xe_callS ?_ | refine xa_cons ?_ | refine xa_nil ?_
  | refine xg_name ?_ | refine xe_andV ?_ | refine xe_orV ?_ | refine xe_notV ?_ | refine xe_chain ?_ | refine xe_if ?_
  | refine xt_test ?_ | refine xt_and ?_ | refine xt_or ?_ | refine xt_not ?_ | refine xt_yes ?_ | refine xt_truB (by assumption) ?_
  | refine xe_m1 ?_ | refine xe_bm ?_ | refine xe_sl ?_ | refine xo_no ?_ | refine xo_some ?_ | refine xe_tup ?_)

/-! the numbers of alignments -/
def owF (ns : List Int) : Nat → Int
  | 0 => 1
  | i + 1 => ns.getD i 0 + ns.getD (i + 1) 0 + owF ns i
def owlm (ns : List Int) : List Int := (List.range ns.length).map (owF ns)
def del : Nat → Nat → Int
  | 0, _ => 1
  | _ + 1, 0 => 1
  | i + 1, j + 1 => del i j + del i (j + 1) + del (i + 1) j
def delRow (i m : Nat) : List Int := (List.range (m + 1)).map (del i)
theorem delRow_get {i m j : Nat} (h : j < m + 1) : (delRow i m).getD j 0 = del i j := by
  unfold delRow
  rw [List.getD_eq_getElem?_getD, List.getElem?_map, List.getElem?_range h]
  rfl
theorem ow_del (i m : Nat) : owlm (delRow i m) = delRow (i + 1) m := by
  have hl : (delRow i m).length = m + 1 := by simp [delRow]
  have key : ∀ j, j < m + 1 → owF (delRow i m) j = del (i + 1) j := by
    intro j
    induction j with
    | zero => intro _; simp [owF, del]
    | succ j ih =>
      intro hj
      show _ + _ + owF (delRow i m) j = _
      rw [delRow_get (by omega), delRow_get hj, ih (by omega)]
      simp [del]
  unfold owlm
  rw [hl]
  unfold delRow
  exact List.map_congr_left fun j hj => key j (List.mem_range.mp hj)
theorem set_snoc {α : Type} {l : List α} {x y : α} : (l ++ [x]).set l.length y = l ++ [y] := by simp
theorem get_snoc' {α : Type} {l : List α} {x : α} : (l ++ [x])[l.length]? = some x := by simp
section
variable {P : Program} {w : World} {K : PySem.W.Frag} {mg : Str → Option Value} {base : Heap} {g : G}
end
end K02
set_option maxRecDepth 100000
set_option maxHeartbeats 4000000
namespace K02
open PySem PySem.Spec PyProof.Rows L2 DL
local macro_rules | `(tactic| walk_at "d") => `(tactic| with_reducible first
  | refine xs_seq ?_ | refine xs_asg ?_ | refine xs_ret ?_ | refine xs_if ?_ | refine xs_drop ?_ | refine xs_next ?_ | refine xs_retN ?_
  | (refine' xe_varD ?va ?vk; (case va => with_unfolding_all rfl)) | (refine' xe_varM ?va ?vk; (case va => with_unfolding_all rfl)) | (refine' xe_varR ?va ?vk; (case va => with_unfolding_all rfl)) | refine xe_ci ?_ | refine xe_cs ?_ | refine xe_cb ?_ | refine xe_cn ?_
  | refine xe_op ?_ | refine xe_isi ?_ | refine xe_cB ?_ | refine xe_call ?_ | refine xe_callS ?_ | refine xa_cons ?_ | refine xa_nil ?_
  | refine xg_name ?_ | refine xe_andV ?_ | refine xe_orV ?_ | refine xe_notV ?_ | refine xe_chain ?_ | refine xe_if ?_
  | refine xt_test ?_ | refine xt_and ?_ | refine xt_or ?_ | refine xt_not ?_ | refine xt_yes ?_ | refine xt_truB (by assumption) ?_
  | refine xe_m1 ?_ | refine xe_bm ?_ | refine xe_sl ?_ | refine xo_no ?_ | refine xo_some ?_ | refine xe_tup ?_)

abbrev s_init : Stmt := inClass (topS 1) 0
theorem sc_init : FnScope ["self", "reason"] ["self", "reason"] (defScope s_init) := ⟨rfl, rfl, rfl, by decide +kernel, rfl, by decide +kernel, by decide +kernel⟩
section
variable {P : Program} {w : World} {K : PySem.W.Frag} {mg : Str → Option Value} {base : Heap} {g : G}
theorem ok_init {C fI : Addr} {fd : FuncData} (F : Fun K "__init__" "RightfaresError.__init__" s_init fI fd) (T : OexC K C) (hn : PySem.W.findIn K (.ref C) "reason" = some none) (vV : PySem.W.findCls K (.type "ValueError") (.type "type") "__init__" = some (.val (.builtin "ValueError.__init__"))) (zV : mg "ValueError" = none) :
    FnOk P w K mg base CX0 1 fI fd ["self", "reason"] (spInit C) := by
  refine F.ok sc_init (fun vs H Q E h => ?_) (fun cdv A outer s H vs Q E hr h => ?_)
  · obtain ⟨a, v, rfl, _⟩ := h; rfl
  · obtain ⟨a, v, rfl, e, k⟩ := h
    refine ⟨_, pss_cons (ps_expr (pe_veinit (by rfl) zV vV (pa_cons (pv 0) (pa_cons (pv 1) pa_nil)))) (pss_one (ps_ost (pv 0) (pv 1))), ?_⟩
    refine ⟨.ref a, rfl, v, rfl, a, C, [v], rfl, (by show 1 ≤ 1000; omega), T, e, v, rfl, .ref a, rfl, a, C, rfl, T, hn, .inl ⟨e, fun dx h1 h2 => k dx h1 h2⟩⟩
def okP (p : List Nat × List Nat) : Prop := (p.1.length ≤ 1000 ∧ p.2.length ≤ 1000) ∧ okS p.1 ∧ okS p.2
theorem okP_ok {n : Nat} {p : List Nat × List Nat} (h1 : okS p.1) (h2 : okS p.2) : D.ok (n + 1) (encP p) = true := by
  show okA n [.str p.1, .str p.2] = true
  simp only [okA, okS_ok h1, okS_ok h2, Bool.and_self]
theorem beqP (p q : List Nat × List Nat) : D.beq (encP p) (encP q) = decide (p = q) := by
  unfold encP
  rw [beq_tup2, beq_str, beq_str, Bool.and_true]
  by_cases h : p = q
  · subst h; simp
  · rw [decide_eq_false h]
    cases h1 : (p.1 == q.1) with
    | false => rfl
    | true =>
      cases h2 : (p.2 == q.2) with
      | false => rfl
      | true => exact absurd (Prod.ext (eq_of_beq h1) (eq_of_beq h2)) h
def diffS : List Nat := ("different sequences" : Str).cps.toList
end
end K02
set_option maxRecDepth 100000
set_option maxHeartbeats 4000000
namespace K02
open PySem PySem.Spec PyProof.Rows L2 DL
local macro_rules | `(tactic| walk_at "d") => `(tactic| with_reducible first
  | refine xs_seq ?_ | refine xs_asg ?_ | refine xs_ret ?_ | refine xs_if ?_ | refine xs_drop ?_ | refine xs_next ?_ | refine xs_retN ?_
  | (refine' xe_varD ?va ?vk; (case va => with_unfolding_all rfl)) | (refine' xe_varM ?va ?vk; (case va => with_unfolding_all rfl)) | (refine' xe_varR ?va ?vk; (case va => with_unfolding_all rfl)) | refine xe_ci ?_ | refine xe_cs ?_ | refine xe_cb ?_ | refine xe_cn ?_
  | refine xe_op ?_ | refine xe_isi ?_ | refine xe_cB ?_ | refine xe_call ?_ | refine xe_callS ?_ | refine xa_cons ?_ | refine xa_nil ?_
  | refine xg_name ?_ | refine xe_andV ?_ | refine xe_orV ?_ | refine xe_notV ?_ | refine xe_chain ?_ | refine xe_if ?_
  | refine xt_test ?_ | refine xt_and ?_ | refine xt_or ?_ | refine xt_not ?_ | refine xt_yes ?_ | refine xt_truB (by assumption) ?_
  | refine xe_m1 ?_ | refine xe_bm ?_ | refine xe_sl ?_ | refine xo_no ?_ | refine xo_some ?_ | refine xe_tup ?_)

section
variable {P : Program} {w : World} {K : PySem.W.Frag} {mg : Str → Option Value} {base : Heap} {g : G}
def sp_law_cell : DSpec := fun ds M R _ => ∃ ns k, ds = [.ro ns, vI k] ∧ 0 ≤ k ∧ ∀ z, R (.d (.int z)) M
abbrev s_law_cell : Stmt := topS 17
abbrev n_law_cell : List Str := ["script", "k"]
abbrev p_law_cell : List Str := ["script", "k"]
theorem sc_law_cell : FnScope n_law_cell p_law_cell (defScope s_law_cell) := ⟨rfl, rfl, rfl, by decide +kernel, rfl, by decide +kernel, by decide +kernel⟩
theorem ok_law_cell {f : Addr} {fd : FuncData} (z_len : mg "len" = none) (F : Fun K "_law_cell" "_law_cell" s_law_cell f fd) (gK : K = g.K) : FnOk P w K mg base CX0 1 f fd p_law_cell (SPd g sp_law_cell) := by
  refine okD (k := 0) F sc_law_cell (fun ds M R X h => by first | (obtain ⟨rfl, _⟩ := h; rfl) | (obtain ⟨_, rfl, _⟩ := h; rfl) | (obtain ⟨_, _, rfl, _⟩ := h; rfl) | (obtain ⟨_, _, _, rfl, _⟩ := h; rfl) | (obtain ⟨_, _, _, _, rfl, _⟩ := h; rfl) | (obtain ⟨_, _, _, _, _, rfl, _⟩ := h; rfl)) (fun cdv A outer s H E hr hcd _ => ⟨_, (pss_cons (ps_if (pt_cmpR (op_ltK (K := K) rfl hr.units) (pv 1) (pe_callB (call_lenK (K := K) rfl) (by rfl) z_len (by decide +kernel) (pa_cons (pv 0) pa_nil)) (nomark _))
  (pss_one (ps_ret (pe_ix (ix_seqK (K := K) rfl) (pv 0) (pv 1) (fun _ _ => rfl))))
  pss_nil)
  (pss_one (ps_ret pe_int))), ?_⟩)
  intro ds M R X h
  obtain ⟨ns, k, rfl, hk, q⟩ := h
  repeat walk_at "d"
  refine xn_lenR gK (x2_ltI ⟨_, rfl, ?_⟩)
  refine ite2 (fun h => ?_) (fun h => ?_)
  · have h' := of_decide_eq_true h
    repeat walk_at "d"
    exact x2_ixR gK (at_i hk h') (q _)
  · repeat walk_at "d"
    exact q 0
abbrev LI (row : List Int) : List DV := row.map fun z => .d (.int z)
theorem LI_D (row : List Int) : LI row = (row.map D.int).map DV.d := by unfold LI; rw [List.map_map]; rfl
theorem LI_app (row : List Int) (z : Int) : LI row ++ [.d (.int z)] = LI (row ++ [z]) := by simp [LI]
theorem rng_drop {a : Int} {n i : Nat} {x : DV} {r : List DV} (h : x :: r = (rngD a n).drop i) : x = .d (.int (a + (i : Nat))) ∧ r = (rngD a n).drop (i + 1) ∧ i < n := by
  have hl : (rngD a n).length = n := by simp [rngD]
  have hi : i < n := by
    rcases Nat.lt_or_ge i n with q | q
    · exact q
    · rw [List.drop_of_length_le (by omega)] at h; cases h
  rw [List.drop_eq_getElem_cons (by omega)] at h
  obtain ⟨rfl, rfl⟩ := List.cons.inj h
  refine ⟨?_, rfl, hi⟩
  have q : (rngD a n)[i]? = some (.d (.int (a + (i : Nat)))) := by
    unfold rngD
    rw [List.getElem?_map, List.getElem?_range hi]; rfl
  rw [List.getElem?_eq_getElem (by omega)] at q
  exact Option.some.inj q
theorem rng_len (a : Int) (n : Nat) : (rngD a n).length = n := by simp [rngD]
def sp_law_row : DSpec := fun ds M R _ => ∃ ns a b, ds = [.ro ns, vI a, vI b] ∧ (0 ≤ a ∧ a ≤ 100 ∧ 0 ≤ b ∧ b ≤ 100) ∧ ∀ row : List Int, R (.d (.lst (row.map .int))) M
abbrev s_law_row : Stmt := topS 18
abbrev n_law_row : List Str := ["script", "first", "last", "row", "k", "cell", "turn"]
abbrev p_law_row : List Str := ["script", "first", "last"]
theorem sc_law_row : FnScope n_law_row p_law_row (defScope s_law_row) := ⟨rfl, rfl, rfl, by decide +kernel, rfl, by decide +kernel, by decide +kernel⟩
theorem ok_law_row {f : Addr} {fd : FuncData} {a_law_cell : Addr} {fd_law_cell : FuncData} (G_law_cell : FnOk P w K mg base CX0 1 a_law_cell fd_law_cell p_law_cell (SPd g sp_law_cell)) (m_law_cell : mg "_law_cell" = some (.ref a_law_cell)) (k_law_cell : PySem.W.keepIn K (.ref a_law_cell) = true) (b_law_cell : Binds K fd_law_cell p_law_cell []) (z_range : mg "range" = none) (z_int : mg "int" = none) (z_abs : mg "abs" = none) (F : Fun K "_law_row" "_law_row" s_law_row f fd) (gK : K = g.K) : FnOk P w K mg base CX0 2 f fd p_law_row (SPd g sp_law_row) := by
  refine okDG (k := 1) F sc_law_row (fun ds M R X h => by first | (obtain ⟨rfl, _⟩ := h; rfl) | (obtain ⟨_, rfl, _⟩ := h; rfl) | (obtain ⟨_, _, rfl, _⟩ := h; rfl) | (obtain ⟨_, _, _, rfl, _⟩ := h; rfl) | (obtain ⟨_, _, _, _, rfl, _⟩ := h; rfl) | (obtain ⟨_, _, _, _, _, rfl, _⟩ := h; rfl)) (fun cdv A outer s H E hr => ⟨_, (pss_cons (ps_set (i := 3) sc_law_row.nd rfl (by first | exact Or.inl rfl | exact Or.inr rfl) (pe_lst pa_nil))
  (pss_cons (ps_for PassesOwn.never rfl (pi_range2 (by rfl) z_range (pa_cons (pv 1) (pa_cons (pv 2) pa_nil))) (pg_name (i := 4) sc_law_row.nd rfl (by first | exact Or.inl rfl | exact Or.inr rfl))
  (pss_cons (ps_set (i := 5) sc_law_row.nd rfl (by first | exact Or.inl rfl | exact Or.inr rfl) (pe_call G_law_cell (hr.mono (by decide)) (by rfl) m_law_cell k_law_cell b_law_cell .nil pass0 (pa_cons (pv 0) (pa_cons (pv 4) pa_nil))))
  (pss_cons (ps_set (i := 5) sc_law_row.nd rfl (by first | exact Or.inl rfl | exact Or.inr rfl) (pe_op op_addU (pe_callB call_absU (by rfl) z_abs (by decide +kernel) (pa_cons (pe_op op_mulU pe_int (pv 5)) pa_nil)) (pe_callTy call_intU (by rfl) z_int (by decide +kernel) (pa_cons (pe_cmpR (op_ltK (K := K) rfl hr.units) (pv 5) pe_int (nomark _)) pa_nil))))
  (pss_one (ps_if (pt_cmpR op_gtU (pv 5) (pe_op op_powU pe_int pe_int) (nomark _))
  (pss_one (ps_for PassesOwn.never rfl (pi_range1 (by rfl) z_range (pa_cons pe_int pa_nil)) (pg_name (i := 6) sc_law_row.nd rfl (by first | exact Or.inl rfl | exact Or.inr rfl))
  (pss_one (ps_if (pt_cmpR op_gtU (pv 5) pe_int (nomark _))
  (pss_cons (ps_expr (pe_bm PySem.F.plainAttrs_list PySem.F.slot_list_append PySem.F.type_list_append mt_append (pv 3) (pa_cons (pe_op op_modU (pe_callTy call_intU (by rfl) z_int (by decide +kernel) (pa_cons (pv 5) pa_nil)) pe_int) pa_nil)))
  (pss_one (ps_set (i := 5) sc_law_row.nd rfl (by first | exact Or.inl rfl | exact Or.inr rfl) (pe_op op_divU (pv 5) pe_int))))
  pss_nil))))
  (pss_one (ps_for PassesOwn.never rfl (pi_range1 (by rfl) z_range (pa_cons pe_int pa_nil)) (pg_name (i := 6) sc_law_row.nd rfl (by first | exact Or.inl rfl | exact Or.inr rfl))
  (pss_cons (ps_set (i := 5) sc_law_row.nd rfl (by first | exact Or.inl rfl | exact Or.inr rfl) (pe_op op_modU (pe_callTy call_intU (by rfl) z_int (by decide +kernel) (pa_cons (pe_op op_addU (pe_op op_addU (pe_op op_mulU (pv 5) pe_int) (pe_op op_mulU pe_int (pe_op op_addU (pv 4) (pv 6)))) pe_int) pa_nil)) pe_int))
  (pss_one (ps_expr (pe_bm PySem.F.plainAttrs_list PySem.F.slot_list_append PySem.F.type_list_append mt_append (pv 3) (pa_cons (pe_op op_modU (pe_callTy call_intU (by rfl) z_int (by decide +kernel) (pa_cons (pe_op op_divU (pv 5) pe_int) pa_nil)) pe_int) pa_nil))))))))))))
  (pss_one (ps_ret (pv 3))))), ?_⟩)
  intro ds M R X hc h
  obtain ⟨ns, a, b, rfl, ⟨a0, a1, b0, b1⟩, q⟩ := h
  repeat walk_at "d"
  refine xe_lstM ?_
  repeat walk_at "d"
  refine ⟨Nat.zero_le _, ?_⟩
  repeat walk_at "d"
  refine xs_for (xi_rng2 ?_)
  repeat walk_at "d"
  refine ⟨a, b, rfl, by omega, fun l Γ' M' => ∃ y4 y5 y6 row, (∃ i, l = (rngD a (b - a).toNat).drop i) ∧ Γ' = [.ro ns, vI a, vI b, .m M.length, y4, y5, y6] ∧ M' = M ++ [some (.lst (LI row))] ∧ row.length + 60 * l.length ≤ 6000, ⟨.un, .un, .un, [], ⟨0, rfl⟩, rfl, rfl, ?_⟩, fun x r Γ' M' hI => ?_, fun Γ' M' hI => ?_⟩
  · rw [rng_len]; simp; omega
  · obtain ⟨y4, y5, y6, row, ⟨i, el⟩, rfl, rfl, hr⟩ := hI
    obtain ⟨rfl, er, hi⟩ := rng_drop el
    rw [List.length_cons] at hr
    repeat walk_at "d"
    refine ⟨ns, a + (i : Nat), rfl, by omega, fun z => ?_⟩
    repeat walk_at "d"
    refine x2_mulI (.inl ⟨by omega, by omega⟩) ?_
    repeat walk_at "d"
    refine xn_abs ?_
    repeat walk_at "d"
    refine x2_ltI ?_
    repeat walk_at "d"
    refine xn_intB (x2_addI ?_)
    generalize (if 2 * z < 0 then -(2 * z) else 2 * z) + (if decide (z < 0) = true then 1 else 0) = cell
    repeat walk_at "d"
    refine x2_pow ⟨by omega, by omega, by decide⟩ (x2_gtI ⟨_, rfl, ?_⟩)
    refine ite2 (fun _ => ?_) (fun _ => ?_)
    · refine xs_for (xi_rng1 ?_)
      repeat walk_at "d"
      refine ⟨60, rfl, by omega, by omega, fun l Γ' M' => ∃ y6 c row2, Γ' = [.ro ns, vI a, vI b, .m M.length, vI (a + (i : Nat)), vI c, y6] ∧ M' = M ++ [some (.lst (LI row2))] ∧ row2.length + 60 * r.length + l.length ≤ 6000, ⟨_, cell, row, rfl, rfl, ?_⟩, fun x l Γ' M' hI => ?_, fun Γ' M' hI => ?_⟩
      · rw [rng_len]; show _ + _ + 60 ≤ _; omega
      · obtain ⟨y6, c, row2, rfl, rfl, hr2⟩ := hI
        rw [List.length_cons] at hr2
        repeat walk_at "d"
        refine x2_gtI ⟨_, rfl, ?_⟩
        refine ite2 (fun _ => ?_) (fun _ => ?_)
        · repeat walk_at "d"
          refine ⟨⟨rfl, _, get_snoc'⟩, ?_⟩
          repeat walk_at "d"
          refine xn_intI ?_
          repeat walk_at "d"
          refine x2_mod (by decide) ?_
          repeat walk_at "d"
          refine xm_app get_snoc' (by simp [LI]; omega) ?_
          rw [set_snoc, LI_app]
          repeat walk_at "d"
          refine x2_div ⟨by decide, by decide⟩ ?_
          refine xg_name ?_
          exact ⟨_, _, row2 ++ [c % 840], rfl, rfl, by simp; omega⟩
        · refine xs_next ?_
          exact ⟨_, c, row2, rfl, rfl, by omega⟩
      · obtain ⟨y6, c, row2, rfl, rfl, hr2⟩ := hI
        exact ⟨_, _, _, row2, ⟨i + 1, er⟩, rfl, rfl, by simpa using hr2⟩
    · refine xs_for (xi_rng1 ?_)
      repeat walk_at "d"
      refine ⟨10, rfl, by omega, by omega, fun l Γ' M' => ∃ y6 c row2, (∃ j, l = (rngD 0 10).drop j) ∧ Γ' = [.ro ns, vI a, vI b, .m M.length, vI (a + (i : Nat)), vI c, y6] ∧ M' = M ++ [some (.lst (LI row2))] ∧ row2.length + 60 * r.length + l.length ≤ 6000, ⟨_, cell, row, ⟨0, rfl⟩, rfl, rfl, ?_⟩, fun x l Γ' M' hI => ?_, fun Γ' M' hI => ?_⟩
      · rw [rng_len]; show _ + _ + 10 ≤ _; omega
      · obtain ⟨y6, c, row2, ⟨j, ej⟩, rfl, rfl, hr2⟩ := hI
        obtain ⟨rfl, ej2, hj⟩ := rng_drop ej
        rw [List.length_cons] at hr2
        repeat walk_at "d"
        refine x2_mulI (.inr ⟨by omega, by omega⟩) ?_
        repeat walk_at "d"
        refine x2_addI (x2_mulI (.inl ⟨by omega, by omega⟩) (x2_addI ?_))
        repeat walk_at "d"
        refine x2_addI ?_
        repeat walk_at "d"
        refine xn_intI ?_
        repeat walk_at "d"
        refine x2_mod (by decide) ?_
        generalize (c * 69069 + 104729 * (a + (i : Nat) + (0 + (j : Nat))) + 1) % 4294967291 = c2
        repeat walk_at "d"
        refine ⟨⟨rfl, _, get_snoc'⟩, ?_⟩
        repeat walk_at "d"
        refine x2_div ⟨by decide, by decide⟩ ?_
        repeat walk_at "d"
        refine xn_intI ?_
        repeat walk_at "d"
        refine x2_mod (by decide) ?_
        repeat walk_at "d"
        refine xm_app get_snoc' (by simp [LI]; omega) ?_
        rw [set_snoc, LI_app]
        exact ⟨_, c2, _, ⟨j + 1, ej2⟩, rfl, rfl, by simp; omega⟩
      · obtain ⟨y6, c, row2, _, rfl, rfl, hr2⟩ := hI
        exact ⟨_, _, _, row2, ⟨i + 1, er⟩, rfl, rfl, by simpa using hr2⟩
  · obtain ⟨y4, y5, y6, row, _, rfl, rfl, hr⟩ := hI
    rw [LI_D]
    refine xs_ret (xe_ice rfl get_snoc' ?_)
    rw [set_snoc]
    exact gb_d hc (q row)
def BX (M : Mem) : Prop := ∃ (row : List Int) (at_ : Int), M = [some (.lst [.d (.lst (row.map .int)), vI at_])] ∧ 0 ≤ at_
def sp_law_draw : DSpec := fun ds M R _ => ∃ many, ds = [.m 0, vI many] ∧ (0 < many ∧ BX M) ∧ ∀ n M', 0 ≤ n → n < many → BX M' → R (.d (.int n)) M'
abbrev s_law_draw : Stmt := topS 19
abbrev n_law_draw : List Str := ["box", "many", "at"]
abbrev p_law_draw : List Str := ["box", "many"]
theorem sc_law_draw : FnScope n_law_draw p_law_draw (defScope s_law_draw) := ⟨rfl, rfl, rfl, by decide +kernel, rfl, by decide +kernel, by decide +kernel⟩
theorem ok_law_draw {f : Addr} {fd : FuncData} (z_int : mg "int" = none) (z_len : mg "len" = none) (F : Fun K "_law_draw" "_law_draw" s_law_draw f fd) (gK : K = g.K) : FnOk P w K mg base CX0 1 f fd p_law_draw (SPd g sp_law_draw) := by
  refine okD (k := 0) F sc_law_draw (fun ds M R X h => by first | (obtain ⟨rfl, _⟩ := h; rfl) | (obtain ⟨_, rfl, _⟩ := h; rfl) | (obtain ⟨_, _, rfl, _⟩ := h; rfl) | (obtain ⟨_, _, _, rfl, _⟩ := h; rfl) | (obtain ⟨_, _, _, _, rfl, _⟩ := h; rfl) | (obtain ⟨_, _, _, _, _, rfl, _⟩ := h; rfl)) (fun cdv A outer s H E hr hcd _ => ⟨_, (pss_cons (ps_set (i := 2) sc_law_draw.nd rfl (by first | exact Or.inl rfl | exact Or.inr rfl) (pe_ix (ix_seqK (K := K) rfl) (pv 0) pe_int (fun _ _ => rfl)))
  (pss_cons (ps_asg (pe_op op_addU (pv 2) pe_int) (pg_sub (pv 0) pe_int set_list))
  (pss_cons (ps_if (pt_cmpR (op_ltK (K := K) rfl hr.units) (pv 2) (pe_callB (call_lenK (K := K) rfl) (by rfl) z_len (by decide +kernel) (pa_cons (pe_ix (ix_seqK (K := K) rfl) (pv 0) pe_int (fun _ _ => rfl)) pa_nil)) (nomark _))
  (pss_one (ps_ret (pe_op op_modU (pe_callTy call_intU (by rfl) z_int (by decide +kernel) (pa_cons (pe_ix (ix_seqK (K := K) rfl) (pe_ix (ix_seqK (K := K) rfl) (pv 0) pe_int (fun _ _ => rfl)) (pv 2) (fun _ _ => rfl)) pa_nil)) (pv 1))))
  pss_nil)
  (pss_one (ps_ret (pe_op op_modU (pe_callTy call_intU (by rfl) z_int (by decide +kernel) (pa_cons (pe_op op_addU (pe_op op_mulU (pv 2) pe_int) pe_int) pa_nil)) (pv 1))))))), ?_⟩)
  intro ds M R X h
  obtain ⟨many, rfl, ⟨hm, row, at_, rfl, ha⟩, q⟩ := h
  repeat walk_at "d"
  refine x2_ixM gK rfl at_1 ?_
  repeat walk_at "d"
  refine x2_addI (xg_set ?_)
  repeat walk_at "d"
  refine ⟨0, _, 1, 1, rfl, rfl, rfl, rfl, ?_⟩
  repeat walk_at "d"
  refine x2_ixM gK rfl at_0 (xa_nil (xn_lenL (x2_ltI ⟨_, rfl, ?_⟩)))
  have bx : BX [some (.lst [.d (.lst (row.map .int)), vI (at_ + 1)])] := ⟨row, at_ + 1, rfl, by omega⟩
  refine ite2 (fun h => ?_) (fun h => ?_)
  · have h' := of_decide_eq_true h
    repeat walk_at "d"
    refine x2_ixM gK rfl at_0 ?_
    repeat walk_at "d"
    have e := at_i (l := row) (i := at_) ha (by simpa using h')
    refine x2_ixL gK (d := .int _) (by rw [atI_map, e]; rfl) (xa_nil (xn_intI ?_))
    repeat walk_at "d"
    exact x2_mod hm (q _ _ (Int.emod_nonneg _ (by omega)) (Int.emod_lt_of_pos _ hm) bx)
  · repeat walk_at "d"
    refine x2_mulI (.inr ⟨by omega, by omega⟩) ?_
    repeat walk_at "d"
    refine x2_addI (xa_nil (xn_intI ?_))
    repeat walk_at "d"
    exact x2_mod hm (q _ _ (Int.emod_nonneg _ (by omega)) (Int.emod_lt_of_pos _ hm) bx)
end
end K02
set_option maxRecDepth 100000
set_option maxHeartbeats 4000000
namespace K02
open PySem PySem.Spec PyProof.Rows L2 DL
local macro_rules | `(tactic| walk_at "d") => `(tactic| with_reducible first
  | refine xs_seq ?_ | refine xs_asg ?_ | refine xs_ret ?_ | refine xs_if ?_ | refine xs_drop ?_ | refine xs_next ?_ | refine xs_retN ?_
  | (refine' xe_varD ?va ?vk; (case va => with_unfolding_all rfl)) | (refine' xe_varM ?va ?vk; (case va => with_unfolding_all rfl)) | (refine' xe_varR ?va ?vk; (case va => with_unfolding_all rfl)) | refine xe_ci ?_ | refine xe_cs ?_ | refine xe_cb ?_ | refine xe_cn ?_
  | refine xe_op ?_ | refine xe_isi ?_ | refine xe_cB ?_ | refine xe_call ?_ | refine xe_callS ?_ | refine xa_cons ?_ | refine xa_nil ?_
  | refine xg_name ?_ | refine xe_andV ?_ | refine xe_orV ?_ | refine xe_notV ?_ | refine xe_chain ?_ | refine xe_if ?_
  | refine xt_test ?_ | refine xt_and ?_ | refine xt_or ?_ | refine xt_not ?_ | refine xt_yes ?_ | refine xt_truB (by assumption) ?_
  | refine xe_m1 ?_ | refine xe_bm ?_ | refine xe_sl ?_ | refine xo_no ?_ | refine xo_some ?_ | refine xe_tup ?_)

theorem joinL_one : ∀ (x : List Nat), TL.joinL [] (x.map fun c => [c]) = x
  | [] => rfl
  | [c] => rfl
  | c :: d :: r => by
    have ih := joinL_one (d :: r)
    show [c] ++ ([] ++ TL.joinL [] ((d :: r).map fun c => [c])) = _
    rw [ih]; rfl
theorem nilS : ("" : Str).cps.toList = [] := by decide +kernel
theorem sum_one (x : List Nat) : ((x.map fun c => [c]).map List.length).sum = x.length := by
  induction x with
  | nil => rfl
  | cons c r ih => simp only [List.map_cons, List.sum_cons, ih, List.length_cons, List.length_nil]; omega
theorem ones_D (x : List Nat) : (x.map fun c => DV.d (.str [c])) = ((x.map fun c => [c]).map D.str).map DV.d := by rw [List.map_map, List.map_map]; rfl
section
variable {P : Program} {w : World} {K : PySem.W.Frag} {mg : Str → Option Value} {base : Heap} {g : G}
def wordy (x : List Nat) : Prop := ∀ c ∈ x, 97 ≤ c ∧ c ≤ 100
def sp_law_word : DSpec := fun ds M R _ => ∃ most, ds = [.m 0, vI most] ∧ (0 ≤ most ∧ most ≤ 10 ∧ BX M) ∧ ∀ x M', (x.length : Int) ≤ most → wordy x → BX M' → R (vS x) M'
theorem abcd_at {n : Int} (h0 : 0 ≤ n) (h1 : n < 4) : ∃ c, atI ("abcd" : Str).cps.toList n = some c ∧ 97 ≤ c ∧ c ≤ 100 := by
  have e : ("abcd" : Str).cps.toList = [97, 98, 99, 100] := by decide +kernel
  rw [e]
  have : n = 0 ∨ n = 1 ∨ n = 2 ∨ n = 3 := by omega
  rcases this with rfl | rfl | rfl | rfl
  · exact ⟨97, rfl, by omega⟩
  · exact ⟨98, rfl, by omega⟩
  · exact ⟨99, rfl, by omega⟩
  · exact ⟨100, rfl, by omega⟩
theorem l234_at {n : Int} (h0 : 0 ≤ n) (h1 : n < 3) : ∃ z : Int, atI [D.int 2, .int 3, .int 4] n = some (.int z) ∧ 0 < z ∧ z ≤ 4 := by
  have : n = 0 ∨ n = 1 ∨ n = 2 := by omega
  rcases this with rfl | rfl | rfl
  · exact ⟨2, rfl, by omega⟩
  · exact ⟨3, rfl, by omega⟩
  · exact ⟨4, rfl, by omega⟩
abbrev s_law_word : Stmt := topS 20
abbrev n_law_word : List Str := ["box", "most", "many", "k"]
abbrev p_law_word : List Str := ["box", "most"]
theorem sc_law_word : FnScope n_law_word p_law_word (defScope s_law_word) := ⟨rfl, rfl, rfl, by decide +kernel, rfl, by decide +kernel, by decide +kernel⟩
theorem ok_law_word {f : Addr} {fd : FuncData} {a_law_draw : Addr} {fd_law_draw : FuncData} (G_law_draw : FnOk P w K mg base CX0 1 a_law_draw fd_law_draw p_law_draw (SPd g sp_law_draw)) (m_law_draw : mg "_law_draw" = some (.ref a_law_draw)) (k_law_draw : PySem.W.keepIn K (.ref a_law_draw) = true) (b_law_draw : Binds K fd_law_draw p_law_draw []) (z_range : mg "range" = none) (F : Fun K "_law_word" "_law_word" s_law_word f fd) (gK : K = g.K) : FnOk P w K mg base CX0 2 f fd p_law_word (SPd g sp_law_word) := by
  refine okD (k := 1) F sc_law_word (fun ds M R X h => by first | (obtain ⟨rfl, _⟩ := h; rfl) | (obtain ⟨_, rfl, _⟩ := h; rfl) | (obtain ⟨_, _, rfl, _⟩ := h; rfl) | (obtain ⟨_, _, _, rfl, _⟩ := h; rfl) | (obtain ⟨_, _, _, _, rfl, _⟩ := h; rfl) | (obtain ⟨_, _, _, _, _, rfl, _⟩ := h; rfl)) (fun cdv A outer s H E hr hcd _ => ⟨_, (pss_cons (ps_set (i := 2) sc_law_word.nd rfl (by first | exact Or.inl rfl | exact Or.inr rfl) (pe_call G_law_draw (hr.mono (by decide)) (by rfl) m_law_draw k_law_draw b_law_draw .nil pass0 (pa_cons (pv 0) (pa_cons (pe_op op_addU (pv 1) pe_int) pa_nil))))
  (pss_one (ps_ret (pe_joinK (K := K) rfl pe_str (pe_lc (own := [("k", 3)]) (g := gName 3) (tt := tYes) rfl sc_law_word.nd (pi_range1 (by rfl) z_range (pa_cons (pv 2) pa_nil)) (blkOk_by (own := [("k", 3)]) (N := n_law_word) (sc := defScope s_law_word) (by decide +kernel)) (fun _ _ _ _ _ => (pg_name (i := 3) sc_law_word.nd rfl (Or.inl rfl))) (fun _ _ _ _ _ => pts_nil) (fun _ _ _ _ _ => (pe_ix (ix_seqK (K := K) rfl) pe_str (pe_call G_law_draw (hr.mono (by decide)) (by rfl) m_law_draw k_law_draw b_law_draw .nil pass0 (pa_cons (pv 0) (pa_cons (pe_ix (ix_seqK (K := K) rfl) (pe_lst (pa_cons pe_int (pa_cons pe_int (pa_cons pe_int pa_nil)))) (pe_call G_law_draw (hr.mono (by decide)) (by rfl) m_law_draw k_law_draw b_law_draw .nil pass0 (pa_cons (pv 0) (pa_cons pe_int pa_nil))) (fun _ _ => rfl)) pa_nil))) (fun _ _ => rfl)))))))), ?_⟩)
  intro ds M R X h
  obtain ⟨most, rfl, ⟨h0, h1, hb⟩, q⟩ := h
  repeat walk_at "d"
  refine x2_addI ?_
  repeat walk_at "d"
  refine ⟨_, rfl, ⟨by omega, hb⟩, fun many M1 m0 m1 b1 => ?_⟩
  repeat walk_at "d"
  refine ⟨_, rfl, xe_lcF (gto_name (by decide)) (xi_rng1 ?_)⟩
  repeat walk_at "d"
  refine ⟨many, rfl, by omega, by omega, fun l acc M' => ∃ x, acc = (x.map fun c => DV.d (.str [c])) ∧ wordy x ∧ (x.length + l.length : Int) ≤ many ∧ BX M', ⟨[], rfl, (fun c hc => nomatch hc), ?_, b1⟩, fun v r acc M' hI => ?_, fun acc M' hI => ?_⟩
  · rw [rng_len]; simp; omega
  · obtain ⟨x, rfl, hx, hl, bM⟩ := hI
    repeat walk_at "d"
    refine iteT ?_
    repeat walk_at "d"
    refine xe_lstF ?_
    repeat walk_at "d"
    refine ⟨[.int 2, .int 3, .int 4], rfl, (by decide : 3 ≤ 100000), ?_⟩
    repeat walk_at "d"
    refine ⟨3, rfl, ⟨by omega, bM⟩, fun n M2 n0 n1 b2 => ?_⟩
    obtain ⟨z, ez, z0, z4⟩ := l234_at n0 n1
    refine x2_ixL gK ez ?_
    repeat walk_at "d"
    refine ⟨z, rfl, ⟨z0, b2⟩, fun n M3 n0 n1 b3 => ?_⟩
    obtain ⟨c, ec, c0, c1⟩ := abcd_at n0 (by omega)
    refine x2_ixS ec (by decide) ⟨?_, x ++ [c], by simp, fun d hd => ?_, ?_, b3⟩
    · simp only [List.length_map]
      have : (x.length : Int) ≤ 11 := by simp only [List.length_cons] at hl; omega
      omega
    · rcases List.mem_append.mp hd with q | q
      · exact hx d q
      · have : d = c := by simpa using q
        rw [this]; exact ⟨c0, c1⟩
    · simp only [List.length_cons, List.length_append, List.length_nil] at hl ⊢; omega
  · obtain ⟨x, rfl, hx, hl, bM⟩ := hI
    have hl' : (x.length : Int) ≤ many := by simpa using hl
    refine ⟨_, ones_D x, ?_⟩
    refine xm_join (by rw [sum_one, nilS]; simp; omega) ?_
    rw [nilS, joinL_one]
    exact q x M' (by omega) hx bM
theorem rowof_at {n : Int} (h0 : 0 ≤ n) (h1 : n < 8) : ∃ c, atI ("ab-z-aA1" : Str).cps.toList n = some c ∧ c < 1114112 := by
  have e : ("ab-z-aA1" : Str).cps.toList = [97, 98, 45, 122, 45, 97, 65, 49] := by decide +kernel
  rw [e]
  have : n = 0 ∨ n = 1 ∨ n = 2 ∨ n = 3 ∨ n = 4 ∨ n = 5 ∨ n = 6 ∨ n = 7 := by omega
  rcases this with rfl | rfl | rfl | rfl | rfl | rfl | rfl | rfl <;> exact ⟨_, rfl, by omega⟩
def sp_law_plain : DSpec := fun ds M R _ => ∃ x, ds = [vS x] ∧ (x.length ≤ 1000 ∧ okS x) ∧ R (vS (nod x)) M
abbrev s_law_plain : Stmt := topS 22
abbrev n_law_plain : List Str := ["row", "letter"]
abbrev p_law_plain : List Str := ["row"]
theorem sc_law_plain : FnScope n_law_plain p_law_plain (defScope s_law_plain) := ⟨rfl, rfl, rfl, by decide +kernel, rfl, by decide +kernel, by decide +kernel⟩
theorem ok_law_plain {f : Addr} {fd : FuncData}  (F : Fun K "_law_plain" "_law_plain" s_law_plain f fd) (gK : K = g.K) : FnOk P w K mg base CX0 1 f fd p_law_plain (SPd g sp_law_plain) := by
  refine okD (k := 0) F sc_law_plain (fun ds M R X h => by first | (obtain ⟨rfl, _⟩ := h; rfl) | (obtain ⟨_, rfl, _⟩ := h; rfl) | (obtain ⟨_, _, rfl, _⟩ := h; rfl) | (obtain ⟨_, _, _, rfl, _⟩ := h; rfl) | (obtain ⟨_, _, _, _, rfl, _⟩ := h; rfl) | (obtain ⟨_, _, _, _, _, rfl, _⟩ := h; rfl)) (fun cdv A outer s H E hr hcd _ => ⟨_, (pss_one (ps_ret (pe_joinK (K := K) rfl pe_str (pe_lc (own := [("letter", 1)]) (g := gName 1) rfl sc_law_plain.nd (pi_str (pv 0)) (blkOk_by (own := [("letter", 1)]) (N := n_law_plain) (sc := defScope s_law_plain) (by decide +kernel)) (fun _ _ _ _ _ => (pg_name (i := 1) sc_law_plain.nd rfl (Or.inl rfl))) (fun _ _ _ _ _ => (pts_one (pt_cmpR (op_neK (K := K) rfl hr.units) (pv 1) pe_str (nomark _)))) (fun _ _ _ _ _ => (pv 1)))))), ?_⟩)
  intro ds M R X h
  obtain ⟨x, rfl, ⟨h1, hx⟩, q⟩ := h
  repeat walk_at "d"
  refine ⟨_, rfl, xe_lcF (gto_name (by decide)) (xi_str ?_)⟩
  repeat walk_at "d"
  refine ⟨x, rfl, fun l acc M' => M' = M ∧ ∃ a b, x = a ++ b ∧ l = (b.map fun c => DV.d (.str [c])) ∧ acc = ((nod a).map fun c => DV.d (.str [c])), ⟨rfl, [], x, rfl, rfl, rfl⟩, fun v r acc M' hI => ?_, fun acc M' hI => ?_⟩
  · obtain ⟨rfl, a, b, e, el, rfl⟩ := hI
    cases b with
    | nil => cases el
    | cons c b =>
      obtain ⟨rfl, rfl⟩ := List.cons.inj el
      have hc : c < 1114112 := hx c (by rw [e]; simp)
      have la : (nod a).length ≤ 1000 := Nat.le_trans (nod_len a) (by have := congrArg List.length e; simp at this; omega)
      repeat walk_at "d"
      refine x2_ne 1 (ok1 hc) rfl ⟨_, rfl, ?_⟩
      rw [beqd]
      by_cases h45 : c = 45
      · rw [decide_eq_true h45]
        refine iteF ⟨rfl, a ++ [c], b, by rw [e]; simp, rfl, ?_⟩
        simp [nod, h45]
      · rw [decide_eq_false h45]
        refine iteT ?_
        repeat walk_at "d"
        refine ⟨by simp; omega, rfl, a ++ [c], b, by rw [e]; simp, rfl, ?_⟩
        simp [nod, h45]
  · obtain ⟨rfl, a, b, e, el, rfl⟩ := hI
    cases b with
    | cons c b => cases el
    | nil =>
      rw [List.append_nil] at e
      subst e
      refine ⟨_, ones_D _, ?_⟩
      have := nod_len x
      refine xm_join (by rw [sum_one, nilS]; simp; omega) ?_
      rw [nilS, joinL_one]
      exact q
end
end K02
set_option maxRecDepth 100000
set_option maxHeartbeats 4000000
namespace K02
open PySem PySem.Spec PyProof.Rows L2 DL
local macro_rules | `(tactic| walk_at "d") => `(tactic| with_reducible first
  | refine xs_seq ?_ | refine xs_asg ?_ | refine xs_ret ?_ | refine xs_if ?_ | refine xs_drop ?_ | refine xs_next ?_ | refine xs_retN ?_
  | (refine' xe_varD ?va ?vk; (case va => with_unfolding_all rfl)) | (refine' xe_varM ?va ?vk; (case va => with_unfolding_all rfl)) | (refine' xe_varR ?va ?vk; (case va => with_unfolding_all rfl)) | refine xe_ci ?_ | refine xe_cs ?_ | refine xe_cb ?_ | refine xe_cn ?_
  | refine xe_op ?_ | refine xe_isi ?_ | refine xe_cB ?_ | refine xe_call ?_ | refine xe_callS ?_ | refine xa_cons ?_ | refine xa_nil ?_
  | refine xg_name ?_ | refine xe_andV ?_ | refine xe_orV ?_ | refine xe_notV ?_ | refine xe_chain ?_ | refine xe_if ?_
  | refine xt_test ?_ | refine xt_and ?_ | refine xt_or ?_ | refine xt_not ?_ | refine xt_yes ?_ | refine xt_truB (by assumption) ?_
  | refine xe_m1 ?_ | refine xe_bm ?_ | refine xe_sl ?_ | refine xo_no ?_ | refine xo_some ?_ | refine xe_tup ?_)

theorem alphaS : ("abcdefghijklmnopqrstuvwxyz" : Str).cps.toList = (List.range 26).map (· + 97) := by decide +kernel
theorem alpha_in (c : Nat) : decide (c ∈ ("abcdefghijklmnopqrstuvwxyz" : Str).cps.toList) = isL c := by
  rw [alphaS]
  unfold isL
  by_cases h : 97 ≤ c ∧ c ≤ 122
  · rw [decide_eq_true h.1, decide_eq_true h.2]
    exact decide_eq_true (List.mem_map.mpr ⟨c - 97, List.mem_range.mpr (by omega), by omega⟩)
  · have e : (decide (97 ≤ c) && decide (c ≤ 122)) = false := by
      cases h1 : decide (97 ≤ c) with
      | false => rfl
      | true =>
        cases h2 : decide (c ≤ 122) with
        | false => rfl
        | true => exact absurd ⟨of_decide_eq_true h1, of_decide_eq_true h2⟩ h
    rw [e]
    refine decide_eq_false fun q => h ?_
    obtain ⟨i, hi, rfl⟩ := List.mem_map.mp q
    have := List.mem_range.mp hi
    omega
theorem all_filter (x : List Nat) : ((x.filter fun c => !isL c).length == 0) = x.all isL := by
  induction x with
  | nil => rfl
  | cons c r ih =>
    cases h : isL c with
    | true => simp [List.filter_cons, h]; simpa using ih
    | false => simp [List.filter_cons, h]
section
variable {P : Program} {w : World} {K : PySem.W.Frag} {mg : Str → Option Value} {base : Heap} {g : G}
theorem word_ok {x : List Nat} (h : isSeq (.str (nod x)) = true) : okS x := isRow_ok h
def isPairB : D → Bool
  | .tup [.str x, .str y] => decide (x.length = y.length) && (isSeq (.str (nod x)) && (isSeq (.str (nod y)) && noGap x y))
  | _ => false
theorem isPairB_eq (d : D) : isPairB d = isAl d := by
  match d with
  | .tup [.str x, .str y] =>
    show (decide (x.length = y.length) && (isSeq (.str (nod x)) && (isSeq (.str (nod y)) && noGap x y))) = (isSeq (.str (nod x)) && (isSeq (.str (nod y)) && (decide (x.length = y.length) && noGap x y)))
    cases decide (x.length = y.length) <;> cases isSeq (.str (nod x)) <;> cases isSeq (.str (nod y)) <;> rfl
  | .tup [a] => cases a <;> rfl
  | .tup (a :: b :: c :: r) => cases a <;> (try rfl) <;> cases b <;> rfl
  | .tup [] | .non | .bl _ | .int _ | .str _ | .lst _ | .obj _ _ _ => rfl
  | .tup [.str x, .non] | .tup [.str x, .bl _] | .tup [.str x, .int _] | .tup [.str x, .lst _] | .tup [.str x, .tup _] | .tup [.str x, .obj _ _ _] => rfl
  | .tup [.non, b] | .tup [.bl _, b] | .tup [.int _, b] | .tup [.lst _, b] | .tup [.tup _, b] | .tup [.obj _ _ _, b] => cases b <;> rfl
theorem gapB (x y : List Nat) (h : x.length = y.length) : (((List.range x.length).filter fun k => decide (x.getD k 0 = 45) && decide (y.getD k 0 = 45)).length == 0) = noGap x y := by
  unfold noGap
  rw [Bool.eq_iff_iff, beq_iff_eq, List.all_eq_true]
  constructor
  · intro h0 p hp
    obtain ⟨k, hk⟩ := List.mem_iff_getElem?.mp hp
    obtain ⟨k1, k2⟩ := List.getElem?_zip_eq_some.mp hk
    have hlt : k < x.length := (List.getElem?_eq_some_iff.mp k1).1
    have hn := List.eq_nil_of_length_eq_zero h0
    have hk3 : k ∉ (List.range x.length).filter fun k => decide (x.getD k 0 = 45) && decide (y.getD k 0 = 45) := by rw [hn]; simp
    have e1 : x.getD k 0 = p.1 := by rw [List.getD_eq_getElem?_getD, k1]; rfl
    have e2 : y.getD k 0 = p.2 := by rw [List.getD_eq_getElem?_getD, k2]; rfl
    rw [List.mem_filter, e1, e2] at hk3
    by_cases q1 : p.1 = 45
    · by_cases q2 : p.2 = 45
      · exact absurd ⟨List.mem_range.mpr hlt, by simp [q1, q2]⟩ hk3
      · simp [q2]
    · simp [q1]
  · intro hp
    apply List.length_eq_zero_iff.mpr
    apply List.filter_eq_nil_iff.mpr
    intro k hk
    have hlt := List.mem_range.mp hk
    have q := hp (x[k], y[k]) (List.mem_iff_getElem?.mpr ⟨k, List.getElem?_zip_eq_some.mpr ⟨List.getElem?_eq_getElem hlt, List.getElem?_eq_getElem (by omega)⟩⟩)
    have e1 : x.getD k 0 = x[k] := by rw [List.getD_eq_getElem?_getD, List.getElem?_eq_getElem hlt]; rfl
    have e2 : y.getD k 0 = y[k] := by rw [List.getD_eq_getElem?_getD, List.getElem?_eq_getElem (by omega)]; rfl
    rw [e1, e2]
    simp at q ⊢
    exact fun z => q.resolve_left (fun n => n z)
end
end K02
set_option maxRecDepth 100000
set_option maxHeartbeats 4000000
namespace K02
open PySem PySem.Spec PyProof.Rows L2 DL
local macro_rules | `(tactic| walk_at "d") => `(tactic| with_reducible first
  | refine xs_seq ?_ | refine xs_asg ?_ | refine xs_ret ?_ | refine xs_if ?_ | refine xs_drop ?_ | refine xs_next ?_ | refine xs_retN ?_
  | (refine' xe_varD ?va ?vk; (case va => with_unfolding_all rfl)) | (refine' xe_varM ?va ?vk; (case va => with_unfolding_all rfl)) | (refine' xe_varR ?va ?vk; (case va => with_unfolding_all rfl)) | refine xe_ci ?_ | refine xe_cs ?_ | refine xe_cb ?_ | refine xe_cn ?_
  | refine xe_op ?_ | refine xe_isi ?_ | refine xe_cB ?_ | refine xe_call ?_ | refine xe_callS ?_ | refine xa_cons ?_ | refine xa_nil ?_
  | refine xg_name ?_ | refine xe_andV ?_ | refine xe_orV ?_ | refine xe_notV ?_ | refine xe_chain ?_ | refine xe_if ?_
  | refine xt_test ?_ | refine xt_and ?_ | refine xt_or ?_ | refine xt_not ?_ | refine xt_yes ?_ | refine xt_truB (by assumption) ?_
  | refine xe_m1 ?_ | refine xe_bm ?_ | refine xe_sl ?_ | refine xo_no ?_ | refine xo_some ?_ | refine xe_tup ?_)

/-! all alignments -/
def allP : List Nat → List Nat → List (List Nat × List Nat)
  | [], [] => [([], [])]
  | a :: x, [] => (allP x []).map fun p => (a :: p.1, 45 :: p.2)
  | [], b :: y => (allP [] y).map fun p => (45 :: p.1, b :: p.2)
  | a :: x, b :: y => (allP x y).map (fun p => (a :: p.1, b :: p.2)) ++ (allP x (b :: y)).map (fun p => (a :: p.1, 45 :: p.2)) ++ (allP (a :: x) y).map (fun p => (45 :: p.1, b :: p.2))
termination_by x y => x.length + y.length
def mP : List Nat → List Nat → List (List Nat × List Nat)
  | a :: x, b :: y => (allP x y).map (fun p => (a :: p.1, b :: p.2))
  | _, _ => []
def dP : List Nat → List Nat → List (List Nat × List Nat)
  | a :: x, y => (allP x y).map (fun p => (a :: p.1, 45 :: p.2))
  | _, _ => []
def iP : List Nat → List Nat → List (List Nat × List Nat)
  | x, b :: y => (allP x y).map (fun p => (45 :: p.1, b :: p.2))
  | _, _ => []
theorem allP_eq (x y : List Nat) (h : ¬ (x = [] ∧ y = [])) : allP x y = mP x y ++ dP x y ++ iP x y := by
  match x, y, h with
  | [], [], h => exact absurd ⟨rfl, rfl⟩ h
  | a :: x, [], _ => rw [allP]; simp [mP, dP, iP]
  | [], b :: y, _ => rw [allP]; simp [mP, dP, iP]
  | a :: x, b :: y, _ => rw [allP]; simp [mP, dP, iP]
theorem allP_nil : allP [] [] = [([], [])] := by rw [allP]
theorem allP_len : ∀ (n : Nat) (x y : List Nat), x.length + y.length ≤ n → (allP x y).length ≤ 3 ^ n
  | n, [], [], _ => by rw [allP]; exact Nat.one_le_pow _ _ (by decide)
  | n + 1, a :: x, [], h => by
    have ih := allP_len n x [] (by simp at h ⊢; omega)
    rw [allP, List.length_map]
    have : 3 ^ (n + 1) = 3 ^ n * 3 := Nat.pow_succ ..
    omega
  | n + 1, [], b :: y, h => by
    have ih := allP_len n [] y (by simp at h ⊢; omega)
    rw [allP, List.length_map]
    have : 3 ^ (n + 1) = 3 ^ n * 3 := Nat.pow_succ ..
    omega
  | n + 1, a :: x, b :: y, h => by
    have i1 := allP_len n x y (by simp at h ⊢; omega)
    have i2 := allP_len n x (b :: y) (by simp at h ⊢; omega)
    have i3 := allP_len n (a :: x) y (by simp at h ⊢; omega)
    rw [allP, List.length_append, List.length_append, List.length_map, List.length_map, List.length_map]
    have : 3 ^ (n + 1) = 3 ^ n * 3 := Nat.pow_succ ..
    omega
  | 0, a :: x, _, h => by simp at h
  | 0, [], b :: y, h => by simp at h
theorem allP_row : ∀ (n : Nat) (x y : List Nat), x.length + y.length ≤ n → ∀ p ∈ allP x y, p.1.length ≤ n ∧ p.2.length ≤ n
  | n, [], [], _, p, hp => by
    rw [allP] at hp
    have : p = ([], []) := by simpa using hp
    rw [this]; exact ⟨Nat.zero_le _, Nat.zero_le _⟩
  | n + 1, a :: x, [], h, p, hp => by
    rw [allP] at hp
    obtain ⟨q, hq, rfl⟩ := List.mem_map.mp hp
    have ih := allP_row n x [] (by simp at h ⊢; omega) q hq
    simp; omega
  | n + 1, [], b :: y, h, p, hp => by
    rw [allP] at hp
    obtain ⟨q, hq, rfl⟩ := List.mem_map.mp hp
    have ih := allP_row n [] y (by simp at h ⊢; omega) q hq
    simp; omega
  | n + 1, a :: x, b :: y, h, p, hp => by
    rw [allP] at hp
    rcases List.mem_append.mp hp with hp | hp
    · rcases List.mem_append.mp hp with hp | hp
      · obtain ⟨q, hq, rfl⟩ := List.mem_map.mp hp
        have ih := allP_row n x y (by simp at h ⊢; omega) q hq
        simp; omega
      · obtain ⟨q, hq, rfl⟩ := List.mem_map.mp hp
        have ih := allP_row n x (b :: y) (by simp at h ⊢; omega) q hq
        simp; omega
    · obtain ⟨q, hq, rfl⟩ := List.mem_map.mp hp
      have ih := allP_row n (a :: x) y (by simp at h ⊢; omega) q hq
      simp; omega
  | 0, a :: x, _, h, _, _ => by simp at h
  | 0, [], b :: y, h, _, _ => by simp at h
section
variable {P : Program} {w : World} {K : PySem.W.Frag} {mg : Str → Option Value} {base : Heap} {g : G}
def sp_law_allN (n : Nat) : DSpec := fun ds M R _ => ∃ x y, ds = [vS x, vS y] ∧ (x.length + y.length < n ∧ x.length + y.length ≤ 9 ∧ okS x ∧ okS y) ∧ R (.d (.lst ((allP x y).map encP))) M
abbrev sp_law_all : DSpec := sp_law_allN 10
abbrev s_law_all : Stmt := topS 21
abbrev n_law_all : List Str := ["first", "second", "out", "rest"]
abbrev p_law_all : List Str := ["first", "second"]
theorem sc_law_all : FnScope n_law_all p_law_all (defScope s_law_all) := ⟨rfl, rfl, rfl, by decide +kernel, rfl, by decide +kernel, by decide +kernel⟩
theorem strNil (x : List Nat) : D.beq (.str x) (.str ("" : Str).cps.toList) = decide (x = []) := by
  rw [beq_str, nilS]
  cases x <;> simp
theorem dashS : ("-" : Str).cps.toList = [45] := by decide +kernel
theorem drop1 {c : Nat} {x : List Nat} : ((c :: x).drop (HT.sIx (c :: x).length 0 (some 1))).take (HT.sIx (c :: x).length (c :: x).length none - HT.sIx (c :: x).length 0 (some 1)) = x := by
  have e : HT.sIx (c :: x).length 0 (some 1) = 1 := by
    have := HT.sIx_nat (c :: x).length 0 1
    rw [show (some (1 : Int)) = some ((1 : Nat) : Int) from rfl, this]
    simp
  rw [e, HT.sIx_none]
  simp
theorem xs_mid {Z : DX} {a b : TS} {Γ : List DV} {M : Mem} {E : DEnds} (Mid : List DV → Mem → Prop) (h : XS g Z a Γ M { E with nx := Mid }) (k : ∀ Γ' M', Mid Γ' M' → XS g Z b Γ' M' E) : XS g Z (tSeq a b) Γ M E :=
  xs_seq fun ρ F H σ D s rs d => h ρ F H σ D s rs ⟨fun σ' Γ' ρ' F' H' M' s' st' rs' kk => d.nx σ' Γ' ρ' F' H' M' s' st' rs' (k Γ' M' kk), d.rt, d.bk, d.ct, d.ex⟩
/-- the three comprehensions: each item of a list of pairs is turned -/
theorem lc_pairs {Z : DX} {te tl : TE} {Γ : List DV} {M : Mem} {R : DV → Mem → Prop} {j : Nat} {ps : List (List Nat × List Nat)} {f : List Nat × List Nat → List Nat × List Nat} (hK : K = g.K) (hl : ps.length ≤ 100000)
    (h : XE g Z tl Γ M fun a M1 => a = .d (.lst (ps.map encP)) ∧ M1 = M)
    (he : ∀ p ∈ ps, ∀ (Q : DV → Mem → Prop), Q (.d (encP (f p))) M → XE g DX.no te ((wipeD Γ [j]).set j (.d (encP p))) M Q)
    (q : R (.d (.lst ((ps.map f).map encP))) M) : XE g Z (tLc (iList K tl) (gName j) tYes te [j]) Γ M R := by
  refine xe_lcF (gto_name (by simp)) (xi_list hK ?_)
  intro ρ F H σ Q s rs kx kk
  refine h ρ F H σ Q s rs kx fun v dv ρ' F' H' M' s' st' rv hd => ?_
  obtain ⟨rfl, rfl⟩ := hd
  refine kk v _ ρ' F' H' M' s' st' rv ⟨_, rfl, fun l acc M2 => M2 = M' ∧ ∃ a b, ps = a ++ b ∧ l = (b.map encP).map DV.d ∧ acc = ((a.map f).map encP).map DV.d, ⟨rfl, [], ps, rfl, rfl, rfl⟩, fun x r acc M2 hI => ?_, fun acc M2 hI => ?_⟩
  · obtain ⟨rfl, a, b, e, el, rfl⟩ := hI
    cases b with
    | nil => cases el
    | cons p b =>
      obtain ⟨rfl, rfl⟩ := List.cons.inj el
      have la : a.length < 100000 := by have := congrArg List.length e; simp at this; omega
      refine xg_name (xt_yes (iteT ?_))
      refine he p (by rw [e]; simp) _ ⟨by simpa using la, rfl, a ++ [p], b, by rw [e]; simp, rfl, by simp⟩
  · obtain ⟨rfl, a, b, e, el, rfl⟩ := hI
    cases b with
    | cons p b => cases el
    | nil =>
      rw [List.append_nil] at e
      subst e
      exact ⟨_, rfl, q⟩
theorem ok_law_allN {f : Addr} {fd : FuncData} (F : Fun K "_law_all" "_law_all" s_law_all f fd) (gK : K = g.K) (m_law_all : mg "_law_all" = some (.ref f)) (b_law_all : Binds K fd p_law_all []) :
    ∀ n, FnOk P w K mg base CX0 (n + 1) f fd p_law_all (SPd g (sp_law_allN n))
  | 0 => by
    refine okDG (k := 0) F sc_law_all (fun ds M R X h => by obtain ⟨x, y, rfl, _⟩ := h; rfl) (fun cdv A outer s H E hr => ⟨_, pss_never, ?_⟩)
    intro ds M R X hc h
    obtain ⟨x, y, _, ⟨h, _⟩, _⟩ := h
    omega
  | n + 1 => by
    have G_law_all := ok_law_allN F gK m_law_all b_law_all n
    have k_law_all := F.kp
    refine okDG (k := n + 1) F sc_law_all (fun ds M R X h => by obtain ⟨x, y, rfl, _⟩ := h; rfl) (fun cdv A outer s H E hr => ⟨_, (pss_cons (ps_if (PW.pt (pw_and (pt_cmpR (op_eqK (K := K) rfl hr.units) (pv 0) pe_str (nomark _)) (pw_and1 (pt_cmpR (op_eqK (K := K) rfl hr.units) (pv 1) pe_str (nomark _)))))
  (pss_one (ps_ret (pe_lst (pa_cons (pe_tup (pa_cons pe_str (pa_cons pe_str pa_nil))) pa_nil))))
  pss_nil)
  (pss_cons (ps_set (i := 2) sc_law_all.nd rfl (by first | exact Or.inl rfl | exact Or.inr rfl) (pe_lst pa_nil))
  (pss_cons (ps_if (PW.pt (pw_and (pt_cmpR (op_neK (K := K) rfl hr.units) (pv 0) pe_str (nomark _)) (pw_and1 (pt_cmpR (op_neK (K := K) rfl hr.units) (pv 1) pe_str (nomark _)))))
  (pss_one (ps_expr (pe_bm PySem.F.plainAttrs_list PySem.F.slot_list_extend PySem.F.type_list_extend mt_extend (pv 2) (pa_cons (pe_lc (own := [("rest", 3)]) (g := gName 3) (tt := tYes) rfl sc_law_all.nd (pi_listK (K := K) rfl (pe_call G_law_all hr (by rfl) m_law_all k_law_all b_law_all .nil pass0 (pa_cons (pe_slice sl_str (pv 0) (po_some pe_int) po_none) (pa_cons (pe_slice sl_str (pv 1) (po_some pe_int) po_none) pa_nil)))) (blkOk_by (own := [("rest", 3)]) (N := n_law_all) (sc := defScope s_law_all) (by decide +kernel)) (fun _ _ _ _ _ => (pg_name (i := 3) sc_law_all.nd rfl (Or.inl rfl))) (fun _ _ _ _ _ => pts_nil) (fun _ _ _ _ _ => (pe_tup (pa_cons (pe_op op_addU (pe_ix (ix_seqK (K := K) rfl) (pv 0) pe_int (fun _ _ => rfl)) (pe_ix (ix_seqK (K := K) rfl) (pv 3) pe_int (fun _ _ => rfl))) (pa_cons (pe_op op_addU (pe_ix (ix_seqK (K := K) rfl) (pv 1) pe_int (fun _ _ => rfl)) (pe_ix (ix_seqK (K := K) rfl) (pv 3) pe_int (fun _ _ => rfl))) pa_nil))))) pa_nil))))
  pss_nil)
  (pss_cons (ps_if (pt_cmpR (op_neK (K := K) rfl hr.units) (pv 0) pe_str (nomark _))
  (pss_one (ps_expr (pe_bm PySem.F.plainAttrs_list PySem.F.slot_list_extend PySem.F.type_list_extend mt_extend (pv 2) (pa_cons (pe_lc (own := [("rest", 3)]) (g := gName 3) (tt := tYes) rfl sc_law_all.nd (pi_listK (K := K) rfl (pe_call G_law_all hr (by rfl) m_law_all k_law_all b_law_all .nil pass0 (pa_cons (pe_slice sl_str (pv 0) (po_some pe_int) po_none) (pa_cons (pv 1) pa_nil)))) (blkOk_by (own := [("rest", 3)]) (N := n_law_all) (sc := defScope s_law_all) (by decide +kernel)) (fun _ _ _ _ _ => (pg_name (i := 3) sc_law_all.nd rfl (Or.inl rfl))) (fun _ _ _ _ _ => pts_nil) (fun _ _ _ _ _ => (pe_tup (pa_cons (pe_op op_addU (pe_ix (ix_seqK (K := K) rfl) (pv 0) pe_int (fun _ _ => rfl)) (pe_ix (ix_seqK (K := K) rfl) (pv 3) pe_int (fun _ _ => rfl))) (pa_cons (pe_op op_addU pe_str (pe_ix (ix_seqK (K := K) rfl) (pv 3) pe_int (fun _ _ => rfl))) pa_nil))))) pa_nil))))
  pss_nil)
  (pss_cons (ps_if (pt_cmpR (op_neK (K := K) rfl hr.units) (pv 1) pe_str (nomark _))
  (pss_one (ps_expr (pe_bm PySem.F.plainAttrs_list PySem.F.slot_list_extend PySem.F.type_list_extend mt_extend (pv 2) (pa_cons (pe_lc (own := [("rest", 3)]) (g := gName 3) (tt := tYes) rfl sc_law_all.nd (pi_listK (K := K) rfl (pe_call G_law_all hr (by rfl) m_law_all k_law_all b_law_all .nil pass0 (pa_cons (pv 0) (pa_cons (pe_slice sl_str (pv 1) (po_some pe_int) po_none) pa_nil)))) (blkOk_by (own := [("rest", 3)]) (N := n_law_all) (sc := defScope s_law_all) (by decide +kernel)) (fun _ _ _ _ _ => (pg_name (i := 3) sc_law_all.nd rfl (Or.inl rfl))) (fun _ _ _ _ _ => pts_nil) (fun _ _ _ _ _ => (pe_tup (pa_cons (pe_op op_addU pe_str (pe_ix (ix_seqK (K := K) rfl) (pv 3) pe_int (fun _ _ => rfl))) (pa_cons (pe_op op_addU (pe_ix (ix_seqK (K := K) rfl) (pv 1) pe_int (fun _ _ => rfl)) (pe_ix (ix_seqK (K := K) rfl) (pv 3) pe_int (fun _ _ => rfl))) pa_nil))))) pa_nil))))
  pss_nil)
  (pss_one (ps_ret (pv 2)))))))), ?_⟩)
    intro ds M R X hc h
    obtain ⟨x, y, rfl, ⟨hn, h9, ox, oy⟩, q⟩ := h
    let out : List (List Nat × List Nat) → Mem := fun l => M ++ [some (.lst ((l.map encP).map DV.d))]
    have big : ∀ u v : List Nat, u.length + v.length ≤ 9 → (allP u v).length ≤ 19683 := fun u v h => allP_len 9 u v h
    refine xs_mid (fun Γ' M' => Γ' = [vS x, vS y, .un, .un] ∧ M' = M ∧ ¬ (x = [] ∧ y = [])) ?_ fun Γ' M' hI => ?_
    · repeat walk_at "d"
      refine x2_eq 1 (okS_ok ox) rfl ⟨_, rfl, ?_⟩
      rw [strNil]
      cases x with
      | cons a x => exact iteF (xs_next ⟨rfl, rfl, fun z => nomatch z.1⟩)
      | nil =>
        refine iteT ?_
        repeat walk_at "d"
        refine x2_eq 1 (okS_ok oy) rfl ⟨_, rfl, ?_⟩
        rw [strNil]
        cases y with
        | cons b y => exact iteF (xs_next ⟨rfl, rfl, fun z => nomatch z.2⟩)
        | nil =>
          refine iteT ?_
          repeat walk_at "d"
          refine xe_lstF ?_
          repeat walk_at "d"
          refine ⟨[.str ("" : Str).cps.toList, .str ("" : Str).cps.toList], rfl, (by decide : 2 ≤ 100000), ?_⟩
          repeat walk_at "d"
          refine ⟨[.tup [.str ("" : Str).cps.toList, .str ("" : Str).cps.toList]], rfl, (by decide : 1 ≤ 100000), gb_0 hc ?_⟩
          rw [allP_nil] at q
          rw [nilS]
          exact q
    obtain ⟨rfl, rfl, hne⟩ := hI
    rw [allP_eq x y hne] at q
    walk_at "d"; walk_at "d"
    refine xe_lstM ?_
    repeat walk_at "d"
    refine ⟨Nat.zero_le _, ?_⟩
    refine xg_name ?_
    refine xs_mid (fun Γ' M2 => Γ' = [vS x, vS y, .m M'.length, .un] ∧ M2 = out (mP x y)) ?_ fun Γ' M2 hI => ?_
    · repeat walk_at "d"
      refine x2_ne 1 (okS_ok ox) rfl ⟨_, rfl, ?_⟩
      rw [strNil]
      cases x with
      | nil => exact iteF (xs_next ⟨rfl, rfl⟩)
      | cons a x =>
        refine iteT ?_
        repeat walk_at "d"
        refine x2_ne 1 (okS_ok oy) rfl ⟨_, rfl, ?_⟩
        rw [strNil]
        cases y with
        | nil => exact iteF (xs_next ⟨rfl, rfl⟩)
        | cons b y =>
          simp only [List.length_cons] at hn h9
          refine iteT ?_
          repeat walk_at "d"
          refine ⟨⟨rfl, _, get_snoc'⟩, ?_⟩
          repeat walk_at "d"
          refine lc_pairs (ps := allP x y) (f := fun p => (a :: p.1, b :: p.2)) gK (by have := big x y (by omega); omega) ?_ (fun p hp Q hq => ?_) ?_
          · repeat walk_at "d"
            refine ⟨1, rfl, ?_⟩
            repeat walk_at "d"
            refine sl_s (by simp; omega) ?_
            rw [drop1]
            repeat walk_at "d"
            refine ⟨1, rfl, ?_⟩
            repeat walk_at "d"
            refine sl_s (by simp; omega) ?_
            rw [drop1]
            repeat walk_at "d"
            exact ⟨x, y, rfl, ⟨by omega, by omega, fun c h => ox c (List.mem_cons_of_mem _ h), fun c h => oy c (List.mem_cons_of_mem _ h)⟩, rfl, rfl⟩
          · have hr := allP_row 9 x y (by omega) p hp
            repeat walk_at "d"
            refine x2_ixS (c := a) at_0 (by simp; omega) ?_
            repeat walk_at "d"
            refine x2_ixT gK (d := .str p.1) at_0 (x2_addS (by simp; omega) ?_)
            repeat walk_at "d"
            refine x2_ixS (c := b) at_0 (by simp; omega) ?_
            repeat walk_at "d"
            refine x2_ixT gK (d := .str p.2) at_1 (x2_addS (by simp; omega) ?_)
            repeat walk_at "d"
            exact ⟨[.str (a :: p.1), .str (b :: p.2)], rfl, (by decide : 2 ≤ 100000), hq⟩
          · repeat walk_at "d"
            refine xm_ext get_snoc' (by simp; have := big x y (by omega); omega) ?_
            rw [set_snoc]
            exact ⟨rfl, rfl⟩
    obtain ⟨rfl, rfl⟩ := hI
    have lm : (mP x y).length ≤ 19683 := by
      have h1 := big x y h9
      rw [allP_eq x y hne, List.length_append, List.length_append] at h1
      omega
    refine xs_mid (fun Γ' M2 => Γ' = [vS x, vS y, .m M'.length, .un] ∧ M2 = out (mP x y ++ dP x y)) ?_ fun Γ' M2 hI => ?_
    · repeat walk_at "d"
      refine x2_ne 1 (okS_ok ox) rfl ⟨_, rfl, ?_⟩
      rw [strNil]
      cases x with
      | nil => exact iteF (xs_next ⟨rfl, by simp [dP]⟩)
      | cons a x =>
        simp only [List.length_cons] at hn h9
        refine iteT ?_
        repeat walk_at "d"
        refine ⟨⟨rfl, _, get_snoc'⟩, ?_⟩
        repeat walk_at "d"
        refine lc_pairs (ps := allP x y) (f := fun p => (a :: p.1, 45 :: p.2)) gK (by have := big x y (by omega); omega) ?_ (fun p hp Q hq => ?_) ?_
        · repeat walk_at "d"
          refine ⟨1, rfl, ?_⟩
          repeat walk_at "d"
          refine sl_s (by simp; omega) ?_
          rw [drop1]
          repeat walk_at "d"
          exact ⟨x, y, rfl, ⟨by omega, by omega, fun c h => ox c (List.mem_cons_of_mem _ h), oy⟩, rfl, rfl⟩
        · have hr := allP_row 9 x y (by omega) p hp
          repeat walk_at "d"
          refine x2_ixS (c := a) at_0 (by simp; omega) ?_
          repeat walk_at "d"
          refine x2_ixT gK (d := .str p.1) at_0 (x2_addS (by simp; omega) ?_)
          repeat walk_at "d"
          rw [dashS]
          refine x2_ixT gK (d := .str p.2) at_1 (x2_addS (by simp; omega) ?_)
          repeat walk_at "d"
          exact ⟨[.str (a :: p.1), .str (45 :: p.2)], rfl, (by decide : 2 ≤ 100000), hq⟩
        · repeat walk_at "d"
          refine xm_ext get_snoc' (by simp; have := big x y (by omega); omega) ?_
          rw [set_snoc]
          exact ⟨rfl, by simp [out, dP]⟩
    obtain ⟨rfl, rfl⟩ := hI
    have ld : (mP x y ++ dP x y).length ≤ 19683 := by
      have h1 := big x y h9
      rw [allP_eq x y hne, List.length_append] at h1
      omega
    refine xs_mid (fun Γ' M2 => Γ' = [vS x, vS y, .m M'.length, .un] ∧ M2 = out (mP x y ++ dP x y ++ iP x y)) ?_ fun Γ' M2 hI => ?_
    · repeat walk_at "d"
      refine x2_ne 1 (okS_ok oy) rfl ⟨_, rfl, ?_⟩
      rw [strNil]
      cases y with
      | nil => exact iteF (xs_next ⟨rfl, by simp [iP]⟩)
      | cons b y =>
        simp only [List.length_cons] at hn h9
        refine iteT ?_
        repeat walk_at "d"
        refine ⟨⟨rfl, _, get_snoc'⟩, ?_⟩
        repeat walk_at "d"
        refine lc_pairs (ps := allP x y) (f := fun p => (45 :: p.1, b :: p.2)) gK (by have := big x y (by omega); omega) ?_ (fun p hp Q hq => ?_) ?_
        · repeat walk_at "d"
          refine ⟨1, rfl, ?_⟩
          repeat walk_at "d"
          refine sl_s (by simp; omega) ?_
          rw [drop1]
          repeat walk_at "d"
          exact ⟨x, y, rfl, ⟨by omega, by omega, ox, fun c h => oy c (List.mem_cons_of_mem _ h)⟩, rfl, rfl⟩
        · have hr := allP_row 9 x y (by omega) p hp
          repeat walk_at "d"
          rw [dashS]
          refine x2_ixT gK (d := .str p.1) at_0 (x2_addS (by simp; omega) ?_)
          repeat walk_at "d"
          refine x2_ixS (c := b) at_0 (by simp; omega) ?_
          repeat walk_at "d"
          refine x2_ixT gK (d := .str p.2) at_1 (x2_addS (by simp; omega) ?_)
          repeat walk_at "d"
          exact ⟨[.str (45 :: p.1), .str (b :: p.2)], rfl, (by decide : 2 ≤ 100000), hq⟩
        · repeat walk_at "d"
          refine xm_ext get_snoc' (by have := big x y (by omega); simp only [List.length_map] at ld ⊢; omega) ?_
          rw [set_snoc]
          exact ⟨rfl, by simp [out, iP]⟩
    obtain ⟨rfl, rfl⟩ := hI
    refine xs_ret (xe_ice rfl get_snoc' ?_)
    rw [set_snoc]
    exact gb_d hc q
end
end K02
set_option maxRecDepth 100000
set_option maxHeartbeats 4000000
namespace K02
open PySem PySem.Spec PyProof.Rows L2 DL
/-! the law's own list of alignments: their rows, their number, their order -/
def NoD (x : List Nat) : Prop := ∀ c ∈ x, c ≠ 45
theorem NoD.tl {a : Nat} {x : List Nat} (h : NoD (a :: x)) : NoD x := fun c hc => h c (List.mem_cons_of_mem _ hc)
theorem NoD.hd {a : Nat} {x : List Nat} (h : NoD (a :: x)) : a ≠ 45 := h a (List.mem_cons_self ..)
theorem nod_c {a : Nat} {x : List Nat} (h : a ≠ 45) : nod (a :: x) = a :: nod x := by simp [nod, h]
theorem nod_d {x : List Nat} : nod (45 :: x) = nod x := by simp [nod]
theorem wordy_no {x : List Nat} (h : wordy x) : NoD x := fun c hc e => by have := h c hc; omega
theorem wordy_ok {x : List Nat} (h : wordy x) : okS x := fun c hc => by have := h c hc; omega
theorem allP_nod : ∀ (n : Nat) (x y : List Nat), x.length + y.length ≤ n → NoD x → NoD y → ∀ p ∈ allP x y, nod p.1 = x ∧ nod p.2 = y
  | n, [], [], _, _, _, p, hp => by
    rw [allP] at hp
    have : p = ([], []) := by simpa using hp
    rw [this]; exact ⟨rfl, rfl⟩
  | n + 1, a :: x, [], h, hx, hy, p, hp => by
    rw [allP] at hp
    obtain ⟨q, hq, rfl⟩ := List.mem_map.mp hp
    obtain ⟨e1, e2⟩ := allP_nod n x [] (by simp at h ⊢; omega) hx.tl hy q hq
    exact ⟨by rw [nod_c hx.hd, e1], by rw [nod_d, e2]⟩
  | n + 1, [], b :: y, h, hx, hy, p, hp => by
    rw [allP] at hp
    obtain ⟨q, hq, rfl⟩ := List.mem_map.mp hp
    obtain ⟨e1, e2⟩ := allP_nod n [] y (by simp at h ⊢; omega) hx hy.tl q hq
    exact ⟨by rw [nod_d, e1], by rw [nod_c hy.hd, e2]⟩
  | n + 1, a :: x, b :: y, h, hx, hy, p, hp => by
    rw [allP] at hp
    rcases List.mem_append.mp hp with hp | hp
    · rcases List.mem_append.mp hp with hp | hp
      · obtain ⟨q, hq, rfl⟩ := List.mem_map.mp hp
        obtain ⟨e1, e2⟩ := allP_nod n x y (by simp at h ⊢; omega) hx.tl hy.tl q hq
        exact ⟨by rw [nod_c hx.hd, e1], by rw [nod_c hy.hd, e2]⟩
      · obtain ⟨q, hq, rfl⟩ := List.mem_map.mp hp
        obtain ⟨e1, e2⟩ := allP_nod n x (b :: y) (by simp at h ⊢; omega) hx.tl hy q hq
        exact ⟨by rw [nod_c hx.hd, e1], by rw [nod_d, e2]⟩
    · obtain ⟨q, hq, rfl⟩ := List.mem_map.mp hp
      obtain ⟨e1, e2⟩ := allP_nod n (a :: x) y (by simp at h ⊢; omega) hx hy.tl q hq
      exact ⟨by rw [nod_d, e1], by rw [nod_c hy.hd, e2]⟩
  | 0, a :: x, _, h, _, _, _, _ => by simp at h
  | 0, [], b :: y, h, _, _, _, _ => by simp at h
theorem allP_del : ∀ (n : Nat) (x y : List Nat), x.length + y.length ≤ n → ((allP x y).length : Int) = del x.length y.length
  | n, [], [], _ => by rw [allP]; simp [del]
  | n + 1, a :: x, [], h => by
    rw [allP, List.length_map, allP_del n x [] (by simp at h ⊢; omega)]
    cases x <;> simp [del]
  | n + 1, [], b :: y, h => by
    rw [allP, List.length_map, allP_del n [] y (by simp at h ⊢; omega)]
    simp [del]
  | n + 1, a :: x, b :: y, h => by
    have i1 := allP_del n x y (by simp at h ⊢; omega)
    have i2 := allP_del n x (b :: y) (by simp at h ⊢; omega)
    have i3 := allP_del n (a :: x) y (by simp at h ⊢; omega)
    rw [allP, List.length_append, List.length_append, List.length_map, List.length_map, List.length_map]
    simp only [List.length_cons] at i2 i3 ⊢
    rw [del]
    omega
  | 0, a :: x, _, h => by simp at h
  | 0, [], b :: y, h => by simp at h
/-- one kind list before another -/
def KL (p q : List Nat × List Nat) : Prop := HT.lexLt (kindsN p) (kindsN q) = true
theorem kl_cons (a b : Nat) (p : List Nat × List Nat) : kindsN (a :: p.1, b :: p.2) = kindN a b :: kindsN p := rfl
theorem kl_same {a b a' b' : Nat} {p q : List Nat × List Nat} (e : kindN a b = kindN a' b') (h : KL p q) : KL (a :: p.1, b :: p.2) (a' :: q.1, b' :: q.2) := by
  unfold KL
  rw [kl_cons, kl_cons, HT.lexLt_cons, if_pos e]
  exact h
theorem kl_less {a b a' b' : Nat} {p q : List Nat × List Nat} (e : kindN a b < kindN a' b') : KL (a :: p.1, b :: p.2) (a' :: q.1, b' :: q.2) := by
  unfold KL
  rw [kl_cons, kl_cons, HT.lexLt_cons, if_neg (by omega)]
  exact decide_eq_true e
theorem kindM {a b : Nat} (ha : a ≠ 45) (hb : b ≠ 45) : kindN a b = 0 := by rw [kindN, if_neg hb, if_neg ha]
theorem kindD {a : Nat} : kindN a 45 = 1 := by rw [kindN, if_pos rfl]
theorem kindI {b : Nat} (hb : b ≠ 45) : kindN 45 b = 2 := by rw [kindN, if_neg hb, if_pos rfl]
theorem allP_sorted : ∀ (n : Nat) (x y : List Nat), x.length + y.length ≤ n → NoD x → NoD y → (allP x y).Pairwise KL
  | n, [], [], _, _, _ => by rw [allP]; exact List.pairwise_singleton ..
  | n + 1, a :: x, [], h, hx, hy => by
    rw [allP, List.pairwise_map]
    exact (allP_sorted n x [] (by simp at h ⊢; omega) hx.tl hy).imp fun q => kl_same rfl q
  | n + 1, [], b :: y, h, hx, hy => by
    rw [allP, List.pairwise_map]
    exact (allP_sorted n [] y (by simp at h ⊢; omega) hx hy.tl).imp fun q => kl_same rfl q
  | n + 1, a :: x, b :: y, h, hx, hy => by
    have i1 := allP_sorted n x y (by simp at h ⊢; omega) hx.tl hy.tl
    have i2 := allP_sorted n x (b :: y) (by simp at h ⊢; omega) hx.tl hy
    have i3 := allP_sorted n (a :: x) y (by simp at h ⊢; omega) hx hy.tl
    rw [allP, List.pairwise_append]
    refine ⟨?_, ?_, ?_⟩
    · rw [List.pairwise_append]
      refine ⟨?_, ?_, ?_⟩
      · rw [List.pairwise_map]; exact i1.imp fun q => kl_same rfl q
      · rw [List.pairwise_map]; exact i2.imp fun q => kl_same rfl q
      · intro p hp q hq
        obtain ⟨p, _, rfl⟩ := List.mem_map.mp hp
        obtain ⟨q, _, rfl⟩ := List.mem_map.mp hq
        exact kl_less (by rw [kindM hx.hd hy.hd, kindD]; decide)
    · rw [List.pairwise_map]; exact i3.imp fun q => kl_same rfl q
    · intro p hp q hq
      obtain ⟨q, _, rfl⟩ := List.mem_map.mp hq
      rcases List.mem_append.mp hp with hp | hp
      · obtain ⟨p, _, rfl⟩ := List.mem_map.mp hp
        exact kl_less (by rw [kindM hx.hd hy.hd, kindI hy.hd]; decide)
      · obtain ⟨p, _, rfl⟩ := List.mem_map.mp hp
        exact kl_less (by rw [kindD, kindI hy.hd]; decide)
  | 0, a :: x, _, h, _, _ => by simp at h
  | 0, [], b :: y, h, _, _ => by simp at h
theorem lex_self0 : ∀ xs : List Int, HT.lexLt xs xs = false
  | [] => rfl
  | x :: xs => by rw [HT.lexLt_cons, if_pos rfl, lex_self0 xs]
theorem lex_back : ∀ xs ys : List Int, HT.lexLt xs ys = true → HT.lexLt ys xs = false
  | [], [], h => by cases h
  | [], _ :: _, _ => rfl
  | _ :: _, [], h => by cases h
  | x :: xs, y :: ys, h => by
    rw [HT.lexLt_cons] at h ⊢
    by_cases e : x = y
    · rw [if_pos e] at h; rw [if_pos e.symm]; exact lex_back xs ys h
    · rw [if_neg e] at h; rw [if_neg (fun z => e z.symm)]
      have := of_decide_eq_true h
      exact decide_eq_false (by omega)
theorem lex_pos {l : List (List Nat × List Nat)} (h : l.Pairwise KL) {i j : Nat} (hi : i < l.length) (hj : j < l.length) : HT.lexLt (kindsN l[i]) (kindsN l[j]) = decide (i < j) := by
  have q := List.pairwise_iff_getElem.mp h
  by_cases e : i < j
  · rw [decide_eq_true e]; exact q i j hi hj e
  · rw [decide_eq_false e]
    by_cases e2 : i = j
    · subst e2; exact lex_self0 _
    · exact lex_back _ _ (q j i hj hi (by omega))
theorem allP_pos (x y : List Nat) : 0 < (allP x y).length := by
  have h := allP_del _ x y (Nat.le_refl _)
  have hd : ∀ i j, 0 < del i j := by
    intro i
    induction i with
    | zero => intro j; simp [del]
    | succ i ih =>
      intro j
      induction j with
      | zero => simp [del]
      | succ j ihj => have a := ih j; have b := ih (j + 1); rw [del]; omega
  have := hd x.length y.length
  omega
theorem allP_okS : ∀ (n : Nat) (x y : List Nat), x.length + y.length ≤ n → okS x → okS y → ∀ p ∈ allP x y, okS p.1 ∧ okS p.2
  | n, [], [], _, _, _, p, hp => by
    rw [allP] at hp
    have : p = ([], []) := by simpa using hp
    rw [this]; exact ⟨fun c h => (List.not_mem_nil h).elim, fun c h => (List.not_mem_nil h).elim⟩
  | n + 1, a :: x, [], h, hx, hy, p, hp => by
    rw [allP] at hp
    obtain ⟨q, hq, rfl⟩ := List.mem_map.mp hp
    obtain ⟨e1, e2⟩ := allP_okS n x [] (by simp at h ⊢; omega) (ok_tl hx) hy q hq
    exact ⟨ok_cons (ok_hd hx) e1, ok_cons (by decide) e2⟩
  | n + 1, [], b :: y, h, hx, hy, p, hp => by
    rw [allP] at hp
    obtain ⟨q, hq, rfl⟩ := List.mem_map.mp hp
    obtain ⟨e1, e2⟩ := allP_okS n [] y (by simp at h ⊢; omega) hx (ok_tl hy) q hq
    exact ⟨ok_cons (by decide) e1, ok_cons (ok_hd hy) e2⟩
  | n + 1, a :: x, b :: y, h, hx, hy, p, hp => by
    rw [allP] at hp
    rcases List.mem_append.mp hp with hp | hp
    · rcases List.mem_append.mp hp with hp | hp
      · obtain ⟨q, hq, rfl⟩ := List.mem_map.mp hp
        obtain ⟨e1, e2⟩ := allP_okS n x y (by simp at h ⊢; omega) (ok_tl hx) (ok_tl hy) q hq
        exact ⟨ok_cons (ok_hd hx) e1, ok_cons (ok_hd hy) e2⟩
      · obtain ⟨q, hq, rfl⟩ := List.mem_map.mp hp
        obtain ⟨e1, e2⟩ := allP_okS n x (b :: y) (by simp at h ⊢; omega) (ok_tl hx) hy q hq
        exact ⟨ok_cons (ok_hd hx) e1, ok_cons (by decide) e2⟩
    · obtain ⟨q, hq, rfl⟩ := List.mem_map.mp hp
      obtain ⟨e1, e2⟩ := allP_okS n (a :: x) y (by simp at h ⊢; omega) hx (ok_tl hy) q hq
      exact ⟨ok_cons (by decide) e1, ok_cons (ok_hd hy) e2⟩
  | 0, a :: x, _, h, _, _, _, _ => by simp at h
  | 0, [], b :: y, h, _, _, _, _ => by simp at h
where
  ok_tl {a : Nat} {x : List Nat} (h : okS (a :: x)) : okS x := fun c hc => h c (List.mem_cons_of_mem _ hc)
  ok_hd {a : Nat} {x : List Nat} (h : okS (a :: x)) : a < 1114112 := h a (List.mem_cons_self ..)
  ok_cons {a : Nat} {x : List Nat} (ha : a < 1114112) (h : okS x) : okS (a :: x) := fun c hc => by
    rcases List.mem_cons.mp hc with rfl | q
    · exact ha
    · exact h c q
theorem del66 : del 6 6 = 8989 := by simp [del]
theorem del05 : del 0 5 = 1 := by simp [del]
end K02
set_option maxRecDepth 100000
set_option maxHeartbeats 4000000
namespace K02
open PySem PySem.Spec PyProof.Rows L2 DL
local macro_rules | `(tactic| walk_at "d") => `(tactic| with_reducible first
  | refine xs_seq ?_ | refine xs_asg ?_ | refine xs_ret ?_ | refine xs_if ?_ | refine xs_drop ?_ | refine xs_next ?_ | refine xs_retN ?_
  | (refine' xe_varD ?va ?vk; (case va => with_unfolding_all rfl)) | (refine' xe_varM ?va ?vk; (case va => with_unfolding_all rfl)) | (refine' xe_varR ?va ?vk; (case va => with_unfolding_all rfl)) | refine xe_ci ?_ | refine xe_cs ?_ | refine xe_cb ?_ | refine xe_cn ?_
  | refine xe_op ?_ | refine xe_isi ?_ | refine xe_cB ?_ | refine xe_call ?_ | refine xe_callS ?_ | refine xa_cons ?_ | refine xa_nil ?_
  | refine xg_name ?_ | refine xe_andV ?_ | refine xe_orV ?_ | refine xe_notV ?_ | refine xe_chain ?_ | refine xe_if ?_
  | refine xt_test ?_ | refine xt_and ?_ | refine xt_or ?_ | refine xt_not ?_ | refine xt_yes ?_ | refine xt_truB (by assumption) ?_
  | refine xe_m1 ?_ | refine xe_bm ?_ | refine xe_sl ?_ | refine xo_no ?_ | refine xo_some ?_ | refine xe_tup ?_)

def markN (c d : Nat) : Nat := if kindN c d = 0 then (if c = d then 124 else 46) else 32
def marksN (p : List Nat × List Nat) : List Nat := (p.1.zip p.2).map fun q => markN q.1 q.2
def textN (p : List Nat × List Nat) : List Nat := p.1 ++ 10 :: (marksN p ++ 10 :: p.2)
theorem nlS : ("\n" : Str).cps.toList = [10] := by decide +kernel
theorem spS : (" " : Str).cps.toList = [32] := by decide +kernel
theorem barS : ("|" : Str).cps.toList = [124] := by decide +kernel
theorem dotS : ("." : Str).cps.toList = [46] := by decide +kernel
section
variable {P : Program} {w : World} {K : PySem.W.Frag} {mg : Str → Option Value} {base : Heap} {g : G}
def sp_mark_of : DSpec := fun ds M R _ => ∃ c d, ds = [vS [c], vS [d]] ∧ (c < 1114112 ∧ d < 1114112) ∧ R (vS [markN c d]) M
abbrev s_mark_of : Stmt := topS 13
abbrev n_mark_of : List Str := ["top", "bottom"]
abbrev p_mark_of : List Str := ["top", "bottom"]
theorem sc_mark_of : FnScope n_mark_of p_mark_of (defScope s_mark_of) := ⟨rfl, rfl, rfl, by decide +kernel, rfl, by decide +kernel, by decide +kernel⟩
theorem ok_mark_of {f : Addr} {fd : FuncData} {a_kind_of : Addr} {fd_kind_of : FuncData} (G_kind_of : FnOk P w K mg base CX0 1 a_kind_of fd_kind_of p_kind_of (SPd g sp_kind_of)) (m_kind_of : mg "kind_of" = some (.ref a_kind_of)) (k_kind_of : PySem.W.keepIn K (.ref a_kind_of) = true) (b_kind_of : Binds K fd_kind_of p_kind_of []) {t_MATCH : Tok} (m_MATCH : mg "MATCH" = some (.int 0 t_MATCH)) (F : Fun K "mark_of" "mark_of" s_mark_of f fd) (gK : K = g.K) : FnOk P w K mg base CX0 2 f fd p_mark_of (SPd g sp_mark_of) := by
  refine okD (k := 1) F sc_mark_of (fun ds M R X h => by first | (obtain ⟨rfl, _⟩ := h; rfl) | (obtain ⟨_, rfl, _⟩ := h; rfl) | (obtain ⟨_, _, rfl, _⟩ := h; rfl) | (obtain ⟨_, _, _, rfl, _⟩ := h; rfl) | (obtain ⟨_, _, _, _, rfl, _⟩ := h; rfl) | (obtain ⟨_, _, _, _, _, rfl, _⟩ := h; rfl)) (fun cdv A outer s H E hr hcd _ => ⟨_, (pss_cons (ps_if (pt_cmpR (op_neK (K := K) rfl hr.units) (pe_call G_kind_of (hr.mono (by decide)) (by rfl) m_kind_of k_kind_of b_kind_of .nil pass0 (pa_cons (pv 0) (pa_cons (pv 1) pa_nil))) (pe_glob (v := .int 0) (by rfl) m_MATCH ⟨_, rfl⟩) (nomark _))
  (pss_one (ps_ret pe_str))
  pss_nil)
  (pss_cons (ps_if (pt_cmpR (op_eqK (K := K) rfl hr.units) (pv 0) (pv 1) (nomark _))
  (pss_one (ps_ret pe_str))
  pss_nil)
  (pss_one (ps_ret pe_str)))), ?_⟩)
  intro ds M R X h
  obtain ⟨c, d, rfl, ⟨hc, hd⟩, q⟩ := h
  unfold markN at q
  repeat walk_at "d"
  refine ⟨c, d, rfl, ⟨hc, hd⟩, ?_⟩
  repeat walk_at "d"
  refine x2_ne 1 rfl rfl ⟨_, rfl, ?_⟩
  rw [beq_int]
  by_cases hk : kindN c d = 0
  · rw [if_pos hk] at q
    rw [hk]
    refine iteF ?_
    repeat walk_at "d"
    refine x2_eq 1 (ok1 hc) (ok1 hd) ⟨_, rfl, ?_⟩
    rw [beq_str]
    by_cases hcd : c = d
    · rw [if_pos hcd] at q
      subst hcd
      rw [beq_self_eq_true]
      refine iteT (xs_ret (xe_cs ?_))
      rw [barS]; exact q
    · rw [if_neg hcd] at q
      rw [beq_eq_false_iff_ne.mpr (fun e => hcd (List.cons.inj e).1)]
      refine iteF ?_
      repeat walk_at "d"
      rw [dotS]; exact q
  · rw [if_neg hk] at q
    rw [beq_eq_false_iff_ne.mpr hk]
    refine iteT (xs_ret (xe_cs ?_))
    rw [spS]; exact q
def sp_text_of : DSpec := fun ds M R _ => ∃ p, ds = [vP p] ∧ okP p ∧ R (vS (textN p)) M
abbrev s_text_of : Stmt := topS 14
abbrev n_text_of : List Str := ["alignment", "first_row", "second_row", "marks", "top", "bottom"]
abbrev p_text_of : List Str := ["alignment"]
theorem sc_text_of : FnScope n_text_of p_text_of (defScope s_text_of) := ⟨rfl, rfl, rfl, by decide +kernel, rfl, by decide +kernel, by decide +kernel⟩
theorem ok_text_of {f : Addr} {fd : FuncData} {a_mark_of : Addr} {fd_mark_of : FuncData} (G_mark_of : FnOk P w K mg base CX0 2 a_mark_of fd_mark_of p_mark_of (SPd g sp_mark_of)) (m_mark_of : mg "mark_of" = some (.ref a_mark_of)) (k_mark_of : PySem.W.keepIn K (.ref a_mark_of) = true) (b_mark_of : Binds K fd_mark_of p_mark_of []) (z_zip : mg "zip" = none) (F : Fun K "text_of" "text_of" s_text_of f fd) (gK : K = g.K) : FnOk P w K mg base CX0 3 f fd p_text_of (SPd g sp_text_of) := by
  refine okD (k := 2) F sc_text_of (fun ds M R X h => by first | (obtain ⟨rfl, _⟩ := h; rfl) | (obtain ⟨_, rfl, _⟩ := h; rfl) | (obtain ⟨_, _, rfl, _⟩ := h; rfl) | (obtain ⟨_, _, _, rfl, _⟩ := h; rfl) | (obtain ⟨_, _, _, _, rfl, _⟩ := h; rfl) | (obtain ⟨_, _, _, _, _, rfl, _⟩ := h; rfl)) (fun cdv A outer s H E hr hcd _ => ⟨_, (pss_cons (ps_asg (pv 0) (pg_tup (n := 2) rfl (pgs_cons (pg_name (i := 1) sc_text_of.nd rfl (by first | exact Or.inl rfl | exact Or.inr rfl)) (pgs_cons (pg_name (i := 2) sc_text_of.nd rfl (by first | exact Or.inl rfl | exact Or.inr rfl)) pgs_nil))))
  (pss_cons (ps_set (i := 3) sc_text_of.nd rfl (by first | exact Or.inl rfl | exact Or.inr rfl) (pe_joinK (K := K) rfl pe_str (pe_lc (own := [("top", 4), ("bottom", 5)]) (g := gTup K 2 (gCons (gName 4) (gCons (gName 5) gNil))) (tt := tYes) rfl sc_text_of.nd (pi_zipS (by rfl) z_zip (pa_cons (pv 1) (pa_cons (pv 2) pa_nil))) (blkOk_by (own := [("top", 4), ("bottom", 5)]) (N := n_text_of) (sc := defScope s_text_of) (by decide +kernel)) (fun _ _ _ _ _ => (pg_tup (n := 2) rfl (pgs_cons (pg_name (i := 4) sc_text_of.nd rfl (Or.inl rfl)) (pgs_cons (pg_name (i := 5) sc_text_of.nd rfl (Or.inl rfl)) pgs_nil)))) (fun _ _ _ _ _ => pts_nil) (fun _ _ _ _ _ => (pe_call G_mark_of (hr.mono (by decide)) (by rfl) m_mark_of k_mark_of b_mark_of .nil pass0 (pa_cons (pv 4) (pa_cons (pv 5) pa_nil)))))))
  (pss_one (ps_ret (pe_joinK (K := K) rfl pe_str (pe_lst (pa_cons (pv 1) (pa_cons (pv 3) (pa_cons (pv 2) pa_nil))))))))), ?_⟩)
  intro ds M R X h
  obtain ⟨p, rfl, ⟨⟨h1, h2⟩, o1, o2⟩, q⟩ := h
  have lz : (marksN p).length ≤ 1000 := by unfold marksN; rw [List.length_map, List.length_zip]; omega
  repeat walk_at "d"
  refine xg_two gK ?_
  repeat walk_at "d"
  refine ⟨_, rfl, ?_⟩
  refine xe_lcF (gto_two (by decide) (by decide)) ?_
  refine xi_zipS ?_
  repeat walk_at "d"
  refine ⟨p.1, p.2, rfl, fun l acc M' => M' = M ∧ ∃ a b, p.1.zip p.2 = a ++ b ∧ l = b.map (fun z => .d (.tup [.str [z.1], .str [z.2]])) ∧ acc = ((a.map fun z => markN z.1 z.2).map fun c => DV.d (.str [c])), ⟨rfl, [], p.1.zip p.2, rfl, rfl, rfl⟩, fun x r acc M' hI => ?_, fun acc M' hI => ?_⟩
  · obtain ⟨rfl, a, b, e, el, rfl⟩ := hI
    cases b with
    | nil => simp at el
    | cons z b =>
      simp only [List.map_cons, List.cons.injEq] at el
      obtain ⟨rfl, rfl⟩ := el
      have hm : z ∈ p.1.zip p.2 := by rw [e]; simp
      have m1 := okS_mem o1 (List.of_mem_zip hm).1
      have m2 := okS_mem o2 (List.of_mem_zip hm).2
      have hl : a.length < 100000 := by
        have := congrArg List.length e
        simp [List.length_zip] at this
        omega
      refine xg_two gK ?_
      repeat walk_at "d"
      refine iteT ?_
      repeat walk_at "d"
      refine ⟨z.1, z.2, rfl, ⟨m1, m2⟩, by simpa using hl, rfl, a ++ [z], b, by rw [e]; simp, rfl, by simp⟩
  · obtain ⟨rfl, a, b, e, el, rfl⟩ := hI
    cases b with
    | cons z b => simp at el
    | nil =>
      rw [List.append_nil] at e
      have e2 : (a.map fun z => markN z.1 z.2) = marksN p := by unfold marksN; rw [e]
      rw [e2]
      refine ⟨_, ones_D _, ?_⟩
      refine xm_join (by rw [sum_one, nilS]; simp; omega) ?_
      rw [nilS, joinL_one]
      refine xg_name ?_
      repeat walk_at "d"
      refine ⟨_, rfl, ?_⟩
      refine xe_lstF ?_
      repeat walk_at "d"
      refine ⟨[.str p.1, .str (marksN p), .str p.2], rfl, (by decide : 3 ≤ 100000), ?_⟩
      refine xm_join (zs := [p.1, marksN p, p.2]) (by rw [nlS]; simp; omega) ?_
      rw [nlS]
      exact q
theorem lns_mem : ∀ (x l : List Nat), l ∈ lns x → l.length ≤ x.length ∧ ∀ c ∈ l, c ∈ x ∧ c ≠ 10
  | [], l, h => by
    have : l = [] := by simpa [lns] using h
    subst this
    exact ⟨Nat.le_refl _, fun c hc => (List.not_mem_nil hc).elim⟩
  | a :: x, l, h => by
    have ih := lns_mem x
    unfold lns at h
    by_cases e : a = 10
    · rw [if_pos e] at h
      rcases List.mem_cons.mp h with rfl | h
      · exact ⟨Nat.zero_le _, fun c hc => (List.not_mem_nil hc).elim⟩
      · obtain ⟨h1, h2⟩ := ih l h
        exact ⟨by simp; omega, fun c hc => ⟨List.mem_cons_of_mem _ (h2 c hc).1, (h2 c hc).2⟩⟩
    · rw [if_neg e] at h
      cases hl : lns x with
      | nil => exact absurd hl (lns_ne x)
      | cons b t =>
        rw [hl] at h
        rcases List.mem_cons.mp h with rfl | h
        · obtain ⟨h1, h2⟩ := ih b (by rw [hl]; exact List.mem_cons_self ..)
          refine ⟨by simp; omega, fun c hc => ?_⟩
          rcases List.mem_cons.mp hc with rfl | hc
          · exact ⟨List.mem_cons_self .., e⟩
          · exact ⟨List.mem_cons_of_mem _ (h2 c hc).1, (h2 c hc).2⟩
        · obtain ⟨h1, h2⟩ := ih l (by rw [hl]; exact List.mem_cons_of_mem _ h)
          exact ⟨by simp; omega, fun c hc => ⟨List.mem_cons_of_mem _ (h2 c hc).1, (h2 c hc).2⟩⟩
def pairT (t : List Nat) : List Nat × List Nat := ((lns t).headD [], (lns t).getLastD [])
def goodT (t : List Nat) : Bool := isAl (encP (pairT t)) && decide (textN (pairT t) = t)
theorem lns_hd (t : List Nat) : ∃ r, lns t = (pairT t).1 :: r := by
  cases h : lns t with
  | nil => exact absurd h (lns_ne t)
  | cons a r => exact ⟨r, by unfold pairT; rw [h]; rfl⟩
theorem lns_lst (t : List Nat) : ∃ r, lns t = r ++ [(pairT t).2] := by
  have h := lns_ne t
  refine ⟨(lns t).dropLast, ?_⟩
  have e : (pairT t).2 = (lns t).getLast h := by
    unfold pairT
    simp only
    rw [List.getLastD_eq_getLast?, List.getLast?_eq_getLast h]; rfl
  rw [e, List.dropLast_concat_getLast]
theorem pair_ok {t : List Nat} (hl : t.length ≤ 600) (ho : okS t) : okP (pairT t) := by
  obtain ⟨r1, e1⟩ := lns_hd t
  obtain ⟨r2, e2⟩ := lns_lst t
  have m1 := lns_mem t (pairT t).1 (by rw [e1]; exact List.mem_cons_self ..)
  have m2 := lns_mem t (pairT t).2 (by rw [e2]; simp)
  exact ⟨⟨by omega, by omega⟩, fun c hc => ho c (m1.2 c hc).1, fun c hc => ho c (m2.2 c hc).1⟩
theorem okS_app {x y : List Nat} (h1 : okS x) (h2 : okS y) : okS (x ++ y) := fun c hc => by
  rcases List.mem_append.mp hc with h | h
  · exact h1 c h
  · exact h2 c h
theorem okS_con {c : Nat} {x : List Nat} (h1 : c < 1114112) (h2 : okS x) : okS (c :: x) := fun d hd => by
  rcases List.mem_cons.mp hd with rfl | h
  · exact h1
  · exact h2 d h
theorem mark_lt (c d : Nat) : markN c d < 1114112 := by
  unfold markN
  split
  · split <;> decide
  · decide
theorem text_okS {p : List Nat × List Nat} (h1 : okS p.1) (h2 : okS p.2) : okS (textN p) := by
  refine okS_app h1 (okS_con (by decide) (okS_app (fun c hc => ?_) (okS_con (by decide) h2)))
  obtain ⟨z, _, rfl⟩ := List.mem_map.mp hc
  exact mark_lt _ _
def noAl : List Nat := ("no alignment" : Str).cps.toList
def sp_read_alignment : DSpec := fun ds M R Xq => ∃ t, ds = [vS t] ∧ (t.length ≤ 600 ∧ okS t) ∧ (goodT t = true → R (vP (pairT t)) M) ∧ (goodT t = false → Xq (.str noAl) M)
abbrev s_read_alignment : Stmt := topS 15
abbrev n_read_alignment : List Str := ["text", "lines", "alignment"]
abbrev p_read_alignment : List Str := ["text"]
theorem sc_read_alignment : FnScope n_read_alignment p_read_alignment (defScope s_read_alignment) := ⟨rfl, rfl, rfl, by decide +kernel, rfl, by decide +kernel, by decide +kernel⟩
theorem ok_read_alignment {f : Addr} {fd : FuncData} {a_is_alignment : Addr} {fd_is_alignment : FuncData} (G_is_alignment : FnOk P w K mg base CX0 4 a_is_alignment fd_is_alignment p_is_alignment (SPd g sp_is_alignment)) (m_is_alignment : mg "is_alignment" = some (.ref a_is_alignment)) (k_is_alignment : PySem.W.keepIn K (.ref a_is_alignment) = true) (b_is_alignment : Binds K fd_is_alignment p_is_alignment []) {a_text_of : Addr} {fd_text_of : FuncData} (G_text_of : FnOk P w K mg base CX0 3 a_text_of fd_text_of p_text_of (SPd g sp_text_of)) (m_text_of : mg "text_of" = some (.ref a_text_of)) (k_text_of : PySem.W.keepIn K (.ref a_text_of) = true) (b_text_of : Binds K fd_text_of p_text_of []) (z_isinstance : mg "isinstance" = none) (z_str : mg "str" = none) {fI : Addr} {fdI : FuncData} (T : ErrC K mg g.C fI) (GI : FnOk P w K mg base CX0 1 fI fdI ["self", "reason"] (spInit g.C)) (bI : Binds K fdI ["self", "reason"] []) (F : Fun K "read_alignment" "read_alignment" s_read_alignment f fd) (gK : K = g.K) : FnOk P w K mg base (L2.CX P w) 6 f fd p_read_alignment (SPd g sp_read_alignment) := by
  refine okDX (k := 5) F sc_read_alignment (fun ds M R X h => by first | (obtain ⟨rfl, _⟩ := h; rfl) | (obtain ⟨_, rfl, _⟩ := h; rfl) | (obtain ⟨_, _, rfl, _⟩ := h; rfl) | (obtain ⟨_, _, _, rfl, _⟩ := h; rfl) | (obtain ⟨_, _, _, _, rfl, _⟩ := h; rfl) | (obtain ⟨_, _, _, _, _, rfl, _⟩ := h; rfl)) (fun cdv A outer s H E hr hcd => ⟨_, (pss_cons (ps_if (pt_truK (K := K) rfl (pe_isK (K := K) (T := "str") rfl (by rfl) z_isinstance (by rfl) z_str (by decide +kernel) (pv 0)))
  (pss_cons (ps_set (i := 1) sc_read_alignment.nd rfl (by first | exact Or.inl rfl | exact Or.inr rfl) (pe_splitU (pv 0) pe_str))
  (pss_cons (ps_set (i := 2) sc_read_alignment.nd rfl (by first | exact Or.inl rfl | exact Or.inr rfl) (pe_tup (pa_cons (pe_ix (ix_seqK (K := K) rfl) (pv 1) pe_int (fun _ _ => rfl)) (pa_cons (pe_ix (ix_seqK (K := K) rfl) (pv 1) (pe_un un_neg pe_int) (fun _ _ => rfl)) pa_nil))))
  (pss_one (ps_if (PW.pt (pw_and (pt_truK (K := K) rfl (pe_call G_is_alignment (hr.mono (by decide)) (by rfl) m_is_alignment k_is_alignment b_is_alignment .nil pass0 (pa_cons (pv 2) pa_nil))) (pw_and1 (pt_cmpR (op_eqK (K := K) rfl hr.units) (pe_call G_text_of (hr.mono (by decide)) (by rfl) m_text_of k_text_of b_text_of .nil pass0 (pa_cons (pv 2) pa_nil)) (pv 0) (nomark _)))))
  (pss_one (ps_ret (pv 2)))
  pss_nil))))
  pss_nil)
  (pss_one (ps_raise rfl (takes_of rfl rfl rfl rfl) (pmk_oex T.oex T.iC T.tI GI (hr.mono (by decide)) bI .nil pass0 (by rfl) T.gC (pa_cons pe_str pa_nil))))), ?_⟩)
  intro ds M R X h
  obtain ⟨t, rfl, ⟨hl, ho⟩, k1, k2⟩ := h
  obtain ⟨⟨p1, p2⟩, p3, p4⟩ := pair_ok hl ho
  obtain ⟨r1, e1⟩ := lns_hd t
  obtain ⟨r2, e2⟩ := lns_lst t
  refine xs_mid (fun Γ' M' => M' = M ∧ goodT t = false) ?_ fun Γ' M' hI => ?_
  · repeat walk_at "d"
    refine ⟨_, "str", true, rfl, rfl, by decide +kernel, _, rfl, iteT ?_⟩
    repeat walk_at "d"
    refine ⟨_, rfl, ?_⟩
    repeat walk_at "d"
    rw [nlS]
    refine xm_split (by omega) ?_
    repeat walk_at "d"
    refine x2_ixL gK (d := .str (pairT t).1) (by rw [e1]; exact at_0) ?_
    repeat walk_at "d"
    refine xe_un ?_
    repeat walk_at "d"
    refine x1_neg ?_
    refine x2_ixL gK (d := .str (pairT t).2) (by rw [e2, List.map_append]; exact atI_last _ _) ?_
    repeat walk_at "d"
    refine ⟨[.str (pairT t).1, .str (pairT t).2], rfl, (by decide : 2 ≤ 100000), ?_⟩
    refine xg_name ?_
    repeat walk_at "d"
    refine ⟨encP (pairT t), rfl, ⟨rfl, fun xs e y hy => ?_⟩, ?_⟩
    · cases e
      rcases List.mem_cons.mp hy with rfl | hy
      · exact ⟨fun z e => by cases e; exact ⟨p1, p3⟩, rfl⟩
      · rcases List.mem_cons.mp hy with rfl | hy
        · exact ⟨fun z e => by cases e; exact ⟨p2, p4⟩, rfl⟩
        · exact (List.not_mem_nil hy).elim
    refine ⟨_, rfl, ?_⟩
    cases ha : isAl (encP (pairT t)) with
    | false =>
      refine iteF (iteF (xs_next ⟨rfl, ?_⟩))
      unfold goodT; rw [ha]; rfl
    | true =>
      refine iteT ?_
      repeat walk_at "d"
      refine ⟨pairT t, rfl, ⟨⟨p1, p2⟩, p3, p4⟩, ?_⟩
      repeat walk_at "d"
      refine x2_eq 1 (okS_ok (text_okS p3 p4)) (okS_ok ho) ⟨_, rfl, ?_⟩
      rw [beq_str]
      by_cases ht : textN (pairT t) = t
      · rw [beq_iff_eq.mpr ht]
        refine iteT ?_
        repeat walk_at "d"
        exact k1 (by unfold goodT; rw [ha, decide_eq_true ht]; rfl)
      · rw [beq_eq_false_iff_ne.mpr ht]
        refine iteF (xs_next ⟨rfl, ?_⟩)
        unfold goodT; rw [ha, decide_eq_false ht]; rfl
  · obtain ⟨rfl, hg⟩ := hI
    refine xs_raise ?_
    repeat walk_at "d"
    exact ⟨_, rfl, k2 hg⟩
end
end K02
set_option maxRecDepth 100000
set_option maxHeartbeats 4000000
namespace K02
open PySem PySem.Spec PyProof.Rows L2 DL
local macro_rules | `(tactic| walk_at "d") => `(tactic| with_reducible first
  | refine xs_seq ?_ | refine xs_asg ?_ | refine xs_ret ?_ | refine xs_if ?_ | refine xs_drop ?_ | refine xs_next ?_ | refine xs_retN ?_
  | (refine' xe_varD ?va ?vk; (case va => with_unfolding_all rfl)) | (refine' xe_varM ?va ?vk; (case va => with_unfolding_all rfl)) | (refine' xe_varR ?va ?vk; (case va => with_unfolding_all rfl)) | refine xe_ci ?_ | refine xe_cs ?_ | refine xe_cb ?_ | refine xe_cn ?_
  | refine xe_op ?_ | refine xe_isi ?_ | refine xe_cB ?_ | refine xe_call ?_ | refine xe_callS ?_ | refine xa_cons ?_ | refine xa_nil ?_
  | refine xg_name ?_ | refine xe_andV ?_ | refine xe_orV ?_ | refine xe_notV ?_ | refine xe_chain ?_ | refine xe_if ?_
  | refine xt_test ?_ | refine xt_and ?_ | refine xt_or ?_ | refine xt_not ?_ | refine xt_yes ?_ | refine xt_truB (by assumption) ?_
  | refine xe_m1 ?_ | refine xe_bm ?_ | refine xe_sl ?_ | refine xo_no ?_ | refine xo_some ?_ | refine xe_tup ?_)

def lmN (c d : Nat) : Nat := if c = d then 124 else if c = 45 ∨ d = 45 then 32 else 46
def lmsN (p : List Nat × List Nat) : List Nat := (p.1.zip p.2).map fun q => lmN q.1 q.2
def lawT (p : List Nat × List Nat) : List Nat := p.1 ++ 10 :: (lmsN p ++ 10 :: p.2)
theorem lm_take (p : List Nat × List Nat) {i : Nat} (h1 : i < p.1.length) (h2 : i < p.2.length) : (lmsN p).take (i + 1) = (lmsN p).take i ++ [lmN p.1[i] p.2[i]] := by
  have hl : i < (lmsN p).length := by unfold lmsN; rw [List.length_map, List.length_zip]; omega
  have e : (lmsN p)[i] = lmN p.1[i] p.2[i] := by
    have q : (lmsN p)[i]? = some (lmN p.1[i] p.2[i]) := by
      unfold lmsN
      rw [List.getElem?_map, List.getElem?_eq_getElem (by rw [List.length_zip]; omega), List.getElem_zip]
      rfl
    rw [List.getElem?_eq_getElem hl] at q
    exact Option.some.inj q
  rw [List.take_succ_eq_append_getElem hl, e]
section
variable {P : Program} {w : World} {K : PySem.W.Frag} {mg : Str → Option Value} {base : Heap} {g : G}
def sp_law_text : DSpec := fun ds M R _ => ∃ p, ds = [vP p] ∧ (okP p ∧ p.1.length = p.2.length) ∧ R (vS (lawT p)) M
abbrev s_law_text : Stmt := topS 23
abbrev n_law_text : List Str := ["alignment", "marks", "k"]
abbrev p_law_text : List Str := ["alignment"]
theorem sc_law_text : FnScope n_law_text p_law_text (defScope s_law_text) := ⟨rfl, rfl, rfl, by decide +kernel, rfl, by decide +kernel, by decide +kernel⟩
theorem ok_law_text {f : Addr} {fd : FuncData} (z_range : mg "range" = none) (z_len : mg "len" = none) (F : Fun K "_law_text" "_law_text" s_law_text f fd) (gK : K = g.K) : FnOk P w K mg base CX0 1 f fd p_law_text (SPd g sp_law_text) := by
  refine okD (k := 0) F sc_law_text (fun ds M R X h => by first | (obtain ⟨rfl, _⟩ := h; rfl) | (obtain ⟨_, rfl, _⟩ := h; rfl) | (obtain ⟨_, _, rfl, _⟩ := h; rfl) | (obtain ⟨_, _, _, rfl, _⟩ := h; rfl) | (obtain ⟨_, _, _, _, rfl, _⟩ := h; rfl) | (obtain ⟨_, _, _, _, _, rfl, _⟩ := h; rfl)) (fun cdv A outer s H E hr hcd _ => ⟨_, (pss_cons (ps_set (i := 1) sc_law_text.nd rfl (by first | exact Or.inl rfl | exact Or.inr rfl) pe_str)
  (pss_cons (ps_for PassesOwn.never rfl (pi_range1 (by rfl) z_range (pa_cons (pe_callB (call_lenK (K := K) rfl) (by rfl) z_len (by decide +kernel) (pa_cons (pe_ix (ix_seqK (K := K) rfl) (pv 0) pe_int (fun _ _ => rfl)) pa_nil)) pa_nil)) (pg_name (i := 2) sc_law_text.nd rfl (by first | exact Or.inl rfl | exact Or.inr rfl))
  (pss_one (ps_if (pt_cmpR (op_eqK (K := K) rfl hr.units) (pe_ix (ix_seqK (K := K) rfl) (pe_ix (ix_seqK (K := K) rfl) (pv 0) pe_int (fun _ _ => rfl)) (pv 2) (fun _ _ => rfl)) (pe_ix (ix_seqK (K := K) rfl) (pe_ix (ix_seqK (K := K) rfl) (pv 0) pe_int (fun _ _ => rfl)) (pv 2) (fun _ _ => rfl)) (nomark _))
  (pss_one (ps_set (i := 1) sc_law_text.nd rfl (by first | exact Or.inl rfl | exact Or.inr rfl) (pe_op op_addU (pv 1) pe_str)))
  (pss_one (ps_if (PW.pt (pw_or (pt_cmpR (op_eqK (K := K) rfl hr.units) (pe_ix (ix_seqK (K := K) rfl) (pe_ix (ix_seqK (K := K) rfl) (pv 0) pe_int (fun _ _ => rfl)) (pv 2) (fun _ _ => rfl)) pe_str (nomark _)) (pw_or1 (pt_cmpR (op_eqK (K := K) rfl hr.units) (pe_ix (ix_seqK (K := K) rfl) (pe_ix (ix_seqK (K := K) rfl) (pv 0) pe_int (fun _ _ => rfl)) (pv 2) (fun _ _ => rfl)) pe_str (nomark _)))))
  (pss_one (ps_set (i := 1) sc_law_text.nd rfl (by first | exact Or.inl rfl | exact Or.inr rfl) (pe_op op_addU (pv 1) pe_str)))
  (pss_one (ps_set (i := 1) sc_law_text.nd rfl (by first | exact Or.inl rfl | exact Or.inr rfl) (pe_op op_addU (pv 1) pe_str))))))))
  (pss_one (ps_ret (pe_op op_addU (pe_op op_addU (pe_op op_addU (pe_op op_addU (pe_ix (ix_seqK (K := K) rfl) (pv 0) pe_int (fun _ _ => rfl)) pe_str) (pv 1)) pe_str) (pe_ix (ix_seqK (K := K) rfl) (pv 0) pe_int (fun _ _ => rfl))))))), ?_⟩)
  intro ds M R X h
  obtain ⟨p, rfl, ⟨⟨⟨p1, p2⟩, o1, o2⟩, hl⟩, q⟩ := h
  have ll : (lmsN p).length = p.1.length := by unfold lmsN; rw [List.length_map, List.length_zip]; omega
  refine xs_seq (xs_asg (xe_cs (xg_name ?_)))
  rw [nilS]
  refine xs_mid (fun Γ' M' => ∃ y2, Γ' = [vP p, vS (lmsN p), y2] ∧ M' = M) ?_ fun Γ' M' hI => ?_
  · refine xs_for (xi_rng1 ?_)
    repeat walk_at "d"
    refine x2_ixT gK (d := .str p.1) at_0 (xa_nil (xn_lenS (by omega) ?_))
    repeat walk_at "d"
    refine ⟨p.1.length, rfl, by omega, by omega, fun l Γ' M' => ∃ y2 i, l = (rngD 0 p.1.length).drop i ∧ i ≤ p.1.length ∧ Γ' = [vP p, vS ((lmsN p).take i), y2] ∧ M' = M, ⟨_, 0, rfl, Nat.zero_le _, rfl, rfl⟩, fun v r Γ' M' hI => ?_, fun Γ' M' hI => ?_⟩
    · obtain ⟨y2, i, el, hi, rfl, rfl⟩ := hI
      obtain ⟨rfl, er, hi2⟩ := rng_drop el
      have ei : (0 + (i : Nat) : Int) = (i : Nat) := by omega
      rw [ei]
      have hj : i < p.2.length := by omega
      have a1 : atI p.1 (i : Int) = some p.1[i] := at_n (List.getElem?_eq_getElem hi2)
      have a2 : atI p.2 (i : Int) = some p.2[i] := at_n (List.getElem?_eq_getElem hj)
      have c1 := o1 _ (List.getElem_mem hi2)
      have c2 := o2 _ (List.getElem_mem hj)
      have hs := lm_take p hi2 hj
      generalize p.1[i] = c at *
      generalize p.2[i] = d at *
      have lt : ((lmsN p).take i).length ≤ 1000 := by rw [List.length_take]; omega
      have fin : ∀ z, z = lmN c d → ∃ y2 j, r = (rngD 0 p.1.length).drop j ∧ j ≤ p.1.length ∧ ([vP p, vS ((lmsN p).take i ++ [z]), .d (.int (i : Int))] : List DV) = [vP p, vS ((lmsN p).take j), y2] ∧ M' = M' := fun z hz => by
        subst hz
        exact ⟨_, i + 1, er, hi2, by rw [hs], rfl⟩
      repeat walk_at "d"
      refine x2_ixT gK (d := .str p.1) at_0 ?_
      repeat walk_at "d"
      refine x2_ixS a1 (by omega) ?_
      repeat walk_at "d"
      refine x2_ixT gK (d := .str p.2) at_1 ?_
      repeat walk_at "d"
      refine x2_ixS a2 (by omega) ?_
      refine x2_eq 1 (ok1 c1) (ok1 c2) ⟨_, rfl, ?_⟩
      rw [beq_str]
      by_cases hcd : c = d
      · subst hcd
        rw [beq_self_eq_true]
        refine iteT ?_
        repeat walk_at "d"
        rw [barS]
        refine x2_addS (by simp only [List.length_cons, List.length_nil]; omega) ?_
        refine xg_name ?_
        exact fin 124 (by simp [lmN])
      · rw [beq_eq_false_iff_ne.mpr (fun e => hcd (List.cons.inj e).1)]
        refine iteF ?_
        repeat walk_at "d"
        refine x2_ixT gK (d := .str p.1) at_0 ?_
        repeat walk_at "d"
        refine x2_ixS a1 (by omega) ?_
        repeat walk_at "d"
        refine x2_eq 1 (ok1 c1) rfl ⟨_, rfl, ?_⟩
        rw [beqd]
        by_cases h1 : c = 45
        · rw [decide_eq_true h1]
          refine iteT (iteT ?_)
          repeat walk_at "d"
          rw [spS]
          refine x2_addS (by simp only [List.length_cons, List.length_nil]; omega) ?_
          refine xg_name ?_
          exact fin 32 (by unfold lmN; rw [if_neg hcd, if_pos (.inl h1)])
        · rw [decide_eq_false h1]
          refine iteF ?_
          repeat walk_at "d"
          refine x2_ixT gK (d := .str p.2) at_1 ?_
          repeat walk_at "d"
          refine x2_ixS a2 (by omega) ?_
          repeat walk_at "d"
          refine x2_eq 1 (ok1 c2) rfl ⟨_, rfl, ?_⟩
          rw [beqd]
          by_cases h2 : d = 45
          · rw [decide_eq_true h2]
            refine iteT ?_
            repeat walk_at "d"
            rw [spS]
            refine x2_addS (by simp only [List.length_cons, List.length_nil]; omega) ?_
            refine xg_name ?_
            exact fin 32 (by unfold lmN; rw [if_neg hcd, if_pos (.inr h2)])
          · rw [decide_eq_false h2]
            refine iteF ?_
            repeat walk_at "d"
            rw [dotS]
            refine x2_addS (by simp only [List.length_cons, List.length_nil]; omega) ?_
            refine xg_name ?_
            exact fin 46 (by unfold lmN; rw [if_neg hcd, if_neg (fun z => z.elim h1 h2)])
    · obtain ⟨y2, i, el, hi, rfl, rfl⟩ := hI
      have hi2 : i = p.1.length := by
        have := congrArg List.length el
        rw [List.length_drop, rng_len] at this
        simp at this
        omega
      exact ⟨y2, by rw [List.take_of_length_le (by omega)], rfl⟩
  · obtain ⟨y2, rfl, rfl⟩ := hI
    repeat walk_at "d"
    refine x2_ixT gK (d := .str p.1) at_0 ?_
    repeat walk_at "d"
    rw [nlS]
    refine x2_addS (by simp only [List.length_cons, List.length_nil]; omega) ?_
    repeat walk_at "d"
    refine x2_addS (by simp only [List.length_cons, List.length_append, List.length_nil]; omega) ?_
    repeat walk_at "d"
    rw [nlS]
    refine x2_addS (by simp only [List.length_cons, List.length_append, List.length_nil]; omega) ?_
    repeat walk_at "d"
    refine x2_ixT gK (d := .str p.2) at_1 ?_
    refine x2_addS (by simp only [List.length_cons, List.length_append, List.length_nil]; omega) ?_
    have e : p.1 ++ [10] ++ lmsN p ++ [10] ++ p.2 = lawT p := by unfold lawT; simp
    rw [e]
    exact q
def sp_law_is_good : DSpec := fun ds M R _ => ∃ x, ds = [vS x] ∧ (x.length ≤ 1000 ∧ okS x) ∧ R (.d (.bl (isSeq (.str (nod x))))) M
abbrev s_law_is_good : Stmt := topS 24
abbrev n_law_is_good : List Str := ["row", "plain", "letter"]
abbrev p_law_is_good : List Str := ["row"]
theorem sc_law_is_good : FnScope n_law_is_good p_law_is_good (defScope s_law_is_good) := ⟨rfl, rfl, rfl, by decide +kernel, rfl, by decide +kernel, by decide +kernel⟩
theorem ok_law_is_good {f : Addr} {fd : FuncData} {a_law_plain : Addr} {fd_law_plain : FuncData} (G_law_plain : FnOk P w K mg base CX0 1 a_law_plain fd_law_plain p_law_plain (SPd g sp_law_plain)) (m_law_plain : mg "_law_plain" = some (.ref a_law_plain)) (k_law_plain : PySem.W.keepIn K (.ref a_law_plain) = true) (b_law_plain : Binds K fd_law_plain p_law_plain []) (z_len : mg "len" = none) (F : Fun K "_law_is_good" "_law_is_good" s_law_is_good f fd) (gK : K = g.K) : FnOk P w K mg base CX0 2 f fd p_law_is_good (SPd g sp_law_is_good) := by
  refine okD (k := 1) F sc_law_is_good (fun ds M R X h => by first | (obtain ⟨rfl, _⟩ := h; rfl) | (obtain ⟨_, rfl, _⟩ := h; rfl) | (obtain ⟨_, _, rfl, _⟩ := h; rfl) | (obtain ⟨_, _, _, rfl, _⟩ := h; rfl) | (obtain ⟨_, _, _, _, rfl, _⟩ := h; rfl) | (obtain ⟨_, _, _, _, _, rfl, _⟩ := h; rfl)) (fun cdv A outer s H E hr hcd _ => ⟨_, (pss_cons (ps_set (i := 1) sc_law_is_good.nd rfl (by first | exact Or.inl rfl | exact Or.inr rfl) (pe_call G_law_plain (hr.mono (by decide)) (by rfl) m_law_plain k_law_plain b_law_plain .nil pass0 (pa_cons (pv 0) pa_nil)))
  (pss_one (ps_ret (pe_and (pe_cmpR op_leU (pe_callB (call_lenK (K := K) rfl) (by rfl) z_len (by decide +kernel) (pa_cons (pv 1) pa_nil)) pe_int (nomark _)) (pe_one (pe_cmpR (op_eqK (K := K) rfl hr.units) (pe_callB (call_lenK (K := K) rfl) (by rfl) z_len (by decide +kernel) (pa_cons (pe_lc (own := [("letter", 2)]) (g := gName 2) rfl sc_law_is_good.nd (pi_str (pv 1)) (blkOk_by (own := [("letter", 2)]) (N := n_law_is_good) (sc := defScope s_law_is_good) (by decide +kernel)) (fun _ _ _ _ _ => (pg_name (i := 2) sc_law_is_good.nd rfl (Or.inl rfl))) (fun _ _ _ _ _ => (pts_one (pt_cmpR (op_niK (K := K) rfl) (pv 2) pe_str (by rfl)))) (fun _ _ _ _ _ => (pv 2))) pa_nil)) pe_int (nomark _))))))), ?_⟩)
  intro ds M R X h
  obtain ⟨x, rfl, ⟨hx, ox⟩, q⟩ := h
  repeat walk_at "d"
  refine ⟨x, rfl, ⟨hx, ox⟩, ?_⟩
  have hz := Nat.le_trans (nod_len x) hx
  generalize nod x = z at *
  have q : R (DV.d (D.bl (decide (z.length ≤ 6) && z.all isL))) M := q
  refine xg_name ?_
  repeat walk_at "d"
  refine xn_lenS (by omega) ?_
  repeat walk_at "d"
  refine x2_leI ⟨_, rfl, ?_⟩
  by_cases hl : z.length ≤ 6
  · rw [decide_eq_true hl] at q
    rw [decide_eq_true (show (z.length : Int) ≤ 6 by omega)]
    refine iteT ?_
    repeat walk_at "d"
    refine xe_lcF (gto_name (by decide)) (xi_str ?_)
    repeat walk_at "d"
    refine ⟨z, rfl, fun l acc M' => M' = M ∧ ∃ a b, z = a ++ b ∧ l = (b.map fun c => DV.d (.str [c])) ∧ acc = ((a.filter fun c => !isL c).map fun c => DV.d (.str [c])), ⟨rfl, [], z, rfl, rfl, rfl⟩, fun v r acc M' hI => ?_, fun acc M' hI => ?_⟩
    · obtain ⟨rfl, a, b, e, el, rfl⟩ := hI
      cases b with
      | nil => cases el
      | cons c b =>
        obtain ⟨rfl, rfl⟩ := List.cons.inj el
        have la : (a.filter fun c => !isL c).length ≤ 6 := Nat.le_trans (List.length_filter_le _ _) (by have := congrArg List.length e; simp at this; omega)
        repeat walk_at "d"
        refine x2_niS ⟨_, rfl, ?_⟩
        rw [alpha_in]
        cases hc : isL c with
        | true => exact iteF ⟨rfl, a ++ [c], b, by rw [e]; simp, rfl, by simp [List.filter_append, hc]⟩
        | false =>
          refine iteT ?_
          repeat walk_at "d"
          exact ⟨by simp; omega, rfl, a ++ [c], b, by rw [e]; simp, rfl, by simp [List.filter_append, hc]⟩
    · obtain ⟨rfl, a, b, e, el, rfl⟩ := hI
      cases b with
      | cons c b => cases el
      | nil =>
        rw [List.append_nil] at e
        subst e
        refine ⟨_, ones_D _, ?_⟩
        repeat walk_at "d"
        refine xn_lenL ?_
        repeat walk_at "d"
        refine x2_eq 1 rfl rfl ?_
        rw [beq_int, List.length_map, List.length_map]
        have e : ((((z.filter fun c => !isL c).length : Nat) : Int) == 0) = z.all isL := by
          rw [← all_filter]
          by_cases h0 : (z.filter fun c => !isL c).length = 0
          · rw [h0]; rfl
          · rw [beq_eq_false_iff_ne.mpr h0, beq_eq_false_iff_ne.mpr (by omega)]
        rw [e]
        exact q
  · rw [decide_eq_false hl] at q
    rw [decide_eq_false (show ¬ (z.length : Int) ≤ 6 by omega)]
    exact iteF q
def dueB (p : List Nat × List Nat) (t : List Nat) : Bool := decide (p.1.length = p.2.length) && (isSeq (.str (nod p.1)) && (isSeq (.str (nod p.2)) && (noGap p.1 p.2 && decide (lawT p = t))))
def dueT (t : List Nat) : D := match lns t with
  | [a, _, b] => if dueB (a, b) t = true then encP (a, b) else .non
  | _ => .non
theorem lawT_okS {p : List Nat × List Nat} (h1 : okS p.1) (h2 : okS p.2) : okS (lawT p) := by
  refine okS_app h1 (okS_con (by decide) (okS_app (fun c hc => ?_) (okS_con (by decide) h2)))
  obtain ⟨z, _, rfl⟩ := List.mem_map.mp hc
  show lmN z.1 z.2 < 1114112
  unfold lmN
  split
  · decide
  · split <;> decide
def sp_law_due : DSpec := fun ds M R _ => ∃ t, ds = [vS t] ∧ (t.length ≤ 600 ∧ okS t) ∧ R (.d (dueT t)) M
abbrev s_law_due : Stmt := topS 25
abbrev n_law_due : List Str := ["text", "lines", "pair", "k"]
abbrev p_law_due : List Str := ["text"]
theorem sc_law_due : FnScope n_law_due p_law_due (defScope s_law_due) := ⟨rfl, rfl, rfl, by decide +kernel, rfl, by decide +kernel, by decide +kernel⟩
theorem ok_law_due {f : Addr} {fd : FuncData} {a_law_text : Addr} {fd_law_text : FuncData} (G_law_text : FnOk P w K mg base CX0 1 a_law_text fd_law_text p_law_text (SPd g sp_law_text)) (m_law_text : mg "_law_text" = some (.ref a_law_text)) (k_law_text : PySem.W.keepIn K (.ref a_law_text) = true) (b_law_text : Binds K fd_law_text p_law_text []) {a_law_is_good : Addr} {fd_law_is_good : FuncData} (G_law_is_good : FnOk P w K mg base CX0 2 a_law_is_good fd_law_is_good p_law_is_good (SPd g sp_law_is_good)) (m_law_is_good : mg "_law_is_good" = some (.ref a_law_is_good)) (k_law_is_good : PySem.W.keepIn K (.ref a_law_is_good) = true) (b_law_is_good : Binds K fd_law_is_good p_law_is_good []) (z_len : mg "len" = none) (z_range : mg "range" = none) (F : Fun K "_law_due" "_law_due" s_law_due f fd) (gK : K = g.K) : FnOk P w K mg base CX0 4 f fd p_law_due (SPd g sp_law_due) := by
  refine okD (k := 3) F sc_law_due (fun ds M R X h => by first | (obtain ⟨rfl, _⟩ := h; rfl) | (obtain ⟨_, rfl, _⟩ := h; rfl) | (obtain ⟨_, _, rfl, _⟩ := h; rfl) | (obtain ⟨_, _, _, rfl, _⟩ := h; rfl) | (obtain ⟨_, _, _, _, rfl, _⟩ := h; rfl) | (obtain ⟨_, _, _, _, _, rfl, _⟩ := h; rfl)) (fun cdv A outer s H E hr hcd _ => ⟨_, (pss_cons (ps_set (i := 1) sc_law_due.nd rfl (by first | exact Or.inl rfl | exact Or.inr rfl) (pe_splitU (pv 0) pe_str))
  (pss_cons (ps_if (PW.pt (pw_or (pt_cmpR (op_neK (K := K) rfl hr.units) (pe_callB (call_lenK (K := K) rfl) (by rfl) z_len (by decide +kernel) (pa_cons (pv 1) pa_nil)) pe_int (nomark _)) (pw_or (pt_cmpR (op_neK (K := K) rfl hr.units) (pe_callB (call_lenK (K := K) rfl) (by rfl) z_len (by decide +kernel) (pa_cons (pe_ix (ix_seqK (K := K) rfl) (pv 1) pe_int (fun _ _ => rfl)) pa_nil)) (pe_callB (call_lenK (K := K) rfl) (by rfl) z_len (by decide +kernel) (pa_cons (pe_ix (ix_seqK (K := K) rfl) (pv 1) pe_int (fun _ _ => rfl)) pa_nil)) (nomark _)) (pw_or (pt_not (pt_truK (K := K) rfl (pe_call G_law_is_good (hr.mono (by decide)) (by rfl) m_law_is_good k_law_is_good b_law_is_good .nil pass0 (pa_cons (pe_ix (ix_seqK (K := K) rfl) (pv 1) pe_int (fun _ _ => rfl)) pa_nil)))) (pw_or1 (pt_not (pt_truK (K := K) rfl (pe_call G_law_is_good (hr.mono (by decide)) (by rfl) m_law_is_good k_law_is_good b_law_is_good .nil pass0 (pa_cons (pe_ix (ix_seqK (K := K) rfl) (pv 1) pe_int (fun _ _ => rfl)) pa_nil)))))))))
  (pss_one (ps_ret pe_non))
  pss_nil)
  (pss_cons (ps_set (i := 2) sc_law_due.nd rfl (by first | exact Or.inl rfl | exact Or.inr rfl) (pe_tup (pa_cons (pe_ix (ix_seqK (K := K) rfl) (pv 1) pe_int (fun _ _ => rfl)) (pa_cons (pe_ix (ix_seqK (K := K) rfl) (pv 1) pe_int (fun _ _ => rfl)) pa_nil))))
  (pss_cons (ps_if (PW.pt (pw_or (pt_cmpR op_gtU (pe_callB (call_lenK (K := K) rfl) (by rfl) z_len (by decide +kernel) (pa_cons (pe_lc (own := [("k", 3)]) (g := gName 3) rfl sc_law_due.nd (pi_range1 (by rfl) z_range (pa_cons (pe_callB (call_lenK (K := K) rfl) (by rfl) z_len (by decide +kernel) (pa_cons (pe_ix (ix_seqK (K := K) rfl) (pv 1) pe_int (fun _ _ => rfl)) pa_nil)) pa_nil)) (blkOk_by (own := [("k", 3)]) (N := n_law_due) (sc := defScope s_law_due) (by decide +kernel)) (fun _ _ _ _ _ => (pg_name (i := 3) sc_law_due.nd rfl (Or.inl rfl))) (fun _ _ _ _ _ => (pts_one (PW.pt (pw_and (pt_cmpR (op_eqK (K := K) rfl hr.units) (pe_ix (ix_seqK (K := K) rfl) (pe_ix (ix_seqK (K := K) rfl) (pv 1) pe_int (fun _ _ => rfl)) (pv 3) (fun _ _ => rfl)) pe_str (nomark _)) (pw_and1 (pt_cmpR (op_eqK (K := K) rfl hr.units) (pe_ix (ix_seqK (K := K) rfl) (pe_ix (ix_seqK (K := K) rfl) (pv 1) pe_int (fun _ _ => rfl)) (pv 3) (fun _ _ => rfl)) pe_str (nomark _))))))) (fun _ _ _ _ _ => (pv 3))) pa_nil)) pe_int (nomark _)) (pw_or1 (pt_cmpR (op_neK (K := K) rfl hr.units) (pe_call G_law_text (hr.mono (by decide)) (by rfl) m_law_text k_law_text b_law_text .nil pass0 (pa_cons (pv 2) pa_nil)) (pv 0) (nomark _)))))
  (pss_one (ps_ret pe_non))
  pss_nil)
  (pss_one (ps_ret (pv 2))))))), ?_⟩)
  intro ds M R X h
  obtain ⟨t, rfl, ⟨hl, ho⟩, q⟩ := h
  have mem := fun l h => lns_mem t l h
  have lts : (lns t).length ≤ 601 := by
    have : ∀ x : List Nat, (lns x).length ≤ x.length + 1 := by
      intro x
      induction x with
      | nil => simp [lns]
      | cons a x ih =>
        unfold lns
        by_cases e : a = 10
        · rw [if_pos e]; simp; omega
        · rw [if_neg e]
          cases hx : lns x with
          | nil => simp
          | cons b r => rw [hx] at ih; simp at ih ⊢; omega
    have := this t
    omega
  unfold dueT at q
  generalize hL : lns t = L at *
  have ok : ∀ l ∈ L, l.length ≤ 600 ∧ okS l := fun l h => ⟨Nat.le_trans (mem l h).1 hl, fun c hc => ho c ((mem l h).2 c hc).1⟩
  refine xs_seq (xs_asg ?_)
  repeat walk_at "d"
  refine ⟨_, rfl, ?_⟩
  repeat walk_at "d"
  rw [nlS]
  refine xm_split (by omega) ?_
  rw [hL]
  refine xg_name ?_
  refine xs_mid (fun Γ' M' => ∃ a m b, L = [a, m, b] ∧ Γ' = [vS t, .d (.lst [.str a, .str m, .str b]), .un, .un] ∧ M' = M ∧ a.length = b.length ∧ isSeq (.str (nod a)) = true ∧ isSeq (.str (nod b)) = true) ?_ fun Γ' M' hI => ?_
  · repeat walk_at "d"
    refine xn_lenL ?_
    repeat walk_at "d"
    refine x2_ne 1 rfl rfl ⟨_, rfl, ?_⟩
    rw [beq_int, List.length_map]
    by_cases h3 : L.length = 3
    · obtain ⟨a, m, b, rfl⟩ : ∃ a m b, L = [a, m, b] := by
        match L, h3 with
        | [a, m, b], _ => exact ⟨a, m, b, rfl⟩
      obtain ⟨la, oa⟩ := ok a (by simp)
      obtain ⟨lb, ob⟩ := ok b (by simp)
      have q : R (.d (if dueB (a, b) t = true then encP (a, b) else .non)) M := q
      refine iteF ?_
      repeat walk_at "d"
      refine x2_ixL gK (d := .str a) at_0 (xa_nil (xn_lenS (by omega) ?_))
      repeat walk_at "d"
      refine x2_ixL gK (d := .str b) (at_n (j := 2) rfl) (xa_nil (xn_lenS (by omega) ?_))
      refine x2_ne 1 rfl rfl ⟨_, rfl, ?_⟩
      rw [beq_int]
      by_cases hab : a.length = b.length
      · rw [hab, beq_self_eq_true]
        refine iteF ?_
        repeat walk_at "d"
        refine x2_ixL gK (d := .str a) at_0 ?_
        repeat walk_at "d"
        refine ⟨a, rfl, ⟨by omega, oa⟩, _, rfl, ?_⟩
        cases ha : isSeq (.str (nod a)) with
        | false =>
          refine iteT (iteT ?_)
          repeat walk_at "d"
          rw [if_neg (by unfold dueB; rw [ha]; simp)] at q
          exact q
        | true =>
          refine iteF ?_
          repeat walk_at "d"
          refine x2_ixL gK (d := .str b) (at_n (j := 2) rfl) ?_
          repeat walk_at "d"
          refine ⟨b, rfl, ⟨by omega, ob⟩, _, rfl, ?_⟩
          cases hb : isSeq (.str (nod b)) with
          | false =>
            refine iteT ?_
            repeat walk_at "d"
            rw [if_neg (by unfold dueB; rw [hb]; simp)] at q
            exact q
          | true =>
            refine iteF (xs_next ?_)
            exact ⟨a, m, b, rfl, rfl, rfl, hab, ha, hb⟩
      · rw [beq_eq_false_iff_ne.mpr (by omega)]
        refine iteT (iteT ?_)
        repeat walk_at "d"
        rw [if_neg (by unfold dueB; rw [decide_eq_false hab]; simp)] at q
        exact q
    · rw [beq_eq_false_iff_ne.mpr (by omega)]
      refine iteT (iteT ?_)
      repeat walk_at "d"
      have e : (match L with | [a, _, b] => if dueB (a, b) t = true then encP (a, b) else D.non | _ => D.non) = .non := by
        match L, h3 with
        | [], _ => rfl
        | [_], _ => rfl
        | [_, _], _ => rfl
        | [_, _, _], h => exact absurd rfl h
        | _ :: _ :: _ :: _ :: _, _ => rfl
      rw [e] at q
      exact q
  obtain ⟨a, m, b, rfl, rfl, rfl, hab, ha, hb⟩ := hI
  obtain ⟨la, oa⟩ := ok a (by simp)
  obtain ⟨lb, ob⟩ := ok b (by simp)
  have q : R (.d (if dueB (a, b) t = true then encP (a, b) else .non)) M' := q
  refine xs_seq (xs_asg ?_)
  repeat walk_at "d"
  refine x2_ixL gK (d := .str a) at_0 ?_
  repeat walk_at "d"
  refine x2_ixL gK (d := .str b) (at_n (j := 2) rfl) ?_
  repeat walk_at "d"
  refine ⟨[.str a, .str b], rfl, (by decide : 2 ≤ 100000), ?_⟩
  refine xg_name ?_
  have q : R (.d (if noGap a b = true ∧ lawT (a, b) = t then encP (a, b) else .non)) M' := by
    have e : (dueB (a, b) t = true) ↔ (noGap a b = true ∧ lawT (a, b) = t) := by
      unfold dueB; rw [decide_eq_true hab, ha, hb]; simp
    by_cases z : noGap a b = true ∧ lawT (a, b) = t
    · rw [if_pos (e.mpr z)] at q; rw [if_pos z]; exact q
    · rw [if_neg (fun y => z (e.mp y))] at q; rw [if_neg z]; exact q
  refine xs_mid (fun Γ' M2 => Γ' = [vS t, .d (.lst [.str a, .str m, .str b]), vP (a, b), .un] ∧ M2 = M' ∧ noGap a b = true ∧ lawT (a, b) = t) ?_ fun Γ' M2 hI => ?_
  · repeat walk_at "d"
    refine xe_lcF (gto_name (by decide)) (xi_rng1 ?_)
    repeat walk_at "d"
    refine x2_ixL gK (d := .str a) at_0 (xa_nil (xn_lenS (by omega) ?_))
    repeat walk_at "d"
    let pr : Nat → Bool := fun k => decide (a.getD k 0 = 45) && decide (b.getD k 0 = 45)
    refine ⟨_, rfl, by omega, by omega, fun l acc M2 => M2 = M' ∧ ∃ i, l = (rngD 0 a.length).drop i ∧ i ≤ a.length ∧ acc = (((List.range i).filter pr).map fun k => DV.d (.int (k : Nat))), ⟨rfl, 0, rfl, Nat.zero_le _, rfl⟩, fun v r acc M2 hI => ?_, fun acc M2 hI => ?_⟩
    · obtain ⟨rfl, i, el, hi, rfl⟩ := hI
      obtain ⟨rfl, er, hi2⟩ := rng_drop el
      have ei : (0 + (i : Nat) : Int) = (i : Nat) := by omega
      rw [ei]
      have lr : ((List.range i).filter pr).length ≤ i := by
        have := List.length_filter_le pr (List.range i)
        rw [List.length_range] at this
        exact this
      have ex : a[i]? = some (a.getD i 0) := by rw [List.getD_eq_getElem?_getD, List.getElem?_eq_getElem hi2]; rfl
      have ey : b[i]? = some (b.getD i 0) := by rw [List.getD_eq_getElem?_getD, List.getElem?_eq_getElem (by omega)]; rfl
      have mx : a.getD i 0 ∈ a := List.mem_iff_getElem?.mpr ⟨i, ex⟩
      have my : b.getD i 0 ∈ b := List.mem_iff_getElem?.mpr ⟨i, ey⟩
      have stepT : pr i = true → (((List.range i).filter pr).map fun k => DV.d (.int (k : Nat))) ++ [.d (.int (i : Nat))] = (((List.range (i + 1)).filter pr).map fun k => DV.d (.int (k : Nat))) := fun hp => by simp [List.range_succ, List.filter_append, hp]
      have stepF : pr i = false → (((List.range i).filter pr).map fun k => DV.d (.int (k : Nat))) = (((List.range (i + 1)).filter pr).map fun k => DV.d (.int (k : Nat))) := fun hp => by simp [List.range_succ, List.filter_append, hp]
      repeat walk_at "d"
      refine x2_ixL gK (d := .str a) at_0 ?_
      repeat walk_at "d"
      refine x2_ixS (at_n ex) (by omega) ?_
      repeat walk_at "d"
      refine x2_eq 1 (ok1 (oa _ mx)) rfl ⟨_, rfl, ?_⟩
      rw [beqd]
      by_cases q1 : a.getD i 0 = 45
      · rw [decide_eq_true q1]
        refine iteT ?_
        repeat walk_at "d"
        refine x2_ixL gK (d := .str b) (at_n (j := 2) rfl) ?_
        repeat walk_at "d"
        refine x2_ixS (at_n ey) (by omega) ?_
        repeat walk_at "d"
        refine x2_eq 1 (ok1 (ob _ my)) rfl ⟨_, rfl, ?_⟩
        rw [beqd]
        by_cases q2 : b.getD i 0 = 45
        · rw [decide_eq_true q2]
          refine iteT ?_
          repeat walk_at "d"
          exact ⟨by simp; omega, rfl, i + 1, er, hi2, stepT (by simp only [pr, decide_eq_true q1, decide_eq_true q2, Bool.true_and])⟩
        · rw [decide_eq_false q2]
          exact iteF ⟨rfl, i + 1, er, hi2, stepF (by simp only [pr, decide_eq_false q2, Bool.and_false])⟩
      · rw [decide_eq_false q1]
        exact iteF (iteF ⟨rfl, i + 1, er, hi2, stepF (by simp only [pr, decide_eq_false q1, Bool.false_and])⟩)
    · obtain ⟨rfl, i, el, hi, rfl⟩ := hI
      have hi2 : i = a.length := by
        have := congrArg List.length el
        rw [List.length_drop, rng_len] at this
        simp at this
        omega
      subst hi2
      have gp := gapB a b hab
      refine ⟨((List.range a.length).filter pr).map fun k => D.int (k : Nat), by rw [List.map_map]; rfl, ?_⟩
      repeat walk_at "d"
      refine xn_lenL ?_
      repeat walk_at "d"
      refine x2_gtI ⟨_, rfl, ?_⟩
      rw [List.length_map]
      cases hg : noGap a b with
      | false =>
        rw [hg] at gp
        have h0 := beq_eq_false_iff_ne.mp gp
        rw [decide_eq_true (show (0 : Int) < (((List.range a.length).filter pr).length : Int) by show (0 : Int) < (((List.range a.length).filter fun k => decide (a.getD k 0 = 45) && decide (b.getD k 0 = 45)).length : Int); omega)]
        refine iteT (iteT ?_)
        repeat walk_at "d"
        rw [if_neg (by rw [hg]; simp)] at q
        exact q
      | true =>
        rw [hg] at gp
        have h0 := eq_of_beq gp
        rw [decide_eq_false (show ¬ (0 : Int) < (((List.range a.length).filter pr).length : Int) by show ¬ (0 : Int) < (((List.range a.length).filter fun k => decide (a.getD k 0 = 45) && decide (b.getD k 0 = 45)).length : Int); omega)]
        refine iteF ?_
        repeat walk_at "d"
        refine ⟨(a, b), rfl, ⟨⟨⟨by show a.length ≤ 1000; omega, by show b.length ≤ 1000; omega⟩, oa, ob⟩, hab⟩, ?_⟩
        repeat walk_at "d"
        refine x2_ne 1 (okS_ok (lawT_okS oa ob)) (okS_ok ho) ⟨_, rfl, ?_⟩
        rw [beq_str]
        by_cases ht : lawT (a, b) = t
        · rw [beq_iff_eq.mpr ht]
          exact iteF (xs_next ⟨rfl, rfl, rfl, ht⟩)
        · rw [beq_eq_false_iff_ne.mpr ht]
          refine iteT ?_
          repeat walk_at "d"
          rw [if_neg (fun z => ht z.2)] at q
          exact q
  obtain ⟨rfl, rfl, hg, ht⟩ := hI
  rw [if_pos ⟨hg, ht⟩] at q
  repeat walk_at "d"
  exact q
end
end K02
set_option maxRecDepth 100000
set_option maxHeartbeats 4000000
namespace K02
open PySem PySem.Spec PyProof.Rows L2 DL
local macro_rules | `(tactic| walk_at "d") => `(tactic| with_reducible first
  | refine xs_seq ?_ | refine xs_asg ?_ | refine xs_ret ?_ | refine xs_if ?_ | refine xs_drop ?_ | refine xs_next ?_ | refine xs_retN ?_
  | (refine' xe_varD ?va ?vk; (case va => with_unfolding_all rfl)) | (refine' xe_varM ?va ?vk; (case va => with_unfolding_all rfl)) | (refine' xe_varR ?va ?vk; (case va => with_unfolding_all rfl)) | refine xe_ci ?_ | refine xe_cs ?_ | refine xe_cb ?_ | refine xe_cn ?_
  | refine xe_op ?_ | refine xe_isi ?_ | refine xe_cB ?_ | refine xe_call ?_ | refine xe_callS ?_ | refine xa_cons ?_ | refine xa_nil ?_
  | refine xg_name ?_ | refine xe_andV ?_ | refine xe_orV ?_ | refine xe_notV ?_ | refine xe_chain ?_ | refine xe_if ?_
  | refine xt_test ?_ | refine xt_and ?_ | refine xt_or ?_ | refine xt_not ?_ | refine xt_yes ?_ | refine xt_truB (by assumption) ?_
  | refine xe_m1 ?_ | refine xe_bm ?_ | refine xe_sl ?_ | refine xo_no ?_ | refine xo_some ?_ | refine xe_tup ?_)

def toldT (t : List Nat) : D := if goodT t = true then encP (pairT t) else .non
section
variable {P : Program} {w : World} {K : PySem.W.Frag} {mg : Str → Option Value} {base : Heap} {g : G}
def sp_law_told : DSpec := fun ds M R _ => ∃ t, ds = [vS t] ∧ (t.length ≤ 600 ∧ okS t) ∧ R (.d (toldT t)) M
theorem noAl_ok : okS noAl := by
  have h : noAl.all (fun c => decide (c < 1114112)) = true := by decide +kernel
  rw [List.all_eq_true] at h
  exact fun c hc => of_decide_eq_true (h c hc)
abbrev s_law_told : Stmt := topS 26
abbrev n_law_told : List Str := ["text", "e"]
abbrev p_law_told : List Str := ["text"]
theorem sc_law_told : FnScope n_law_told p_law_told (defScope s_law_told) := ⟨rfl, rfl, rfl, by decide +kernel, rfl, by decide +kernel, by decide +kernel⟩
theorem ok_law_told {f : Addr} {fd : FuncData} {a_read_alignment : Addr} {fd_read_alignment : FuncData} (G_read_alignment : FnOk P w K mg base (L2.CX P w) 6 a_read_alignment fd_read_alignment p_read_alignment (SPd g sp_read_alignment)) (m_read_alignment : mg "read_alignment" = some (.ref a_read_alignment)) (k_read_alignment : PySem.W.keepIn K (.ref a_read_alignment) = true) (b_read_alignment : Binds K fd_read_alignment p_read_alignment []) (z_isinstance : mg "isinstance" = none) (z_ValueError : mg "ValueError" = none) {fI : Addr} {fdI : FuncData} (T : ErrC K mg g.C fI) (GI : FnOk P w K mg base CX0 1 fI fdI ["self", "reason"] (spInit g.C)) (bI : Binds K fdI ["self", "reason"] []) (hk : PySem.W.kitCls K (.ref g.C) (.type "ValueError") = some true) (F : Fun K "_law_told" "_law_told" s_law_told f fd) (gK : K = g.K) : FnOk P w K mg base CX0 8 f fd p_law_told (SPd g sp_law_told) := by
  refine okD (k := 7) F sc_law_told (fun ds M R X h => by first | (obtain ⟨rfl, _⟩ := h; rfl) | (obtain ⟨_, rfl, _⟩ := h; rfl) | (obtain ⟨_, _, rfl, _⟩ := h; rfl) | (obtain ⟨_, _, _, rfl, _⟩ := h; rfl) | (obtain ⟨_, _, _, _, rfl, _⟩ := h; rfl) | (obtain ⟨_, _, _, _, _, rfl, _⟩ := h; rfl)) (fun cdv A outer s H E hr hcd _ => ⟨_, (pss_cons (ps_try_as (i := 1) rfl rfl sc_law_told.nd rfl rfl ⟨rfl, by decide, .inl T.gC⟩ takes0 (fun W pn xe tk _ => (pss_one (ps_ret (pe_callS G_read_alignment (hr.mono (by decide)) (by rfl) m_read_alignment k_read_alignment b_read_alignment (fun σ => passAt tk σ) (pa_cons (pv 0) pa_nil))))) (fun a oe cls d pn hz hf => (pss_one (ps_if (PW.pt (pw_and (pt_cmpR (op_eqK (K := K) rfl hr.units) (pe_xf T.xf T.noR hz hf (pv 1)) pe_str (nomark _)) (pw_and1 (pt_truK (K := K) rfl (pe_isE (T := "ValueError") hz hf (by rfl) z_isinstance (by rfl) z_ValueError (by decide +kernel) (pv 1))))))
  (pss_one (ps_ret pe_non))
  pss_nil))))
  (pss_one (ps_ret pe_str))), ?_⟩)
  intro ds M R X h
  obtain ⟨t, rfl, hl, q⟩ := h
  unfold toldT at q
  refine xs_seq (xs_tryIs (K := K) (tb := fun W => tRet (tCallS (SPd g sp_read_alignment) (WE W) (tCons (tVar 0) tNil))) (i := 1) (y := "no alignment") (T := "ValueError") (Wout := fun _ _ _ _ => False) T.em hk (fun W => ?_))
  repeat walk_at "d"
  refine ⟨t, rfl, hl, fun h => ?_, fun h => ⟨(by show 1 < 2; omega), rfl, noAl_ok, ?_⟩⟩
  · rw [if_pos h] at q; exact q
  · rw [if_neg (by rw [h]; exact Bool.false_ne_true)] at q; exact q
def sp_law_changed : DSpec := fun ds M R _ => ∃ t, ds = [.m 0, vS t] ∧ (t.length ≤ 1000 ∧ okS t ∧ BX M) ∧ ∀ t' M', t'.length ≤ 2 * t.length + 1 → okS t' → BX M' → R (vS t') M'
theorem sl_ok {t : List Nat} (ho : okS t) (a b : Nat) : okS ((t.drop a).take b) ∧ ((t.drop a).take b).length ≤ t.length :=
  ⟨fun c hc => ho c (List.mem_of_mem_drop (List.mem_of_mem_take hc)), by simp; omega⟩
abbrev s_law_changed : Stmt := topS 27
abbrev n_law_changed : List Str := ["box", "text", "at", "sign", "kind"]
abbrev p_law_changed : List Str := ["box", "text"]
theorem sc_law_changed : FnScope n_law_changed p_law_changed (defScope s_law_changed) := ⟨rfl, rfl, rfl, by decide +kernel, rfl, by decide +kernel, by decide +kernel⟩
theorem ok_law_changed {f : Addr} {fd : FuncData} {a_law_draw : Addr} {fd_law_draw : FuncData} (G_law_draw : FnOk P w K mg base CX0 1 a_law_draw fd_law_draw p_law_draw (SPd g sp_law_draw)) (m_law_draw : mg "_law_draw" = some (.ref a_law_draw)) (k_law_draw : PySem.W.keepIn K (.ref a_law_draw) = true) (b_law_draw : Binds K fd_law_draw p_law_draw []) (z_int : mg "int" = none) (z_len : mg "len" = none) (F : Fun K "_law_changed" "_law_changed" s_law_changed f fd) (gK : K = g.K) : FnOk P w K mg base CX0 2 f fd p_law_changed (SPd g sp_law_changed) := by
  refine okD (k := 1) F sc_law_changed (fun ds M R X h => by first | (obtain ⟨rfl, _⟩ := h; rfl) | (obtain ⟨_, rfl, _⟩ := h; rfl) | (obtain ⟨_, _, rfl, _⟩ := h; rfl) | (obtain ⟨_, _, _, rfl, _⟩ := h; rfl) | (obtain ⟨_, _, _, _, rfl, _⟩ := h; rfl) | (obtain ⟨_, _, _, _, _, rfl, _⟩ := h; rfl)) (fun cdv A outer s H E hr hcd _ => ⟨_, (pss_cons (ps_set (i := 2) sc_law_changed.nd rfl (by first | exact Or.inl rfl | exact Or.inr rfl) (pe_op op_modU (pe_callTy call_intU (by rfl) z_int (by decide +kernel) (pa_cons (pe_call G_law_draw (hr.mono (by decide)) (by rfl) m_law_draw k_law_draw b_law_draw .nil pass0 (pa_cons (pv 0) (pa_cons pe_int pa_nil))) pa_nil)) (pe_op op_addU (pe_callB (call_lenK (K := K) rfl) (by rfl) z_len (by decide +kernel) (pa_cons (pv 1) pa_nil)) pe_int)))
  (pss_cons (ps_set (i := 3) sc_law_changed.nd rfl (by first | exact Or.inl rfl | exact Or.inr rfl) (pe_ix (ix_seqK (K := K) rfl) (pe_lst (pa_cons pe_str (pa_cons pe_str (pa_cons pe_str (pa_cons pe_str (pa_cons pe_str (pa_cons pe_str (pa_cons pe_str (pa_cons pe_str (pa_cons pe_str (pa_cons pe_str pa_nil))))))))))) (pe_call G_law_draw (hr.mono (by decide)) (by rfl) m_law_draw k_law_draw b_law_draw .nil pass0 (pa_cons (pv 0) (pa_cons pe_int pa_nil))) (fun _ _ => rfl)))
  (pss_cons (ps_set (i := 4) sc_law_changed.nd rfl (by first | exact Or.inl rfl | exact Or.inr rfl) (pe_call G_law_draw (hr.mono (by decide)) (by rfl) m_law_draw k_law_draw b_law_draw .nil pass0 (pa_cons (pv 0) (pa_cons pe_int pa_nil))))
  (pss_cons (ps_if (pt_cmpR (op_eqK (K := K) rfl hr.units) (pv 4) pe_int (nomark _))
  (pss_one (ps_ret (pe_op op_addU (pe_op op_addU (pe_slice sl_str (pv 1) po_none (po_some (pv 2))) (pv 3)) (pe_slice sl_str (pv 1) (po_some (pv 2)) po_none))))
  pss_nil)
  (pss_cons (ps_if (pt_cmpR (op_eqK (K := K) rfl hr.units) (pv 4) pe_int (nomark _))
  (pss_one (ps_ret (pe_op op_addU (pe_slice sl_str (pv 1) po_none (po_some (pv 2))) (pe_slice sl_str (pv 1) (po_some (pe_op op_addU (pv 2) pe_int)) po_none))))
  pss_nil)
  (pss_one (ps_ret (pe_op op_addU (pe_op op_addU (pe_slice sl_str (pv 1) po_none (po_some (pv 2))) (pv 3)) (pe_slice sl_str (pv 1) (po_some (pe_op op_addU (pv 2) pe_int)) po_none))))))))), ?_⟩)
  intro ds M R X h
  obtain ⟨t, rfl, ⟨hl, ho, hb⟩, q⟩ := h
  repeat walk_at "d"
  refine ⟨840, rfl, ⟨by omega, hb⟩, fun n1 M1 n10 n11 b1 => ?_⟩
  repeat walk_at "d"
  refine xn_intI ?_
  repeat walk_at "d"
  refine xn_lenS (by omega) ?_
  repeat walk_at "d"
  refine x2_addI ?_
  refine x2_mod (by omega) ?_
  generalize n1 % ((t.length : Int) + 1) = at_
  refine xg_name ?_
  repeat walk_at "d"
  refine xe_lstF ?_
  repeat walk_at "d"
  let sg : List Nat := [97, 98, 45, 124, 46, 32, 10, 65, 122, 99]
  refine ⟨sg.map fun c => D.str [c], by kernel_rfl, (by decide : 10 ≤ 100000), ?_⟩
  repeat walk_at "d"
  refine ⟨10, rfl, ⟨by omega, b1⟩, fun n2 M2 n20 n21 b2 => ?_⟩
  have hsg : ∀ i : Nat, i < 10 → ∃ c, (sg.map fun c => D.str [c])[i]? = some (.str [c]) ∧ c < 1114112 := fun i hi => by
    have h1 : i < sg.length := hi
    refine ⟨sg[i], by rw [List.getElem?_map, List.getElem?_eq_getElem h1]; rfl, ?_⟩
    have h2 : ∀ c ∈ sg, c < 1114112 := by decide
    exact h2 _ (List.getElem_mem h1)
  obtain ⟨n2, rfl⟩ := Int.eq_ofNat_of_zero_le n20
  obtain ⟨c, hc, c0⟩ := hsg n2 (by omega)
  refine x2_ixL gK (at_n hc) ?_
  refine xg_name ?_
  repeat walk_at "d"
  refine ⟨3, rfl, ⟨by omega, b2⟩, fun n3 M3 n30 n31 b3 => ?_⟩
  refine xg_name ?_
  repeat walk_at "d"
  refine x2_eq 1 rfl rfl ⟨_, rfl, ?_⟩
  have oc : okS [c] := fun d hd => by
    have : d = c := by simpa using hd
    rw [this]; exact c0
  refine ite2 (fun _ => ?_) (fun _ => ?_)
  · repeat walk_at "d"
    refine ⟨at_, rfl, ?_⟩
    refine sl_s (by omega) ?_
    obtain ⟨o1, l1⟩ := sl_ok ho (HT.sIx t.length 0 none) (HT.sIx t.length t.length (some at_) - HT.sIx t.length 0 none)
    generalize (t.drop (HT.sIx t.length 0 none)).take (HT.sIx t.length t.length (some at_) - HT.sIx t.length 0 none) = u1 at *
    repeat walk_at "d"
    refine x2_addS (by simp only [List.length_cons, List.length_nil]; omega) ?_
    repeat walk_at "d"
    refine ⟨at_, rfl, ?_⟩
    repeat walk_at "d"
    refine sl_s (by omega) ?_
    obtain ⟨o2, l2⟩ := sl_ok ho (HT.sIx t.length 0 (some at_)) (HT.sIx t.length t.length none - HT.sIx t.length 0 (some at_))
    generalize (t.drop (HT.sIx t.length 0 (some at_))).take (HT.sIx t.length t.length none - HT.sIx t.length 0 (some at_)) = u2 at *
    refine x2_addS (by simp only [List.length_cons, List.length_append, List.length_nil]; omega) ?_
    exact q _ _ (by simp only [List.length_cons, List.length_append, List.length_nil]; omega) (okS_app (okS_app o1 oc) o2) b3
  · repeat walk_at "d"
    refine x2_eq 1 rfl rfl ⟨_, rfl, ?_⟩
    refine ite2 (fun _ => ?_) (fun _ => ?_)
    · repeat walk_at "d"
      refine ⟨at_, rfl, ?_⟩
      refine sl_s (by omega) ?_
      obtain ⟨o1, l1⟩ := sl_ok ho (HT.sIx t.length 0 none) (HT.sIx t.length t.length (some at_) - HT.sIx t.length 0 none)
      generalize (t.drop (HT.sIx t.length 0 none)).take (HT.sIx t.length t.length (some at_) - HT.sIx t.length 0 none) = u1 at *
      repeat walk_at "d"
      refine x2_addI ⟨at_ + 1, rfl, ?_⟩
      repeat walk_at "d"
      refine sl_s (by omega) ?_
      obtain ⟨o2, l2⟩ := sl_ok ho (HT.sIx t.length 0 (some (at_ + 1))) (HT.sIx t.length t.length none - HT.sIx t.length 0 (some (at_ + 1)))
      generalize (t.drop (HT.sIx t.length 0 (some (at_ + 1)))).take (HT.sIx t.length t.length none - HT.sIx t.length 0 (some (at_ + 1))) = u2 at *
      refine x2_addS (by omega) ?_
      exact q _ _ (by simp only [List.length_append]; omega) (okS_app o1 o2) b3
    · repeat walk_at "d"
      refine ⟨at_, rfl, ?_⟩
      refine sl_s (by omega) ?_
      obtain ⟨o1, l1⟩ := sl_ok ho (HT.sIx t.length 0 none) (HT.sIx t.length t.length (some at_) - HT.sIx t.length 0 none)
      generalize (t.drop (HT.sIx t.length 0 none)).take (HT.sIx t.length t.length (some at_) - HT.sIx t.length 0 none) = u1 at *
      repeat walk_at "d"
      refine x2_addS (by simp only [List.length_cons, List.length_nil]; omega) ?_
      repeat walk_at "d"
      refine x2_addI ⟨at_ + 1, rfl, ?_⟩
      repeat walk_at "d"
      refine sl_s (by omega) ?_
      obtain ⟨o2, l2⟩ := sl_ok ho (HT.sIx t.length 0 (some (at_ + 1))) (HT.sIx t.length t.length none - HT.sIx t.length 0 (some (at_ + 1)))
      generalize (t.drop (HT.sIx t.length 0 (some (at_ + 1)))).take (HT.sIx t.length t.length none - HT.sIx t.length 0 (some (at_ + 1))) = u2 at *
      refine x2_addS (by simp only [List.length_cons, List.length_append, List.length_nil]; omega) ?_
      exact q _ _ (by simp only [List.length_cons, List.length_append, List.length_nil]; omega) (okS_app (okS_app o1 oc) o2) b3
end
end K02
set_option maxRecDepth 100000
set_option maxHeartbeats 4000000
namespace K02
open PySem PySem.Spec PyProof.Rows L2 DL
local macro_rules | `(tactic| walk_at "d") => `(tactic| with_reducible first
  | refine xs_seq ?_ | refine xs_asg ?_ | refine xs_ret ?_ | refine xs_if ?_ | refine xs_drop ?_ | refine xs_next ?_ | refine xs_retN ?_
  | (refine' xe_varD ?va ?vk; (case va => with_unfolding_all rfl)) | (refine' xe_varM ?va ?vk; (case va => with_unfolding_all rfl)) | (refine' xe_varR ?va ?vk; (case va => with_unfolding_all rfl)) | refine xe_ci ?_ | refine xe_cs ?_ | refine xe_cb ?_ | refine xe_cn ?_
  | refine xe_op ?_ | refine xe_isi ?_ | refine xe_cB ?_ | refine xe_call ?_ | refine xe_callS ?_ | refine xa_cons ?_ | refine xa_nil ?_
  | refine xg_name ?_ | refine xe_andV ?_ | refine xe_orV ?_ | refine xe_notV ?_ | refine xe_chain ?_ | refine xe_if ?_
  | refine xt_test ?_ | refine xt_and ?_ | refine xt_or ?_ | refine xt_not ?_ | refine xt_yes ?_ | refine xt_truB (by assumption) ?_
  | refine xe_m1 ?_ | refine xe_bm ?_ | refine xe_sl ?_ | refine xo_no ?_ | refine xo_some ?_ | refine xe_tup ?_)

theorem gap_cons (a b : Nat) (p : List Nat × List Nat) : noGap (a :: p.1) (b :: p.2) = ((a != 45 || b != 45) && noGap p.1 p.2) := rfl
theorem ne45 {a : Nat} (h : a ≠ 45) : (a != 45) = true := bne_iff_ne.mpr h
theorem allP_gap : ∀ (n : Nat) (x y : List Nat), x.length + y.length ≤ n → NoD x → NoD y → ∀ p ∈ allP x y, noGap p.1 p.2 = true ∧ p.1.length = p.2.length
  | n, [], [], _, _, _, p, hp => by
    rw [allP] at hp
    have : p = ([], []) := by simpa using hp
    rw [this]; exact ⟨rfl, rfl⟩
  | n + 1, a :: x, [], h, hx, hy, p, hp => by
    rw [allP] at hp
    obtain ⟨q, hq, rfl⟩ := List.mem_map.mp hp
    obtain ⟨e1, e2⟩ := allP_gap n x [] (by simp at h ⊢; omega) hx.tl hy q hq
    exact ⟨by rw [gap_cons, ne45 hx.hd, e1]; rfl, by simp; omega⟩
  | n + 1, [], b :: y, h, hx, hy, p, hp => by
    rw [allP] at hp
    obtain ⟨q, hq, rfl⟩ := List.mem_map.mp hp
    obtain ⟨e1, e2⟩ := allP_gap n [] y (by simp at h ⊢; omega) hx hy.tl q hq
    exact ⟨by rw [gap_cons, ne45 hy.hd, e1]; rfl, by simp; omega⟩
  | n + 1, a :: x, b :: y, h, hx, hy, p, hp => by
    rw [allP] at hp
    rcases List.mem_append.mp hp with hp | hp
    · rcases List.mem_append.mp hp with hp | hp
      · obtain ⟨q, hq, rfl⟩ := List.mem_map.mp hp
        obtain ⟨e1, e2⟩ := allP_gap n x y (by simp at h ⊢; omega) hx.tl hy.tl q hq
        exact ⟨by rw [gap_cons, ne45 hx.hd, e1]; rfl, by simp; omega⟩
      · obtain ⟨q, hq, rfl⟩ := List.mem_map.mp hp
        obtain ⟨e1, e2⟩ := allP_gap n x (b :: y) (by simp at h ⊢; omega) hx.tl hy q hq
        exact ⟨by rw [gap_cons, ne45 hx.hd, e1]; rfl, by simp; omega⟩
    · obtain ⟨q, hq, rfl⟩ := List.mem_map.mp hp
      obtain ⟨e1, e2⟩ := allP_gap n (a :: x) y (by simp at h ⊢; omega) hx hy.tl q hq
      exact ⟨by rw [gap_cons, ne45 hy.hd, e1]; rfl, by simp; omega⟩
  | 0, a :: x, _, h, _, _, _, _ => by simp at h
  | 0, [], b :: y, h, _, _, _, _ => by simp at h
theorem text_law {p : List Nat × List Nat} (h : noGap p.1 p.2 = true) : textN p = lawT p := by
  have e : marksN p = lmsN p := by
    unfold marksN lmsN
    refine List.map_congr_left fun q hq => ?_
    have hg := List.all_eq_true.mp h q hq
    have hg : (q.1 != 45 || q.2 != 45) = true := hg
    unfold markN lmN kindN
    by_cases h2 : q.2 = 45
    · rw [if_pos h2]
      have h1 : q.1 ≠ 45 := by
        rw [h2] at hg
        simpa using hg
      rw [if_neg (by decide), if_neg (by omega), if_pos (.inr h2)]
    · rw [if_neg h2]
      by_cases h1 : q.1 = 45
      · rw [if_pos h1, if_neg (by decide), if_neg (by omega), if_pos (.inl h1)]
      · rw [if_neg h1, if_pos rfl]
        by_cases h3 : q.1 = q.2
        · rw [if_pos h3, if_pos h3]
        · rw [if_neg h3, if_neg h3, if_neg (fun z => z.elim h1 h2)]
  unfold textN lawT
  rw [e]
def NoN (x : List Nat) : Prop := ∀ c ∈ x, c ≠ 10
theorem lns_ten (r : List Nat) : lns (10 :: r) = [] :: lns r := by
  rw [lns, if_pos rfl]
theorem lns_non {c : Nat} (h : c ≠ 10) (r : List Nat) : lns (c :: r) = match lns r with | h :: t => (c :: h) :: t | [] => [[c]] := by
  rw [lns, if_neg h]
  all_goals (cases lns r <;> rfl)
theorem ok_ten2 : okS [10, 10] := fun c hc => by
  have : c = 10 := by simpa using hc
  omega
theorem lns_app : ∀ {a : List Nat} (r : List Nat), NoN a → lns (a ++ 10 :: r) = a :: lns r
  | [], r, _ => by show lns (10 :: r) = _; rw [lns_ten]
  | c :: a, r, h => by
    have ih := lns_app (a := a) r fun d hd => h d (List.mem_cons_of_mem _ hd)
    show lns (c :: (a ++ 10 :: r)) = _
    rw [lns_non (h c (List.mem_cons_self ..)), ih]
theorem lns_one : ∀ {a : List Nat}, NoN a → lns a = [a]
  | [], _ => rfl
  | c :: a, h => by
    have ih := lns_one (a := a) fun d hd => h d (List.mem_cons_of_mem _ hd)
    rw [lns_non (h c (List.mem_cons_self ..)), ih]
theorem marks_no (p : List Nat × List Nat) : NoN (marksN p) := fun c hc => by
  obtain ⟨z, _, rfl⟩ := List.mem_map.mp hc
  show markN z.1 z.2 ≠ 10
  unfold markN
  split
  · split <;> decide
  · decide
theorem lns_text {p : List Nat × List Nat} (h1 : NoN p.1) (h2 : NoN p.2) : lns (textN p) = [p.1, marksN p, p.2] := by
  unfold textN
  rw [lns_app _ h1, lns_app _ (marks_no p), lns_one h2]
theorem isAl_enc (p : List Nat × List Nat) : isAl (encP p) = (isSeq (.str (nod p.1)) && (isSeq (.str (nod p.2)) && (decide (p.1.length = p.2.length) && noGap p.1 p.2))) := rfl
theorem pair_no (t : List Nat) : NoN (pairT t).1 ∧ NoN (pairT t).2 := by
  obtain ⟨r1, e1⟩ := lns_hd t
  obtain ⟨r2, e2⟩ := lns_lst t
  have m1 := lns_mem t (pairT t).1 (by rw [e1]; exact List.mem_cons_self ..)
  have m2 := lns_mem t (pairT t).2 (by rw [e2]; simp)
  exact ⟨fun c hc => (m1.2 c hc).2, fun c hc => (m2.2 c hc).2⟩
theorem told_due (t : List Nat) : toldT t = dueT t := by
  unfold toldT
  cases hg : goodT t with
  | true =>
    rw [if_pos rfl]
    unfold goodT at hg
    rw [Bool.and_eq_true, decide_eq_true_eq] at hg
    obtain ⟨ha, ht⟩ := hg
    obtain ⟨n1, n2⟩ := pair_no t
    have hl := lns_text n1 n2
    rw [ht] at hl
    rw [isAl_enc] at ha
    simp only [Bool.and_eq_true] at ha
    obtain ⟨a1, a2, a3, a4⟩ := ha
    unfold dueT
    rw [hl]
    have hb : dueB ((pairT t).1, (pairT t).2) t = true := by
      unfold dueB
      rw [a3, a1, a2, a4, ← text_law (p := pairT t) a4, ht]; simp
    simp only [hb, if_true]
  | false =>
    rw [if_neg Bool.false_ne_true]
    unfold dueT
    match hL : lns t with
    | [] => rfl
    | [_] => rfl
    | [_, _] => rfl
    | _ :: _ :: _ :: _ :: _ => rfl
    | [a, m, b] =>
      have hp : pairT t = (a, b) := by unfold pairT; rw [hL]; rfl
      have hb : dueB (a, b) t = false := by
        cases hb : dueB (a, b) t with
        | false => rfl
        | true =>
          unfold dueB at hb
          simp only [Bool.and_eq_true] at hb
          obtain ⟨a1, a2, a3, a4, a5⟩ := hb
          have hg2 : goodT t = true := by
            unfold goodT
            rw [hp, isAl_enc, a1, a2, a3, a4, text_law (p := (a, b)) a4, a5]; rfl
          rw [hg] at hg2; cases hg2
      simp only [hb]; rfl
theorem all_no {x p : List Nat} (h : nod p = x) (hw : wordy x) : NoN p := fun c hc e => by
  subst e
  have : 10 ∈ nod p := List.mem_filter.mpr ⟨hc, by decide⟩
  rw [h] at this
  have := hw 10 this
  omega
theorem seq_word {x : List Nat} (h : x.length ≤ 6) (hw : wordy x) : isSeq (.str x) = true := by
  show (decide (x.length ≤ 6) && x.all isL) = true
  rw [decide_eq_true h, Bool.true_and, List.all_eq_true]
  intro c hc
  have := hw c hc
  unfold isL
  rw [decide_eq_true (by omega), decide_eq_true (by omega)]; rfl
theorem told_text {p : List Nat × List Nat} {x y : List Nat} (hx : x.length ≤ 6) (hy : y.length ≤ 6) (wx : wordy x) (wy : wordy y) (e1 : nod p.1 = x) (e2 : nod p.2 = y) (hg : noGap p.1 p.2 = true) (hl : p.1.length = p.2.length) : toldT (lawT p) = encP p := by
  rw [← text_law hg]
  have h := lns_text (all_no e1 wx) (all_no e2 wy)
  have hp : pairT (textN p) = p := by unfold pairT; rw [h]; rfl
  have hgood : goodT (textN p) = true := by
    unfold goodT
    rw [hp, isAl_enc, e1, e2, seq_word hx wx, seq_word hy wy, decide_eq_true hl, hg, decide_eq_true rfl]; rfl
  unfold toldT
  rw [if_pos hgood, hp]
theorem told_nn : toldT [10, 10] = encP ([], []) := by
  have h : lns [10, 10] = [[], [], []] := by decide +kernel
  have hp : pairT [10, 10] = ([], []) := by unfold pairT; rw [h]; rfl
  have hg : goodT [10, 10] = true := by unfold goodT; rw [hp]; decide +kernel
  unfold toldT
  rw [if_pos hg, hp]
theorem told_ok {t : List Nat} (hl : t.length ≤ 600) (ho : okS t) : D.ok 2 (toldT t) = true := by
  unfold toldT
  obtain ⟨_, o1, o2⟩ := pair_ok hl ho
  split
  · exact okP_ok o1 o2
  · rfl
section
variable {P : Program} {w : World} {K : PySem.W.Frag} {mg : Str → Option Value} {base : Heap} {g : G}
def sp_law : DSpec := fun ds M R _ => ∃ ns, ds = [.ro ns] ∧ M = [] ∧ R (.d (.bl true)) []
abbrev s_law : Stmt := topS 28
abbrev n_law : List Str := ["script", "box", "turn", "every", "alignment", "text", "change"]
abbrev p_law : List Str := ["script"]
theorem sc_law : FnScope n_law p_law (defScope s_law) := ⟨rfl, rfl, rfl, by decide +kernel, rfl, by decide +kernel, by decide +kernel⟩
theorem ok_law {f : Addr} {fd : FuncData} {a_law_told : Addr} {fd_law_told : FuncData} (G_law_told : FnOk P w K mg base CX0 8 a_law_told fd_law_told p_law_told (SPd g sp_law_told)) (m_law_told : mg "_law_told" = some (.ref a_law_told)) (k_law_told : PySem.W.keepIn K (.ref a_law_told) = true) (b_law_told : Binds K fd_law_told p_law_told []) {a_law_due : Addr} {fd_law_due : FuncData} (G_law_due : FnOk P w K mg base CX0 4 a_law_due fd_law_due p_law_due (SPd g sp_law_due)) (m_law_due : mg "_law_due" = some (.ref a_law_due)) (k_law_due : PySem.W.keepIn K (.ref a_law_due) = true) (b_law_due : Binds K fd_law_due p_law_due []) {a_law_changed : Addr} {fd_law_changed : FuncData} (G_law_changed : FnOk P w K mg base CX0 2 a_law_changed fd_law_changed p_law_changed (SPd g sp_law_changed)) (m_law_changed : mg "_law_changed" = some (.ref a_law_changed)) (k_law_changed : PySem.W.keepIn K (.ref a_law_changed) = true) (b_law_changed : Binds K fd_law_changed p_law_changed []) {a_text_of : Addr} {fd_text_of : FuncData} (G_text_of : FnOk P w K mg base CX0 3 a_text_of fd_text_of p_text_of (SPd g sp_text_of)) (m_text_of : mg "text_of" = some (.ref a_text_of)) (k_text_of : PySem.W.keepIn K (.ref a_text_of) = true) (b_text_of : Binds K fd_text_of p_text_of []) {a_law_text : Addr} {fd_law_text : FuncData} (G_law_text : FnOk P w K mg base CX0 1 a_law_text fd_law_text p_law_text (SPd g sp_law_text)) (m_law_text : mg "_law_text" = some (.ref a_law_text)) (k_law_text : PySem.W.keepIn K (.ref a_law_text) = true) (b_law_text : Binds K fd_law_text p_law_text []) {a_law_draw : Addr} {fd_law_draw : FuncData} (G_law_draw : FnOk P w K mg base CX0 1 a_law_draw fd_law_draw p_law_draw (SPd g sp_law_draw)) (m_law_draw : mg "_law_draw" = some (.ref a_law_draw)) (k_law_draw : PySem.W.keepIn K (.ref a_law_draw) = true) (b_law_draw : Binds K fd_law_draw p_law_draw []) {a_law_all : Addr} {fd_law_all : FuncData} (G_law_all : FnOk P w K mg base CX0 11 a_law_all fd_law_all p_law_all (SPd g sp_law_all)) (m_law_all : mg "_law_all" = some (.ref a_law_all)) (k_law_all : PySem.W.keepIn K (.ref a_law_all) = true) (b_law_all : Binds K fd_law_all p_law_all []) {a_law_word : Addr} {fd_law_word : FuncData} (G_law_word : FnOk P w K mg base CX0 2 a_law_word fd_law_word p_law_word (SPd g sp_law_word)) (m_law_word : mg "_law_word" = some (.ref a_law_word)) (k_law_word : PySem.W.keepIn K (.ref a_law_word) = true) (b_law_word : Binds K fd_law_word p_law_word []) {a_law_row : Addr} {fd_law_row : FuncData} (G_law_row : FnOk P w K mg base CX0 2 a_law_row fd_law_row p_law_row (SPd g sp_law_row)) (m_law_row : mg "_law_row" = some (.ref a_law_row)) (k_law_row : PySem.W.keepIn K (.ref a_law_row) = true) (b_law_row : Binds K fd_law_row p_law_row []) (z_range : mg "range" = none) (z_int : mg "int" = none) (z_len : mg "len" = none) (F : Fun K "law" "law" s_law f fd) (gK : K = g.K) : FnOk P w K mg base CX0 30 f fd p_law (SPd g sp_law) := by
  refine okDG (k := 29) F sc_law (fun ds M R X h => by first | (obtain ⟨rfl, _⟩ := h; rfl) | (obtain ⟨_, rfl, _⟩ := h; rfl) | (obtain ⟨_, _, rfl, _⟩ := h; rfl) | (obtain ⟨_, _, _, rfl, _⟩ := h; rfl) | (obtain ⟨_, _, _, _, rfl, _⟩ := h; rfl) | (obtain ⟨_, _, _, _, _, rfl, _⟩ := h; rfl)) (fun cdv A outer s H E hr => ⟨_, (pss_cons (ps_set (i := 1) sc_law.nd rfl (by first | exact Or.inl rfl | exact Or.inr rfl) (pe_lst (pa_cons (pe_call G_law_row (hr.mono (by decide)) (by rfl) m_law_row k_law_row b_law_row .nil pass0 (pa_cons (pv 0) (pa_cons pe_int (pa_cons pe_int pa_nil)))) (pa_cons pe_int pa_nil))))
  (pss_cons (ps_for PassesOwn.never rfl (pi_range1 (by rfl) z_range (pa_cons pe_int pa_nil)) (pg_name (i := 2) sc_law.nd rfl (by first | exact Or.inl rfl | exact Or.inr rfl))
  (pss_cons (ps_set (i := 3) sc_law.nd rfl (by first | exact Or.inl rfl | exact Or.inr rfl) (pe_call G_law_all (hr.mono (by decide)) (by rfl) m_law_all k_law_all b_law_all .nil pass0 (pa_cons (pe_call G_law_word (hr.mono (by decide)) (by rfl) m_law_word k_law_word b_law_word .nil pass0 (pa_cons (pv 1) (pa_cons pe_int pa_nil))) (pa_cons (pe_call G_law_word (hr.mono (by decide)) (by rfl) m_law_word k_law_word b_law_word .nil pass0 (pa_cons (pv 1) (pa_cons pe_int pa_nil))) pa_nil))))
  (pss_cons (ps_set (i := 4) sc_law.nd rfl (by first | exact Or.inl rfl | exact Or.inr rfl) (pe_ix (ix_seqK (K := K) rfl) (pv 3) (pe_op op_modU (pe_callTy call_intU (by rfl) z_int (by decide +kernel) (pa_cons (pe_call G_law_draw (hr.mono (by decide)) (by rfl) m_law_draw k_law_draw b_law_draw .nil pass0 (pa_cons (pv 1) (pa_cons pe_int pa_nil))) pa_nil)) (pe_callB (call_lenK (K := K) rfl) (by rfl) z_len (by decide +kernel) (pa_cons (pv 3) pa_nil))) (fun _ _ => rfl)))
  (pss_cons (ps_set (i := 5) sc_law.nd rfl (by first | exact Or.inl rfl | exact Or.inr rfl) (pe_call G_law_text (hr.mono (by decide)) (by rfl) m_law_text k_law_text b_law_text .nil pass0 (pa_cons (pv 4) pa_nil)))
  (pss_cons (ps_if (PW.pt (pw_or (pt_cmpR (op_neK (K := K) rfl hr.units) (pe_call G_text_of (hr.mono (by decide)) (by rfl) m_text_of k_text_of b_text_of .nil pass0 (pa_cons (pv 4) pa_nil)) (pv 5) (nomark _)) (pw_or1 (pt_cmpR (op_neK (K := K) rfl hr.units) (pe_call G_law_told (hr.mono (by decide)) (by rfl) m_law_told k_law_told b_law_told .nil pass0 (pa_cons (pv 5) pa_nil)) (pv 4) (nomark _)))))
  (pss_one (ps_ret pe_bl))
  pss_nil)
  (pss_one (ps_for PassesOwn.never rfl (pi_range1 (by rfl) z_range (pa_cons pe_int pa_nil)) (pg_name (i := 6) sc_law.nd rfl (by first | exact Or.inl rfl | exact Or.inr rfl))
  (pss_cons (ps_set (i := 5) sc_law.nd rfl (by first | exact Or.inl rfl | exact Or.inr rfl) (pe_call G_law_changed (hr.mono (by decide)) (by rfl) m_law_changed k_law_changed b_law_changed .nil pass0 (pa_cons (pv 1) (pa_cons (pv 5) pa_nil))))
  (pss_one (ps_if (pt_cmpR (op_neK (K := K) rfl hr.units) (pe_call G_law_told (hr.mono (by decide)) (by rfl) m_law_told k_law_told b_law_told .nil pass0 (pa_cons (pv 5) pa_nil)) (pe_call G_law_due (hr.mono (by decide)) (by rfl) m_law_due k_law_due b_law_due .nil pass0 (pa_cons (pv 5) pa_nil)) (nomark _))
  (pss_one (ps_ret pe_bl))
  pss_nil))))))))))
  (pss_one (ps_ret (pe_cmpR (op_eqK (K := K) rfl hr.units) (pe_call G_law_told (hr.mono (by decide)) (by rfl) m_law_told k_law_told b_law_told .nil pass0 (pa_cons pe_str pa_nil)) (pe_tup (pa_cons pe_str (pa_cons pe_str pa_nil))) (nomark _)))))), ?_⟩)
  intro ds M R X hc h
  obtain ⟨ns, rfl, rfl, q⟩ := h
  have fin : ∀ M2, Gb [] R (.d (.bl true)) M2 := fun M2 => ⟨[], M2, rfl, rfl, trivial, hc, q⟩
  refine xs_seq (xs_asg ?_)
  refine xe_lstM ?_
  repeat walk_at "d"
  refine ⟨ns, 0, 40, rfl, ⟨by omega, by omega, by omega, by omega⟩, fun row => ?_⟩
  repeat walk_at "d"
  refine ⟨(by decide : 2 ≤ 100000), ?_⟩
  refine xg_name ?_
  refine xs_mid (fun Γ' M' => True) ?_ fun Γ' M' hI => ?_
  · refine xs_for (xi_rng1 ?_)
    repeat walk_at "d"
    refine ⟨6, rfl, by omega, by omega, fun l Γ' M' => ∃ y2 y3 y4 y5 y6, Γ' = [.ro ns, .m 0, y2, y3, y4, y5, y6] ∧ BX M', ⟨_, _, _, _, _, rfl, row, 0, rfl, by omega⟩, fun v r Γ' M' hI => ?_, fun Γ' M' hI => trivial⟩
    obtain ⟨y2, y3, y4, y5, y6, rfl, b0⟩ := hI
    repeat walk_at "d"
    refine ⟨4, rfl, ⟨by omega, by omega, b0⟩, fun x M1 lx wx b1 => ?_⟩
    repeat walk_at "d"
    refine ⟨5, rfl, ⟨by omega, by omega, b1⟩, fun y M2 ly wy b2 => ?_⟩
    repeat walk_at "d"
    refine ⟨x, y, rfl, ⟨by omega, by omega, wordy_ok wx, wordy_ok wy⟩, ?_⟩
    have hn : x.length + y.length ≤ 9 := by omega
    have nx := wordy_no wx
    have ny := wordy_no wy
    have hpos := allP_pos x y
    have hnod := allP_nod 9 x y hn nx ny
    have hgap := allP_gap 9 x y hn nx ny
    have hrow := allP_row 9 x y hn
    have hoks := allP_okS 9 x y hn (wordy_ok wx) (wordy_ok wy)
    generalize allP x y = ev at *
    refine xg_name ?_
    repeat walk_at "d"
    refine ⟨840, rfl, ⟨by omega, b2⟩, fun n1 M3 n10 n11 b3 => ?_⟩
    repeat walk_at "d"
    refine xn_intI ?_
    repeat walk_at "d"
    refine xn_lenL ?_
    rw [List.length_map]
    refine x2_mod (by omega) ?_
    have i0 := Int.emod_nonneg n1 (show (ev.length : Int) ≠ 0 by omega)
    have i1 := Int.emod_lt_of_pos n1 (show (0 : Int) < ev.length by omega)
    generalize n1 % (ev.length : Int) = i at i0 i1
    obtain ⟨i, rfl⟩ := Int.eq_ofNat_of_zero_le i0
    have hi : i < ev.length := by omega
    refine x2_ixL gK (d := encP ev[i]) (at_n (by rw [List.getElem?_map, List.getElem?_eq_getElem hi]; rfl)) ?_
    have mi := List.getElem_mem hi
    obtain ⟨e1, e2⟩ := hnod _ mi
    obtain ⟨g1, g2⟩ := hgap _ mi
    obtain ⟨r1, r2⟩ := hrow _ mi
    obtain ⟨o1, o2⟩ := hoks _ mi
    generalize ev[i] = p at *
    have kp : okP p := ⟨⟨by omega, by omega⟩, o1, o2⟩
    refine xg_name ?_
    repeat walk_at "d"
    refine ⟨p, rfl, ⟨kp, g2⟩, ?_⟩
    refine xg_name ?_
    have lt : (lawT p).length ≤ 29 := by
      unfold lawT lmsN
      simp only [List.length_append, List.length_cons, List.length_map, List.length_zip]
      omega
    have ot : okS (lawT p) := lawT_okS o1 o2
    have htl := told_text (by omega) (by omega) wx wy e1 e2 g1 g2
    have htx := text_law g1
    generalize lawT p = t at *
    repeat walk_at "d"
    refine ⟨p, rfl, kp, ?_⟩
    repeat walk_at "d"
    rw [htx]
    refine x2_ne 1 (okS_ok ot) (okS_ok ot) ⟨_, rfl, ?_⟩
    have bt : D.beq (.str t) (.str t) = true := by rw [beq_str]; exact beq_self_eq_true _
    rw [bt]
    refine iteF ?_
    repeat walk_at "d"
    refine ⟨t, rfl, ⟨by omega, ot⟩, ?_⟩
    rw [htl]
    have okp : D.ok 2 (encP p) = true := okP_ok o1 o2
    repeat walk_at "d"
    refine x2_ne 2 okp okp ⟨_, rfl, ?_⟩
    have bp : D.beq (encP p) (encP p) = true := beq_refl okp
    rw [bp]
    refine iteF (xs_next ?_)
    refine xs_for (xi_rng1 ?_)
    repeat walk_at "d"
    refine ⟨4, rfl, by omega, by omega, fun l Γ' M' => ∃ y2 y3 y4 y6 t k, Γ' = [.ro ns, .m 0, y2, y3, y4, vS t, y6] ∧ BX M' ∧ okS t ∧ k + l.length = 4 ∧ t.length + 1 ≤ 30 * 2 ^ k, ⟨_, _, _, _, t, 0, rfl, b3, ot, by rw [rng_len]; rfl, by omega⟩, fun v2 r2 Γ' M' hI => ?_, fun Γ' M' hI => ?_⟩
    · obtain ⟨y2, y3, y4, y6, t, k, rfl, b0, ot, hk, hlt⟩ := hI
      rw [List.length_cons] at hk
      have h2k : 2 ^ k ≤ 2 ^ 3 := Nat.pow_le_pow_right (by decide) (by omega)
      repeat walk_at "d"
      refine ⟨t, rfl, ⟨by omega, ot, b0⟩, fun t2 M4 l2 o2 b4 => ?_⟩
      refine xg_name ?_
      repeat walk_at "d"
      refine ⟨t2, rfl, ⟨by omega, o2⟩, ?_⟩
      repeat walk_at "d"
      refine ⟨t2, rfl, ⟨by omega, o2⟩, ?_⟩
      have okt := told_ok (t := t2) (by omega) o2
      rw [← told_due]
      refine x2_ne 2 okt okt ⟨_, rfl, ?_⟩
      rw [beq_refl okt]
      refine iteF (xs_next ?_)
      exact ⟨_, _, _, _, t2, k + 1, rfl, b4, o2, by omega, by rw [Nat.pow_succ]; omega⟩
    · obtain ⟨y2, y3, y4, y6, t, k, rfl, b0, ot, hk, hlt⟩ := hI
      exact ⟨_, _, _, _, _, rfl, b0⟩
  have nn : ("\n\n" : Str).cps.toList = [10, 10] := by decide +kernel
  repeat walk_at "d"
  rw [nn]
  refine ⟨_, rfl, ⟨by decide, ok_ten2⟩, ?_⟩
  rw [told_nn]
  repeat walk_at "d"
  rw [nilS]
  refine ⟨[.str [], .str []], rfl, (by decide : 2 ≤ 100000), ?_⟩
  refine x2_eq 2 rfl rfl ?_
  exact fin _
end
end K02
set_option maxRecDepth 100000
set_option maxHeartbeats 4000000
namespace K02
open PySem PySem.Spec PyProof.Rows L2 DL 

theorem all_mk {l : PySem.W.OpenLaw} {w : World} {K : PySem.W.Frag} {h : Heap} {mg : Str → Option Value} {fa : Addr} {q : Program} (X : K.In h) (HG : h.Ns mainGlobals mg) (hfa : mg "law" = some (.ref fa)) (TQ : TabsAt q K h)
    {A_has_only_letters : Addr} {od_has_only_letters an_has_only_letters : Option Addr} {sl_has_only_letters : Array (Option Value)} {oc_has_only_letters kV_has_only_letters dc_has_only_letters pm_has_only_letters ct_has_only_letters : Value} {c_has_only_letters P_has_only_letters : Addr} {d_has_only_letters : DefRec}
    (a_has_only_letters : PySem.W.nsIn K mainGlobals "has_only_letters" = some (some (.ref A_has_only_letters)))
    (l_has_only_letters : K.lookup A_has_only_letters = some ⟨oc_has_only_letters, od_has_only_letters, .func (PySem.W.fnOf "has_only_letters" "has_only_letters" (defArgs s_has_only_letters) (defBody s_has_only_letters) (defScope s_has_only_letters) .none kV_has_only_letters dc_has_only_letters pm_has_only_letters an_has_only_letters (.ref c_has_only_letters) ct_has_only_letters), sl_has_only_letters⟩)
    (c_has_only_letters0 : PySem.W.codeIn K (.ref c_has_only_letters) "has_only_letters" = true)
    (k_has_only_letters : PySem.W.keepIn K (.ref A_has_only_letters) = true)
    {ec_has_only_letters : Value} {ed_has_only_letters : Option Addr} {ev_has_only_letters : Array Value} {es_has_only_letters : Array (Option Value)}
    (lc_has_only_letters : K.lookup c_has_only_letters = some ⟨ec_has_only_letters, ed_has_only_letters, .fields ev_has_only_letters, es_has_only_letters⟩)
    (pp_has_only_letters : ev_has_only_letters[11]? = some (.ref P_has_only_letters))
    (np_has_only_letters : K.lookup P_has_only_letters = none)
    (hr_has_only_letters : (recsOf q).find? (fun e => e.name == ("has_only_letters" : Str)) = some d_has_only_letters)
    {A_is_sequence : Addr} {od_is_sequence an_is_sequence : Option Addr} {sl_is_sequence : Array (Option Value)} {oc_is_sequence kV_is_sequence dc_is_sequence pm_is_sequence ct_is_sequence : Value} {cd_is_sequence : Value}
    (a_is_sequence : PySem.W.nsIn K mainGlobals "is_sequence" = some (some (.ref A_is_sequence)))
    (l_is_sequence : K.lookup A_is_sequence = some ⟨oc_is_sequence, od_is_sequence, .func (PySem.W.fnOf "is_sequence" "is_sequence" (defArgs s_is_sequence) (defBody s_is_sequence) (defScope s_is_sequence) .none kV_is_sequence dc_is_sequence pm_is_sequence an_is_sequence cd_is_sequence ct_is_sequence), sl_is_sequence⟩)
    (c_is_sequence0 : PySem.W.codeIn K cd_is_sequence "is_sequence" = true)
    (k_is_sequence : PySem.W.keepIn K (.ref A_is_sequence) = true)
    {A_without_dashes : Addr} {od_without_dashes an_without_dashes : Option Addr} {sl_without_dashes : Array (Option Value)} {oc_without_dashes kV_without_dashes dc_without_dashes pm_without_dashes ct_without_dashes : Value} {cd_without_dashes : Value}
    (a_without_dashes : PySem.W.nsIn K mainGlobals "without_dashes" = some (some (.ref A_without_dashes)))
    (l_without_dashes : K.lookup A_without_dashes = some ⟨oc_without_dashes, od_without_dashes, .func (PySem.W.fnOf "without_dashes" "without_dashes" (defArgs s_without_dashes) (defBody s_without_dashes) (defScope s_without_dashes) .none kV_without_dashes dc_without_dashes pm_without_dashes an_without_dashes cd_without_dashes ct_without_dashes), sl_without_dashes⟩)
    (c_without_dashes0 : PySem.W.codeIn K cd_without_dashes "without_dashes" = true)
    (k_without_dashes : PySem.W.keepIn K (.ref A_without_dashes) = true)
    {A_is_row : Addr} {od_is_row an_is_row : Option Addr} {sl_is_row : Array (Option Value)} {oc_is_row kV_is_row dc_is_row pm_is_row ct_is_row : Value} {cd_is_row : Value}
    (a_is_row : PySem.W.nsIn K mainGlobals "is_row" = some (some (.ref A_is_row)))
    (l_is_row : K.lookup A_is_row = some ⟨oc_is_row, od_is_row, .func (PySem.W.fnOf "is_row" "is_row" (defArgs s_is_row) (defBody s_is_row) (defScope s_is_row) .none kV_is_row dc_is_row pm_is_row an_is_row cd_is_row ct_is_row), sl_is_row⟩)
    (c_is_row0 : PySem.W.codeIn K cd_is_row "is_row" = true)
    (k_is_row : PySem.W.keepIn K (.ref A_is_row) = true)
    {A_is_alignment : Addr} {od_is_alignment an_is_alignment : Option Addr} {sl_is_alignment : Array (Option Value)} {oc_is_alignment kV_is_alignment dc_is_alignment pm_is_alignment ct_is_alignment : Value} {cd_is_alignment : Value}
    (a_is_alignment : PySem.W.nsIn K mainGlobals "is_alignment" = some (some (.ref A_is_alignment)))
    (l_is_alignment : K.lookup A_is_alignment = some ⟨oc_is_alignment, od_is_alignment, .func (PySem.W.fnOf "is_alignment" "is_alignment" (defArgs s_is_alignment) (defBody s_is_alignment) (defScope s_is_alignment) .none kV_is_alignment dc_is_alignment pm_is_alignment an_is_alignment cd_is_alignment ct_is_alignment), sl_is_alignment⟩)
    (c_is_alignment0 : PySem.W.codeIn K cd_is_alignment "is_alignment" = true)
    (k_is_alignment : PySem.W.keepIn K (.ref A_is_alignment) = true)
    {A_kind_of : Addr} {od_kind_of an_kind_of : Option Addr} {sl_kind_of : Array (Option Value)} {oc_kind_of kV_kind_of dc_kind_of pm_kind_of ct_kind_of : Value} {cd_kind_of : Value}
    (a_kind_of : PySem.W.nsIn K mainGlobals "kind_of" = some (some (.ref A_kind_of)))
    (l_kind_of : K.lookup A_kind_of = some ⟨oc_kind_of, od_kind_of, .func (PySem.W.fnOf "kind_of" "kind_of" (defArgs s_kind_of) (defBody s_kind_of) (defScope s_kind_of) .none kV_kind_of dc_kind_of pm_kind_of an_kind_of cd_kind_of ct_kind_of), sl_kind_of⟩)
    (c_kind_of0 : PySem.W.codeIn K cd_kind_of "kind_of" = true)
    (k_kind_of : PySem.W.keepIn K (.ref A_kind_of) = true)
    {A_mark_of : Addr} {od_mark_of an_mark_of : Option Addr} {sl_mark_of : Array (Option Value)} {oc_mark_of kV_mark_of dc_mark_of pm_mark_of ct_mark_of : Value} {cd_mark_of : Value}
    (a_mark_of : PySem.W.nsIn K mainGlobals "mark_of" = some (some (.ref A_mark_of)))
    (l_mark_of : K.lookup A_mark_of = some ⟨oc_mark_of, od_mark_of, .func (PySem.W.fnOf "mark_of" "mark_of" (defArgs s_mark_of) (defBody s_mark_of) (defScope s_mark_of) .none kV_mark_of dc_mark_of pm_mark_of an_mark_of cd_mark_of ct_mark_of), sl_mark_of⟩)
    (c_mark_of0 : PySem.W.codeIn K cd_mark_of "mark_of" = true)
    (k_mark_of : PySem.W.keepIn K (.ref A_mark_of) = true)
    {A_text_of : Addr} {od_text_of an_text_of : Option Addr} {sl_text_of : Array (Option Value)} {oc_text_of kV_text_of dc_text_of pm_text_of ct_text_of : Value} {cd_text_of : Value}
    (a_text_of : PySem.W.nsIn K mainGlobals "text_of" = some (some (.ref A_text_of)))
    (l_text_of : K.lookup A_text_of = some ⟨oc_text_of, od_text_of, .func (PySem.W.fnOf "text_of" "text_of" (defArgs s_text_of) (defBody s_text_of) (defScope s_text_of) .none kV_text_of dc_text_of pm_text_of an_text_of cd_text_of ct_text_of), sl_text_of⟩)
    (c_text_of0 : PySem.W.codeIn K cd_text_of "text_of" = true)
    (k_text_of : PySem.W.keepIn K (.ref A_text_of) = true)
    {A_read_alignment : Addr} {od_read_alignment an_read_alignment : Option Addr} {sl_read_alignment : Array (Option Value)} {oc_read_alignment kV_read_alignment dc_read_alignment pm_read_alignment ct_read_alignment : Value} {cd_read_alignment : Value}
    (a_read_alignment : PySem.W.nsIn K mainGlobals "read_alignment" = some (some (.ref A_read_alignment)))
    (l_read_alignment : K.lookup A_read_alignment = some ⟨oc_read_alignment, od_read_alignment, .func (PySem.W.fnOf "read_alignment" "read_alignment" (defArgs s_read_alignment) (defBody s_read_alignment) (defScope s_read_alignment) .none kV_read_alignment dc_read_alignment pm_read_alignment an_read_alignment cd_read_alignment ct_read_alignment), sl_read_alignment⟩)
    (c_read_alignment0 : PySem.W.codeIn K cd_read_alignment "read_alignment" = true)
    (k_read_alignment : PySem.W.keepIn K (.ref A_read_alignment) = true)
    {A_law_told : Addr} {od_law_told an_law_told : Option Addr} {sl_law_told : Array (Option Value)} {oc_law_told kV_law_told dc_law_told pm_law_told ct_law_told : Value} {cd_law_told : Value}
    (a_law_told : PySem.W.nsIn K mainGlobals "_law_told" = some (some (.ref A_law_told)))
    (l_law_told : K.lookup A_law_told = some ⟨oc_law_told, od_law_told, .func (PySem.W.fnOf "_law_told" "_law_told" (defArgs s_law_told) (defBody s_law_told) (defScope s_law_told) .none kV_law_told dc_law_told pm_law_told an_law_told cd_law_told ct_law_told), sl_law_told⟩)
    (c_law_told0 : PySem.W.codeIn K cd_law_told "_law_told" = true)
    (k_law_told : PySem.W.keepIn K (.ref A_law_told) = true)
    {A_law_text : Addr} {od_law_text an_law_text : Option Addr} {sl_law_text : Array (Option Value)} {oc_law_text kV_law_text dc_law_text pm_law_text ct_law_text : Value} {cd_law_text : Value}
    (a_law_text : PySem.W.nsIn K mainGlobals "_law_text" = some (some (.ref A_law_text)))
    (l_law_text : K.lookup A_law_text = some ⟨oc_law_text, od_law_text, .func (PySem.W.fnOf "_law_text" "_law_text" (defArgs s_law_text) (defBody s_law_text) (defScope s_law_text) .none kV_law_text dc_law_text pm_law_text an_law_text cd_law_text ct_law_text), sl_law_text⟩)
    (c_law_text0 : PySem.W.codeIn K cd_law_text "_law_text" = true)
    (k_law_text : PySem.W.keepIn K (.ref A_law_text) = true)
    {A_law_plain : Addr} {od_law_plain an_law_plain : Option Addr} {sl_law_plain : Array (Option Value)} {oc_law_plain kV_law_plain dc_law_plain pm_law_plain ct_law_plain : Value} {cd_law_plain : Value}
    (a_law_plain : PySem.W.nsIn K mainGlobals "_law_plain" = some (some (.ref A_law_plain)))
    (l_law_plain : K.lookup A_law_plain = some ⟨oc_law_plain, od_law_plain, .func (PySem.W.fnOf "_law_plain" "_law_plain" (defArgs s_law_plain) (defBody s_law_plain) (defScope s_law_plain) .none kV_law_plain dc_law_plain pm_law_plain an_law_plain cd_law_plain ct_law_plain), sl_law_plain⟩)
    (c_law_plain0 : PySem.W.codeIn K cd_law_plain "_law_plain" = true)
    (k_law_plain : PySem.W.keepIn K (.ref A_law_plain) = true)
    {A_law_is_good : Addr} {od_law_is_good an_law_is_good : Option Addr} {sl_law_is_good : Array (Option Value)} {oc_law_is_good kV_law_is_good dc_law_is_good pm_law_is_good ct_law_is_good : Value} {cd_law_is_good : Value}
    (a_law_is_good : PySem.W.nsIn K mainGlobals "_law_is_good" = some (some (.ref A_law_is_good)))
    (l_law_is_good : K.lookup A_law_is_good = some ⟨oc_law_is_good, od_law_is_good, .func (PySem.W.fnOf "_law_is_good" "_law_is_good" (defArgs s_law_is_good) (defBody s_law_is_good) (defScope s_law_is_good) .none kV_law_is_good dc_law_is_good pm_law_is_good an_law_is_good cd_law_is_good ct_law_is_good), sl_law_is_good⟩)
    (c_law_is_good0 : PySem.W.codeIn K cd_law_is_good "_law_is_good" = true)
    (k_law_is_good : PySem.W.keepIn K (.ref A_law_is_good) = true)
    {A_law_due : Addr} {od_law_due an_law_due : Option Addr} {sl_law_due : Array (Option Value)} {oc_law_due kV_law_due dc_law_due pm_law_due ct_law_due : Value} {cd_law_due : Value}
    (a_law_due : PySem.W.nsIn K mainGlobals "_law_due" = some (some (.ref A_law_due)))
    (l_law_due : K.lookup A_law_due = some ⟨oc_law_due, od_law_due, .func (PySem.W.fnOf "_law_due" "_law_due" (defArgs s_law_due) (defBody s_law_due) (defScope s_law_due) .none kV_law_due dc_law_due pm_law_due an_law_due cd_law_due ct_law_due), sl_law_due⟩)
    (c_law_due0 : PySem.W.codeIn K cd_law_due "_law_due" = true)
    (k_law_due : PySem.W.keepIn K (.ref A_law_due) = true)
    {A_law_draw : Addr} {od_law_draw an_law_draw : Option Addr} {sl_law_draw : Array (Option Value)} {oc_law_draw kV_law_draw dc_law_draw pm_law_draw ct_law_draw : Value} {cd_law_draw : Value}
    (a_law_draw : PySem.W.nsIn K mainGlobals "_law_draw" = some (some (.ref A_law_draw)))
    (l_law_draw : K.lookup A_law_draw = some ⟨oc_law_draw, od_law_draw, .func (PySem.W.fnOf "_law_draw" "_law_draw" (defArgs s_law_draw) (defBody s_law_draw) (defScope s_law_draw) .none kV_law_draw dc_law_draw pm_law_draw an_law_draw cd_law_draw ct_law_draw), sl_law_draw⟩)
    (c_law_draw0 : PySem.W.codeIn K cd_law_draw "_law_draw" = true)
    (k_law_draw : PySem.W.keepIn K (.ref A_law_draw) = true)
    {A_law_changed : Addr} {od_law_changed an_law_changed : Option Addr} {sl_law_changed : Array (Option Value)} {oc_law_changed kV_law_changed dc_law_changed pm_law_changed ct_law_changed : Value} {cd_law_changed : Value}
    (a_law_changed : PySem.W.nsIn K mainGlobals "_law_changed" = some (some (.ref A_law_changed)))
    (l_law_changed : K.lookup A_law_changed = some ⟨oc_law_changed, od_law_changed, .func (PySem.W.fnOf "_law_changed" "_law_changed" (defArgs s_law_changed) (defBody s_law_changed) (defScope s_law_changed) .none kV_law_changed dc_law_changed pm_law_changed an_law_changed cd_law_changed ct_law_changed), sl_law_changed⟩)
    (c_law_changed0 : PySem.W.codeIn K cd_law_changed "_law_changed" = true)
    (k_law_changed : PySem.W.keepIn K (.ref A_law_changed) = true)
    {A_law_all : Addr} {od_law_all an_law_all : Option Addr} {sl_law_all : Array (Option Value)} {oc_law_all kV_law_all dc_law_all pm_law_all ct_law_all : Value} {cd_law_all : Value}
    (a_law_all : PySem.W.nsIn K mainGlobals "_law_all" = some (some (.ref A_law_all)))
    (l_law_all : K.lookup A_law_all = some ⟨oc_law_all, od_law_all, .func (PySem.W.fnOf "_law_all" "_law_all" (defArgs s_law_all) (defBody s_law_all) (defScope s_law_all) .none kV_law_all dc_law_all pm_law_all an_law_all cd_law_all ct_law_all), sl_law_all⟩)
    (c_law_all0 : PySem.W.codeIn K cd_law_all "_law_all" = true)
    (k_law_all : PySem.W.keepIn K (.ref A_law_all) = true)
    {A_law_word : Addr} {od_law_word an_law_word : Option Addr} {sl_law_word : Array (Option Value)} {oc_law_word kV_law_word dc_law_word pm_law_word ct_law_word : Value} {cd_law_word : Value}
    (a_law_word : PySem.W.nsIn K mainGlobals "_law_word" = some (some (.ref A_law_word)))
    (l_law_word : K.lookup A_law_word = some ⟨oc_law_word, od_law_word, .func (PySem.W.fnOf "_law_word" "_law_word" (defArgs s_law_word) (defBody s_law_word) (defScope s_law_word) .none kV_law_word dc_law_word pm_law_word an_law_word cd_law_word ct_law_word), sl_law_word⟩)
    (c_law_word0 : PySem.W.codeIn K cd_law_word "_law_word" = true)
    (k_law_word : PySem.W.keepIn K (.ref A_law_word) = true)
    {A_law_cell : Addr} {od_law_cell an_law_cell : Option Addr} {sl_law_cell : Array (Option Value)} {oc_law_cell kV_law_cell dc_law_cell pm_law_cell ct_law_cell : Value} {cd_law_cell : Value}
    (a_law_cell : PySem.W.nsIn K mainGlobals "_law_cell" = some (some (.ref A_law_cell)))
    (l_law_cell : K.lookup A_law_cell = some ⟨oc_law_cell, od_law_cell, .func (PySem.W.fnOf "_law_cell" "_law_cell" (defArgs s_law_cell) (defBody s_law_cell) (defScope s_law_cell) .none kV_law_cell dc_law_cell pm_law_cell an_law_cell cd_law_cell ct_law_cell), sl_law_cell⟩)
    (c_law_cell0 : PySem.W.codeIn K cd_law_cell "_law_cell" = true)
    (k_law_cell : PySem.W.keepIn K (.ref A_law_cell) = true)
    {A_law_row : Addr} {od_law_row an_law_row : Option Addr} {sl_law_row : Array (Option Value)} {oc_law_row kV_law_row dc_law_row pm_law_row ct_law_row : Value} {cd_law_row : Value}
    (a_law_row : PySem.W.nsIn K mainGlobals "_law_row" = some (some (.ref A_law_row)))
    (l_law_row : K.lookup A_law_row = some ⟨oc_law_row, od_law_row, .func (PySem.W.fnOf "_law_row" "_law_row" (defArgs s_law_row) (defBody s_law_row) (defScope s_law_row) .none kV_law_row dc_law_row pm_law_row an_law_row cd_law_row ct_law_row), sl_law_row⟩)
    (c_law_row0 : PySem.W.codeIn K cd_law_row "_law_row" = true)
    (k_law_row : PySem.W.keepIn K (.ref A_law_row) = true)
    {A_law : Addr} {od_law an_law : Option Addr} {sl_law : Array (Option Value)} {oc_law kV_law dc_law pm_law ct_law : Value} {cd_law : Value}
    (a_law : PySem.W.nsIn K mainGlobals "law" = some (some (.ref A_law)))
    (l_law : K.lookup A_law = some ⟨oc_law, od_law, .func (PySem.W.fnOf "law" "law" (defArgs s_law) (defBody s_law) (defScope s_law) .none kV_law dc_law pm_law an_law cd_law ct_law), sl_law⟩)
    (c_law0 : PySem.W.codeIn K cd_law "law" = true)
    (k_law : PySem.W.keepIn K (.ref A_law) = true)
    {eN eQ : Str} {eM C fI : Addr} {eB : List Value} {eS : List Str} {eU : List Value} {eA : Bool} {eC : Option Bool} {eD : Option Addr} {m0 m1 m2 m3 m5 : Option Value} {odI anI : Option Addr} {slI : Array (Option Value)} {ocI kVI dcI pmI cdI ctI : Value}
    (xC : PySem.W.nsIn K mainGlobals "RightfaresError" = some (some (.ref C)))
    (xL : K.lookup C = some (excClassObj eN eQ C eM eB [.type "ValueError", .type "Exception", .type "BaseException", .type "object"] true eS eU eA eC eD m0 m1 m2 m3 m5 "ValueError.__new__"))
    (xs : PySem.W.findIn K (.ref C) "__setattr__" = some (some (.builtin "object.__setattr__")))
    (xg : PySem.W.findIn K (.ref C) "__getattribute__" = some (some (.builtin "BaseException.__getattribute__")))
    (xh : PySem.W.findIn K (.ref C) "__getattr__" = some none)
    (xr : PySem.W.findIn K (.ref C) "reason" = some none)
    (xi : PySem.W.findIn K (.ref C) "__init__" = some (some (.ref fI)))
    (xt : PySem.W.typeIn K (.ref fI) = some (.type "function"))
    (xl : K.lookup fI = some ⟨ocI, odI, .func (PySem.W.fnOf "__init__" "RightfaresError.__init__" (defArgs s_init) (defBody s_init) (defScope s_init) .none kVI dcI pmI anI cdI ctI), slI⟩)
    (xc : PySem.W.codeIn K cdI "RightfaresError.__init__" = true)
    (xk : PySem.W.keepIn K (.ref fI) = true)
    (yk : PySem.W.keepIn K (.ref C) = true)
    (ye : PySem.W.subIn K (.ref C) (.type "BaseException") = some true)
    (yt : PySem.W.typeIn K (.ref C) = some (.type "type"))
    (yh : PySem.W.hasDictIn K C = true)
    (yi : PySem.W.isClsIn K C = true)
    (ys : PySem.W.subIn K (.ref C) (.ref C) = some true)
    (yv : PySem.W.findCls K (.type "ValueError") (.type "type") "__init__" = some (.val (.builtin "ValueError.__init__")))
    (yw : PySem.W.kitCls K (.ref C) (.type "ValueError") = some true)
    (z_all0 : PySem.W.nsIn K mainGlobals "all" = some none)
    (z_isinstance0 : PySem.W.nsIn K mainGlobals "isinstance" = some none)
    (z_str0 : PySem.W.nsIn K mainGlobals "str" = some none)
    (z_len0 : PySem.W.nsIn K mainGlobals "len" = some none)
    (z_zip0 : PySem.W.nsIn K mainGlobals "zip" = some none)
    (z_tuple0 : PySem.W.nsIn K mainGlobals "tuple" = some none)
    (z_ValueError0 : PySem.W.nsIn K mainGlobals "ValueError" = some none)
    (z_range0 : PySem.W.nsIn K mainGlobals "range" = some none)
    (z_int0 : PySem.W.nsIn K mainGlobals "int" = some none)
    (z_abs0 : PySem.W.nsIn K mainGlobals "abs" = some none)
    {t_MOST_LETTERS : Tok}
    (m_MOST_LETTERS0 : PySem.W.nsIn K mainGlobals "MOST_LETTERS" = some (some (.int 6 t_MOST_LETTERS)))
    {t_MATCH : Tok}
    (m_MATCH0 : PySem.W.nsIn K mainGlobals "MATCH" = some (some (.int 0 t_MATCH)))
    {t_INSERTION : Tok}
    (m_INSERTION0 : PySem.W.nsIn K mainGlobals "INSERTION" = some (some (.int 2 t_INSERTION)))
    {t_DELETION : Tok}
    (m_DELETION0 : PySem.W.nsIn K mainGlobals "DELETION" = some (some (.int 1 t_DELETION)))
    : LamX.LawAtS l w K CX0 30 63 "script" mg fa h := by
  have e := hfa.symm.trans (PySem.W.mg_of X HG a_law)
  cases e
  let cs : List (Addr × Addr) := [(c_has_only_letters, P_has_only_letters)]
  let g : G := ⟨K, cs.map Prod.snd, C⟩
  have z_all := PySem.W.mg_none_of X HG z_all0
  have z_isinstance := PySem.W.mg_none_of X HG z_isinstance0
  have z_str := PySem.W.mg_none_of X HG z_str0
  have z_len := PySem.W.mg_none_of X HG z_len0
  have z_zip := PySem.W.mg_none_of X HG z_zip0
  have z_tuple := PySem.W.mg_none_of X HG z_tuple0
  have z_ValueError := PySem.W.mg_none_of X HG z_ValueError0
  have z_range := PySem.W.mg_none_of X HG z_range0
  have z_int := PySem.W.mg_none_of X HG z_int0
  have z_abs := PySem.W.mg_none_of X HG z_abs0
  have m_MOST_LETTERS := PySem.W.mg_of X HG m_MOST_LETTERS0
  have m_MATCH := PySem.W.mg_of X HG m_MATCH0
  have m_INSERTION := PySem.W.mg_of X HG m_INSERTION0
  have m_DELETION := PySem.W.mg_of X HG m_DELETION0
  have F_has_only_letters := funC_mk (st := s_has_only_letters) l_has_only_letters c_has_only_letters0 k_has_only_letters
  have m_has_only_letters := PySem.W.mg_of X HG a_has_only_letters
  have b_has_only_letters := F_has_only_letters.toFun.binds (ps := p_has_only_letters) fun _ _ _ _ _ _ us hl => match us, hl with | [_], _ => rfl
  obtain ⟨hd_has_only_letters, ht_has_only_letters⟩ := TQ _ _ _ _ hr_has_only_letters (tabIn_mk a_has_only_letters l_has_only_letters rfl lc_has_only_letters pp_has_only_letters)
  have F_is_sequence := fun_mk (st := s_is_sequence) l_is_sequence c_is_sequence0 k_is_sequence
  have m_is_sequence := PySem.W.mg_of X HG a_is_sequence
  have b_is_sequence := F_is_sequence.binds (ps := p_is_sequence) fun _ _ _ _ _ _ us hl => match us, hl with | [_], _ => rfl
  have F_without_dashes := fun_mk (st := s_without_dashes) l_without_dashes c_without_dashes0 k_without_dashes
  have m_without_dashes := PySem.W.mg_of X HG a_without_dashes
  have b_without_dashes := F_without_dashes.binds (ps := p_without_dashes) fun _ _ _ _ _ _ us hl => match us, hl with | [_], _ => rfl
  have F_is_row := fun_mk (st := s_is_row) l_is_row c_is_row0 k_is_row
  have m_is_row := PySem.W.mg_of X HG a_is_row
  have b_is_row := F_is_row.binds (ps := p_is_row) fun _ _ _ _ _ _ us hl => match us, hl with | [_], _ => rfl
  have F_is_alignment := fun_mk (st := s_is_alignment) l_is_alignment c_is_alignment0 k_is_alignment
  have m_is_alignment := PySem.W.mg_of X HG a_is_alignment
  have b_is_alignment := F_is_alignment.binds (ps := p_is_alignment) fun _ _ _ _ _ _ us hl => match us, hl with | [_], _ => rfl
  have F_kind_of := fun_mk (st := s_kind_of) l_kind_of c_kind_of0 k_kind_of
  have m_kind_of := PySem.W.mg_of X HG a_kind_of
  have b_kind_of := F_kind_of.binds (ps := p_kind_of) fun _ _ _ _ _ _ us hl => match us, hl with | [_, _], _ => rfl
  have F_mark_of := fun_mk (st := s_mark_of) l_mark_of c_mark_of0 k_mark_of
  have m_mark_of := PySem.W.mg_of X HG a_mark_of
  have b_mark_of := F_mark_of.binds (ps := p_mark_of) fun _ _ _ _ _ _ us hl => match us, hl with | [_, _], _ => rfl
  have F_text_of := fun_mk (st := s_text_of) l_text_of c_text_of0 k_text_of
  have m_text_of := PySem.W.mg_of X HG a_text_of
  have b_text_of := F_text_of.binds (ps := p_text_of) fun _ _ _ _ _ _ us hl => match us, hl with | [_], _ => rfl
  have F_read_alignment := fun_mk (st := s_read_alignment) l_read_alignment c_read_alignment0 k_read_alignment
  have m_read_alignment := PySem.W.mg_of X HG a_read_alignment
  have b_read_alignment := F_read_alignment.binds (ps := p_read_alignment) fun _ _ _ _ _ _ us hl => match us, hl with | [_], _ => rfl
  have F_law_told := fun_mk (st := s_law_told) l_law_told c_law_told0 k_law_told
  have m_law_told := PySem.W.mg_of X HG a_law_told
  have b_law_told := F_law_told.binds (ps := p_law_told) fun _ _ _ _ _ _ us hl => match us, hl with | [_], _ => rfl
  have F_law_text := fun_mk (st := s_law_text) l_law_text c_law_text0 k_law_text
  have m_law_text := PySem.W.mg_of X HG a_law_text
  have b_law_text := F_law_text.binds (ps := p_law_text) fun _ _ _ _ _ _ us hl => match us, hl with | [_], _ => rfl
  have F_law_plain := fun_mk (st := s_law_plain) l_law_plain c_law_plain0 k_law_plain
  have m_law_plain := PySem.W.mg_of X HG a_law_plain
  have b_law_plain := F_law_plain.binds (ps := p_law_plain) fun _ _ _ _ _ _ us hl => match us, hl with | [_], _ => rfl
  have F_law_is_good := fun_mk (st := s_law_is_good) l_law_is_good c_law_is_good0 k_law_is_good
  have m_law_is_good := PySem.W.mg_of X HG a_law_is_good
  have b_law_is_good := F_law_is_good.binds (ps := p_law_is_good) fun _ _ _ _ _ _ us hl => match us, hl with | [_], _ => rfl
  have F_law_due := fun_mk (st := s_law_due) l_law_due c_law_due0 k_law_due
  have m_law_due := PySem.W.mg_of X HG a_law_due
  have b_law_due := F_law_due.binds (ps := p_law_due) fun _ _ _ _ _ _ us hl => match us, hl with | [_], _ => rfl
  have F_law_draw := fun_mk (st := s_law_draw) l_law_draw c_law_draw0 k_law_draw
  have m_law_draw := PySem.W.mg_of X HG a_law_draw
  have b_law_draw := F_law_draw.binds (ps := p_law_draw) fun _ _ _ _ _ _ us hl => match us, hl with | [_, _], _ => rfl
  have F_law_changed := fun_mk (st := s_law_changed) l_law_changed c_law_changed0 k_law_changed
  have m_law_changed := PySem.W.mg_of X HG a_law_changed
  have b_law_changed := F_law_changed.binds (ps := p_law_changed) fun _ _ _ _ _ _ us hl => match us, hl with | [_, _], _ => rfl
  have F_law_all := fun_mk (st := s_law_all) l_law_all c_law_all0 k_law_all
  have m_law_all := PySem.W.mg_of X HG a_law_all
  have b_law_all := F_law_all.binds (ps := p_law_all) fun _ _ _ _ _ _ us hl => match us, hl with | [_, _], _ => rfl
  have F_law_word := fun_mk (st := s_law_word) l_law_word c_law_word0 k_law_word
  have m_law_word := PySem.W.mg_of X HG a_law_word
  have b_law_word := F_law_word.binds (ps := p_law_word) fun _ _ _ _ _ _ us hl => match us, hl with | [_, _], _ => rfl
  have F_law_cell := fun_mk (st := s_law_cell) l_law_cell c_law_cell0 k_law_cell
  have m_law_cell := PySem.W.mg_of X HG a_law_cell
  have b_law_cell := F_law_cell.binds (ps := p_law_cell) fun _ _ _ _ _ _ us hl => match us, hl with | [_, _], _ => rfl
  have F_law_row := fun_mk (st := s_law_row) l_law_row c_law_row0 k_law_row
  have m_law_row := PySem.W.mg_of X HG a_law_row
  have b_law_row := F_law_row.binds (ps := p_law_row) fun _ _ _ _ _ _ us hl => match us, hl with | [_, _, _], _ => rfl
  have F_law := fun_mk (st := s_law) l_law c_law0 k_law
  have m_law := PySem.W.mg_of X HG a_law
  have T : ErrC K mg C fI := ⟨⟨⟨eN, eQ, eM, eB, _, eS, eU, eA, eC, eD, m0, m1, m2, m3, m5, xL, by decide +kernel⟩, xs, ye, yt, yk⟩, PySem.W.mg_of X HG xC, xi, xt, xr, ⟨xg, xh, ye, yh⟩, self_caught ye yi yt ys⟩
  have FI := fun_mk (st := s_init) xl xc xk
  have bI := FI.binds (ps := ["self", "reason"]) fun _ _ _ _ _ _ us hl => match us, hl with | [_, _], _ => rfl
  refine ⟨PySem.W.fnOf "law" "law" (defArgs s_law) (defBody s_law) (defScope s_law) .none kV_law dc_law pm_law an_law cd_law ct_law, cs, SPd g sp_law, List.forall_mem_cons.mpr ⟨ht_has_only_letters, fun _ z => (List.not_mem_nil z).elim⟩, List.forall_mem_cons.mpr ⟨np_has_only_letters, fun _ z => (List.not_mem_nil z).elim⟩, List.forall_mem_cons.mpr ⟨hd_has_only_letters, fun _ z => (List.not_mem_nil z).elim⟩, fun s v => .of_eq rfl, fun H a ns _ _ hH hS => spd_start (g := g) (fun P hP => ?_) hS ⟨ns, rfl, rfl, rfl⟩, fun base hKb hG hTB => ?_⟩
  · obtain ⟨pr, hp, rfl⟩ := List.mem_map.mp hP
    exact hH pr hp
  have gK : K = g.K := rfl
  have GI : FnOk l.prog w K mg base CX0 1 fI _ ["self", "reason"] (spInit g.C) := ok_init FI T.oex xr yv z_ValueError
  have G_has_only_letters : FnOk l.prog w K mg base CX0 1 A_has_only_letters _ p_has_only_letters (SPd g sp_has_only_letters) := ok_has_only_letters (g := g) (z_all := z_all) (TB := tabB_g (hTB (c_has_only_letters, P_has_only_letters) (List.mem_cons_self ..))) (hP := List.mem_map.mpr ⟨(c_has_only_letters, P_has_only_letters), List.mem_cons_self .., rfl⟩) (F := F_has_only_letters) (gK := gK)
  have G_is_sequence : FnOk l.prog w K mg base CX0 2 A_is_sequence _ p_is_sequence (SPd g sp_is_sequence) := ok_is_sequence (g := g) (G_has_only_letters := G_has_only_letters) (m_has_only_letters := m_has_only_letters) (k_has_only_letters := k_has_only_letters) (b_has_only_letters := b_has_only_letters) (z_isinstance := z_isinstance) (z_str := z_str) (z_len := z_len) (m_MOST_LETTERS := m_MOST_LETTERS) (F := F_is_sequence) (gK := gK)
  have G_without_dashes : FnOk l.prog w K mg base CX0 1 A_without_dashes _ p_without_dashes (SPd g sp_without_dashes) := ok_without_dashes (g := g)  (F := F_without_dashes) (gK := gK)
  have G_is_row : FnOk l.prog w K mg base CX0 3 A_is_row _ p_is_row (SPd g sp_is_row) := ok_is_row (g := g) (G_is_sequence := G_is_sequence) (m_is_sequence := m_is_sequence) (k_is_sequence := k_is_sequence) (b_is_sequence := b_is_sequence) (G_without_dashes := G_without_dashes) (m_without_dashes := m_without_dashes) (k_without_dashes := k_without_dashes) (b_without_dashes := b_without_dashes) (z_isinstance := z_isinstance) (z_str := z_str) (F := F_is_row) (gK := gK)
  have G_is_alignment : FnOk l.prog w K mg base CX0 4 A_is_alignment _ p_is_alignment (SPd g sp_is_alignment) := ok_is_alignment (g := g) (G_is_row := G_is_row) (m_is_row := m_is_row) (k_is_row := k_is_row) (b_is_row := b_is_row) (z_all := z_all) (z_zip := z_zip) (z_len := z_len) (z_isinstance := z_isinstance) (z_tuple := z_tuple) (F := F_is_alignment) (gK := gK)
  have G_kind_of : FnOk l.prog w K mg base CX0 1 A_kind_of _ p_kind_of (SPd g sp_kind_of) := ok_kind_of (g := g) (m_MATCH := m_MATCH) (m_INSERTION := m_INSERTION) (m_DELETION := m_DELETION) (F := F_kind_of) (gK := gK)
  have G_mark_of : FnOk l.prog w K mg base CX0 2 A_mark_of _ p_mark_of (SPd g sp_mark_of) := ok_mark_of (g := g) (G_kind_of := G_kind_of) (m_kind_of := m_kind_of) (k_kind_of := k_kind_of) (b_kind_of := b_kind_of) (m_MATCH := m_MATCH) (F := F_mark_of) (gK := gK)
  have G_text_of : FnOk l.prog w K mg base CX0 3 A_text_of _ p_text_of (SPd g sp_text_of) := ok_text_of (g := g) (G_mark_of := G_mark_of) (m_mark_of := m_mark_of) (k_mark_of := k_mark_of) (b_mark_of := b_mark_of) (z_zip := z_zip) (F := F_text_of) (gK := gK)
  have G_read_alignment : FnOk l.prog w K mg base (L2.CX l.prog w) 6 A_read_alignment _ p_read_alignment (SPd g sp_read_alignment) := ok_read_alignment (g := g) (G_is_alignment := G_is_alignment) (m_is_alignment := m_is_alignment) (k_is_alignment := k_is_alignment) (b_is_alignment := b_is_alignment) (G_text_of := G_text_of) (m_text_of := m_text_of) (k_text_of := k_text_of) (b_text_of := b_text_of) (z_isinstance := z_isinstance) (z_str := z_str) (T := T) (GI := GI) (bI := bI) (F := F_read_alignment) (gK := gK)
  have G_law_told : FnOk l.prog w K mg base CX0 8 A_law_told _ p_law_told (SPd g sp_law_told) := ok_law_told (g := g) (G_read_alignment := G_read_alignment) (m_read_alignment := m_read_alignment) (k_read_alignment := k_read_alignment) (b_read_alignment := b_read_alignment) (z_isinstance := z_isinstance) (z_ValueError := z_ValueError) (hk := yw) (T := T) (GI := GI) (bI := bI) (F := F_law_told) (gK := gK)
  have G_law_text : FnOk l.prog w K mg base CX0 1 A_law_text _ p_law_text (SPd g sp_law_text) := ok_law_text (g := g) (z_range := z_range) (z_len := z_len) (F := F_law_text) (gK := gK)
  have G_law_plain : FnOk l.prog w K mg base CX0 1 A_law_plain _ p_law_plain (SPd g sp_law_plain) := ok_law_plain (g := g)  (F := F_law_plain) (gK := gK)
  have G_law_is_good : FnOk l.prog w K mg base CX0 2 A_law_is_good _ p_law_is_good (SPd g sp_law_is_good) := ok_law_is_good (g := g) (G_law_plain := G_law_plain) (m_law_plain := m_law_plain) (k_law_plain := k_law_plain) (b_law_plain := b_law_plain) (z_len := z_len) (F := F_law_is_good) (gK := gK)
  have G_law_due : FnOk l.prog w K mg base CX0 4 A_law_due _ p_law_due (SPd g sp_law_due) := ok_law_due (g := g) (G_law_text := G_law_text) (m_law_text := m_law_text) (k_law_text := k_law_text) (b_law_text := b_law_text) (G_law_is_good := G_law_is_good) (m_law_is_good := m_law_is_good) (k_law_is_good := k_law_is_good) (b_law_is_good := b_law_is_good) (z_len := z_len) (z_range := z_range) (F := F_law_due) (gK := gK)
  have G_law_draw : FnOk l.prog w K mg base CX0 1 A_law_draw _ p_law_draw (SPd g sp_law_draw) := ok_law_draw (g := g) (z_int := z_int) (z_len := z_len) (F := F_law_draw) (gK := gK)
  have G_law_changed : FnOk l.prog w K mg base CX0 2 A_law_changed _ p_law_changed (SPd g sp_law_changed) := ok_law_changed (g := g) (G_law_draw := G_law_draw) (m_law_draw := m_law_draw) (k_law_draw := k_law_draw) (b_law_draw := b_law_draw) (z_int := z_int) (z_len := z_len) (F := F_law_changed) (gK := gK)
  have G_law_all : FnOk l.prog w K mg base CX0 11 A_law_all _ p_law_all (SPd g sp_law_all) := ok_law_allN F_law_all gK m_law_all b_law_all 10
  have G_law_word : FnOk l.prog w K mg base CX0 2 A_law_word _ p_law_word (SPd g sp_law_word) := ok_law_word (g := g) (G_law_draw := G_law_draw) (m_law_draw := m_law_draw) (k_law_draw := k_law_draw) (b_law_draw := b_law_draw) (z_range := z_range) (F := F_law_word) (gK := gK)
  have G_law_cell : FnOk l.prog w K mg base CX0 1 A_law_cell _ p_law_cell (SPd g sp_law_cell) := ok_law_cell (g := g) (z_len := z_len) (F := F_law_cell) (gK := gK)
  have G_law_row : FnOk l.prog w K mg base CX0 2 A_law_row _ p_law_row (SPd g sp_law_row) := ok_law_row (g := g) (G_law_cell := G_law_cell) (m_law_cell := m_law_cell) (k_law_cell := k_law_cell) (b_law_cell := b_law_cell) (z_range := z_range) (z_int := z_int) (z_abs := z_abs) (F := F_law_row) (gK := gK)
  exact ok_law (g := g) (G_law_told := G_law_told) (m_law_told := m_law_told) (k_law_told := k_law_told) (b_law_told := b_law_told) (G_law_due := G_law_due) (m_law_due := m_law_due) (k_law_due := k_law_due) (b_law_due := b_law_due) (G_law_changed := G_law_changed) (m_law_changed := m_law_changed) (k_law_changed := k_law_changed) (b_law_changed := b_law_changed) (G_text_of := G_text_of) (m_text_of := m_text_of) (k_text_of := k_text_of) (b_text_of := b_text_of) (G_law_text := G_law_text) (m_law_text := m_law_text) (k_law_text := k_law_text) (b_law_text := b_law_text) (G_law_draw := G_law_draw) (m_law_draw := m_law_draw) (k_law_draw := k_law_draw) (b_law_draw := b_law_draw) (G_law_all := G_law_all) (m_law_all := m_law_all) (k_law_all := k_law_all) (b_law_all := b_law_all) (G_law_word := G_law_word) (m_law_word := m_law_word) (k_law_word := k_law_word) (b_law_word := b_law_word) (G_law_row := G_law_row) (m_law_row := m_law_row) (k_law_row := k_law_row) (b_law_row := b_law_row) (z_range := z_range) (z_int := z_int) (z_len := z_len) (F := F_law) (gK := gK)
end K02
open PySem PySem.W PyProof.Rows
set_option maxRecDepth 100000 in
set_option maxHeartbeats 0 in
theorem PySem.Challenge.cw_rightfares_k02_texts_of_alignments_holds : PySem.Challenge.rw_rightfares_k02_texts_of_alignments.Holds := by
  w_on; o_law; k_head; (case hw => w_witness2)
  k_fill
  refine DL.walk_law (l := PySem.Challenge.rw_rightfares_k02_texts_of_alignments) (n := 63) (k := 30) (x := "script") rfl (by decide) rfl ⟨rfl, by decide, by decide⟩ (fun w h Y => PySem.W.kIn_of Y) ?F
  case F =>
    intro w mg fa h Y KX G hmg TQ
    refine' K02.all_mk KX G hmg TQ ?a_has_only_letters ?l_has_only_letters ?c_has_only_letters0 ?k_has_only_letters ?lc_has_only_letters ?pp_has_only_letters ?np_has_only_letters ?hr_has_only_letters ?a_is_sequence ?l_is_sequence ?c_is_sequence0 ?k_is_sequence ?a_without_dashes ?l_without_dashes ?c_without_dashes0 ?k_without_dashes ?a_is_row ?l_is_row ?c_is_row0 ?k_is_row ?a_is_alignment ?l_is_alignment ?c_is_alignment0 ?k_is_alignment ?a_kind_of ?l_kind_of ?c_kind_of0 ?k_kind_of ?a_mark_of ?l_mark_of ?c_mark_of0 ?k_mark_of ?a_text_of ?l_text_of ?c_text_of0 ?k_text_of ?a_read_alignment ?l_read_alignment ?c_read_alignment0 ?k_read_alignment ?a_law_told ?l_law_told ?c_law_told0 ?k_law_told ?a_law_text ?l_law_text ?c_law_text0 ?k_law_text ?a_law_plain ?l_law_plain ?c_law_plain0 ?k_law_plain ?a_law_is_good ?l_law_is_good ?c_law_is_good0 ?k_law_is_good ?a_law_due ?l_law_due ?c_law_due0 ?k_law_due ?a_law_draw ?l_law_draw ?c_law_draw0 ?k_law_draw ?a_law_changed ?l_law_changed ?c_law_changed0 ?k_law_changed ?a_law_all ?l_law_all ?c_law_all0 ?k_law_all ?a_law_word ?l_law_word ?c_law_word0 ?k_law_word ?a_law_cell ?l_law_cell ?c_law_cell0 ?k_law_cell ?a_law_row ?l_law_row ?c_law_row0 ?k_law_row ?a_law ?l_law ?c_law0 ?k_law ?xC ?xL ?xs ?xg ?xh ?xr ?xi ?xt ?xl ?xc ?xk ?yk ?ye ?yt ?yh ?yi ?ys ?yv ?yw ?z_all0 ?z_isinstance0 ?z_str0 ?z_len0 ?z_zip0 ?z_tuple0 ?z_ValueError0 ?z_range0 ?z_int0 ?z_abs0 ?m_MOST_LETTERS0 ?m_MATCH0 ?m_INSERTION0 ?m_DELETION0
    (case a_has_only_letters => k_is)
    (case l_has_only_letters => k_is)
    (case c_has_only_letters0 => k_is)
    (case k_has_only_letters => k_is)
    (case lc_has_only_letters => k_is)
    (case pp_has_only_letters => rfl)
    (case np_has_only_letters => first | kernel_rfl | rfl)
    (case hr_has_only_letters => rfl)
    (case a_is_sequence => k_is)
    (case l_is_sequence => k_is)
    (case c_is_sequence0 => k_is)
    (case k_is_sequence => k_is)
    (case a_without_dashes => k_is)
    (case l_without_dashes => k_is)
    (case c_without_dashes0 => k_is)
    (case k_without_dashes => k_is)
    (case a_is_row => k_is)
    (case l_is_row => k_is)
    (case c_is_row0 => k_is)
    (case k_is_row => k_is)
    (case a_is_alignment => k_is)
    (case l_is_alignment => k_is)
    (case c_is_alignment0 => k_is)
    (case k_is_alignment => k_is)
    (case a_kind_of => k_is)
    (case l_kind_of => k_is)
    (case c_kind_of0 => k_is)
    (case k_kind_of => k_is)
    (case a_mark_of => k_is)
    (case l_mark_of => k_is)
    (case c_mark_of0 => k_is)
    (case k_mark_of => k_is)
    (case a_text_of => k_is)
    (case l_text_of => k_is)
    (case c_text_of0 => k_is)
    (case k_text_of => k_is)
    (case a_read_alignment => k_is)
    (case l_read_alignment => k_is)
    (case c_read_alignment0 => k_is)
    (case k_read_alignment => k_is)
    (case a_law_told => k_is)
    (case l_law_told => k_is)
    (case c_law_told0 => k_is)
    (case k_law_told => k_is)
    (case a_law_text => k_is)
    (case l_law_text => k_is)
    (case c_law_text0 => k_is)
    (case k_law_text => k_is)
    (case a_law_plain => k_is)
    (case l_law_plain => k_is)
    (case c_law_plain0 => k_is)
    (case k_law_plain => k_is)
    (case a_law_is_good => k_is)
    (case l_law_is_good => k_is)
    (case c_law_is_good0 => k_is)
    (case k_law_is_good => k_is)
    (case a_law_due => k_is)
    (case l_law_due => k_is)
    (case c_law_due0 => k_is)
    (case k_law_due => k_is)
    (case a_law_draw => k_is)
    (case l_law_draw => k_is)
    (case c_law_draw0 => k_is)
    (case k_law_draw => k_is)
    (case a_law_changed => k_is)
    (case l_law_changed => k_is)
    (case c_law_changed0 => k_is)
    (case k_law_changed => k_is)
    (case a_law_all => k_is)
    (case l_law_all => k_is)
    (case c_law_all0 => k_is)
    (case k_law_all => k_is)
    (case a_law_word => k_is)
    (case l_law_word => k_is)
    (case c_law_word0 => k_is)
    (case k_law_word => k_is)
    (case a_law_cell => k_is)
    (case l_law_cell => k_is)
    (case c_law_cell0 => k_is)
    (case k_law_cell => k_is)
    (case a_law_row => k_is)
    (case l_law_row => k_is)
    (case c_law_row0 => k_is)
    (case k_law_row => k_is)
    (case a_law => k_is)
    (case l_law => k_is)
    (case c_law0 => k_is)
    (case k_law => k_is)
    (case xC => k_is)
    (case xL => k_is)
    (case xs => k_is)
    (case xg => k_is)
    (case xh => k_is)
    (case xr => k_is)
    (case xi => k_is)
    (case xt => k_is)
    (case xl => k_is)
    (case xc => k_is)
    (case xk => k_is)
    (case yk => k_is)
    (case ye => k_is)
    (case yt => k_is)
    (case yh => k_is)
    (case yi => k_is)
    (case ys => first | rfl | k_is)
    (case yv => first | rfl | k_is)
    (case yw => first | k_is | kernel_rfl)
    (case z_all0 => k_is)
    (case z_isinstance0 => k_is)
    (case z_str0 => k_is)
    (case z_len0 => k_is)
    (case z_zip0 => k_is)
    (case z_tuple0 => k_is)
    (case z_ValueError0 => k_is)
    (case z_range0 => k_is)
    (case z_int0 => k_is)
    (case z_abs0 => k_is)
    (case m_MOST_LETTERS0 => k_is)
    (case m_MATCH0 => k_is)
    (case m_INSERTION0 => k_is)
    (case m_DELETION0 => k_is)
