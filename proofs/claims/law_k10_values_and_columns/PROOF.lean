import PyProof.Rows.All
import Wide.All
import OpenK.AllK
import Wide.FinOn
import HandS.ForMost
import HandS.Flow
import HandS.Exc
import HandS.ExcInit
import HandS.IsInst
import HandS.TupAny
import HandS.TupLe
import HandS.StrMore
import HandS.WordsExc
import PyProof.StrBlock2
import PyProof.NeKinds
import PyProof.EqKinds
import PyProof.AutoIntG8
import PyProof.AutoIntG9
import PyProof.ReprRoads
import PyProof.CallFns
import HandS.Zip
import HandS.Defaults
import HandS.ExcOwn
import HandS.Ends
import HandS.SetKeys
import HandS.SetBool
import HandS.Strs
import HandS.Comp
import KE.GoesMore
import KE.GoesZip
import HandS.ExcIs
import HandS.ExcField
import HandS.More
import HandS.Lambda
import HandS.HeadHook2
import HandS.ExcValue
import HandS.Property
import HandS.TryMany
import KE.KCallOwn
import HandS.HeadEnd
import HandS.Head0
import HandS.Head1
import HandS.Head2
import HandS.HeadHook1
import HandS.HeadHook3
import PyProof.Rows.StrCut
import PyProof.Rows.StrFit
import PyProof.FitsStr
import PyProof.ReprBulk
import KE.KStateDown
import PySem.Challenge.RW_backfilled_k10_values_and_columns
section
set_option Elab.async false
set_option linter.all false
set_option maxRecDepth 100000
set_option maxHeartbeats 2000000
/-! A small machine over plain data: what a text of Python does with data, as a total function. -/
namespace Vm
open PySem PySem.Spec PyProof.Rows L2

/-- plain data -/
inductive Dt where
  | non | bl (b : Bool) | int (i : Int) | str (s : Str) | fn (x : Str) | ty (n : String)
  | lst (xs : List Dt) | tup (xs : List Dt)
  /-- a list that is only read -/
  | rol (xs : List Dt)
  | dic (kvs : List (Key × Dt)) | dit (kvs : List (List Key × Dt))
  | ins (c : Str) (fs : List (Str × Dt))
  /-- an error that is a value: without a field, with one -/
  | err0 (c : Str) | err (c f : Str) (d : Dt)
  deriving Inhabited

/-! ### data upon the heap -/
def Ex (H H' : Hp) : Prop := ∀ a o, H a = some o → H' a = some o
theorem Ex.refl (H : Hp) : Ex H H := fun _ _ h => h
theorem Ex.trans {H H1 H2 : Hp} (a : Ex H H1) (b : Ex H1 H2) : Ex H H2 := fun x o h => b x o (a x o h)
theorem Ex.new {H : Hp} {p : Addr} {o : HO} (h : H p = none) : Ex H (upd H p o) := fun a u e => by
  rw [upd_ne (ne_of_none e h)]
  exact e
theorem Ex.rd {H H' : Hp} {a : Addr} {u : HO} (e : Ex H H') (h : Rd H a u) : Rd H' a u := by
  rcases h with h | ⟨o, h⟩
  · exact Or.inl (e a _ h)
  · exact Or.inr ⟨o, e a _ h⟩
theorem Ex.sql {K : PySem.W.Frag} {H H' : Hp} {a : Addr} {xs : List V} (e : Ex H H') (h : SqL K H a xs) : SqL K H' a xs := by
  rcases h with h | h
  · exact Or.inl (e.rd h)
  · exact Or.inr h
theorem Ex.sqt {K : PySem.W.Frag} {H H' : Hp} {a : Addr} {xs : List V} (e : Ex H H') (h : SqT K H a xs) : SqT K H' a xs := by
  rcases h with h | h
  · exact Or.inl (e.rd h)
  · exact Or.inr h

/-- where a name of the module stands -/
def gad (K : PySem.W.Frag) (x : Str) : Addr := match PySem.W.nsIn K mainGlobals x with
  | some (some (.ref a)) => a
  | _ => 0

mutual
inductive Dat (K : PySem.W.Frag) (F : Hp) : V → Dt → Prop
  | non : Dat K F .non .non
  | bl (b : Bool) : Dat K F (.bl b) (.bl b)
  | int (i : Int) : Dat K F (.int i) (.int i)
  | str (x : Str) : Dat K F (.str x) (.str x)
  | fn (x : Str) : Dat K F (.ref (gad K x)) (.fn x)
  | ty (n : String) : Dat K F (.ty n) (.ty n)
  | lst {a : Addr} {vs : List V} {ds : List Dt} : F a = some (.lst vs) → DatAll K F vs ds → Dat K F (.ref a) (.lst ds)
  | rol {a : Addr} {vs : List V} {ds : List Dt} : SqL K F a vs → DatAll K F vs ds → Dat K F (.ref a) (.rol ds)
  | tup {a : Addr} {vs : List V} {ds : List Dt} : SqT K F a vs → DatAll K F vs ds → Dat K F (.ref a) (.tup ds)
  | dic {a : Addr} {kvs : List (Key × V)} {ds : List (Key × Dt)} : Rd F a (.dK kvs) → kvs.map (·.1) = ds.map (·.1) → DatAll K F (kvs.map (·.2)) (ds.map (·.2)) → Dat K F (.ref a) (.dic ds)
  | dit {a : Addr} {kvs : List (List Key × V)} {ds : List (List Key × Dt)} : Rd F a (.dT kvs) → kvs.map (·.1) = ds.map (·.1) → DatAll K F (kvs.map (·.2)) (ds.map (·.2)) → Dat K F (.ref a) (.dit ds)
  | ins {a dx : Addr} {c : Str} {fs : List (Str × V)} {ds : List (Str × Dt)} : F a = some (.ins (gad K c) dx fs) → fs.map (·.1) = ds.map (·.1) → DatAll K F (fs.map (·.2)) (ds.map (·.2)) → Dat K F (.ref a) (.ins c ds)
  | err0 {a : Addr} {c : Str} : F a = some (exo a (gad K c) none) → Dat K F (.ref a) (.err0 c)
  | err {a dx : Addr} {c f : Str} {y : V} {d : Dt} : F a = some (exo a (gad K c) (some dx)) → F dx = some (exd dx [(f, y)]) → Dat K F y d → Dat K F (.ref a) (.err c f d)
inductive DatAll (K : PySem.W.Frag) (F : Hp) : List V → List Dt → Prop
  | nil : DatAll K F [] []
  | cons {v : V} {vs : List V} {d : Dt} {ds : List Dt} : Dat K F v d → DatAll K F vs ds → DatAll K F (v :: vs) (d :: ds)
end

section
variable {K : PySem.W.Frag} {F F' : Hp}
mutual
theorem Dat.mono (e : Ex F F') : ∀ {v : V} {d : Dt}, Dat K F v d → Dat K F' v d
  | _, _, .non => .non
  | _, _, .bl b => .bl b
  | _, _, .int i => .int i
  | _, _, .str x => .str x
  | _, _, .fn x => .fn x
  | _, _, .ty x => .ty x
  | _, _, .lst h r => .lst (e _ _ h) (DatAll.mono e r)
  | _, _, .rol h r => .rol (e.sql h) (DatAll.mono e r)
  | _, _, .tup h r => .tup (e.sqt h) (DatAll.mono e r)
  | _, _, .dic h k r => .dic (e.rd h) k (DatAll.mono e r)
  | _, _, .dit h k r => .dit (e.rd h) k (DatAll.mono e r)
  | _, _, .ins h k r => .ins (e _ _ h) k (DatAll.mono e r)
  | _, _, .err0 h => .err0 (e _ _ h)
  | _, _, .err h k r => .err (e _ _ h) (e _ _ k) (Dat.mono e r)
theorem DatAll.mono (e : Ex F F') : ∀ {vs : List V} {ds : List Dt}, DatAll K F vs ds → DatAll K F' vs ds
  | _, _, .nil => .nil
  | _, _, .cons h r => .cons (Dat.mono e h) (DatAll.mono e r)
end
theorem DatAll.length : ∀ {vs : List V} {ds : List Dt}, DatAll K F vs ds → vs.length = ds.length
  | _, _, .nil => rfl
  | _, _, .cons _ r => by rw [List.length_cons, List.length_cons, DatAll.length r]
theorem DatAll.get : ∀ {vs : List V} {ds : List Dt} {i : Nat} {d : Dt}, DatAll K F vs ds → ds[i]? = some d → ∃ v, vs[i]? = some v ∧ Dat K F v d
  | _, _, _, _, .nil, h => by simp at h
  | _, _, 0, d, .cons h _, e => by simp at e; subst e; exact ⟨_, rfl, h⟩
  | _, _, i + 1, d, .cons _ r, e => by
    obtain ⟨v, h1, h2⟩ := DatAll.get (i := i) r (by simpa using e)
    exact ⟨v, by simpa using h1, h2⟩
theorem DatAll.getV : ∀ {vs : List V} {ds : List Dt} {i : Nat} {v : V}, DatAll K F vs ds → vs[i]? = some v → ∃ d, ds[i]? = some d ∧ Dat K F v d
  | _, _, _, _, .nil, h => by simp at h
  | _, _, 0, d, .cons h _, e => by simp at e; subst e; exact ⟨_, rfl, h⟩
  | _, _, i + 1, d, .cons _ r, e => by
    obtain ⟨v, h1, h2⟩ := DatAll.getV (i := i) r (by simpa using e)
    exact ⟨v, by simpa using h1, h2⟩
theorem DatAll.append : ∀ {vs ws : List V} {ds es : List Dt}, DatAll K F vs ds → DatAll K F ws es → DatAll K F (vs ++ ws) (ds ++ es)
  | _, _, _, _, .nil, s => s
  | _, _, _, _, .cons h r, s => .cons h (DatAll.append r s)
theorem DatAll.take : ∀ {vs : List V} {ds : List Dt} (n : Nat), DatAll K F vs ds → DatAll K F (vs.take n) (ds.take n)
  | _, _, 0, _ => .nil
  | _, _, _ + 1, .nil => .nil
  | _, _, n + 1, .cons h r => .cons h (DatAll.take n r)
theorem DatAll.drop : ∀ {vs : List V} {ds : List Dt} (n : Nat), DatAll K F vs ds → DatAll K F (vs.drop n) (ds.drop n)
  | _, _, 0, r => r
  | _, _, _ + 1, .nil => .nil
  | _, _, n + 1, .cons _ r => DatAll.drop n r
theorem DatAll.set {v : V} {d : Dt} (h : Dat K F v d) : ∀ {vs : List V} {ds : List Dt} (i : Nat), DatAll K F vs ds → DatAll K F (vs.set i v) (ds.set i d)
  | _, _, _, .nil => .nil
  | _, _, 0, .cons _ r => .cons h r
  | _, _, i + 1, .cons q r => .cons q (DatAll.set h i r)
theorem DatAll.reverse : ∀ {vs : List V} {ds : List Dt}, DatAll K F vs ds → DatAll K F vs.reverse ds.reverse
  | _, _, .nil => .nil
  | _, _, .cons h r => by
    rw [List.reverse_cons, List.reverse_cons]
    exact (DatAll.reverse r).append (.cons h .nil)
theorem DatAll.repl {v : V} {d : Dt} (h : Dat K F v d) : ∀ n : Nat, DatAll K F (List.replicate n v) (List.replicate n d)
  | 0 => .nil
  | n + 1 => .cons h (DatAll.repl h n)
theorem DatAll.flat {vs : List V} {ds : List Dt} (r : DatAll K F vs ds) : ∀ n : Nat, DatAll K F (List.replicate n vs).flatten (List.replicate n ds).flatten
  | 0 => .nil
  | n + 1 => by
    rw [List.replicate_succ, List.replicate_succ, List.flatten_cons, List.flatten_cons]
    exact r.append (DatAll.flat r n)
theorem DatAll.isEmpty {vs : List V} {ds : List Dt} (r : DatAll K F vs ds) : vs.isEmpty = ds.isEmpty := by cases r <;> rfl
end

/-! ### what may change: a store of lists and the like -/
/-- a value: data, or the j-th of the store -/
inductive Sv where
  | dat (d : Dt) | own (j : Nat)
  deriving Inhabited
abbrev Ro := List (Option Sv)
inductive Ow where
  | lst (ds : List Dt)
  /-- an instance of an own class, by its fields -/
  | ins (c : Str) (fs : List (Str × Sv))
  /-- one that is not to change any more -/
  | frz (d : Dt)
  deriving Inhabited
abbrev Om := List Ow

def SvAt (K : PySem.W.Frag) (F : Hp) (ps : List Addr) (v : V) : Sv → Prop
  | .dat d => Dat K F v d
  | .own j => ∃ p, ps[j]? = some p ∧ v = .ref p
inductive SvAll (K : PySem.W.Frag) (F : Hp) (ps : List Addr) : List V → List Sv → Prop
  | nil : SvAll K F ps [] []
  | cons {v : V} {vs : List V} {d : Sv} {ds : List Sv} : SvAt K F ps v d → SvAll K F ps vs ds → SvAll K F ps (v :: vs) (d :: ds)

def OwAt (K : PySem.W.Frag) (F H : Hp) (ps : List Addr) (p : Addr) : Ow → Prop
  | .lst ds => F p = none ∧ ∃ vs, H p = some (.lst vs) ∧ DatAll K F vs ds
  | .ins c fs => F p = none ∧ ∃ dx vs, H p = some (.ins (gad K c) dx vs) ∧ vs.map (·.1) = fs.map (·.1) ∧ SvAll K F ps (vs.map (·.2)) (fs.map (·.2))
  | .frz d => Dat K F (.ref p) d

structure Rel (K : PySem.W.Frag) (F H : Hp) (ps : List Addr) (ω : Om) : Prop where
  ex : Ex F H
  len : ps.length = ω.length
  nd : ps.Nodup
  ob : ∀ (j : Nat) (p : Addr) (o : Ow), ps[j]? = some p → ω[j]? = some o → OwAt K F H ps p o
  tr : ∀ p ∈ ps, ∃ o, H p = some o

structure Slots (K : PySem.W.Frag) (F : Hp) (ps : List Addr) (σ : L2.St) (ρ : Ro) : Prop where
  len : σ.length = ρ.length
  at_ : ∀ (i : Nat) (sv : Sv), ρ[i]? = some (some sv) → ∃ v, σ[i]? = some (some v) ∧ SvAt K F ps v sv

/-- from a state to a later one: the data stand, the store's places stand, all else stands; what is new was not there -/
structure Stp (F H : Hp) (ps : List Addr) (F' H' : Hp) (ps' : List Addr) : Prop where
  ex : Ex F F'
  pre : ps <+: ps'
  kp : ∀ a o, H a = some o → F a = none → a ∉ ps → H' a = some o
  new : ∀ a, (F' a ≠ none ∨ a ∈ ps') → F a ≠ none ∨ a ∈ ps ∨ H a = none

section
variable {K : PySem.W.Frag} {F F' F2 H H' H2 : Hp} {ps ps' ps2 : List Addr} {ω ω' : Om} {σ : L2.St} {ρ : Ro}
theorem Stp.refl : Stp F H ps F H ps := ⟨Ex.refl F, List.prefix_refl ps, fun _ _ h _ _ => h, fun a h => h.elim .inl (fun z => .inr (.inl z))⟩
theorem Stp.trans (a : Stp F H ps F' H' ps') (b : Stp F' H' ps' F2 H2 ps2) : Stp F H ps F2 H2 ps2 := by
  refine ⟨a.ex.trans b.ex, a.pre.trans b.pre, fun x o h1 h2 h3 => ?_, fun x h => ?_⟩
  · have n : ¬ (F' x ≠ none ∨ x ∈ ps') := fun z => by
      rcases a.new x z with z | z | z
      · exact z h2
      · exact h3 z
      · rw [h1] at z; cases z
    refine b.kp x o (a.kp x o h1 h2 h3) ?_ (fun z => n (.inr z))
    cases e : F' x with
    | none => rfl
    | some u => exact absurd (.inl (by rw [e]; simp)) n
  · rcases b.new x h with z | z | z
    · exact a.new x (.inl z)
    · exact a.new x (.inr z)
    · by_cases h1 : F x ≠ none
      · exact .inl h1
      · by_cases h2 : x ∈ ps
        · exact .inr (.inl h2)
        · refine .inr (.inr ?_)
          have h1' : F x = none := Classical.not_not.mp h1
          cases e : H x with
          | none => rfl
          | some o =>
            have := a.kp x o e h1' h2
            rw [z] at this; cases this
theorem SvAt.mono (e : Ex F F') (h : ps <+: ps') {v : V} : ∀ {sv : Sv}, SvAt K F ps v sv → SvAt K F' ps' v sv
  | .dat d, q => Dat.mono e q
  | .own j, ⟨p, h1, h2⟩ => ⟨p, by
      obtain ⟨t, rfl⟩ := h
      rw [List.getElem?_append_left (List.getElem?_eq_some_iff.mp h1).1]; exact h1, h2⟩
theorem SvAll.mono (e : Ex F F') (h : ps <+: ps') : ∀ {vs : List V} {svs : List Sv}, SvAll K F ps vs svs → SvAll K F' ps' vs svs
  | _, _, .nil => .nil
  | _, _, .cons q r => .cons (q.mono e h) (SvAll.mono e h r)
theorem SvAt.step (s : Stp F H ps F' H' ps') {v : V} {sv : Sv} (h : SvAt K F ps v sv) : SvAt K F' ps' v sv := h.mono s.ex s.pre
theorem SvAll.step (s : Stp F H ps F' H' ps') : ∀ {vs : List V} {svs : List Sv}, SvAll K F ps vs svs → SvAll K F' ps' vs svs
  | _, _, .nil => .nil
  | _, _, .cons h r => .cons (h.step s) (SvAll.step s r)
theorem SvAll.length : ∀ {vs : List V} {ds : List Sv}, SvAll K F ps vs ds → vs.length = ds.length
  | _, _, .nil => rfl
  | _, _, .cons _ r => by rw [List.length_cons, List.length_cons, SvAll.length r]
theorem Slots.step (s : Stp F H ps F' H' ps') (h : Slots K F ps σ ρ) : Slots K F' ps' σ ρ :=
  ⟨h.len, fun i sv e => let ⟨v, h1, h2⟩ := h.at_ i sv e; ⟨v, h1, h2.step s⟩⟩
theorem Slots.set (h : Slots K F ps σ ρ) {i : Nat} {v : V} {sv : Sv} (q : SvAt K F ps v sv) : Slots K F ps (σ.set i (some v)) (ρ.set i (some sv)) := by
  refine ⟨by simpa using h.len, fun j s e => ?_⟩
  by_cases hj : i = j
  · subst hj
    by_cases hl : i < ρ.length
    · rw [List.getElem?_set_self hl] at e
      have e1 := Option.some.inj (Option.some.inj e)
      subst e1
      exact ⟨v, List.getElem?_set_self (by rw [h.len]; exact hl), q⟩
    · rw [List.getElem?_eq_none (by simpa using hl)] at e; cases e
  · rw [List.getElem?_set_ne hj] at e
    obtain ⟨w, h1, h2⟩ := h.at_ j s e
    exact ⟨w, by rw [List.getElem?_set_ne hj]; exact h1, h2⟩
theorem Rel.notin {p : Addr} (r : Rel K F H ps ω) (h : H p = none) : p ∉ ps := fun z => by
  obtain ⟨o, e⟩ := r.tr p z
  rw [h] at e; cases e
theorem Rel.fnone {p : Addr} (r : Rel K F H ps ω) (h : H p = none) : F p = none := by
  cases e : F p with
  | none => rfl
  | some o => have := r.ex p o e; rw [h] at this; cases this
theorem OwAt.mono {p : Addr} (e : Ex F F') (hs : ps <+: ps') (hn : F p = none → F' p = none) (hp : ∀ o, H p = some o → H' p = some o) : ∀ {o : Ow}, OwAt K F H ps p o → OwAt K F' H' ps' p o
  | .lst ds, ⟨h1, vs, h2, h3⟩ => ⟨hn h1, vs, hp _ h2, h3.mono e⟩
  | .ins c fs, ⟨h1, dx, vs, h2, h3, h4⟩ => ⟨hn h1, dx, vs, hp _ h2, h3, h4.mono e hs⟩
  | .frz d, h => Dat.mono e h
/-- a new datum is laid -/
theorem Rel.lay {p : Addr} {o : HO} (r : Rel K F H ps ω) (h : H p = none) : Rel K (upd F p o) (upd H p o) ps ω ∧ Stp F H ps (upd F p o) (upd H p o) ps := by
  have hf := r.fnone h
  have hx : Ex F (upd F p o) := Ex.new hf
  refine ⟨⟨fun a u e => ?_, r.len, r.nd, fun j q w h1 h2 => ?_, fun q hq => ?_⟩, ⟨hx, List.prefix_refl _, fun a u e _ _ => ?_, fun a z => ?_⟩⟩
  · by_cases ha : a = p
    · subst ha; rw [upd_same] at e ⊢; exact e
    · rw [upd_ne ha] at e ⊢; exact r.ex a u e
  · have hq : q ≠ p := fun z => r.notin h (by rw [← z]; exact List.mem_of_getElem? h1)
    exact (r.ob j q w h1 h2).mono hx (List.prefix_refl _) (fun z => by rw [upd_ne hq]; exact z) (fun u z => by rw [upd_ne hq]; exact z)
  · have hq' : q ≠ p := fun z => r.notin h (by rw [← z]; exact hq)
    rw [upd_ne hq']; exact r.tr q hq
  · rw [upd_ne (ne_of_none e h)]; exact e
  · by_cases ha : a = p
    · subst ha; exact .inr (.inr h)
    · rcases z with z | z
      · rw [upd_ne ha] at z; exact .inl z
      · exact .inr (.inl z)
/-- one more of the store -/
theorem Rel.growO {p : Addr} {o : HO} {u : Ow} (r : Rel K F H ps ω) (h : H p = none) (ok : F p = none → OwAt K F (upd H p o) (ps ++ [p]) p u) :
    Rel K F (upd H p o) (ps ++ [p]) (ω ++ [u]) ∧ Stp F H ps F (upd H p o) (ps ++ [p]) := by
  have hf := r.fnone h
  refine ⟨⟨r.ex.trans (Ex.new h), by simp [r.len], ?_, fun j q w h1 h2 => ?_, fun q hq => ?_⟩, ⟨Ex.refl F, List.prefix_append _ _, fun a u e _ _ => ?_, fun a z => ?_⟩⟩
  · rw [List.nodup_append]
    refine ⟨r.nd, by simp, fun a ha b hb z => ?_⟩
    have : b = p := by simpa using hb
    subst this; subst z
    exact r.notin h ha
  · by_cases hj : j < ps.length
    · rw [List.getElem?_append_left hj] at h1
      rw [List.getElem?_append_left (by rw [← r.len]; exact hj)] at h2
      have hq : q ≠ p := fun z => r.notin h (by rw [← z]; exact List.mem_of_getElem? h1)
      exact (r.ob j q w h1 h2).mono (Ex.refl F) (List.prefix_append _ _) (fun z => z) (fun u z => by rw [upd_ne hq]; exact z)
    · have hj2 : j = ps.length := by
        have := (List.getElem?_eq_some_iff.mp h1).1
        simp at this; omega
      subst hj2
      simp at h1
      have h2' : w = u := by rw [r.len] at h2; simpa using h2.symm
      subst h1; subst h2'
      exact ok hf
  · rcases List.mem_append.mp hq with z | z
    · have hq' : q ≠ p := fun y => r.notin h (by rw [← y]; exact z)
      rw [upd_ne hq']; exact r.tr q z
    · have : q = p := by simpa using z
      subst this; exact ⟨_, upd_same⟩
  · rw [upd_ne (ne_of_none e h)]; exact e
  · rcases z with z | z
    · exact .inl z
    · rcases List.mem_append.mp z with z | z
      · exact .inr (.inl z)
      · have : a = p := by simpa using z
        subst this; exact .inr (.inr h)
theorem Rel.grow {p : Addr} {vs : List V} {ds : List Dt} (r : Rel K F H ps ω) (h : H p = none) (hd : DatAll K F vs ds) :
    Rel K F (upd H p (.lst vs)) (ps ++ [p]) (ω ++ [.lst ds]) ∧ Stp F H ps F (upd H p (.lst vs)) (ps ++ [p]) :=
  r.growO h fun hf => ⟨hf, vs, upd_same, hd⟩
/-- something new that is no concern of the store's -/
theorem Rel.side {p : Addr} {o : HO} (r : Rel K F H ps ω) (h : H p = none) : Rel K F (upd H p o) ps ω ∧ Stp F H ps F (upd H p o) ps := by
  refine ⟨⟨r.ex.trans (Ex.new h), r.len, r.nd, fun j q w h1 h2 => ?_, fun q hq => ?_⟩, ⟨Ex.refl F, List.prefix_refl _, fun a u e _ _ => ?_, fun a z => ?_⟩⟩
  · have hq : q ≠ p := fun z => r.notin h (by rw [← z]; exact List.mem_of_getElem? h1)
    exact (r.ob j q w h1 h2).mono (Ex.refl F) (List.prefix_refl _) (fun z => z) (fun u z => by rw [upd_ne hq]; exact z)
  · have hq' : q ≠ p := fun y => r.notin h (by rw [← y]; exact hq)
    rw [upd_ne hq']; exact r.tr q hq
  · rw [upd_ne (ne_of_none e h)]; exact e
  · rcases z with z | z
    · exact .inl z
    · exact .inr (.inl z)
/-- a new instance -/
theorem Rel.growI {x d : Addr} {c : Str} (r : Rel K F H ps ω) (hx : H x = none) (hd : H d = none) (ne : d ≠ x) :
    Rel K F (upd (upd H d (.own x)) x (.ins (gad K c) d [])) (ps ++ [x]) (ω ++ [.ins c []]) ∧ Stp F H ps F (upd (upd H d (.own x)) x (.ins (gad K c) d [])) (ps ++ [x]) := by
  obtain ⟨r1, s1⟩ := r.side (o := .own x) hd
  have hx1 : upd H d (.own x) x = none := by rw [upd_ne (Ne.symm ne)]; exact hx
  obtain ⟨r2, s2⟩ := r1.growO (o := .ins (gad K c) d []) (u := .ins c []) hx1 fun hf => ⟨hf, d, [], upd_same, rfl, .nil⟩
  exact ⟨r2, s1.trans s2⟩
/-- one of the store is written -/
theorem Rel.putO {j : Nat} {p : Addr} {o : HO} {u0 u : Ow} (r : Rel K F H ps ω) (hj : ps[j]? = some p) (ho : ω[j]? = some u0) (hf : F p = none) (ok : OwAt K F (upd H p o) ps p u) :
    Rel K F (upd H p o) ps (ω.set j u) ∧ Stp F H ps F (upd H p o) ps := by
  have hm : p ∈ ps := List.mem_of_getElem? hj
  refine ⟨⟨fun a u e => ?_, by simpa using r.len, r.nd, fun i q w h1 h2 => ?_, fun q hq => ?_⟩, ⟨Ex.refl F, List.prefix_refl _, fun a u e h1 h2 => ?_, fun a z => ?_⟩⟩
  · have ha : a ≠ p := fun z => by subst z; rw [hf] at e; cases e
    rw [upd_ne ha]; exact r.ex a u e
  · by_cases hi : j = i
    · subst hi
      rw [hj] at h1; cases h1
      have hl : j < ω.length := (List.getElem?_eq_some_iff.mp ho).1
      rw [List.getElem?_set_self hl] at h2; cases h2
      exact ok
    · rw [List.getElem?_set_ne hi] at h2
      have hq : q ≠ p := fun z => by
        subst z
        exact hi ((List.getElem?_inj (List.getElem?_eq_some_iff.mp hj).1 r.nd).mp (hj.trans h1.symm))
      exact (r.ob i q w h1 h2).mono (Ex.refl F) (List.prefix_refl _) (fun z => z) (fun u z => by rw [upd_ne hq]; exact z)
  · by_cases hq' : q = p
    · subst hq'; exact ⟨_, upd_same⟩
    · rw [upd_ne hq']; exact r.tr q hq
  · have ha : a ≠ p := fun z => h2 (by rw [z]; exact hm)
    rw [upd_ne ha]; exact e
  · rcases z with z | z
    · exact .inl z
    · exact .inr (.inl z)
theorem Rel.put {j : Nat} {p : Addr} {vs : List V} {ds es : List Dt} (r : Rel K F H ps ω) (hj : ps[j]? = some p) (ho : ω[j]? = some (.lst ds)) (hd : DatAll K F vs es) :
    Rel K F (upd H p (.lst vs)) ps (ω.set j (.lst es)) ∧ Stp F H ps F (upd H p (.lst vs)) ps := by
  obtain ⟨hf, _⟩ := r.ob j p _ hj ho
  exact r.putO hj ho hf ⟨hf, vs, upd_same, hd⟩
/-- one of the store is not to change any more -/
theorem Rel.freezeO {j : Nat} {p : Addr} {o : HO} {u0 : Ow} {d : Dt} (r : Rel K F H ps ω) (hj : ps[j]? = some p) (ho : ω[j]? = some u0) (hf : F p = none) (hp : H p = some o) (hD : Dat K (upd F p o) (.ref p) d) :
    ∃ F', Rel K F' H ps (ω.set j (.frz d)) ∧ Stp F H ps F' H ps ∧ Dat K F' (.ref p) d := by
  have hm : p ∈ ps := List.mem_of_getElem? hj
  have hx : Ex F (upd F p o) := Ex.new hf
  refine ⟨upd F p o, ⟨fun a u e => ?_, by simpa using r.len, r.nd, fun i q w h1 h2 => ?_, r.tr⟩, ⟨hx, List.prefix_refl _, fun a u e _ _ => e, fun a z => ?_⟩, hD⟩
  · by_cases ha : a = p
    · subst ha; rw [upd_same] at e; cases e; exact hp
    · rw [upd_ne ha] at e; exact r.ex a u e
  · by_cases hi : j = i
    · subst hi
      rw [hj] at h1; cases h1
      have hl : j < ω.length := (List.getElem?_eq_some_iff.mp ho).1
      rw [List.getElem?_set_self hl] at h2; cases h2
      exact hD
    · rw [List.getElem?_set_ne hi] at h2
      have hq : q ≠ p := fun z => by
        subst z
        exact hi ((List.getElem?_inj (List.getElem?_eq_some_iff.mp hj).1 r.nd).mp (hj.trans h1.symm))
      exact (r.ob i q w h1 h2).mono hx (List.prefix_refl _) (fun z => by rw [upd_ne hq]; exact z) (fun u z => z)
  · by_cases ha : a = p
    · subst ha; exact .inr (.inl hm)
    · rcases z with z | z
      · rw [upd_ne ha] at z; exact .inl z
      · exact .inr (.inl z)
theorem Rel.freeze {j : Nat} {p : Addr} {ds : List Dt} (r : Rel K F H ps ω) (hj : ps[j]? = some p) (ho : ω[j]? = some (.lst ds)) :
    ∃ F', Rel K F' H ps (ω.set j (.frz (.lst ds))) ∧ Stp F H ps F' H ps ∧ Dat K F' (.ref p) (.lst ds) := by
  obtain ⟨hf, ws, hp, hw⟩ := r.ob j p _ hj ho
  exact r.freezeO hj ho hf hp (.lst upd_same (hw.mono (Ex.new hf)))
/-- fields that are all data -/
def datF : List (Str × Sv) → Option (List (Str × Dt))
  | [] => some []
  | (f, .dat d) :: r => (datF r).map fun l => (f, d) :: l
  | (_, .own _) :: _ => none
theorem datF_ok : ∀ {fs : List (Str × Sv)} {ds : List (Str × Dt)} {vs : List (Str × V)}, datF fs = some ds → vs.map (·.1) = fs.map (·.1) → SvAll K F ps (vs.map (·.2)) (fs.map (·.2)) →
    vs.map (·.1) = ds.map (·.1) ∧ DatAll K F (vs.map (·.2)) (ds.map (·.2))
  | [], ds, vs, h, hn, hv => by
    cases h
    cases vs with
    | nil => exact ⟨rfl, .nil⟩
    | cons _ _ => cases hn
  | (f, .dat d) :: r, ds, vs, h, hn, hv => by
    unfold datF at h
    cases e : datF r with
    | none => rw [e] at h; cases h
    | some l =>
      rw [e] at h
      cases h
      cases vs with
      | nil => cases hn
      | cons v vs =>
        simp only [List.map_cons, List.cons.injEq] at hn
        simp only [List.map_cons] at hv
        cases hv with
        | cons h1 h2 =>
          obtain ⟨q1, q2⟩ := datF_ok e hn.2 h2
          exact ⟨by simp only [List.map_cons, hn.1, q1], .cons h1 q2⟩
  | (_, .own _) :: _, _, _, h, _, _ => by cases h
theorem Rel.freezeI {j : Nat} {p : Addr} {c : Str} {fs : List (Str × Sv)} {ds : List (Str × Dt)} (r : Rel K F H ps ω) (hj : ps[j]? = some p) (ho : ω[j]? = some (.ins c fs)) (hd : datF fs = some ds) :
    ∃ F', Rel K F' H ps (ω.set j (.frz (.ins c ds))) ∧ Stp F H ps F' H ps ∧ Dat K F' (.ref p) (.ins c ds) := by
  obtain ⟨hf, dx, vs, hp, hn, hv⟩ := r.ob j p _ hj ho
  obtain ⟨q1, q2⟩ := datF_ok hd hn hv
  exact r.freezeO hj ho hf hp (.ins upd_same q1 (q2.mono (Ex.new hf)))
end
end Vm
end
section
set_option Elab.async false
set_option linter.all false
set_option maxRecDepth 100000
set_option maxHeartbeats 2000000
namespace Vm
open PySem PySem.Spec PyProof.Rows L2

/-! ### what an evaluation comes to -/
/-- no: nothing is claimed; ok; an error of the class c, with its one field, if it has one -/
inductive R (α : Type) where
  | no | ok (a : α) (ω : Om) | ex (c : Str) (fd : Option (Str × Dt)) (ω : Om)
def R.bind {α β : Type} : R α → (α → Om → R β) → R β
  | .no, _ => .no
  | .ok a ω, k => k a ω
  | .ex c fd ω, _ => .ex c fd ω
@[simp] theorem R.bind_no {α β : Type} (k : α → Om → R β) : (R.no : R α).bind k = .no := rfl
@[simp] theorem R.bind_ok {α β : Type} (a : α) (ω : Om) (k : α → Om → R β) : (R.ok a ω).bind k = k a ω := rfl
@[simp] theorem R.bind_ex {α β : Type} (c : Str) (fd : Option (Str × Dt)) (ω : Om) (k : α → Om → R β) : (R.ex c fd ω : R α).bind k = .ex c fd ω := rfl
/-- from a partial function -/
def R.of {α : Type} (o : Option α) (ω : Om) : R α := match o with
  | some a => .ok a ω
  | none => .no

def ExAt (K : PySem.W.Frag) (F H : Hp) (cls : Value) (dx : Option Addr) (c : Str) (fd : Option (Str × Dt)) : Prop :=
  cls = .ref (gad K c) ∧ (match fd with
    | none => dx = none
    | some (f, d) => ∃ a v, dx = some a ∧ H a = some (.xd [(f, v)]) ∧ Dat K F v d)

section
variable {α β γ δ : Type} (K : PySem.W.Frag) (At : Hp → List Addr → β → α → Prop)
/-- what must hold so that Q holds of whatever comes -/
def Out (F H : Hp) (ps : List Addr) (σ : L2.St) (W : WX) (Q : β → Hp → Prop) : R α → Prop
  | .no => False
  | .ok a ω' => ∀ v F' H' ps', Stp F H ps F' H' ps' → Rel K F' H' ps' ω' → At F' ps' v a → Q v H'
  | .ex c fd ω' => ∀ cls dx F' H' ps', Stp F H ps F' H' ps' → Rel K F' H' ps' ω' → ExAt K F' H' cls dx c fd → W cls dx σ H'
end
section
variable {α β γ δ : Type} {K : PySem.W.Frag} {At : Hp → List Addr → β → α → Prop} {At2 : Hp → List Addr → δ → γ → Prop} {F F' H H' : Hp} {ps ps' : List Addr} {σ : L2.St} {W : WX} {Q : β → Hp → Prop} {Q2 : δ → Hp → Prop} {ω ω' : Om}
theorem Out.step (s : Stp F H ps F' H' ps') : ∀ {r : R α}, Out K At F H ps σ W Q r → Out K At F' H' ps' σ W Q r
  | .no, h => h
  | .ok _ _, h => fun v F2 H2 p2 s2 => h v F2 H2 p2 (s.trans s2)
  | .ex _ _ _, h => fun c d F2 H2 p2 s2 => h c d F2 H2 p2 (s.trans s2)
theorem Out.bind {r : R α} {k : α → Om → R γ} (h : Out K At2 F H ps σ W Q2 (r.bind k))
    (hk : ∀ a ω1 v1 F1 H1 ps1, Stp F H ps F1 H1 ps1 → Rel K F1 H1 ps1 ω1 → At F1 ps1 v1 a → Out K At2 F1 H1 ps1 σ W Q2 (k a ω1) → Q v1 H1) : Out K At F H ps σ W Q r := by
  cases r with
  | no => exact h
  | ok a ω1 => exact fun v F1 H1 p1 s r1 q => hk a ω1 v F1 H1 p1 s r1 q (Out.step s h)
  | ex c fd ω1 => exact h
theorem Out.mono {r : R α} {Q' : β → Hp → Prop} (h : Out K At F H ps σ W Q r) (hq : ∀ v H', Q v H' → Q' v H') : Out K At F H ps σ W Q' r := by
  cases r with
  | no => exact h
  | ok a ω1 => exact fun v F1 H1 p1 s r1 q => hq _ _ (h v F1 H1 p1 s r1 q)
  | ex c fd ω1 => exact h
theorem Out.here {v : β} {a : α} (h : Out K At F H ps σ W Q (.ok a ω)) (r : Rel K F H ps ω) (q : At F ps v a) : Q v H := h v F H ps Stp.refl r q
end
/-- an expression's reading and what it comes to -/
def SemE (K : PySem.W.Frag) (W : WX) (t : TE) (f : Ro → Om → R Sv) : Prop := ∀ ρ ω σ F H ps, Rel K F H ps ω → Slots K F ps σ ρ → ∀ Q : VK, Out K (SvAt K) F H ps σ W Q (f ρ ω) → t σ H Q
def BAt (_ : Hp) (_ : List Addr) (b c : Bool) : Prop := b = c
def SemT (K : PySem.W.Frag) (W : WX) (t : TT) (f : Ro → Om → R Bool) : Prop := ∀ ρ ω σ F H ps, Rel K F H ps ω → Slots K F ps σ ρ → ∀ Q : Bool → Hp → Prop, Out K BAt F H ps σ W Q (f ρ ω) → t σ H Q
def SemA (K : PySem.W.Frag) (W : WX) (t : TA) (f : Ro → Om → R (List Sv)) : Prop := ∀ ρ ω σ F H ps, Rel K F H ps ω → Slots K F ps σ ρ → ∀ Q : List V → Hp → Prop, Out K (SvAll K) F H ps σ W Q (f ρ ω) → t σ H Q
/-- operations on values -/
def Sem2 (K : PySem.W.Frag) (r : R2) (g : Sv → Sv → Om → R Sv) : Prop := ∀ ω F H ps x y a b, Rel K F H ps ω → SvAt K F ps x a → SvAt K F ps y b → ∀ σ W (Q : VK), Out K (SvAt K) F H ps σ W Q (g a b ω) → r x y H Q
def Sem1 (K : PySem.W.Frag) (r : V → Hp → VK → Prop) (g : Sv → Om → R Sv) : Prop := ∀ ω F H ps x a, Rel K F H ps ω → SvAt K F ps x a → ∀ σ W (Q : VK), Out K (SvAt K) F H ps σ W Q (g a ω) → r x H Q
def SemN (K : PySem.W.Frag) (r : List V → Hp → VK → Prop) (g : List Sv → Om → R Sv) : Prop := ∀ ω F H ps xs as, Rel K F H ps ω → SvAll K F ps xs as → ∀ σ W (Q : VK), Out K (SvAt K) F H ps σ W Q (g as ω) → r xs H Q

section
variable {K : PySem.W.Frag} {W : WX} {ta tb tc : TE} {fa fb fc : Ro → Om → R Sv} {t u : TT} {ft fu : Ro → Om → R Bool} {r r' : R2} {g g' : Sv → Sv → Om → R Sv}
def fVar (i : Nat) : Ro → Om → R Sv := fun ρ ω => match ρ[i]? with
  | some (some sv) => .ok sv ω
  | _ => .no
theorem sem_var (i : Nat) : SemE K W (tVar i) (fVar i) := fun ρ ω σ F H ps r s Q h => by
  unfold fVar at h
  split at h
  · rename_i sv e
    obtain ⟨v, h1, h2⟩ := s.at_ i sv e
    exact ⟨v, h1, h.here r h2⟩
  · exact h.elim
def fC (d : Dt) : Ro → Om → R Sv := fun _ ω => .ok (.dat d) ω
theorem sem_c {v : V} {d : Dt} (hv : ∀ F, Dat K F v d) : SemE K W (tC v) (fC d) := fun ρ ω σ F H ps r s Q h => h.here r (hv F)
def f2 (g : Sv → Sv → Om → R Sv) (fa fb : Ro → Om → R Sv) : Ro → Om → R Sv := fun ρ ω => (fa ρ ω).bind fun a ω1 => (fb ρ ω1).bind fun b ω2 => g a b ω2
theorem sem_2 (ha : SemE K W ta fa) (hb : SemE K W tb fb) (hr : Sem2 K r g) : SemE K W (tOp r ta tb) (f2 g fa fb) := fun ρ ω σ F H ps rl s Q h =>
  ha ρ ω σ F H ps rl s _ (Out.bind h fun a ω1 v1 F1 H1 p1 s1 r1 q1 h1 =>
    hb ρ ω1 σ F1 H1 p1 r1 (s.step s1) _ (Out.bind h1 fun b ω2 v2 F2 H2 p2 s2 r2 q2 h2 => hr ω2 F2 H2 p2 v1 v2 a b r2 (q1.step s2) q2 σ W Q h2))
def f1 (g : Sv → Om → R Sv) (fa : Ro → Om → R Sv) : Ro → Om → R Sv := fun ρ ω => (fa ρ ω).bind fun a ω1 => g a ω1
theorem sem_1 {r : V → Hp → VK → Prop} {g : Sv → Om → R Sv} (ha : SemE K W ta fa) (hr : Sem1 K r g) : SemE K W (tUn r ta) (f1 g fa) := fun ρ ω σ F H ps rl s Q h =>
  ha ρ ω σ F H ps rl s _ (Out.bind h fun a ω1 v1 F1 H1 p1 s1 r1 q1 h1 => hr ω1 F1 H1 p1 v1 a r1 q1 σ W Q h1)
def fNil : Ro → Om → R (List Sv) := fun _ ω => .ok [] ω
theorem sem_nil : SemA K W tNil fNil := fun ρ ω σ F H ps rl s Q h => h.here rl .nil
def fCons (fa : Ro → Om → R Sv) (fr : Ro → Om → R (List Sv)) : Ro → Om → R (List Sv) := fun ρ ω => (fa ρ ω).bind fun a ω1 => (fr ρ ω1).bind fun r ω2 => .ok (a :: r) ω2
theorem sem_cons {tr : TA} {fr : Ro → Om → R (List Sv)} (ha : SemE K W ta fa) (hr : SemA K W tr fr) : SemA K W (tCons ta tr) (fCons fa fr) := fun ρ ω σ F H ps rl s Q h =>
  ha ρ ω σ F H ps rl s _ (Out.bind h fun a ω1 v1 F1 H1 p1 s1 r1 q1 h1 =>
    hr ρ ω1 σ F1 H1 p1 r1 (s.step s1) _ (Out.bind h1 fun b ω2 v2 F2 H2 p2 s2 r2 q2 h2 => h2.here r2 (.cons (q1.step s2) q2)))
def fN (g : List Sv → Om → R Sv) (fr : Ro → Om → R (List Sv)) : Ro → Om → R Sv := fun ρ ω => (fr ρ ω).bind fun a ω1 => g a ω1
theorem sem_cb {rr : List V → Hp → VK → Prop} {g : List Sv → Om → R Sv} {tr : TA} {fr : Ro → Om → R (List Sv)} (ha : SemA K W tr fr) (hr : SemN K rr g) : SemE K W (tCB rr tr) (fN g fr) := fun ρ ω σ F H ps rl s Q h =>
  ha ρ ω σ F H ps rl s _ (Out.bind h fun a ω1 v1 F1 H1 p1 s1 r1 q1 h1 => hr ω1 F1 H1 p1 v1 a r1 q1 σ W Q h1)
end

/-! ### reading the store -/
def Om.toD (ω : Om) : Sv → Option Dt
  | .dat d => some d
  | .own j => match ω[j]? with
    | some (.frz d) => some d
    | _ => none
/-- the items of a list (live or not) -/
def Om.lst (ω : Om) : Sv → Option (List Dt)
  | .dat (.lst ds) => some ds
  | .own j => match ω[j]? with
    | some (.frz (.lst ds)) => some ds
    | some (.lst ds) => some ds
    | _ => none
  | _ => none
/-- the items of a list, a list only read, a tuple -/
inductive Sq where
  | l (ds : List Dt) | t (ds : List Dt)
def Om.seq (ω : Om) : Sv → Option Sq
  | .dat (.lst ds) => some (.l ds)
  | .dat (.rol ds) => some (.l ds)
  | .dat (.tup ds) => some (.t ds)
  | .own j => match ω[j]? with
    | some (.frz (.lst ds)) => some (.l ds)
    | some (.lst ds) => some (.l ds)
    | _ => none
  | _ => none
section
variable {K : PySem.W.Frag} {F H : Hp} {ps : List Addr} {ω : Om} {v : V} {sv : Sv} {d : Dt} {ds : List Dt}
theorem Om.toD_ok (h : ω.toD sv = some d) (r : Rel K F H ps ω) (q : SvAt K F ps v sv) : Dat K F v d := by
  cases sv with
  | dat e => cases h; exact q
  | own j =>
    obtain ⟨p, h1, rfl⟩ := q
    unfold Om.toD at h
    simp only at h
    split at h
    · rename_i e he
      cases h
      exact r.ob j p _ h1 he
    · cases h
theorem Dat.lst_inv {a : V} {F : Hp} (h : Dat K F a (.lst ds)) : ∃ p vs, a = .ref p ∧ F p = some (.lst vs) ∧ DatAll K F vs ds := by
  cases h with | lst h r => exact ⟨_, _, rfl, h, r⟩
theorem Om.lst_ok (h : ω.lst sv = some ds) (r : Rel K F H ps ω) (q : SvAt K F ps v sv) : ∃ a vs, v = .ref a ∧ H a = some (.lst vs) ∧ DatAll K F vs ds := by
  unfold Om.lst at h
  split at h
  · cases h
    obtain ⟨p, vs, rfl, h1, h2⟩ := Dat.lst_inv q
    exact ⟨p, vs, rfl, r.ex _ _ h1, h2⟩
  · rename_i j
    obtain ⟨p, h1, rfl⟩ := q
    split at h
    · rename_i e he
      cases h
      obtain ⟨p', vs, e1, h3, h4⟩ := Dat.lst_inv (r.ob j p _ h1 he)
      cases e1
      exact ⟨p, vs, rfl, r.ex _ _ h3, h4⟩
    · rename_i e he
      cases h
      obtain ⟨_, vs, h3, h4⟩ := r.ob j p _ h1 he
      exact ⟨p, vs, rfl, h3, h4⟩
    · cases h
  · cases h
theorem Om.seq_l (h : ω.seq sv = some (.l ds)) (r : Rel K F H ps ω) (q : SvAt K F ps v sv) : ∃ a vs, v = .ref a ∧ SqL K H a vs ∧ DatAll K F vs ds := by
  unfold Om.seq at h
  split at h
  · cases h
    obtain ⟨p, vs, rfl, h1, h2⟩ := Dat.lst_inv q
    exact ⟨p, vs, rfl, SqL.of (r.ex _ _ h1), h2⟩
  · cases h
    cases q with | rol h1 h2 => exact ⟨_, _, rfl, r.ex.sql h1, h2⟩
  · cases h
  · rename_i j
    have : ω.lst (.own j) = some ds := by
      unfold Om.lst
      split at h <;> first | (cases h; simp [*]) | cases h
    obtain ⟨a, vs, e, h1, h2⟩ := Om.lst_ok this r q
    exact ⟨a, vs, e, SqL.of h1, h2⟩
  · cases h
theorem Om.seq_t (h : ω.seq sv = some (.t ds)) (r : Rel K F H ps ω) (q : SvAt K F ps v sv) : ∃ a vs, v = .ref a ∧ SqT K H a vs ∧ DatAll K F vs ds := by
  unfold Om.seq at h
  split at h
  · cases h
  · cases h
  · cases h
    cases q with | tup h1 h2 => exact ⟨_, _, rfl, r.ex.sqt h1, h2⟩
  · split at h <;> cases h
  · cases h
theorem Dat.int_inv {i : Int} (h : Dat K F v (.int i)) : v = .int i := by cases h; rfl
theorem Dat.str_inv {x : Str} (h : Dat K F v (.str x)) : v = .str x := by cases h; rfl
theorem Dat.bl_inv {x : Bool} (h : Dat K F v (.bl x)) : v = .bl x := by cases h; rfl
theorem Dat.non_inv (h : Dat K F v .non) : v = .non := by cases h; rfl
theorem Dat.tup_inv (h : Dat K F v (.tup ds)) : ∃ p vs, v = .ref p ∧ SqT K F p vs ∧ DatAll K F vs ds := by cases h with | tup h r => exact ⟨_, _, rfl, h, r⟩
end
section
variable {K : PySem.W.Frag} {F H : Hp} {ps : List Addr} {ω : Om} {σ : L2.St} {W : WX} {Q : VK} {d : Dt}
/-- a new list of data is laid -/
theorem Out.newL {p : Addr} {vs : List V} {ds : List Dt} (h : Out K (SvAt K) F H ps σ W Q (.ok (.dat (.lst ds)) ω)) (r : Rel K F H ps ω) (hp : H p = none) (hd : DatAll K F vs ds) : Q (.ref p) (upd H p (.lst vs)) := by
  obtain ⟨r1, s1⟩ := r.lay (o := .lst vs) hp
  exact h _ _ _ _ s1 r1 (Dat.lst upd_same (hd.mono s1.ex))
theorem Out.newT {p : Addr} {vs : List V} {ds : List Dt} (h : Out K (SvAt K) F H ps σ W Q (.ok (.dat (.tup ds)) ω)) (r : Rel K F H ps ω) (hp : H p = none) (hd : DatAll K F vs ds) : Q (.ref p) (upd H p (.tup vs)) := by
  obtain ⟨r1, s1⟩ := r.lay (o := .tup vs) hp
  exact h _ _ _ _ s1 r1 (Dat.tup (SqT.of upd_same) (hd.mono s1.ex))
end
end Vm
end
section
set_option Elab.async false
set_option linter.all false
set_option maxRecDepth 100000
set_option maxHeartbeats 4000000
/-! operations on values -/
namespace Vm
open PySem PySem.Spec PyProof.Rows L2

/-! ### + - * // % ** -/
def rStrMul : R2 := fun x y H Q => ∃ (a : Str) (n : Int), x = .str a ∧ y = .int n ∧ -(2 ^ 62) < n ∧ n < 2 ^ 62 ∧ a.length * n.toNat ≤ 1000000 ∧ Q (.str (Txt.mul a n)) H
theorem mulOk_of {a : Str} {n : Int} (h1 : -(2 ^ 62) < n) (h2 : n < 2 ^ 62) (h3 : a.length * n.toNat ≤ 1000000) : MulOk a n := by
  refine ⟨?_, fun h4 _ => ?_, fun _ _ => ?_⟩
  · have e1 : ¬ n < -(2 ^ 63 : Int) := by omega
    have e2 : ¬ n ≥ (2 ^ 63 : Int) := by omega
    rw [decide_eq_false e1, decide_eq_false e2]; rfl
  · have h5 : (a.length : Int) * n ≤ 1000000 := by
      have e : n = (n.toNat : Int) := by omega
      have h6 : ((a.length * n.toNat : Nat) : Int) ≤ ((1000000 : Nat) : Int) := Int.ofNat_le.mpr h3
      rw [Int.natCast_mul, ← e] at h6
      exact h6
    have h6 : (a.length : Int) ≤ (2 ^ 63 - 1) / n := (Int.le_ediv_iff_mul_le (by omega)).mpr (by omega)
    omega
  · unfold Builtin.Str.tooLong
    have : (sizeLine : Nat) = 16777216 := by decide
    simp; omega
section
variable {X : Cx}
theorem op_strMul : OpR X (binaryOp .Mult) rStrMul := by
  intro pins s σ H x y v u Q I rx ry h
  obtain ⟨a, n, rfl, rfl, h1, h2, h3, q⟩ := h
  obtain ⟨t, rfl⟩ := rx
  obtain ⟨t', rfl⟩ := ry
  exact SB.mul (mulOk_of h1 h2 h3) fun t' k => ⟨.str _, H, I.tok k, ⟨_, rfl⟩, q⟩
end
def rAdd (K : PySem.W.Frag) : R2 := fun x y H Q => (∃ i j, x = .int i ∧ y = .int j ∧ Q (.int (i + j)) H) ∨ (∃ i j, x = .str i ∧ y = .str j ∧ i.length + j.length ≤ sizeLine ∧ Q (.str (i ++ j)) H) ∨ rCat x y H Q ∨ rCatA K x y H Q
def rMul : R2 := fun x y H Q => (∃ i j, x = .int i ∧ y = .int j ∧ CMul i j ∧ Q (.int (i * j)) H) ∨ rStrMul x y H Q ∨ rRep x y H Q
theorem op_addA {X : Cx} : OpR X (binaryOp .Add) (rAdd X.K) := OpR.or op_add (OpR.or op_add_str (OpR.or op_cat op_catA))
theorem op_mulA {X : Cx} : OpR X (binaryOp .Mult) rMul := OpR.or op_mul (OpR.or op_strMul op_rep)

def addS (a b : Sv) (ω : Om) : R Sv := match ω.toD a, ω.toD b with
  | some (.int i), some (.int j) => .ok (.dat (.int (i + j))) ω
  | some (.str x), some (.str y) => if x.length + y.length ≤ sizeLine then .ok (.dat (.str (x ++ y))) ω else .no
  | some (.tup xs), some (.tup ys) => if xs.length + ys.length ≤ sizeLine then .ok (.dat (.tup (xs ++ ys))) ω else .no
  | _, _ => match ω.lst a, ω.lst b with
    | some xs, some ys => if xs.length + ys.length ≤ sizeLine then .ok (.dat (.lst (xs ++ ys))) ω else .no
    | _, _ => .no
section
variable {K : PySem.W.Frag}
theorem DatAll.nil_of {F : Hp} {vs : List V} {ds : List Dt} (h : DatAll K F vs ds) : vs = [] → ds = [] := fun e => by
  subst e; cases h; rfl
theorem sem_add : Sem2 K (rAdd K) addS := by
  intro ω F H ps x y a b r qa qb σ W Q h
  unfold addS at h
  split at h
  · rename_i i j e1 e2
    have h1 := Om.toD_ok e1 r qa
    have h2 := Om.toD_ok e2 r qb
    exact .inl ⟨i, j, h1.int_inv, h2.int_inv, h.here r (.int _)⟩
  · rename_i i j e1 e2
    have h1 := Om.toD_ok e1 r qa
    have h2 := Om.toD_ok e2 r qb
    split at h
    · rename_i hl
      exact .inr (.inl ⟨i, j, h1.str_inv, h2.str_inv, hl, h.here r (.str _)⟩)
    · exact h.elim
  · rename_i xs ys e1 e2
    have h1 := Om.toD_ok e1 r qa
    have h2 := Om.toD_ok e2 r qb
    obtain ⟨p, vs, rfl, t1, d1⟩ := h1.tup_inv
    obtain ⟨q, ws, rfl, t2, d2⟩ := h2.tup_inv
    split at h
    · rename_i hl
      refine .inr (.inr (.inr ⟨p, q, vs, ws, rfl, rfl, r.ex.sqt t1, r.ex.sqt t2, by rw [d1.length, d2.length]; exact hl, fun e => ?_, fun _ e => ?_, fun _ _ z hz => ?_⟩))
      · have := d1.nil_of e
        subst this
        have hq : SvAt K F ps (.ref q) (.dat (.tup ys)) := Dat.tup t2 d2
        exact h.here r hq
      · have := d2.nil_of e
        subst this
        rw [List.append_nil] at h
        have hq : SvAt K F ps (.ref p) (.dat (.tup xs)) := Dat.tup t1 d1
        exact h.here r hq
      · exact h.newT r hz (d1.append d2)
    · exact h.elim
  · split at h
    · rename_i xs ys e1 e2
      obtain ⟨p, vs, rfl, l1, d1⟩ := Om.lst_ok e1 r qa
      obtain ⟨q, ws, rfl, l2, d2⟩ := Om.lst_ok e2 r qb
      split at h
      · rename_i hl
        exact .inr (.inr (.inl ⟨p, q, vs, ws, rfl, rfl, l1, l2, by rw [d1.length, d2.length]; exact hl, fun z hz => h.newL r hz (d1.append d2)⟩))
      · exact h.elim
    · exact h.elim
def subS (a b : Sv) (ω : Om) : R Sv := match ω.toD a, ω.toD b with
  | some (.int i), some (.int j) => .ok (.dat (.int (i - j))) ω
  | _, _ => .no
theorem sem_sub : Sem2 K (rI0 fun i j => .int (i - j)) subS := by
  intro ω F H ps x y a b r qa qb σ W Q h
  unfold subS at h
  split at h
  · rename_i i j e1 e2
    exact ⟨i, j, (Om.toD_ok e1 r qa).int_inv, (Om.toD_ok e2 r qb).int_inv, h.here r (.int _)⟩
  · exact h.elim
def cmul (i j : Int) : Bool := (decide (-(2 ^ 64) < i) && decide (i < 2 ^ 64)) || (decide (-(2 ^ 64) < j) && decide (j < 2 ^ 64))
def mulS (a b : Sv) (ω : Om) : R Sv := match ω.toD a, ω.toD b with
  | some (.int i), some (.int j) => if cmul i j then .ok (.dat (.int (i * j))) ω else .no
  | some (.str x), some (.int n) => if decide (-(2 ^ 62) < n) && decide (n < 2 ^ 62) && decide (x.length * n.toNat ≤ 1000000) then .ok (.dat (.str (Txt.mul x n))) ω else .no
  | _, some (.int n) => match ω.lst a with
    | some xs => if decide (-(2 ^ 63) ≤ n) && decide (n < 2 ^ 63) && decide (xs.length * n.toNat ≤ sizeLine) then .ok (.dat (.lst (List.replicate n.toNat xs).flatten)) ω else .no
    | _ => .no
  | _, _ => .no
theorem sem_mul : Sem2 K rMul mulS := by
  intro ω F H ps x y a b r qa qb σ W Q h
  unfold mulS at h
  split at h
  · rename_i i j e1 e2
    split at h
    · rename_i hc
      simp only [cmul, Bool.or_eq_true, Bool.and_eq_true, decide_eq_true_eq] at hc
      exact .inl ⟨i, j, (Om.toD_ok e1 r qa).int_inv, (Om.toD_ok e2 r qb).int_inv, hc, h.here r (.int _)⟩
    · exact h.elim
  · rename_i z n e1 e2
    split at h
    · rename_i hc
      simp only [Bool.and_eq_true, decide_eq_true_eq] at hc
      exact .inr (.inl ⟨z, n, (Om.toD_ok e1 r qa).str_inv, (Om.toD_ok e2 r qb).int_inv, hc.1.1, hc.1.2, hc.2, h.here r (.str _)⟩)
    · exact h.elim
  · rename_i n e1 e2 e3
    split at h
    · rename_i xs e4
      split at h
      · rename_i hc
        simp only [Bool.and_eq_true, decide_eq_true_eq] at hc
        obtain ⟨p, vs, rfl, l1, d1⟩ := Om.lst_ok e4 r qa
        exact .inr (.inr ⟨p, n, vs, rfl, (Om.toD_ok (by assumption) r qb).int_inv, l1, hc.1.1, hc.1.2, by rw [d1.length]; exact hc.2, fun z hz => h.newL r hz (d1.flat _)⟩)
      · exact h.elim
    · exact h.elim
  · exact h.elim
def fdivS (a b : Sv) (ω : Om) : R Sv := match ω.toD a, ω.toD b with
  | some (.int i), some (.int j) => if decide (0 < j) && decide (j < 1073741824) then .ok (.dat (.int (i / j))) ω else .no
  | _, _ => .no
theorem sem_fdiv : Sem2 K (rI CDiv fun i j => .int (i / j)) fdivS := by
  intro ω F H ps x y a b r qa qb σ W Q h
  unfold fdivS at h
  split at h
  · rename_i i j e1 e2
    split at h
    · rename_i hc
      simp only [Bool.and_eq_true, decide_eq_true_eq] at hc
      exact ⟨i, j, (Om.toD_ok e1 r qa).int_inv, (Om.toD_ok e2 r qb).int_inv, hc, h.here r (.int _)⟩
    · exact h.elim
  · exact h.elim
def modS (a b : Sv) (ω : Om) : R Sv := match ω.toD a, ω.toD b with
  | some (.int i), some (.int j) => if 0 < j then .ok (.dat (.int (i % j))) ω else .no
  | _, _ => .no
theorem sem_mod : Sem2 K (rI (fun _ j => 0 < j) fun i j => .int (i % j)) modS := by
  intro ω F H ps x y a b r qa qb σ W Q h
  unfold modS at h
  split at h
  · rename_i i j e1 e2
    split at h
    · rename_i hc
      exact ⟨i, j, (Om.toD_ok e1 r qa).int_inv, (Om.toD_ok e2 r qb).int_inv, hc, h.here r (.int _)⟩
    · exact h.elim
  · exact h.elim
def powS (a b : Sv) (ω : Om) : R Sv := match ω.toD a, ω.toD b with
  | some (.int i), some (.int j) => if decide (0 ≤ j) && decide (j ≤ 1000000) && decide (i.natAbs < 2 ^ 64) then .ok (.dat (.int (i ^ j.toNat))) ω else .no
  | _, _ => .no
theorem sem_pow : Sem2 K (rI CPow fun i j => .int (i ^ j.toNat)) powS := by
  intro ω F H ps x y a b r qa qb σ W Q h
  unfold powS at h
  split at h
  · rename_i i j e1 e2
    split at h
    · rename_i hc
      simp only [Bool.and_eq_true, decide_eq_true_eq] at hc
      exact ⟨i, j, (Om.toD_ok e1 r qa).int_inv, (Om.toD_ok e2 r qb).int_inv, ⟨hc.1.1, hc.1.2, hc.2⟩, h.here r (.int _)⟩
    · exact h.elim
  · exact h.elim
def negS (a : Sv) (ω : Om) : R Sv := match ω.toD a with
  | some (.int i) => .ok (.dat (.int (-i))) ω
  | _ => .no
theorem sem_neg : Sem1 K (rU fun i => .int (-i)) negS := by
  intro ω F H ps x a r qa σ W Q h
  unfold negS at h
  split at h
  · rename_i i e1
    exact ⟨i, (Om.toD_ok e1 r qa).int_inv, h.here r (.int _)⟩
  · exact h.elim
end

/-! ### == and != -/
mutual
def Dt.py : Dt → Option PyData
  | .non => some .none
  | .bl b => some (.bool b)
  | .int i => some (.int i)
  | .str s => some (.str s)
  | .lst xs => (pyAll xs).map .list
  | .rol xs => (pyAll xs).map .list
  | .tup xs => (pyAll xs).map .tuple
  | .fn _ => none
  | .ty _ => none
  | .dic _ => none
  | .dit _ => none
  | .ins _ _ => none
  | .err0 _ => none
  | .err _ _ _ => none
def pyAll : List Dt → Option (List PyData)
  | [] => some []
  | x :: xs => match Dt.py x, pyAll xs with
    | some a, some l => some (a :: l)
    | _, _ => none
end
def Om.py (ω : Om) : Sv → Option PyData
  | .dat d => d.py
  | .own j => match ω[j]? with
    | some (.frz d) => d.py
    | some (.lst ds) => (pyAll ds).map .list
    | _ => none
section
variable {K : PySem.W.Frag} {F H : Hp} {ps : List Addr} {ω : Om}
mutual
theorem Dat.dp (e : Ex F H) : ∀ {v : V} {d : Dt} {p : PyData}, Dat K F v d → d.py = some p → Dp K H v p
  | _, _, _, .non, h => by cases h; exact .non
  | _, _, _, .bl b, h => by cases h; exact .bl b
  | _, _, _, .int b, h => by cases h; exact .int b
  | _, _, _, .str b, h => by cases h; exact .str b
  | _, _, _, .fn x, h => by simp [Dt.py] at h
  | _, _, _, .ty x, h => by simp [Dt.py] at h
  | _, _, _, .lst (ds := ds) h1 h2, h => by
    simp only [Dt.py, Option.map_eq_some_iff] at h
    obtain ⟨l, h3, rfl⟩ := h
    exact .lst (SqL.of (e _ _ h1)) (DatAll.dp e h2 h3)
  | _, _, _, .rol h1 h2, h => by
    simp only [Dt.py, Option.map_eq_some_iff] at h
    obtain ⟨l, h3, rfl⟩ := h
    exact .lst (e.sql h1) (DatAll.dp e h2 h3)
  | _, _, _, .tup h1 h2, h => by
    simp only [Dt.py, Option.map_eq_some_iff] at h
    obtain ⟨l, h3, rfl⟩ := h
    exact .tup (e.sqt h1) (DatAll.dp e h2 h3)
  | _, _, _, .dic .., h => by simp [Dt.py] at h
  | _, _, _, .dit .., h => by simp [Dt.py] at h
  | _, _, _, .ins .., h => by simp [Dt.py] at h
  | _, _, _, .err0 .., h => by simp [Dt.py] at h
  | _, _, _, .err .., h => by simp [Dt.py] at h
theorem DatAll.dp (e : Ex F H) : ∀ {vs : List V} {ds : List Dt} {l : List PyData}, DatAll K F vs ds → pyAll ds = some l → DpAll K H vs l
  | _, _, _, .nil, h => by cases h; exact .nil
  | _, _, _, .cons (d := d) (ds := ds) h1 h2, h => by
    simp only [pyAll] at h
    split at h
    · rename_i a l e1 e2
      cases h
      exact .cons (Dat.dp e h1 e1) (DatAll.dp e h2 e2)
    · cases h
end
theorem Om.py_ok {sv : Sv} {v : V} {p : PyData} (h : ω.py sv = some p) (r : Rel K F H ps ω) (q : SvAt K F ps v sv) : Dp K H v p := by
  cases sv with
  | dat d => exact Dat.dp r.ex q h
  | own j =>
    obtain ⟨a, h1, rfl⟩ := q
    unfold Om.py at h
    simp only at h
    split at h
    · rename_i d e
      exact Dat.dp r.ex (r.ob j a _ h1 e) h
    · rename_i ds e
      obtain ⟨_, vs, h3, h4⟩ := r.ob j a _ h1 e
      simp only [Option.map_eq_some_iff] at h
      obtain ⟨l, h5, rfl⟩ := h
      exact .lst (SqL.of h3) (DatAll.dp r.ex h4 h5)
    · cases h
end
/-- two lists of unlike lengths; else data as a whole -/
def rEqA (K : PySem.W.Frag) (neg : Bool) : R2 := fun x y H Q => (scal x y = true ∧ Q (.bl (if neg then !decide (x = y) else decide (x = y))) H) ∨ (∃ a b xs ys, x = .ref a ∧ y = .ref b ∧ SqL K H a xs ∧ SqL K H b ys ∧ xs.length ≠ ys.length ∧ Q (.bl neg) H) ∨
  (∃ d e, Dp K H x d ∧ Dp K H y e ∧ SeqAt.shaped d = true ∧ SeqAt.shaped e = true ∧ Q (.bl (if neg then !PyData.eqv d e else PyData.eqv d e)) H)
section
variable {X : Cx}
theorem plain_list {h : Heap} {a : Addr} {its : Array Value} (p : PlainL h a its) : h.IsList a its := by
  obtain ⟨o, n, h1, h2, h3, h4⟩ := p
  exact ⟨o, h1, h2, n, h4⟩
theorem op_eqA (hu : X.A.units + 64 < cLine) : OpR X (compareOp .Eq) (rEqA X.K false) := by
  intro pins s σ H x y v u Q I rx ry h
  rcases h with h | ⟨a, b, xs, ys, rfl, rfl, h1, h2, hl, q⟩ | h
  · exact op_eq pins s σ H x y v u Q I rx ry h
  · cases rx
    cases ry
    obtain ⟨i1, r1, p1, z1⟩ := I.list h1
    obtain ⟨i2, r2, p2, z2⟩ := I.list h2
    refine SeqAt.eq_list_lengthsAt (plain_list p1) (plain_list p2) ?_ (by omega) ⟨.bl _, H, I, rfl, q⟩
    have e1 := r1.length
    have e2 := r2.length
    simp; omega
  · exact op_eqD hu pins s σ H x y v u Q I rx ry h
theorem op_neA (hu : X.A.units + 64 < cLine) : OpR X (compareOp .NotEq) (rEqA X.K true) := by
  intro pins s σ H x y v u Q I rx ry h
  rcases h with h | ⟨a, b, xs, ys, rfl, rfl, h1, h2, hl, q⟩ | h
  · exact op_ne pins s σ H x y v u Q I rx ry h
  · cases rx
    cases ry
    obtain ⟨i1, r1, p1, z1⟩ := I.list h1
    obtain ⟨i2, r2, p2, z2⟩ := I.list h2
    refine SeqAt.RcNeAt.lists_lengths (plain_list p1) (plain_list p2) ?_ (by omega) _ _ _ _ ⟨.bl _, H, I, rfl, q⟩
    have e1 := r1.length
    have e2 := r2.length
    simp; omega
  · exact op_neD hu pins s σ H x y v u Q I rx ry h
end
/-- scalars of which == is plain -/
def scD : Dt → Dt → Option Bool
  | .non, .non => some true | .non, .int _ => some false | .int _, .non => some false | .non, .bl _ => some false | .bl _, .non => some false | .non, .str _ => some false | .str _, .non => some false
  | .int i, .int j => some (decide (i = j)) | .bl i, .bl j => some (decide (i = j)) | .str i, .str j => some (decide (i = j))
  | .int _, .str _ => some false | .str _, .int _ => some false | .bl _, .str _ => some false | .str _, .bl _ => some false
  | _, _ => none
/-- x == y, whatever they are -/
def Om.eq (ω : Om) (a b : Sv) : Option Bool :=
  match (match ω.toD a, ω.toD b with | some d, some e => scD d e | _, _ => none) with
  | some c => some c
  | none => match (match ω.seq a, ω.seq b with | some (.l xs), some (.l ys) => decide (xs.length ≠ ys.length) | _, _ => false) with
    | true => some false
    | false => match ω.py a, ω.py b with
      | some p, some q => if SeqAt.shaped p && SeqAt.shaped q then some (PyData.eqv p q) else none
      | _, _ => none
def eqS (neg : Bool) (a b : Sv) (ω : Om) : R Sv := match ω.eq a b with
  | some c => .ok (.dat (.bl (if neg then !c else c))) ω
  | none => .no
section
variable {K : PySem.W.Frag}
theorem scD_ok {F : Hp} {x y : V} {d e : Dt} {c : Bool} (h : scD d e = some c) (hx : Dat K F x d) (hy : Dat K F y e) : scal x y = true ∧ decide (x = y) = c := by
  cases hx <;> cases hy <;> simp [scD, scal] at h ⊢ <;> first | exact h | (subst h; simp)
theorem sem_eq (neg : Bool) : Sem2 K (rEqA K neg) (eqS neg) := by
  intro ω F H ps x y a b r qa qb σ W Q h
  unfold eqS at h
  split at h
  · rename_i c hc
    have hq := h.here r (.bl _)
    unfold Om.eq at hc
    split at hc
    · rename_i c' e1
      cases hc
      split at e1
      · rename_i d e h1 h2
        obtain ⟨s1, s2⟩ := scD_ok e1 (Om.toD_ok h1 r qa) (Om.toD_ok h2 r qb)
        refine .inl ⟨s1, ?_⟩
        rw [s2]; exact hq
      · cases e1
    · split at hc
      · rename_i e1
        cases hc
        split at e1
        · rename_i xs ys h1 h2
          obtain ⟨p, vs, rfl, l1, d1⟩ := Om.seq_l h1 r qa
          obtain ⟨q, ws, rfl, l2, d2⟩ := Om.seq_l h2 r qb
          refine .inr (.inl ⟨p, q, vs, ws, rfl, rfl, l1, l2, by rw [d1.length, d2.length]; simpa using e1, ?_⟩)
          cases neg <;> exact hq
        · cases e1
      · split at hc
        · rename_i p q h1 h2
          split at hc
          · rename_i hs
            cases hc
            rw [Bool.and_eq_true] at hs
            exact .inr (.inr ⟨p, q, Om.py_ok h1 r qa, Om.py_ok h2 r qb, hs.1, hs.2, hq⟩)
          · cases hc
        · cases hc
  · exact h.elim
end
end Vm
end
section
set_option Elab.async false
set_option linter.all false
set_option maxRecDepth 100000
/-! a truth stands where a number may: `<=` -/
namespace Vm
open PySem PySem.Spec PyProof.Rows L2
def b2n (b : Bool) : Int := if b = true then 1 else 0
theorem gives_ge_bi (b : Bool) (i : Int) (t : Tok) : PySem.Gives (Builtin.«int.__ge__» ⟨[.bool b, .int i t], []⟩) (.val (Value.bool (decide (b2n b ≥ i)))) :=
  .of_wp fun M A E s Q h => by obtain ⟨hp, g, d, tk, os⟩ := s; wp_walk; exact ⟨_, rfl, h⟩
theorem gives_le_bi (b : Bool) (i : Int) (t : Tok) : PySem.Gives (Builtin.«int.__le__» ⟨[.bool b, .int i t], []⟩) (.val (Value.bool (decide (b2n b ≤ i)))) :=
  .of_wp fun M A E s Q h => by obtain ⟨hp, g, d, tk, os⟩ := s; wp_walk; exact ⟨_, rfl, h⟩
theorem le_ib {prog : Program} {w : World} {A : Around} {E : Value → Shared → Prop} {s : Shared} {Q : Value → Shared → Prop} (i : Int) (t : Tok) (b : Bool) (h : Q (.bool (decide (i ≤ b2n b))) s) : wpAny (model prog w) A (compareOp .LtE (.int i t) (.bool b)) Q E s := by
  show wpAny _ A (richCompare .LtE _ _) Q E s
  exact PySem.SeqAt.rc_sub_first_or (typeIs_int s i t) rfl (by decide) F.sub_bool_int F.slot_bool_ge_refl
    (call_gives F.slot_bool_ge_refl rfl F.entry_int_ge (F.args_int_ge_2 _ _) (gives_ge_bi b i t) ⟨nofun, h⟩) (.inl rfl)
theorem le_bi {prog : Program} {w : World} {A : Around} {E : Value → Shared → Prop} {s : Shared} {Q : Value → Shared → Prop} (b : Bool) (i : Int) (t : Tok) (h : Q (.bool (decide (b2n b ≤ i))) s) : wpAny (model prog w) A (compareOp .LtE (.bool b) (.int i t)) Q E s := by
  show wpAny _ A (richCompare .LtE _ _) Q E s
  exact PySem.SeqAt.rc_left_or rfl (typeIs_int s i t) (by decide) F.sub_int_bool F.slot_bool_le
    (call_gives F.slot_bool_le rfl F.entry_int_le (F.args_int_le_2 _ _) (gives_le_bi b i t) ⟨nofun, h⟩) (.inl rfl)
theorem op_le_ib {X : Cx} : OpR X (compareOp .LtE) (fun x y H Q => ∃ i b, x = .int i ∧ y = .bl b ∧ Q (.bl (decide (i ≤ b2n b))) H) := by
  intro pins s σ H x y v u Q I rx ry h
  obtain ⟨i, b, rfl, rfl, q⟩ := h
  obtain ⟨t, rfl⟩ := rx
  cases (show u = Value.bool b from ry)
  exact le_ib i t b ⟨.bl _, H, I, rfl, q⟩
theorem op_le_bi {X : Cx} : OpR X (compareOp .LtE) (fun x y H Q => ∃ b i, x = .bl b ∧ y = .int i ∧ Q (.bl (decide (b2n b ≤ i))) H) := by
  intro pins s σ H x y v u Q I rx ry h
  obtain ⟨b, i, rfl, rfl, q⟩ := h
  cases (show v = Value.bool b from rx)
  obtain ⟨t, rfl⟩ := ry
  exact le_bi b i t ⟨.bl _, H, I, rfl, q⟩
end Vm
end
section
set_option Elab.async false
set_option linter.all false
set_option maxRecDepth 100000
set_option maxHeartbeats 4000000
/-! comparisons, subscripts, slices, calls and methods on values -/
namespace Vm
open PySem PySem.Spec PyProof.Rows L2

/-! ### order -/
inductive Ord4 where
  | lt | le | gt | ge
  deriving DecidableEq
def Ord4.i : Ord4 → Int → Int → Bool
  | .lt, i, j => decide (i < j) | .le, i, j => decide (i ≤ j) | .gt, i, j => decide (j < i) | .ge, i, j => decide (j ≤ i)
def Ord4.s : Ord4 → Str → Str → Bool
  | .lt, i, j => decide (i.cps.toList < j.cps.toList) | .le, i, j => !decide (j.cps.toList < i.cps.toList) | .gt, i, j => decide (j.cps.toList < i.cps.toList) | .ge, i, j => !decide (i.cps.toList < j.cps.toList)
def Ord4.op : Ord4 → CmpOp
  | .lt => .Lt | .le => .LtE | .gt => .Gt | .ge => .GtE
/-- a truth beside a number: at `<=` only -/
def rOrdB (o : Ord4) : R2 := fun x y H Q => o = .le ∧ ((∃ i b, x = .int i ∧ y = .bl b ∧ Q (.bl (decide (i ≤ b2n b))) H) ∨ (∃ b i, x = .bl b ∧ y = .int i ∧ Q (.bl (decide (b2n b ≤ i))) H))
def rOrd (o : Ord4) : R2 := fun x y H Q => (∃ i j, x = .int i ∧ y = .int j ∧ Q (.bl (o.i i j)) H) ∨ (∃ i j, x = .str i ∧ y = .str j ∧ Q (.bl (o.s i j)) H) ∨ rOrdB o x y H Q
theorem op_ordB {X : Cx} {g} {o : Ord4} (h : o ≠ .le) : OpR X g (rOrdB o) := fun _ _ _ _ _ _ _ _ _ _ _ _ q => absurd q.1 h
theorem op_ord {X : Cx} : ∀ o : Ord4, OpR X (compareOp o.op) (rOrd o)
  | .lt => OpR.or op_lt (OpR.or op_lt_str (op_ordB nofun))
  | .le => OpR.or op_le (OpR.or op_le_str (by
      intro pins s σ H x y v u Q I rx ry h
      rcases h.2 with h | h
      · exact op_le_ib _ _ _ _ _ _ _ _ _ I rx ry h
      · exact op_le_bi _ _ _ _ _ _ _ _ _ I rx ry h))
  | .gt => OpR.or op_gt (OpR.or op_gt_str (op_ordB nofun))
  | .ge => OpR.or op_ge (OpR.or op_ge_str (op_ordB nofun))
def ordS (o : Ord4) (a b : Sv) (ω : Om) : R Sv := match ω.toD a, ω.toD b with
  | some (.int i), some (.int j) => .ok (.dat (.bl (o.i i j))) ω
  | some (.str i), some (.str j) => .ok (.dat (.bl (o.s i j))) ω
  | some (.int i), some (.bl b) => if o = .le then .ok (.dat (.bl (decide (i ≤ b2n b)))) ω else .no
  | some (.bl b), some (.int i) => if o = .le then .ok (.dat (.bl (decide (b2n b ≤ i)))) ω else .no
  | _, _ => .no
section
variable {K : PySem.W.Frag}
theorem sem_ord (o : Ord4) : Sem2 K (rOrd o) (ordS o) := by
  intro ω F H ps x y a b r qa qb σ W Q h
  unfold ordS at h
  split at h
  · rename_i i j e1 e2
    exact .inl ⟨i, j, (Om.toD_ok e1 r qa).int_inv, (Om.toD_ok e2 r qb).int_inv, h.here r (.bl _)⟩
  · rename_i i j e1 e2
    exact .inr (.inl ⟨i, j, (Om.toD_ok e1 r qa).str_inv, (Om.toD_ok e2 r qb).str_inv, h.here r (.bl _)⟩)
  · rename_i i b e1 e2
    by_cases ho : o = .le
    · rw [if_pos ho] at h
      exact .inr (.inr ⟨ho, .inl ⟨i, b, (Om.toD_ok e1 r qa).int_inv, by cases (Om.toD_ok e2 r qb); rfl, h.here r (.bl _)⟩⟩)
    · rw [if_neg ho] at h
      exact h.elim
  · rename_i b i e1 e2
    by_cases ho : o = .le
    · rw [if_pos ho] at h
      exact .inr (.inr ⟨ho, .inr ⟨b, i, by cases (Om.toD_ok e1 r qa); rfl, (Om.toD_ok e2 r qb).int_inv, h.here r (.bl _)⟩⟩)
    · rw [if_neg ho] at h
      exact h.elim
  · exact h.elim
end

/-! ### is, is not: None and truths -/
def rIs (neg : Bool) : R2 := fun x y H Q => (y = .non ∧ Q (.bl (if neg then !decide (x = .non) else decide (x = .non))) H) ∨ (∃ b, y = .bl b ∧ Q (.bl (if neg then !decide (x = .bl b) else decide (x = .bl b))) H)
theorem rel_bl {x : V} {v : Value} (r : RelV x v) (b : Bool) : plainIs v (.bool b) = true ∧ (v == .bool b) = decide (x = .bl b) := by
  cases x <;> first
    | (cases r; exact ⟨rfl, rfl⟩)
    | (obtain ⟨t, rfl⟩ := r; exact ⟨rfl, rfl⟩)
    | (rename_i c
       cases r
       refine ⟨rfl, ?_⟩
       cases c <;> cases b <;> rfl)
theorem op_is_at {X : Cx} : OpR X (compareOp .Is) (fun x y H Q => ∃ b, y = .bl b ∧ Q (.bl (decide (x = .bl b))) H) := by
  intro pins s σ H x y v u Q I rx ry h
  obtain ⟨b, rfl, q⟩ := h
  cases (show u = Value.bool b from ry)
  obtain ⟨h1, h2⟩ := rel_bl rx b
  exact wpAny_is_plain h1 ⟨.bl _, H, I, by rw [h2]; rfl, q⟩
theorem op_isnot_at {X : Cx} : OpR X (compareOp .IsNot) (fun x y H Q => ∃ b, y = .bl b ∧ Q (.bl (!decide (x = .bl b))) H) := by
  intro pins s σ H x y v u Q I rx ry h
  obtain ⟨b, rfl, q⟩ := h
  cases (show u = Value.bool b from ry)
  obtain ⟨h1, h2⟩ := rel_bl rx b
  exact wpAny_isNot_plain h1 ⟨.bl _, H, I, by rw [h2]; rfl, q⟩
theorem op_isA {X : Cx} : OpR X (compareOp .Is) (rIs false) := OpR.or op_isN op_is_at
theorem op_isnotA {X : Cx} : OpR X (compareOp .IsNot) (rIs true) := OpR.or op_notN op_isnot_at
def Dt.isNon : Dt → Bool
  | .non => true
  | _ => false
def Dt.isBl : Dt → Bool → Bool
  | .bl a, b => decide (a = b)
  | _, _ => false
def isS (neg : Bool) (a b : Sv) (ω : Om) : R Sv := match a, b with
  | .dat d, .dat (.bl j) => .ok (.dat (.bl (if neg then !d.isBl j else d.isBl j))) ω
  | .dat d, .dat .non => .ok (.dat (.bl (if neg then !d.isNon else d.isNon))) ω
  | .own _, .dat .non => .ok (.dat (.bl neg)) ω
  | _, _ => .no
section
variable {K : PySem.W.Frag}
theorem Dat.isNon {F : Hp} {v : V} {d : Dt} (h : Dat K F v d) : decide (v = .non) = d.isNon := by cases h <;> rfl
theorem Dat.isBl {F : Hp} {v : V} {d : Dt} (h : Dat K F v d) (b : Bool) : decide (v = .bl b) = d.isBl b := by
  cases h <;> first
    | rfl
    | (rename_i c; cases c <;> cases b <;> rfl)
theorem sem_is (neg : Bool) : Sem2 K (rIs neg) (isS neg) := by
  intro ω F H ps x y a b r qa qb σ W Q h
  unfold isS at h
  split at h
  · rename_i d j
    refine .inr ⟨j, Dat.bl_inv qb, ?_⟩
    rw [Dat.isBl qa]
    exact h.here r (.bl _)
  · rename_i d _
    refine .inl ⟨Dat.non_inv qb, ?_⟩
    rw [Dat.isNon qa]
    exact h.here r (.bl _)
  · rename_i j
    obtain ⟨p, _, rfl⟩ := qa
    refine .inl ⟨Dat.non_inv qb, ?_⟩
    have hq := h.here r (.bl _)
    cases neg <;> exact hq
  · exact h.elim
end

/-! ### in, not in: a flat thing in a list or tuple of such; one text within another -/
def Dt.flat : Dt → Bool
  | .non => true | .bl _ => true | .int _ => true | .str _ => true
  | _ => false
def eqF : Dt → Dt → Bool
  | .non, .non => true
  | .bl a, .bl b => a == b
  | .bl a, .int b => (if a then 1 else 0) == b
  | .int a, .bl b => a == (if b then 1 else 0)
  | .int a, .int b => a == b
  | .str a, .str b => a == b
  | _, _ => false
def inF (x : Dt) (xs : List Dt) : Bool := xs.any fun y => eqF y x
def rInA (K : PySem.W.Frag) (neg : Bool) : R2 := fun x y H Q => rIn K neg x y H Q ∨ (∃ i j, x = .str i ∧ y = .str j ∧ Q (.bl (if neg then !(!(Builtin.Str.occurrences j i 0 j.length 1).isEmpty) else !(Builtin.Str.occurrences j i 0 j.length 1).isEmpty)) H)
theorem op_inA {X : Cx} : OpR X (compareOp .In) (rInA X.K false) := OpR.or op_in_seq op_in_str
theorem op_notinA {X : Cx} : OpR X (compareOp .NotIn) (rInA X.K true) := OpR.or op_notIn_seq op_notIn_str
def inS (neg : Bool) (a b : Sv) (ω : Om) : R Sv := match ω.toD a with
  | some d => match ω.seq b with
    | some (.l xs) => if d.flat && xs.all Dt.flat then .ok (.dat (.bl (if neg then !inF d xs else inF d xs))) ω else .no
    | some (.t xs) => if d.flat && xs.all Dt.flat then .ok (.dat (.bl (if neg then !inF d xs else inF d xs))) ω else .no
    | none => match d, ω.toD b with
      | .str i, some (.str j) => .ok (.dat (.bl (if neg then !(!(Builtin.Str.occurrences j i 0 j.length 1).isEmpty) else !(Builtin.Str.occurrences j i 0 j.length 1).isEmpty))) ω
      | _, _ => .no
  | none => .no
section
variable {K : PySem.W.Frag}
theorem Dat.flatV {F : Hp} {v : V} {d : Dt} (h : Dat K F v d) (f : d.flat = true) : L2.flatV v = true := by
  cases h <;> first | rfl | cases f
theorem DatAll.flatV {F : Hp} : ∀ {vs : List V} {ds : List Dt}, DatAll K F vs ds → ds.all Dt.flat = true → vs.all L2.flatV = true
  | _, _, .nil, _ => rfl
  | _, _, .cons h r, f => by
    rw [List.all_cons, Bool.and_eq_true] at f ⊢
    exact ⟨h.flatV f.1, DatAll.flatV r f.2⟩
theorem eqF_ok {F : Hp} {v w : V} {d e : Dt} (h1 : Dat K F v d) (h2 : Dat K F w e) (f1 : d.flat = true) (f2 : e.flat = true) : eqV v w = eqF d e := by
  cases h1 <;> first | (cases f1; done) | (cases h2 <;> first | rfl | (cases f2; done))
theorem inF_ok {F : Hp} {x : V} {d : Dt} (hx : Dat K F x d) (fx : d.flat = true) : ∀ {vs : List V} {ds : List Dt}, DatAll K F vs ds → ds.all Dt.flat = true → inV x vs = inF d ds
  | _, _, .nil, _ => rfl
  | _, _, .cons h r, f => by
    rw [List.all_cons, Bool.and_eq_true] at f
    have ih := inF_ok hx fx r f.2
    unfold inV inF at ih ⊢
    rw [List.any_cons, List.any_cons, eqF_ok h hx f.1 fx, ih]
theorem sem_in (neg : Bool) : Sem2 K (rInA K neg) (inS neg) := by
  intro ω F H ps x y a b r qa qb σ W Q h
  unfold inS at h
  split at h
  · rename_i d e1
    have hx := Om.toD_ok e1 r qa
    split at h
    · rename_i xs e2
      obtain ⟨p, vs, rfl, l1, d1⟩ := Om.seq_l e2 r qb
      split at h
      · rename_i hf
        rw [Bool.and_eq_true] at hf
        refine .inl ⟨p, vs, rfl, .inl l1, hx.flatV hf.1, d1.flatV hf.2, ?_⟩
        rw [inF_ok hx hf.1 d1 hf.2]
        exact h.here r (.bl _)
      · exact h.elim
    · rename_i xs e2
      obtain ⟨p, vs, rfl, l1, d1⟩ := Om.seq_t e2 r qb
      split at h
      · rename_i hf
        rw [Bool.and_eq_true] at hf
        refine .inl ⟨p, vs, rfl, .inr l1, hx.flatV hf.1, d1.flatV hf.2, ?_⟩
        rw [inF_ok hx hf.1 d1 hf.2]
        exact h.here r (.bl _)
      · exact h.elim
    · split at h
      · rename_i i j e2
        exact .inr ⟨i, j, hx.str_inv, (Om.toD_ok e2 r qb).str_inv, h.here r (.bl _)⟩
      · exact h.elim
  · exact h.elim
end

/-! ### truth -/
def Om.tru (ω : Om) (a : Sv) : Option Bool := match ω.toD a with
  | some .non => some false
  | some (.bl b) => some b
  | some (.int i) => some (i != 0)
  | some (.str s) => if s.length ≤ sizeLine then some ((s.length : Int) != 0) else none
  | some (.tup ds) => some (!ds.isEmpty)
  | _ => match ω.seq a with
    | some (.l ds) => some (!ds.isEmpty)
    | _ => none
section
variable {K : PySem.W.Frag}
theorem Om.tru_ok {F H : Hp} {ps : List Addr} {ω : Om} {a : Sv} {x : V} {k : Bool} (h : ω.tru a = some k) (r : Rel K F H ps ω) (q : SvAt K F ps x a) : TruV K x H k := by
  unfold Om.tru at h
  split at h
  · rename_i e
    cases (Om.toD_ok e r q).non_inv
    exact (Option.some.inj h).symm
  · rename_i b e
    cases (Om.toD_ok e r q).bl_inv
    exact (Option.some.inj h).symm
  · rename_i i e
    cases (Om.toD_ok e r q).int_inv
    exact (Option.some.inj h).symm
  · rename_i s e
    split at h
    · rename_i hl
      cases (Om.toD_ok e r q).str_inv
      exact ⟨hl, (Option.some.inj h).symm⟩
    · cases h
  · rename_i ds e
    obtain ⟨p, vs, rfl, t, d⟩ := (Om.toD_ok e r q).tup_inv
    refine .inr (.inl ⟨vs, r.ex.sqt t, ?_⟩)
    rw [d.isEmpty]; exact (Option.some.inj h).symm
  · split at h
    · rename_i ds e
      obtain ⟨p, vs, rfl, t, d⟩ := Om.seq_l e r q
      refine .inl ⟨vs, t, ?_⟩
      rw [d.isEmpty]; exact (Option.some.inj h).symm
    · cases h
end

/-! ### an item -/
def atD (ds : List Dt) (i : Int) : Option Dt := atI ds i
def idxS (a b : Sv) (ω : Om) : R Sv := match ω.toD b with
  | some (.int i) => match ω.seq a with
    | some (.l ds) => R.of ((atI ds i).map Sv.dat) ω
    | some (.t ds) => R.of ((atI ds i).map Sv.dat) ω
    | none => match ω.toD a with
      | some (.str z) => if z.length ≤ sizeLine then R.of ((atI z.cps.toList i).map fun c => Sv.dat (.str ⟨#[c]⟩)) ω else .no
      | _ => .no
  | _ => .no
section
variable {K : PySem.W.Frag}
theorem DatAll.atI {F : Hp} {vs : List V} {ds : List Dt} {i : Int} {d : Dt} (h : DatAll K F vs ds) (e : atI ds i = some d) : ∃ v, L2.atI vs i = some v ∧ Dat K F v d := by
  unfold L2.atI at e ⊢
  rw [h.length]
  cases q : ixN ds.length i with
  | none => rw [q] at e; cases e
  | some j =>
    rw [q] at e
    exact h.get e
theorem sem_idx : Sem2 K (rIx K) idxS := by
  intro ω F H ps x y a b r qa qb σ W Q h
  unfold idxS at h
  split at h
  · rename_i i e1
    have hy := (Om.toD_ok e1 r qb).int_inv
    split at h
    · rename_i ds e2
      obtain ⟨p, vs, rfl, l, d⟩ := Om.seq_l e2 r qa
      cases e3 : L2.atI ds i with
      | none => rw [e3] at h; exact h.elim
      | some z =>
        rw [e3] at h
        obtain ⟨v, h1, h2⟩ := d.atI e3
        exact .inl ⟨p, vs, i, v, rfl, hy, l, h1, Out.here (a := Sv.dat z) h r h2⟩
    · rename_i ds e2
      obtain ⟨p, vs, rfl, l, d⟩ := Om.seq_t e2 r qa
      cases e3 : L2.atI ds i with
      | none => rw [e3] at h; exact h.elim
      | some z =>
        rw [e3] at h
        obtain ⟨v, h1, h2⟩ := d.atI e3
        exact .inr (.inl ⟨p, vs, i, v, rfl, hy, l, h1, Out.here (a := Sv.dat z) h r h2⟩)
    · split at h
      · rename_i z e2
        split at h
        · rename_i hl
          cases e3 : L2.atI z.cps.toList i with
          | none => rw [e3] at h; exact h.elim
          | some c =>
            rw [e3] at h
            refine .inr (.inr ⟨z, i, c, (Om.toD_ok e2 r qa).str_inv, hy, hl, e3, Out.here (a := Sv.dat (.str ⟨#[c]⟩)) h r (Dat.str _)⟩)
        · exact h.elim
      · exact h.elim
  · exact h.elim
end

/-! ### slices -/
def cutD (xs : List Dt) (lo hi : Option Int) : List Dt := (xs.drop (HT.sIx xs.length 0 lo)).take (HT.sIx xs.length xs.length hi - HT.sIx xs.length 0 lo)
def rSl (K : PySem.W.Frag) : V → Option Int → Option Int → Hp → VK → Prop := fun x lo hi H Q => rSlL K x lo hi H Q ∨ rSlA K x lo hi H Q ∨ rSlS x lo hi H Q
theorem sl_A {X : Cx} : SlR X (rSl X.K) := SlR.or sl_list (SlR.or sl_tupA sl_str)
def slS (a : Sv) (lo hi : Option Int) (ω : Om) : R Sv := match ω.seq a with
  | some (.l ds) => .ok (.dat (.lst (cutD ds lo hi))) ω
  | some (.t ds) => .ok (.dat (.tup (cutD ds lo hi))) ω
  | none => match ω.toD a with
    | some (.str z) => if z.length ≤ sizeLine then .ok (.dat (.str (cutS z lo hi))) ω else .no
    | _ => .no
def SemSl (K : PySem.W.Frag) (r : V → Option Int → Option Int → Hp → VK → Prop) (g : Sv → Option Int → Option Int → Om → R Sv) : Prop :=
  ∀ ω F H ps x a lo hi, Rel K F H ps ω → SvAt K F ps x a → ∀ σ W (Q : VK), Out K (SvAt K) F H ps σ W Q (g a lo hi ω) → r x lo hi H Q
section
variable {K : PySem.W.Frag}
theorem DatAll.cut {F : Hp} {vs : List V} {ds : List Dt} (h : DatAll K F vs ds) (lo hi : Option Int) : DatAll K F (cutV vs lo hi) (cutD ds lo hi) := by
  unfold cutV cutD
  rw [h.length]
  exact (h.drop _).take _
theorem cutD_all (ds : List Dt) (lo hi : Option Int) (h1 : HT.sIx ds.length 0 lo = 0) (h2 : HT.sIx ds.length ds.length hi = ds.length) : cutD ds lo hi = ds := by
  unfold cutD
  rw [h1, h2]; simp
theorem sem_sl : SemSl K (rSl K) slS := by
  intro ω F H ps x a lo hi r qa σ W Q h
  unfold slS at h
  split at h
  · rename_i ds e
    obtain ⟨p, vs, rfl, l, d⟩ := Om.seq_l e r qa
    exact .inl ⟨p, vs, rfl, l, fun z hz => h.newL r hz (d.cut lo hi)⟩
  · rename_i ds e
    obtain ⟨p, vs, rfl, l, d⟩ := Om.seq_t e r qa
    refine .inr (.inl ⟨p, vs, rfl, l, fun hh => ?_, fun _ z hz => h.newT r hz (d.cut lo hi)⟩)
    have hl := d.length
    rw [hl] at hh
    rw [cutD_all ds lo hi hh.1 hh.2] at h
    unfold Om.seq at e
    split at e
    · cases e
    · cases e
    · cases e
      have hq : SvAt K F ps (.ref p) (.dat (.tup ds)) := qa
      exact h.here r hq
    · split at e <;> cases e
    · cases e
  · split at h
    · rename_i z e
      split at h
      · rename_i hl
        exact .inr (.inr ⟨z, (Om.toD_ok e r qa).str_inv, hl, h.here r (Dat.str _)⟩)
      · exact h.elim
    · exact h.elim
end

/-! ### calls of built-in functions -/
section
variable {K : PySem.W.Frag}
theorem SvAll.one {F : Hp} {ps : List Addr} {xs : List V} {a : Sv} (h : SvAll K F ps xs [a]) : ∃ x, xs = [x] ∧ SvAt K F ps x a := by
  cases h with | cons h r => cases r; exact ⟨_, rfl, h⟩
theorem SvAll.two {F : Hp} {ps : List Addr} {xs : List V} {a b : Sv} (h : SvAll K F ps xs [a, b]) : ∃ x y, xs = [x, y] ∧ SvAt K F ps x a ∧ SvAt K F ps y b := by
  cases h with | cons h r => cases r with | cons h2 r2 => cases r2; exact ⟨_, _, rfl, h, h2⟩
end
def rLen2 (K : PySem.W.Frag) : List V → Hp → VK → Prop := fun xs H Q => ∃ x n, xs = [x] ∧ LenV K x H n ∧ Q (.int n) H
def lenS (as : List Sv) (ω : Om) : R Sv := match as with
  | [a] => match ω.seq a with
    | some (.l ds) => .ok (.dat (.int ds.length)) ω
    | some (.t ds) => .ok (.dat (.int ds.length)) ω
    | none => match ω.toD a with
      | some (.str z) => if z.length ≤ sizeLine then .ok (.dat (.int z.length)) ω else .no
      | _ => .no
  | _ => .no
def rAbs : List V → Hp → VK → Prop := fun xs H Q => ∃ i, xs = [.int i] ∧ Q (.int (if i < 0 then -i else i)) H
def absS (as : List Sv) (ω : Om) : R Sv := match as with
  | [a] => match ω.toD a with
    | some (.int i) => .ok (.dat (.int (if i < 0 then -i else i))) ω
    | _ => .no
  | _ => .no
def rMx2 : List V → Hp → VK → Prop := fun xs H Q => ∃ i j, xs = [.int i, .int j] ∧ Q (.int (if j > i then j else i)) H
def rMn2 : List V → Hp → VK → Prop := fun xs H Q => ∃ i j, xs = [.int i, .int j] ∧ Q (.int (if j < i then j else i)) H
def mx2S (as : List Sv) (ω : Om) : R Sv := match as with
  | [a, b] => match ω.toD a, ω.toD b with
    | some (.int i), some (.int j) => .ok (.dat (.int (if j > i then j else i))) ω
    | _, _ => .no
  | _ => .no
def mn2S (as : List Sv) (ω : Om) : R Sv := match as with
  | [a, b] => match ω.toD a, ω.toD b with
    | some (.int i), some (.int j) => .ok (.dat (.int (if j < i then j else i))) ω
    | _, _ => .no
  | _ => .no
def rInt : List V → Hp → VK → Prop := fun xs H Q => (∃ i, xs = [.int i] ∧ Q (.int i) H) ∨ ∃ k, xs = [.bl k] ∧ Q (.int (if k then 1 else 0)) H
def intS (as : List Sv) (ω : Om) : R Sv := match as with
  | [a] => match ω.toD a with
    | some (.int i) => .ok (.dat (.int i)) ω
    | some (.bl k) => .ok (.dat (.int (if k then 1 else 0))) ω
    | _ => .no
  | _ => .no
def rTupOf (K : PySem.W.Frag) : List V → Hp → VK → Prop := fun xs H Q => ∃ p ys, xs = [.ref p] ∧ ((SqL K H p ys ∧ ∀ l, H l = none → Q (.ref l) (upd H l (.tup ys))) ∨ (SqT K H p ys ∧ Q (.ref p) H))
def tupOfS (as : List Sv) (ω : Om) : R Sv := match as with
  | [a] => match ω.seq a with
    | some (.l ds) => .ok (.dat (.tup ds)) ω
    | some (.t ds) => .ok (.dat (.tup ds)) ω
    | none => .no
  | _ => .no
def rLstOf (K : PySem.W.Frag) : List V → Hp → VK → Prop := fun xs H Q => ∃ p ys, xs = [.ref p] ∧ (SqL K H p ys ∨ SqT K H p ys) ∧ ∀ l, H l = none → Q (.ref l) (upd H l (.lst ys))
def lstOfS (as : List Sv) (ω : Om) : R Sv := match as with
  | [a] => match ω.seq a with
    | some (.l ds) => .ok (.dat (.lst ds)) ω
    | some (.t ds) => .ok (.dat (.lst ds)) ω
    | none => .no
  | _ => .no
def Dt.blOf : Dt → Option Bool
  | .bl b => some b
  | _ => none
def allBl : List Dt → Option (List Bool)
  | [] => some []
  | d :: ds => match d.blOf, allBl ds with
    | some b, some l => some (b :: l)
    | _, _ => none
def allS (as : List Sv) (ω : Om) : R Sv := match as with
  | [a] => match ω.seq a with
    | some (.l ds) => match allBl ds with
      | some bs => .ok (.dat (.bl (bs.all id))) ω
      | none => .no
    | _ => .no
  | _ => .no
def strIS (as : List Sv) (ω : Om) : R Sv := match as with
  | [a] => match ω.toD a with
    | some (.int i) => if i.natAbs.log2 < 1920 then .ok (.dat (.str (toString i))) ω else .no
    | _ => .no
  | _ => .no
def rStrI : List V → Hp → VK → Prop := fun xs H Q => ∃ i, xs = [.int i] ∧ i.natAbs.log2 < 1920 ∧ Q (.str (toString i)) H
section
variable {K : PySem.W.Frag}
theorem sem_len : SemN K (rLen2 K) lenS := by
  intro ω F H ps xs as r q σ W Q h
  unfold lenS at h
  split at h
  · obtain ⟨x, rfl, qx⟩ := q.one
    split at h
    · rename_i ds e
      obtain ⟨p, vs, rfl, l, d⟩ := Om.seq_l e r qx
      exact ⟨_, ds.length, rfl, .inl ⟨vs, l, d.length.symm⟩, h.here r (Dat.int _)⟩
    · rename_i ds e
      obtain ⟨p, vs, rfl, l, d⟩ := Om.seq_t e r qx
      exact ⟨_, ds.length, rfl, .inr ⟨vs, l, d.length.symm⟩, h.here r (Dat.int _)⟩
    · split at h
      · rename_i z e
        split at h
        · rename_i hl
          cases (Om.toD_ok e r qx).str_inv
          exact ⟨_, z.length, rfl, ⟨hl, rfl⟩, h.here r (Dat.int _)⟩
        · exact h.elim
      · exact h.elim
  · exact h.elim
theorem sem_abs : SemN K rAbs absS := by
  intro ω F H ps xs as r q σ W Q h
  unfold absS at h
  split at h
  · obtain ⟨x, rfl, qx⟩ := q.one
    split at h
    · rename_i i e
      cases (Om.toD_ok e r qx).int_inv
      exact ⟨i, rfl, h.here r (Dat.int _)⟩
    · exact h.elim
  · exact h.elim
theorem sem_mx2 : SemN K rMx2 mx2S := by
  intro ω F H ps xs as r q σ W Q h
  unfold mx2S at h
  split at h
  · obtain ⟨x, y, rfl, qx, qy⟩ := q.two
    split at h
    · rename_i i j e1 e2
      cases (Om.toD_ok e1 r qx).int_inv
      cases (Om.toD_ok e2 r qy).int_inv
      exact ⟨i, j, rfl, h.here r (Dat.int _)⟩
    · exact h.elim
  · exact h.elim
theorem sem_mn2 : SemN K rMn2 mn2S := by
  intro ω F H ps xs as r q σ W Q h
  unfold mn2S at h
  split at h
  · obtain ⟨x, y, rfl, qx, qy⟩ := q.two
    split at h
    · rename_i i j e1 e2
      cases (Om.toD_ok e1 r qx).int_inv
      cases (Om.toD_ok e2 r qy).int_inv
      exact ⟨i, j, rfl, h.here r (Dat.int _)⟩
    · exact h.elim
  · exact h.elim
theorem sem_int : SemN K rInt intS := by
  intro ω F H ps xs as r q σ W Q h
  unfold intS at h
  split at h
  · obtain ⟨x, rfl, qx⟩ := q.one
    split at h
    · rename_i i e
      cases (Om.toD_ok e r qx).int_inv
      exact .inl ⟨i, rfl, h.here r (Dat.int _)⟩
    · rename_i k e
      cases (Om.toD_ok e r qx).bl_inv
      exact .inr ⟨k, rfl, h.here r (Dat.int _)⟩
    · exact h.elim
  · exact h.elim
theorem Om.seq_tD {F H : Hp} {ps : List Addr} {ω : Om} {v : V} {sv : Sv} {ds : List Dt} (h : ω.seq sv = some (.t ds)) (q : SvAt K F ps v sv) : Dat K F v (.tup ds) := by
  unfold Om.seq at h
  split at h
  · cases h
  · cases h
  · cases h; exact q
  · split at h <;> cases h
  · cases h
theorem sem_tupOf : SemN K (rTupOf K) tupOfS := by
  intro ω F H ps xs as r q σ W Q h
  unfold tupOfS at h
  split at h
  · obtain ⟨x, rfl, qx⟩ := q.one
    split at h
    · rename_i ds e
      obtain ⟨p, vs, rfl, l, d⟩ := Om.seq_l e r qx
      exact ⟨p, vs, rfl, .inl ⟨l, fun z hz => h.newT r hz d⟩⟩
    · rename_i ds e
      have qd := Om.seq_tD (F := F) (H := H) e qx
      obtain ⟨p, vs, rfl, l, d⟩ := Om.seq_t e r qx
      exact ⟨p, vs, rfl, .inr ⟨l, h.here r qd⟩⟩
    · exact h.elim
  · exact h.elim
theorem sem_lstOf : SemN K (rLstOf K) lstOfS := by
  intro ω F H ps xs as r q σ W Q h
  unfold lstOfS at h
  split at h
  · obtain ⟨x, rfl, qx⟩ := q.one
    split at h
    · rename_i ds e
      obtain ⟨p, vs, rfl, l, d⟩ := Om.seq_l e r qx
      exact ⟨p, vs, rfl, .inl l, fun z hz => h.newL r hz d⟩
    · rename_i ds e
      obtain ⟨p, vs, rfl, l, d⟩ := Om.seq_t e r qx
      exact ⟨p, vs, rfl, .inr l, fun z hz => h.newL r hz d⟩
    · exact h.elim
  · exact h.elim
theorem allBl_ok {F : Hp} : ∀ {vs : List V} {ds : List Dt} {bs : List Bool}, DatAll K F vs ds → allBl ds = some bs → vs = bs.map V.bl
  | _, _, _, .nil, h => by cases h; rfl
  | _, _, _, .cons (d := d) h r, e => by
    simp only [allBl] at e
    split at e
    · rename_i b l e1 e2
      cases e
      rw [List.map_cons, allBl_ok r e2]
      cases h <;> cases e1
      rfl
    · cases e
theorem sem_all : SemN K (rAll K) allS := by
  intro ω F H ps xs as r q σ W Q h
  unfold allS at h
  split at h
  · obtain ⟨x, rfl, qx⟩ := q.one
    split at h
    · rename_i ds e
      obtain ⟨p, vs, rfl, l, d⟩ := Om.seq_l e r qx
      split at h
      · rename_i bs e2
        have := allBl_ok d e2
        subst this
        exact ⟨p, bs, rfl, l, h.here r (Dat.bl _)⟩
      · exact h.elim
    · exact h.elim
  · exact h.elim
theorem sem_strI : SemN K rStrI strIS := by
  intro ω F H ps xs as r q σ W Q h
  unfold strIS at h
  split at h
  · obtain ⟨x, rfl, qx⟩ := q.one
    split at h
    · rename_i i e
      cases (Om.toD_ok e r qx).int_inv
      split at h
      · rename_i hl
        exact ⟨i, rfl, hl, h.here r (Dat.str _)⟩
      · exact h.elim
    · exact h.elim
  · exact h.elim
end
end Vm
end
section
set_option Elab.async false
set_option linter.all false
set_option maxRecDepth 100000
set_option maxHeartbeats 4000000
/-! kinds, repr, methods, displays -/
namespace Vm
open PySem PySem.Spec PyProof.Rows L2

/-! ### isinstance with a built-in type -/
def Om.tyOf (ω : Om) (a : Sv) : Option String := match ω.seq a with
  | some (.l _) => some "list"
  | some (.t _) => some "tuple"
  | none => match ω.toD a with
    | some .non => some "NoneType"
    | some (.bl _) => some "bool"
    | some (.int _) => some "int"
    | some (.str _) => some "str"
    | some (.dic _) => some "dict"
    | _ => none
def tysA : List String := ["list", "tuple", "NoneType", "bool", "int", "str", "dict"]
def tysB : List String := ["list", "tuple", "bool", "int", "str", "dict"]
def isiB (a b : String) : Bool := decide (a = b) || (decide (a = "bool") && decide (b = "int"))
theorem isi_tab : ∀ a ∈ tysA, ∀ b ∈ tysB, kitB a b = some (isiB a b) := by decide +kernel
def isiS (as : List Sv) (ω : Om) : R Sv := match as with
  | [a, .dat (.ty T)] => match ω.tyOf a with
    | some S => if T ∈ tysB then .ok (.dat (.bl (isiB S T))) ω else .no
    | none => .no
  | _ => .no
section
variable {K : PySem.W.Frag}
theorem tyx_l {H : Hp} {a : Addr} {xs : List V} (h : SqL K H a xs) : TyX K H (.ref a) (.type "list") := by
  rcases h with (h | ⟨o, h⟩) | ⟨o, its, n, h, hc, _⟩
  · exact .base (.lst h)
  · exact .base (.frz h)
  · exact .kList h hc
theorem tyx_t {H : Hp} {a : Addr} {xs : List V} (h : SqT K H a xs) : TyX K H (.ref a) (.type "tuple") := by
  rcases h with (h | ⟨o, h⟩) | ⟨o, its, n, h, hc, _⟩
  · exact .base (.tup h)
  · exact .fTuple h
  · exact .kTuple h hc
theorem tyx_d {H : Hp} {a : Addr} {kvs : List (Key × V)} (h : Rd H a (.dK kvs)) : TyX K H (.ref a) (.type "dict") := by
  rcases h with h | ⟨o, h⟩
  · exact .base (.dK h)
  · exact .fDict h
theorem Om.tyOf_ok {F H : Hp} {ps : List Addr} {ω : Om} {a : Sv} {x : V} {S : String} (h : ω.tyOf a = some S) (r : Rel K F H ps ω) (q : SvAt K F ps x a) : TyX K H x (.type S) ∧ S ∈ tysA := by
  unfold Om.tyOf at h
  split at h
  · rename_i ds e
    cases h
    obtain ⟨p, vs, rfl, l, d⟩ := Om.seq_l e r q
    exact ⟨tyx_l l, by decide⟩
  · rename_i ds e
    cases h
    obtain ⟨p, vs, rfl, l, d⟩ := Om.seq_t e r q
    exact ⟨tyx_t l, by decide⟩
  · split at h
    · rename_i e; cases h; cases (Om.toD_ok e r q).non_inv; exact ⟨.base .non, by decide⟩
    · rename_i e; cases h; cases (Om.toD_ok e r q).bl_inv; exact ⟨.base (.bl _), by decide⟩
    · rename_i e; cases h; cases (Om.toD_ok e r q).int_inv; exact ⟨.base (.int _), by decide⟩
    · rename_i e; cases h; cases (Om.toD_ok e r q).str_inv; exact ⟨.base (.str _), by decide⟩
    · rename_i e
      cases h
      cases Om.toD_ok e r q with | dic h1 h2 h3 => exact ⟨tyx_d (r.ex.rd h1), by decide⟩
    · cases h
theorem sem_isi : SemN K (rIsi K) isiS := by
  intro ω F H ps xs as r q σ W Q h
  unfold isiS at h
  split at h
  · rename_i a T
    obtain ⟨x, y, rfl, qx, qy⟩ := q.two
    have hy : y = .ty T := by cases (show Dat K F y (.ty T) from qy); rfl
    subst hy
    split at h
    · rename_i S e
      split at h
      · rename_i hT
        obtain ⟨tx, hS⟩ := Om.tyOf_ok e r qx
        exact ⟨x, .ty T, .type S, .type T, isiB S T, rfl, .ty T, tx, kit_ty (isi_tab S hS T hT), h.here r (Dat.bl _)⟩
      · exact h.elim
    · exact h.elim
  · exact h.elim
end

/-! ### repr -/
def keyP : Key → PyData
  | .inl i => .int i
  | .inr x => .str x
mutual
def Dt.pyR : Dt → Option PyData
  | .non => some .none
  | .bl b => some (.bool b)
  | .int i => some (.int i)
  | .str s => some (.str s)
  | .lst xs => (pyRAll xs).map .list
  | .rol xs => (pyRAll xs).map .list
  | .tup xs => (pyRAll xs).map .tuple
  | .dic kvs => (pyRKv kvs).map .dict
  | .fn _ => none
  | .ty _ => none
  | .dit _ => none
  | .ins _ _ => none
  | .err0 _ => none
  | .err _ _ _ => none
def pyRKv : List (Key × Dt) → Option (List (PyData × PyData))
  | [] => some []
  | (k, d) :: r => match Dt.pyR d, pyRKv r with
    | some a, some l => some ((keyP k, a) :: l)
    | _, _ => none
def pyRAll : List Dt → Option (List PyData)
  | [] => some []
  | x :: xs => match Dt.pyR x, pyRAll xs with
    | some a, some l => some (a :: l)
    | _, _ => none
end
/-- sys.modules is a dict of the written part -/
def SysD (K : PySem.W.Frag) : Prop := ∃ o, K.lookup sysModules = some o ∧ o.cls = .type "dict"
section
variable {X : Cx} {pins : List (Addr × Obj)} {σ : L2.St} {F H : Hp} {s : Shared}
theorem ne_sys (I : Inv X pins σ H s) (S : SysD X.K) {a : Addr} {o : Obj} {T : String} (h : s.heap.get? a = some o) (hc : o.cls = .type T) (hT : T ≠ "dict") : a ≠ sysModules := fun e => by
  obtain ⟨o2, h1, h2⟩ := S
  have h3 := I.kIn _ _ h1
  rw [e, h3] at h
  cases h
  rw [h2] at hc
  exact hT (Value.type.inj hc).symm
theorem kvs_vals {kvs : List (Key × V)} {vs : List (Key × Value)} (h : KV kvs vs) : Vals (kvs.map (·.2)) (vs.map (·.2)) := by
  induction h with
  | nil => exact .nil
  | cons r _ ih => exact .cons r.2 ih
theorem kvs_keys {kvs : List (Key × V)} {vs : List (Key × Value)} (h : KV kvs vs) : kvs.map (·.1) = vs.map (·.1) := by
  induction h with
  | nil => rfl
  | cons r _ ih => rw [List.map_cons, List.map_cons, ih, r.1]
theorem pyRKv_keys : ∀ {ds : List (Key × Dt)} {l : List (PyData × PyData)}, pyRKv ds = some l → l.map (·.1) = (ds.map (·.1)).map keyP
  | [], l, h => by cases h; rfl
  | (k, d) :: r, l, h => by
    simp only [pyRKv] at h
    split at h
    · rename_i a l' e1 e2
      cases h
      rw [List.map_cons, List.map_cons, List.map_cons, pyRKv_keys e2]
    · cases h
theorem pairs_rds {P : Program} {w : World} {es : List DictEntry} {vs : List (Key × Value)} (h : Pairs (mixKind P w) es vs) :
    ReadsAll s.heap (es.map (·.key)) ((vs.map (·.1)).map keyP) [] ∧ es.map (·.val) = vs.map (·.2) := by
  induction h with
  | nil => exact ⟨.nil, rfl⟩
  | @cons e kv es kvs r rv _ ih =>
    refine ⟨?_, by rw [List.map_cons, List.map_cons, ih.2, rv]⟩
    rw [List.map_cons, List.map_cons, List.map_cons]
    rcases keyIs_shape (show keyIs kv.1 e.key = true from r) with ⟨i, t, e1, e2⟩ | ⟨x, t, e1, e2⟩
    · rw [e1, e2]
      exact ReadsAll.cons (as := []) (.int i t) ih.1
    · rw [e1, e2]
      exact ReadsAll.cons (as := []) (.str x t) ih.1
mutual
theorem Dat.rds (I : Inv X pins σ H s) (S : SysD X.K) (e : Ex F H) : ∀ {v : V} {d : Dt} {p : PyData} {u : Value}, Dat X.K F v d → d.pyR = some p → RelV v u → ∃ as, Reads s.heap u p as ∧ sysModules ∉ as
  | _, _, _, _, .non, h, r => by cases h; cases r; exact ⟨_, .none, by simp⟩
  | _, _, _, _, .bl b, h, r => by cases h; cases r; exact ⟨_, .bool b, by simp⟩
  | _, _, _, _, .int i, h, r => by cases h; obtain ⟨t, rfl⟩ := r; exact ⟨_, .int i t, by simp⟩
  | _, _, _, _, .str z, h, r => by cases h; obtain ⟨t, rfl⟩ := r; exact ⟨_, .str z t, by simp⟩
  | _, _, _, _, .fn x, h, r => by simp [Dt.pyR] at h
  | _, _, _, _, .ty x, h, r => by simp [Dt.pyR] at h
  | _, _, _, _, .lst h1 h2, h, r => by
    simp only [Dt.pyR, Option.map_eq_some_iff] at h
    obtain ⟨l, h3, rfl⟩ := h
    cases r
    obtain ⟨its, rv, ⟨o, n, ho, hc, _, hd⟩, _⟩ := I.list (SqL.of (e _ _ h1))
    obtain ⟨as, hr, hn⟩ := DatAll.rds I S e h2 h3 rv
    refine ⟨_, .list ho hc hd hr, ?_⟩
    rw [List.mem_cons, not_or]
    exact ⟨fun z => ne_sys I S ho hc (by decide) z.symm, hn⟩
  | _, _, _, _, .rol h1 h2, h, r => by
    simp only [Dt.pyR, Option.map_eq_some_iff] at h
    obtain ⟨l, h3, rfl⟩ := h
    cases r
    obtain ⟨its, rv, ⟨o, n, ho, hc, _, hd⟩, _⟩ := I.list (e.sql h1)
    obtain ⟨as, hr, hn⟩ := DatAll.rds I S e h2 h3 rv
    refine ⟨_, .list ho hc hd hr, ?_⟩
    rw [List.mem_cons, not_or]
    exact ⟨fun z => ne_sys I S ho hc (by decide) z.symm, hn⟩
  | _, _, _, _, .tup h1 h2, h, r => by
    simp only [Dt.pyR, Option.map_eq_some_iff] at h
    obtain ⟨l, h3, rfl⟩ := h
    cases r
    obtain ⟨its, rv, ⟨o, ho, hc, n, hd⟩, _⟩ := I.tuple (e.sqt h1)
    obtain ⟨as, hr, hn⟩ := DatAll.rds I S e h2 h3 rv
    exact ⟨_, .tuple ho hc hd hr, hn⟩
  | _, _, _, _, .dic (kvs := kvs) (ds := ds) h1 h2 h3, h, r => by
    simp only [Dt.pyR, Option.map_eq_some_iff] at h
    obtain ⟨l, hl, rfl⟩ := h
    cases r
    rename_i a
    obtain ⟨_, hs, vs, hv, o, es, ep, h4, h5, h6, _, h7, _⟩ := (e.rd h1).ok I.hok
    obtain ⟨bs, q1, n1⟩ := dic_rds I S e h3 rfl hl (kvs_vals hv)
    have hk : (ds.map (·.1)) = vs.map (·.1) := by
      rw [← h2]
      exact kvs_keys hv
    obtain ⟨e1, e2⟩ := pairs_rds (s := s) h7
    have hrd := Reads.dict (h := s.heap) (a := a) (kvs := l) h4 h5.1 h6 (as := []) (bs := bs) (by
      rw [pyRKv_keys hl, hk]
      exact e1) (by rw [e2]; exact q1)
    refine ⟨_, hrd, ?_⟩
    show sysModules ∉ a :: bs
    rw [List.mem_cons, not_or]
    refine ⟨fun z => ?_, n1⟩
    rw [← z] at hs
    simp at hs
  | _, _, _, _, .dit .., h, r => by simp [Dt.pyR] at h
  | _, _, _, _, .ins .., h, r => by simp [Dt.pyR] at h
  | _, _, _, _, .err0 .., h, r => by simp [Dt.pyR] at h
  | _, _, _, _, .err .., h, r => by simp [Dt.pyR] at h
theorem DatAll.rds (I : Inv X pins σ H s) (S : SysD X.K) (e : Ex F H) : ∀ {vs : List V} {ds : List Dt} {l : List PyData} {us : List Value}, DatAll X.K F vs ds → pyRAll ds = some l → Vals vs us → ∃ as, ReadsAll s.heap us l as ∧ sysModules ∉ as
  | _, _, _, _, .nil, h, r => by cases h; cases r; exact ⟨_, .nil, by simp⟩
  | _, _, _, _, .cons h1 h2, h, r => by
    simp only [pyRAll] at h
    split at h
    · rename_i a l e1 e2
      cases h
      cases r with
      | cons r1 r2 =>
        obtain ⟨as, q1, n1⟩ := Dat.rds I S e h1 e1 r1
        obtain ⟨bs, q2, n2⟩ := DatAll.rds I S e h2 e2 r2
        exact ⟨_, .cons q1 q2, by rw [List.mem_append, not_or]; exact ⟨n1, n2⟩⟩
    · cases h
theorem dic_rds (I : Inv X pins σ H s) (S : SysD X.K) (e : Ex F H) : ∀ {xs : List V} {es : List Dt} {us : List Value}, DatAll X.K F xs es → ∀ {ds : List (Key × Dt)} {l : List (PyData × PyData)}, es = ds.map (·.2) → pyRKv ds = some l → Vals xs us →
    ∃ as, ReadsAll s.heap us (l.map (·.2)) as ∧ sysModules ∉ as
  | _, _, _, .nil, ds, l, h0, h, r => by
    cases ds with
    | cons _ _ => cases h0
    | nil =>
      cases h
      cases r
      exact ⟨_, .nil, by simp⟩
  | _, _, _, .cons h1 h2, ds, l, h0, h, r => by
    cases ds with
    | nil => cases h0
    | cons kd ds =>
    obtain ⟨k, d⟩ := kd
    cases h0
    simp only [pyRKv] at h
    split at h
    · rename_i a l e1 e2
      cases h
      cases r with
      | cons r1 r2 =>
        obtain ⟨as, q1, n1⟩ := Dat.rds I S e h1 e1 r1
        obtain ⟨bs, q2, n2⟩ := dic_rds I S e h2 rfl e2 r2
        exact ⟨_, .cons q1 q2, by rw [List.mem_append, not_or]; exact ⟨n1, n2⟩⟩
    · cases h
end
end
/-- what repr gives -/
def Om.repr (ω : Om) (a : Sv) : Option Str :=
  match (match ω.toD a with | some d => d.pyR | none => match ω.lst a with | some ds => (pyRAll ds).map .list | none => none) with
  | some p => if p.showable && decide (p.shown.length ≤ sizeLine) && decide (p.depth ≤ 60) then some p.shown else none
  | none => none
/-- the data of x read at any heap -/
def rRepr (K : PySem.W.Frag) : List V → Hp → VK → Prop := fun xs H Q => ∃ x d p, xs = [x] ∧ (∃ F, Ex F H ∧ Dat K F x d) ∧ d.pyR = some p ∧ p.showable = true ∧ p.shown.length ≤ sizeLine ∧ p.depth ≤ 60 ∧ Q (.str p.shown) H
theorem call_reprD {X : Cx} (S : SysD X.K) (hg : X.A.guards = some []) (hu : X.A.units + 64 < cLine) : CallR X (.builtin "repr") (rRepr X.K) := by
  intro pins s σ H xs us Q I r h
  obtain ⟨x, d, p, rfl, ⟨F, hx, hd⟩, hp, h1, h2, h3, q⟩ := h
  cases r with
  | cons rx r2 =>
  cases r2
  obtain ⟨as, hr, hn⟩ := Dat.rds I S hx hd hp rx
  have fin : ∀ tk t, EP X pins σ Q (.str p.shown t) { s with toks := tk } := fun tk t => ⟨.str _, H, I.tok _, ⟨_, rfl⟩, q⟩
  cases hr with
  | none => exact PySem.P.repr_of_none (fin _ _)
  | bool b => exact PySem.P.repr_of_bool (fin _ _)
  | int i t => exact PySem.P.repr_of_int (by simpa [PyData.showable] using h1) (fin _ _)
  | str z t => exact PySem.P.repr_of_str (fin _ _) h2
  | list g1 g2 g3 g4 => exact repr_of_reads' (.list g1 g2 g3 g4) h1 (fun _ => hn) hg (by omega) (fun _ _ z => z) (fun h' u tk k => ⟨.str _, H, I.kept (t' := tk) k, ⟨_, rfl⟩, q⟩) h2
  | tuple g1 g2 g3 g4 => exact repr_of_reads' (.tuple g1 g2 g3 g4) h1 (fun _ => hn) hg (by omega) (fun _ _ z => z) (fun h' u tk k => ⟨.str _, H, I.kept (t' := tk) k, ⟨_, rfl⟩, q⟩) h2
  | dict g1 g2 g3 g4 g5 => exact repr_of_reads' (.dict g1 g2 g3 g4 g5) h1 (fun _ => hn) hg (by omega) (fun _ _ z => z) (fun h' u tk k => ⟨.str _, H, I.kept (t' := tk) k, ⟨_, rfl⟩, q⟩) h2
def reprS (as : List Sv) (ω : Om) : R Sv := match as with
  | [a] => match ω.repr a with
    | some z => .ok (.dat (.str z)) ω
    | none => .no
  | _ => .no
section
variable {K : PySem.W.Frag}
theorem sem_repr : SemN K (rRepr K) reprS := by
  intro ω F H ps xs as r q σ W Q h
  unfold reprS at h
  split at h
  · rename_i a
    obtain ⟨x, rfl, qx⟩ := q.one
    split at h
    · rename_i z e
      have hq := h.here r (Dat.str z)
      unfold Om.repr at e
      split at e
      · rename_i p e1
        split at e
        · rename_i hc
          cases e
          simp only [Bool.and_eq_true, decide_eq_true_eq] at hc
          split at e1
          · rename_i d e2
            exact ⟨x, d, p, rfl, ⟨F, r.ex, Om.toD_ok e2 r qx⟩, e1, hc.1.1, hc.1.2, hc.2, hq⟩
          · rename_i e2
            split at e1
            · rename_i ds e3
              obtain ⟨b, vs, rfl, l, d⟩ := Om.lst_ok e3 r qx
              refine ⟨_, .lst ds, p, rfl, ⟨H, Ex.refl H, .lst l (d.mono r.ex)⟩, by simpa [Dt.pyR] using e1, hc.1.1, hc.1.2, hc.2, hq⟩
            · cases e1
        · cases e
      · cases e
    · exact h.elim
  · exact h.elim
end

/-! ### freezing: a value as data -/
def Om.fz (ω : Om) : Sv → Option (Dt × Om)
  | .dat d => some (d, ω)
  | .own j => match ω[j]? with
    | some (.frz d) => some (d, ω)
    | some (.lst ds) => some (.lst ds, ω.set j (.frz (.lst ds)))
    | some (.ins c fs) => (datF fs).map fun ds => (.ins c ds, ω.set j (.frz (.ins c ds)))
    | none => none
def Om.fzAll (ω : Om) : List Sv → Option (List Dt × Om)
  | [] => some ([], ω)
  | a :: as => match ω.fz a with
    | some (d, ω1) => match Om.fzAll ω1 as with
      | some (ds, ω2) => some (d :: ds, ω2)
      | none => none
    | none => none
section
variable {K : PySem.W.Frag}
theorem Om.fz_ok {F H : Hp} {ps : List Addr} {ω ω' : Om} {a : Sv} {x : V} {d : Dt} (h : ω.fz a = some (d, ω')) (r : Rel K F H ps ω) (q : SvAt K F ps x a) : ∃ F', Rel K F' H ps ω' ∧ Stp F H ps F' H ps ∧ Dat K F' x d := by
  cases a with
  | dat e => cases h; exact ⟨F, r, Stp.refl, q⟩
  | own j =>
    obtain ⟨p, h1, rfl⟩ := q
    unfold Om.fz at h
    simp only at h
    split at h
    · rename_i e he
      cases h
      exact ⟨F, r, Stp.refl, r.ob j p _ h1 he⟩
    · rename_i ds he
      cases h
      exact r.freeze h1 he
    · rename_i c fs he
      cases e : datF fs with
      | none => rw [e] at h; cases h
      | some ds =>
        rw [e] at h
        cases h
        exact r.freezeI h1 he e
    · cases h
theorem Om.fzAll_ok : ∀ {as : List Sv} {F H : Hp} {ps : List Addr} {ω ω' : Om} {xs : List V} {ds : List Dt}, ω.fzAll as = some (ds, ω') → Rel K F H ps ω → SvAll K F ps xs as → ∃ F', Rel K F' H ps ω' ∧ Stp F H ps F' H ps ∧ DatAll K F' xs ds
  | [], F, H, ps, ω, ω', xs, ds, h, r, q => by
    cases h; cases q
    exact ⟨F, r, Stp.refl, .nil⟩
  | a :: as, F, H, ps, ω, ω', xs, ds, h, r, q => by
    cases q with
    | cons q1 q2 =>
    simp only [Om.fzAll] at h
    split at h
    · rename_i d ω1 e1
      split at h
      · rename_i es ω2 e2
        cases h
        obtain ⟨F1, r1, s1, d1⟩ := Om.fz_ok e1 r q1
        obtain ⟨F2, r2, s2, d2⟩ := Om.fzAll_ok e2 r1 (q2.step s1)
        exact ⟨F2, r2, s1.trans s2, .cons (d1.mono s2.ex) d2⟩
      · cases h
    · cases h
end

/-! ### displays -/
section
variable {K : PySem.W.Frag} {W : WX} {ta : TA} {fa : Ro → Om → R (List Sv)}
def fTup (fa : Ro → Om → R (List Sv)) : Ro → Om → R Sv := fun ρ ω => (fa ρ ω).bind fun as ω1 => match ω1.fzAll as with
  | some (ds, ω2) => if ds.length ≤ sizeLine then .ok (.dat (.tup ds)) ω2 else .no
  | none => .no
def fLst (fa : Ro → Om → R (List Sv)) : Ro → Om → R Sv := fun ρ ω => (fa ρ ω).bind fun as ω1 => match ω1.fzAll as with
  | some (ds, ω2) => if ds.length ≤ sizeLine then .ok (.dat (.lst ds)) ω2 else .no
  | none => .no
theorem sem_tup (ha : SemA K W ta fa) : SemE K W (tTup ta) (fTup fa) := fun ρ ω σ F H ps rl s Q h =>
  ha ρ ω σ F H ps rl s _ (Out.bind h fun as ω1 xs F1 H1 p1 s1 r1 q1 h1 => by
    split at h1
    · rename_i ds ω2 e
      split at h1
      · rename_i hl
        obtain ⟨F2, r2, s2, d2⟩ := Om.fzAll_ok e r1 q1
        exact ⟨by rw [d2.length]; exact hl, fun p hp => (Out.step s2 h1).newT r2 hp d2⟩
      · exact h1.elim
    · exact h1.elim)
theorem sem_lst (ha : SemA K W ta fa) : SemE K W (tLst ta) (fLst fa) := fun ρ ω σ F H ps rl s Q h =>
  ha ρ ω σ F H ps rl s _ (Out.bind h fun as ω1 xs F1 H1 p1 s1 r1 q1 h1 => by
    split at h1
    · rename_i ds ω2 e
      split at h1
      · rename_i hl
        obtain ⟨F2, r2, s2, d2⟩ := Om.fzAll_ok e r1 q1
        exact ⟨by rw [d2.length]; exact hl, fun p hp => (Out.step s2 h1).newL r2 hp d2⟩
      · exact h1.elim
    · exact h1.elim)
def fDic : Ro → Om → R Sv := fun _ ω => .ok (.dat (.dic [])) ω
theorem sem_dic : SemE K W tDNewK fDic := fun ρ ω σ F H ps rl s Q h p hp => by
  obtain ⟨r1, s1⟩ := rl.lay (o := .dK []) hp
  exact h _ _ _ _ s1 r1 (Dat.dic (.inl upd_same) rfl .nil)
end

/-! ### and, or, not, if; tests -/
section
variable {K : PySem.W.Frag} {W : WX} {ta tb : TE} {fa fb : Ro → Om → R Sv} {t u : TT} {ft fu : Ro → Om → R Bool} {r r' : R2} {g g' : Sv → Sv → Om → R Sv}
def fAnd (fa fb : Ro → Om → R Sv) : Ro → Om → R Sv := fun ρ ω => (fa ρ ω).bind fun a ω1 => match ω1.tru a with
  | some true => fb ρ ω1
  | some false => .ok a ω1
  | none => .no
def fOr (fa fb : Ro → Om → R Sv) : Ro → Om → R Sv := fun ρ ω => (fa ρ ω).bind fun a ω1 => match ω1.tru a with
  | some true => .ok a ω1
  | some false => fb ρ ω1
  | none => .no
def fNot (fa : Ro → Om → R Sv) : Ro → Om → R Sv := fun ρ ω => (fa ρ ω).bind fun a ω1 => match ω1.tru a with
  | some k => .ok (.dat (.bl (!k))) ω1
  | none => .no
theorem sem_and (ha : SemE K W ta fa) (hb : SemE K W tb fb) : SemE K W (tAndT K ta tb) (fAnd fa fb) := fun ρ ω σ F H ps rl s Q h =>
  ha ρ ω σ F H ps rl s _ (Out.bind h fun a ω1 v1 F1 H1 p1 s1 r1 q1 h1 => by
    split at h1
    · rename_i e
      exact ⟨true, Om.tru_ok e r1 q1, by rw [if_pos rfl]; exact hb ρ ω1 σ F1 H1 p1 r1 (s.step s1) Q h1⟩
    · rename_i e
      exact ⟨false, Om.tru_ok e r1 q1, by rw [if_neg (by decide)]; exact h1.here r1 q1⟩
    · exact h1.elim)
theorem sem_or (ha : SemE K W ta fa) (hb : SemE K W tb fb) : SemE K W (tOrT K ta tb) (fOr fa fb) := fun ρ ω σ F H ps rl s Q h =>
  ha ρ ω σ F H ps rl s _ (Out.bind h fun a ω1 v1 F1 H1 p1 s1 r1 q1 h1 => by
    split at h1
    · rename_i e
      exact ⟨true, Om.tru_ok e r1 q1, by rw [if_pos rfl]; exact h1.here r1 q1⟩
    · rename_i e
      exact ⟨false, Om.tru_ok e r1 q1, by rw [if_neg (by decide)]; exact hb ρ ω1 σ F1 H1 p1 r1 (s.step s1) Q h1⟩
    · exact h1.elim)
theorem sem_not (ha : SemE K W ta fa) : SemE K W (tNotT K ta) (fNot fa) := fun ρ ω σ F H ps rl s Q h =>
  ha ρ ω σ F H ps rl s _ (Out.bind h fun a ω1 v1 F1 H1 p1 s1 r1 q1 h1 => by
    split at h1
    · rename_i k e
      exact ⟨k, Om.tru_ok e r1 q1, h1.here r1 (Dat.bl _)⟩
    · exact h1.elim)
/-- a value as a test -/
def fT (fa : Ro → Om → R Sv) : Ro → Om → R Bool := fun ρ ω => (fa ρ ω).bind fun a ω1 => R.of (ω1.tru a) ω1
theorem semT_tru (ha : SemE K W ta fa) : SemT K W (fun σ H Q => ta σ H fun x H' => ∃ k, TruV K x H' k ∧ Q k H') (fT fa) := fun ρ ω σ F H ps rl s Q h =>
  ha ρ ω σ F H ps rl s _ (Out.bind h fun a ω1 v1 F1 H1 p1 s1 r1 q1 h1 => by
    cases e : ω1.tru a with
    | none => rw [e] at h1; exact h1.elim
    | some k => rw [e] at h1; exact ⟨k, Om.tru_ok e r1 q1, Out.here (a := k) h1 r1 rfl⟩)
/-- a comparison as a test: its value is a truth -/
theorem semT_bl (ha : SemE K W ta fa) (hb : ∀ ρ ω a ω1, fa ρ ω = .ok a ω1 → ∃ b, a = .dat (.bl b)) : SemT K W (tTest ta) (fT fa) := fun ρ ω σ F H ps rl s Q h => by
  have key : Out K (SvAt K) F H ps σ W (fun x H' => ∃ k, x = .bl k ∧ Q k H') (fa ρ ω) := by
    cases e : fa ρ ω with
    | no => unfold fT at h; rw [e] at h; exact h
    | ex c fd ω1 => unfold fT at h; rw [e] at h; exact h
    | ok a ω1 =>
      obtain ⟨b, rfl⟩ := hb ρ ω a ω1 e
      unfold fT at h
      rw [e] at h
      intro v F1 H1 p1 s1 r1 q1
      refine ⟨b, Dat.bl_inv q1, ?_⟩
      exact h b F1 H1 p1 s1 r1 rfl
  exact ha ρ ω σ F H ps rl s _ key
def fTAnd (ft fu : Ro → Om → R Bool) : Ro → Om → R Bool := fun ρ ω => (ft ρ ω).bind fun c ω1 => if c = true then fu ρ ω1 else .ok false ω1
def fTOr (ft fu : Ro → Om → R Bool) : Ro → Om → R Bool := fun ρ ω => (ft ρ ω).bind fun c ω1 => if c = true then .ok true ω1 else fu ρ ω1
def fTNot (ft : Ro → Om → R Bool) : Ro → Om → R Bool := fun ρ ω => (ft ρ ω).bind fun c ω1 => .ok (!c) ω1
theorem semT_and (ht : SemT K W t ft) (hu : SemT K W u fu) : SemT K W (tAnd t u) (fTAnd ft fu) := fun ρ ω σ F H ps rl s Q h =>
  ht ρ ω σ F H ps rl s _ (Out.bind h fun a ω1 v1 F1 H1 p1 s1 r1 q1 h1 => by
    cases q1
    cases a with
    | true => rw [if_pos rfl] at h1 ⊢; exact hu ρ ω1 σ F1 H1 p1 r1 (s.step s1) Q h1
    | false => rw [if_neg (by decide)] at h1 ⊢; exact Out.here (a := false) h1 r1 rfl)
theorem semT_or (ht : SemT K W t ft) (hu : SemT K W u fu) : SemT K W (tOr t u) (fTOr ft fu) := fun ρ ω σ F H ps rl s Q h =>
  ht ρ ω σ F H ps rl s _ (Out.bind h fun a ω1 v1 F1 H1 p1 s1 r1 q1 h1 => by
    cases q1
    cases a with
    | true => rw [if_pos rfl] at h1 ⊢; exact Out.here (a := true) h1 r1 rfl
    | false => rw [if_neg (by decide)] at h1 ⊢; exact hu ρ ω1 σ F1 H1 p1 r1 (s.step s1) Q h1)
theorem semT_not (ht : SemT K W t ft) : SemT K W (tNot t) (fTNot ft) := fun ρ ω σ F H ps rl s Q h =>
  ht ρ ω σ F H ps rl s _ (Out.bind h fun a ω1 v1 F1 H1 p1 s1 r1 q1 h1 => by
    cases q1
    exact Out.here (a := !a) h1 r1 rfl)
def fIf (ft : Ro → Om → R Bool) (fa fb : Ro → Om → R Sv) : Ro → Om → R Sv := fun ρ ω => (ft ρ ω).bind fun c ω1 => if c = true then fa ρ ω1 else fb ρ ω1
theorem sem_if (ht : SemT K W t ft) (ha : SemE K W ta fa) (hb : SemE K W tb fb) : SemE K W (tIf t ta tb) (fIf ft fa fb) := fun ρ ω σ F H ps rl s Q h =>
  ht ρ ω σ F H ps rl s _ (Out.bind h fun a ω1 v1 F1 H1 p1 s1 r1 q1 h1 => by
    cases q1
    cases a with
    | true => rw [if_pos rfl] at h1 ⊢; exact ha ρ ω1 σ F1 H1 p1 r1 (s.step s1) Q h1
    | false => rw [if_neg (by decide)] at h1 ⊢; exact hb ρ ω1 σ F1 H1 p1 r1 (s.step s1) Q h1)
/-- a op b op c -/
def fChain (g g' : Sv → Sv → Om → R Sv) (fa fb fc : Ro → Om → R Sv) : Ro → Om → R Sv := fun ρ ω => (fa ρ ω).bind fun a ω1 => (fb ρ ω1).bind fun b ω2 => (g a b ω2).bind fun z ω3 => match z with
  | .dat (.bl true) => (fc ρ ω3).bind fun c ω4 => g' b c ω4
  | .dat (.bl false) => .ok (.dat (.bl false)) ω3
  | _ => .no
theorem sem_chain {tc : TE} {fc : Ro → Om → R Sv} (ha : SemE K W ta fa) (hb : SemE K W tb fb) (hc : SemE K W tc fc) (hr : Sem2 K r g) (hr' : Sem2 K r' g') : SemE K W (tChain r r' ta tb tc) (fChain g g' fa fb fc) := fun ρ ω σ F H ps rl s Q h =>
  ha ρ ω σ F H ps rl s _ (Out.bind h fun a ω1 v1 F1 H1 p1 s1 r1 q1 h1 =>
    hb ρ ω1 σ F1 H1 p1 r1 (s.step s1) _ (Out.bind h1 fun b ω2 v2 F2 H2 p2 s2 r2 q2 h2 =>
      hr ω2 F2 H2 p2 v1 v2 a b r2 (q1.step s2) q2 σ W _ (Out.bind h2 fun z ω3 v3 F3 H3 p3 s3 r3 q3 h3 => by
        split at h3
        · refine ⟨true, Dat.bl_inv q3, ?_⟩
          rw [if_pos rfl]
          exact hc ρ ω3 σ F3 H3 p3 r3 (((s.step s1).step s2).step s3) _ (Out.bind h3 fun c ω4 v4 F4 H4 p4 s4 r4 q4 h4 => hr' ω4 F4 H4 p4 v2 v4 b c r4 ((q2.step s3).step s4) q4 σ W Q h4)
        · refine ⟨false, Dat.bl_inv q3, ?_⟩
          rw [if_neg (by decide)]
          exact h3.here r3 (Dat.bl false)
        · exact h3.elim)))
end
end Vm
end
section
set_option Elab.async false
set_option linter.all false
set_option maxRecDepth 100000
set_option maxHeartbeats 4000000
/-! defs: called where nothing is being shown -/
namespace Vm
open PySem PySem.Spec PyProof.Rows L2

/-- the def at f keeps sp, wherever k rooms are left and no repr runs -/
structure FnG (P : Program) (w : World) (K : PySem.W.Frag) (mg : Str → Option Value) (base : Heap) (k : Nat) (f : Addr) (sp : Sp) : Prop where
  run : ∀ (A : Around) (outer : List Env) (s : Shared) (H : Hp) (us : List Value) (vs : List V) (Q : VK) (E : XK), Room k A → A.guards = some [] →
    Env0 P w K mg base A outer s H → Vals vs us → sp vs H Q E →
    codeAny (model P w) A (.call (.ref f) ⟨us, []⟩) (CR (L2.CX P w) outer P w H s Q E) s
theorem FnG.mono {P : Program} {w : World} {K : PySem.W.Frag} {mg : Str → Option Value} {base : Heap} {j k : Nat} {f : Addr} {sp : Sp}
    (F : FnG P w K mg base j f sp) (h : j ≤ k) : FnG P w K mg base k f sp :=
  ⟨fun A outer s H us vs Q E hr => F.run A outer s H us vs Q E (hr.mono h)⟩
theorem fnG_of {P : Program} {w : World} {K : PySem.W.Frag} {mg : Str → Option Value} {base : Heap} {k : Nat} {f : Addr} {name qual : Str} {params : Arguments}
    {body : List Stmt} {scope : Scope} {dvs : List V} {kws : List (Str × V)} {fd : FuncData} {N ps : List Str} {sp : Sp}
    (G : FunD K name qual params body scope dvs kws f fd) (S : FnScope N ps scope)
    (hb : ∀ (s : Shared) (us : List Value), us.length = ps.length → BindsTo s fd ⟨us, []⟩ (ps.zip us))
    (len : ∀ vs H Q E, sp vs H Q E → vs.length = ps.length)
    (hbody : ∀ (cdv : Value) (A : Around) (outer : List Env) (s : Shared) (H : Hp) (vs : List V) (Q : VK) (E : XK),
      Room k (A.deeper (envOfC qual scope s.heap.objs.size f cdv)) → A.guards = some [] → sp vs H Q E →
      ∃ t, PSs (cxOf (L2.CX P w) P w K mg base N qual scope f cdv A outer s H E) body t ∧
        t { nx := fun _ H' => Q .non H', rt := Q } (start N vs) H) :
    FnG P w K mg base (k + 1) f sp := by
  obtain ⟨oc, od, dV, kV, doc, pm, an, cdv, ct, osl, rfl, lk, hcd, _, _⟩ := G.ex
  constructor
  intro A outer s H us vs Q E hr hg e0 r hsp
  have hl := len _ _ _ _ hsp
  have kept : ∀ b o, base.get? b = some o → s.heap.get? b = some o := fun b o e => (e0.bs b o e).1
  have KX : K.In s.heap := e0.mod.kin.keeps kept
  have hkind : ∀ y ∈ ps.zip us, scope.names.lookup y.1 = some .local ∨
      (scope.names.lookup y.1 = some .cell ∧ ((cellsFrom (s.heap.objs.size + 1) scope.names []).lookup y.1).isSome = true) := by
    intro y hy
    have hm : y.1 ∈ ps := (List.of_mem_zip (a := y.1) (b := y.2) hy).1
    rcases S.par y.1 hm with q | q
    · exact Or.inl q
    · exact Or.inr ⟨q, PySem.W.cellsFrom_some _ _ _ (Or.inl q)⟩
  have hbt := hb s us (by rw [← r.length]; exact hl)
  refine codeAny_call_function hr.depth (KX _ _ lk) rfl S.co S.gen rfl (PySem.W.codeRec_of KX hcd) (hbt _ _ _ _ ?_)
  refine wpAny_newFunctionEnv_cells S.kind hkind ?_
  intro env he s1 x
  subst he
  refine ⟨(e0.mod.nolimit.keeps kept).keeps x.toInCall.keep, codeAny_func ?_⟩
  obtain ⟨t, ht, hq⟩ := hbody cdv A outer s H vs Q E (hr.deeper _) hg hsp
  have I : Inv (cxOf (L2.CX P w) P w K mg base N qual scope f cdv A outer s H E) [] (start N vs) H s1 :=
    inv_start S hr.hd e0 hl r x
  refine wpAny_mono (ht.run [] s1 (start N vs) H _ I hq) ?_ (fun e s' hs => hs)
  intro fl s' hs
  cases fl with
  | next =>
    obtain ⟨σ', H', J, q⟩ := hs
    exact (⟨V.non, H', J.os, J.bare, J.base, J.hok, rfl, q⟩ : CE outer P w H s Q Value.none s')
  | ret u =>
    obtain ⟨v, σ', H', J, rv, q⟩ := hs
    exact (⟨v, H', J.os, J.bare, J.base, J.hok, rv, q⟩ : CE outer P w H s Q u s')
  | brk => obtain ⟨_, _, _, q⟩ := hs; exact q.elim
  | cont => obtain ⟨_, _, _, q⟩ := hs; exact q.elim

section
variable {X : Cx} {k : Nat} {f : Addr} {sp : Sp} {E : L2.St → XK} {x : Str} {p pos : Pos} {e : Expr} {es : List Expr} {t : TA}
theorem run_fnG {pins : List (Addr × Obj)} {σ : L2.St} {H : Hp} {s : Shared} {Q : VK} {us : List Value} {vs : List V}
    (F : FnG X.prog X.w X.K X.mg X.base k f sp) (hr : Room k X.A) (hg : X.A.guards = some []) (hx : PassesAt (L2.CX X.prog X.w) X σ (E σ))
    (I : Inv X pins σ H s) (r : Vals vs us) (h : sp vs H Q (E σ)) : wpAny (model X.prog X.w) X.A (call (.ref f) us) (EP X pins σ Q) X.xe s := by
  refine wpAny_call (codeAny_mono (F.run X.A X.stack s H us vs Q (E σ) hr hg I.env0 r h) ?_)
  intro r s' hq
  cases r with
  | error e => exact hx pins H s e s' I hq
  | ok fl =>
    cases fl with
    | ret u => exact I.after hq
    | _ => exact (show False from hq).elim
theorem pe_callG (F : FnG X.prog X.w X.K X.mg X.base k f sp) (hr : Room k X.A) (hg : X.A.guards = some []) (hgl : Gl X x) (hm : X.mg x = some (.ref f))
    (hk : PySem.W.keepIn X.K (.ref f) = true) (hx : ∀ σ, PassesAt (L2.CX X.prog X.w) X σ (E σ)) (ha : PA X (e :: es) t)
    (hdb : (x == ("__debug__" : Str)) = false) (he : starEach (e :: es) X.env = (false, eval e X.env) :: starEach es X.env)
    (hpl : (backTo pos (starEach es X.env)).any (·.1) = false) : PE X (.Call (.Name x p) (e :: es) [] pos) (tCallS sp E t) := by
  constructor
  intro pins s σ H Q I h
  refine wpAny_Call_Name_kw (ld_glob I hgl hm ?_ hdb)
  refine PySem.W.callWith_K (h₀ := X.base) I.ok.mod.kin hk (thn (ha.run pos pins s σ H _ I h) ?_) he hpl
  rintro us s1 ⟨vs, H1, I1, r, q⟩
  exact ⟨I1.kIn, run_fnG F hr hg (hx σ) I1 r q⟩
end
end Vm
end
section
set_option Elab.async false
set_option linter.all false
set_option maxRecDepth 100000
set_option maxHeartbeats 4000000
/-! walks: loops and comprehensions over data -/
namespace Vm
open PySem PySem.Spec PyProof.Rows L2

/-! ### what is walked -/
/-- J yields the data ds, one a turn -/
def Walks (K : PySem.W.Frag) (F : Hp) (_ : List Addr) (J : It) (ds : List Dt) : Prop :=
  ∀ (i : Nat) (F2 H2 : Hp) (ps2 : List Addr) (ω2 : Om), Ex F F2 → Rel K F2 H2 ps2 ω2 →
    (∀ d, ds[i]? = some d → J.go i H2 ∧ ∀ x H3, J.yld i H2 x H3 → ∃ F3, Rel K F3 H3 ps2 ω2 ∧ Stp F2 H2 ps2 F3 H3 ps2 ∧ Dat K F3 x d) ∧
    (ds.length ≤ i → J.stop i H2)
def SemI (K : PySem.W.Frag) (W : WX) (t : TI) (f : Ro → Om → R (List Dt)) : Prop := ∀ ρ ω σ F H ps, Rel K F H ps ω → Slots K F ps σ ρ →
  ∀ Q : It → Hp → Prop, Out K (Walks K) F H ps σ W Q (f ρ ω) → t σ H Q
section
variable {K : PySem.W.Frag} {W : WX} {F H : Hp} {ps : List Addr} {ω : Om}
theorem walks_l' {a : Addr} {vs : List V} {ds : List Dt} (h : SqL K F a vs) (d : DatAll K F vs ds) : Walks K F ps (Itl K a) ds := by
  intro i F2 H2 ps2 ω2 e r
  have hl : SqL K H2 a vs := r.ex.sql (e.sql h)
  refine ⟨fun x hx => ?_, fun hi => ⟨vs, hl, by rw [d.length]; exact hi⟩⟩
  obtain ⟨v, h1, h2⟩ := d.get hx
  refine ⟨⟨vs, v, hl, h1⟩, fun y H3 hy => ?_⟩
  obtain ⟨rfl, hy⟩ := hy
  have := hy vs hl
  rw [h1] at this; cases this
  exact ⟨F2, r, Stp.refl, h2.mono e⟩
theorem walks_t {a : Addr} {vs : List V} {ds : List Dt} (h : SqT K F a vs) (d : DatAll K F vs ds) : Walks K F ps (Itt K a) ds := by
  intro i F2 H2 ps2 ω2 e r
  have hl : SqT K H2 a vs := r.ex.sqt (e.sqt h)
  refine ⟨fun x hx => ?_, fun hi => ⟨vs, hl, by rw [d.length]; exact hi⟩⟩
  obtain ⟨v, h1, h2⟩ := d.get hx
  refine ⟨⟨vs, v, hl, h1⟩, fun y H3 hy => ?_⟩
  obtain ⟨rfl, hy⟩ := hy
  have := hy vs hl
  rw [h1] at this; cases this
  exact ⟨F2, r, Stp.refl, h2.mono e⟩
def signs (x : Str) : List Dt := x.cps.toList.map fun c => .str ⟨#[c]⟩
theorem walks_s {x : Str} : Walks K F ps (Its x) (signs x) := by
  intro i F2 H2 ps2 ω2 e r
  refine ⟨fun d hd => ?_, fun hi => by
    show x.cps.size ≤ i
    simpa [signs] using hi⟩
  unfold signs at hd
  rw [List.getElem?_map] at hd
  cases hc : x.cps.toList[i]? with
  | none => rw [hc] at hd; cases hd
  | some c =>
    rw [hc] at hd
    cases hd
    have hc' : x.cps[i]? = some c := by simpa using hc
    refine ⟨(Array.getElem?_eq_some_iff.mp hc').1, fun y H3 hy => ?_⟩
    obtain ⟨rfl, c2, h2, rfl⟩ := hy
    rw [hc'] at h2; cases h2
    exact ⟨F2, r, Stp.refl, .str _⟩
def rangeD (lo : Int) (n : Nat) : List Dt := (List.range n).map fun i => .int (lo + (i : Nat))
theorem walks_r {lo : Int} {n : Nat} : Walks K F ps (Itr lo n) (rangeD lo n) := by
  intro i F2 H2 ps2 ω2 e r
  refine ⟨fun d hd => ?_, fun hi => by
    show n ≤ i
    simpa [rangeD] using hi⟩
  unfold rangeD at hd
  rw [List.getElem?_map] at hd
  cases hc : (List.range n)[i]? with
  | none => rw [hc] at hd; cases hd
  | some c =>
    rw [hc] at hd
    cases hd
    have hl : i < n := by have := (List.getElem?_eq_some_iff.mp hc).1; simpa using this
    have hci : c = i := by rw [List.getElem?_range hl] at hc; exact (Option.some.inj hc).symm
    subst hci
    refine ⟨hl, fun y H3 hy => ?_⟩
    obtain ⟨rfl, rfl⟩ := hy
    exact ⟨F2, r, Stp.refl, .int _⟩
def pairs (xs ys : List Dt) : List Dt := (xs.zip ys).map fun p => .tup [p.1, p.2]
def numbered (xs : List Dt) : List Dt := xs.zipIdx.map fun p => .tup [.int (p.2 : Nat), p.1]
theorem walks_e {a : Addr} {vs : List V} {ds : List Dt} (h : SqL K F a vs) (d : DatAll K F vs ds) : Walks K F ps (Ite K a) (numbered ds) := by
  intro i F2 H2 ps2 ω2 e r
  have hl : SqL K H2 a vs := r.ex.sql (e.sql h)
  refine ⟨fun x hx => ?_, fun hi => ⟨vs, hl, by rw [d.length]; simpa [numbered] using hi⟩⟩
  unfold numbered at hx
  rw [List.getElem?_map, List.getElem?_zipIdx] at hx
  cases hc : ds[i]? with
  | none => rw [hc] at hx; cases hx
  | some z =>
    rw [hc] at hx
    cases hx
    obtain ⟨v, h1, h2⟩ := d.get hc
    refine ⟨⟨vs, v, hl, h1⟩, fun y H3 hy => ?_⟩
    obtain ⟨T, w, rfl, hT, rfl, hw⟩ := hy
    have := hw vs hl
    rw [h1] at this; cases this
    obtain ⟨r1, s1⟩ := r.lay (o := .tup [.int (i : Nat), v]) hT
    refine ⟨_, r1, s1, .tup (SqT.of upd_same) (.cons ?_ (.cons ((h2.mono e).mono s1.ex) .nil))⟩
    have : (0 : Nat) + i = i := Nat.zero_add i
    simp
    exact .int _
end

/-! ### the value walked: frozen first -/
/-- the items of data -/
def Dt.items : Dt → Option (List Dt)
  | .lst ds => some ds
  | .rol ds => some ds
  | .tup ds => some ds
  | .str s => some (signs s)
  | _ => none
def fIt (fa : Ro → Om → R Sv) : Ro → Om → R (List Dt) := fun ρ ω => (fa ρ ω).bind fun a ω1 => match ω1.fz a with
  | some (d, ω2) => R.of d.items ω2
  | none => .no
section
variable {K : PySem.W.Frag} {W : WX} {ta : TE} {fa : Ro → Om → R Sv}
/-- the kinds are told apart by the value: the reading is used once with each -/
theorem semI_any (ha : SemE K W ta fa) : ∀ ρ ω σ F H ps, Rel K F H ps ω → Slots K F ps σ ρ → ∀ Q : It → Hp → Prop, Out K (Walks K) F H ps σ W Q (fIt fa ρ ω) →
    ta σ H fun x H1 => (∃ a, x = .ref a ∧ (∃ xs, SqL K H1 a xs) ∧ Q (Itl K a) H1) ∨ (∃ a, x = .ref a ∧ (∃ xs, SqT K H1 a xs) ∧ Q (Itt K a) H1) ∨ (∃ z, x = .str z ∧ Q (Its z) H1) := by
  intro ρ ω σ F H ps rl s Q h
  refine ha ρ ω σ F H ps rl s _ (Out.bind h fun a ω1 v1 F1 H1 p1 s1 r1 q1 h1 => ?_)
  split at h1
  · rename_i d ω2 e
    obtain ⟨F2, r2, s2, d2⟩ := Om.fz_ok e r1 q1
    have h2 := Out.step s2 h1
    cases d2 with
    | lst g1 g2 => exact .inl ⟨_, rfl, ⟨_, SqL.of (r2.ex _ _ g1)⟩, h2.here r2 (walks_l' (SqL.of g1) g2)⟩
    | rol g1 g2 => exact .inl ⟨_, rfl, ⟨_, r2.ex.sql g1⟩, h2.here r2 (walks_l' g1 g2)⟩
    | tup g1 g2 => exact .inr (.inl ⟨_, rfl, ⟨_, r2.ex.sqt g1⟩, h2.here r2 (walks_t g1 g2)⟩)
    | str z => exact .inr (.inr ⟨z, rfl, h2.here r2 walks_s⟩)
    | _ => exact h2.elim
  · exact h1.elim
end

/-- for x in e: e a list, a tuple or a text -/
def iSeq (K : PySem.W.Frag) (te : TE) : TI := fun σ H R => te σ H fun x H1 => (∃ a, x = .ref a ∧ (∃ xs, SqL K H1 a xs) ∧ R (Itl K a) H1) ∨ (∃ a, x = .ref a ∧ (∃ xs, SqT K H1 a xs) ∧ R (Itt K a) H1) ∨ (∃ z, x = .str z ∧ R (Its z) H1)
theorem semI_seq {K : PySem.W.Frag} {W : WX} {ta : TE} {fa : Ro → Om → R Sv} (ha : SemE K W ta fa) : SemI K W (iSeq K ta) (fIt fa) :=
  fun ρ ω σ F H ps rl s Q h => semI_any ha ρ ω σ F H ps rl s Q h
/-- by values: iter of a list, a tuple, a text -/
theorem pi_seq {X : Cx} {tg l : Expr} {tl : TE} (h : PE X l tl) : PI X tg l (iSeq X.K tl) := by
  constructor
  intro pins s σ H R I q
  refine thn (h.run pins s σ H _ I q) ?_
  rintro v s1 ⟨x, H1, I1, r1, q1⟩
  rcases q1 with ⟨a, rfl, ⟨xs, hq⟩, q⟩ | ⟨a, rfl, ⟨xs, hq⟩, q⟩ | ⟨z, rfl, q⟩
  · cases r1
    obtain ⟨its, rv, p, hz⟩ := I1.list hq
    refine wpAny_pyIter_list p.isList ?_
    refine ⟨s1.heap.objs.size, [s1.heap.objs.size], _, Itl X.K a, H1, rfl, I1.kept (t' := s1.toks) fun b o e => Heap.get?_push_of_some _ e, turn_list a s1.heap.objs.size, ⟨_, Heap.get?_push_size _ rfl, rfl, rfl⟩, ?_, q⟩
    intro b hb
    have e : b = s1.heap.objs.size := by simpa using hb
    subst e
    exact I1.fpOk (Nat.le_refl _) (I1.hok.fresh (Nat.le_refl _))
  · cases r1
    obtain ⟨its, rv, p, hz⟩ := I1.tuple hq
    refine wpAny_pyIter_tuple (show s1.heap.IsTuple a its.toArray from p) ?_
    refine ⟨s1.heap.objs.size, [s1.heap.objs.size], _, Itt X.K a, H1, rfl, I1.kept (t' := s1.toks) fun b o e => Heap.get?_push_of_some _ e, turn_tuple a _, ⟨_, Heap.get?_push_size _ rfl, rfl, rfl⟩, fun b hb => ?_, q⟩
    have e : b = s1.heap.objs.size := by simpa using hb
    subst e
    exact I1.fpOk (Nat.le_refl _) (I1.hok.fresh (Nat.le_refl _))
  · obtain ⟨t, rfl⟩ := r1
    cases ha : z.cps.all (· < 128)
    · exact wpAny_pyIter_wide ha (pi_one (tk := s1.toks) I1 _ (turn_str _ z t "str_iterator" (.inr rfl)) ⟨_, Heap.get?_push_size _ rfl, rfl, rfl⟩ q)
    · exact wpAny_pyIter_ascii ha (pi_one (tk := s1.toks) I1 _ (turn_str _ z t "str_ascii_iterator" (.inl rfl)) ⟨_, Heap.get?_push_size _ rfl, rfl, rfl⟩ q)
end Vm
end
section
set_option Elab.async false
set_option linter.all false
set_option maxRecDepth 100000
set_option maxHeartbeats 4000000
/-! targets and comprehensions -/
namespace Vm
open PySem PySem.Spec PyProof.Rows L2

/-! ### lists that are being made -/
section
variable {K : PySem.W.Frag} {F F1 H H1 : Hp} {ps ps1 : List Addr} {ω : Om} {D : Addr} {o : HO}
theorem Stp.redo (s : Stp F1 H1 ps1 F H ps) (h : H1 D = none) : Stp F1 H1 ps1 F (upd H D o) ps := by
  refine ⟨s.ex, s.pre, fun a u h1 h2 h3 => ?_, s.new⟩
  have : a ≠ D := fun z => by rw [z, h] at h1; cases h1
  rw [upd_ne this]
  exact s.kp a u h1 h2 h3
theorem Rel.away (r : Rel K F H ps ω) (h : F D = none) (h2 : D ∉ ps) : Rel K F (upd H D o) ps ω := by
  refine ⟨fun a u e => ?_, r.len, r.nd, fun j p w e1 e2 => ?_, fun p hp => ?_⟩
  · have : a ≠ D := fun z => by rw [z, h] at e; cases e
    rw [upd_ne this]; exact r.ex a u e
  · have : p ≠ D := fun z => h2 (by rw [← z]; exact List.mem_of_getElem? e1)
    exact (r.ob j p w e1 e2).mono (Ex.refl F) (List.prefix_refl _) (fun z => z) (fun u z => by rw [upd_ne this]; exact z)
  · have : p ≠ D := fun z => h2 (by rw [← z]; exact hp)
    rw [upd_ne this]; exact r.tr p hp
/-- a list that nobody held is data from now on -/
theorem Rel.adopt {vs : List V} {ds : List Dt} (r : Rel K F H ps ω) (h : F D = none) (h2 : D ∉ ps) (hD : H D = some (.lst vs)) (hd : DatAll K F vs ds) :
    ∃ F', Rel K F' H ps ω ∧ Ex F F' ∧ Dat K F' (.ref D) (.lst ds) ∧ ∀ a, F' a ≠ none → F a ≠ none ∨ a = D := by
  have hx : Ex F (upd F D (.lst vs)) := Ex.new h
  refine ⟨upd F D (.lst vs), ⟨fun a u e => ?_, r.len, r.nd, fun j p w e1 e2 => ?_, r.tr⟩, hx, .lst upd_same (hd.mono hx), fun a z => ?_⟩
  · by_cases ha : a = D
    · subst ha; rw [upd_same] at e; cases e; exact hD
    · rw [upd_ne ha] at e; exact r.ex a u e
  · have : p ≠ D := fun z => h2 (by rw [← z]; exact List.mem_of_getElem? e1)
    exact (r.ob j p w e1 e2).mono hx (List.prefix_refl _) (fun z => by rw [upd_ne this]; exact z) (fun u z => z)
  · by_cases ha : a = D
    · exact .inr ha
    · rw [upd_ne ha] at z; exact .inl z
end

/-! ### targets -/
/-- v's place holds after: only the slots in ix are written -/
def SemG (K : PySem.W.Frag) (ix : List Nat) (g : TG) (b : Dt → Ro → Option Ro) : Prop := ∀ F H ps σ v d ρ ρ', Ex F H → Dat K F v d → Slots K F ps σ ρ → b d ρ = some ρ' →
  ∀ Q : L2.St → Hp → Prop, (∀ σ', Slots K F ps σ' ρ' → (∀ vs : List Nat, (∀ i ∈ ix, i ∈ vs) → wipe σ' vs = wipe σ vs) → Q σ' H) → g v σ H Q
def SemGs (K : PySem.W.Frag) (ix : List Nat) (g : TGs) (b : List Dt → Ro → Option Ro) : Prop := ∀ F H ps σ v d ρ ρ', Ex F H → DatAll K F v d → Slots K F ps σ ρ → b d ρ = some ρ' →
  ∀ Q : L2.St → Hp → Prop, (∀ σ', Slots K F ps σ' ρ' → (∀ vs : List Nat, (∀ i ∈ ix, i ∈ vs) → wipe σ' vs = wipe σ vs) → Q σ' H) → g v σ H Q
theorem wipe_set {σ : L2.St} {i : Nat} {x : Option V} : ∀ {vs : List Nat}, i ∈ vs → wipe (σ.set i x) vs = wipe σ vs
  | v :: vs, h => by
    show (wipe (σ.set i x) vs).set v none = (wipe σ vs).set v none
    by_cases hv : i ∈ vs
    · rw [wipe_set hv]
    · have e : i = v := (List.mem_cons.mp h).resolve_right hv
      subst e
      have : ∀ ws : List Nat, i ∉ ws → wipe (σ.set i x) ws = (wipe σ ws).set i x := by
        intro ws
        induction ws with
        | nil => intro _; rfl
        | cons w ws ih =>
          intro hw
          rw [List.mem_cons, not_or] at hw
          show (wipe (σ.set i x) ws).set w none = ((wipe σ ws).set w none).set i x
          rw [ih hw.2, List.set_comm _ _ hw.1]
      rw [this vs hv, List.set_set]
theorem wipe_sub {σ : L2.St} {vs : List Nat} : ∀ {us : List Nat}, (∀ i ∈ us, i ∈ vs) → wipe (wipe σ us) vs = wipe σ vs
  | [], _ => rfl
  | u :: us, h => by
    show wipe ((wipe σ us).set u none) vs = wipe σ vs
    rw [wipe_set (h u (by simp)), wipe_sub fun i hi => h i (List.mem_cons_of_mem _ hi)]
def bName (i : Nat) (d : Dt) (ρ : Ro) : Option Ro := some (ρ.set i (some (.dat d)))
theorem semG_name {K : PySem.W.Frag} (i : Nat) : SemG K [i] (gName i) (bName i) := fun F H ps σ v d ρ ρ' e hd s h Q q => by
  cases h
  exact q _ (s.set (sv := .dat d) hd) fun vs hv => wipe_set (hv i (by simp))
def bNil (ds : List Dt) (ρ : Ro) : Option Ro := match ds with
  | [] => some ρ
  | _ => none
def bCons (b : Dt → Ro → Option Ro) (c : List Dt → Ro → Option Ro) (ds : List Dt) (ρ : Ro) : Option Ro := match ds with
  | d :: ds => (b d ρ).bind fun ρ1 => c ds ρ1
  | [] => none
def bTup (n : Nat) (c : List Dt → Ro → Option Ro) (d : Dt) (ρ : Ro) : Option Ro := match d with
  | .tup ds => if ds.length = n then c ds ρ else none
  | _ => none
section
variable {K : PySem.W.Frag} {ix jx : List Nat} {g : TG} {gs : TGs} {b : Dt → Ro → Option Ro} {c : List Dt → Ro → Option Ro}
theorem semGs_nil : SemGs K [] gNil bNil := fun F H ps σ v d ρ ρ' e hd s h Q q => by
  unfold bNil at h
  split at h
  · cases h; cases hd
    exact ⟨rfl, q σ s fun _ _ => rfl⟩
  · cases h
theorem semGs_cons (h1 : SemG K ix g b) (h2 : SemGs K jx gs c) : SemGs K (ix ++ jx) (gCons g gs) (bCons b c) := fun F H ps σ v d ρ ρ' e hd s h Q q => by
  unfold bCons at h
  split at h
  · cases hd with
    | cons d1 d2 =>
    rw [Option.bind_eq_some_iff] at h
    obtain ⟨ρ1, e1, e2⟩ := h
    refine ⟨_, _, rfl, h1 F H ps σ _ _ ρ ρ1 e d1 s e1 _ fun σ1 s1 w1 => h2 F H ps σ1 _ _ ρ1 ρ' e d2 s1 e2 _ fun σ2 s2 w2 => q σ2 s2 fun vs hv => ?_⟩
    rw [w2 vs fun i hi => hv i (List.mem_append_right _ hi), w1 vs fun i hi => hv i (List.mem_append_left _ hi)]
  · cases h
theorem semG_tup (h1 : SemGs K ix gs c) (n : Nat) : SemG K ix (gTup K n gs) (bTup n c) := fun F H ps σ v d ρ ρ' e hd s h Q q => by
  unfold bTup at h
  split at h
  · split at h
    · rename_i hl
      obtain ⟨p, vs, rfl, l, dd⟩ := Dat.tup_inv hd
      exact ⟨p, vs, rfl, e.sqt l, by rw [dd.length]; exact hl, h1 F H ps σ vs _ ρ ρ' e dd s h Q q⟩
    · cases h
  · cases h
end

/-! ### comprehensions -/
def wipeR (ρ : Ro) : List Nat → Ro
  | [] => ρ
  | v :: vs => (wipeR ρ vs).set v none
theorem Slots.wipe {K : PySem.W.Frag} {F : Hp} {ps : List Addr} {σ : L2.St} {ρ : Ro} (s : Slots K F ps σ ρ) : ∀ vs : List Nat, Slots K F ps (wipe σ vs) (wipeR ρ vs)
  | [] => s
  | v :: vs => by
    have ih := Slots.wipe s vs
    refine ⟨by show ((L2.wipe σ vs).set v none).length = ((wipeR ρ vs).set v none).length; simpa using ih.len, fun i sv e => ?_⟩
    have e : ((wipeR ρ vs).set v none)[i]? = some (some sv) := e
    show ∃ w, ((L2.wipe σ vs).set v none)[i]? = some (some w) ∧ _
    by_cases hi : v = i
    · subst hi
      by_cases hl : v < (wipeR ρ vs).length
      · rw [List.getElem?_set_self hl] at e; cases e
      · rw [List.getElem?_eq_none (by simpa using hl)] at e; cases e
    · rw [List.getElem?_set_ne hi] at e ⊢
      exact ih.at_ i sv e
/-- the turns of a list comprehension -/
def lcGo (b : Dt → Ro → Option Ro) (ft : Ro → Om → R Bool) (fe : Ro → Om → R Sv) (ρ : Ro) : List Dt → Om → List Dt → R (List Dt)
  | [], ω, acc => .ok acc ω
  | d :: ds, ω, acc => match b d ρ with
    | none => .no
    | some ρ2 => match ft ρ2 ω with
      | .ok true ω1 => match fe ρ2 ω1 with
        | .ok a ω2 => match ω2.fz a with
          | some (e, ω3) => if acc.length < sizeLine then lcGo b ft fe ρ ds ω3 (acc ++ [e]) else .no
          | none => .no
        | _ => .no
      | .ok false ω1 => lcGo b ft fe ρ ds ω1 acc
      | _ => .no
def never : WX := fun _ _ _ _ => False
section
variable {K : PySem.W.Frag} {W : WX} {wi : TI} {g : TG} {tt : TT} {te : TE} {ix vs : List Nat} {fi : Ro → Om → R (List Dt)} {b : Dt → Ro → Option Ro} {ft : Ro → Om → R Bool} {fe : Ro → Om → R Sv}
/-- the state in a turn: the list at D is being made -/
structure Mk (K : PySem.W.Frag) (F1 H1 : Hp) (ps1 : List Addr) (D : Addr) (F H : Hp) (ps : List Addr) (ω : Om) (acc : List Dt) : Prop where
  stp : Stp F1 H1 ps1 F H ps
  rel : Rel K F H ps ω
  fD : F D = none
  pD : D ∉ ps
  hD : ∃ vs, H D = some (.lst vs) ∧ DatAll K F vs acc
theorem Mk.step {F1 H1 F H F' H' : Hp} {ps1 ps ps' : List Addr} {D : Addr} {ω ω' : Om} {acc : List Dt} (m : Mk K F1 H1 ps1 D F H ps ω acc) (s : Stp F H ps F' H' ps') (r : Rel K F' H' ps' ω') : Mk K F1 H1 ps1 D F' H' ps' ω' acc := by
  obtain ⟨vs, h1, h2⟩ := m.hD
  have n : ¬ (F' D ≠ none ∨ D ∈ ps') := fun z => by
    rcases s.new D z with z | z | z
    · exact z m.fD
    · exact m.pD z
    · rw [h1] at z; cases z
  exact ⟨m.stp.trans s, r, Classical.not_not.mp fun z => n (.inl z), fun z => n (.inr z), vs, s.kp D _ h1 m.fD m.pD, h2.mono s.ex⟩
theorem Mk.snoc {F1 H1 F H : Hp} {ps1 ps : List Addr} {D : Addr} {ω : Om} {acc : List Dt} {vs : List V} {v : V} {d : Dt} (m : Mk K F1 H1 ps1 D F H ps ω acc) (h1 : H1 D = none) (h : H D = some (.lst vs)) (hv : DatAll K F vs acc) (hd : Dat K F v d) :
    Mk K F1 H1 ps1 D F (upd H D (.lst (vs ++ [v]))) ps ω (acc ++ [d]) :=
  ⟨m.stp.redo h1, m.rel.away m.fD m.pD, m.fD, m.pD, _, upd_same, hv.append (.cons hd .nil)⟩
end
end Vm
end
section
set_option Elab.async false
set_option linter.all false
set_option maxRecDepth 100000
set_option maxHeartbeats 4000000
/-! fresh lists; statements -/
namespace Vm
open PySem PySem.Spec PyProof.Rows L2

/-! ### expressions that make a new list: it is data, or of the store -/
def OutF (K : PySem.W.Frag) (F H : Hp) (ps : List Addr) (σ : L2.St) (W : WX) (Q : VK) : R (List Dt) → Prop
  | .no => False
  | .ok ds ω' => ∀ p vs F' H' ps', Stp F H ps F' H' ps' → Rel K F' H' ps' ω' → H p = none → F' p = none → p ∉ ps' → H' p = some (.lst vs) → DatAll K F' vs ds → Q (.ref p) H'
  | .ex c fd ω' => ∀ cls dx F' H' ps', Stp F H ps F' H' ps' → Rel K F' H' ps' ω' → ExAt K F' H' cls dx c fd → W cls dx σ H'
def SemF (K : PySem.W.Frag) (W : WX) (t : TE) (f : Ro → Om → R (List Dt)) : Prop := ∀ ρ ω σ F H ps, Rel K F H ps ω → Slots K F ps σ ρ → ∀ Q : VK, OutF K F H ps σ W Q (f ρ ω) → t σ H Q
def fDat (f : Ro → Om → R (List Dt)) : Ro → Om → R Sv := fun ρ ω => (f ρ ω).bind fun ds ω1 => .ok (.dat (.lst ds)) ω1
def fOwn (f : Ro → Om → R (List Dt)) : Ro → Om → R Sv := fun ρ ω => (f ρ ω).bind fun ds ω1 => .ok (.own ω1.length) (ω1 ++ [.lst ds])
section
variable {K : PySem.W.Frag} {F F' F1 H H' H1 : Hp} {ps ps' ps1 : List Addr} {ω ω' : Om} {σ : L2.St} {W : WX} {Q : VK}
theorem Stp.adopt {p : Addr} (s : Stp F H ps F1 H1 ps1) (h : H p = none) (x : Ex F1 F') (n : ∀ a, F' a ≠ none → F1 a ≠ none ∨ a = p) : Stp F H ps F' H1 ps1 := by
  refine ⟨s.ex.trans x, s.pre, s.kp, fun a z => ?_⟩
  rcases z with z | z
  · rcases n a z with z | z
    · exact s.new a (.inl z)
    · exact .inr (.inr (by rw [z]; exact h))
  · exact s.new a (.inr z)
/-- a list that nobody held comes to the store -/
theorem Rel.take {p : Addr} {vs : List V} {ds : List Dt} (r : Rel K F H ps ω) (h : F p = none) (h2 : p ∉ ps) (hp : H p = some (.lst vs)) (hd : DatAll K F vs ds) : Rel K F H (ps ++ [p]) (ω ++ [.lst ds]) := by
  refine ⟨r.ex, by simp [r.len], ?_, fun j q w h1 h2' => ?_, fun q hq => ?_⟩
  · rw [List.nodup_append]
    refine ⟨r.nd, by simp, fun a ha b hb z => ?_⟩
    have : b = p := by simpa using hb
    subst this; subst z
    exact h2 ha
  · by_cases hj : j < ps.length
    · rw [List.getElem?_append_left hj] at h1
      rw [List.getElem?_append_left (by rw [← r.len]; exact hj)] at h2'
      exact (r.ob j q w h1 h2').mono (Ex.refl F) (List.prefix_append _ _) (fun z => z) (fun _ z => z)
    · have hj2 : j = ps.length := by
        have := (List.getElem?_eq_some_iff.mp h1).1
        simp at this; omega
      subst hj2
      simp at h1
      have h2'' : w = .lst ds := by rw [r.len] at h2'; simpa using h2'.symm
      subst h1; subst h2''
      exact ⟨h, vs, hp, hd⟩
  · rcases List.mem_append.mp hq with z | z
    · exact r.tr q z
    · have : q = p := by simpa using z
      subst this; exact ⟨_, hp⟩
theorem Stp.take {p : Addr} (s : Stp F H ps F1 H1 ps1) (h : H p = none) : Stp F H ps F1 H1 (ps1 ++ [p]) := by
  refine ⟨s.ex, s.pre.trans (List.prefix_append _ _), s.kp, fun a z => ?_⟩
  rcases z with z | z
  · exact s.new a (.inl z)
  · rcases List.mem_append.mp z with z | z
    · exact s.new a (.inr z)
    · have : a = p := by simpa using z
      subst this; exact .inr (.inr h)
theorem SemF.dat {t : TE} {f : Ro → Om → R (List Dt)} (h : SemF K W t f) : SemE K W t (fDat f) := fun ρ ω σ F H ps rl s Q q => by
  refine h ρ ω σ F H ps rl s Q ?_
  unfold fDat at q
  cases e : f ρ ω with
  | no => rw [e] at q; exact q
  | ex c fd ω1 => rw [e] at q; exact q
  | ok ds ω1 =>
    rw [e] at q
    intro p vs F1 H1 ps1 s1 r1 hp hf hn hl hd
    obtain ⟨F', r', x', d', n'⟩ := r1.adopt hf hn hl hd
    exact q _ _ _ _ (s1.adopt hp x' n') r' d'
theorem SemF.own {t : TE} {f : Ro → Om → R (List Dt)} (h : SemF K W t f) : SemE K W t (fOwn f) := fun ρ ω σ F H ps rl s Q q => by
  refine h ρ ω σ F H ps rl s Q ?_
  unfold fOwn at q
  cases e : f ρ ω with
  | no => rw [e] at q; exact q
  | ex c fd ω1 => rw [e] at q; exact q
  | ok ds ω1 =>
    rw [e] at q
    intro p vs F1 H1 ps1 s1 r1 hp hf hn hl hd
    refine q _ _ _ _ (s1.take hp) (r1.take hf hn hl hd) ⟨p, ?_, rfl⟩
    rw [← r1.len]; simp
/-- a new list laid just now -/
theorem OutF.new {p : Addr} {vs : List V} {ds : List Dt} (h : OutF K F H ps σ W Q (.ok ds ω)) (r : Rel K F H ps ω) (hp : H p = none) (hd : DatAll K F vs ds) : Q (.ref p) (upd H p (.lst vs)) :=
  h p vs F (upd H p (.lst vs)) ps (Stp.refl.redo hp) (r.away (r.fnone hp) (r.notin hp)) hp (r.fnone hp) (r.notin hp) upd_same hd
theorem Stp.fresh {p : Addr} (s : Stp F H ps F' H' ps') (r : Rel K F' H' ps' ω') (h : H' p = none) : H p = none := by
  cases e : H p with
  | none => rfl
  | some o =>
    by_cases h1 : F p = none
    · by_cases h2 : p ∈ ps
      · obtain ⟨u, hu⟩ := r.tr p (s.pre.subset h2)
        rw [h] at hu; cases hu
      · rw [s.kp p o e h1 h2] at h; cases h
    · cases e1 : F p with
      | none => exact absurd e1 h1
      | some u => rw [r.ex p u (s.ex p u e1)] at h; cases h
theorem OutF.step {r : R (List Dt)} (s : Stp F H ps F' H' ps') (rl : Rel K F' H' ps' ω) (h : OutF K F H ps σ W Q r) : OutF K F' H' ps' σ W Q r := by
  cases r with
  | no => exact h
  | ex c fd ω1 => exact fun c d F2 H2 p2 s2 => h c d F2 H2 p2 (s.trans s2)
  | ok ds ω1 => exact fun p vs F2 H2 p2 s2 r2 hp => h p vs F2 H2 p2 (s.trans s2) r2 (s.fresh rl hp)
/-- behind a part that came to a value -/
theorem OutF.bind {α β : Type} {At : Hp → List Addr → β → α → Prop} {r : R α} {k : α → Om → R (List Dt)} {Q1 : β → Hp → Prop} (h : OutF K F H ps σ W Q (r.bind k))
    (hk : ∀ a ω1 v1 F1 H1 ps1, Stp F H ps F1 H1 ps1 → Rel K F1 H1 ps1 ω1 → At F1 ps1 v1 a → OutF K F1 H1 ps1 σ W Q (k a ω1) → Q1 v1 H1) : Out K At F H ps σ W Q1 r := by
  cases r with
  | no => exact h
  | ok a ω1 => exact fun v F1 H1 p1 s r1 q => hk a ω1 v F1 H1 p1 s r1 q (OutF.step s r1 h)
  | ex c fd ω1 => exact h
end
section
variable {K : PySem.W.Frag} {W : WX} {ta te : TE} {fa : Ro → Om → R Sv} {as : TA} {fs : Ro → Om → R (List Sv)}
def fLstF (fa : Ro → Om → R (List Sv)) : Ro → Om → R (List Dt) := fun ρ ω => (fa ρ ω).bind fun as ω1 => match ω1.fzAll as with
  | some (ds, ω2) => if ds.length ≤ sizeLine then .ok ds ω2 else .no
  | none => .no
theorem semF_lst (ha : SemA K W as fs) : SemF K W (tLst as) (fLstF fs) := fun ρ ω σ F H ps rl s Q h =>
  ha ρ ω σ F H ps rl s _ (OutF.bind h fun as ω1 xs F1 H1 p1 s1 r1 q1 h1 => by
    split at h1
    · rename_i ds ω2 e
      split at h1
      · rename_i hl
        obtain ⟨F2, r2, s2, d2⟩ := Om.fzAll_ok e r1 q1
        exact ⟨by rw [d2.length]; exact hl, fun p hp => (OutF.step s2 r2 h1).new r2 hp d2⟩
      · exact h1.elim
    · exact h1.elim)
def fLcF (fi : Ro → Om → R (List Dt)) (b : Dt → Ro → Option Ro) (ft : Ro → Om → R Bool) (fe : Ro → Om → R Sv) (vs : List Nat) : Ro → Om → R (List Dt) := fun ρ ω =>
  (fi ρ ω).bind fun ds ω1 => lcGo b ft fe (wipeR ρ vs) ds ω1 []
variable {wi : TI} {g : TG} {tt : TT} {ix vs : List Nat} {fi : Ro → Om → R (List Dt)} {b : Dt → Ro → Option Ro} {ft : Ro → Om → R Bool} {fe : Ro → Om → R Sv}
theorem semF_lc (hi : SemI K W wi fi) (hg : SemG K ix g b) (ht : SemT K never tt ft) (he : SemE K never te fe) (hx : ∀ i ∈ ix, i ∈ vs) : SemF K W (tLc wi g tt te vs) (fLcF fi b ft fe vs) := fun ρ ω σ F H ps rl s Q h =>
  hi ρ ω σ F H ps rl s _ (OutF.bind h fun ds ω1 J F1 H1 p1 s1 r1 q1 h1 => by
    intro D hD
    have hs := s.step s1
    generalize hr : lcGo b ft fe (wipeR ρ vs) ds ω1 [] = r0 at h1
    refine ⟨fun i m Hi => m = ds.length - i ∧ i ≤ ds.length ∧ ∃ F2 ps2 ω2 acc, Mk K F1 H1 p1 D F2 Hi ps2 ω2 acc ∧ lcGo b ft fe (wipeR ρ vs) (ds.drop i) ω2 acc = r0, ⟨_, rfl, Nat.zero_le _, F1, p1, ω1, [], ⟨Stp.refl.redo hD, r1.away (r1.fnone hD) (r1.notin hD), r1.fnone hD, r1.notin hD, [], upd_same, .nil⟩, hr⟩, ?_⟩
    rintro i m Hi ⟨rfl, hi, F2, ps2, ω2, acc, mk, hgo⟩
    obtain ⟨ws, hDi, hws⟩ := mk.hD
    have wk := q1 i F2 Hi ps2 ω2 mk.stp.ex mk.rel
    by_cases hlt : i < ds.length
    · have e : ds[i]? = some ds[i] := List.getElem?_eq_getElem hlt
      rw [List.drop_eq_getElem_cons hlt] at hgo
      obtain ⟨g1, g2⟩ := wk.1 _ e
      refine .inr ⟨g1, fun H' => i + 1 ≤ ds.length ∧ ∃ F2 ps2 ω2 acc, Mk K F1 H1 p1 D F2 H' ps2 ω2 acc ∧ lcGo b ft fe (wipeR ρ vs) (ds.drop (i + 1)) ω2 acc = r0, fun H' hn => ⟨ds.length - (i + 1), by omega, rfl, hn⟩, fun x H3 hy => ?_⟩
      obtain ⟨F3, r3, s3, d3⟩ := g2 x H3 hy
      have mk3 := mk.step s3 r3
      have nok : r0 ≠ .no := fun z => by rw [z] at h1; exact h1
      unfold lcGo at hgo
      split at hgo
      · exact absurd hgo.symm nok
      · rename_i ρ2 hb
        refine hg F3 H3 ps2 _ x _ _ ρ2 mk3.rel.ex d3 (((hs.step mk3.stp)).wipe vs) hb _ fun σ2 s2 w2 => ⟨?_, ?_⟩
        · rw [w2 vs hx, wipe_sub fun i hi => hi]
        · refine ht ρ2 ω2 σ2 F3 H3 ps2 mk3.rel s2 _ ?_
          split at hgo
          · rename_i ω3 et
            rw [et]
            intro c F4 H4 p4 s4 r4 hc
            cases hc
            rw [if_pos rfl]
            have mk4 := mk3.step s4 r4
            refine he ρ2 ω3 σ2 F4 H4 p4 r4 (s2.step s4) _ ?_
            split at hgo
            · rename_i a ω4 ee
              rw [ee]
              intro y F5 H5 p5 s5 r5 q5
              have mk5 := mk4.step s5 r5
              split at hgo
              · rename_i dd ω6 ef
                obtain ⟨F6, r6, s6, d6⟩ := Om.fz_ok ef r5 q5
                have mk6 := mk5.step s6 r6
                split at hgo
                · rename_i hlen
                  obtain ⟨us, hu1, hu2⟩ := mk6.hD
                  exact ⟨us, hu1, by rw [hu2.length]; exact hlen, hlt, F6, p5, ω6, _, mk6.snoc hD hu1 hu2 d6, hgo⟩
                · exact absurd hgo.symm nok
              · exact absurd hgo.symm nok
            · exact absurd hgo.symm nok
          · rename_i ω3 et
            rw [et]
            intro c F4 H4 p4 s4 r4 hc
            cases hc
            rw [if_neg (by decide)]
            exact ⟨hlt, F4, p4, ω3, acc, mk3.step s4 r4, hgo⟩
          · exact absurd hgo.symm nok
    · have hi2 : i = ds.length := by omega
      subst hi2
      rw [List.drop_length] at hgo
      have e0 : r0 = .ok acc ω2 := hgo.symm
      rw [e0] at h1
      refine .inl ⟨wk.2 (Nat.le_refl _), ?_⟩
      exact h1 D _ F2 Hi ps2 mk.stp mk.rel hD mk.fD mk.pD hDi hws)
end

/-! ### what a statement comes to -/
inductive RS where
  | no | nx (ρ : Ro) (ω : Om) | rt (a : Sv) (ω : Om) | bk (ρ : Ro) (ω : Om) | ct (ρ : Ro) (ω : Om) | ex (c : Str) (fd : Option (Str × Dt)) (ρ : Ro) (ω : Om)
def R.toS {α : Type} (r : R α) (ρ : Ro) (k : α → Om → RS) : RS := match r with
  | .no => .no
  | .ok a ω => k a ω
  | .ex c fd ω => .ex c fd ρ ω
@[simp] theorem R.toS_no {α : Type} (ρ : Ro) (k : α → Om → RS) : (R.no : R α).toS ρ k = .no := rfl
@[simp] theorem R.toS_ok {α : Type} (a : α) (ω : Om) (ρ : Ro) (k : α → Om → RS) : (R.ok a ω).toS ρ k = k a ω := rfl
@[simp] theorem R.toS_ex {α : Type} (c : Str) (fd : Option (Str × Dt)) (ω : Om) (ρ : Ro) (k : α → Om → RS) : (R.ex c fd ω : R α).toS ρ k = .ex c fd ρ ω := rfl
def RS.then (r : RS) (k : Ro → Om → RS) : RS := match r with
  | .nx ρ ω => k ρ ω
  | r => r
@[simp] theorem RS.then_nx (ρ : Ro) (ω : Om) (k : Ro → Om → RS) : (RS.nx ρ ω).then k = k ρ ω := rfl
@[simp] theorem RS.then_rt (a : Sv) (ω : Om) (k : Ro → Om → RS) : (RS.rt a ω).then k = .rt a ω := rfl
@[simp] theorem RS.then_no (k : Ro → Om → RS) : RS.no.then k = .no := rfl
@[simp] theorem RS.then_bk (ρ : Ro) (ω : Om) (k : Ro → Om → RS) : (RS.bk ρ ω).then k = .bk ρ ω := rfl
@[simp] theorem RS.then_ct (ρ : Ro) (ω : Om) (k : Ro → Om → RS) : (RS.ct ρ ω).then k = .ct ρ ω := rfl
@[simp] theorem RS.then_ex (c : Str) (fd : Option (Str × Dt)) (ρ : Ro) (ω : Om) (k : Ro → Om → RS) : (RS.ex c fd ρ ω).then k = .ex c fd ρ ω := rfl
def OutS (K : PySem.W.Frag) (F H : Hp) (ps : List Addr) (W : WX) (D : Ends) : RS → Prop
  | .no => False
  | .nx ρ ω => ∀ σ F' H' ps', Stp F H ps F' H' ps' → Rel K F' H' ps' ω → Slots K F' ps' σ ρ → D.nx σ H'
  | .rt a ω => ∀ v F' H' ps', Stp F H ps F' H' ps' → Rel K F' H' ps' ω → SvAt K F' ps' v a → D.rt v H'
  | .bk ρ ω => ∀ σ F' H' ps', Stp F H ps F' H' ps' → Rel K F' H' ps' ω → Slots K F' ps' σ ρ → D.bk σ H'
  | .ct ρ ω => ∀ σ F' H' ps', Stp F H ps F' H' ps' → Rel K F' H' ps' ω → Slots K F' ps' σ ρ → D.ct σ H'
  | .ex c fd ρ ω => ∀ cls dx σ F' H' ps', Stp F H ps F' H' ps' → Rel K F' H' ps' ω → Slots K F' ps' σ ρ → ExAt K F' H' cls dx c fd → W cls dx σ H'
def SemS (K : PySem.W.Frag) (W : WX) (t : TS) (f : Ro → Om → RS) : Prop := ∀ ρ ω σ F H ps, Rel K F H ps ω → Slots K F ps σ ρ → ∀ D : Ends, OutS K F H ps W D (f ρ ω) → t D σ H
section
variable {K : PySem.W.Frag} {F F' F1 H H' H1 : Hp} {ps ps' ps1 : List Addr} {ω ω' : Om} {σ : L2.St} {W : WX} {D D' : Ends} {ρ : Ro}
theorem OutS.step (s : Stp F H ps F' H' ps') : ∀ {r : RS}, OutS K F H ps W D r → OutS K F' H' ps' W D r
  | .no, h => h
  | .nx _ _, h => fun v F2 H2 p2 s2 => h v F2 H2 p2 (s.trans s2)
  | .rt _ _, h => fun v F2 H2 p2 s2 => h v F2 H2 p2 (s.trans s2)
  | .bk _ _, h => fun v F2 H2 p2 s2 => h v F2 H2 p2 (s.trans s2)
  | .ct _ _, h => fun v F2 H2 p2 s2 => h v F2 H2 p2 (s.trans s2)
  | .ex _ _ _ _, h => fun c d v F2 H2 p2 s2 => h c d v F2 H2 p2 (s.trans s2)
theorem OutS.bind {α β : Type} {At : Hp → List Addr → β → α → Prop} {r : R α} {k : α → Om → RS} {Q : β → Hp → Prop} (h : OutS K F H ps W D (r.toS ρ k)) (sl : Slots K F ps σ ρ)
    (hk : ∀ a ω1 v1 F1 H1 ps1, Stp F H ps F1 H1 ps1 → Rel K F1 H1 ps1 ω1 → At F1 ps1 v1 a → OutS K F1 H1 ps1 W D (k a ω1) → Q v1 H1) : Out K At F H ps σ W Q r := by
  cases r with
  | no => exact h
  | ok a ω1 => exact fun v F1 H1 p1 s r1 q => hk a ω1 v F1 H1 p1 s r1 q (OutS.step s h)
  | ex c fd ω1 => exact fun cls dx F1 H1 p1 s r1 q => h cls dx σ F1 H1 p1 s r1 (sl.step s) q
theorem OutS.here_nx {r : Rel K F H ps ω} (h : OutS K F H ps W D (.nx ρ ω)) (s : Slots K F ps σ ρ) : D.nx σ H := h σ F H ps Stp.refl r s
/-- statements in a row -/
theorem OutS.then {r : RS} {k : Ro → Om → RS} (h : OutS K F H ps W D (r.then k)) (hD : D'.rt = D.rt) (hb : D'.bk = D.bk) (hc : D'.ct = D.ct)
    (hk : ∀ ρ ω1 σ F1 H1 ps1, Stp F H ps F1 H1 ps1 → Rel K F1 H1 ps1 ω1 → Slots K F1 ps1 σ ρ → OutS K F1 H1 ps1 W D (k ρ ω1) → D'.nx σ H1) : OutS K F H ps W D' r := by
  cases r with
  | no => exact h
  | nx ρ ω1 => exact fun σ F1 H1 p1 s r1 q => hk ρ ω1 σ F1 H1 p1 s r1 q (OutS.step s h)
  | rt a ω1 => intro v F1 H1 p1 s r1 q; rw [hD]; exact h v F1 H1 p1 s r1 q
  | bk a ω1 => intro v F1 H1 p1 s r1 q; rw [hb]; exact h v F1 H1 p1 s r1 q
  | ct a ω1 => intro v F1 H1 p1 s r1 q; rw [hc]; exact h v F1 H1 p1 s r1 q
  | ex c fd ρ ω1 => exact h
end

/-! ### statements -/
section
variable {K : PySem.W.Frag} {W : WX} {t u : TS} {f g : Ro → Om → RS} {te ti to : TE} {fe fi fo : Ro → Om → R Sv} {tc : TT} {fc : Ro → Om → R Bool}
def sNext : Ro → Om → RS := fun ρ ω => .nx ρ ω
theorem semS_next : SemS K W tNext sNext := fun ρ ω σ F H ps r s D h => h σ F H ps Stp.refl r s
def sBreak : Ro → Om → RS := fun ρ ω => .bk ρ ω
theorem semS_break : SemS K W tBreak sBreak := fun ρ ω σ F H ps r s D h => h σ F H ps Stp.refl r s
def sCont : Ro → Om → RS := fun ρ ω => .ct ρ ω
theorem semS_cont : SemS K W tCont sCont := fun ρ ω σ F H ps r s D h => h σ F H ps Stp.refl r s
def sSeq (f g : Ro → Om → RS) : Ro → Om → RS := fun ρ ω => (f ρ ω).then g
theorem semS_seq (h1 : SemS K W t f) (h2 : SemS K W u g) : SemS K W (tSeq t u) (sSeq f g) := fun ρ ω σ F H ps r s D h =>
  h1 ρ ω σ F H ps r s { D with nx := u D } (OutS.then h rfl rfl rfl fun ρ1 ω1 σ1 F1 H1 p1 s1 r1 q1 h1 => h2 ρ1 ω1 σ1 F1 H1 p1 r1 q1 D h1)
def sDrop (fe : Ro → Om → R Sv) : Ro → Om → RS := fun ρ ω => (fe ρ ω).toS ρ fun _ ω1 => .nx ρ ω1
theorem semS_drop (h : SemE K W te fe) : SemS K W (tDrop te) (sDrop fe) := fun ρ ω σ F H ps r s D q =>
  h ρ ω σ F H ps r s _ (OutS.bind q s fun a ω1 v1 F1 H1 p1 s1 r1 q1 h1 => h1 σ F1 H1 p1 Stp.refl r1 (s.step s1))
def sRet (fe : Ro → Om → R Sv) : Ro → Om → RS := fun ρ ω => (fe ρ ω).toS ρ fun a ω1 => .rt a ω1
theorem semS_ret (h : SemE K W te fe) : SemS K W (tRet te) (sRet fe) := fun ρ ω σ F H ps r s D q =>
  h ρ ω σ F H ps r s _ (OutS.bind q s fun a ω1 v1 F1 H1 p1 s1 r1 q1 h1 => h1 v1 F1 H1 p1 Stp.refl r1 q1)
def sRetN : Ro → Om → RS := fun _ ω => .rt (.dat .non) ω
theorem semS_retN : SemS K W tRetN sRetN := fun ρ ω σ F H ps r s D q => q .non F H ps Stp.refl r Dat.non
def sIf (fc : Ro → Om → R Bool) (f g : Ro → Om → RS) : Ro → Om → RS := fun ρ ω => (fc ρ ω).toS ρ fun b ω1 => if b = true then f ρ ω1 else g ρ ω1
theorem semS_if (hc : SemT K W tc fc) (h1 : SemS K W t f) (h2 : SemS K W u g) : SemS K W (tIfS tc t u) (sIf fc f g) := fun ρ ω σ F H ps r s D q =>
  hc ρ ω σ F H ps r s _ (OutS.bind q s fun a ω1 v1 F1 H1 p1 s1 r1 q1 h => by
    cases q1
    cases a with
    | true => rw [if_pos rfl] at h ⊢; exact h1 ρ ω1 σ F1 H1 p1 r1 (s.step s1) D h
    | false => rw [if_neg (by decide)] at h ⊢; exact h2 ρ ω1 σ F1 H1 p1 r1 (s.step s1) D h)
/-- a value stored: a name keeps it as it is; else it is data -/
def sSet (i : Nat) (fe : Ro → Om → R Sv) : Ro → Om → RS := fun ρ ω => (fe ρ ω).toS ρ fun a ω1 => .nx (ρ.set i (some a)) ω1
theorem semS_set (i : Nat) (h : SemE K W te fe) : SemS K W (tAsg te (gName i)) (sSet i fe) := fun ρ ω σ F H ps r s D q =>
  h ρ ω σ F H ps r s _ (OutS.bind q s fun a ω1 v1 F1 H1 p1 s1 r1 q1 h1 => h1 _ F1 H1 p1 Stp.refl r1 ((s.step s1).set q1))
def sAsg (b : Dt → Ro → Option Ro) (fe : Ro → Om → R Sv) : Ro → Om → RS := fun ρ ω => (fe ρ ω).toS ρ fun a ω1 => match ω1.fz a with
  | some (d, ω2) => match b d ρ with
    | some ρ' => .nx ρ' ω2
    | none => .no
  | none => .no
theorem semS_asg {ix : List Nat} {g : TG} {b : Dt → Ro → Option Ro} (h : SemE K W te fe) (hg : SemG K ix g b) : SemS K W (tAsg te g) (sAsg b fe) := fun ρ ω σ F H ps r s D q =>
  h ρ ω σ F H ps r s _ (OutS.bind q s fun a ω1 v1 F1 H1 p1 s1 r1 q1 h1 => by
    split at h1
    · rename_i d ω2 e
      obtain ⟨F2, r2, s2, d2⟩ := Om.fz_ok e r1 q1
      split at h1
      · rename_i ρ' eb
        exact hg F2 H1 p1 σ v1 d ρ ρ' r2.ex d2 (s.step (s1.trans s2)) eb _ fun σ' s' _ => h1 σ' F2 H1 p1 s2 r2 s'
      · exact h1.elim
    · exact h1.elim)
/-- a, b = x, y -/
def sPar (i j : Nat) (fs : Ro → Om → R (List Sv)) : Ro → Om → RS := fun ρ ω => (fs ρ ω).toS ρ fun as ω1 => match as with
  | [a, b] => .nx ((ρ.set i (some a)).set j (some b)) ω1
  | _ => .no
theorem semS_par {ta : TA} {fs : Ro → Om → R (List Sv)} (i j : Nat) (h : SemA K W ta fs) : SemS K W (tPar i j ta) (sPar i j fs) := fun ρ ω σ F H ps r s D q =>
  h ρ ω σ F H ps r s _ (OutS.bind q s fun as ω1 xs F1 H1 p1 s1 r1 q1 h1 => by
    split at h1
    · cases q1 with
      | cons a1 q2 =>
      cases q2 with
      | cons a2 q3 =>
      cases q3
      exact ⟨_, _, rfl, h1 _ F1 H1 p1 Stp.refl r1 (((s.step s1).set a1).set a2)⟩
    · exact h1.elim)
/-- xs[i] = v -/
def sSetL (fe fo fi : Ro → Om → R Sv) : Ro → Om → RS := fun ρ ω => (fe ρ ω).toS ρ fun a ω1 => (fo ρ ω1).toS ρ fun o ω2 => (fi ρ ω2).toS ρ fun i ω3 => match ω3.fz a with
  | some (d, ω4) => match o, ω4.toD i with
    | .own j, some (.int k) => match ω4[j]? with
      | some (.lst ds) => match ixN ds.length k with
        | some n => .nx ρ (ω4.set j (.lst (ds.set n d)))
        | none => .no
      | _ => .no
    | _, _ => .no
  | none => .no
theorem semS_setL (he : SemE K W te fe) (ho : SemE K W to fo) (hi : SemE K W ti fi) : SemS K W (tAsg te (gSub to ti rSetL)) (sSetL fe fo fi) := fun ρ ω σ F H ps r s D q =>
  he ρ ω σ F H ps r s _ (OutS.bind q s fun a ω1 v1 F1 H1 p1 s1 r1 q1 h1 =>
    ho ρ ω1 σ F1 H1 p1 r1 (s.step s1) _ (OutS.bind h1 (s.step s1) fun o ω2 v2 F2 H2 p2 s2 r2 q2 h2 =>
      hi ρ ω2 σ F2 H2 p2 r2 ((s.step s1).step s2) _ (OutS.bind h2 ((s.step s1).step s2) fun i ω3 v3 F3 H3 p3 s3 r3 q3 h3 => by
        split at h3
        · rename_i d ω4 e
          obtain ⟨F4, r4, s4, d4⟩ := Om.fz_ok e r3 ((q1.step s2).step s3)
          split at h3
          · rename_i j k ei
            split at h3
            · rename_i ds ej
              split at h3
              · rename_i n en
                obtain ⟨p, hp, rfl⟩ := (q2.step s3).step s4
                obtain ⟨hf, vs, hv, hd⟩ := r4.ob j p _ hp ej
                obtain ⟨r5, s5⟩ := r4.put hp ej (hd.set d4 n)
                refine ⟨p, vs, k, n, rfl, (Om.toD_ok ei r4 (q3.step s4)).int_inv, hv, by rw [hd.length]; exact en, ?_⟩
                exact h3 σ _ _ _ (s4.trans s5) r5 (((((s.step s1).step s2).step s3).step s4).step s5)
              · exact h3.elim
            · exact h3.elim
          · exact h3.elim
        · exact h3.elim)))
/-- the turns of a for -/
def forGo (b : Dt → Ro → Option Ro) (body : Ro → Om → RS) : List Dt → Ro → Om → RS
  | [], ρ, ω => .nx ρ ω
  | d :: ds, ρ, ω => match b d ρ with
    | none => .no
    | some ρ2 => match body ρ2 ω with
      | .nx ρ3 ω3 => forGo b body ds ρ3 ω3
      | .ct ρ3 ω3 => forGo b body ds ρ3 ω3
      | .bk ρ3 ω3 => .nx ρ3 ω3
      | r => r
def sFor (fi : Ro → Om → R (List Dt)) (b : Dt → Ro → Option Ro) (body : Ro → Om → RS) : Ro → Om → RS := fun ρ ω => (fi ρ ω).toS ρ fun ds ω1 => forGo b body ds ρ ω1
theorem semS_for {wi : TI} {ix : List Nat} {g : TG} {b : Dt → Ro → Option Ro} {fi : Ro → Om → R (List Dt)} (hi : SemI K W wi fi) (hg : SemG K ix g b) (h1 : SemS K W t f) : SemS K W (tFor wi g t) (sFor fi b f) := fun ρ ω σ F H ps r s D q =>
  hi ρ ω σ F H ps r s _ (OutS.bind q s fun ds ω1 J F1 H1 p1 s1 r1 q1 h2 => by
    refine ⟨fun i m σ' Hi => m = ds.length - i ∧ i ≤ ds.length ∧ ∃ F2 ps2 ρ2 ω2, Ex F1 F2 ∧ Rel K F2 Hi ps2 ω2 ∧ Slots K F2 ps2 σ' ρ2 ∧ OutS K F2 Hi ps2 W D (forGo b f (ds.drop i) ρ2 ω2), ⟨_, rfl, Nat.zero_le _, F1, p1, ρ, ω1, Ex.refl F1, r1, s.step s1, h2⟩, ?_⟩
    rintro i m σ2 Hi ⟨rfl, hi, F2, ps2, ρ2, ω2, x2, r2, sl2, ho⟩
    have wk := q1 i F2 Hi ps2 ω2 x2 r2
    by_cases hlt : i < ds.length
    · have e : ds[i]? = some ds[i] := List.getElem?_eq_getElem hlt
      rw [List.drop_eq_getElem_cons hlt] at ho
      obtain ⟨g1, g2⟩ := wk.1 _ e
      refine .inr ⟨g1, fun σ' H' => i + 1 ≤ ds.length ∧ ∃ F2 ps2 ρ2 ω2, Ex F1 F2 ∧ Rel K F2 H' ps2 ω2 ∧ Slots K F2 ps2 σ' ρ2 ∧ OutS K F2 H' ps2 W D (forGo b f (ds.drop (i + 1)) ρ2 ω2), fun σ' H' hn => ⟨ds.length - (i + 1), by omega, rfl, hn⟩, fun x H3 hy => ?_⟩
      obtain ⟨F3, r3, s3, d3⟩ := g2 x H3 hy
      have ho3 := OutS.step s3 ho
      unfold forGo at ho3
      split at ho3
      · exact ho3.elim
      · rename_i ρ3 hb
        refine hg F3 H3 ps2 σ2 x _ ρ2 ρ3 r3.ex d3 (sl2.step s3) hb _ fun σ4 s4 _ => ?_
        refine h1 ρ3 ω2 σ4 F3 H3 ps2 r3 s4 _ ?_
        split at ho3
        · rename_i ρ4 ω4 eb
          rw [eb]
          exact fun σ5 F5 H5 p5 s5 r5 sl5 => ⟨hlt, F5, p5, ρ4, ω4, x2.trans (s3.ex.trans s5.ex), r5, sl5, OutS.step s5 ho3⟩
        · rename_i ρ4 ω4 eb
          rw [eb]
          exact fun σ5 F5 H5 p5 s5 r5 sl5 => ⟨hlt, F5, p5, ρ4, ω4, x2.trans (s3.ex.trans s5.ex), r5, sl5, OutS.step s5 ho3⟩
        · rename_i ρ4 ω4 eb
          rw [eb]
          exact fun σ5 F5 H5 p5 s5 r5 sl5 => ho3 σ5 F5 H5 p5 s5 r5 sl5
        · rename_i n1 n2 n3
          cases eb : f ρ3 ω2 with
          | nx a b => exact absurd eb (n1 a b)
          | ct a b => exact absurd eb (n2 a b)
          | bk a b => exact absurd eb (n3 a b)
          | no => rw [eb] at ho3; exact ho3
          | rt a b => rw [eb] at ho3; exact ho3
          | ex a b c d => rw [eb] at ho3; exact ho3
    · have hi2 : i = ds.length := by omega
      subst hi2
      rw [List.drop_length] at ho
      exact .inl ⟨wk.2 (Nat.le_refl _), ho σ2 F2 Hi ps2 Stp.refl r2 sl2⟩)
/-- while, at most n turns -/
def whGo (fc : Ro → Om → R Bool) (body : Ro → Om → RS) : Nat → Ro → Om → RS
  | 0, _, _ => .no
  | n + 1, ρ, ω => (fc ρ ω).toS ρ fun c ω1 => if c = true then (match body ρ ω1 with
      | .nx ρ3 ω3 => whGo fc body n ρ3 ω3
      | .ct ρ3 ω3 => whGo fc body n ρ3 ω3
      | .bk ρ3 ω3 => .nx ρ3 ω3
      | r => r) else .nx ρ ω1
def sWhile (n : Nat) (fc : Ro → Om → R Bool) (body : Ro → Om → RS) : Ro → Om → RS := whGo fc body n
theorem semS_while (n : Nat) (hc : SemT K W tc fc) (h1 : SemS K W t f) : SemS K W (tWhile tc t) (sWhile n fc f) := fun ρ ω σ F H ps r s D q => by
  refine ⟨fun m σ' H' => ∃ F2 ps2 ρ2 ω2, Rel K F2 H' ps2 ω2 ∧ Slots K F2 ps2 σ' ρ2 ∧ OutS K F2 H' ps2 W D (whGo fc f m ρ2 ω2), ⟨n, F, ps, ρ, ω, r, s, q⟩, ?_⟩
  rintro m σ2 H2 ⟨F2, ps2, ρ2, ω2, r2, sl2, ho⟩
  cases m with
  | zero => exact ho.elim
  | succ m =>
    unfold whGo at ho
    refine hc ρ2 ω2 σ2 F2 H2 ps2 r2 sl2 _ (OutS.bind ho sl2 fun a ω3 v3 F3 H3 p3 s3 r3 q3 h3 => ?_)
    cases q3
    cases a with
    | false => rw [if_neg (by decide)] at h3 ⊢; exact h3 σ2 F3 H3 p3 Stp.refl r3 (sl2.step s3)
    | true =>
      rw [if_pos rfl] at h3 ⊢
      refine ⟨fun σ' H' => ∃ F2 ps2 ρ2 ω2, Rel K F2 H' ps2 ω2 ∧ Slots K F2 ps2 σ' ρ2 ∧ OutS K F2 H' ps2 W D (whGo fc f m ρ2 ω2), fun σ' H' hn => ⟨m, Nat.lt_succ_self m, hn⟩, ?_⟩
      refine h1 ρ2 ω3 σ2 F3 H3 p3 r3 (sl2.step s3) _ ?_
      split at h3
      · rename_i ρ4 ω4 eb
        rw [eb]
        exact fun σ5 F5 H5 p5 s5 r5 sl5 => ⟨F5, p5, ρ4, ω4, r5, sl5, OutS.step s5 h3⟩
      · rename_i ρ4 ω4 eb
        rw [eb]
        exact fun σ5 F5 H5 p5 s5 r5 sl5 => ⟨F5, p5, ρ4, ω4, r5, sl5, OutS.step s5 h3⟩
      · rename_i ρ4 ω4 eb
        rw [eb]
        exact fun σ5 F5 H5 p5 s5 r5 sl5 => h3 σ5 F5 H5 p5 s5 r5 sl5
      · rename_i n1 n2 n3
        cases eb : f ρ2 ω3 with
        | nx a b => exact absurd eb (n1 a b)
        | ct a b => exact absurd eb (n2 a b)
        | bk a b => exact absurd eb (n3 a b)
        | no => rw [eb] at h3; exact h3
        | rt a b => rw [eb] at h3; exact h3
        | ex a b c d => rw [eb] at h3; exact h3
end
end Vm
end
section
set_option Elab.async false
set_option linter.all false
set_option maxRecDepth 100000
set_option maxHeartbeats 4000000
/-! methods of built-in values; calls of the program's own defs; a def by what its body comes to -/
namespace Vm
open PySem PySem.Spec PyProof.Rows L2

/-! ### methods -/
def SemM (K : PySem.W.Frag) (T : String) (r : V → List V → Hp → VK → Prop) (ty : Sv → Om → Bool) (g : Sv → List Sv → Om → R Sv) : Prop :=
  (∀ ω F H ps x a, Rel K F H ps ω → SvAt K F ps x a → ty a ω = true → tyV K T x H) ∧
  ∀ ω F H ps x a xs as, Rel K F H ps ω → SvAt K F ps x a → SvAll K F ps xs as → ∀ σ W (Q : VK), Out K (SvAt K) F H ps σ W Q (g a as ω) → r x xs H Q
def fM (ty : Sv → Om → Bool) (g : Sv → List Sv → Om → R Sv) (fo : Ro → Om → R Sv) (fs : Ro → Om → R (List Sv)) : Ro → Om → R Sv := fun ρ ω =>
  (fo ρ ω).bind fun a ω1 => if ty a ω1 = true then (fs ρ ω1).bind fun as ω2 => g a as ω2 else .no
section
variable {K : PySem.W.Frag} {W : WX} {to : TE} {fo : Ro → Om → R Sv} {ts : TA} {fs : Ro → Om → R (List Sv)} {T : String} {r : V → List V → Hp → VK → Prop} {ty : Sv → Om → Bool} {g : Sv → List Sv → Om → R Sv}
theorem sem_m (ho : SemE K W to fo) (hs : SemA K W ts fs) (hr : SemM K T r ty g) : SemE K W (tBM K T r to ts) (fM ty g fo fs) := fun ρ ω σ F H ps rl s Q h =>
  ho ρ ω σ F H ps rl s _ (Out.bind h fun a ω1 v1 F1 H1 p1 s1 r1 q1 h1 => by
    split at h1
    · rename_i e
      exact ⟨hr.1 ω1 F1 H1 p1 v1 a r1 q1 e, hs ρ ω1 σ F1 H1 p1 r1 (s.step s1) _ (Out.bind h1 fun as ω2 v2 F2 H2 p2 s2 r2 q2 h2 => hr.2 ω2 F2 H2 p2 v1 a v2 as r2 (q1.step s2) q2 σ W Q h2)⟩
    · exact h1.elim)
def fM0 (ty : Sv → Om → Bool) (g : Sv → List Sv → Om → R Sv) (fo : Ro → Om → R Sv) : Ro → Om → R Sv := fun ρ ω =>
  (fo ρ ω).bind fun a ω1 => if ty a ω1 = true then g a [] ω1 else .no
theorem sem_m0 (ho : SemE K W to fo) (hr : SemM K T r ty g) : SemE K W (tBM0 K T r to) (fM0 ty g fo) := fun ρ ω σ F H ps rl s Q h =>
  ho ρ ω σ F H ps rl s _ (Out.bind h fun a ω1 v1 F1 H1 p1 s1 r1 q1 h1 => by
    split at h1
    · rename_i e
      exact ⟨hr.1 ω1 F1 H1 p1 v1 a r1 q1 e, hr.2 ω1 F1 H1 p1 v1 a [] [] r1 q1 .nil σ W Q h1⟩
    · exact h1.elim)
def isStrT (a : Sv) (ω : Om) : Bool := match ω.toD a with
  | some (.str _) => true
  | _ => false
def isLstT (a : Sv) (ω : Om) : Bool := match ω.seq a with
  | some (.l _) => true
  | _ => false
theorem isStrT_ok {F H : Hp} {ps : List Addr} {ω : Om} {a : Sv} {x : V} (r : Rel K F H ps ω) (q : SvAt K F ps x a) (h : isStrT a ω = true) : tyV K "str" x H := by
  unfold isStrT at h
  split at h
  · rename_i z e
    rw [(Om.toD_ok e r q).str_inv]
    exact rfl
  · cases h
theorem isLstT_ok {F H : Hp} {ps : List Addr} {ω : Om} {a : Sv} {x : V} (r : Rel K F H ps ω) (q : SvAt K F ps x a) (h : isLstT a ω = true) : tyV K "list" x H := by
  unfold isLstT at h
  split at h
  · rename_i z e
    obtain ⟨p, vs, rfl, l, d⟩ := Om.seq_l e r q
    exact .inl ⟨rfl, vs, l⟩
  · cases h
/-- xs.append(y) -/
def appendM (a : Sv) (as : List Sv) (ω : Om) : R Sv := match a, as with
  | .own j, [b] => match ω.fz b with
    | some (d, ω1) => match ω1[j]? with
      | some (.lst ds) => if ds.length < sizeLine then .ok (.dat .non) (ω1.set j (.lst (ds ++ [d]))) else .no
      | _ => .no
    | none => .no
  | _, _ => .no
theorem sem_append : SemM K "list" rAppend isLstT appendM := by
  refine ⟨fun ω F H ps x a r q h => isLstT_ok r q h, ?_⟩
  intro ω F H ps x a xs as r q qs σ W Q h
  unfold appendM at h
  split at h
  · rename_i j b
    obtain ⟨y, rfl, qy⟩ := qs.one
    split at h
    · rename_i d ω1 e
      obtain ⟨F1, r1, s1, d1⟩ := Om.fz_ok e r qy
      split at h
      · rename_i ds ej
        split at h
        · rename_i hl
          obtain ⟨p, hp, rfl⟩ := q.step s1
          obtain ⟨hf, vs, hv, hd⟩ := r1.ob j p _ hp ej
          obtain ⟨r2, s2⟩ := r1.put hp ej (hd.append (.cons d1 .nil))
          exact ⟨p, vs, y, rfl, rfl, hv, by rw [hd.length]; exact hl, h .non F1 _ ps (s1.trans s2) r2 Dat.non⟩
        · exact h.elim
      · exact h.elim
    · exact h.elim
  · exact h.elim
/-- x.strip(y) -/
def stripM (a : Sv) (as : List Sv) (ω : Om) : R Sv := match ω.toD a, as with
  | some (.str x), [b] => match ω.toD b with
    | some (.str y) => if x.length ≤ sizeLine then .ok (.dat (.str (Txt.stripChars x y))) ω else .no
    | _ => .no
  | _, _ => .no
def rStripC : V → List V → Hp → VK → Prop := fun x xs H Q => ∃ a b, x = .str a ∧ xs = [.str b] ∧ a.length ≤ sizeLine ∧ Q (.str (Txt.stripChars a b)) H
theorem sem_strip : SemM K "str" rStripC isStrT stripM := by
  refine ⟨fun ω F H ps x a r q h => isStrT_ok r q h, ?_⟩
  intro ω F H ps x a xs as r q qs σ W Q h
  unfold stripM at h
  split at h
  · rename_i z b e
    obtain ⟨y, rfl, qy⟩ := qs.one
    split at h
    · rename_i w e2
      split at h
      · rename_i hl
        exact ⟨z, w, (Om.toD_ok e r q).str_inv, by rw [(Om.toD_ok e2 r qy).str_inv], hl, h.here r (Dat.str _)⟩
      · exact h.elim
    · exact h.elim
  · exact h.elim
/-- x.split(y) -/
def splitM (a : Sv) (as : List Sv) (ω : Om) : R Sv := match ω.toD a, as with
  | some (.str x), [b] => match ω.toD b with
    | some (.str y) => if (y.length == 0) = false ∧ x.length + 2 ≤ sizeLine then .ok (.dat (.lst ((Txt.split x y).map .str))) ω else .no
    | _ => .no
  | _, _ => .no
def rSplitC : V → List V → Hp → VK → Prop := fun x xs H Q => ∃ a b, x = .str a ∧ xs = [.str b] ∧ (b.length == 0) = false ∧ a.length + 2 ≤ sizeLine ∧ rNewStrs (Txt.split a b) H Q
theorem DatAll.strs {F : Hp} : ∀ ys : List Str, DatAll K F (ys.map V.str) (ys.map Dt.str)
  | [] => .nil
  | y :: ys => .cons (.str y) (DatAll.strs ys)
theorem sem_split : SemM K "str" rSplitC isStrT splitM := by
  refine ⟨fun ω F H ps x a r q h => isStrT_ok r q h, ?_⟩
  intro ω F H ps x a xs as r q qs σ W Q h
  unfold splitM at h
  split at h
  · rename_i z b e
    obtain ⟨y, rfl, qy⟩ := qs.one
    split at h
    · rename_i w e2
      split at h
      · rename_i hl
        exact ⟨z, w, (Om.toD_ok e r q).str_inv, by rw [(Om.toD_ok e2 r qy).str_inv], hl.1, hl.2, fun p hp => h.newL r hp (DatAll.strs _)⟩
      · exact h.elim
    · exact h.elim
  · exact h.elim
end

/-! ### the program's own defs -/
/-- what a def that comes to g promises -/
def spOf (K : PySem.W.Frag) (g : List Sv → Om → R Sv) : Sp := fun vs H Q E => ∃ F ps ω as, Rel K F H ps ω ∧ SvAll K F ps vs as ∧ Out K (SvAt K) F H ps [] (fun cls dx _ H' => E cls dx H') Q (g as ω)
section
variable {K : PySem.W.Frag} {W : WX} {ts : TA} {fs : Ro → Om → R (List Sv)}
theorem Out.wish {α β : Type} {At : Hp → List Addr → β → α → Prop} {F H : Hp} {ps : List Addr} {σ σ' : L2.St} {W W' : WX} {Q : β → Hp → Prop} {r : R α} (h : Out K At F H ps σ W Q r) (hw : ∀ cls dx H', W cls dx σ H' → W' cls dx σ' H') : Out K At F H ps σ' W' Q r := by
  cases r with
  | no => exact h
  | ok a ω => exact h
  | ex c fd ω => exact fun cls dx F' H' ps' s r x => hw _ _ _ (h cls dx F' H' ps' s r x)
def fCall (g : List Sv → Om → R Sv) (fs : Ro → Om → R (List Sv)) : Ro → Om → R Sv := fun ρ ω => (fs ρ ω).bind g
theorem sem_call (g : List Sv → Om → R Sv) (hs : SemA K W ts fs) : SemE K W (tCallS (spOf K g) (WE W) ts) (fCall g fs) := fun ρ ω σ F H ps rl s Q h =>
  hs ρ ω σ F H ps rl s _ (Out.bind h fun as ω1 xs F1 H1 p1 s1 r1 q1 h1 => ⟨F1, p1, ω1, as, r1, q1, h1.wish fun _ _ _ z => z⟩)
end
section
variable {X : Cx} {k : Nat} {f : Addr} {sp : Sp} {E : L2.St → XK} {x : Str} {p pos : Pos}
theorem pe_callG0 (F : FnG X.prog X.w X.K X.mg X.base k f sp) (hr : Room k X.A) (hg : X.A.guards = some []) (hgl : Gl X x) (hm : X.mg x = some (.ref f))
    (hk : PySem.W.keepIn X.K (.ref f) = true) (hx : ∀ σ, PassesAt (L2.CX X.prog X.w) X σ (E σ)) (hdb : (x == ("__debug__" : Str)) = false) : PE X (.Call (.Name x p) [] [] pos) (tCallS sp E tNil) := by
  constructor
  intro pins s σ H Q I h
  exact wpAny_Call_Name_kw (ld_glob I hgl hm (PySem.W.callWith_K0 I.kIn hk (run_fnG (us := []) F hr hg (hx σ) I .nil h)) hdb)
end

/-- the slots at a def's start -/
def startR (N : List Str) (as : List Sv) : Ro := as.map some ++ List.replicate (N.length - as.length) none
/-- what a def with this body comes to -/
def RS.val : RS → R Sv
  | .no => .no
  | .nx _ ω => .ok (.dat .non) ω
  | .rt a ω => .ok a ω
  | .bk _ _ => .no
  | .ct _ _ => .no
  | .ex c fd _ ω => .ex c fd ω
def fnR (N : List Str) (n : Nat) (body : Ro → Om → RS) (as : List Sv) (ω : Om) : R Sv := if as.length = n then (body (startR N as) ω).val else .no
theorem start_slots {K : PySem.W.Frag} {F : Hp} {ps : List Addr} (N : List Str) {vs : List V} {as : List Sv} (h : SvAll K F ps vs as) : Slots K F ps (L2.start N vs) (startR N as) := by
  have hl := h.length
  refine ⟨by simp [L2.start, startR, hl], fun i sv e => ?_⟩
  unfold startR at e
  by_cases hi : i < as.length
  · rw [List.getElem?_append_left (by simpa using hi)] at e
    have get : ∀ {vs : List V} {as : List Sv}, SvAll K F ps vs as → ∀ (i : Nat) (a : Sv), as[i]? = some a → ∃ v, vs[i]? = some v ∧ SvAt K F ps v a := by
      intro vs as h
      induction h with
      | nil => intro i a e; simp at e
      | cons q _ ih =>
        intro i a e
        cases i with
        | zero => simp at e; subst e; exact ⟨_, rfl, q⟩
        | succ i => simpa using ih i a (by simpa using e)
    rw [List.getElem?_map] at e
    cases ha : as[i]? with
    | none => rw [ha] at e; cases e
    | some a =>
      rw [ha] at e
      have e' : a = sv := Option.some.inj (Option.some.inj e)
      subst e'
      obtain ⟨v, h1, h2⟩ := get h i a ha
      refine ⟨v, ?_, h2⟩
      unfold L2.start
      rw [List.getElem?_append_left (by rw [List.length_map, hl]; exact hi), List.getElem?_map, h1]
      rfl
  · rw [List.getElem?_append_right (by simpa using hi)] at e
    rw [List.getElem?_replicate] at e
    split at e <;> cases e
end Vm
end
section
set_option Elab.async false
set_option linter.all false
set_option maxRecDepth 100000
set_option maxHeartbeats 4000000
/-! sets of ints and texts, of which only the size is asked: set(a list), {.. for ..} -/
namespace Vm
open PySem PySem.Spec PyProof.Rows L2

/-- each once -/
def memK (k : Key) (S : List Key) : Bool := S.any fun j => decide (j = k)
def once (S : List Key) (k : Key) : List Key := if memK k S = true then S else S ++ [k]
def kset (ks : List Key) : List Key := ks.foldl once []
theorem once_len (S : List Key) (k : Key) : (once S k).length ≤ S.length + 1 := by
  unfold once; split <;> simp
theorem kset_snoc (ks : List Key) (k : Key) : kset (ks ++ [k]) = once (kset ks) k := by simp [kset, List.foldl_append]
theorem kset_len : ∀ ks : List Key, (kset ks).length ≤ ks.length := by
  have gen : ∀ (ks S : List Key), (ks.foldl once S).length ≤ S.length + ks.length := by
    intro ks
    induction ks with
    | nil => intro S; simp
    | cons k ks ih =>
      intro S
      have h1 := ih (once S k)
      have h2 := once_len S k
      simp only [List.foldl_cons, List.length_cons]
      omega
  intro ks
  have := gen ks []
  simpa [kset] using this
theorem memK_snoc {S : List Key} {k j : Key} : memK j (S ++ [k]) = (memK j S || decide (j = k)) := by
  unfold memK
  rw [List.any_append]
  simp [eq_comm]
theorem once_in {S : List Key} {k j : Key} : memK j (once S k) = (memK j S || decide (j = k)) := by
  unfold once
  by_cases h : memK k S = true
  · rw [if_pos h]
    by_cases e : j = k
    · subst e; simp [h]
    · simp [e]
  · rw [if_neg h, memK_snoc]
section
variable {P : Program} {w : World}
abbrev MemOf (P : Program) (w : World) (h : Heap) (a : Addr) (ks : List Key) : Prop := h.SetOf (mixKind P w) a (fun k => memK k ks) ks.length
theorem MemOf.once {h : Heap} {a : Addr} {ks : List Key} {k : Key} (m : h.SetOf (mixKind P w) a (fun j => memK j ks || decide (j = k)) (if memK k ks = true then ks.length else ks.length + 1)) : MemOf P w h a (Vm.once ks k) := by
  have e1 : (fun j => memK j ks || decide (j = k)) = fun j => memK j (Vm.once ks k) := funext fun j => once_in.symm
  have e2 : (if memK k ks = true then ks.length else ks.length + 1) = (Vm.once ks k).length := by
    unfold Vm.once
    by_cases h : memK k ks = true <;> simp [h]
  rw [e1, e2] at m
  exact m
variable {A : Around} {R : Result → Shared → Prop} {I : Addr} {fp wr : List Addr} {G : Array GenState → Array GenState → Prop} {n : Nat} {Pv : Nat → Value → Prop} {St : Nat → Shared → Prop}
/-- the loop that fills a set -/
theorem fill_loop (W : WalksS P w A.in1 I fp wr G n Pv St) (D : Addr) (hD : D ∉ fp) (ks : List Key) (hks : ks.length = n) (hv : ∀ i v, Pv i v → ∃ k, ks[i]? = some k ∧ RelV (kV k) v) (room : n + 1 < scanBound) :
    ∀ (m i : Nat) (s : Shared), n - i = m → i ≤ n → St i s → MemOf P w s.heap D (kset (ks.take i)) →
      (∀ s', Moved (D :: wr) G s s' → MemOf P w s'.heap D (kset ks) → R (.ok (.ret .none)) s') → codeAny (model P w) A (.builtin "set.update.loop" ⟨[.ref D, .ref I], []⟩) R s := by
  have nw : D ∉ wr := fun z => hD (W.sub _ z)
  have up : ∀ b ∈ wr, b ∈ D :: wr := fun b z => .tail _ z
  have stay : ∀ {s s' : Shared} {S : List Key}, Moved wr G s s' → MemOf P w s.heap D S → MemOf P w s'.heap D S := fun {s s' S} mv h => by
    obtain ⟨o, es, ep, t, ho, r⟩ := h
    exact ⟨o, es, ep, t, mv.heap D _ nw ho, r⟩
  intro m
  induction m with
  | zero =>
    intro i s hm hi st hS hR
    obtain rfl : i = n := by omega
    rw [← hks, List.take_length] at hS
    refine codeAny_builtin PyProof.Rows.F.entry_set_update_loop ?_
    rw [Around.under_plainId PyProof.Rows.F.plain_set_update_loop _]
    refine wpAny_bind (m := pyNext (.ref I)) (W.done s _ _ st fun s' mv => ?_)
    exact wpAny_pure (hR s' (mv.mono up) (stay mv hS))
  | succ m ih =>
    intro i s hm hi st hS hR
    have lt : i < n := by omega
    refine codeAny_builtin PyProof.Rows.F.entry_set_update_loop ?_
    rw [Around.under_plainId PyProof.Rows.F.plain_set_update_loop _]
    refine wpAny_bind (m := pyNext (.ref I)) (W.item i s _ _ lt st fun v s' pv st' mv => ?_)
    obtain ⟨k, hk, rk⟩ := hv i v pv
    have hS' := stay mv hS
    have nx : kset (ks.take (i + 1)) = Vm.once (kset (ks.take i)) k := by
      rw [List.take_add_one, hk, ← kset_snoc]; rfl
    have rm : (kset (ks.take i)).length + 1 < scanBound := by
      have := kset_len (ks.take i)
      rw [List.length_take] at this
      omega
    refine wpAny_bind (m := holding [v] (setAdd D v)) (wpAny_holding ?_)
    unfold setAdd
    refine wpAny_holding (wpAny_bind ((mixKind P w).pyHash (kV_is rk) ?_))
    refine wpAny_setAddHashed_of (s := { s' with toks := s'.toks + 1 }) (kV_is rk) (key_scan rk) hS' rm fun h' sb hS2 => ?_
    have hS3 : MemOf P w h' D (kset (ks.take (i + 1))) := by
      rw [nx]
      exact MemOf.once hS2
    refine wpAny_pure ⟨plainId_quiet PyProof.Rows.F.plain_set_update_loop _, ih (i + 1) _ (by omega) lt (W.frame _ s' _ _ st' (Nat.le_succ _) fun b hb o e => ?_) hS3 fun s2 mv2 hS4 => ?_⟩
    · exact (sb.2 b fun z => hD (z ▸ hb)).trans e
    · refine hR s2 (Moved.trans W.gtrans ((mv.mono up).then_heap (Nat.le_succ _) fun b o hb e => ?_) mv2) hS4
      exact (sb.2 b fun z => hb (z ▸ List.mem_cons_self)).trans e
end

section
variable {P : Program} {w : World} {A : Around} {E : Value → Shared → Prop} {s : Shared}
abbrev newSetObj (led : Bool) : Obj := { cls := .type "set", dict := none, data := .set #[] 0 (.fresh 0 0 led) }
theorem memOf_new {h : Heap} {a : Addr} {led : Bool} (e : h.get? a = some (newSetObj led)) : MemOf P w h a [] :=
  ⟨_, #[], 0, _, e, ⟨rfl, rfl, rfl⟩, rfl, fun e he => by simp at he, fun k => by simp [memK], by decide, by rfl, rfl⟩
/-- the part behind the new set: it is filled from the list -/
theorem init_list {l D : Addr} {items : Array Value} {ks : List Key} {led : Bool} (hh : A.handled = none) (hD : s.heap.get? D = some (newSetObj led)) (hl : s.heap.IsList l items) (ne : l ≠ D) (r : Vals (ks.map kV) items.toList) (room : ks.length + 1 < scanBound)
    {Q : Value → Shared → Prop} (h : ∀ (h' : Heap) (tk : Nat), MemOf P w h' D (kset ks) → (∀ b o, b ≠ D → s.heap.get? b = some o → h'.get? b = some o) → Q .none { s with heap := h', toks := tk }) :
    wpAny (model P w) A (Builtin.«set.__init__» ⟨[.ref D, .ref l], []⟩) (fun fin s' => ∃ v, fin = .done (.ret v) ∧ Q v s') E s := by
  have ty : s.TypeIs (.ref D) "set" := ⟨_, hD, rfl⟩
  have n1 := F.sub_list_set
  have n2 := F.sub_list_frozenset
  have n3 : (Value.type "list" == Value.type "dict") = false := by decide
  obtain ⟨⟨oc, od, dt, sl⟩, hol, hcl, nl, hdl⟩ := id hl
  cases hcl
  cases hdl
  unfold Builtin.«set.__init__» noKeywords Builtin.Frozenset.updateFrom
  generalize hPI : pyIter = PI
  wp_walk
  subst hPI
  refine wpAny_pyIter_list hl ?_
  refine wpAny_bind (wpAny_runValue ?_)
  have lD : D < s.heap.objs.size := Heap.lt_size hD
  have ll : l < s.heap.objs.size := Heap.lt_size hol
  have sz : items.size = ks.length := by
    have := r.length
    simpa using this.symm
  have got : ∀ (i : Nat) (v : Value), items[i]? = some v → ∃ k, ks[i]? = some k ∧ RelV (kV k) v := fun i v hv => by
    have hi : i < ks.length := by rw [← sz]; exact (Array.getElem?_eq_some_iff.mp hv).1
    obtain ⟨u, h1, h2⟩ := r.get (i := i) (x := kV ks[i]) (by simp [hi])
    have h1 : items[i]? = some u := by simpa using h1
    rw [hv] at h1; cases h1
    exact ⟨_, List.getElem?_eq_getElem hi, h2⟩
  have dfp : D ∉ [s.heap.objs.size, l] := by
    simp only [List.mem_cons, List.not_mem_nil, or_false, not_or]
    exact ⟨Nat.ne_of_lt lD, fun z => ne z.symm⟩
  refine fill_loop ((Walks.list (by simp [hh]) s.heap.objs.size l (Nat.ne_of_lt ll) items).toS) D dfp ks sz.symm got (by rw [sz]; exact room) (items.size - 0) 0 _ (by omega) (Nat.zero_le _) ⟨⟨_, Heap.get?_push_size _ rfl, rfl, rfl⟩, hl.push _⟩ ?_ ?_
  · exact memOf_new (Heap.get?_push_of_some _ hD)
  · rintro ⟨h', g', d', tk', os'⟩ mv hS
    have eg : g' = s.gens := mv.gens
    have ed : d' = s.drawn := mv.drawn
    have eo : os' = s.os := mv.os
    subst eg ed eo
    refine wpAny_pure (wpAny_pure ⟨_, rfl, h h' tk' hS fun b o hb e => ?_⟩)
    refine mv.heap b o ?_ (Heap.get?_push_of_some _ e)
    simp only [List.mem_cons, List.not_mem_nil, or_false, not_or]
    exact ⟨hb, Nat.ne_of_lt (Heap.lt_size e)⟩
/-- set(a list) -/
theorem call_set_keys {l : Addr} {items : Array Value} {ks : List Key} (hh : A.handled = none) (hl : s.heap.IsList l items) (r : Vals (ks.map kV) items.toList) (room : ks.length + 1 < scanBound) {Q : Value → Shared → Prop}
    (h : ∀ (h' : Heap) (tk : Nat) (D : Addr), MemOf P w h' D (kset ks) → (∀ b o, s.heap.get? b = some o → h'.get? b = some o) → Q (.ref D) { s with heap := h', toks := tk }) : wpAny (model P w) A (call (.type "set") [.ref l]) Q E s := by
  obtain ⟨c, tl, hmro⟩ := F.called_set.mro
  have f1 := F.called_set.made; have f2 := F.called_set.sub; have f3 := F.called_set.notType; have f4 := F.called_set.canCreate; have f5 := F.typeCall_set_1 (.ref l)
  refine wpAny_call (codeAny_of_tree ?_)
  show wpAny _ _ (callAny (.type "set") ⟨[.ref l], []⟩) _ _ s
  refine wpAny_pure ⟨Code.quiet_builtin _ (by decide +kernel), codeAny_builtin F.entry_type_call (by
    rw [Around.under_plain (weight_type_call_type "set" [.ref l] []) rfl]
    repeat (any_goals (first | assumption | wp_step))
    refine codeAny_mono (code_set_new_1 (.ref l) (E := E) (Q₁ := fun v s1 => ∃ led, v = .ref s.heap.objs.size ∧ s1 = { s with heap := s.heap.push (newSetObj led) }) fun led => ⟨led, rfl, rfl⟩) fun q s1 hq => ?_
    rcases q with e | (_ | _ | _ | v)
    · exact hq
    · exact hq.elim
    · exact hq.elim
    · exact hq.elim
    obtain ⟨led, rfl, rfl⟩ := hq
    have hS : (s.heap.push (newSetObj led)).get? s.heap.objs.size = some (newSetObj led) := Heap.get?_push_size _ rfl
    have ty : Shared.TypeIs { s with heap := s.heap.push (newSetObj led) } (.ref s.heap.objs.size) "set" := ⟨_, hS, rfl⟩
    have g1 := F.called_set.init.lookup; have g2 := F.called_set.init.bind (.ref s.heap.objs.size)
    repeat (any_goals (first | assumption | wp_step))
    refine codeAny_mono (codeAny_call_builtin (R := wants (fun v s2 => v = .none ∧ ∃ h' tk, s2 = { s with heap := h', toks := tk } ∧ MemOf P w h' s.heap.objs.size (kset ks) ∧ ∀ b o, s.heap.get? b = some o → h'.get? b = some o) E) F.called_set.init.plain F.entry_set_init (check_set_init_1 ty ?_)) fun q2 s2 hq2 => ?_
    · refine wpAny_mono (init_list (by simp [hh]) hS (hl.push _) (Nat.ne_of_lt (by obtain ⟨_, e, _⟩ := hl; exact Heap.lt_size e)) r room (Q := fun v s2 => v = .none ∧ ∃ h' tk, s2 = { s with heap := h', toks := tk } ∧ MemOf P w h' s.heap.objs.size (kset ks) ∧ ∀ b o, s.heap.get? b = some o → h'.get? b = some o) fun h' tk hm hk => ⟨rfl, h', tk, rfl, hm, fun b o e => hk b o (Nat.ne_of_lt (Heap.lt_size e)) (Heap.get?_push_of_some _ e)⟩) (fun fin s2 hz => ?_) fun _ _ z => z
      obtain ⟨v, rfl, hz⟩ := hz
      exact hz
    · rcases q2 with e | (_ | _ | _ | v)
      · exact hq2
      · exact hq2.elim
      · exact hq2.elim
      · exact hq2.elim
      obtain ⟨rfl, h', tk, rfl, hm, hk⟩ := hq2
      repeat (any_goals (first | assumption | wp_step))
      exact h _ _ _ hm hk)⟩
end
end Vm
end
section
set_option Elab.async false
set_option linter.all false
set_option maxRecDepth 100000
set_option maxHeartbeats 4000000
/-! len(set(a list)); {.. for ..} of ints and texts -/
namespace Vm
open PySem PySem.Spec PyProof.Rows L2 PpSet

section
variable {X : Cx}
def tLenSetK (K : PySem.W.Frag) (ta : TE) : TE := fun σ H Q => ta σ H fun x H1 => ∃ l ks, x = .ref l ∧ SqL K H1 l (ks.map kV) ∧ ks.length + 1 < scanBound ∧ Q (.int ((kset ks).length : Nat)) H1
theorem memOf_len {P : Program} {w : World} {A : Around} {E : Value → Shared → Prop} {s : Shared} {D : Addr} {ks : List Key} (m : MemOf P w s.heap D ks) {Q : Value → Shared → Prop} (h : ∀ t tk, Q (.int (ks.length : Nat) t) { s with toks := tk }) (room : ks.length < 2 ^ 63) :
    wpAny (model P w) A (call (.builtin "len") [.ref D]) Q E s := by
  obtain ⟨o, es, ep, t, ho, hex, hd, _, _, _, hf, hn⟩ := m
  refine call_len_set ho hex hd hf (by rw [hn]; exact_mod_cast room) ?_
  rw [hn]
  exact h _ _
theorem pe_lenSetK {a : Expr} {ta : TE} {p p2 q pos : Pos} (hc : X.calm = true) (hg : Gl X "len") (hm : X.mg "len" = none) (hg2 : Gl X "set") (hm2 : X.mg "set" = none) (ha : PE X a ta) (na : starEach [a] X.env = (false, eval a X.env) :: starEach [] X.env) :
    PE X (.Call (.Name "len" p) [.Call (.Name "set" p2) [a] [] q] [] pos) (tLenSetK X.K ta) := by
  constructor
  intro pins s σ H Q I h
  refine Call_ (ld_blt I hg hm boot_len (PyProof.Rows.callWith_builtin1 (PyProof.Rows.args_cons ?_ rfl) rfl rfl))
  refine Call_ (ld_blt I hg2 hm2 boot_set (PyProof.Rows.callWith_type1 (PyProof.Rows.args_cons (thn (ha.run pins s σ H _ I h) ?_) na) na rfl))
  rintro v s1 ⟨x, H1, I1, r1, l, ks, rfl, hq, room, hQ⟩
  cases r1
  obtain ⟨its, rv, pl, hz⟩ := I1.list hq
  refine PyProof.Rows.args_nil (call_set_keys (I1.ok.hd hc) pl.isList (by simpa using rv) room fun h' tk D hm hk => PyProof.Rows.args_nil ?_)
  have I2 : Inv X pins σ H1 { s1 with heap := h', toks := tk } := I1.kept hk
  have small : (kset ks).length < 2 ^ 63 := by
    have h1 := kset_len ks
    have h2 : ks.length + 1 < 2 ^ 63 := Nat.lt_trans room (by decide)
    omega
  exact memOf_len hm (fun t tk => ⟨.int _, H1, I2.tok _, ⟨_, rfl⟩, hQ⟩) small

/-! ### {elt for target in iter if ..} -/
abbrev SK (P : Program) (w : World) (D : Addr) (ks : List Key) : HO := SetK P w D (fun k => memK k ks) ks.length
def tScK (P : Program) (w : World) (wi : TI) (g : TG) (tt : TT) (te : TE) (vs : List Nat) : TE := fun σ H Q => wi σ H fun J H1 => ∀ D, H1 D = none → ∃ W : Nat → Nat → Hp → Prop, (∃ m, W 0 m (upd H1 D (SK P w D []))) ∧ ∀ i m H, W i m H →
  (J.stop i H ∧ Q (.ref D) H) ∨ (J.go i H ∧ ∃ Nx : Hp → Prop, (∀ H', Nx H' → ∃ m', m' < m ∧ W (i + 1) m' H') ∧ ∀ x H', J.yld i H x H' → g x (wipe σ vs) H' fun σ2 H2 => wipe σ2 vs = wipe σ vs ∧ tt σ2 H2 fun b H3 =>
    if b = true then te σ2 H3 fun y H4 => ∃ k ks, y = kV k ∧ H4 D = some (SK P w D ks) ∧ ks.length + 1 < scanBound ∧ Nx (upd H4 D (SK P w D (once ks k))) else Nx H3)
theorem addK_ok {pins : List (Addr × Obj)} {σ : L2.St} {H : Hp} {s : Shared} {E : Value → Shared → Prop} {D : Addr} {ks : List Key} {k : Key} {v : Value} {Q : Value → Shared → Prop} (I : Inv X pins σ H s) (hD : H D = some (SK X.prog X.w D ks)) (room : ks.length + 1 < scanBound) (r : RelV (kV k) v)
    (h : ∀ s', Inv X pins σ (upd H D (SK X.prog X.w D (once ks k))) s' → Q .none s') : wpAny (model X.prog X.w) X.A (call (.builtin "set.add") [.ref D, v]) Q E s := by
  refine call_set_add (kV_is r) (key_scan r) (setK_get I hD) room fun h' sb new => ?_
  have new2 : MemOf X.prog X.w h' D (once ks k) := MemOf.once new
  have he : ∃ u, h'.get? D = some u := by
    obtain ⟨o, _, _, _, ho, _⟩ := new
    exact ⟨o, ho⟩
  exact h _ (I.write (e := D) (t' := s.toks + 1) (by rw [hD]; trivial) (.inl rfl) (fun b u hb hu => (sb.2 b hb).trans hu) he (setK_new new2))
theorem pe_scK {elt tg iter : Expr} {ifs : List Expr} {scope : Scope} {own : List (Str × Nat)} {pos : Pos} {wi : TI} {g : TG} {tt : TT} {te : TE} (hc : X.calm = true) (hN : X.N.Nodup) (hi : PI X tg iter wi) (ok : BlkOk X.N X.env.scope scope own)
    (hg : ∀ s H C cl fp, PG (X.blk s H scope (compEnvC scope cl C X.env) fp) tg g) (ht : ∀ s H C cl fp, PTs (X.blk s H scope (compEnvC scope cl C X.env) fp) ifs tt) (he : ∀ s H C cl fp, PE (X.blk s H scope (compEnvC scope cl C X.env) fp) elt te)
    (hs : ∀ x, foldedSetIterable iter X.env x = pure x) : PE X (.SetComp elt [⟨tg, iter, ifs, 0⟩] scope pos) (tScK X.prog X.w wi g tt te (own.map (·.2))) := by
  constructor
  intro pins s σ H Q I h
  rw [eval_SetComp]
  have caught : ∀ y ∈ scope.names, y.2 = .free → ∃ c, X.env.cells.lookup y.1 = some c := fun y hy e => (ok.free y hy e).elim (fun k => I.ok.has _ (.inl k)) fun k => I.ok.has _ (.inr k)
  refine wpAny_comprehension_free (use := none) rfl hs (closure_ok caught) ok.kind (fun y hy e => by rw [ok.uniq y hy, e]) (thn (hi.run pins s σ H _ I h) fun xv s1 hx => thn hx ?_)
  rintro itv s2 ⟨it, fp, tn, J, H2, rfl, I2, T, st2, f2, q⟩
  refine newSet_ok (newEnv_comp ?_)
  generalize hD : s2.heap.objs.size = D
  obtain ⟨W, ⟨m0, w0⟩, turn⟩ := q D (I2.hok.fresh (Nat.le_of_eq hD))
  -- with the new set
  have newOk : ∀ h : Heap, h = s2.heap.push { cls := .type "set", dict := none, data := .set #[] 0 (.fresh 0 0 (!X.w.params.followText "set-order")) } → ObjOk X.prog X.w (upd H2 D (SK X.prog X.w D [])) h D (SK X.prog X.w D []) := by
    rintro h rfl
    rw [← hD]
    exact setK_new (memOf_new (led := !X.w.params.followText "set-order") (Heap.get?_push_size _ rfl))
  generalize hs3 : ({ s2 with heap := s2.heap.push { cls := .type "set", dict := none, data := .set #[] 0 (.fresh 0 0 (!X.w.params.followText "set-order")) } } : Shared) = s3
  have h3 : s3.heap = s2.heap.push { cls := .type "set", dict := none, data := .set #[] 0 (.fresh 0 0 (!X.w.params.followText "set-order")) } := by rw [← hs3]
  have I3 : Inv X pins σ (upd H2 D (SK X.prog X.w D [])) s3 := by
    rw [← hs3]
    exact I2.laid (t' := s2.toks) (fun b o e => Heap.get?_push_of_some _ e) (Nat.le_of_eq hD) (newOk _ rfl)
  have kp3 : ∀ b o, s2.heap.get? b = some o → s3.heap.get? b = some o := fun b o e => by
    rw [h3]
    exact Heap.get?_push_of_some _ e
  have f3 : ∀ b ∈ fp, FpOk X pins (upd H2 D (SK X.prog X.w D [])) b ∧ b < s3.heap.objs.size := fun b hb => by
    obtain ⟨o, e, _⟩ := T.obj _ _ st2 b hb
    refine ⟨⟨?_, (f2 b hb).2⟩, Heap.lt_size (kp3 b o e)⟩
    rw [upd_ne (by rw [← hD]; exact Nat.ne_of_lt (Heap.lt_size e))]
    exact (f2 b hb).1
  have st3 : tn 0 s3.heap := T.keep _ _ _ st2 fun b _ o e => kp3 b o e
  generalize hH3 : upd H2 D (SK X.prog X.w D []) = H3 at I3 w0 f3
  have I4 := block_start I3 ok hN f3
  generalize hcl : cellsFrom (s3.heap.objs.size + 1) scope.names (cloFrom X.env.cells scope.names []) = cl at I4
  have pg := hg s3 H3 s3.heap.objs.size cl fp
  have pt := ht s3 H3 s3.heap.objs.size cl fp
  have pe := he s3 H3 s3.heap.objs.size cl fp
  show codeAny _ _ (.compStart (.SetComp elt [⟨tg, iter, ifs, 0⟩] scope pos) 0 (.ref it) (.ref D) (compEnvC scope cl s3.heap.objs.size X.env))
    (compPost (model X.prog X.w) X.A X.xe none (EP X pins σ Q) (.ref D) s3.heap.objs.size) { s3 with heap := pushCells (s3.heap.push { cls := .type "dict", data := .dict #[] }) scope.names }
  have nfp : ∀ b ∈ fp, H3 b = none := fun b hb => (f3 b hb).1.1
  generalize hce : compEnvC scope cl s3.heap.objs.size X.env = ce at I4 pg pt pe ⊢
  have cL : ce.locals = s3.heap.objs.size := by subst hce; rfl
  generalize hs4 : ({ s3 with heap := pushCells (s3.heap.push { cls := .type "dict", data := .dict #[] }) scope.names } : Shared) = s4 at I4 ⊢
  have st4 : tn 0 s4.heap := T.keep _ _ _ st3 fun b _ o e => by
    rw [← hs4]
    exact pushCells_keeps _ _ _ _ (Heap.get?_push_of_some _ e)
  have stat : ∀ {σ' : L2.St} {H' : Hp} {s' : Shared}, Inv (X.blk s3 H3 scope ce fp) [] σ' H' s' → (∀ b ∈ fp, H' b = none) → ∀ b ∈ fp, FpOk (X.blk s3 H3 scope ce fp) [] H' b := fun {σ' H' s'} I' hn b hb =>
    ⟨hn b hb, (I'.ok.exf b hb).1, I'.ok.exfs b hb, .inl hb, fun x c e => (I'.ok.exf b hb).2 x c e, fun p hp => by cases hp⟩
  have loop : codeAny (model X.prog X.w) X.A (.compLoop (.SetComp elt [⟨tg, iter, ifs, 0⟩] scope pos) 0 (.ref it) (.ref D) ce) (compPost (model X.prog X.w) X.A X.xe none (EP X pins σ Q) (.ref D) s3.heap.objs.size) s4 := by
    refine compLoopS_any (fun n s' => ∃ i H', Inv (X.blk s3 H3 scope ce fp) [] (wipe σ (own.map (·.2))) H' s' ∧ tn i s'.heap ∧ (∀ b ∈ fp, H' b = none) ∧ W i n H') ?_ m0 ⟨0, H3, I4, st4, nfp, w0⟩
    rintro n s5 ⟨i, H5, I5, st5, n5, w5⟩
    rcases turn i n H5 w5 with ⟨stop, qq⟩ | ⟨go, Nx, hNx, step⟩
    · refine thnF (T.done (X.blk s3 H3 scope ce fp) rfl rfl rfl hc i [] s5 _ H5 (fun _ _ => False) I5 (stat I5 n5) st5 stop) ?_
      rintro r s6 ⟨rfl, I6⟩
      have I7 : Inv X pins σ H5 s6 := I3.call' (ch := fp) I6.os I6.base I6.hok I6.bare fun b hb => ⟨(f3 b hb).1.2.2.2.1, (f3 b hb).1.2.1, (f3 b hb).1.2.2.2.2.1, (f3 b hb).1.2.2.2.2.2⟩
      have nC : H5 s3.heap.objs.size = none := by
        rw [← cL]
        exact I6.free
      obtain ⟨m, hn, _⟩ := I6.loc
      have hn : s6.heap.Ns ce.locals m := hn
      rw [cL] at hn
      obtain ⟨f0, g1, g2, g3, g4, g5⟩ := I3.fpOk (Nat.le_refl _) nC
      exact ⟨m, hn, fun h'' sb => ⟨.ref D, H5, I7.turned (t' := s6.toks) (fun b o hb e => (sb.2 b hb).trans e) f0 g1 g3 g4 g5, rfl, qq⟩⟩
    · refine thnF (T.item (X.blk s3 H3 scope ce fp) rfl rfl rfl hc i [] s5 _ H5 (fun _ _ => False) I5 (stat I5 n5) st5 go) ?_
      rintro r s6 ⟨u, rfl, h6⟩
      refine thnF h6 ?_
      rintro _ s7 ⟨x, H7, I7, r7, y7, st7, n7⟩
      refine thnF (pg.run _ s7 _ H7 x u _ (I7.pinned (stat I7 n7) (T.obj _ _ st7)) r7 (step x H7 y7)) ?_
      rintro _ s8 ⟨σ8, H8, I8, hw8, q8⟩
      refine thnF (pt.run _ s8 σ8 H8 _ I8 q8) ?_
      rintro b s9 ⟨H9, I9, q9⟩
      have fin : ∀ {s' : Shared} {H' : Hp}, Inv (X.blk s3 H3 scope ce fp) ([] ++ pinsAt fp s7.heap) σ8 H' s' → Nx H' → ∃ m, m < n ∧ ∃ i H', Inv (X.blk s3 H3 scope ce fp) [] (wipe σ (own.map (·.2))) H' s' ∧ tn i s'.heap ∧ (∀ b ∈ fp, H' b = none) ∧ W i m H' := fun {s' H'} I' nx => by
        obtain ⟨m', hm, w'⟩ := hNx H' nx
        have pin' : ∀ b ∈ fp, ∀ o, s7.heap.get? b = some o → s'.heap.get? b = some o ∧ H' b = none := fun b hb o e => by
          have z := I'.pin (b, o) (List.mem_append_right _ (List.mem_append_right _ (mem_pinsAt hb e)))
          exact ⟨z.1, z.2.1⟩
        have hl : (wipe σ (own.map (·.2))).length = σ8.length := by rw [← hw8, wipe_length]
        refine ⟨m', hm, i + 1, H', (I'.unpinned (pins := [])).weak hl (fun j v e => ?_), T.keep _ _ _ st7 fun b hb o e => (pin' b hb o e).1, fun b hb => ?_, w'⟩
        · rw [← hw8] at e
          exact (wipe_some e).1
        · obtain ⟨o, e, _⟩ := T.obj _ _ st7 b hb
          exact (pin' b hb o e).2
      cases b with
      | false =>
        rw [if_neg (by decide)] at q9 ⊢
        exact fin I9 q9
      | true =>
        rw [if_pos rfl] at q9 ⊢
        refine thnF (pe.run _ s9 σ8 H9 _ I9 q9) ?_
        rintro z s10 ⟨yv, H10, I10, r10, k, ks, rfl, hD10, room, nx⟩
        exact addK_ok (X := X.blk s3 H3 scope ce fp) I10 hD10 room r10 fun s11 I11 => fin I11 nx
  exact codeAny_compStart_set loop (T.self X.A 0 _ _ _ st4 loop)
end
end Vm
end
section
set_option Elab.async false
set_option linter.all false
set_option maxRecDepth 100000
set_option maxHeartbeats 4000000
namespace Vm
open PySem PySem.Spec PyProof.Rows L2 PpSet

def keyD : Dt → Option Key
  | .int i => some (.inl i)
  | .str s => some (.inr s)
  | _ => none
def keysD : List Dt → Option (List Key)
  | [] => some []
  | d :: ds => match keyD d, keysD ds with
    | some k, some ks => some (k :: ks)
    | _, _ => none
theorem keyD_ok {K : PySem.W.Frag} {F : Hp} {v : V} {d : Dt} {k : Key} (h : keyD d = some k) (q : Dat K F v d) : v = kV k := by
  cases q <;> cases h <;> rfl
theorem keysD_ok {K : PySem.W.Frag} {F : Hp} : ∀ {ds : List Dt} {vs : List V} {ks : List Key}, keysD ds = some ks → DatAll K F vs ds → vs = ks.map kV
  | [], _, _, h, q => by cases h; cases q; rfl
  | d :: ds, _, _, h, q => by
    unfold keysD at h
    split at h
    · rename_i k ks h1 h2
      cases h
      cases q with
      | cons q1 q2 => rw [keyD_ok h1 q1, keysD_ok h2 q2]; rfl
    · cases h
def fLenSet (fa : Ro → Om → R Sv) : Ro → Om → R Sv := fun ρ ω => (fa ρ ω).bind fun a ω1 => match ω1.lst a with
  | some ds => match keysD ds with
    | some ks => if ks.length + 1 < scanBound then .ok (.dat (.int ((kset ks).length : Nat))) ω1 else .no
    | none => .no
  | none => .no
section
variable {K : PySem.W.Frag} {W : WX} {ta : TE} {fa : Ro → Om → R Sv}
theorem sem_lenSet (ha : SemE K W ta fa) : SemE K W (tLenSetK K ta) (fLenSet fa) := fun ρ ω σ F H ps rl s Q h =>
  ha ρ ω σ F H ps rl s _ (Out.bind h fun a ω1 v1 F1 H1 p1 s1 r1 q1 h1 => by
    split at h1
    · rename_i ds e
      split at h1
      · rename_i ks ek
        split at h1
        · rename_i room
          obtain ⟨l, vs, rfl, hl, hd⟩ := Om.lst_ok e r1 q1
          rw [keysD_ok ek hd] at hl
          exact ⟨l, ks, rfl, SqL.of hl, room, h1.here r1 (Dat.int _)⟩
        · exact h1.elim
      · exact h1.elim
    · exact h1.elim)
/-- an object that nobody else holds -/
structure MkO (K : PySem.W.Frag) (F1 H1 : Hp) (ps1 : List Addr) (D : Addr) (F H : Hp) (ps : List Addr) (ω : Om) (o : HO) : Prop where
  stp : Stp F1 H1 ps1 F H ps
  rel : Rel K F H ps ω
  fD : F D = none
  pD : D ∉ ps
  hD : H D = some o
theorem MkO.step {F1 H1 F H F' H' : Hp} {ps1 ps ps' : List Addr} {D : Addr} {ω ω' : Om} {o : HO} (m : MkO K F1 H1 ps1 D F H ps ω o) (s : Stp F H ps F' H' ps') (r : Rel K F' H' ps' ω') : MkO K F1 H1 ps1 D F' H' ps' ω' o := by
  have n : ¬ (F' D ≠ none ∨ D ∈ ps') := fun z => by
    rcases s.new D z with z | z | z
    · exact z m.fD
    · exact m.pD z
    · rw [m.hD] at z; cases z
  exact ⟨m.stp.trans s, r, Classical.not_not.mp fun z => n (.inl z), fun z => n (.inr z), s.kp D _ m.hD m.fD m.pD⟩
theorem MkO.put {F1 H1 F H : Hp} {ps1 ps : List Addr} {D : Addr} {ω : Om} {o o' : HO} (m : MkO K F1 H1 ps1 D F H ps ω o) (h1 : H1 D = none) : MkO K F1 H1 ps1 D F (upd H D o') ps ω o' :=
  ⟨m.stp.redo h1, m.rel.away m.fD m.pD, m.fD, m.pD, upd_same⟩
/-- the turns of a set comprehension -/
def scGo (b : Dt → Ro → Option Ro) (ft : Ro → Om → R Bool) (fe : Ro → Om → R Sv) (ρ : Ro) : List Dt → Om → List Key → R (List Key)
  | [], ω, acc => .ok acc ω
  | d :: ds, ω, acc => match b d ρ with
    | none => .no
    | some ρ2 => match ft ρ2 ω with
      | .ok true ω1 => match fe ρ2 ω1 with
        | .ok a ω2 => match (ω2.toD a).bind keyD with
          | some k => if acc.length + 1 < scanBound then scGo b ft fe ρ ds ω2 (once acc k) else .no
          | none => .no
        | _ => .no
      | .ok false ω1 => scGo b ft fe ρ ds ω1 acc
      | _ => .no
def fLenSc (fi : Ro → Om → R (List Dt)) (b : Dt → Ro → Option Ro) (ft : Ro → Om → R Bool) (fe : Ro → Om → R Sv) (vs : List Nat) : Ro → Om → R Sv := fun ρ ω =>
  (fi ρ ω).bind fun ds ω1 => (scGo b ft fe (wipeR ρ vs) ds ω1 []).bind fun ks ω2 => if ks.length < 2 ^ 63 then .ok (.dat (.int (ks.length : Nat))) ω2 else .no
def tLenSc (P : Program) (w : World) (t : TE) : TE := fun σ H Q => t σ H fun x H1 => ∃ D ks, x = .ref D ∧ H1 D = some (SK P w D ks) ∧ ks.length < 2 ^ 63 ∧ Q (.int (ks.length : Nat)) H1
theorem pe_lenSc {X : Cx} {elt : Expr} {gs : List Comprehension} {scope : Scope} {p q pos : Pos} {t : TE} (hg : Gl X "len") (hm : X.mg "len" = none) (h : PE X (.SetComp elt gs scope q) t) :
    PE X (.Call (.Name "len" p) [.SetComp elt gs scope q] [] pos) (tLenSc X.prog X.w t) := by
  constructor
  intro pins s σ H Q I hq
  refine Call_ (ld_blt I hg hm boot_len (PyProof.Rows.callWith_builtin1 (PyProof.Rows.args_cons (thn (h.run pins s σ H _ I hq) ?_) rfl) rfl rfl))
  rintro v s1 ⟨x, H1, I1, r1, D, ks, rfl, hD, small, hQ⟩
  cases r1
  exact PyProof.Rows.args_nil (memOf_len (setK_get I1 hD) (fun t tk => ⟨.int _, H1, I1.tok _, ⟨_, rfl⟩, hQ⟩) small)
variable {P : Program} {w : World} {wi : TI} {g : TG} {tt : TT} {te : TE} {ix vs : List Nat} {fi : Ro → Om → R (List Dt)} {b : Dt → Ro → Option Ro} {ft : Ro → Om → R Bool} {fe : Ro → Om → R Sv}
theorem sem_lenSc (hi : SemI K W wi fi) (hg : SemG K ix g b) (ht : SemT K never tt ft) (he : SemE K never te fe) (hx : ∀ i ∈ ix, i ∈ vs) : SemE K W (tLenSc P w (tScK P w wi g tt te vs)) (fLenSc fi b ft fe vs) := fun ρ ω σ F H ps rl s Q h =>
  hi ρ ω σ F H ps rl s _ (Out.bind h fun ds ω1 J F1 H1 p1 s1 r1 q1 h1 => by
    intro D hD
    have hs := s.step s1
    generalize hr : scGo b ft fe (wipeR ρ vs) ds ω1 [] = r0 at h1
    refine ⟨fun i m Hi => m = ds.length - i ∧ i ≤ ds.length ∧ ∃ F2 ps2 ω2 acc, MkO K F1 H1 p1 D F2 Hi ps2 ω2 (SK P w D acc) ∧ scGo b ft fe (wipeR ρ vs) (ds.drop i) ω2 acc = r0, ⟨_, rfl, Nat.zero_le _, F1, p1, ω1, [], ⟨Stp.refl.redo hD, r1.away (r1.fnone hD) (r1.notin hD), r1.fnone hD, r1.notin hD, upd_same⟩, hr⟩, ?_⟩
    rintro i m Hi ⟨rfl, hi, F2, ps2, ω2, acc, mk, hgo⟩
    have wk := q1 i F2 Hi ps2 ω2 mk.stp.ex mk.rel
    by_cases hlt : i < ds.length
    · have e : ds[i]? = some ds[i] := List.getElem?_eq_getElem hlt
      rw [List.drop_eq_getElem_cons hlt] at hgo
      obtain ⟨g1, g2⟩ := wk.1 _ e
      refine .inr ⟨g1, fun H' => i + 1 ≤ ds.length ∧ ∃ F2 ps2 ω2 acc, MkO K F1 H1 p1 D F2 H' ps2 ω2 (SK P w D acc) ∧ scGo b ft fe (wipeR ρ vs) (ds.drop (i + 1)) ω2 acc = r0, fun H' hn => ⟨ds.length - (i + 1), by omega, rfl, hn⟩, fun x H3 hy => ?_⟩
      obtain ⟨F3, r3, s3, d3⟩ := g2 x H3 hy
      have mk3 := mk.step s3 r3
      have nok : r0 ≠ .no := fun z => by rw [z] at h1; exact h1
      unfold scGo at hgo
      split at hgo
      · exact absurd hgo.symm nok
      · rename_i ρ2 hb
        refine hg F3 H3 ps2 _ x _ _ ρ2 mk3.rel.ex d3 (((hs.step mk3.stp)).wipe vs) hb _ fun σ2 s2 w2 => ⟨?_, ?_⟩
        · rw [w2 vs hx, wipe_sub fun i hi => hi]
        · refine ht ρ2 ω2 σ2 F3 H3 ps2 mk3.rel s2 _ ?_
          split at hgo
          · rename_i ω3 et
            rw [et]
            intro c F4 H4 p4 s4 r4 hc
            cases hc
            rw [if_pos rfl]
            have mk4 := mk3.step s4 r4
            refine he ρ2 ω3 σ2 F4 H4 p4 r4 (s2.step s4) _ ?_
            split at hgo
            · rename_i a ω4 ee
              rw [ee]
              intro y F5 H5 p5 s5 r5 q5
              have mk5 := mk4.step s5 r5
              split at hgo
              · rename_i k ek
                rw [Option.bind_eq_some_iff] at ek
                obtain ⟨dd, e1, e2⟩ := ek
                split at hgo
                · rename_i room
                  exact ⟨k, acc, keyD_ok e2 (Om.toD_ok e1 r5 q5), mk5.hD, room, hlt, F5, p5, ω4, _, mk5.put hD, hgo⟩
                · exact absurd hgo.symm nok
              · exact absurd hgo.symm nok
            · exact absurd hgo.symm nok
          · rename_i ω3 et
            rw [et]
            intro c F4 H4 p4 s4 r4 hc
            cases hc
            rw [if_neg (by decide)]
            exact ⟨hlt, F4, p4, ω3, acc, mk3.step s4 r4, hgo⟩
          · exact absurd hgo.symm nok
    · have hi2 : i = ds.length := by omega
      subst hi2
      rw [List.drop_length] at hgo
      have e0 : r0 = .ok acc ω2 := hgo.symm
      rw [e0] at h1
      rw [R.bind_ok] at h1
      split at h1
      · rename_i small
        exact .inl ⟨wk.2 (Nat.le_refl _), D, acc, rfl, mk.hD, small, h1 (.int _) F2 Hi ps2 mk.stp mk.rel (Dat.int _)⟩
      · exact h1.elim)
end
end Vm
end
section
set_option Elab.async false
set_option linter.all false
set_option maxRecDepth 100000
set_option maxHeartbeats 4000000
/-! zip of two, each a list, a tuple or a text -/
namespace Vm
open PySem PySem.Spec PyProof.Rows L2

/-- what is zipped: a list or tuple with its items, a text -/
inductive Kd where
  | l (a : Addr) (xs : List V) | t (a : Addr) (xs : List V) | s (x : Str)
def Kd.at (K : PySem.W.Frag) (H : Hp) : Kd → Prop
  | .l a xs => SqL K H a xs
  | .t a xs => SqT K H a xs
  | .s _ => True
def Kd.v : Kd → V
  | .l a _ => .ref a
  | .t a _ => .ref a
  | .s x => .str x
def Kd.xs : Kd → List V
  | .l _ xs => xs
  | .t _ xs => xs
  | .s x => x.cps.toList.map fun c => .str ⟨#[c]⟩
def Kd.it (u : Value) (it : Addr) (i : Nat) (h : Heap) : Kd → Prop
  | .l a _ => h.IsListIter it a i
  | .t a _ => h.IsTupleIter it a i
  | .s x => ∃ t, u = .str x t ∧ h.IsStrIter it (strIterType x) x t i
def Kd.fp (it : Addr) : Kd → List Addr
  | .l a _ => [it, a]
  | .t a _ => [it, a]
  | .s _ => [it]
/-- the object walked is not the address c -/
def Kd.off (c : Addr) : Kd → Prop
  | .l a _ => a ≠ c
  | .t a _ => a ≠ c
  | .s _ => True
section
variable {X : Cx} {pins : List (Addr × Obj)} {σ : L2.St} {H : Hp} {s : Shared}
theorem Kd.fp_mem {it c : Addr} : ∀ {d : Kd}, c ≠ it → d.off c → c ∉ d.fp it
  | .l a _, h1, h2 => by simp only [Kd.fp, List.mem_cons, List.not_mem_nil, or_false, not_or]; exact ⟨h1, fun z => h2 z.symm⟩
  | .t a _, h1, h2 => by simp only [Kd.fp, List.mem_cons, List.not_mem_nil, or_false, not_or]; exact ⟨h1, fun z => h2 z.symm⟩
  | .s _, h1, h2 => by simp only [Kd.fp, List.mem_cons, List.not_mem_nil, or_false]; exact h1
theorem Kd.fp_it {it : Addr} : ∀ {d : Kd}, it ∈ d.fp it
  | .l _ _ => by simp [Kd.fp]
  | .t _ _ => by simp [Kd.fp]
  | .s _ => by simp [Kd.fp]
theorem Kd.it_obj {u : Value} {it : Addr} {i : Nat} {h : Heap} : ∀ {d : Kd}, d.it u it i h → ∃ o, h.get? it = some o ∧ ∀ v, o.data ≠ .cell v
  | .l _ _, ⟨o, h1, _, h2⟩ => ⟨o, h1, fun v z => by rw [h2] at z; cases z⟩
  | .t _ _, ⟨o, h1, _, h2⟩ => ⟨o, h1, fun v z => by rw [h2] at z; cases z⟩
  | .s _, ⟨_, _, o, h1, _, h2⟩ => ⟨o, h1, fun v z => by rw [h2] at z; cases z⟩
theorem Kd.it_keep {u : Value} {it : Addr} {i : Nat} {h h' : Heap} (k : ∀ o, h.get? it = some o → h'.get? it = some o) : ∀ {d : Kd}, d.it u it i h → d.it u it i h'
  | .l _ _, ⟨o, h1, r⟩ => ⟨o, k o h1, r⟩
  | .t _ _, ⟨o, h1, r⟩ => ⟨o, k o h1, r⟩
  | .s _, ⟨tk, e, o, h1, r⟩ => ⟨tk, e, o, k o h1, r⟩
/-- what such an iterator draws, in this state -/
theorem Kd.draws {A : Around} (hh : A.handled = none) (I : Inv X pins σ H s) {d : Kd} {u : Value} (at_ : d.at X.K H) (r : RelV d.v u) (it : Addr) (ho : d.off it) : ∃ (P : Nat → Value → Prop) (St : Nat → Heap → Prop),
    Draws X.prog X.w A it (d.fp it) d.xs.length P St ∧ (∀ i, d.it u it i s.heap → St i s.heap) ∧ (∀ i h, St i h → d.it u it i h) ∧ ∀ i v, P i v → ∃ x, d.xs[i]? = some x ∧ RelV x v := by
  cases d with
  | l a xs =>
    obtain ⟨its, rv, p, _⟩ := I.list at_
    have hl : xs.length = its.toArray.size := by rw [List.size_toArray, rv.length]
    refine ⟨fun i v => its.toArray[i]? = some v, fun i h => h.IsListIter it a i ∧ h.IsList a its.toArray, by rw [show (Kd.l a xs).xs.length = its.toArray.size from hl]; exact Draws.list hh it a ho its.toArray, fun i h => ⟨h, p.isList⟩, fun i h z => z.1, fun i v hv => ?_⟩
    have hv : its[i]? = some v := by simpa using hv
    have hi : i < xs.length := by rw [rv.length]; exact (List.getElem?_eq_some_iff.mp hv).1
    obtain ⟨u2, h1, h2⟩ := rv.get (List.getElem?_eq_getElem hi)
    rw [hv] at h1; cases h1
    exact ⟨_, List.getElem?_eq_getElem hi, h2⟩
  | t a xs =>
    obtain ⟨its, rv, p, _⟩ := I.tuple at_
    have hl : xs.length = its.toArray.size := by rw [List.size_toArray, rv.length]
    refine ⟨fun i v => its.toArray[i]? = some v, fun i h => h.IsTupleIter it a i ∧ h.IsTuple a its.toArray, by rw [show (Kd.t a xs).xs.length = its.toArray.size from hl]; exact Draws.tuple hh it a ho its.toArray, fun i h => ⟨h, p⟩, fun i h z => z.1, fun i v hv => ?_⟩
    have hv : its[i]? = some v := by simpa using hv
    have hi : i < xs.length := by rw [rv.length]; exact (List.getElem?_eq_some_iff.mp hv).1
    obtain ⟨u2, h1, h2⟩ := rv.get (List.getElem?_eq_getElem hi)
    rw [hv] at h1; cases h1
    exact ⟨_, List.getElem?_eq_getElem hi, h2⟩
  | s x =>
    obtain ⟨t, rfl⟩ := r
    refine ⟨fun i v => ∃ c k, x.cps[i]? = some c ∧ v = .str ⟨#[c]⟩ k, fun i h => h.IsStrIter it (strIterType x) x t i, by rw [show (Kd.s x).xs.length = x.cps.size from by simp [Kd.xs]]; exact Draws.text hh it x t, fun i h => ?_, fun i h z => ⟨t, rfl, z⟩, fun i v hv => ?_⟩
    · obtain ⟨t', e, z⟩ := h
      cases e
      exact z
    · obtain ⟨c, k, hc, rfl⟩ := hv
      exact ⟨.str ⟨#[c]⟩, by simp [Kd.xs, hc], ⟨k, rfl⟩⟩
/-- iter of such a thing -/
theorem Kd.begins (I : Inv X pins σ H s) {d : Kd} {u : Value} (at_ : d.at X.K H) (r : RelV d.v u) : ∃ (o : Obj) (Hh : Heap → Prop), Begins u o Hh ∧ Hh s.heap ∧ ∀ (it : Addr) (h : Heap), h.get? it = some o → d.it u it 0 h := by
  cases d with
  | l a xs =>
    cases r
    obtain ⟨its, rv, p, _⟩ := I.list at_
    exact ⟨_, _, begins_list a its.toArray, p.isList, fun it h e => ⟨_, e, rfl, rfl⟩⟩
  | t a xs =>
    cases r
    obtain ⟨its, rv, p, _⟩ := I.tuple at_
    exact ⟨_, _, begins_tuple a its.toArray, p, fun it h e => ⟨_, e, rfl, rfl⟩⟩
  | s x =>
    obtain ⟨t, rfl⟩ := r
    exact ⟨_, _, begins_text x t, trivial, fun it h e => ⟨t, rfl, _, e, rfl, rfl⟩⟩
theorem Kd.lt (I : Inv X pins σ H s) {d : Kd} (at_ : d.at X.K H) {c : Addr} (hc : s.heap.objs.size ≤ c) : d.off c := by
  cases d with
  | l a xs =>
    obtain ⟨its, rv, p, _⟩ := I.list at_
    exact Nat.ne_of_lt (Nat.lt_of_lt_of_le p.lt hc)
  | t a xs =>
    obtain ⟨its, rv, p, _⟩ := I.tuple at_
    obtain ⟨o1, ho1, _⟩ := p
    exact Nat.ne_of_lt (Nat.lt_of_lt_of_le (Heap.lt_size ho1) hc)
  | s x => trivial
end
/-- the turns of zip -/
def Itzz (K : PySem.W.Frag) (d e : Kd) : It :=
  ⟨fun i H => d.at K H ∧ e.at K H ∧ i < d.xs.length ∧ i < e.xs.length,
    fun i H v H' => ∃ T x y, v = .ref T ∧ H T = none ∧ H' = upd H T (.tup [x, y]) ∧ d.xs[i]? = some x ∧ e.xs[i]? = some y,
    fun i H => d.at K H ∧ e.at K H ∧ (d.xs.length ≤ i ∨ e.xs.length ≤ i)⟩
structure Apart (z TI TO i1 i2 : Addr) (d e : Kd) : Prop where
  sep : ZipSep2 z TI TO i1 i2 (d.fp i1) (e.fp i2)
  o1 : d.off i1
  o2 : e.off i2
theorem turn_zz {P : Program} {w : World} {K : PySem.W.Frag} {elts : List Expr} {kk : Nat} {tpos : Pos} {z TI TO i1 i2 : Addr} {d e : Kd} {u1 u2 : Value} (D : Apart z TI TO i1 i2 d e) (q1 : RelV d.v u1) (q2 : RelV e.v u2) :
    Turn P w K (.Tuple elts kk tpos) (Itzz K d e) [z, TI, TO, i1, i2] z
      (fun i h => IsZip h z TI TO .none ∧ IsTupOf2 h TI (.ref i1) (.ref i2) ∧ (∃ x y, IsTupOf2 h TO x y) ∧ d.it u1 i1 i h ∧ e.it u2 i2 i h ∧ i ≤ d.xs.length ∧ i ≤ e.xs.length) where
  mem := by simp
  obj := fun i h st c hc => by
    obtain ⟨hz, hTI, ⟨x, y, hTO⟩, h1, h2, _, _⟩ := st
    have e' : c = z ∨ c = TI ∨ c = TO ∨ c = i1 ∨ c = i2 := by simpa using hc
    rcases e' with rfl | rfl | rfl | rfl | rfl
    · exact ⟨_, hz, fun v q => nomatch q⟩
    · exact ⟨_, hTI, fun v q => nomatch q⟩
    · exact ⟨_, hTO, fun v q => nomatch q⟩
    · exact Kd.it_obj h1
    · exact Kd.it_obj h2
  keep := fun i h h' st k => by
    obtain ⟨hz, hTI, ⟨x, y, hTO⟩, h1, h2, l1, l2⟩ := st
    exact ⟨k z (by simp) _ hz, k TI (by simp) _ hTI, ⟨x, y, k TO (by simp) _ hTO⟩, Kd.it_keep (fun o q => k i1 (by simp) o q) h1, Kd.it_keep (fun o q => k i2 (by simp) o q) h2, l1, l2⟩
  item := by
    intro X hP hw hK hc i pins s σ H E I hf st hg
    subst hP hw hK
    obtain ⟨hz, hTI, ⟨x0, y0, hTO⟩, h1, h2, _, _⟩ := st
    obtain ⟨at1, at2, lt1, lt2⟩ := hg
    have hh : X.A.in1.handled = none := by simp [I.ok.hd hc]
    obtain ⟨P1, St1, D1, to1, of1, pv1⟩ := Kd.draws hh I at1 q1 i1 D.o1
    obtain ⟨P2, St2, D2, to2, of2, pv2⟩ := Kd.draws hh I at2 q2 i2 D.o2
    have hzl : z < s.heap.objs.size := Heap.lt_size hz
    refine wpAny_pyNext_zipD2_item D.sep D1 D2 hz hTI hTO (to1 i h1) (to2 i h2) lt1 lt2 fun v1 v2 h' tk p1 p2 z' TO' s1' s2' hT hsz hk => ?_
    obtain ⟨x, hx, rx⟩ := pv1 i v1 p1
    obtain ⟨y, hy, ry⟩ := pv2 i v2 p2
    refine ⟨_, rfl, wpAny_letOwnedTupleGo_zip (s := { s with heap := h', toks := tk }) z' fun h'' z'' sb => ?_⟩
    have hT2 : h''.get? s.heap.objs.size = some { cls := .type "tuple", data := .seq #[v1, v2] } := (sb.2 _ (Nat.ne_of_gt hzl)).trans hT
    have new : ObjOk X.prog X.w (upd H s.heap.objs.size (.tup [x, y])) h'' s.heap.objs.size (.tup [x, y]) :=
      ⟨by show 2 ≤ sizeLine; rw [sizeLine_eq]; decide, [v1, v2], .cons rx (.cons ry .nil), ⟨_, hT2, rfl, _, rfl⟩⟩
    have I1 : Inv X pins σ (upd H s.heap.objs.size (.tup [x, y])) { s with heap := h'', toks := tk } :=
      I.turnedNew (t' := tk) (ch := [z, TI, TO, i1, i2]) (fun c o hb q => by
        simp only [List.mem_cons, List.not_mem_nil, or_false, not_or] at hb
        exact (sb.2 c hb.1).trans (hk c o hb.1 hb.2.2.1 hb.2.2.2.1 hb.2.2.2.2 q)) hf (Nat.le_refl _) new
    refine ⟨.ref s.heap.objs.size, _, I1, rfl, ⟨_, x, y, rfl, I.hok.fresh (Nat.le_refl _), rfl, hx, hy⟩, ⟨z'', ?_, ⟨v1, v2, ?_⟩, ?_, ?_, lt1, lt2⟩, fun c hcm => ?_⟩
    · exact (sb.2 _ D.sep.TIz).trans (hk _ _ D.sep.TIz D.sep.TITO D.sep.TIi1 D.sep.TIi2 hTI)
    · exact (sb.2 _ D.sep.TOz).trans TO'
    · exact Kd.it_keep (fun o q => (sb.2 _ (Ne.symm D.sep.zi1)).trans q) (of1 _ _ s1')
    · exact Kd.it_keep (fun o q => (sb.2 _ (Ne.symm D.sep.zi2)).trans q) (of2 _ _ s2')
    · have hlt : c < s.heap.objs.size := by
        have e' : c = z ∨ c = TI ∨ c = TO ∨ c = i1 ∨ c = i2 := by simpa using hcm
        rcases e' with rfl | rfl | rfl | rfl | rfl
        · exact hzl
        · exact Heap.lt_size hTI
        · exact Heap.lt_size hTO
        · obtain ⟨_, e1, _⟩ := Kd.it_obj h1; exact Heap.lt_size e1
        · obtain ⟨_, e2, _⟩ := Kd.it_obj h2; exact Heap.lt_size e2
      rw [upd_ne (Nat.ne_of_lt hlt)]
      exact (hf c hcm).1
  done := by
    intro X hP hw hK hc i pins s σ H E I hf st hg
    subst hP hw hK
    obtain ⟨hz, hTI, ⟨x0, y0, hTO⟩, h1, h2, le1, le2⟩ := st
    obtain ⟨at1, at2, hend⟩ := hg
    have hh : X.A.in1.handled = none := by simp [I.ok.hd hc]
    obtain ⟨P1, St1, D1, to1, of1, pv1⟩ := Kd.draws hh I at1 q1 i1 D.o1
    obtain ⟨P2, St2, D2, to2, of2, pv2⟩ := Kd.draws hh I at2 q2 i2 D.o2
    refine wpAny_pyNext_zipD2_end D.sep D1 D2 hz hTI hTO (to1 i h1) (to2 i h2) le1 le2 (by omega) fun h' tk hk => ⟨rfl, I.turnedL (t' := tk) (ch := [z, TI, TO, i1, i2]) (fun c o hb q => ?_) hf⟩
    simp only [List.mem_cons, List.not_mem_nil, or_false, not_or] at hb
    exact hk c o hb.1 hb.2.2.1 hb.2.2.2.1 hb.2.2.2.2 q
  self := fun A i s Q E st h => wpAny_pyIter_zip st.1 h
theorem ne_add {n i j : Nat} (h : i ≠ j) : n + i ≠ n + j := fun e => h (Nat.add_left_cancel e)
def iZipK (K : PySem.W.Frag) (ta : TA) : TI := fun σ H R => ta σ H fun vs H1 => ∃ d e : Kd, vs = [d.v, e.v] ∧ d.at K H1 ∧ e.at K H1 ∧ R (Itzz K d e) H1
theorem pi_zipK {X : Cx} {e e2 : Expr} {ta : TA} {p pos tpos : Pos} {elts : List Expr} {kk : Nat} (hg : Gl X "zip") (hm : X.mg "zip" = none) (ha : PA X [e, e2] ta)
    (hs : starEach [e, e2] X.env = (false, eval e X.env) :: starEach [e2] X.env) (hpl : (backTo pos (starEach [e2] X.env)).any (·.1) = false) :
    PI X (.Tuple elts kk tpos) (.Call (.Name "zip" p) [e, e2] [] pos) (iZipK X.K ta) := by
  constructor
  intro pins s σ H R I h
  refine Call_ (ld_blt I hg hm PyProof.Rows.boot_zip (PyProof.Rows.callWith_type1 (thn (ha.run pos pins s σ H _ I h) ?_) hs hpl))
  rintro us s1 ⟨vs, H1, I1, r1, d, f, rfl, at1, at2, q⟩
  cases r1 with
  | cons r rr =>
  cases rr with
  | cons r' rr =>
  cases rr
  obtain ⟨o1, Hh1, B1, hb1, it1⟩ := Kd.begins I1 at1 r
  obtain ⟨o2, Hh2, B2, hb2, it2⟩ := Kd.begins I1 at2 r'
  refine zip_begins2 B1 B2 hb1 hb2 fun h' hz hTI hTO g1 g2 hsz hk => wpAny_pyIter_zip hz ?_
  have I2 : Inv X pins σ H1 { s1 with heap := h' } := I1.kept (t' := s1.toks) hk
  have off1 : ∀ k : Nat, d.off (s1.heap.objs.size + k) := fun k => Kd.lt I1 at1 (Nat.le_add_right _ _)
  have off2 : ∀ k : Nat, f.off (s1.heap.objs.size + k) := fun k => Kd.lt I1 at2 (Nat.le_add_right _ _)
  have ap : Apart (s1.heap.objs.size + 4) (s1.heap.objs.size + 2) (s1.heap.objs.size + 3) s1.heap.objs.size (s1.heap.objs.size + 1) d f := by
    generalize hn : s1.heap.objs.size = n at off1 off2
    have d01 : n ≠ n + 1 := ne_add (i := 0) (j := 1) (by decide)
    have d10 : n + 1 ≠ n := ne_add (i := 1) (j := 0) (by decide)
    have d20 : n + 2 ≠ n := ne_add (i := 2) (j := 0) (by decide)
    have d30 : n + 3 ≠ n := ne_add (i := 3) (j := 0) (by decide)
    have d40 : n + 4 ≠ n := ne_add (i := 4) (j := 0) (by decide)
    exact ⟨⟨ne_add (by decide), ne_add (by decide), ne_add (by decide), d20, Kd.fp_it, Kd.fp_mem d40 (off1 4), Kd.fp_mem d30 (off1 3), ne_add (by decide), Kd.fp_it, Kd.fp_mem (ne_add (by decide)) (off2 4), Kd.fp_mem (ne_add (by decide)) (off2 3), Kd.fp_mem d01 (off2 0), Kd.fp_mem d10 (off1 1)⟩, off1 0, off2 1⟩
  refine ⟨_, [s1.heap.objs.size + 4, s1.heap.objs.size + 2, s1.heap.objs.size + 3, s1.heap.objs.size, s1.heap.objs.size + 1], _, _, H1, rfl, I2, turn_zz ap r r', ⟨hz, hTI, ⟨_, _, hTO⟩, it1 _ _ g1, it2 _ _ g2, Nat.zero_le _, Nat.zero_le _⟩, fun c hcm => ?_, q⟩
  have hle : s1.heap.objs.size ≤ c := by
    simp only [List.mem_cons, List.not_mem_nil, or_false] at hcm
    rcases hcm with rfl | rfl | rfl | rfl | rfl
    · exact Nat.le_add_right _ _
    · exact Nat.le_add_right _ _
    · exact Nat.le_add_right _ _
    · exact Nat.le_refl _
    · exact Nat.le_add_right _ _
  exact I1.fpOk hle (I1.hok.fresh hle)
/-- walks of zip -/
theorem walks_zz {K : PySem.W.Frag} {F : Hp} {ps : List Addr} {d e : Kd} {ds es : List Dt} (hd : ∀ H, Ex F H → d.at K H) (he : ∀ H, Ex F H → e.at K H) (xd : DatAll K F d.xs ds) (xe : DatAll K F e.xs es) : Walks K F ps (Itzz K d e) (pairs ds es) := by
  intro i F2 H2 ps2 ω2 x r
  have a1 := hd H2 (x.trans r.ex)
  have a2 := he H2 (x.trans r.ex)
  have lp : (pairs ds es).length = min ds.length es.length := by simp [pairs]
  refine ⟨fun p hp => ?_, fun hi => ⟨a1, a2, by rw [xd.length, xe.length]; omega⟩⟩
  unfold pairs at hp
  rw [List.getElem?_map] at hp
  cases hz : (ds.zip es)[i]? with
  | none => rw [hz] at hp; cases hp
  | some q =>
    rw [hz] at hp
    cases hp
    obtain ⟨h1, h2⟩ := List.getElem?_zip_eq_some.mp hz
    obtain ⟨v, g1, g2⟩ := xd.get h1
    obtain ⟨u, k1, k2⟩ := xe.get h2
    refine ⟨⟨a1, a2, (List.getElem?_eq_some_iff.mp g1).1, (List.getElem?_eq_some_iff.mp k1).1⟩, fun y H3 hy => ?_⟩
    obtain ⟨T, x1, y1, rfl, hT, rfl, e1, e2⟩ := hy
    rw [g1] at e1; cases e1
    rw [k1] at e2; cases e2
    obtain ⟨r1, s1⟩ := r.lay (o := .tup [v, u]) hT
    exact ⟨_, r1, s1, .tup (SqT.of upd_same) (.cons ((g2.mono x).mono s1.ex) (.cons ((k2.mono x).mono s1.ex) .nil))⟩
/-- data as what is zipped -/
theorem Dat.kd {K : PySem.W.Frag} {F : Hp} {v : V} {d : Dt} {ds : List Dt} (h : Dat K F v d) (hi : d.items = some ds) : ∃ k : Kd, v = k.v ∧ (∀ H, Ex F H → k.at K H) ∧ DatAll K F k.xs ds := by
  cases h with
  | lst h1 h2 => cases hi; exact ⟨.l _ _, rfl, fun H e => e.sql (SqL.of h1), h2⟩
  | rol h1 h2 => cases hi; exact ⟨.l _ _, rfl, fun H e => e.sql h1, h2⟩
  | tup h1 h2 => cases hi; exact ⟨.t _ _, rfl, fun H e => e.sqt h1, h2⟩
  | str z =>
    cases hi
    refine ⟨.s z, rfl, fun _ _ => trivial, ?_⟩
    show DatAll K F (z.cps.toList.map fun c => .str ⟨#[c]⟩) (z.cps.toList.map fun c => .str ⟨#[c]⟩)
    generalize z.cps.toList = l
    induction l with
    | nil => exact .nil
    | cons c l ih => exact .cons (.str _) ih
  | _ => cases hi
end Vm
end
section
set_option Elab.async false
set_option linter.all false
set_option maxRecDepth 100000
set_option maxHeartbeats 4000000
/-! own errors made by keywords: the base -/
namespace Vm
open PySem PySem.Spec PyProof.Rows L2 PySem.HandSPX
section
variable {M : Model} {A : Around} {E : Value → Shared → Prop} {hp : Heap}
  {g : Array GenState} {d : Drawn} {t : Nat} {os : OsState}
  {nm q : Str} {C N : Addr} {bs bm bmB : List Value} {hdct : Bool} {sn : List Str} {sub : List Value}
  {ab : Bool} {col : Option Bool} {dd : Option Addr} {k0 k1 k2 k3 k5 : Option Value}
  {B newId initId : String}
theorem check_newK (F : ExcBaseFacts B newId initId bmB)
    (hT : ∀ X : String, bm.contains (.type X) = bmB.contains (.type X))
    {rest : List Value} {f : Str} {u : Value} {Q : Unit → Shared → Prop}
    (oC : hp.get? C = some (excClassObj nm q C N bs bm hdct sn sub ab col dd k0 k1 k2 k3 k5 newId))
    (z : Q () ⟨hp, g, d, t, os⟩) :
    wpAny M A (checkBuiltinCall newId ⟨.ref C :: rest, [(f, u)]⟩) Q E ⟨hp, g, d, t, os⟩ := by
  have isB : (Value.ref C :: bm).contains (.type B) = true := by
    rw [List.contains_cons, hT, F.hasB, Bool.or_true]
  have star := F.noStar
  simp only [checkBuiltinCall, F.newKind, F.newSplit, F.newRow]
  repeat (first
    | refine wpAny_loadPart_at oC ?_
    | (refine wpAny_isSubtype_exc oC ?_; rw [isB])
    | refine wpAny_staticBase_exc oC ?_
    | refine wpAny_madeBy_exc oC ?_
    | simp only [bne_self_eq_false, Bool.false_eq_true, if_false]
    | wp_step)
  exact z
end
section
variable {prog : Program} {w : World} {A : Around} {E : Value → Shared → Prop}
  {R : Result → Shared → Prop} {hp : Heap}
  {g : Array GenState} {d : Drawn} {t : Nat} {os : OsState}
  {nm q : Str} {C N : Addr} {bs bm bmB : List Value} {hdct : Bool} {sn : List Str} {sub : List Value}
  {ab : Bool} {col : Option Bool} {dd : Option Addr} {k0 k1 k2 k3 k5 : Option Value}
  {B newId initId : String} {f : Str} {u : Value}
theorem newK (F : ExcBaseFacts B newId initId bmB)
    (hT : ∀ X : String, bm.contains (.type X) = bmB.contains (.type X))
    (oC : hp.get? C = some (excClassObj nm q C N bs bm hdct sn sub ab col dd k0 k1 k2 k3 k5 newId))
    (z : R (.ok (.ret (.ref (hp.objs.size + 1)))) ⟨(hp.push (PySem.W.kdv_tup [])).push (excO C hp.objs.size), g, d, t, os⟩) :
    codeAny (model prog w) A (.builtin newId ⟨[.ref C], [(f, u)]⟩) R ⟨hp, g, d, t, os⟩ := by
  have en := F.ends
  have b1 : (Value.ref C :: bm).contains (.type B) = true := by
    rw [List.contains_cons, hT, F.hasB, Bool.or_true]
  have b2 : (Value.ref C :: bm).contains (.type "AttributeError") = false := by
    rw [List.contains_cons, hT, F.noAttr]; rfl
  have b3 : (Value.ref C :: bm).contains (.type "NameError") = false := by
    rw [List.contains_cons, hT, F.noName]; rfl
  refine codeAny_builtinAt F.entry ?_
  unfold Builtin.«BaseException.__new__»
  refine PySem.wpAt_bind ?_
  show PySem.wpAt _ _ _ (stack >>= _) _ _ _
  refine PySem.wpAt_bind (PySem.wpAt_stack fun p below => PySem.wpAt_of_wpAny ?_)
  wp_walk
  refine PySem.wpAt_of_wpAny ?_
  rw [F.owner]
  repeat (first
    | with_reducible refine wpAny_madeHere_exc F.canon oC ?_
    | with_reducible refine wpAny_loadPart_at oC ?_
    | (with_reducible refine wpAny_isSubtype_exc oC ?_; first | rw [b1] | rw [b2] | rw [b3])
    | wp_step)
  show R _ _
  rw [Heap.size_push]
  exact z
theorem checkTK {M : Model} {Q : Unit → Shared → Prop}
    (oC : hp.get? C = some (excClassObj nm q C N bs bm hdct sn sub ab col dd k0 k1 k2 k3 k5 newId))
    (z : Q () ⟨hp, g, d, t, os⟩) :
    wpAny M A (checkBuiltinCall "type.__call__" ⟨[.ref C], [(f, u)]⟩) Q E ⟨hp, g, d, t, os⟩ := by
  have f3 := tc_sub
  have ty : (⟨hp, g, d, t, os⟩ : Shared).TypeIs (.ref C) "type" := ⟨_, oC, rfl⟩
  simp only [checkBuiltinCall, tc_kind, tc_split]
  repeat (any_goals (first
    | assumption
    | with_reducible refine wpAny_loadPart_at oC ?_
    | with_reducible refine wpAny_onRaise ?_
    | with_reducible refine wpAny_map ?_
    | wp_step))
theorem typeCallK (F : ExcBaseFacts B newId initId bmB)
    (hT : ∀ X : String, bm.contains (.type X) = bmB.contains (.type X)) {fI : Addr} {Q : Fin → Shared → Prop}
    (oC : hp.get? C = some (excClassObj nm q C N bs bm hdct sn sub ab col dd k0 k1 k2 k3 k5 newId))
    (hi : W.Looks (model prog w) hp (typeLookup (.ref C) "__init__") (some (.ref fI)))
    (hb : ∀ self, W.Looks (model prog w) hp (bindSpecial (.ref fI) self) (.ref fI, [self]))
    (z : codeAny (model prog w) A (.call (.ref fI) ⟨[.ref (hp.objs.size + 1)], [(f, u)]⟩)
      (fun r s' => match r with
        | .ok (.ret v) => v = .none ∧ Q (.done (.ret (.ref (hp.objs.size + 1)))) s'
        | .ok _ => False
        | .error e => E e s')
      ⟨(hp.push (PySem.W.kdv_tup [])).push (excO C hp.objs.size), g, d, t, os⟩) :
    wpAny (model prog w) A (Builtin.«type.__call__» ⟨[.ref C], [(f, u)]⟩) Q E ⟨hp, g, d, t, os⟩ := by
  repeat (first
    | with_reducible refine wpAny_loadPart_at oC ?_
    | with_reducible refine wpAny_madeBy_exc oC ?_
    | wp_step)
  refine codeAny_call_builtin_code (Code.quiet_builtin _ F.quiet) (check_newK F hT oC ?_)
  refine newK F hT oC ?_
  show wpAny _ _ _ _ _ _
  have kp : ∀ b o, hp.get? b = some o → ((hp.push (PySem.W.kdv_tup [])).push (excO C hp.objs.size)).get? b = some o :=
    fun b o e => Heap.get?_push_of_some _ (Heap.get?_push_of_some _ e)
  have oC2 := kp _ _ oC
  have oN : ((hp.push (PySem.W.kdv_tup [])).push (excO C hp.objs.size)).get? (hp.objs.size + 1) = some (excO C hp.objs.size) := by
    heap_get
  have cc : (Value.ref C :: bm).contains (.ref C) = true := by simp
  have i1 := hi.keeps kp
  have i2 := (hb (.ref (hp.objs.size + 1))).keeps kp
  unfold isInstance
  repeat (first
    | with_reducible refine wpAny_loadPart_at oN ?_
    | (with_reducible refine wpAny_isSubtype_exc oC2 ?_; rw [cc])
    | wp_step)
  show wpAny _ _ (typeLookup (.ref C) _) _ _ _
  refine i1.at ?_
  refine wpAny_holding (wpAny_bind (i2.at ?_))
  refine wpAny_bind (wpAny_call (codeAny_mono z fun r s' y => ?_))
  rcases r with e | (v | _ | _ | _) <;> first | exact y | exact y.elim | skip
  obtain ⟨rfl, y⟩ := y
  first
    | exact wpAny_pure (wpAny_pure y)
    | (wp_walk; exact y)
theorem callK (F : ExcBaseFacts B newId initId bmB)
    (hT : ∀ X : String, bm.contains (.type X) = bmB.contains (.type X)) {fI : Addr}
    (oC : hp.get? C = some (excClassObj nm q C N bs bm hdct sn sub ab col dd k0 k1 k2 k3 k5 newId))
    (hi : W.Looks (model prog w) hp (typeLookup (.ref C) "__init__") (some (.ref fI)))
    (hb : ∀ self, W.Looks (model prog w) hp (bindSpecial (.ref fI) self) (.ref fI, [self]))
    (z : codeAny (model prog w) (A.under (.builtin "type.__call__" ⟨[.ref C], [(f, u)]⟩))
      (.call (.ref fI) ⟨[.ref (hp.objs.size + 1)], [(f, u)]⟩) (W.InitBack (hp.objs.size + 1) R)
      ⟨(hp.push (PySem.W.kdv_tup [])).push (excO C hp.objs.size), g, d, t, os⟩) :
    codeAny (model prog w) A (.call (.ref C) ⟨[], [(f, u)]⟩) R ⟨hp, g, d, t, os⟩ := by
  have f1 := tc_lookup
  have f2 := tc_bind (.ref C)
  have ty : (⟨hp, g, d, t, os⟩ : Shared).TypeIs (.ref C) "type" := ⟨_, oC, rfl⟩
  refine codeAny_of_tree ?_
  show wpAny _ _ (callAny (.ref C) _) _ _ _
  repeat (any_goals (first
    | assumption
    | with_reducible refine wpAny_loadPart_at oC ?_
    | wp_step))
  refine ⟨rfl, ?_⟩
  refine codeAny_call_builtin_at (Code.quiet_builtin _ (by decide +kernel)) entry_typeCall
    (checkTK oC (typeCallK F hT oC hi hb ?_))
  refine codeAny_mono z fun r s' y => ?_
  rcases r with e | (v | _ | _ | _) <;> exact y
end
end Vm
end
section
set_option Elab.async false
set_option linter.all false
set_option maxRecDepth 100000
set_option maxHeartbeats 4000000
/-! own errors: made, held as values, raised -/
namespace Vm
open PySem PySem.Spec PyProof.Rows L2

/-- self.f = f, at any place -/
def initBody (f : Str) (p1 p2 p3 p4 : Pos) : List Stmt :=
  [.Assign [.Attribute (.Name "self" p1) f p2] (.Name f p3) p4]
/-- a class of errors with this __init__ alone -/
structure Ecl (K : PySem.W.Frag) (C fI : Addr) (f : Str) : Prop where
  T : OexC K C
  X : XfC K C
  S : ExcC K C
  iC : PySem.W.findIn K (.ref C) "__init__" = some (some (.ref fI))
  tI : PySem.W.typeIn K (.ref fI) = some (.type "function")
  no : PySem.W.findIn K (.ref C) f = some none
  pl : (f == ("__debug__" : Str)) = false ∧ (f == ("__classdict__" : Str)) = false
  fn : ∃ (qual : Str) (params : Arguments) (scope : Scope) (p1 p2 p3 p4 : Pos) (fd : FuncData),
    FunD K "__init__" qual params (initBody f p1 p2 p3 p4) scope [] [] fI fd ∧ FnScope ["self", f] ["self", f] scope ∧
    ∀ (kV doc pm : Value) (an : Option Addr) (cdv ct u v : Value),
      bindArgs (PySem.W.fnOf "__init__" qual params (initBody f p1 p2 p3 p4) scope .none kV doc pm an cdv ct) ⟨[u, v], []⟩ = pure [(("self" : Str), u), (f, v)] ∧
      bindArgs (PySem.W.fnOf "__init__" qual params (initBody f p1 p2 p3 p4) scope .none kV doc pm an cdv ct) ⟨[u], [(f, v)]⟩ = pure [(("self" : Str), u), (f, v)]

section
variable {P : Program} {w : World} {K : PySem.W.Frag} {mg : Str → Option Value} {base : Heap} {C fI : Addr} {f : Str}
/-- what is laid: the error at a with its dict at dx -/
def errH (H : Hp) (a C dx : Addr) (f : Str) (y : V) : Hp := upd (upd H dx (exd dx [(f, y)])) a (exo a C (some dx))
theorem init_run (T : Ecl K C fI f) {A : Around} {outer : List Env} {s : Shared} {H : Hp} {ar : Args} {u v : Value} {a : Addr} {y : V} {Q : VK} {E : XK}
    (har : ar = ⟨[u, v], []⟩ ∨ ar = ⟨[u], [(f, v)]⟩) (hr : Room 1 A) (e0 : Env0 P w K mg base A outer s H) (hu : u = .ref a) (ry : RelV y v)
    (ea : H a = some (exo a C none)) (q : ∀ dx, H dx = none → dx ≠ a → Q .non (errH H a C dx f y)) :
    codeAny (model P w) A (.call (.ref fI) ar) (CR (L2.CX P w) outer P w H s Q E) s := by
  obtain ⟨qual, params, scope, p1, p2, p3, p4, fd, F, S, hb⟩ := T.fn
  obtain ⟨oc, od, dV, kV, doc, pm, an, cdv, ct, osl, rfl, lk, hcd, hD, hK⟩ := F.ex
  rcases hD with ⟨_, eD⟩ | ⟨z, _⟩
  · subst eD
    have b : BindsTo s (PySem.W.fnOf "__init__" qual params (initBody f p1 p2 p3 p4) scope .none kV doc pm an cdv ct) ar ([("self" : Str), f].zip [u, v]) := by
      refine BindsTo.of_looks fun M => ?_
      rcases har with e | e
      · subst e
        rw [(hb kV doc pm an cdv ct u v).1]
        exact PySem.W.Looks.of_pure rfl
      · subst e
        rw [(hb kV doc pm an cdv ct u v).2]
        exact PySem.W.Looks.of_pure rfl
    refine LamX.run_ofS (N := ["self", f]) (ps := ["self", f]) (us := [u, v]) (vs := [.ref a, y]) lk hcd S hr e0 b (.cons hu (.cons ry .nil)) rfl fun hr2 => ?_
    have v0 : Vis scope "self" := by
      rcases S.par "self" (by simp) with z | z
      · exact .inl z
      · exact .inr (.inl z)
    have v1 : Vis scope f := by
      rcases S.par f (by simp) with z | z
      · exact .inl z
      · exact .inr (.inl z)
    refine ⟨_, pss_one (ps_ost (pe_var (i := 0) rfl v0) (pe_var (i := 1) rfl v1 T.pl.1 T.pl.2)), ?_⟩
    refine ⟨y, rfl, .ref a, rfl, a, C, rfl, T.T, T.no, .inl ⟨ea, fun dx h1 h2 => q dx h1 h2⟩⟩
  · exact absurd rfl z
end
section
variable {X : Cx} {C fI : Addr} {f x : Str} {e : Expr} {ta : TA} {p pos : Pos}
/-- C(y), or C(f=y): a new error -/
def rMkE (C : Addr) (f : Str) : List V → Hp → VK → Prop := fun vs H Q => ∃ y, vs = [y] ∧ ∀ a dx, H a = none → H dx = none → dx ≠ a → Q (.ref a) (errH H a C dx f y)
theorem errH_of {H : Hp} {a dx : Addr} {y : V} (na : H a = none) (hd : upd H a (exo a C none) dx = none) (ne : dx ≠ a) :
    H dx = none ∧ errH (upd H a (exo a C none)) a C dx f y = errH H a C dx f y := by
  rw [upd_ne ne] at hd
  refine ⟨hd, ?_⟩
  funext b
  unfold errH
  by_cases hb : b = a
  · subst hb; rw [upd_same, upd_same]
  · rw [upd_ne hb, upd_ne hb]
    by_cases h2 : b = dx
    · subst h2; rw [upd_same, upd_same]
    · rw [upd_ne h2, upd_ne h2, upd_ne hb]
theorem no_way {P : Program} {w : World} {outer : List Env} {H : Hp} {s s' : Shared} {u : Value} (h : L2.CX P w outer H s (fun _ _ _ => False) u s') : False := by
  obtain ⟨_, _, _, _, _, _, _, _, _, _, _, _, z⟩ := h
  exact z.elim
theorem pe_cls1 {rr : List V → Hp → VK → Prop} (kC : PySem.W.keepIn X.K (.ref C) = true) (hg : Gl X x) (hm : X.mg x = some (.ref C)) (ha : PA X [e] ta)
    (hdb : (x == ("__debug__" : Str)) = false) (he : starEach [e] X.env = (false, eval e X.env) :: starEach [] X.env)
    (core : ∀ (pins : List (Addr × Obj)) (σ : L2.St) (s1 : Shared) (H1 : Hp) (vs : List V) (us : List Value) (Q : VK), Inv X pins σ H1 s1 → Vals vs us → rr vs H1 Q →
      wpAny (model X.prog X.w) X.A (call (.ref C) us) (EP X pins σ Q) X.xe s1) :
    PE X (.Call (.Name x p) [e] [] pos) (tCB rr ta) := by
  refine ⟨fun pins s σ H Q I h => ?_⟩
  refine wpAny_Call_Name_kw (ld_glob I hg hm ?_ hdb)
  exact PySem.W.callWith_K (h₀ := X.base) I.ok.mod.kin kC (thn (ha.run pos pins s σ H _ I h) fun us s1 ⟨vs, H1, I1, r1, q1⟩ => ⟨I1.kIn, core pins σ s1 H1 vs us Q I1 r1 q1⟩) he rfl
theorem run_mkE (T : Ecl X.K C fI f) (hr : Room 2 X.A) {pins : List (Addr × Obj)} {σ : L2.St} {H1 : Hp} {s1 : Shared} {v : Value} {y : V} {Q : VK}
    (I1 : Inv X pins σ H1 s1) (ry : RelV y v) (q1 : ∀ a dx, H1 a = none → H1 dx = none → dx ≠ a → Q (.ref a) (errH H1 a C dx f y)) :
    wpAny (model X.prog X.w) X.A (call (.ref C) [v]) (EP X pins σ Q) X.xe s1 := by
  obtain ⟨nm, q, N, bs, bm, sn, sub, ab, col, dd, k0, k1, k2, k3, k5, hC, hbm⟩ := T.T.cls
  obtain ⟨hp, g, dr, tk, os⟩ := s1
  have hn : H1 (hp.objs.size + 1) = none := I1.hok.fresh (Nat.le_succ _)
  have kk : ∀ b o, hp.get? b = some o → ((hp.push (PySem.W.kdv_tup [v])).push (PySem.HandSPX.excO C hp.objs.size)).get? b = some o :=
    fun b o e => Heap.get?_push_of_some _ (Heap.get?_push_of_some _ e)
  have hget : ((hp.push (PySem.W.kdv_tup [v])).push (PySem.HandSPX.excO C hp.objs.size)).get? (hp.objs.size + 1) = some (PySem.HandSPX.excO C hp.objs.size) := by heap_get
  have I2 := I1.laid (t' := tk) (a := hp.objs.size + 1) (o := exo (hp.objs.size + 1) C none)
    (h' := (hp.push (PySem.W.kdv_tup [v])).push (PySem.HandSPX.excO C hp.objs.size)) kk (Nat.le_succ _) (exo_ok hget)
  refine wpAny_call (PySem.HandSPX.call_own F.excBase_ValueError (fun Y => PySem.HandSPX.refsVE_contains Y bm hbm) (I1.kIn _ _ hC) (PySem.W.looks_findIn I1.kIn T.iC)
    (fun self => PySem.W.bind_fn I1.kIn self T.tI) (by show 1 ≤ sizeLine; rw [sizeLine_eq]; omega)
    (codeAny_mono (init_run (E := fun _ _ _ => False) (Q := fun v H2 => v = .non ∧ Q (.ref (hp.objs.size + 1)) H2) T (.inl rfl) (hr.make C [v] []) (I2.env0.make C [v] []) rfl ry upd_same ?_) fun r s' hq' => ?_))
  · intro dx hd ne
    obtain ⟨h1, h2⟩ := errH_of (f := f) (y := y) hn hd ne
    rw [h2]
    exact ⟨rfl, q1 _ dx hn h1 ne⟩
  · match r, hq' with
    | .error er, hq' => exact (no_way hq').elim
    | .ok (.ret u), hq' =>
      obtain ⟨z, G3, J3, rv, ev, q3⟩ := I2.after hq'
      cases ev
      exact ⟨rv, V.ref (hp.objs.size + 1), G3, J3, rfl, q3⟩
    | .ok .next, hq' => exact (show False from hq').elim
    | .ok .brk, hq' => exact (show False from hq').elim
    | .ok .cont, hq' => exact (show False from hq').elim
theorem pe_mkE (T : Ecl X.K C fI f) (hr : Room 2 X.A) (hg : Gl X x) (hm : X.mg x = some (.ref C)) (ha : PA X [e] ta)
    (hdb : (x == ("__debug__" : Str)) = false) (he : starEach [e] X.env = (false, eval e X.env) :: starEach [] X.env) :
    PE X (.Call (.Name x p) [e] [] pos) (tCB (rMkE C f) ta) :=
  pe_cls1 T.T.kC hg hm ha hdb he fun pins σ s1 H1 vs us Q I1 r1 q1 => by
    obtain ⟨y, rfl, q1⟩ := q1
    cases r1 with | @cons _ v _ _ ry rn =>
    cases rn
    exact run_mkE T hr I1 ry q1
theorem run_mkK (T : Ecl X.K C fI f) (hr : Room 2 X.A) {pins : List (Addr × Obj)} {σ : L2.St} {H1 : Hp} {s1 : Shared} {v : Value} {y : V} {Q : VK}
    (I1 : Inv X pins σ H1 s1) (ry : RelV y v) (q1 : ∀ a dx, H1 a = none → H1 dx = none → dx ≠ a → Q (.ref a) (errH H1 a C dx f y)) :
    wpAny (model X.prog X.w) X.A (call (.ref C) [] [(f, v)]) (EP X pins σ Q) X.xe s1 := by
  obtain ⟨nm, q, N, bs, bm, sn, sub, ab, col, dd, k0, k1, k2, k3, k5, hC, hbm⟩ := T.T.cls
  obtain ⟨hp, g, dr, tk, os⟩ := s1
  have hn : H1 (hp.objs.size + 1) = none := I1.hok.fresh (Nat.le_succ _)
  have kk : ∀ b o, hp.get? b = some o → ((hp.push (PySem.W.kdv_tup [])).push (PySem.HandSPX.excO C hp.objs.size)).get? b = some o :=
    fun b o e => Heap.get?_push_of_some _ (Heap.get?_push_of_some _ e)
  have hget : ((hp.push (PySem.W.kdv_tup [])).push (PySem.HandSPX.excO C hp.objs.size)).get? (hp.objs.size + 1) = some (PySem.HandSPX.excO C hp.objs.size) := by heap_get
  have I2 := I1.laid (t' := tk) (a := hp.objs.size + 1) (o := exo (hp.objs.size + 1) C none)
    (h' := (hp.push (PySem.W.kdv_tup [])).push (PySem.HandSPX.excO C hp.objs.size)) kk (Nat.le_succ _) (exo_ok hget)
  refine wpAny_call (callK F.excBase_ValueError (fun Y => PySem.HandSPX.refsVE_contains Y bm hbm) (I1.kIn _ _ hC) (PySem.W.looks_findIn I1.kIn T.iC)
    (fun self => PySem.W.bind_fn I1.kIn self T.tI)
    (codeAny_mono (init_run (E := fun _ _ _ => False) (Q := fun v H2 => v = .non ∧ Q (.ref (hp.objs.size + 1)) H2) T (.inr rfl) (hr.make C [] [(f, v)]) (I2.env0.make C [] [(f, v)]) rfl ry upd_same ?_) fun r s' hq' => ?_))
  · intro dx hd ne
    obtain ⟨h1, h2⟩ := errH_of (f := f) (y := y) hn hd ne
    rw [h2]
    exact ⟨rfl, q1 _ dx hn h1 ne⟩
  · match r, hq' with
    | .error er, hq' => exact (no_way hq').elim
    | .ok (.ret u), hq' =>
      obtain ⟨z, G3, J3, rv, ev, q3⟩ := I2.after hq'
      cases ev
      exact ⟨rv, V.ref (hp.objs.size + 1), G3, J3, rfl, q3⟩
    | .ok .next, hq' => exact (show False from hq').elim
    | .ok .brk, hq' => exact (show False from hq').elim
    | .ok .cont, hq' => exact (show False from hq').elim
theorem pe_clsK {rr : List V → Hp → VK → Prop} {te : TE} {kp : Pos} (kC : PySem.W.keepIn X.K (.ref C) = true) (hg : Gl X x) (hm : X.mg x = some (.ref C)) (ha : PE X e te)
    (hdb : (x == ("__debug__" : Str)) = false)
    (core : ∀ (pins : List (Addr × Obj)) (σ : L2.St) (s1 : Shared) (H1 : Hp) (vs : List V) (us : List Value) (Q : VK), Inv X pins σ H1 s1 → Vals vs us → rr vs H1 Q →
      wpAny (model X.prog X.w) X.A (call (.ref C) [] ([f].zip us)) (EP X pins σ Q) X.xe s1) :
    PE X (.Call (.Name x p) [] [⟨some f, e, kp⟩] pos) (tCB rr (tCons te tNil)) := by
  refine ⟨fun pins s σ H Q I h => ?_⟩
  refine wpAny_Call_Name_kw (ld_glob I hg hm ?_ hdb)
  refine PySem.W.callWith_KW0 (h₀ := X.base) I.ok.mod.kin kC rfl ?_ rfl
  exact thn ((pk_cons (nm := some f) (kpos := kp) ha pk_nil).run pos pins s σ H _ I h) fun us s1 ⟨vs, H1, I1, r1, q1⟩ => ⟨I1.kIn, core pins σ s1 H1 vs us Q I1 r1 q1⟩
theorem pe_mkK {te : TE} {kp : Pos} (T : Ecl X.K C fI f) (hr : Room 2 X.A) (hg : Gl X x) (hm : X.mg x = some (.ref C)) (ha : PE X e te)
    (hdb : (x == ("__debug__" : Str)) = false) :
    PE X (.Call (.Name x p) [] [⟨some f, e, kp⟩] pos) (tCB (rMkE C f) (tCons te tNil)) :=
  pe_clsK T.T.kC hg hm ha hdb fun pins σ s1 H1 vs us Q I1 r1 q1 => by
    obtain ⟨y, rfl, q1⟩ := q1
    cases r1 with | @cons _ v _ _ ry rn =>
    cases rn
    exact run_mkK T hr I1 ry q1
end

/-! ### an error without a field -/
section
variable {X : Cx} {C : Addr} {x : Str} {p pos : Pos}
def rMk0 (C : Addr) : Hp → VK → Prop := fun H Q => ∀ a, H a = none → Q (.ref a) (upd H a (exo a C none))
theorem pe_mk0 (q : PySem.W.excIn X.K C He.veBase "ValueError.__new__" = true) (kC : PySem.W.keepIn X.K (.ref C) = true) (hg : Gl X x) (hm : X.mg x = some (.ref C))
    (hdb : (x == ("__debug__" : Str)) = false) : PE X (.Call (.Name x p) [] [] pos) (tCB (fun _ H Q => rMk0 C H Q) tNil) := by
  refine ⟨fun pins s σ H Q I h => ?_⟩
  refine wpAny_Call_Name_kw (ld_glob I hg hm (PySem.W.callWith_K0 I.kIn kC ?_) hdb)
  obtain ⟨bm, N, nm, qn, bs, hdct, sn, sub, ab, col, dd, k0, k1, k2, k3, k5, mN, hC, hN, hni, T⟩ := exc_obj I.kIn q
  refine wpAny_call_exc_subT F.excBase_ValueError T hC hN hni (fun h' a hm => ?_) (by show 0 ≤ sizeLine; rw [sizeLine_eq]; omega)
  have hn : H a = none := I.hok.gone hm.new
  obtain ⟨t, ht, _, _⟩ := hm.there
  exact ⟨.ref a, _, I.laidN hm.keeps hm.new hn (exo_ok ht), rfl, h a hn⟩
end

/-! ### a field, isinstance -/
section
variable {X : Cx} {te : TE} {e : Expr} {f : Str} {pos : Pos}
/-- y.f, y an error with this field -/
def rFldE (K : PySem.W.Frag) (f : Str) : List V → Hp → VK → Prop := fun xs H Q => ∃ a C dx y, xs = [.ref a] ∧ H a = some (exo a C (some dx)) ∧ H dx = some (exd dx [(f, y)]) ∧
  XfC K C ∧ PySem.W.findIn K (.ref C) f = some none ∧ Q y H
theorem pe_fldE (he : PE X e te) (hb : attributeBase e f X.env (eval e X.env) = eval e X.env) :
    PE X (.Attribute e f pos) (tCB (rFldE X.K f) (tCons te tNil)) := by
  refine ⟨fun pins s σ H Q I h => ?_⟩
  refine attr_of hb (thn (he.run pins s σ H _ I h) fun u s1 hh => ?_)
  obtain ⟨x, H1, I1, rx, a, C, dx, y, ex, ea, ed, T, hno, q⟩ := hh
  cases ex
  obtain rfl : u = Value.ref a := rx
  obtain ⟨t0, ho⟩ := exo_at I1.hok ea
  obtain ⟨mA, hns, hr⟩ := exd_at I1.hok ed
  obtain ⟨od, hd, hl⟩ := lookIn_ns hns
  have hf := hr f
  obtain ⟨u, hu, ru⟩ := RelO.some_of (v := y) (o := mA f) (by simpa [List.lookup] using hf)
  have J : PySem.W.InstAt s1.heap a { cls := .ref C, dict := some dx, data := .fields #[.ref t0, .none, .none, .none, .bool false, .none] } C (some od) :=
    ⟨ho, rfl, rfl, hd⟩
  exact HandSPX.exc_get I1.kIn J T.ga T.gg T.exC (PySem.W.findObj_own T.hdC hno rfl (by rw [hl, hu])) (handed_of ru) ⟨y, H1, I1.tok _, ru, q⟩
end
end Vm
end
section
set_option Elab.async false
set_option linter.all false
set_option maxRecDepth 100000
set_option maxHeartbeats 4000000
/-! isinstance of an error that is held as a value; errors raised -/
namespace Vm
open PySem PySem.W PySem.Spec PySem.Calls PyProof.Rows
section
variable {prog : Program} {w : World} {A : Around} {E : Value → Shared → Prop} {s : Shared} {K : Frag} {x D : Addr} {ox : Obj} {od : Option Obj}
theorem findObj_any {C : Addr} {name : Str} {a g : Value} (hc : (clsIn K C).isSome = true)
    (ha : findIn K (.ref C) name = some (some a)) (hg : specialIn K a "__get__" = some (some g))
    (ht : takesIn K a = some true) : findObj K C od name = some (.bind g a) := by
  obtain ⟨cd, hc⟩ := Option.isSome_iff_exists.mp hc
  unfold findObj
  rw [hc, Option.bind_some, ha, Option.bind_some]
  simp [hg, ht]
theorem class_any {Q : Option Value → Shared → Prop} (T : L2.ExcC K D) (X : K.In s.heap)
    (J : InstAt s.heap x ox D od) (h : Q (some (.ref D)) { s with toks := s.toks + 1 }) :
    wpAny (model prog w) A (getAttr? (.ref x) "__class__") Q E s := by
  have hf : findObj K D od "__class__" = some (.bind (.builtin "getset_descriptor.__get__") (.builtin "object.__class__")) :=
    findObj_any (by obtain ⟨cd, hc, _⟩ := any_some T.hd; rw [hc]; rfl) T.ha T.hn T.ht
  obtain ⟨hp, g, d, t, os⟩ := s
  have q0 := J.type (M := model prog w)
  have q1 := looks_findIn (M := model prog w) X T.hg
  have q2 := looks_findIn (M := model prog w) X T.hk
  have q3 := looks_find (M := model prog w) X J hf
  have su : Looks (model prog w) hp (isInstance (.ref x) (.type "BaseException")) true :=
    q0.andThen (looks_subIn X T.hs)
  have c0 : (false && onTheHeap (Value.builtin "BaseException.__getattribute__")) = false := rfl
  have c2 : (Value.builtin "BaseException.__getattribute__" == Value.builtin "object.__getattribute__") = false := by
    decide +kernel
  have c1 : (onTheHeap (Value.ref D) && Value.builtin "BaseException.__getattribute__" == Value.builtin "object.__getattribute__") = false := by
    rw [c2]; rfl
  unfold getAttr? getAttrBy? getAttrBy
  refine wpAny_bind (wpAny_mkText (wpAny_bind (wpAny_attempt (wpAny_holding
    (wpAny_bind (q0.at (wpAny_bind (q1.at ?_))))))))
  show wpAny _ _ (if (onTheHeap (Value.ref D) && Value.builtin "BaseException.__getattribute__" == Value.builtin "object.__getattribute__") = true
    then _ else _) _ _ _
  rw [c1, if_neg Bool.false_ne_true]
  unfold getAttrByItsOwn hookBefore
  refine wpAny_bind ?_
  rw [if_pos (show onTheHeap (Value.ref D) = true from rfl)]
  refine q2.at ?_
  refine wpAny_bind (wpAny_attempt (wpAny_holding ?_))
  unfold callGetattribute
  rw [c0, if_neg Bool.false_ne_true]
  unfold boundAndCalled
  rw [PySem.F.excAttr_ValueError.ga.bind (.ref x)]
  refine wpAny_bind (wpAny_pure ?_)
  show wpAny _ _ (call (.builtin "BaseException.__getattribute__")
    [.ref x, .str "__class__" t]) _ _ _
  refine wpAny_call (codeAny_call_builtin PySem.F.excAttr_ValueError.ga.plain PySem.F.entry_bexc_ga ?_)
  refine @check_slot (model prog w) _ _ ⟨hp, g, d, t + 1, os⟩ "BaseException.__getattribute__" "BaseException" "__getattribute__"
    (.ref x) [.str "__class__" t] [] _ (by decide +kernel) (by decide +kernel) su (PySem.F.args_bexc_ga (.ref x) (.str "__class__" t)) ?_
  unfold Builtin.«object.__getattribute__»
  refine wpAny_bind (wpAny_of_eq (a := ((Value.ref x : Value), [Value.str "__class__" t]))
    (by first | rfl | (simp only [slotArgs]; rfl)) ?_)
  refine wpAny_bind (wpAny_pure (wpAny_bind
    (q0.at (wpAny_bind (q3.at ?_)))))
  show wpAny _ _ (holding [Value.builtin "object.__class__"]
    (call (.builtin "getset_descriptor.__get__") [.builtin "object.__class__", .ref x, .ref D]) >>= ret) _ _ _
  refine wpAny_bind (wpAny_holding (wpAny_call (class_get (s := ⟨hp, g, d, t + 1, os⟩)
    (ox := ox) (od := od) X J T.hm ?_)))
  refine wpAny_pure ?_
  show wpAny _ _ (handedOut (.ref D)) _ _ _
  rw [handedOut_of (v := .ref D) rfl]
  first
    | exact wpAny_pure (wpAny_pure h)
    | exact wpAny_pure h
    | exact wpAny_pure (wpAny_bind (wpAny_pure (wpAny_pure h)))
theorem kit_err (T : L2.ExcC K D) : KitX K (.ref x) (.ref D) (fun h => ∃ ox od, InstAt h x ox D od) where
  ty := fun _ _ _ ⟨_, _, J⟩ => J.type
  it := fun _ _ X _ => by
    obtain ⟨cdD, hcD, _⟩ := any_some T.hd
    unfold clsIn at hcD
    split at hcD
    · rename_i c1 d1 cd1 sl1 ho
      intro A' Q' E' s' k q
      unfold isType loadHead
      exact wpAny_bind (wpAny_loadPart (k _ _ (X _ _ ho)) (wpAny_pure q))
    · cases hcD
  ne := fun h tp dd its n sl X htp => by
    obtain ⟨cdD, hcD, _⟩ := any_some T.hd
    refine Bool.eq_false_iff.mpr fun q => ?_
    have e : D = tp := Value.ref.inj (beq_iff_eq.mp q)
    subst e
    unfold clsIn at hcD
    split at hcD
    · rename_i c1 d1 cd1 sl1 ho
      have z := (X _ _ ho).symm.trans htp
      cases z
    · cases hcD
  ca := fun X ⟨_, _, J⟩ k => class_any T X J k
end
end Vm
namespace Vm
open PySem PySem.Spec PyProof.Rows L2
/-- at a: an error of the class C -/
def IsErr (H : Hp) (a C : Addr) : Prop := H a = some (exo a C none) ∨ ∃ dx f y, H a = some (exo a C (some dx)) ∧ H dx = some (exd dx [(f, y)])
/-- isinstance(x, c), x an error -/
def rIsE2 (K : PySem.W.Frag) : List V → Hp → VK → Prop := fun xs H Q => ∃ (a C : Addr) (c : V) (cv : Value) (b : Bool), xs = [.ref a, c] ∧ IsErr H a C ∧ ExcC K C ∧
  ClsV c cv ∧ PySem.W.kitOne K (.ref C) cv = some b ∧ Q (.bl b) H
theorem call_isE2 {X : Cx} : CallR X (.builtin "isinstance") (rIsE2 X.K) := by
  intro pins s σ H xs us Q I r h
  obtain ⟨a, C, c, cv, b, rfl, he, T, k, e, q⟩ := h
  cases r with | cons rx rr =>
  cases rr with | cons rt rr =>
  cases rr
  cases rx
  have ec := k.eq rt
  subst ec
  have J : ∃ ox od, PySem.W.InstAt s.heap a ox C od := by
    rcases he with ea | ⟨dx, f, y, ea, ed⟩
    · obtain ⟨t0, ho⟩ := exo_at I.hok ea
      exact ⟨_, none, ho, rfl, rfl, trivial⟩
    · obtain ⟨t0, ho⟩ := exo_at I.hok ea
      obtain ⟨mA, hns, _⟩ := exd_at I.hok ed
      obtain ⟨od, hd, _⟩ := lookIn_ns hns
      exact ⟨_, some od, ho, rfl, rfl, hd⟩
  exact PySem.W.kia_one (kit_err T) I.kIn J e (fun z => nomatch z) fun tk => ⟨.bl b, H, I.kept (t' := tk) fun _ _ z => z, rfl, q⟩
/-! ### raise C(y), raise C() -/
section
variable {X : Cx} {C fI : Addr} {f x : Str} {e : Expr} {ta : TA} {p pos : Pos}
def tRsE (C : Addr) (f : Str) (ta : TA) : L2.St → Hp → XK → Prop := fun σ H Q => ta σ H fun vs H1 => ∃ y, vs = [y] ∧ ∀ d, H1 d = none → Q (.ref C) (some d) (upd H1 d (.xd [(f, y)]))
theorem pmk_E (T : Ecl X.K C fI f) (hr : Room 2 X.A) (hg : Gl X x) (hm : X.mg x = some (.ref C)) (ha : PA X [e] ta)
    (hdb : (x == ("__debug__" : Str)) = false) (he : starEach [e] X.env = (false, eval e X.env) :: starEach [] X.env) :
    PMk X (.Call (.Name x p) [e] [] pos) (tRsE C f ta) := by
  intro pins s σ H Q I h
  obtain ⟨nm, q, N, bs, bm, sn, sub, ab, col, dd, k0, k1, k2, k3, k5, hC, hbm⟩ := T.T.cls
  refine wpAny_Call_Name_kw (ld_glob I hg hm ?_ hdb)
  refine PySem.W.callWith_K (h₀ := X.base) I.ok.mod.kin T.T.kC (thn (ha.run pos pins s σ H _ I h) fun us s1 ⟨vs, H1, I1, r1, q1⟩ => ⟨I1.kIn, ?_⟩) he rfl
  obtain ⟨y, rfl, q1⟩ := q1
  cases r1 with | @cons _ v _ _ ry rn =>
  cases rn
  show wpAny _ _ (call (.ref C) [v]) _ _ _
  obtain ⟨hp, g, dr, tk, os⟩ := s1
  have hsz : hp.objs.size ≤ hp.objs.size + 1 := Nat.le_succ _
  have hn : H1 (hp.objs.size + 1) = none := I1.hok.fresh hsz
  have kk : ∀ b o, hp.get? b = some o → ((hp.push (PySem.W.kdv_tup [v])).push (PySem.HandSPX.excO C hp.objs.size)).get? b = some o :=
    fun b o e => Heap.get?_push_of_some _ (Heap.get?_push_of_some _ e)
  have hget : ((hp.push (PySem.W.kdv_tup [v])).push (PySem.HandSPX.excO C hp.objs.size)).get? (hp.objs.size + 1) = some (PySem.HandSPX.excO C hp.objs.size) := by heap_get
  have I2 := I1.laid (t' := tk) (a := hp.objs.size + 1) (o := exo (hp.objs.size + 1) C none)
    (h' := (hp.push (PySem.W.kdv_tup [v])).push (PySem.HandSPX.excO C hp.objs.size)) kk hsz (exo_ok hget)
  refine wpAny_call (PySem.HandSPX.call_own F.excBase_ValueError (fun Y => PySem.HandSPX.refsVE_contains Y bm hbm) (I1.kIn _ _ hC) (PySem.W.looks_findIn I1.kIn T.iC)
    (fun self => PySem.W.bind_fn I1.kIn self T.tI) (by show 1 ≤ sizeLine; rw [sizeLine_eq]; omega)
    (codeAny_mono (init_run (E := fun _ _ _ => False) (Q := fun v H2 => v = .non ∧ ∃ dx, H1 dx = none ∧ dx ≠ hp.objs.size + 1 ∧ H2 = errH H1 (hp.objs.size + 1) C dx f y) T (.inl rfl) (hr.make C [v] []) (I2.env0.make C [v] []) rfl ry upd_same ?_) fun r s' hq' => ?_))
  · intro dx hd ne
    obtain ⟨h1, h2⟩ := errH_of (f := f) (y := y) hn hd ne
    exact ⟨rfl, dx, h1, ne, h2⟩
  · match r, hq' with
    | .error er, hq' => exact (no_way hq').elim
    | .ok (.ret u), hq' =>
      obtain ⟨z, H2, os2, bare2, un2, hok2, rv, ev, dx, hd1, ne, eH⟩ := hq'
      subst ev
      subst eH
      obtain ⟨h2, g2, d2, t2, os'⟩ := s'
      have e1 : errH H1 (hp.objs.size + 1) C dx f y (hp.objs.size + 1) = some (exo (hp.objs.size + 1) C (some dx)) := upd_same
      have e2 : errH H1 (hp.objs.size + 1) C dx f y dx = some (exd dx [(f, y)]) := by
        unfold errH
        rw [upd_ne ne, upd_same]
      have e3 : upd (del (errH H1 (hp.objs.size + 1) C dx f y) (hp.objs.size + 1)) dx (.xd [(f, y)]) = upd H1 dx (.xd [(f, y)]) := by
        funext b
        by_cases hb : b = dx
        · subst hb; rw [upd_same, upd_same]
        · rw [upd_ne hb, upd_ne hb]
          by_cases ha : b = hp.objs.size + 1
          · subst ha; rw [del_same, hn]
          · rw [del_ne ha]
            unfold errH
            rw [upd_ne ha, upd_ne hb]
      exact ⟨rv, mk_end (raises_own T.T.exC T.T.tyC) I1 hsz kk un2 hok2 os2 bare2 e1 e2 hd1 (by rw [e3]; exact q1 dx hd1)⟩
    | .ok .next, hq' => exact (show False from hq').elim
    | .ok .brk, hq' => exact (show False from hq').elim
    | .ok .cont, hq' => exact (show False from hq').elim
theorem pmk_0 (q : PySem.W.excIn X.K C He.veBase "ValueError.__new__" = true) (kC : PySem.W.keepIn X.K (.ref C) = true) (r : Raises X (.ref C)) (hg : Gl X x) (hm : X.mg x = some (.ref C))
    (hdb : (x == ("__debug__" : Str)) = false) : PMk X (.Call (.Name x p) [] [] pos) (fun _ H Q => Q (.ref C) none H) := by
  intro pins s σ H Q I h
  refine wpAny_Call_Name_kw (ld_glob I hg hm (PySem.W.callWith_K0 I.kIn kC ?_) hdb)
  obtain ⟨bm, N, nm, qn, bs, hdct, sn, sub, ab, col, dd, k0, k1, k2, k3, k5, mN, hC, hN, hni, T⟩ := exc_obj I.kIn q
  refine wpAny_call_exc_subT F.excBase_ValueError T hC hN hni (fun h' a hm => ?_) (by show 0 ≤ sizeLine; rw [sizeLine_eq]; omega)
  exact mk_of I hm r h (I.hok.gone hm.new)
end
end Vm
end
section
set_option Elab.async false
set_option linter.all false
set_option maxRecDepth 100000
set_option maxHeartbeats 4000000
/-! instances of own classes: their fields read and written -/
namespace Vm
open PySem PySem.Spec PyProof.Rows L2

def asSv (ds : List (Str × Dt)) : List (Str × Sv) := ds.map fun p => (p.1, .dat p.2)
/-- an instance's class and fields -/
def Om.ins (ω : Om) : Sv → Option (Str × List (Str × Sv))
  | .dat (.ins c ds) => some (c, asSv ds)
  | .own j => match ω[j]? with
    | some (.ins c fs) => some (c, fs)
    | some (.frz (.ins c ds)) => some (c, asSv ds)
    | _ => none
  | _ => none
section
variable {K : PySem.W.Frag} {F H : Hp} {ps : List Addr} {ω : Om}
theorem asSv_ok : ∀ {vs : List V} {ds : List Dt}, DatAll K F vs ds → SvAll K F ps vs (ds.map .dat)
  | _, _, .nil => .nil
  | _, _, .cons h r => .cons h (asSv_ok r)
theorem asSv_at {vs : List (Str × V)} {ds : List (Str × Dt)} (h : DatAll K F (vs.map (·.2)) (ds.map (·.2))) : SvAll K F ps (vs.map (·.2)) ((asSv ds).map (·.2)) := by
  have e : (asSv ds).map (·.2) = (ds.map (·.2)).map Sv.dat := by
    unfold asSv
    rw [List.map_map, List.map_map]
    rfl
  rw [e]
  exact asSv_ok h
theorem asSv_nm (ds : List (Str × Dt)) : (asSv ds).map (·.1) = ds.map (·.1) := by
  unfold asSv
  rw [List.map_map]
  rfl
theorem Dat.insIs {c : Str} {ds : List (Str × Dt)} {v : V} (h : Dat K F v (.ins c ds)) : ∃ p dx vs, v = .ref p ∧ F p = some (.ins (gad K c) dx vs) ∧ vs.map (·.1) = ds.map (·.1) ∧ DatAll K F (vs.map (·.2)) (ds.map (·.2)) := by
  cases h with
  | ins h1 h2 h3 => exact ⟨_, _, _, rfl, h1, h2, h3⟩
theorem Om.ins_ok {a : Sv} {x : V} {c : Str} {fs : List (Str × Sv)} (h : ω.ins a = some (c, fs)) (r : Rel K F H ps ω) (q : SvAt K F ps x a) :
    ∃ p dx vs, x = .ref p ∧ H p = some (.ins (gad K c) dx vs) ∧ vs.map (·.1) = fs.map (·.1) ∧ SvAll K F ps (vs.map (·.2)) (fs.map (·.2)) := by
  cases a with
  | dat d =>
    cases d with
    | ins c' ds =>
      cases h
      obtain ⟨p, dx, vs, rfl, h1, h2, h3⟩ := Dat.insIs q
      exact ⟨p, dx, vs, rfl, r.ex _ _ h1, by rw [asSv_nm]; exact h2, asSv_at h3⟩
    | _ => cases h
  | own j =>
    obtain ⟨p, hp, rfl⟩ := q
    unfold Om.ins at h
    dsimp only at h
    split at h
    · rename_i c' fs' e
      cases h
      obtain ⟨_, dx, vs, h1, h2, h3⟩ := r.ob j p _ hp e
      exact ⟨p, dx, vs, rfl, h1, h2, h3⟩
    · rename_i c' ds e
      cases h
      obtain ⟨p', dx, vs, e1, h1, h2, h3⟩ := Dat.insIs (r.ob j p _ hp e)
      cases e1
      exact ⟨p, dx, vs, rfl, r.ex _ _ h1, by rw [asSv_nm]; exact h2, asSv_at h3⟩
    · cases h
theorem look_fs {f : Str} {sv : Sv} : ∀ {vs : List (Str × V)} {fs : List (Str × Sv)}, vs.map (·.1) = fs.map (·.1) → SvAll K F ps (vs.map (·.2)) (fs.map (·.2)) → fs.lookup f = some sv → ∃ v, vs.lookup f = some v ∧ SvAt K F ps v sv
  | [], [], _, _, h => by cases h
  | (g, v) :: vs, (g', s) :: fs, hn, ha, h => by
    simp only [List.map_cons, List.cons.injEq] at hn
    obtain ⟨rfl, hn⟩ := hn
    simp only [List.map_cons] at ha
    cases ha with
    | cons h1 h2 =>
      rw [List.lookup_cons] at h ⊢
      cases e : f == g with
      | true =>
        rw [e] at h
        cases h
        exact ⟨v, rfl, h1⟩
      | false =>
        rw [e] at h
        exact look_fs hn h2 h
  | [], _ :: _, hn, _, _ => by cases hn
  | _ :: _, [], hn, _, _ => by cases hn
/-- a field of an instance -/
def getS (cs : List Str) (f : Str) (as : List Sv) (ω : Om) : R Sv := match as with
  | [a] => match ω.ins a with
    | some (c, fs) => if c ∈ cs then match fs.lookup f with
        | some sv => .ok sv ω
        | none => .no
      else .no
    | none => .no
  | _ => .no
def rGet (K : PySem.W.Frag) (f : Str) : List V → Hp → VK → Prop := fun xs H Q => ∃ a C dx fs v, xs = [.ref a] ∧ H a = some (.ins C dx fs) ∧ Cls K C ∧ NoAttr K C f ∧ fs.lookup f = some v ∧ Q v H
theorem sem_get {cs : List Str} {f : Str} (hc : ∀ c ∈ cs, Cls K (gad K c) ∧ NoAttr K (gad K c) f) : SemN K (rGet K f) (getS cs f) := by
  intro ω F H ps xs as r q σ W Q h
  unfold getS at h
  split at h
  · obtain ⟨x, rfl, qx⟩ := q.one
    split at h
    · rename_i c fs e
      split at h
      · rename_i hm
        split at h
        · rename_i sv el
          obtain ⟨p, dx, vs, rfl, h1, h2, h3⟩ := Om.ins_ok e r qx
          obtain ⟨v, hv, qv⟩ := look_fs h2 h3 el
          exact ⟨p, _, dx, vs, v, rfl, h1, (hc c hm).1, (hc c hm).2, hv, h.here r qv⟩
        · exact h.elim
      · exact h.elim
    · exact h.elim
  · exact h.elim
end
section
variable {X : Cx} {e : Expr} {f : Str} {pos : Pos} {te : TE}
theorem pe_get (he : PE X e te) (hb : attributeBase e f X.env (eval e X.env) = eval e X.env) : PE X (.Attribute e f pos) (tCB (rGet X.K f) (tCons te tNil)) := by
  refine ⟨fun pins s σ H Q I h => ?_⟩
  refine attr_of hb (thn (he.run pins s σ H _ I h) fun u s1 hh => ?_)
  obtain ⟨x, H1, I1, rx, a, C, dx, fs, v, ex, ea, c, n, l, q⟩ := hh
  cases ex
  obtain rfl : u = Value.ref a := rx
  exact getattr_ok I1 ea c n l fun u' s2 I2 ru => ⟨v, H1, I2, ru, q⟩
/-- a field of an error or of an instance -/
theorem fld2_run {pins : List (Addr × Obj)} {σ : L2.St} {H1 : Hp} {s1 : Shared} {Q : VK} {x : V} {u : Value} {b : Bool} (I1 : Inv X pins σ H1 s1) (rx : RelV x u) (hh : rFldE X.K f [x] H1 Q ∨ rGet X.K f [x] H1 Q) :
    wpAny (model X.prog X.w) X.A (getAttr u f b) (EP X pins σ Q) X.xe s1 := by
  rcases hh with ⟨a, C, dx, y, ex, ea, ed, T, hno, q⟩ | ⟨a, C, dx, fs, v, ex, ea, c, n, l, q⟩
  · cases ex
    obtain rfl : u = Value.ref a := rx
    obtain ⟨t0, ho⟩ := exo_at I1.hok ea
    obtain ⟨mA, hns, hr⟩ := exd_at I1.hok ed
    obtain ⟨od, hd, hl⟩ := lookIn_ns hns
    have hf := hr f
    obtain ⟨u, hu, ru⟩ := RelO.some_of (v := y) (o := mA f) (by simpa [List.lookup] using hf)
    have J : PySem.W.InstAt s1.heap a { cls := .ref C, dict := some dx, data := .fields #[.ref t0, .none, .none, .none, .bool false, .none] } C (some od) :=
      ⟨ho, rfl, rfl, hd⟩
    exact HandSPX.exc_get I1.kIn J T.ga T.gg T.exC (PySem.W.findObj_own T.hdC hno rfl (by rw [hl, hu])) (handed_of ru) ⟨y, H1, I1.tok _, ru, q⟩
  · cases ex
    obtain rfl : u = Value.ref a := rx
    exact getattr_ok I1 ea c n l fun u' s2 I2 ru => ⟨v, H1, I2, ru, q⟩
theorem pe_fld2 (he : PE X e te) (hb : attributeBase e f X.env (eval e X.env) = eval e X.env) : PE X (.Attribute e f pos) (tCB (fun xs H Q => rFldE X.K f xs H Q ∨ rGet X.K f xs H Q) (tCons te tNil)) := by
  refine ⟨fun pins s σ H Q I h => ?_⟩
  refine attr_of hb (thn (he.run pins s σ H _ I h) fun u s1 hh => ?_)
  obtain ⟨x, H1, I1, rx, hh⟩ := hh
  exact fld2_run I1 rx hh
end
/-! ### a field is written -/
def putS (f : Str) (y : Sv) : List (Str × Sv) → List (Str × Sv)
  | [] => [(f, y)]
  | (g, x) :: r => if g = f then (g, y) :: r else (g, x) :: putS f y r
section
variable {K : PySem.W.Frag} {F H : Hp} {ps : List Addr} {ω : Om}
theorem put_fs {f : Str} {y : V} {sv : Sv} (hy : SvAt K F ps y sv) : ∀ {vs : List (Str × V)} {fs : List (Str × Sv)}, vs.map (·.1) = fs.map (·.1) → SvAll K F ps (vs.map (·.2)) (fs.map (·.2)) →
    (putF f y vs).map (·.1) = (putS f sv fs).map (·.1) ∧ SvAll K F ps ((putF f y vs).map (·.2)) ((putS f sv fs).map (·.2))
  | [], [], _, _ => ⟨rfl, .cons hy .nil⟩
  | (g, v) :: vs, (g', s) :: fs, hn, ha => by
    simp only [List.map_cons, List.cons.injEq] at hn
    obtain ⟨rfl, hn⟩ := hn
    simp only [List.map_cons] at ha
    cases ha with
    | cons h1 h2 =>
      unfold putF putS
      by_cases e : g = f
      · rw [if_pos e, if_pos e]
        exact ⟨by simp only [List.map_cons, hn], .cons hy h2⟩
      · rw [if_neg e, if_neg e]
        obtain ⟨q1, q2⟩ := put_fs hy hn h2
        exact ⟨by simp only [List.map_cons, q1], .cons h1 q2⟩
  | [], _ :: _, hn, _ => by cases hn
  | _ :: _, [], hn, _ => by cases hn
end
end Vm
end
section
set_option Elab.async false
set_option linter.all false
set_option maxRecDepth 100000
set_option maxHeartbeats 4000000
/-! errors as data -/
namespace Vm
open PySem PySem.Spec PyProof.Rows L2

section
variable {K : PySem.W.Frag}
/-- C(y) -/
def mkES (c f : Str) (as : List Sv) (ω : Om) : R Sv := match as with
  | [a] => match ω.fz a with
    | some (d, ω1) => .ok (.dat (.err c f d)) ω1
    | none => .no
  | _ => .no
theorem sem_mkE (c f : Str) : SemN K (rMkE (gad K c) f) (mkES c f) := by
  intro ω F H ps xs as r q σ W Q h
  unfold mkES at h
  split at h
  · obtain ⟨x, rfl, qx⟩ := q.one
    split at h
    · rename_i d ω1 e
      obtain ⟨F1, r1, s1, d1⟩ := Om.fz_ok e r qx
      refine ⟨x, rfl, fun a dx ha hd ne => ?_⟩
      obtain ⟨r2, s2⟩ := r1.lay (o := exd dx [(f, x)]) hd
      have ha2 : upd H dx (exd dx [(f, x)]) a = none := by rw [upd_ne ne.symm]; exact ha
      obtain ⟨r3, s3⟩ := r2.lay (o := exo a (gad K c) (some dx)) ha2
      refine h _ _ _ _ (s1.trans (s2.trans s3)) r3 (Dat.err (dx := dx) (y := x) upd_same ?_ (d1.mono (s2.ex.trans s3.ex)))
      rw [upd_ne ne, upd_same]
    · exact h.elim
  · exact h.elim
def mk0S (c : Str) (as : List Sv) (ω : Om) : R Sv := match as with
  | [] => .ok (.dat (.err0 c)) ω
  | _ => .no
theorem sem_mk0 (c : Str) : SemN K (fun _ H Q => rMk0 (gad K c) H Q) (mk0S c) := by
  intro ω F H ps xs as r q σ W Q h
  unfold mk0S at h
  split at h
  · intro a ha
    obtain ⟨r3, s3⟩ := r.lay (o := exo a (gad K c) none) ha
    exact h _ _ _ _ s3 r3 (Dat.err0 upd_same)
  · exact h.elim
/-- y.f -/
def fldS (cs : List Str) (f : Str) (as : List Sv) (ω : Om) : R Sv := match as with
  | [a] => match ω.toD a with
    | some (.err c g d) => if c ∈ cs ∧ g = f then .ok (.dat d) ω else .no
    | _ => .no
  | _ => .no
theorem sem_fld {cs : List Str} {f : Str} (hc : ∀ c ∈ cs, XfC K (gad K c) ∧ PySem.W.findIn K (.ref (gad K c)) f = some none) : SemN K (rFldE K f) (fldS cs f) := by
  intro ω F H ps xs as r q σ W Q h
  unfold fldS at h
  split at h
  · obtain ⟨x, rfl, qx⟩ := q.one
    split at h
    · rename_i c g d e
      split at h
      · rename_i hm
        obtain ⟨hm, rfl⟩ := hm
        cases Om.toD_ok e r qx with
        | err h1 h2 h3 => exact ⟨_, _, _, _, rfl, r.ex _ _ h1, r.ex _ _ h2, (hc c hm).1, (hc c hm).2, h.here r h3⟩
      · exact h.elim
    · exact h.elim
  · exact h.elim
/-- y.f, y an error or an instance -/
def fldS2 (cs is : List Str) (f : Str) (as : List Sv) (ω : Om) : R Sv := match as with
  | [a] => match ω.ins a with
    | some _ => getS is f as ω
    | none => fldS cs f as ω
  | _ => .no
def rFld2 (K : PySem.W.Frag) (f : Str) : List V → Hp → VK → Prop := fun xs H Q => rFldE K f xs H Q ∨ rGet K f xs H Q
theorem sem_fld2 {cs is : List Str} {f : Str} (hc : ∀ c ∈ cs, XfC K (gad K c) ∧ PySem.W.findIn K (.ref (gad K c)) f = some none) (hi : ∀ c ∈ is, Cls K (gad K c) ∧ NoAttr K (gad K c) f) : SemN K (rFld2 K f) (fldS2 cs is f) := by
  intro ω F H ps xs as r q σ W Q h
  unfold fldS2 at h
  split at h
  · split at h
    · exact .inr (sem_get hi ω F H ps xs _ r q σ W Q h)
    · exact .inl (sem_fld hc ω F H ps xs _ r q σ W Q h)
  · exact h.elim
/-- isinstance(x, T), T told by the answers: yes, no of own errors; of plain data -/
structure Isa where
  yes : List Str
  no : List Str
  /-- plain data is none -/
  pl : Bool
  /-- own classes whose instances are, are not -/
  yi : List Str := []
  ni : List Str := []
def errC : Dt → Option Str
  | .err0 c => some c
  | .err c _ _ => some c
  | _ => none
def isxS (t : Isa) (as : List Sv) (ω : Om) : R Sv := match as with
  | [a] => match ω.ins a with
    | some (c, _) => if c ∈ t.yi then .ok (.dat (.bl true)) ω else if c ∈ t.ni then .ok (.dat (.bl false)) ω else .no
    | none => match (match ω.toD a with
        | some d => errC d
        | none => none) with
      | some c => if c ∈ t.yes then .ok (.dat (.bl true)) ω else if c ∈ t.no then .ok (.dat (.bl false)) ω else .no
      | none => match ω.tyOf a with
        | some _ => if t.pl = true then .ok (.dat (.bl false)) ω else .no
        | none => .no
  | _ => .no
def rIsx (K : PySem.W.Frag) (c : V) : List V → Hp → VK → Prop := fun xs H Q => match xs with
  | [x] => rIsE2 K [x, c] H Q ∨ rIsi K [x, c] H Q
  | _ => False
/-- what isinstance asks of an instance's class -/
structure TyI (K : PySem.W.Frag) (C : Addr) : Prop where
  cl : Cls K C
  ha : PySem.W.findIn K (.ref C) "__class__" = some (some (.builtin "object.__class__"))
  hn : PySem.W.specialIn K (.builtin "object.__class__") "__get__" = some (some (.builtin "getset_descriptor.__get__"))
  tk : PySem.W.takesIn K (.builtin "object.__class__") = some true
  hm : PySem.W.mroIn K C (.type "object") = some true
/-- what the class at u says -/
structure IsaOk (K : PySem.W.Frag) (u : Value) (t : Isa) : Prop where
  yes : ∀ c ∈ t.yes, ExcC K (gad K c) ∧ PySem.W.kitOne K (.ref (gad K c)) u = some true
  no : ∀ c ∈ t.no, ExcC K (gad K c) ∧ PySem.W.kitOne K (.ref (gad K c)) u = some false
  pl : t.pl = true → ∀ S ∈ tysA, PySem.W.kitOne K (.type S) u = some false
  yi : ∀ c ∈ t.yi, TyI K (gad K c) ∧ PySem.W.kitOne K (.ref (gad K c)) u = some true
  ni : ∀ c ∈ t.ni, TyI K (gad K c) ∧ PySem.W.kitOne K (.ref (gad K c)) u = some false
theorem errC_ok {F H : Hp} {ps : List Addr} {ω : Om} {v : V} {d : Dt} {c : Str} (e : Ex F H) (q : Dat K F v d) (h : errC d = some c) : ∃ a, v = .ref a ∧ IsErr H a (gad K c) := by
  cases q with
  | err0 h1 =>
    cases h
    exact ⟨_, rfl, .inl (e _ _ h1)⟩
  | err h1 h2 h3 =>
    cases h
    exact ⟨_, rfl, .inr ⟨_, _, _, e _ _ h1, e _ _ h2⟩⟩
  | _ => simp [errC] at h
theorem sem_isx {c : V} {u : Value} {t : Isa} (k : ClsV c u) (T : IsaOk K u t) : SemN K (rIsx K c) (isxS t) := by
  intro ω F H ps xs as r q σ W Q h
  unfold isxS at h
  split at h
  · rename_i a
    obtain ⟨x, rfl, qx⟩ := q.one
    split at h
    · rename_i n fs e
      obtain ⟨p, dx, vs, rfl, h1, _, _⟩ := Om.ins_ok e r qx
      have ty : ∀ {C : Addr}, H p = some (.ins C dx vs) → TyI K C → TyX K H (.ref p) (.ref C) := fun h2 z => .base (.ins h2 z.cl z.ha z.hn z.tk z.hm)
      split at h
      · rename_i hy
        exact .inr ⟨.ref p, c, _, u, true, rfl, k, ty h1 (T.yi n hy).1, (T.yi n hy).2, h.here r (Dat.bl _)⟩
      · split at h
        · rename_i hy
          exact .inr ⟨.ref p, c, _, u, false, rfl, k, ty h1 (T.ni n hy).1, (T.ni n hy).2, h.here r (Dat.bl _)⟩
        · exact h.elim
    · split at h
      · rename_i n e
        split at e
        · rename_i d ed
          obtain ⟨p, rfl, he⟩ := errC_ok (ps := ps) (ω := ω) r.ex (Om.toD_ok ed r qx) e
          split at h
          · rename_i hy
            exact .inl ⟨p, _, c, u, true, rfl, he, (T.yes n hy).1, k, (T.yes n hy).2, h.here r (Dat.bl _)⟩
          · split at h
            · rename_i hy
              exact .inl ⟨p, _, c, u, false, rfl, he, (T.no n hy).1, k, (T.no n hy).2, h.here r (Dat.bl _)⟩
            · exact h.elim
        · cases e
      · split at h
        · rename_i S eS
          split at h
          · rename_i hp
            obtain ⟨tx, hS⟩ := Om.tyOf_ok eS r qx
            exact .inr ⟨x, c, .type S, u, false, rfl, k, tx, T.pl hp S hS, h.here r (Dat.bl _)⟩
          · exact h.elim
        · exact h.elim
  · exact h.elim
theorem call_isx {X : Cx} : CallR X (.builtin "isinstance") (fun xs H Q => rIsE2 X.K xs H Q ∨ rIsi X.K xs H Q) := by
  intro pins s σ H xs us Q I r h
  rcases h with h | h
  · exact call_isE2 pins s σ H xs us Q I r h
  · exact call_isi pins s σ H xs us Q I r h
/-- x in T, T a written dict -/
def tinS (neg : Bool) (ks : List Str) (as : List Sv) (ω : Om) : R Sv := match as with
  | [a] => match ω.toD a with
    | some (.str z) => .ok (.dat (.bl (cond neg (!decide (z ∈ ks)) (decide (z ∈ ks))))) ω
    | _ => .no
  | _ => .no
def rTin (K : PySem.W.Frag) (d : Addr) (neg : Bool) : List V → Hp → VK → Prop := fun xs H Q => match xs with
  | [x] => ∃ (z : Str) (r : Option Value), x = .str z ∧ V.ref d = .ref d ∧ PySem.W.nsIn K d z = some r ∧ Q (.bl (cond neg (!r.isSome) r.isSome)) H
  | _ => False
theorem sem_tin {d : Addr} {neg : Bool} {ks : List Str} (hk : ∀ z, ∃ r : Option Value, PySem.W.nsIn K d z = some r ∧ r.isSome = decide (z ∈ ks)) : SemN K (rTin K d neg) (tinS neg ks) := by
  intro ω F H ps xs as r q σ W Q h
  unfold tinS at h
  split at h
  · obtain ⟨x, rfl, qx⟩ := q.one
    split at h
    · rename_i z e
      have hx := (Om.toD_ok e r qx).str_inv
      subst hx
      obtain ⟨v, h1, h2⟩ := hk z
      refine ⟨z, v, rfl, rfl, h1, ?_⟩
      rw [h2]
      exact h.here r (Dat.bl _)
    · exact h.elim
  · exact h.elim
end
/-- one more of the n-ary operations -/
inductive Xf where
  | mke (c f : Str) | mk0 (c : Str) | fld (cs is : List Str) (f : Str) | isx (t : Isa) | tin (neg : Bool) (ks : List Str)
/-- where two calls more have room -/
def lvlG (n : Nat) (g : List Sv → Om → R Sv) : List Sv → Om → R Sv := if 2 ≤ n then g else fun _ _ => .no
theorem lvlG_pos {n : Nat} {g : List Sv → Om → R Sv} (h : 2 ≤ n) : lvlG n g = g := if_pos h
theorem lvlG_neg {n : Nat} {g : List Sv → Om → R Sv} (h : ¬ 2 ≤ n) : lvlG n g = fun _ _ => .no := if_neg h
def Xf.g (n : Nat) : Xf → List Sv → Om → R Sv
  | .mke c f => lvlG n (mkES c f)
  | .mk0 c => lvlG n (mk0S c)
  | .fld cs is f => fldS2 cs is f
  | .isx t => isxS t
  | .tin neg ks => tinS neg ks
end Vm
end
section
set_option Elab.async false
set_option linter.all false
set_option maxRecDepth 100000
set_option maxHeartbeats 4000000
/-! a dict written with one entry; errors raised; what an except suite hands back -/
namespace Vm
open PySem PySem.Spec PyProof.Rows L2
section
variable {K : PySem.W.Frag} {F F1 H H1 : Hp} {ps ps1 : List Addr} {ω : Om} {D : Addr} {o : HO}
/-- any object that nobody held is data from now on -/
theorem Rel.adoptO (r : Rel K F H ps ω) (h : F D = none) (h2 : D ∉ ps) (hD : H D = some o) :
    Rel K (upd F D o) H ps ω ∧ Ex F (upd F D o) ∧ ∀ a, upd F D o a ≠ none → F a ≠ none ∨ a = D := by
  have hx : Ex F (upd F D o) := Ex.new h
  refine ⟨⟨fun a u e => ?_, r.len, r.nd, fun j p w e1 e2 => ?_, r.tr⟩, hx, fun a z => ?_⟩
  · by_cases ha : a = D
    · subst ha; rw [upd_same] at e; cases e; exact hD
    · rw [upd_ne ha] at e; exact r.ex a u e
  · have : p ≠ D := fun z => h2 (by rw [← z]; exact List.mem_of_getElem? e1)
    exact (r.ob j p w e1 e2).mono hx (List.prefix_refl _) (fun z => by rw [upd_ne this]; exact z) (fun u z => z)
  · by_cases ha : a = D
    · exact .inr ha
    · rw [upd_ne ha] at z; exact .inl z
end
section
variable {K : PySem.W.Frag} {W : WX} {te : TE} {fe : Ro → Om → R Sv}
def fDsp (k : Str) (fe : Ro → Om → R Sv) : Ro → Om → R Sv := fun ρ ω => (fe ρ ω).bind fun a ω1 => match ω1.fz a with
  | some (d, ω2) => .ok (.dat (.dic [(.inr k, d)])) ω2
  | none => .no
theorem sem_dsp (k : Str) (he : SemE K W te fe) : SemE K W (tDisp [(tC (.str k), te)]) (fDsp k fe) := fun ρ ω σ F H ps rl s Q h => by
  intro p hp
  have m0 : MkO K F H ps p F (upd H p (.dK [])) ps ω (.dK []) := ⟨Stp.refl.redo hp, rl.away (rl.fnone hp) (rl.notin hp), rl.fnone hp, rl.notin hp, upd_same⟩
  show te σ (upd H p (.dK [])) _
  refine he ρ ω σ F _ ps m0.rel s _ ?_
  unfold fDsp at h
  cases hr : fe ρ ω with
  | no => rw [hr] at h; exact h
  | ex c fd ω1 =>
    rw [hr] at h
    exact fun cls dx F1 H1 p1 s1 r1 q => h cls dx F1 H1 p1 (m0.stp.trans s1) r1 q
  | ok a ω1 =>
    rw [hr, R.bind_ok] at h
    intro v1 F1 H1 p1 s1 r1 q1
    split at h
    · rename_i d ω2 e
      have m1 := m0.step s1 r1
      obtain ⟨F2, r2, s2, d2⟩ := Om.fz_ok e r1 q1
      have m2 := m1.step s2 r2
      refine ⟨m2.hD, [(.inr k, v1)], rfl, Nat.le_of_ble_eq_true rfl, ?_⟩
      have m3 : MkO K F H ps p F2 (upd H1 p (.dK [(.inr k, v1)])) p1 ω2 (.dK [(.inr k, v1)]) := m2.put hp
      obtain ⟨r4, x4, n4⟩ := m3.rel.adoptO m3.fD m3.pD m3.hD
      exact h _ _ _ _ (m3.stp.adopt hp x4 n4) r4 (Dat.dic (.inl upd_same) rfl (.cons (d2.mono x4) .nil))
    · exact h.elim
end
end Vm
end
section
set_option Elab.async false
set_option linter.all false
set_option maxRecDepth 100000
set_option maxHeartbeats 4000000
/-! try, with several clauses, named or not -/
namespace Vm
open PySem PySem.Spec PyProof.Rows L2
/-- behind a suite the name is gone -/
def goneD (i : Nat) (D : Ends) : Ends :=
  { nx := fun τ G => D.nx (τ.set i none) G, rt := D.rt, bk := fun τ G => D.bk (τ.set i none) G, ct := fun τ G => D.ct (τ.set i none) G }
abbrev Clz := Value × Option Nat × (Addr → Value → Option Addr → TS)
def wClz (K : PySem.W.Frag) (Wout : WX) (D : Ends) : List Clz → WX
  | [] => Wout
  | (c, none, ts) :: r => fun cls d τ G => ∃ b, PySem.W.exmOne K cls c = some b ∧ (b = true → ∀ a, G a = none → ts a cls d D τ G) ∧ (b = false → wClz K Wout D r cls d τ G)
  | (c, some i, ts) :: r => fun cls d τ G => ∃ b, PySem.W.exmOne K cls c = some b ∧
      (b = true → ∀ a, G a = none → ts a cls d (goneD i D) (τ.set i (some (.ref a))) G) ∧ (b = false → wClz K Wout D r cls d τ G)
def SuOk (X : Cx) (suite : List Stmt) (ts : Addr → Value → Option Addr → TS) : Prop :=
  ∀ (a : Addr) (oe : Obj) (cls : Value) (d : Option Addr) (pn : List (Addr × Obj)), Zc cls d oe → (∃ vs, oe.data = .fields vs) → PSs (X.suite a ((a, oe) :: pn)) suite (ts a cls d)
inductive ClzOk (X : Cx) : List ExceptHandler → List Clz → Prop
  | nil : ClzOk X [] []
  | plain {x : Str} {c : Value} {ts : Addr → Value → Option Addr → TS} {s0 : Stmt} {su : List Stmt} {np p2 : Pos} {hs : List ExceptHandler} {l : List Clz}
      (n : Names X x c) (k : SuOk X (s0 :: su) ts) (r : ClzOk X hs l) : ClzOk X (.ExceptHandler (some (.Name x np)) none (s0 :: su) p2 :: hs) ((c, none, ts) :: l)
  | named {x y : Str} {i : Nat} {c : Value} {ts : Addr → Value → Option Addr → TS} {s0 : Stmt} {su : List Stmt} {np p2 : Pos} {hs : List ExceptHandler} {l : List Clz}
      (n : Names X x c) (hi : X.N[i]? = some y) (hl : X.env.kindOf y = some .local) (k : SuOk X (s0 :: su) ts) (r : ClzOk X hs l) :
      ClzOk X (.ExceptHandler (some (.Name x np)) (some y) (s0 :: su) p2 :: hs) ((c, some i, ts) :: l)
section
variable {X : Cx} {body : List Stmt} {h0 : ExceptHandler} {hds : List ExceptHandler} {l : List Clz} {pos : Pos} {tb : WX → TS} {Wout : WX}
theorem ps_try_any (hs : X.stack = X.env :: X.outer) (hf : X.env.frame = some X.env.locals) (hN : X.N.Nodup) (tk : Takes X Wout)
    (hb : ∀ (W : WX) (pn : List (Addr × Obj)) (xe : Value → Shared → Prop), Takes (X.tr pn xe) W →
      PassesOwn (model X.prog X.w) X.A X.env xe → PSs (X.tr pn xe) body (tb W))
    (hh : ClzOk X (h0 :: hds) l) : PS X (.Try body (h0 :: hds) [] [] pos) (fun D τ G => tb (wClz X.K Wout D l) D τ G) := by
  refine ⟨fun pins s τ G D I h => ?_⟩
  have ok := I.ok
  have fr : X.A.frames = some (X.env :: X.outer) := by rw [ok.frames, hs]
  refine wpAny_Try_except ?_
  refine wpAny_mono ((hb (wClz X.K Wout D l) (X.pn ++ pins)
    (fun e t1 => wpAny (model X.prog X.w) X.A (noteFrame e X.env) (fun _ t2 =>
      wpAny (model X.prog X.w) X.A (setFlight e none) (fun _ t3 =>
        wpAny (model X.prog X.w) X.A (handleBy e X.env (h0 :: hds)) (SP X pins D) X.xe t3) X.xe t2) X.xe t1)
    (fun u t xx => ?_) PassesOwn.looking).run [] s τ G D (I.toTry _) h) (fun f t hsp => ?_) (fun e t he => he)
  · obtain ⟨a, B, sI, pins2, τ2, G2, cls, d, rfl, J0, nb, up, sky, na, os, ag, w⟩ := xx
    have J : Inv X pins τ2 G2 sI := J0.ofTry ok
    have sky2 : Sky B (X.env :: X.outer) a (Zc cls d) X.env.locals t.heap := by rw [← hs]; exact sky
    show wpAny (model X.prog X.w) X.A
      (noteFrame (.ref a) X.env) _ _ _
    refine Sky.land Zc.steady fr hf sky2 fun g3 fl3 up3 => ?_
    have J3 : Inv X pins τ2 G2 { t with heap := g3 } := J.landed nb fl3.1 (up.trans up3) os ag
    obtain ⟨oe3, vs3, he3, hz3, hd3⟩ := fl3.there
    have nfr : a ∉ frs (X.env :: X.outer) := fun hm => by
      obtain ⟨_, o1, e1, hnf⟩ := fl3.2.2.1.mem hm
      rw [he3] at e1; cases e1
      exact hnf _ hd3
    have nL : a ≠ X.env.locals := fun z => nfr (List.mem_filterMap.mpr ⟨X.env, List.mem_cons_self,
      by rw [hf, z]⟩)
    have nF : a ∉ X.fs := fun hm => by
      obtain ⟨e, he, q⟩ := List.mem_filterMap.mp hm
      exact nfr (List.mem_filterMap.mpr ⟨e,
        List.mem_cons_of_mem _ he, q⟩)
    have S3 := J3.suite he3 hd3 na nL nF
    have LT : PySem.W.Looks (model X.prog X.w) g3 (typeOf (.ref a)) cls :=
      fun A Q E s k q => wpAny_typeOf_ref (k _ _ he3) (by rw [hz3.1]; exact q)
    have tst : ∀ {x : Str} {c : Value} {np : Pos} {Q : Value → Shared → Prop} {E : Value → Shared → Prop}, Names X x c → Q c { t with heap := g3 } →
        wpAny (model X.prog X.w) (X.A.mark (some (.ref a))) (eval (.Name x np) X.env) Q E { t with heap := g3 } := fun {x c np Q E} n q => by
      obtain ⟨hg, hdbg, hm | ⟨hm, hv, hnn⟩⟩ := n
      · exact ld_glob (X := X.suite a ((a, oe3) :: (X.pn ++ pins)))
          S3 hg hm q hdbg
      · exact ld_blt (X := X.suite a ((a, oe3) :: (X.pn ++ pins)))
          S3 hg hm hv q hnn hdbg
    have go : ∀ {hds2 : List ExceptHandler} {l2 : List Clz}, ClzOk X hds2 l2 → wClz X.K Wout D l2 cls d τ2 G2 →
        wpAny (model X.prog X.w) X.A (handleBy (.ref a) X.env hds2) (SP X pins D) X.xe { t with heap := g3 } := by
      intro hds2 l2 hk
      induction hk with
      | nil =>
        intro w
        refine wpAny_handleBy_nil ?_
        obtain ⟨k1, k2, k3, oe, vs, T, oT, ts1, he, hz, hd, h1, hr⟩ := id fl3
        unfold PySem.passOn
        refine wpAny_bind (wpAny_field he hd h1 ?_)
        rw [if_neg (show ¬ ((Value.ref T == Value.none) = true)
          from by simp)]
        have fin : wpAny (model X.prog X.w) X.A (setFlight (.ref a) X.env.frame)
            (fun _ s4 => wpAny (model X.prog X.w) X.A (throw (.ref a) : Sem Flow) (SP X pins D) X.xe s4) X.xe { t with heap := g3 } := by
          rw [hf]
          refine HandSPX.setFlight_upZ fl3 fun g4 hh4 up4 =>
            wpAny_throw (tk _ _ ?_)
          exact ⟨a, B, sI, pins, τ2, G2, cls, d, rfl, J, nb, (up.trans up3).trans up4,
            .inr (.inr (by rw [hs]; exact hh4)), na, os, ag, w⟩
        first
          | exact wpAny_bind (wpAny_pure (wpAny_bind fin))
          | exact wpAny_bind fin
      | @plain x c ts s0 su np p2 hs2 l3 n k r ih =>
        intro w
        obtain ⟨b, hb1, hyes, hno⟩ := w
        refine wpAny_handleBy_cons (codeAny_handlers_test ?_)
          (by intro q; cases q)
        have LM := PySem.W.exm_one (M := model X.prog X.w) (J3.kIn) LT hb1
        refine tst n (LM.here ?_)
        cases b with
        | true =>
          refine codeAny_handlers_suite ?_
          refine HandSPX.lands_againZ fl3 fun g4 fl4 up4 => ?_
          have J4 : Inv X pins τ2 G2 { t with heap := g4 } := J.landed nb fl4.1 ((up.trans up3).trans up4) os ag
          obtain ⟨oe4, vs4, he4, hz4, hd4⟩ := fl4.there
          have S4 := J4.suite he4 hd4 na nL nF
          refine wpAny_mono ((k a oe4 cls d (X.pn ++ pins) hz4 ⟨_, hd4⟩).run [] _ _ G2 _ S4 (hyes rfl a na))
            (fun f s6 q6 => ?_) (fun _ _ z => False.elim z)
          cases f with
          | next => obtain ⟨τ6, G6, S6, q6⟩ := q6; exact ⟨_, _, S6.unsuite ok, q6⟩
          | brk => obtain ⟨τ6, G6, S6, q6⟩ := q6; exact ⟨_, _, S6.unsuite ok, q6⟩
          | cont => obtain ⟨τ6, G6, S6, q6⟩ := q6; exact ⟨_, _, S6.unsuite ok, q6⟩
          | ret u => obtain ⟨v6, τ6, G6, S6, r6, q6⟩ := q6; exact ⟨_, _, _, S6.unsuite ok, r6, q6⟩
        | false =>
          show wpAny _ X.A (handleBy (.ref a) X.env hs2) _ _ _
          exact ih (hno rfl)
      | @named x y i c ts s0 su np p2 hs2 l3 n hi hl k r ih =>
        intro w
        obtain ⟨b, hb1, hyes, hno⟩ := w
        refine wpAny_handleBy_cons (codeAny_handlers_test ?_)
          (by intro q; cases q)
        have LM := PySem.W.exm_one (M := model X.prog X.w) (J3.kIn) LT hb1
        refine tst n (LM.here ?_)
        cases b with
        | true =>
          refine codeAny_handlers_suite_as ?_
          refine HandSPX.lands_againZ fl3 fun g4 fl4 up4 => ?_
          have J4 : Inv X pins τ2 G2 { t with heap := g4 } := J.landed nb fl4.1 ((up.trans up3).trans up4) os ag
          obtain ⟨oe4, vs4, he4, hz4, hd4⟩ := fl4.there
          have S4 := J4.suite he4 hd4 na nL nF
          refine store_ok (X := X.suite a ((a, oe4) :: (X.pn ++ pins))) (v := .ref a) S4 hN hi (.inl hl) rfl
            (fun s5 S5 => ?_) (.inr hl)
          refine wpAny_mono ((k a oe4 cls d (X.pn ++ pins) hz4 ⟨_, hd4⟩).run [] s5 _ G2 _ S5 (hyes rfl a na))
            (fun f s6 q6 => ?_) (fun _ _ z => False.elim z)
          have fin : ∀ {τ6 : L2.St} {G6 : Hp} {Q : Shared → Prop}, Inv (X.suite a ((a, oe4) :: (X.pn ++ pins))) [] τ6 G6 s6 →
              (∀ s7, Inv X pins (τ6.set i none) G6 s7 → Q s7) → wpAny (model X.prog X.w) X.A
                (do bindName X.env y .none; unbindBehindTheSuite X.env y p2) (fun _ s7 => Q s7) X.xe s6 :=
            fun {τ6 G6 Q} S6 hq => gone_ok (S6.unsuite ok) hN hi hl hq
          cases f with
          | next => obtain ⟨τ6, G6, S6, q6⟩ := q6; exact fin S6 fun s7 J7 => ⟨_, _, J7, q6⟩
          | brk => obtain ⟨τ6, G6, S6, q6⟩ := q6; exact fin S6 fun s7 J7 => ⟨_, _, J7, q6⟩
          | cont => obtain ⟨τ6, G6, S6, q6⟩ := q6; exact fin S6 fun s7 J7 => ⟨_, _, J7, q6⟩
          | ret u => obtain ⟨v6, τ6, G6, S6, r6, q6⟩ := q6; exact fin S6 fun s7 J7 => ⟨_, _, _, J7, r6, q6⟩
        | false =>
          show wpAny _ X.A (handleBy (.ref a) X.env hs2) _ _ _
          exact ih (hno rfl)
    exact go hh w
  · cases f with
    | next => obtain ⟨τ1, G1, J1, q⟩ := hsp; exact wpAny_execs_nil ⟨τ1, G1, J1.ofTry ok, q⟩
    | brk => obtain ⟨τ1, G1, J1, q⟩ := hsp; exact ⟨τ1, G1, J1.ofTry ok, q⟩
    | cont => obtain ⟨τ1, G1, J1, q⟩ := hsp; exact ⟨τ1, G1, J1.ofTry ok, q⟩
    | ret u => obtain ⟨v, τ1, G1, J1, r, q⟩ := hsp; exact ⟨v, τ1, G1, J1.ofTry ok, r, q⟩
end
end Vm
end
section
set_option Elab.async false
set_option linter.all false
set_option maxRecDepth 100000
set_option maxHeartbeats 4000000
/-! what an except suite hands back; raise and try as functions -/
namespace Vm
open PySem PySem.Spec PyProof.Rows L2

/-! ### raise -/
section
variable {K : PySem.W.Frag} {W : WX} {te : TE} {fe : Ro → Om → R Sv}
def sRaise (c f : Str) (fe : Ro → Om → R Sv) : Ro → Om → RS := fun ρ ω => (fe ρ ω).toS ρ fun a ω1 => match ω1.fz a with
  | some (d, ω2) => .ex c (some (f, d)) ρ ω2
  | none => .no
theorem semS_raise (c f : Str) (he : SemE K W te fe) : SemS K W (fun _ σ H => tRsE (gad K c) f (tCons te tNil) σ H fun cls d H' => W cls d σ H') (sRaise c f fe) := fun ρ ω σ F H ps r s D q =>
  he ρ ω σ F H ps r s _ (OutS.bind q s fun a ω1 v1 F1 H1 p1 s1 r1 q1 h1 => by
    split at h1
    · rename_i x ω2 e
      obtain ⟨F2, r2, s2, d2⟩ := Om.fz_ok e r1 q1
      refine ⟨v1, rfl, fun d hd => ?_⟩
      exact h1 _ (some d) σ F2 _ p1 (s2.trans (Stp.refl.redo hd)) (r2.away (r2.fnone hd) (r2.notin hd)) ((s.step s1).step s2) ⟨rfl, d, v1, rfl, upd_same, d2⟩
    · exact h1.elim)
def sRaise0 (c : Str) : Ro → Om → RS := fun ρ ω => .ex c none ρ ω
theorem semS_raise0 (c : Str) : SemS K W (fun _ σ H => W (.ref (gad K c)) none σ H) (sRaise0 c) := fun ρ ω σ F H ps r s D q =>
  q _ none σ F H ps Stp.refl r s ⟨rfl, rfl⟩
end

/-! ### what stands in a suite -/
inductive Xa where
  | cst (d : Dt) | fld (c f : Str) | isi (t : Isa) | rep (c f : Str) | and (a b : Xa) | not (a : Xa)
def fdAt (c c' f : Str) : Option (Str × Dt) → Option Dt
  | some (g, x) => if c = c' ∧ g = f then some x else none
  | none => none
def shownOf (x : Dt) : Option Dt := match x.pyR with
  | some p => if p.showable && decide (p.shown.length ≤ sizeLine) && decide (p.depth ≤ 60) then some (.str p.shown) else none
  | none => none
def Xa.ev (c : Str) (fd : Option (Str × Dt)) : Xa → Option Dt
  | .cst d => some d
  | .fld c' f => fdAt c c' f fd
  | .rep c' f => (fdAt c c' f fd).bind shownOf
  | .isi t => if c ∈ t.yes then some (.bl true) else if c ∈ t.no then some (.bl false) else none
  | .and a b => match a.ev c fd with
    | some (.bl true) => b.ev c fd
    | some (.bl false) => some (.bl false)
    | _ => none
  | .not a => match a.ev c fd with
    | some (.bl k) => some (.bl (!k))
    | _ => none
def xaAll (c : Str) (fd : Option (Str × Dt)) : List Xa → Option (List Dt)
  | [] => some []
  | x :: xs => match x.ev c fd, xaAll c fd xs with
    | some d, some ds => some (d :: ds)
    | _, _ => none
/-- what the suite hands back -/
inductive Xh where
  | one (x : Xa) | lst (xs : List Xa)
def Xh.ev (c : Str) (fd : Option (Str × Dt)) : Xh → Option Dt
  | .one x => x.ev c fd
  | .lst xs => match xaAll c fd xs with
    | some ds => if ds.length ≤ sizeLine then some (.lst ds) else none
    | none => none
/-- the reading of such an expression: a the error in hand, its class, its dict -/
def SemXa (K : PySem.W.Frag) (i : Option Nat) (a : Addr) (cls : Value) (dx : Option Addr) (t : TE) (x : Xa) : Prop :=
  ∀ c fd d σ F H ps ω, (∀ j, i = some j → σ[j]? = some (some (.ref a))) → ExAt K F H cls dx c fd → Rel K F H ps ω → x.ev c fd = some d → ∃ v, Dat K F v d ∧ ∀ Q : VK, Q v H → t σ H Q
def SemXas (K : PySem.W.Frag) (i : Option Nat) (a : Addr) (cls : Value) (dx : Option Addr) (t : TA) (xs : List Xa) : Prop :=
  ∀ c fd ds σ F H ps ω, (∀ j, i = some j → σ[j]? = some (some (.ref a))) → ExAt K F H cls dx c fd → Rel K F H ps ω → xaAll c fd xs = some ds → ∃ vs, DatAll K F vs ds ∧ ∀ Q : List V → Hp → Prop, Q vs H → t σ H Q
def SemXh (K : PySem.W.Frag) (i : Option Nat) (a : Addr) (cls : Value) (dx : Option Addr) (t : TE) (x : Xh) : Prop :=
  ∀ c fd d σ F H ps ω, (∀ j, i = some j → σ[j]? = some (some (.ref a))) → ExAt K F H cls dx c fd → Rel K F H ps ω → x.ev c fd = some d → ∀ Q : VK, (∀ v F' H' ps', Stp F H ps F' H' ps' → Rel K F' H' ps' ω → Dat K F' v d → Q v H') → t σ H Q
section
variable {K : PySem.W.Frag} {i : Option Nat} {a : Addr} {cls : Value} {dx : Option Addr} {t u : TE} {ta : TA} {x y : Xa} {xs : List Xa}
theorem semXas_nil : SemXas K i a cls dx tNil [] := fun c fd ds σ F H ps ω hi he r h => by
  cases h
  exact ⟨[], .nil, fun Q q => q⟩
theorem semXas_cons (h1 : SemXa K i a cls dx t x) (h2 : SemXas K i a cls dx ta xs) : SemXas K i a cls dx (tCons t ta) (x :: xs) := fun c fd ds σ F H ps ω hi he r h => by
  unfold xaAll at h
  split at h
  · rename_i d es e1 e2
    cases h
    obtain ⟨v, d1, q1⟩ := h1 c fd d σ F H ps ω hi he r e1
    obtain ⟨vs, d2, q2⟩ := h2 c fd es σ F H ps ω hi he r e2
    exact ⟨v :: vs, .cons d1 d2, fun Q q => q1 _ (q2 _ q)⟩
  · cases h
theorem semXh_one (h1 : SemXa K i a cls dx t x) : SemXh K i a cls dx t (.one x) := fun c fd d σ F H ps ω hi he r h Q q => by
  obtain ⟨v, d1, q1⟩ := h1 c fd d σ F H ps ω hi he r h
  exact q1 Q (q v F H ps Stp.refl r d1)
theorem semXh_lst (h1 : SemXas K i a cls dx ta xs) : SemXh K i a cls dx (tLst ta) (.lst xs) := fun c fd d σ F H ps ω hi he r h Q q => by
  simp only [Xh.ev] at h
  split at h
  · rename_i ds e
    split at h
    · rename_i hl
      cases h
      obtain ⟨vs, d1, q1⟩ := h1 c fd ds σ F H ps ω hi he r e
      refine q1 _ ⟨by rw [d1.length]; exact hl, fun p hp => ?_⟩
      obtain ⟨r1, s1⟩ := r.lay (o := .lst vs) hp
      exact q _ _ _ _ s1 r1 (Dat.lst upd_same (d1.mono s1.ex))
    · cases h
  · cases h
theorem semXa_cst {v : V} {d : Dt} (hv : ∀ F, Dat K F v d) : SemXa K i a cls dx (tC v) (.cst d) := fun c fd d' σ F H ps ω hi he r h => by
  cases h
  exact ⟨v, hv F, fun Q q => q⟩
theorem semXa_and (h1 : SemXa K i a cls dx t x) (h2 : SemXa K i a cls dx u y) : SemXa K i a cls dx (tAndT K t u) (.and x y) := fun c fd d σ F H ps ω hi he r h => by
  unfold Xa.ev at h
  split at h
  · rename_i e
    obtain ⟨v, d1, q1⟩ := h1 c fd _ σ F H ps ω hi he r e
    obtain ⟨v2, d2, q2⟩ := h2 c fd _ σ F H ps ω hi he r h
    cases d1
    exact ⟨v2, d2, fun Q q => q1 _ ⟨true, rfl, q2 Q q⟩⟩
  · rename_i e
    cases h
    obtain ⟨v, d1, q1⟩ := h1 c fd _ σ F H ps ω hi he r e
    cases d1
    exact ⟨.bl false, .bl false, fun Q q => q1 _ ⟨false, rfl, q⟩⟩
  · cases h
theorem semXa_not (h1 : SemXa K i a cls dx t x) : SemXa K i a cls dx (tNotT K t) (.not x) := fun c fd d σ F H ps ω hi he r h => by
  unfold Xa.ev at h
  split at h
  · rename_i k e
    cases h
    obtain ⟨v, d1, q1⟩ := h1 c fd _ σ F H ps ω hi he r e
    cases d1
    exact ⟨.bl (!k), .bl _, fun Q q => q1 _ ⟨k, rfl, q⟩⟩
  · cases h
theorem fdAt_ok {F H : Hp} {c c' f : Str} {fd : Option (Str × Dt)} {x : Dt} (h : fdAt c c' f fd = some x) (he : ExAt K F H cls dx c fd) : cls = .ref (gad K c') ∧ ∃ dd v, dx = some dd ∧ H dd = some (.xd [(f, v)]) ∧ Dat K F v x := by
  unfold fdAt at h
  split at h
  · rename_i g y
    split at h
    · rename_i hh
      obtain ⟨rfl, rfl⟩ := hh
      cases h
      obtain ⟨h1, dd, v, h2, h3, h4⟩ := he
      exact ⟨h1, dd, v, h2, h3, h4⟩
    · cases h
  · cases h
theorem semXa_fld {j : Nat} {c' f : Str} (hi : i = some j) : SemXa K i a cls dx (tXf a cls dx (gad K c') f (tVar j)) (.fld c' f) := fun c fd d σ F H ps ω hi2 he r h => by
  obtain ⟨h1, dd, v, h2, h3, h4⟩ := fdAt_ok h he
  exact ⟨v, h4, fun Q q => ⟨.ref a, hi2 j hi, rfl, h1, dd, _, v, h2, h3, by simp [List.lookup], q⟩⟩
theorem semXa_rep {j : Nat} {c' f : Str} (hi : i = some j) : SemXa K i a cls dx (tCB (rRepr K) (tCons (tXf a cls dx (gad K c') f (tVar j)) tNil)) (.rep c' f) := fun c fd d σ F H ps ω hi2 he r h => by
  unfold Xa.ev at h
  rw [Option.bind_eq_some_iff] at h
  obtain ⟨x, h, hs⟩ := h
  obtain ⟨h1, dd, v, h2, h3, h4⟩ := fdAt_ok h he
  unfold shownOf at hs
  split at hs
  · rename_i p ep
    split at hs
    · rename_i hc
      cases hs
      simp only [Bool.and_eq_true, decide_eq_true_eq] at hc
      exact ⟨.str p.shown, .str _, fun Q q => ⟨.ref a, hi2 j hi, rfl, h1, dd, _, v, h2, h3, by simp [List.lookup], v, x, p, rfl, ⟨F, r.ex, h4⟩, ep, hc.1.1, hc.1.2, hc.2, q⟩⟩
    · cases hs
  · cases hs
/-- isinstance(e, c), e the error in hand -/
def rIsH (K : PySem.W.Frag) (a : Addr) (cls : Value) (dx : Option Addr) : List V → Hp → VK → Prop := fun xs H Q => ∃ (D : Addr) (c : V) (u : Value) (b : Bool), xs = [.ref a, c] ∧ cls = .ref D ∧ ExcC K D ∧
  (dx = none ∨ ∃ dd fs, dx = some dd ∧ H dd = some (.xd fs)) ∧ ClsV c u ∧ PySem.W.kitOne K (.ref D) u = some b ∧ Q (.bl b) H
theorem semXa_isi {j : Nat} {cv : V} {u : Value} {T : Isa} (hi : i = some j) (k : ClsV cv u) (ok : IsaOk K u T) : SemXa K i a cls dx (tCB (rIsH K a cls dx) (tCons (tVar j) (tCons (tC cv) tNil))) (.isi T) := fun c fd d σ F H ps ω hi2 he r h => by
  have hd : cls = .ref (gad K c) ∧ (dx = none ∨ ∃ dd fs, dx = some dd ∧ H dd = some (.xd fs)) := by
    obtain ⟨h1, h2⟩ := he
    refine ⟨h1, ?_⟩
    split at h2
    · exact .inl h2
    · obtain ⟨dd, v, e1, e2, _⟩ := h2
      exact .inr ⟨dd, _, e1, e2⟩
  unfold Xa.ev at h
  split at h
  · rename_i hy
    cases h
    exact ⟨.bl true, .bl _, fun Q q => ⟨.ref a, hi2 j hi, gad K c, cv, u, true, rfl, hd.1, (ok.yes c hy).1, hd.2, k, (ok.yes c hy).2, q⟩⟩
  · split at h
    · rename_i hy
      cases h
      exact ⟨.bl false, .bl _, fun Q q => ⟨.ref a, hi2 j hi, gad K c, cv, u, false, rfl, hd.1, (ok.no c hy).1, hd.2, k, (ok.no c hy).2, q⟩⟩
    · cases h
end
theorem call_isH {X : Cx} {a : Addr} {oe : Obj} {pn : List (Addr × Obj)} {cls : Value} {dx : Option Addr} (hz : Zc cls dx oe) (hf : ∃ vs, oe.data = .fields vs) :
    CallR (X.suite a ((a, oe) :: pn)) (.builtin "isinstance") (rIsH X.K a cls dx) := by
  intro pins s σ H xs us Q I r h
  obtain ⟨D, c, u, b, rfl, ec, T, hd, k, e, q⟩ := h
  cases r with | cons rx rr =>
  cases rr with | cons rt rr =>
  cases rr
  cases rx
  have eu := k.eq rt
  subst eu
  subst ec
  obtain ⟨hget, _⟩ := I.pin (a, oe) (List.mem_append.mpr (.inl List.mem_cons_self))
  obtain ⟨vs, hv⟩ := hf
  have J : ∃ ox od, PySem.W.InstAt s.heap a ox D od := by
    obtain ⟨oc, od, oda, osl⟩ := oe
    obtain ⟨h1, h2⟩ := hz
    dsimp only at h1 h2 hv
    subst h1 h2 hv
    rcases hd with rfl | ⟨dd, fs, rfl, ed⟩
    · exact ⟨_, none, hget, rfl, rfl, trivial⟩
    · have hx : ObjOk X.prog X.w H s.heap dd (.xd fs) := I.hok dd _ ed
      obtain ⟨mA, hns, _⟩ := hx
      obtain ⟨o, ho, _⟩ := lookIn_ns hns
      exact ⟨_, some o, hget, rfl, rfl, ho⟩
  exact PySem.W.kia_one (kit_err T) I.kIn J e (fun z => nomatch z) fun tk => ⟨.bl b, H, I.kept (t' := tk) fun _ _ z => z, rfl, q⟩

/-! ### try -/
/-- a clause: its classes' answers, the name's slot, what is handed back -/
structure Hd where
  t : Isa
  i : Option Nat
  h : Xh
def slotOk (i : Option Nat) (n : Nat) : Bool := match i with
  | some j => decide (j < n)
  | none => true
def hdGo (c : Str) (fd : Option (Str × Dt)) (ρ : Ro) (ω : Om) : List Hd → RS
  | [] => .ex c fd ρ ω
  | h :: hs => if c ∈ h.t.yes then (if slotOk h.i ρ.length = true then (match h.h.ev c fd with
      | some d => .rt (.dat d) ω
      | none => .no) else .no)
    else if c ∈ h.t.no then hdGo c fd ρ ω hs else .no
def sTry (f : Ro → Om → RS) (hs : List Hd) : Ro → Om → RS := fun ρ ω => match f ρ ω with
  | .ex c fd ρ1 ω1 => hdGo c fd ρ1 ω1 hs
  | r => r
/-- what a clause's class says of the errors that may come -/
structure ExmOk (K : PySem.W.Frag) (u : Value) (t : Isa) : Prop where
  yes : ∀ c ∈ t.yes, PySem.W.exmOne K (.ref (gad K c)) u = some true
  no : ∀ c ∈ t.no, PySem.W.exmOne K (.ref (gad K c)) u = some false
inductive HdsSem (K : PySem.W.Frag) : List Clz → List Hd → Prop
  | nil : HdsSem K [] []
  | cons {u : Value} {th : Addr → Value → Option Addr → TE} {h : Hd} {l : List Clz} {hs : List Hd} (ok : ExmOk K u h.t)
      (s : ∀ a cls dx, SemXh K h.i a cls dx (th a cls dx) h.h) (r : HdsSem K l hs) : HdsSem K ((u, h.i, fun a cls dx => tRet (th a cls dx)) :: l) (h :: hs)
section
variable {K : PySem.W.Frag} {W : WX}
theorem clz_ok {c : Str} {fd : Option (Str × Dt)} {cls : Value} {dx : Option Addr} {F H : Hp} {ps : List Addr} {ω : Om} {σ : L2.St} {ρ : Ro} {D : Ends} (r : Rel K F H ps ω) (s : Slots K F ps σ ρ) (he : ExAt K F H cls dx c fd) :
    ∀ {l : List Clz} {hs : List Hd}, HdsSem K l hs → OutS K F H ps W D (hdGo c fd ρ ω hs) → wClz K W D l cls dx σ H := by
  intro l hs hk
  have ec : cls = .ref (gad K c) := he.1
  induction hk with
  | nil => exact fun h => h cls dx σ F H ps Stp.refl r s he
  | @cons u th h l hs ok sm _ ih =>
    intro o
    unfold hdGo at o
    have key : (c ∈ h.t.yes → slotOk h.i ρ.length = true) ∧ ∃ b, PySem.W.exmOne K cls u = some b ∧ (b = true → ∀ a, H a = none → ∀ σ2 : L2.St, (∀ j, h.i = some j → σ2[j]? = some (some (.ref a))) → th a cls dx σ2 H D.rt) ∧ (b = false → wClz K W D l cls dx σ H) := by
      split at o
      · rename_i hy
        split at o
        case isFalse => exact o.elim
        rename_i hso
        refine ⟨fun _ => hso, true, by rw [ec]; exact ok.yes c hy, fun _ a ha σ2 h2 => ?_, fun z => by cases z⟩
        split at o
        · rename_i d ed
          exact sm a cls dx c fd d σ2 F H ps ω h2 he r ed _ fun v F' H' ps' s' r' q' => o v F' H' ps' s' r' q'
        · exact o.elim
      · rename_i hny
        split at o
        · rename_i hy
          exact ⟨fun z => absurd z hny, false, by rw [ec]; exact ok.no c hy, fun z => (by cases z), fun _ => ih o⟩
        · exact o.elim
    obtain ⟨kso, b, k1, k2, k3⟩ := key
    cases ei : h.i with
    | none => exact ⟨b, k1, fun hb a ha => k2 hb a ha σ (by rw [ei]; exact fun j z => by cases z), k3⟩
    | some j =>
      refine ⟨b, k1, fun hb a ha => k2 hb a ha _ fun j' z => ?_, k3⟩
      rw [ei] at z
      cases z
      have hy : c ∈ h.t.yes := by
        refine Classical.byContradiction fun hny => ?_
        rw [if_neg hny] at o
        split at o
        · rename_i hno
          have := ok.no c hno
          rw [ec, this] at k1
          rw [← Option.some.inj k1] at hb
          cases hb
        · exact o.elim
      have hso := kso hy
      rw [ei] at hso
      exact List.getElem?_set_self (by rw [s.len]; exact of_decide_eq_true hso)
theorem semS_try {tb : WX → TS} {f : Ro → Om → RS} {l : List Clz} {hs : List Hd} (hb : ∀ W, SemS K W (tb W) f) (hk : HdsSem K l hs) :
    SemS K W (fun D σ H => tb (wClz K W D l) D σ H) (sTry f hs) := fun ρ ω σ F H ps r s D q => by
  refine hb (wClz K W D l) ρ ω σ F H ps r s D ?_
  unfold sTry at q
  cases e : f ρ ω with
  | no => rw [e] at q; exact q
  | nx a b => rw [e] at q; exact q
  | rt a b => rw [e] at q; exact q
  | bk a b => rw [e] at q; exact q
  | ct a b => rw [e] at q; exact q
  | ex c fd ρ1 ω1 =>
    rw [e] at q
    exact fun cls dx σ1 F1 H1 p1 s1 r1 sl he => clz_ok r1 sl he hk (OutS.step s1 q)
end
end Vm
end
section
set_option Elab.async false
set_option linter.all false
set_option maxRecDepth 100000
set_option maxHeartbeats 4000000
/-! instances: a field is stored; one is made -/
namespace Vm
open PySem PySem.Spec PyProof.Rows L2
/-- o.f = e -/
def sPutF (cs : List Str) (f : Str) (fo fe : Ro → Om → R Sv) : Ro → Om → RS := fun ρ ω => (fe ρ ω).toS ρ fun y ω1 => (fo ρ ω1).toS ρ fun o ω2 => match o with
  | .own j => match ω2[j]? with
    | some (.ins c fs) => if c ∈ cs ∧ fs.length < 1000 then .nx ρ (ω2.set j (.ins c (putS f y fs))) else .no
    | _ => .no
  | _ => .no
section
variable {K : PySem.W.Frag} {W : WX} {te to : TE} {fe fo : Ro → Om → R Sv}
theorem semS_putF {cs : List Str} {f : Str} (ho : SemE K W to fo) (he : SemE K W te fe) (hc : ∀ c ∈ cs, Cls K (gad K c) ∧ NoAttr K (gad K c) f) : SemS K W (sFld K to te f) (sPutF cs f fo fe) := fun ρ ω σ F H ps r s D q =>
  he ρ ω σ F H ps r s _ (OutS.bind q s fun y ω1 v1 F1 H1 p1 s1 r1 q1 h1 =>
    ho ρ ω1 σ F1 H1 p1 r1 (s.step s1) _ (OutS.bind h1 (s.step s1) fun o ω2 v2 F2 H2 p2 s2 r2 q2 h2 => by
      split at h2
      · rename_i j
        split at h2
        · rename_i c fs ej
          split at h2
          · rename_i hm
            obtain ⟨p, hp, rfl⟩ := q2
            obtain ⟨hf, dx, vs, hv, hn, ha⟩ := r2.ob j p _ hp ej
            obtain ⟨e1, e2⟩ := put_fs (f := f) (q1.step s2) hn ha
            obtain ⟨r3, s3⟩ := r2.putO (o := .ins (gad K c) dx (putF f v1 vs)) (u := .ins c (putS f y fs)) hp ej hf ⟨hf, dx, _, upd_same, e1, e2⟩
            have hl : vs.length = fs.length := by simpa using congrArg List.length hn
            exact ⟨p, _, dx, vs, rfl, hv, (hc c hm.1).1, (hc c hm.1).2, by rw [hl]; exact hm.2, h2 σ _ _ _ s3 r3 (((s.step s1).step s2).step s3)⟩
          · exact h2.elim
        · exact h2.elim
      · exact h2.elim))
end
end Vm
end
section
set_option Elab.async false
set_option linter.all false
set_option maxRecDepth 100000
set_option maxHeartbeats 4000000
/-! own classes: instances made, methods called, where nothing is being shown -/
namespace Vm
open PySem PySem.Spec PyProof.Rows L2
section
variable {X : Cx} {k : Nat} {f C : Addr} {sp : Sp} {E : L2.St → XK}
theorem run_makeG {pn : List (Addr × Obj)} {τ : L2.St} {G : Hp} {t : Shared} {Q : VK} {as : List Value} {bs : List V}
    (m : L2.Mk X.K C f) (g : FnG X.prog X.w X.K X.mg X.base k f sp)
    (rm : Room (k + 1) X.A) (gu : X.A.guards = some [])
    (pa : PassesAt (L2.CX X.prog X.w) X τ (E τ))
    (J : Inv X pn τ G t) (vv : Vals bs as)
    (q : ∀ x d, G x = none → G d = none → d ≠ x →
      sp (.ref x :: bs) (upd (upd G d (.own x)) x (.ins C d [])) (fun v G2 => v = .non ∧ Q (.ref x) G2) (E τ)) :
    wpAny (model X.prog X.w) X.A (call (.ref C) as) (EP X pn τ Q) X.xe t := by
  have q1 := q (t.heap.objs.size + 1) t.heap.objs.size
    (J.hok.fresh (Nat.le_succ _)) (J.hok.fresh (Nat.le_refl _)) (Nat.ne_of_lt (Nat.lt_succ_self _))
  have J2 := Inv.made (C := C) J
  have w2 : Vals (V.ref (t.heap.objs.size + 1) :: bs)
      (Value.ref (t.heap.objs.size + 1) :: as) := .cons rfl vv
  have go := g.run _ X.stack _ _ _ _ _ (E τ) (rm.make C as []) gu (J2.env0.make C as []) w2 q1
  refine wpAny_call (make_map (f := f) J.kIn m.makes m.init (beq_iff_eq.mp m.fn)
    (codeAny_mono go fun r s' hr => ?_))
  match r, hr with
  | .error e, hr => exact pa pn _ _ e s' J2 hr
  | .ok (.ret u), hr =>
    obtain ⟨v, G3, J3, rv, ev, q3⟩ := J2.after hr
    cases ev
    exact ⟨rv, V.ref (t.heap.objs.size + 1), G3, J3, rfl, q3⟩
  | .ok .next, hr => exact hr.elim
  | .ok .brk, hr => exact hr.elim
  | .ok .cont, hr => exact hr.elim
end
end Vm
namespace Vm
open PySem PySem.Spec PyProof.Rows L2
section
variable {X : Cx} {k : Nat} {f C a dx : Addr} {sp : Sp} {E : L2.St → XK} {pn : List (Addr × Obj)} {τ : L2.St} {G : Hp} {t : Shared} {Q : VK} {fs : List (Str × V)}
/-- a call of a def of the class, with an answer that is looked at further -/
theorem run_fnG' {Z : Value → Shared → Prop} {as : List Value} {bs : List V} {R : VK} (g : FnG X.prog X.w X.K X.mg X.base k f sp) (rm : Room k X.A) (gu : X.A.guards = some [])
    (pa : PassesAt (L2.CX X.prog X.w) X τ (E τ)) (J : Inv X pn τ G t) (vv : Vals bs as) (q : sp bs G R (E τ))
    (z : ∀ u v G' t', Inv X pn τ G' t' → RelV v u → R v G' → Z u t') : wpAny (model X.prog X.w) X.A (call (.ref f) as) Z X.xe t :=
  wpAny_mono (run_fnG g rm gu pa J vv q) (fun u t' ⟨v, G', J', rv, h⟩ => z u v G' t' J' rv h) fun _ _ h => h
theorem run_inG {x : V} {u : Value} (g : FnG X.prog X.w X.K X.mg X.base k f sp) (rm : Room k X.A) (gu : X.A.guards = some [])
    (pa : PassesAt (L2.CX X.prog X.w) X τ (E τ)) (J : Inv X pn τ G t) (h : G a = some (.ins C dx fs)) (rx : RelV x u)
    (hs : PySem.W.findIn X.K (.ref C) "__contains__" = some (some (.ref f))) (hf : PySem.W.isFn X.K (.ref f) = true)
    (q : sp [.ref a, x] G (fun v G' => ∃ b, v = .bl b ∧ Q (.bl b) G') (E τ)) : wpAny (model X.prog X.w) X.A (compareOp .In u (.ref a)) (EP X pn τ Q) X.xe t := by
  obtain ⟨mA, O, _⟩ := ins_get J.hok h
  obtain ⟨od, O, _⟩ := O.look
  obtain ⟨m, fr⟩ := J.fr
  refine PySem.W.in_K fr J.ok.mod.kin O hs hf (run_fnG' (E := E) (bs := [.ref a, x]) g rm gu pa J (.cons rfl (.cons rx .nil)) q ?_)
  rintro w v G' t' J' rv ⟨b, rfl, hq⟩
  cases rv
  exact wpAny_truthy_bool ⟨.bl b, G', J', rfl, hq⟩
theorem run_notInG {x : V} {u : Value} (g : FnG X.prog X.w X.K X.mg X.base k f sp) (rm : Room k X.A) (gu : X.A.guards = some [])
    (pa : PassesAt (L2.CX X.prog X.w) X τ (E τ)) (J : Inv X pn τ G t) (h : G a = some (.ins C dx fs)) (rx : RelV x u)
    (hs : PySem.W.findIn X.K (.ref C) "__contains__" = some (some (.ref f))) (hf : PySem.W.isFn X.K (.ref f) = true)
    (q : sp [.ref a, x] G (fun v G' => ∃ b, v = .bl b ∧ Q (.bl !b) G') (E τ)) : wpAny (model X.prog X.w) X.A (compareOp .NotIn u (.ref a)) (EP X pn τ Q) X.xe t := by
  obtain ⟨mA, O, _⟩ := ins_get J.hok h
  obtain ⟨od, O, _⟩ := O.look
  obtain ⟨m, fr⟩ := J.fr
  refine PySem.W.notIn_K fr J.ok.mod.kin O hs hf (run_fnG' (E := E) (bs := [.ref a, x]) g rm gu pa J (.cons rfl (.cons rx .nil)) q ?_)
  rintro w v G' t' J' rv ⟨b, rfl, hq⟩
  cases rv
  exact wpAny_truthy_bool ⟨.bl (!b), G', J', rfl, hq⟩
/-- x op y by the class's own method, y of the same class -/
theorem run_opG {op : Operator} {b dy : Addr} {gs : List (Str × V)} (g : FnG X.prog X.w X.K X.mg X.base k f sp) (rm : Room k X.A) (gu : X.A.guards = some [])
    (pa : PassesAt (L2.CX X.prog X.w) X τ (E τ)) (J : Inv X pn τ G t) (h : G a = some (.ins C dx fs)) (h2 : G b = some (.ins C dy gs))
    (hc : PySem.W.selfFirst X.K C = true) (hs : PySem.W.findIn X.K (.ref C) (PySem.dunder op.info.2) = some (some (.ref f))) (hf : PySem.W.isFn X.K (.ref f) = true)
    (q : sp [.ref a, .ref b] G (fun v G' => ∃ c, v = .ref c ∧ Q v G') (E τ)) : wpAny (model X.prog X.w) X.A (binaryOp op (.ref a) (.ref b)) (EP X pn τ Q) X.xe t := by
  obtain ⟨mA, O, _⟩ := ins_get J.hok h
  obtain ⟨od, O, _⟩ := O.look
  obtain ⟨mB, O2, _⟩ := ins_get J.hok h2
  obtain ⟨od2, O2, _⟩ := O2.look
  obtain ⟨m, fr⟩ := J.fr
  refine PySem.W.binop_K fr J.ok.mod.kin O O2.type hc hs hf (run_fnG' (E := E) (bs := [.ref a, .ref b]) g rm gu pa J (.cons rfl (.cons rfl .nil)) q ?_)
  rintro w v G' t' J' rv ⟨c, rfl, hq⟩
  cases rv
  exact ⟨.ref c, G', J', rfl, hq⟩
/-- the same under another head: one that shares the frames -/
theorem run_fnGA {A : Around} {Z : Value → Shared → Prop} {as : List Value} {bs : List V} {R : VK} (g : FnG X.prog X.w X.K X.mg X.base k f sp) (rm : Room k A) (gu : A.guards = some []) (fa : A.frames = X.A.frames)
    (pa : PassesAt (L2.CX X.prog X.w) X τ (E τ)) (J : Inv X pn τ G t) (vv : Vals bs as) (q : sp bs G R (E τ))
    (z : ∀ u v G' t', Inv X pn τ G' t' → RelV v u → R v G' → Z u t') : wpAny (model X.prog X.w) A (call (.ref f) as) Z X.xe t := by
  have e0 : Env0 X.prog X.w X.K X.mg X.base A X.stack t G := by
    have e := J.env0
    exact { e with frames := by rw [fa]; exact e.frames }
  refine wpAny_call (codeAny_mono (g.run A X.stack t G as bs R (E τ) rm gu e0 vv q) fun r t' hr => ?_)
  match r, hr with
  | .error e, hr => exact pa pn G t e t' J hr
  | .ok (.ret u), hr =>
    obtain ⟨v, G', J', rv, h⟩ := J.after hr
    exact z u v G' t' J' rv h
  | .ok .next, hr => exact hr.elim
  | .ok .brk, hr => exact hr.elim
  | .ok .cont, hr => exact hr.elim
/-- x == y and the like, by the class's own method, y of whatever type -/
theorem run_eqG {op : CmpOp} {x : V} {u tb : Value} (g : FnG X.prog X.w X.K X.mg X.base k f sp) (rm : Room k X.A) (gu : X.A.guards = some [])
    (pa : PassesAt (L2.CX X.prog X.w) X τ (E τ)) (J : Inv X pn τ G t) (h : G a = some (.ins C dx fs)) (rx : RelV x u)
    (hb : PySem.W.Looks (model X.prog X.w) t.heap (typeOf u) tb) (hn : PySem.W.notFirst X.K C tb = true)
    (hs : PySem.W.findIn X.K (.ref C) (cmpInfo op).2.1 = some (some (.ref f))) (hf : PySem.W.isFn X.K (.ref f) = true)
    (q : sp [.ref a, x] G (fun v G' => ∃ b, v = .bl b ∧ Q (.bl b) G') (E τ)) : wpAny (model X.prog X.w) X.A (richCompare op (.ref a) u) (EP X pn τ Q) X.xe t := by
  obtain ⟨mA, O, _⟩ := ins_get J.hok h
  obtain ⟨od, O, _⟩ := O.look
  obtain ⟨m, fr⟩ := J.fr
  refine PySem.W.cmp_K rm.units0 fr J.ok.mod.kin O hb hn hs hf (run_fnG' (E := E) (bs := [.ref a, x]) g rm gu pa J (.cons rfl (.cons rx .nil)) q ?_)
  rintro w v G' t' J' rv ⟨b, rfl, hq⟩
  cases rv
  exact ⟨.bl b, G', J', rfl, hq⟩
/-- len(x) by the class's own method -/
theorem run_lenG {A1 : Around} (hA : A1 = X.A.in1) (g : FnG X.prog X.w X.K X.mg X.base k f sp) (rm : Room k A1) (gu : A1.guards = some []) (fa : A1.frames = X.A.frames)
    (pa : PassesAt (L2.CX X.prog X.w) X τ (E τ)) (J : Inv X pn τ G t) (h : G a = some (.ins C dx fs))
    (hs : PySem.W.findIn X.K (.ref C) "__len__" = some (some (.ref f))) (hf : PySem.W.isFn X.K (.ref f) = true)
    (q : sp [.ref a] G (fun v G' => ∃ n : Int, v = .int n ∧ (0 ≤ n ∧ n < 2 ^ 63) ∧ Q (.int n) G') (E τ)) : wpAny (model X.prog X.w) X.A (call (.builtin "len") [.ref a]) (EP X pn τ Q) X.xe t := by
  obtain ⟨mA, O, _⟩ := ins_get J.hok h
  obtain ⟨od, O, _⟩ := O.look
  obtain ⟨m, fr⟩ := J.fr
  subst hA
  refine PySem.W.len_K fr J.ok.mod.kin O hs hf (run_fnGA (E := E) (bs := [.ref a]) g rm gu fa pa J (.cons rfl .nil) q ?_)
  rintro w v G' t' J' rv ⟨n, rfl, hn, hq⟩
  obtain ⟨tk, rfl⟩ := rv
  exact ⟨hn, .int n, G', J'.tok _, ⟨_, rfl⟩, hq⟩
/-- x.f, a property whose getter raises nothing -/
theorem run_propG {A1 : Around} (hA : A1 = X.A.in1) {p : Addr} {n : Str} {b : Bool} {Z : Value → Shared → Prop} {ex : XK}
    (g : FnG X.prog X.w X.K X.mg X.base k f sp) (rm : Room k A1) (gu : A1.guards = some [])
    (pa : PassesAt (L2.CX X.prog X.w) X.nox τ ex) (J : Inv X pn τ G t) (h : G a = some (.ins C dx fs)) (c : Cls X.K C) (pr : PropOf X.K C n p f)
    (q : sp [.ref a] G Q ex) : wpAny (model X.prog X.w) X.A (getAttr (.ref a) n b) (EP X pn τ Q) Z t := by
  obtain ⟨mA, O, _⟩ := ins_get J.hok h
  obtain ⟨od, O, _⟩ := O.look
  obtain ⟨rest, hrec⟩ := pr.rec_
  have J1 := J.tok (t.toks + 1)
  subst hA
  have isc : (PySem.W.clsIn X.K C).isSome = true := by
    obtain ⟨cd, e, _⟩ := PySem.W.any_some c.hd
    rw [e]; rfl
  obtain ⟨pl1, pl2⟩ := PySem.W.plainGet_of (c.get n)
  have go := g.run X.A.in1 X.stack { t with toks := t.toks + 1 } G [.ref a] [.ref a] Q ex rm gu J1.env0.in1 (.cons rfl .nil) q
  refine PySem.W.get_bind J.kIn O pl1 (PySem.W.findObj_data isc pr.at_ pr.get pr.tak) pl2
    (wpAny_call (PySem.W.prop_get (s := { t with toks := t.toks + 1 }) J.kIn hrec (codeAny_mono go fun r t' hr => ?_)))
  match r, hr with
  | .error e, hr => exact False.elim (pa pn G { t with toks := t.toks + 1 } e t' (J1.wish _) hr)
  | .ok (.ret u), hr =>
    obtain ⟨v, G', J', rv, h'⟩ := J1.after hr
    show wpAny _ _ (handedOut u) _ _ _
    rw [PySem.W.handedOut_of (handed_of rv)]
    exact wpAny_pure ⟨v, G', J', rv, h'⟩
  | .ok .next, hr => exact hr.elim
  | .ok .brk, hr => exact hr.elim
  | .ok .cont, hr => exact hr.elim
/-- x(..), the class's own __call__ -/
theorem run_ownG {as : List Value} {bs : List V} (g : FnG X.prog X.w X.K X.mg X.base k f sp) (rm : Room k X.A) (gu : X.A.guards = some [])
    (pa : PassesAt (L2.CX X.prog X.w) X τ (E τ)) (J : Inv X pn τ G t) (h : G a = some (.ins C dx fs)) (vv : Vals bs as)
    (hs : PySem.W.findIn X.K (.ref C) "__call__" = some (some (.ref f))) (hf : PySem.W.isFn X.K (.ref f) = true) (hfn : PySem.W.fnIn X.K f = true)
    (q : sp (.ref a :: bs) G Q (E τ)) : wpAny (model X.prog X.w) X.A (call (.ref a) as) (EP X pn τ Q) X.xe t := by
  obtain ⟨mA, O, _⟩ := ins_get J.hok h
  obtain ⟨od, O, _⟩ := O.look
  have w : Vals (V.ref a :: bs) (Value.ref a :: as) := .cons rfl vv
  refine wpAny_call (PySem.W.kco_code J.kIn O rfl hs hf hfn (codeAny_mono (g.run X.A X.stack t G _ _ Q (E τ) rm gu J.env0 w q) fun r t' hr => ?_))
  match r, hr with
  | .error e, hr => exact pa pn G t e t' J hr
  | .ok (.ret u), hr => exact J.after hr
  | .ok .next, hr => exact hr.elim
  | .ok .brk, hr => exact hr.elim
  | .ok .cont, hr => exact hr.elim
end
end Vm
end
section
set_option Elab.async false
set_option linter.all false
set_option maxRecDepth 100000
set_option maxHeartbeats 4000000
/-! an instance is made -/
namespace Vm
open PySem PySem.Spec PyProof.Rows L2
def fNew (c : Str) (g : List Sv → Om → R Sv) (fs : Ro → Om → R (List Sv)) : Ro → Om → R Sv := fun ρ ω => (fs ρ ω).bind fun as ω1 => (g (.own ω1.length :: as) (ω1 ++ [.ins c []])).bind fun v ω2 => match v with
  | .dat .non => .ok (.own ω1.length) ω2
  | _ => .no
def tNewG (C : Addr) (sp : Sp) (E : L2.St → XK) (t : TA) : TE := fun σ H Q => t σ H fun vs H1 => ∀ x d, H1 x = none → H1 d = none → d ≠ x →
  sp (.ref x :: vs) (upd (upd H1 d (.own x)) x (.ins C d [])) (fun v G2 => v = .non ∧ Q (.ref x) G2) (E σ)
section
variable {K : PySem.W.Frag} {W : WX} {ts : TA} {fs : Ro → Om → R (List Sv)}
theorem sem_new (c : Str) (g : List Sv → Om → R Sv) (hs : SemA K W ts fs) : SemE K W (tNewG (gad K c) (spOf K g) (WE W) ts) (fNew c g fs) := fun ρ ω σ F H ps rl s Q h =>
  hs ρ ω σ F H ps rl s _ (Out.bind h fun as ω1 xs F1 H1 p1 s1 r1 q1 h1 => by
    intro x d hx hd ne
    obtain ⟨r2, s2⟩ := r1.growI (c := c) hx hd ne
    have qx : SvAt K F1 (p1 ++ [x]) (.ref x) (.own ω1.length) := ⟨x, by rw [← r1.len]; simp, rfl⟩
    refine ⟨F1, p1 ++ [x], ω1 ++ [.ins c []], .own ω1.length :: as, r2, .cons qx (q1.step s2), ?_⟩
    cases e : g (.own ω1.length :: as) (ω1 ++ [.ins c []]) with
    | no => rw [e] at h1; exact h1
    | ex cl fd ω2 =>
      rw [e] at h1
      exact fun cls dx F' H' ps' s r x => h1 cls dx F' H' ps' (s2.trans s) r x
    | ok v ω2 =>
      rw [e] at h1
      intro v1 F' H' ps' s3 r3 q3
      rw [R.bind_ok] at h1
      split at h1
      · exact ⟨Dat.non_inv q3, h1 (.ref x) F' H' ps' (s2.trans s3) r3 (qx.step s3)⟩
      · exact h1.elim)
end
section
variable {X : Cx} {k : Nat} {f C : Addr} {sp : Sp} {E : L2.St → XK} {x : Str} {p pos : Pos} {e : Expr} {es : List Expr} {t : TA}
theorem pe_newG (m : L2.Mk X.K C f) (F : FnG X.prog X.w X.K X.mg X.base k f sp) (hr : Room (k + 1) X.A) (hg : X.A.guards = some []) (hgl : Gl X x) (hm : X.mg x = some (.ref C))
    (hx : ∀ σ, PassesAt (L2.CX X.prog X.w) X σ (E σ)) (ha : PA X (e :: es) t) (hdb : (x == ("__debug__" : Str)) = false)
    (he : starEach (e :: es) X.env = (false, eval e X.env) :: starEach es X.env) (hpl : (backTo pos (starEach es X.env)).any (·.1) = false) : PE X (.Call (.Name x p) (e :: es) [] pos) (tNewG C sp E t) := by
  constructor
  intro pins s σ H Q I h
  refine wpAny_Call_Name_kw (ld_glob I hgl hm ?_ hdb)
  refine PySem.W.callWith_K (h₀ := X.base) I.ok.mod.kin m.kp (thn (ha.run pos pins s σ H _ I h) ?_) he hpl
  rintro us s1 ⟨vs, H1, I1, r, q⟩
  exact ⟨I1.kIn, run_makeG m F hr hg (hx σ) I1 r q⟩
theorem pe_newG0 (m : L2.Mk X.K C f) (F : FnG X.prog X.w X.K X.mg X.base k f sp) (hr : Room (k + 1) X.A) (hg : X.A.guards = some []) (hgl : Gl X x) (hm : X.mg x = some (.ref C))
    (hx : ∀ σ, PassesAt (L2.CX X.prog X.w) X σ (E σ)) (hdb : (x == ("__debug__" : Str)) = false) : PE X (.Call (.Name x p) [] [] pos) (tNewG C sp E tNil) := by
  constructor
  intro pins s σ H Q I h
  exact wpAny_Call_Name_kw (ld_glob I hgl hm (PySem.W.callWith_K0 I.kIn m.kp (run_makeG (as := []) m F hr hg (hx σ) I .nil h)) hdb)
end
end Vm
end
section
set_option Elab.async false
set_option linter.all false
set_option maxRecDepth 100000
set_option maxHeartbeats 4000000
/-! x.m(..), m a method of x's own class -/
namespace Vm
open PySem PySem.Spec PyProof.Rows L2
/-- a method's name among the defs -/
def mnm (c m : Str) : Str := c ++ "." ++ m
def fMeth (cs : List Str) (m : Str) (nm : Str → Str) (call : Str → List Sv → Om → R Sv) (fa : Ro → Om → R Sv) (fs : Ro → Om → R (List Sv)) : Ro → Om → R Sv := fun ρ ω => (fa ρ ω).bind fun x ω1 => match ω1.ins x with
  | some (c, fl) => if c ∈ cs ∧ fl.lookup m = none then (fs ρ ω1).bind fun as ω2 => call (nm c) (x :: as) ω2 else .no
  | none => .no
def tMethG (PR : Addr → Sp → Prop) (K : PySem.W.Frag) (m : Str) (E : L2.St → XK) (ta : TE) (t : TA) : TE := fun σ H Q => ta σ H fun x H1 => ∃ a C dx fs f sp, x = .ref a ∧ H1 a = some (.ins C dx fs) ∧ fs.lookup m = none ∧
  Cls K C ∧ Meth K C m f ∧ PR f sp ∧ t σ H1 fun vs H2 => sp (x :: vs) H2 Q (E σ)
section
variable {K : PySem.W.Frag} {W : WX} {ta : TE} {ts : TA} {fa : Ro → Om → R Sv} {fs : Ro → Om → R (List Sv)} {PR : Addr → Sp → Prop}
theorem look_none {f : Str} : ∀ {vs : List (Str × V)} {fs : List (Str × Sv)}, vs.map (·.1) = fs.map (·.1) → fs.lookup f = none → vs.lookup f = none
  | [], [], _, _ => rfl
  | (g, v) :: vs, (g', s) :: fs, hn, h => by
    simp only [List.map_cons, List.cons.injEq] at hn
    obtain ⟨rfl, hn⟩ := hn
    rw [List.lookup_cons] at h ⊢
    cases e : f == g with
    | true => rw [e] at h; cases h
    | false =>
      rw [e] at h
      exact look_none hn h
  | [], _ :: _, hn, _ => by cases hn
  | _ :: _, [], hn, _ => by cases hn
theorem sem_meth {cs : List Str} {m : Str} {nm : Str → Str} {call : Str → List Sv → Om → R Sv} {ad : Str → Addr} (ha : SemE K W ta fa) (hs : SemA K W ts fs)
    (hc : ∀ c ∈ cs, Cls K (gad K c) ∧ Meth K (gad K c) m (ad c) ∧ PR (ad c) (spOf K (call (nm c)))) : SemE K W (tMethG PR K m (WE W) ta ts) (fMeth cs m nm call fa fs) := fun ρ ω σ F H ps rl s Q h =>
  ha ρ ω σ F H ps rl s _ (Out.bind h fun x ω1 v F1 H1 p1 s1 r1 q1 h1 => by
    split at h1
    · rename_i c fl e
      split at h1
      · rename_i hm
        obtain ⟨p, dx, vs, rfl, h2, h3, h4⟩ := Om.ins_ok e r1 q1
        obtain ⟨c1, c2, c3⟩ := hc c hm.1
        refine ⟨p, _, dx, vs, ad c, _, rfl, h2, look_none h3 hm.2, c1, c2, c3, ?_⟩
        exact hs ρ ω1 σ F1 H1 p1 r1 (s.step s1) _ (Out.bind h1 fun as ω2 xs F2 H2 p2 s2 r2 q2 h5 =>
          ⟨F2, p2, ω2, x :: as, r2, .cons (q1.step s2) q2, h5.wish fun _ _ _ z => z⟩)
      · exact h1.elim
    · exact h1.elim)
end
section
variable {prog : Program} {w : World} {A : Around} {E : Value → Shared → Prop} {s : Shared} {env : Env}
theorem meth_late {o : Expr} {name : Str} {apos pos : Pos} {args : List Expr} {Q : Value → Shared → Prop} (hbase : attributeBase o name env (eval o env) = eval o env)
    (hfew : ((backTo pos (starEach args env)).all (fun x => !x.1) && (backToKw pos (keywordEach [] env)).all (fun x => x.1.isSome)
      && decide (args.length + ([] : List Keyword).length + (if ([] : List Keyword).isEmpty then 0 else 1) < 30)) = true)
    (hline : (apos.endLine == pos.line) = true)
    (h : wpAny (model prog w) A (eval o env) (fun ov s₁ => ∀ pl, wpAny (model prog w) A (getMethod ov name pl) (fun fx s2 => wpAny (model prog w) A (callWith pos fx.1 fx.2 (backTo pos (starEach args env)) (backToKw pos (keywordEach [] env))) Q E s2) E s₁) E s) :
    wpAny (model prog w) A (eval (.Call (.Attribute o name apos) args [] pos) env) Q E s := by
  rw [arm_eval_Call, hbase]
  refine wpAny_bind (wpAny_mono h (fun ov s₁ h₁ => ?_) fun _ _ e => e)
  refine wpAny_bind (wpAny_standAt ?_)
  have hform : methodCallForm (args.length + ([] : List Keyword).length) (backTo pos (starEach args env)) (backToKw pos (keywordEach [] env)) = true := hfew
  have hpos : methodCallPos true o env apos pos = pure pos := by unfold methodCallPos; simp [hline]
  unfold methodCall
  rw [hform]
  refine wpAny_bind (wpAny_holding (wpAny_mono (h₁ _) (fun fx s2 h2 => ?_) fun _ _ e => e))
  exact wpAny_bind (wpAny_of_eq hpos h2)
end
section
variable {X : Cx} {k : Nat} {E : L2.St → XK} {m : Str} {apos pos : Pos} {o e : Expr} {es : List Expr} {ta : TE} {t : TA} {PR : Addr → Sp → Prop}
theorem pe_methG (he : PE X o ta) (F : ∀ f sp, PR f sp → FnG X.prog X.w X.K X.mg X.base k f sp) (hr : Room k X.A) (hg : X.A.guards = some [])
    (hx : ∀ σ, PassesAt (L2.CX X.prog X.w) X σ (E σ)) (ha : PA X (e :: es) t)
    (hbase : attributeBase o m X.env (eval o X.env) = eval o X.env)
    (hfew : ((backTo pos (starEach (e :: es) X.env)).all (fun x => !x.1) && (backToKw pos (keywordEach [] X.env)).all (fun x => x.1.isSome)
      && decide ((e :: es).length + ([] : List Keyword).length + (if ([] : List Keyword).isEmpty then 0 else 1) < 30)) = true)
    (hline : (apos.endLine == pos.line) = true)
    (hst : starEach (e :: es) X.env = (false, eval e X.env) :: starEach es X.env) (hpl : (backTo pos (starEach es X.env)).any (·.1) = false) :
    PE X (.Call (.Attribute o m apos) (e :: es) [] pos) (tMethG PR X.K m E ta t) := by
  refine ⟨fun pins s σ H Q I h => ?_⟩
  refine meth_late hbase hfew hline (thn (he.run pins s σ H _ I h) fun u s1 hh pl => ?_)
  obtain ⟨x, H1, I1, rx, a, C, dx, fs, f, sp, ex, ea, l, c, hm, pr, q⟩ := hh
  subst ex
  obtain rfl : u = Value.ref a := rx
  refine getmeth_ok I1 ea c hm l ?_
  refine PySem.W.callWith_K (first := [.ref a]) (h₀ := X.base) I1.ok.mod.kin hm.kp (thn (ha.run pos pins s1 σ H1 _ I1 q) fun us s2 ⟨vs, H2, I2, r, q2⟩ => ⟨I2.kIn, ?_⟩) hst hpl
  exact run_fnG (us := .ref a :: us) (vs := .ref a :: vs) (F f sp pr) hr hg (hx σ) I2 (.cons rfl r) q2
theorem pe_methG0 (he : PE X o ta) (F : ∀ f sp, PR f sp → FnG X.prog X.w X.K X.mg X.base k f sp) (hr : Room k X.A) (hg : X.A.guards = some [])
    (hx : ∀ σ, PassesAt (L2.CX X.prog X.w) X σ (E σ)) (hbase : attributeBase o m X.env (eval o X.env) = eval o X.env) (hline : (apos.endLine == pos.line) = true) :
    PE X (.Call (.Attribute o m apos) [] [] pos) (tMethG PR X.K m E ta tNil) := by
  refine ⟨fun pins s σ H Q I h => ?_⟩
  refine meth_late hbase rfl hline (thn (he.run pins s σ H _ I h) fun u s1 hh pl => ?_)
  obtain ⟨x, H1, I1, rx, a, C, dx, fs, f, sp, ex, ea, l, c, hm, pr, q⟩ := hh
  subst ex
  obtain rfl : u = Value.ref a := rx
  refine getmeth_ok I1 ea c hm l ?_
  exact PySem.W.callWith_K0 (first := [.ref a]) I1.kIn hm.kp (run_fnG (us := [.ref a]) (vs := [.ref a]) (F f sp pr) hr hg (hx σ) I1 (.cons rfl .nil) q)
end
end Vm
end
section
set_option Elab.async false
set_option linter.all false
set_option maxRecDepth 100000
set_option maxHeartbeats 4000000
/-! texts of the machine, and what they come to -/
namespace Vm
open PySem PySem.Spec PyProof.Rows L2

inductive O2 where
  | add | sub | mul | fdiv | mod | pow
  deriving Repr
inductive C2 where
  | lt | le | gt | ge | eq | ne | is | isnot | inn | notin
  deriving Repr
inductive Bf where
  | len | abs | max2 | min2 | int | tuple | list | all | str | isi | repr
  deriving Repr
inductive Mf where
  | append | strip | split
  deriving Repr
mutual
inductive Tg where
  | name (i : Nat) | tup (ts : Tgs)
inductive Tgs where
  | nil | cons (t : Tg) (ts : Tgs)
end
mutual
inductive E where
  | var (i : Nat) | cst (d : Dt)
  | neg (a : E) | bin (o : O2) (a b : E) | cmp (o : C2) (a b : E) | chn (o p : C2) (a b c : E)
  | and (a b : E) | or (a b : E) | not (a : E) | ite (t : T) (a b : E)
  | idx (a b : E) | sl (a : E) (lo hi : Oe)
  | tup (es : Es) | lst (own : Bool) (es : Es) | dic
  | call (f : Str) (es : Es) | blt (b : Bf) (es : Es) | mth (m : Mf) (a : E) (es : Es)
  | lc (own : Bool) (it : It') (tg : Tg) (t : T) (e : E) (vs : List Nat)
  | xf (x : Xf) (es : Es) | new (c i : Str) (es : Es) | cm (cs : List Str) (m : Str) (a : E) (es : Es) | dsp (k : Str) (a : E)
  | lenSet (a : E) | lenSc (it : It') (tg : Tg) (t : T) (e : E) (vs : List Nat)
inductive Es where
  | nil | cons (e : E) (es : Es)
inductive Oe where
  | non | som (e : E)
inductive T where
  | yes | val (e : E) | and (t u : T) | or (t u : T) | not (t : T)
inductive It' where
  | seq (e : E) | rng1 (a : E) | rng2 (a b : E) | zip (a b : E) | enm (a : E)
end
inductive S where
  | drop (e : E) | ret (e : E) | retN | set (i : Nat) (e : E) | asg (t : Tg) (e : E) | par (i j : Nat) (a b : E) | setL (e o i : E)
  | brk | cnt | nop
  | stf (cs : List Str) (f : Str) (o e : E)
  | rse (c f : Str) (e : E) | rs0 (c : Str)
  /-- what the machine doesn't know: it never comes here -/
  | stk
mutual
inductive Ss where
  | nil | one (s : S) (r : Ss) | ife (t : T) (a b r : Ss) | for (it : It') (tg : Tg) (b r : Ss) | whl (n : Nat) (t : T) (b r : Ss)
  | try (b : Ss) (hs : List Hd) (r : Ss)
end

/-- what the texts rest on: the defs' meanings -/
structure Gm where
  call : Str → List Sv → Om → R Sv
  /-- calls that may stand within one another -/
  lvl : Nat
  /-- the same, one call less deep -/
  call1 : Str → List Sv → Om → R Sv

def O2.g : O2 → Sv → Sv → Om → R Sv
  | .add => addS | .sub => subS | .mul => mulS | .fdiv => fdivS | .mod => modS | .pow => powS
def C2.g : C2 → Sv → Sv → Om → R Sv
  | .lt => ordS .lt | .le => ordS .le | .gt => ordS .gt | .ge => ordS .ge | .eq => eqS false | .ne => eqS true
  | .is => isS false | .isnot => isS true | .inn => inS false | .notin => inS true
def Bf.g : Bf → List Sv → Om → R Sv
  | .len => lenS | .abs => absS | .max2 => mx2S | .min2 => mn2S | .int => intS | .tuple => tupOfS | .list => lstOfS | .all => allS | .str => strIS | .isi => isiS | .repr => reprS
def Mf.t : Mf → Sv → Om → Bool
  | .append => isLstT | .strip => isStrT | .split => isStrT
def Mf.g : Mf → Sv → List Sv → Om → R Sv
  | .append => appendM | .strip => stripM | .split => splitM
mutual
def Tg.b : Tg → Dt → Ro → Option Ro
  | .name i => bName i
  | .tup ts => bTup ts.len ts.bs
def Tgs.len : Tgs → Nat
  | .nil => 0
  | .cons _ ts => ts.len + 1
def Tgs.bs : Tgs → List Dt → Ro → Option Ro
  | .nil => bNil
  | .cons t ts => bCons t.b ts.bs
end
mutual
def Tg.ix : Tg → List Nat
  | .name i => [i]
  | .tup ts => ts.ixs
def Tgs.ixs : Tgs → List Nat
  | .nil => []
  | .cons t ts => t.ix ++ ts.ixs
end
def fPart (f : Ro → Om → R Sv) : Ro → Om → R (Option Int) := fun ρ ω => (f ρ ω).bind fun a ω1 => match ω1.toD a with
  | some (.int i) => .ok (some i) ω1
  | _ => .no
def fNoPart : Ro → Om → R (Option Int) := fun _ ω => .ok none ω
def fSl (fa : Ro → Om → R Sv) (fl fh : Ro → Om → R (Option Int)) : Ro → Om → R Sv := fun ρ ω => (fa ρ ω).bind fun a ω1 => (fl ρ ω1).bind fun l ω2 => (fh ρ ω2).bind fun h ω3 => slS a l h ω3
def fYes : Ro → Om → R Bool := fun _ ω => .ok true ω
def fRng1 (fa : Ro → Om → R Sv) : Ro → Om → R (List Dt) := fun ρ ω => (fa ρ ω).bind fun a ω1 => match ω1.toD a with
  | some (.int i) => if i < 2 ^ 62 ∧ -(2 ^ 62) ≤ i then .ok (rangeD 0 i.toNat) ω1 else .no
  | _ => .no
def fRng2 (fa fb : Ro → Om → R Sv) : Ro → Om → R (List Dt) := fun ρ ω => (fa ρ ω).bind fun a ω1 => (fb ρ ω1).bind fun b ω2 => match ω2.toD a, ω2.toD b with
  | some (.int i), some (.int j) => if i < 2 ^ 62 ∧ -(2 ^ 62) ≤ i ∧ j < 2 ^ 62 ∧ -(2 ^ 62) ≤ j then .ok (rangeD i (j - i).toNat) ω2 else .no
  | _, _ => .no
def fZip (fa fb : Ro → Om → R Sv) : Ro → Om → R (List Dt) := fun ρ ω => (fa ρ ω).bind fun a ω1 => (fb ρ ω1).bind fun b ω2 => match ω2.fz a with
  | some (d, ω3) => match ω3.fz b with
    | some (e, ω4) => match d.items, e.items with
      | some ds, some es => .ok (pairs ds es) ω4
      | _, _ => .no
    | none => .no
  | none => .no
def Dt.lItems : Dt → Option (List Dt)
  | .lst ds => some ds
  | .rol ds => some ds
  | _ => none
def fEnm (fa : Ro → Om → R Sv) : Ro → Om → R (List Dt) := fun ρ ω => (fa ρ ω).bind fun a ω1 => match ω1.fz a with
  | some (d, ω2) => R.of (d.lItems.map numbered) ω2
  | none => .no
variable (Γ : Gm)
mutual
def E.ev : E → Ro → Om → R Sv
  | .var i => fVar i
  | .cst d => fC d
  | .neg a => f1 negS a.ev
  | .bin o a b => f2 o.g a.ev b.ev
  | .cmp o a b => f2 o.g a.ev b.ev
  | .chn o p a b c => fChain o.g p.g a.ev b.ev c.ev
  | .and a b => fAnd a.ev b.ev
  | .or a b => fOr a.ev b.ev
  | .not a => fNot a.ev
  | .ite t a b => fIf t.ev a.ev b.ev
  | .idx a b => f2 idxS a.ev b.ev
  | .sl a lo hi => fSl a.ev lo.ev hi.ev
  | .tup es => fTup es.ev
  | .lst own es => if own = true then fOwn (fLstF es.ev) else fDat (fLstF es.ev)
  | .dic => fDic
  | .call f es => fCall (Γ.call f) es.ev
  | .blt b es => fN b.g es.ev
  | .mth m a es => fM m.t m.g a.ev es.ev
  | .lc own it tg t e vs => if own = true then fOwn (fLcF it.ev tg.b t.ev e.ev vs) else fDat (fLcF it.ev tg.b t.ev e.ev vs)
  | .xf x es => fN (x.g Γ.lvl) es.ev
  | .new c i es => if 1 ≤ Γ.lvl then fNew c (Γ.call1 i) es.ev else fun _ _ => .no
  | .cm cs m a es => fMeth cs m (fun c => mnm c m) Γ.call a.ev es.ev
  | .dsp k a => fDsp k a.ev
  | .lenSet a => fLenSet a.ev
  | .lenSc it tg t e vs => fLenSc it.ev tg.b t.ev e.ev vs
def Es.ev : Es → Ro → Om → R (List Sv)
  | .nil => fNil
  | .cons e es => fCons e.ev es.ev
def Oe.ev : Oe → Ro → Om → R (Option Int)
  | .non => fNoPart
  | .som e => fPart e.ev
def T.ev : T → Ro → Om → R Bool
  | .yes => fYes
  | .val e => fT e.ev
  | .and t u => fTAnd t.ev u.ev
  | .or t u => fTOr t.ev u.ev
  | .not t => fTNot t.ev
def It'.ev : It' → Ro → Om → R (List Dt)
  | .seq e => fIt e.ev
  | .rng1 a => fRng1 a.ev
  | .rng2 a b => fRng2 a.ev b.ev
  | .zip a b => fZip a.ev b.ev
  | .enm a => fEnm a.ev
end
def S.ev : S → Ro → Om → RS
  | .drop e => sDrop (e.ev Γ)
  | .ret e => sRet (e.ev Γ)
  | .retN => sRetN
  | .set i e => sSet i (e.ev Γ)
  | .asg t e => sAsg t.b (e.ev Γ)
  | .par i j a b => sPar i j (fCons (a.ev Γ) (fCons (b.ev Γ) fNil))
  | .setL e o i => sSetL (e.ev Γ) (o.ev Γ) (i.ev Γ)
  | .brk => sBreak
  | .cnt => sCont
  | .nop => sNext
  | .stf cs f o e => sPutF cs f (o.ev Γ) (e.ev Γ)
  | .rse c f e => if 2 ≤ Γ.lvl then sRaise c f (e.ev Γ) else fun _ _ => .no
  | .rs0 c => if 2 ≤ Γ.lvl then sRaise0 c else fun _ _ => .no
  | .stk => fun _ _ => .no
def Ss.ev : Ss → Ro → Om → RS
  | .nil => sNext
  | .one s r => sSeq (s.ev Γ) r.ev
  | .ife t a b r => sSeq (sIf (t.ev Γ) a.ev b.ev) r.ev
  | .for it tg b r => sSeq (sFor (it.ev Γ) tg.b b.ev) r.ev
  | .whl n t b r => sSeq (sWhile n (t.ev Γ) b.ev) r.ev
  | .try b hs r => sSeq (sTry b.ev hs) r.ev
end Vm
end
section
set_option Elab.async false
set_option linter.all false
set_option maxRecDepth 100000
set_option maxHeartbeats 4000000
/-! from Python's trees to the machine's texts -/
namespace Vm
open PySem PySem.Spec PyProof.Rows L2

/-- what is known of a def's (or a comprehension's) names -/
structure Ph where
  N : List Str
  sc : Scope
  asg : Str → Bool
def Ph.blk (Φ : Ph) (scope : Scope) : Ph := ⟨Φ.N, relS scope Φ.sc, fun x => scope.names.lookup x == some .cell⟩
/-- an own class: its instances' fields, its methods -/
structure Cd where
  c : Str
  flds : List Str
  ms : List Str
/-- what is known of the module's names -/
structure Gs where
  fns : List Str
  csts : List (Str × Dt)
  blt : List Str
  /-- own errors, with their field -/
  ecs : List (Str × Option Str) := []
  /-- classes by what isinstance says -/
  isa : List (Str × Isa) := []
  /-- classes by what an except clause says -/
  exm : List (Str × Isa) := []
  /-- written dicts, with their keys -/
  tabs : List (Str × List Str) := []
  /-- own classes -/
  cls : List Cd := []
/-- an own error's class -/
inductive EcOk (K : PySem.W.Frag) (mg : Str → Option Value) (c : Str) : Option Str → Prop
  | one {f : Str} {fI : Addr} (m : mg c = some (.ref (gad K c))) (h : Ecl K (gad K c) fI f) : EcOk K mg c (some f)
  | zero (m : mg c = some (.ref (gad K c))) (h : PySem.W.excIn K (gad K c) He.veBase "ValueError.__new__" = true) (kp : PySem.W.keepIn K (.ref (gad K c)) = true)
      (b : PySem.W.subIn K (.ref (gad K c)) (.type "BaseException") = some true) (t : PySem.W.typeIn K (.ref (gad K c)) = some (.type "type")) : EcOk K mg c none
theorem EcOk.mg {K : PySem.W.Frag} {mg : Str → Option Value} {c : Str} {o : Option Str} (h : EcOk K mg c o) : mg c = some (.ref (gad K c)) := by
  cases h <;> assumption
/-- what a name stands for: an object of the module, or of the built-ins -/
def Stands (mg : Str → Option Value) (x : Str) (u : Value) : Prop := mg x = some u ∨ (mg x = none ∧ bootBuiltins x = some u)
/-- an own class stands as its text says; its methods keep what the defs come to -/
structure ClsOk (P : Program) (w : World) (K : PySem.W.Frag) (mg : Str → Option Value) (base : Heap) (k : Nat) (Γ : Gm) (d : Cd) : Prop where
  at_ : mg d.c = some (.ref (gad K d.c))
  cl : Cls K (gad K d.c)
  no : ∀ f ∈ d.flds, NoAttr K (gad K d.c) f
  ini : ("__init__" : Str) ∈ d.ms → L2.Mk K (gad K d.c) (He.fAd K (d.c, some "__init__"))
  me : ∀ m ∈ d.ms, Meth K (gad K d.c) m (He.fAd K (d.c, some m))
  fn : ∀ m ∈ d.ms, FnG P w K mg base k (He.fAd K (d.c, some m)) (spOf K (Γ.call (mnm d.c m)))
  fn1 : ∀ m ∈ d.ms, ∀ j, k = j + 1 → FnG P w K mg base j (He.fAd K (d.c, some m)) (spOf K (Γ.call1 (mnm d.c m)))
/-- what stands behind the module's names -/
structure Tab (P : Program) (w : World) (K : PySem.W.Frag) (mg : Str → Option Value) (base : Heap) (G : Gs) (Γ : Gm) (k : Nat) : Prop where
  fns : ∀ x ∈ G.fns, ∃ f, mg x = some (.ref f) ∧ PySem.W.keepIn K (.ref f) = true ∧ FnG P w K mg base k f (spOf K (Γ.call x))
  csts : ∀ x d, G.csts.lookup x = some d → ∃ v u, mg x = some u ∧ RelV v u ∧ ∀ F, Dat K F v d
  blt : ∀ x ∈ G.blt, mg x = none
  sys : SysD K
  lvl : Γ.lvl = k
  ecs : ∀ c o, (c, o) ∈ G.ecs → EcOk K mg c o
  isa : ∀ x t, G.isa.lookup x = some t → ∃ v u, ClsV v u ∧ IsaOk K u t ∧ Stands mg x u
  exm : ∀ x t, G.exm.lookup x = some t → ∃ u, ExmOk K u t ∧ Stands mg x u
  tabs : ∀ x ks, G.tabs.lookup x = some ks → ∃ d es n, mg x = some (.ref d) ∧ KDict K w d es n ∧ ∀ z, ∃ r : Option Value, PySem.W.nsIn K d z = some r ∧ r.isSome = decide (z ∈ ks)
  cls : ∀ d ∈ G.cls, ClsOk P w K mg base k Γ d
/-- the module, and the room of a call -/
structure Wd where
  P : Program
  w : World
  K : PySem.W.Frag
  mg : Str → Option Value
  base : Heap
  G : Gs
  Γ : Gm
  k : Nat
abbrev Wd.Tab (D : Wd) : Prop := Vm.Tab D.P D.w D.K D.mg D.base D.G D.Γ D.k
structure Fit (D : Wd) (Φ : Ph) (W : WX) (X : Cx) : Prop where
  eP : X.prog = D.P
  ew : X.w = D.w
  eK : X.K = D.K
  em : X.mg = D.mg
  eb : X.base = D.base
  N : X.N = Φ.N
  nd : Φ.N.Nodup
  sc : X.env.scope = Φ.sc
  calm : X.calm = true
  asg : ∀ x, Φ.asg x = true → X.fn x = true
  tk : Takes X W
  room : Room D.k X.A
  grd : X.A.guards = some []
section
variable {X : Cx} {D : Wd} {Φ : Ph} {W : WX}
theorem Fit.un (h : Fit D Φ W X) : X.A.units + 64 < cLine := by
  have := h.room.un
  omega
theorem Fit.nX (h : Fit D Φ W X) : X.N.Nodup := by
  rw [h.N]
  exact h.nd
theorem Fit.blk (h : Fit D Φ W X) (s : Shared) (H : Hp) (scope : Scope) (C : Addr) (cl : List (Str × Addr)) (fp : List Addr) :
    Fit D (Φ.blk scope) never (X.blk s H scope (compEnvC scope cl C X.env) fp) where
  eP := h.eP
  ew := h.ew
  eK := h.eK
  em := h.em
  eb := h.eb
  N := h.N
  nd := h.nd
  sc := by
    show relS scope X.env.scope = relS scope Φ.sc
    rw [h.sc]
  calm := h.calm
  asg := fun x e => e
  tk := fun u s' ⟨_, _, _, _, _, _, _, _, _, _, _, _, _, _, _, _, z⟩ => (show False from z).elim
  room := h.room
  grd := h.grd
end

def XE (D : Wd) (Φ : Ph) (W : WX) (e : Expr) (f : Ro → Om → R Sv) : Prop := ∃ t, SemE D.K W t f ∧ ∀ X, Fit D Φ W X → PE X e t
def XT (D : Wd) (Φ : Ph) (W : WX) (e : Expr) (f : Ro → Om → R Bool) : Prop := ∃ t, SemT D.K W t f ∧ ∀ X, Fit D Φ W X → PT X e t
def XA (D : Wd) (Φ : Ph) (W : WX) (es : List Expr) (f : Ro → Om → R (List Sv)) : Prop := ∃ t, SemA D.K W t f ∧ ∀ X, Fit D Φ W X → PA X es t
def SemO (K : PySem.W.Frag) (W : WX) (t : TO) (f : Ro → Om → R (Option Int)) : Prop := ∀ ρ ω σ F H ps, Rel K F H ps ω → Slots K F ps σ ρ → ∀ Q : Option Int → Hp → Prop, Out K (fun _ _ (a b : Option Int) => a = b) F H ps σ W Q (f ρ ω) → t σ H Q
def XO (D : Wd) (Φ : Ph) (W : WX) (e : Option Expr) (f : Ro → Om → R (Option Int)) : Prop := ∃ t, SemO D.K W t f ∧ ∀ X, Fit D Φ W X → PO X e t
def XI (D : Wd) (Φ : Ph) (W : WX) (tg e : Expr) (f : Ro → Om → R (List Dt)) : Prop := ∃ t, SemI D.K W t f ∧ ∀ X, Fit D Φ W X → PI X tg e t
def XG (D : Wd) (Φ : Ph) (W : WX) (e : Expr) (ix : List Nat) (b : Dt → Ro → Option Ro) : Prop := ∃ g, SemG D.K ix g b ∧ ∀ X, Fit D Φ W X → PG X e g
def XGs (D : Wd) (Φ : Ph) (W : WX) (es : List Expr) (ix : List Nat) (b : List Dt → Ro → Option Ro) : Prop := ∃ g, SemGs D.K ix g b ∧ ∀ X, Fit D Φ W X → PGs X es g

/-! ### plain arguments -/
def isStar : Expr → Bool
  | .Starred _ _ => true
  | _ => false
theorem starEach_cons {e : Expr} {es : List Expr} {env : Env} (h : isStar e = false) : starEach (e :: es) env = (false, eval e env) :: starEach es env := by
  cases e <;> first | rfl | cases h
theorem starEach_plain {env : Env} : ∀ {es : List Expr}, es.all (fun e => !isStar e) = true → ∀ x ∈ starEach es env, x.1 = false
  | [], _, x, hx => by cases hx
  | e :: es, h, x, hx => by
    simp only [List.all_cons, Bool.and_eq_true, Bool.not_eq_true'] at h
    rw [starEach_cons h.1] at hx
    rcases List.mem_cons.mp hx with rfl | hx
    · rfl
    · exact starEach_plain h.2 x hx
theorem backTo_plain {env : Env} {pos : Pos} {es : List Expr} (h : es.all (fun e => !isStar e) = true) : (backTo pos (starEach es env)).any (·.1) = false := by
  rw [List.any_eq_false]
  intro x hx
  unfold backTo at hx
  obtain ⟨y, hy, rfl⟩ := List.mem_map.mp hx
  simpa using starEach_plain h y hy
theorem backTo_all {env : Env} {pos : Pos} {es : List Expr} (h : es.all (fun e => !isStar e) = true) : (backTo pos (starEach es env)).all (fun x => !x.1) = true := by
  rw [List.all_eq_true]
  intro x hx
  unfold backTo at hx
  obtain ⟨y, hy, rfl⟩ := List.mem_map.mp hx
  simpa using starEach_plain h y hy
theorem assignEach_cons {e : Expr} {es : List Expr} {env : Env} (h : isStar e = false) : assignEach (e :: es) env = (false, assign e env) :: assignEach es env := by
  cases e <;> first | rfl | cases h
theorem assignEach_len {env : Env} : ∀ {es : List Expr}, es.all (fun e => !isStar e) = true → (assignEach es env).length = es.length ∧ (assignEach es env).findIdx? (·.1) = none
  | [], _ => ⟨rfl, rfl⟩
  | e :: es, h => by
    simp only [List.all_cons, Bool.and_eq_true, Bool.not_eq_true'] at h
    rw [assignEach_cons h.1]
    obtain ⟨h1, h2⟩ := assignEach_len (env := env) h.2
    refine ⟨by simp [h1], ?_⟩
    rw [List.findIdx?_cons, h2]
    rfl

/-! ### names -/
def visB (sc : Scope) (x : Str) : Bool := match sc.names.lookup x with
  | some .local => true
  | some .cell => true
  | some .free => true
  | _ => false
def locB (Φ : Ph) (x : Str) : Bool := match Φ.sc.names.lookup x with
  | some .local => true
  | some .cell => Φ.asg x
  | _ => false
def glB (sc : Scope) (x : Str) : Bool := match sc.names.lookup x with
  | some .globalImplicit => true
  | _ => false
def Ph.ix (Φ : Ph) (x : Str) : Option Nat := (List.range Φ.N.length).find? fun i => decide (Φ.N[i]? = some x)
def plainName (x : Str) : Bool := !(x == ("__debug__" : Str)) && !(x == ("__classdict__" : Str)) && decide (x ≠ "__name__")
section
variable {X : Cx} {D : Wd} {Φ : Ph} {W : WX} {x : Str}
theorem visB_ok (F : Fit D Φ W X) (h : visB Φ.sc x = true) : Vis X.env.scope x := by
  unfold visB at h
  rw [F.sc]
  split at h
  · rename_i e; exact .inl e
  · rename_i e; exact .inr (.inl e)
  · rename_i e; exact .inr (.inr e)
  · cases h
theorem locB_ok (F : Fit D Φ W X) (h : locB Φ x = true) : Loc X.env.scope x ∧ (X.fn x = true ∨ X.env.scope.names.lookup x = some .local) := by
  unfold locB at h
  rw [F.sc]
  split at h
  · rename_i e; exact ⟨.inl e, .inr e⟩
  · rename_i e; exact ⟨.inr e, .inl (F.asg x h)⟩
  · cases h
theorem glB_ok (F : Fit D Φ W X) (h : glB Φ.sc x = true) : Gl X x := by
  unfold glB at h
  unfold Gl Env.kindOf
  rw [F.sc]
  split at h
  · rename_i e; exact e
  · cases h
theorem ix_ok (F : Fit D Φ W X) {i : Nat} (h : Φ.ix x = some i) : X.N[i]? = some x := by
  unfold Ph.ix at h
  have := List.find?_some h
  rw [F.N]
  simpa using this
theorem plain_ok (h : plainName x = true) : (x == ("__debug__" : Str)) = false ∧ (x == ("__classdict__" : Str)) = false ∧ x ≠ "__name__" := by
  unfold plainName at h
  simp only [Bool.and_eq_true, Bool.not_eq_true', decide_eq_true_eq] at h
  exact ⟨h.1.1, h.1.2, h.2⟩
end

/-! ### the pieces -/
def trC : Const → Option Dt
  | .none => some .non
  | .bool b => some (.bl b)
  | .int i => some (.int i)
  | .str x => some (.str x)
  | _ => none
def trO : Operator → Option O2
  | .Add => some .add
  | .Sub => some .sub
  | .Mult => some .mul
  | .FloorDiv => some .fdiv
  | .Mod => some .mod
  | .Pow => some .pow
  | _ => none
def trCmp : CmpOp → Option C2
  | .Lt => some .lt
  | .LtE => some .le
  | .Gt => some .gt
  | .GtE => some .ge
  | .Eq => some .eq
  | .NotEq => some .ne
  | .Is => some .is
  | .IsNot => some .isnot
  | .In => some .inn
  | .NotIn => some .notin
def typeNames : List (Str × String) := [("int", "int"), ("bool", "bool"), ("str", "str"), ("list", "list"), ("tuple", "tuple"), ("dict", "dict")]
theorem typeNames_ok : ∀ x T, typeNames.lookup x = some T → bootBuiltins x = some (.type T) := by
  intro x T h
  have h := PySem.mem_of_lookup h
  have key : ∀ p ∈ typeNames, bootBuiltins p.1 = some (.type p.2) := by decide +kernel
  exact key _ h
section
variable {D : Wd} {Φ : Ph} {W : WX}
theorem op2_ok {op : Operator} {o : O2} (h : trO op = some o) : ∃ r, Sem2 D.K r o.g ∧ ∀ X, Fit D Φ W X → OpR X (binaryOp op) r := by
  cases op <;> cases h
  · exact ⟨_, sem_add, fun X F => F.eK ▸ op_addA⟩
  · exact ⟨_, sem_sub, fun X F => op_sub⟩
  · exact ⟨_, sem_mul, fun X F => op_mulA⟩
  · exact ⟨_, sem_mod, fun X F => op_mod⟩
  · exact ⟨_, sem_pow, fun X F => op_pow⟩
  · exact ⟨_, sem_fdiv, fun X F => op_fdiv⟩
theorem cmp_ok {op : CmpOp} {o : C2} (h : trCmp op = some o) : ∃ r, Sem2 D.K r o.g ∧ ∀ X, Fit D Φ W X → OpR X (compareOp op) r := by
  cases op <;> cases h
  · exact ⟨_, sem_eq false, fun X F => F.eK ▸ op_eqA F.un⟩
  · exact ⟨_, sem_eq true, fun X F => F.eK ▸ op_neA F.un⟩
  · exact ⟨_, sem_ord .lt, fun X F => op_ord .lt⟩
  · exact ⟨_, sem_ord .le, fun X F => op_ord .le⟩
  · exact ⟨_, sem_ord .gt, fun X F => op_ord .gt⟩
  · exact ⟨_, sem_ord .ge, fun X F => op_ord .ge⟩
  · exact ⟨_, sem_is false, fun X F => op_isA⟩
  · exact ⟨_, sem_is true, fun X F => op_isnotA⟩
  · exact ⟨_, sem_in false, fun X F => F.eK ▸ op_inA⟩
  · exact ⟨_, sem_in true, fun X F => F.eK ▸ op_notinA⟩
theorem cst_ok {c : Const} {d : Dt} {j : Nat} {pos : Pos} (h : trC c = some d) : XE D Φ W (.Constant c j pos) (fC d) := by
  cases c <;> cases h
  · exact ⟨_, sem_c fun _ => .non, fun X F => pe_non⟩
  · exact ⟨_, sem_c fun _ => .bl _, fun X F => pe_bl⟩
  · exact ⟨_, sem_c fun _ => .int _, fun X F => pe_int⟩
  · exact ⟨_, sem_c fun _ => .str _, fun X F => pe_str⟩
end
def trName (G : Gs) (Φ : Ph) (x : Str) : Option E :=
  if plainName x = true then
    if visB Φ.sc x = true then (Φ.ix x).map .var
    else if glB Φ.sc x = true then match G.csts.lookup x with
      | some d => some (.cst d)
      | none => if x ∈ G.blt then (typeNames.lookup x).map fun T => .cst (.ty T) else none
    else none
  else none
section
variable {D : Wd} {Φ : Ph} {W : WX}
theorem name_ok (tab : D.Tab) {x : Str} {pos : Pos} {e : E} (h : trName D.G Φ x = some e) : XE D Φ W (.Name x pos) (e.ev D.Γ) := by
  unfold trName at h
  split at h
  · rename_i hp
    obtain ⟨p1, p2, p3⟩ := plain_ok hp
    split at h
    · rename_i hv
      rw [Option.map_eq_some_iff] at h
      obtain ⟨i, h1, rfl⟩ := h
      exact ⟨_, sem_var i, fun X F => pe_var (ix_ok F h1) (visB_ok F hv) p1 p2⟩
    · split at h
      · rename_i hg
        split at h
        · rename_i d e1
          cases h
          obtain ⟨v, u, h1, h2, h3⟩ := tab.csts x d e1
          exact ⟨_, sem_c h3, fun X F => pe_glob (glB_ok F hg) (by rw [F.em]; exact h1) h2 p1⟩
        · split at h
          · rename_i hb
            rw [Option.map_eq_some_iff] at h
            obtain ⟨T, h1, rfl⟩ := h
            exact ⟨_, sem_c fun _ => .ty T, fun X F => pe_bltn (v := .ty T) (glB_ok F hg) (by rw [F.em]; exact tab.blt x hb) (typeNames_ok x T h1) rfl p3 p1⟩
          · cases h
      · cases h
  · cases h
end
end Vm
end
section
set_option Elab.async false
set_option linter.all false
set_option maxRecDepth 100000
set_option maxHeartbeats 4000000
/-! one step of the way from a tree to a text -/
namespace Vm
open PySem PySem.Spec PyProof.Rows L2

structure Tr where
  e : Ph → Expr → Option E
  t : Ph → Expr → Option T
structure Tr.Ok (r : Tr) (D : Wd) : Prop where
  e : ∀ Φ W e x, r.e Φ e = some x → XE D Φ W e (x.ev D.Γ)
  t : ∀ Φ W e x, r.t Φ e = some x → XT D Φ W e (x.ev D.Γ)

/-! ### arguments -/
def trEs (r : Tr) (Φ : Ph) : List Expr → Option Es
  | [] => some .nil
  | e :: es => if isStar e = true then none else match r.e Φ e, trEs r Φ es with
    | some a, some as => some (.cons a as)
    | _, _ => none
section
variable {D : Wd} {Φ : Ph} {W : WX} {r : Tr}
theorem es_ok (R : r.Ok D) : ∀ {es : List Expr} {xs : Es}, trEs r Φ es = some xs → XA D Φ W es (xs.ev D.Γ) ∧ es.all (fun e => !isStar e) = true
  | [], xs, h => by
    cases h
    exact ⟨⟨_, sem_nil, fun X F => pa_nil⟩, rfl⟩
  | e :: es, xs, h => by
    unfold trEs at h
    split at h
    · cases h
    · rename_i hs
      have hs' : isStar e = false := by simpa using hs
      split at h
      · rename_i a as h1 h2
        cases h
        obtain ⟨t, s, p⟩ := R.e Φ W e a h1
        obtain ⟨⟨u, s2, p2⟩, all⟩ := es_ok R h2
        exact ⟨⟨_, sem_cons s s2, fun X F => pa_cons (p X F) (p2 X F) (starEach_cons hs')⟩, by simp [hs', all]⟩
      · cases h
end

/-! ### calls -/
def bfOf (x : Str) (n : Nat) : Option Bf :=
  if n = 1 then
    if x = "len" then some .len else if x = "abs" then some .abs else if x = "int" then some .int else if x = "tuple" then some .tuple else if x = "list" then some .list
    else if x = "all" then some .all else if x = "str" then some .str else if x = "repr" then some .repr else none
  else if n = 2 then
    if x = "max" then some .max2 else if x = "min" then some .min2 else if x = "isinstance" then some .isi else none
  else none
inductive BltAt (X : Cx) (x : Str) (rr : List V → Hp → VK → Prop) : Prop
  | f (id : String) (h : CallR X (.builtin id) rr) (b : bootBuiltins x = some (.builtin id))
  | t (T : String) (h : CallR X (.type T) rr) (b : bootBuiltins x = some (.type T))
section
variable {D : Wd} {Φ : Ph} {W : WX} {r : Tr}
theorem boot_max : bootBuiltins "max" = some (.builtin "max") := by decide +kernel
theorem blt_ok (tab : D.Tab) {x : Str} {n : Nat} {b : Bf} (h : bfOf x n = some b) : (∃ rr, SemN D.K rr b.g ∧ ∀ X, Fit D Φ W X → BltAt X x rr) ∧ n ≠ 0 := by
  unfold bfOf at h
  split at h
  · rename_i hn
    refine ⟨?_, by omega⟩
    split at h
    · rename_i e; subst e; cases h
      exact ⟨rLen2 D.K, sem_len, fun X F => .f "len" (F.eK ▸ call_len) boot_len⟩
    split at h
    · rename_i e; subst e; cases h
      exact ⟨rAbs, sem_abs, fun X F => .f "abs" call_abs boot_abs⟩
    split at h
    · rename_i e; subst e; cases h
      exact ⟨rInt, sem_int, fun X F => .t "int" call_int1 boot_int⟩
    split at h
    · rename_i e; subst e; cases h
      exact ⟨rTupOf D.K, sem_tupOf, fun X F => .t "tuple" (F.eK ▸ call_tuple_of) boot_tuple⟩
    split at h
    · rename_i e; subst e; cases h
      exact ⟨rLstOf D.K, sem_lstOf, fun X F => .t "list" (F.eK ▸ call_list_of) boot_list⟩
    split at h
    · rename_i e; subst e; cases h
      exact ⟨rAll D.K, sem_all, fun X F => .f "all" (F.eK ▸ cr_all F.calm) boot_all⟩
    split at h
    · rename_i e; subst e; cases h
      exact ⟨rStrI, sem_strI, fun X F => .t "str" call_str_int boot_str⟩
    split at h
    · rename_i e; subst e; cases h
      exact ⟨rRepr D.K, sem_repr, fun X F => .f "repr" (F.eK ▸ call_reprD (F.eK ▸ tab.sys) F.grd F.un) boot_repr⟩
    · cases h
  · split at h
    · refine ⟨?_, by omega⟩
      split at h
      · rename_i e; subst e; cases h
        exact ⟨rMx2, sem_mx2, fun X F => .f "max" (call_max2 F.calm) boot_max⟩
      split at h
      · rename_i e; subst e; cases h
        exact ⟨rMn2, sem_mn2, fun X F => .f "min" (call_min2 F.calm) boot_min⟩
      split at h
      · rename_i e; subst e; cases h
        exact ⟨rIsi D.K, sem_isi, fun X F => .f "isinstance" (F.eK ▸ call_isi) boot_isinstance⟩
      · cases h
    · cases h
end
def trCall (r : Tr) (G : Gs) (Φ : Ph) (f : Str) (args : List Expr) : Option E :=
  if plainName f = true ∧ glB Φ.sc f = true then
    if f ∈ G.fns then (trEs r Φ args).map (.call f)
    else if f ∈ G.blt then match bfOf f args.length with
      | some b => (trEs r Φ args).map (.blt b)
      | none => none
    else none
  else none
section
variable {D : Wd} {Φ : Ph} {W : WX} {r : Tr}
theorem call_ok (tab : D.Tab) (R : r.Ok D) {f : Str} {args : List Expr} {p pos : Pos} {x : E} (h : trCall r D.G Φ f args = some x) : XE D Φ W (.Call (.Name f p) args [] pos) (x.ev D.Γ) := by
  unfold trCall at h
  split at h
  · rename_i hp
    obtain ⟨hp, hg⟩ := hp
    obtain ⟨p1, p2, p3⟩ := plain_ok hp
    split at h
    · rename_i hf
      rw [Option.map_eq_some_iff] at h
      obtain ⟨xs, h1, rfl⟩ := h
      obtain ⟨a, m1, m2, m3⟩ := tab.fns f hf
      have F3 : ∀ X, Fit D Φ W X → FnG X.prog X.w X.K X.mg X.base D.k a (spOf D.K (D.Γ.call f)) := fun X F => by
        rw [F.eP, F.ew, F.eK, F.em, F.eb]
        exact m3
      have hm : ∀ X, Fit D Φ W X → X.mg f = some (.ref a) := fun X F => by rw [F.em]; exact m1
      have hk : ∀ X, Fit D Φ W X → PySem.W.keepIn X.K (.ref a) = true := fun X F => by rw [F.eK]; exact m2
      cases args with
      | nil =>
        cases h1
        exact ⟨_, sem_call _ sem_nil, fun X F => pe_callG0 (F3 X F) F.room F.grd (glB_ok F hg) (hm X F) (hk X F) (fun σ => passAt F.tk σ) p1⟩
      | cons e es =>
        obtain ⟨⟨t, s, pa⟩, all⟩ := es_ok (W := W) R h1
        simp only [List.all_cons, Bool.and_eq_true, Bool.not_eq_true'] at all
        exact ⟨_, sem_call _ s, fun X F => pe_callG (F3 X F) F.room F.grd (glB_ok F hg) (hm X F) (hk X F) (fun σ => passAt F.tk σ) (pa X F) p1 (starEach_cons all.1) (backTo_plain all.2)⟩
    · split at h
      · rename_i hb
        split at h
        · rename_i b hbf
          rw [Option.map_eq_some_iff] at h
          obtain ⟨xs, h1, rfl⟩ := h
          obtain ⟨⟨t, s, pa⟩, all⟩ := es_ok (W := W) R h1
          obtain ⟨⟨rr, s2, pb⟩, hn⟩ := blt_ok (Φ := Φ) (W := W) tab hbf
          refine ⟨_, sem_cb s s2, fun X F => ?_⟩
          have hm : X.mg f = none := by rw [F.em]; exact tab.blt f hb
          cases args with
          | nil => exact absurd rfl hn
          | cons e es =>
            simp only [List.all_cons, Bool.and_eq_true, Bool.not_eq_true'] at all
            cases pb X F with
            | f id hc bb => exact pe_callB hc (glB_ok F hg) hm bb (pa X F) p3 p1 (starEach_cons all.1) (backTo_plain all.2)
            | t T hc bb => exact pe_callTy hc (glB_ok F hg) hm bb (pa X F) p3 p1 (starEach_cons all.1) (backTo_plain all.2)
        · cases h
      · cases h
  · cases h
end
end Vm
end
section
set_option Elab.async false
set_option linter.all false
set_option maxRecDepth 100000
set_option maxHeartbeats 4000000
namespace Vm
open PySem PySem.Spec PyProof.Rows L2

/-! ### methods of built-in values -/
def mfOf (m : Str) (n : Nat) : Option Mf :=
  if n = 1 then
    if m = "append" then some .append else if m = "strip" then some .strip else if m = "split" then some .split else none
  else none
def notSuper : Expr → Bool
  | .Call (.Name id _) [] [] _ => decide (id ≠ "super")
  | _ => true
theorem base_ok {o : Expr} {name : Str} {env : Env} (h : notSuper o = true) : attributeBase o name env (eval o env) = eval o env := by
  unfold attributeBase
  split
  · rename_i id p1 pos
    have h : id ≠ "super" := by simpa [notSuper] using h
    have e : (id != ("super" : Str)) = true := by simpa [bne_iff_ne] using h
    simp only [e, Bool.true_or, if_true]
  · rfl
structure MtAt (X : Cx) (m : Str) (T : String) (rr : V → List V → Hp → VK → Prop) : Prop where
  ex : ∃ id, PlainAttrs T ∧ Slot T m id ∧ typeOf (.builtin id) = pure (.type "method_descriptor") ∧ MtR X id rr
def trMth (r : Tr) (Φ : Ph) (o : Expr) (m : Str) (args : List Expr) (apos cpos : Pos) : Option E :=
  if notSuper o = true ∧ (apos.endLine == cpos.line) = true ∧ args.length < 30 then match mfOf m args.length with
    | some f => match r.e Φ o, trEs r Φ args with
      | some a, some as => some (.mth f a as)
      | _, _ => none
    | none => none
  else none
section
variable {D : Wd} {Φ : Ph} {W : WX} {r : Tr}
theorem mf_ok {m : Str} {n : Nat} {f : Mf} (h : mfOf m n = some f) : (∃ T rr, SemM D.K T rr f.t f.g ∧ ∀ X, Fit D Φ W X → MtAt X m T rr) ∧ n ≠ 0 := by
  unfold mfOf at h
  split at h
  · rename_i hn
    refine ⟨?_, by omega⟩
    split at h
    · rename_i e; subst e; cases h
      exact ⟨_, _, sem_append, fun X F => ⟨"list.append", PySem.F.plainAttrs_list, PySem.F.slot_list_append, PySem.F.type_list_append, mt_append⟩⟩
    split at h
    · rename_i e; subst e; cases h
      exact ⟨_, _, sem_strip, fun X F => ⟨"str.strip", PySem.F.plainAttrs_str, PySem.F.slot_str_strip, PySem.F.type_str_strip, mt_stripChars⟩⟩
    split at h
    · rename_i e; subst e; cases h
      exact ⟨_, _, sem_split, fun X F => ⟨"str.split", PySem.F.plainAttrs_str, PySem.F.slot_str_split, PySem.F.type_str_split, mt_split⟩⟩
    · cases h
  · cases h
theorem mth_ok (R : r.Ok D) {o : Expr} {m : Str} {args : List Expr} {apos cpos : Pos} {x : E} (h : trMth r Φ o m args apos cpos = some x) : XE D Φ W (.Call (.Attribute o m apos) args [] cpos) (x.ev D.Γ) := by
  unfold trMth at h
  split at h
  · rename_i hp
    obtain ⟨h1, h2, h3⟩ := hp
    split at h
    · rename_i f hf
      split at h
      · rename_i a as e1 e2
        cases h
        obtain ⟨⟨T, rr, s, pm⟩, hn⟩ := mf_ok (D := D) (Φ := Φ) (W := W) hf
        obtain ⟨t, so, po⟩ := R.e Φ W o a e1
        obtain ⟨⟨u, sa, pa⟩, all⟩ := es_ok (W := W) R e2
        refine ⟨_, sem_m so sa s, fun X F => ?_⟩
        cases args with
        | nil => exact absurd rfl hn
        | cons e es =>
          simp only [List.all_cons, Bool.and_eq_true, Bool.not_eq_true'] at all
          obtain ⟨id, q1, q2, q3, q4⟩ := (pm X F).ex
          have hfew : ((backTo cpos (starEach (e :: es) X.env)).all (fun x => !x.1) && (backToKw cpos (keywordEach [] X.env)).all (fun x => x.1.isSome) && decide ((e :: es).length + ([] : List Keyword).length + (if ([] : List Keyword).isEmpty then 0 else 1) < 30)) = true := by
            rw [backTo_all (by simp [all.1, all.2])]
            simp only [Bool.true_and, Bool.and_eq_true, decide_eq_true_eq]
            exact ⟨rfl, h3⟩
          exact F.eK ▸ pe_bm q1 q2 q3 q4 (po X F) (pa X F) (base_ok h1) hfew h2 (starEach_cons all.1) (backTo_plain all.2)
      · cases h
    · cases h
  · cases h
end

/-! ### subscripts -/
def notSlice : Expr → Bool
  | .Slice _ _ _ _ => false
  | _ => true
theorem plainIx {b : Expr} (h : notSlice b = true) : PlainIx b := by
  intro o i
  cases b <;> first | rfl | cases h
def trOe (r : Tr) (Φ : Ph) : Option Expr → Option Oe
  | none => some .non
  | some e => (r.e Φ e).map .som
section
variable {D : Wd} {Φ : Ph} {W : WX} {r : Tr}
theorem oe_ok (R : r.Ok D) : ∀ {e : Option Expr} {x : Oe}, trOe r Φ e = some x → XO D Φ W e (x.ev D.Γ)
  | none, x, h => by
    cases h
    exact ⟨_, fun ρ ω σ F H ps rl s Q q => Out.here (a := none) q rl rfl, fun X F => po_none⟩
  | some e, x, h => by
    unfold trOe at h
    rw [Option.map_eq_some_iff] at h
    obtain ⟨a, h1, rfl⟩ := h
    obtain ⟨t, s, p⟩ := R.e Φ W e a h1
    refine ⟨_, fun ρ ω σ F H ps rl sl Q q => ?_, fun X F => po_some (p X F)⟩
    exact s ρ ω σ F H ps rl sl _ (Out.bind q fun a ω1 v1 F1 H1 p1 s1 r1 q1 h1 => by
      split at h1
      · rename_i i e1
        exact ⟨i, (Om.toD_ok e1 r1 q1).int_inv, Out.here (a := some i) h1 r1 rfl⟩
      · exact h1.elim)
theorem sem_slice {K : PySem.W.Frag} {ta : TE} {tl th : TO} {fa : Ro → Om → R Sv} {fl fh : Ro → Om → R (Option Int)} (ha : SemE K W ta fa) (hl : SemO K W tl fl) (hh : SemO K W th fh) : SemE K W (tSl (rSl K) ta tl th) (fSl fa fl fh) := fun ρ ω σ F H ps rl s Q h =>
  ha ρ ω σ F H ps rl s _ (Out.bind h fun a ω1 v1 F1 H1 p1 s1 r1 q1 h1 =>
    hl ρ ω1 σ F1 H1 p1 r1 (s.step s1) _ (Out.bind h1 fun l ω2 v2 F2 H2 p2 s2 r2 q2 h2 => by
      cases q2
      exact hh ρ ω2 σ F2 H2 p2 r2 ((s.step s1).step s2) _ (Out.bind h2 fun u ω3 v3 F3 H3 p3 s3 r3 q3 h3 => by
        cases q3
        exact sem_sl ω3 F3 H3 p3 v1 a l u r3 ((q1.step s2).step s3) σ W Q h3)))
end
def trSub (r : Tr) (Φ : Ph) (a b : Expr) : Option E := match b with
  | .Slice lo hi none _ => match r.e Φ a, trOe r Φ lo, trOe r Φ hi with
    | some x, some l, some h => some (.sl x l h)
    | _, _, _ => none
  | b => if notSlice b = true then match r.e Φ a, r.e Φ b with
    | some x, some y => some (.idx x y)
    | _, _ => none
    else none
section
variable {D : Wd} {Φ : Ph} {W : WX} {r : Tr}
theorem sub_ok (R : r.Ok D) {a b : Expr} {pos : Pos} {x : E} (h : trSub r Φ a b = some x) : XE D Φ W (.Subscript a b pos) (x.ev D.Γ) := by
  unfold trSub at h
  split at h
  · rename_i lo hi p
    split at h
    · rename_i y l u h1 h2 h3
      cases h
      obtain ⟨t, s, q⟩ := R.e Φ W a y h1
      obtain ⟨t2, s2, q2⟩ := oe_ok (W := W) R h2
      obtain ⟨t3, s3, q3⟩ := oe_ok (W := W) R h3
      exact ⟨_, sem_slice s s2 s3, fun X F => F.eK ▸ pe_slice sl_A (q X F) (q2 X F) (q3 X F)⟩
    · cases h
  · split at h
    · rename_i hs
      split at h
      · rename_i y z h1 h2
        cases h
        obtain ⟨t, s, q⟩ := R.e Φ W _ y h1
        obtain ⟨t2, s2, q2⟩ := R.e Φ W _ z h2
        exact ⟨_, sem_2 s s2 sem_idx, fun X F => F.eK ▸ pe_ix ix_seq (q X F) (q2 X F) (plainIx hs)⟩
      · cases h
    · cases h
end

/-! ### targets -/
mutual
def trG (Φ : Ph) : Nat → Expr → Option Tg
  | 0, _ => none
  | n + 1, .Name x _ => if plainName x = true ∧ locB Φ x = true then (Φ.ix x).map .name else none
  | n + 1, .Tuple es _ _ => if es.all (fun e => !isStar e) = true then (trGs Φ n es).map .tup else none
  | _ + 1, _ => none
def trGs (Φ : Ph) : Nat → List Expr → Option Tgs
  | 0, _ => none
  | _ + 1, [] => some .nil
  | n + 1, e :: es => match trG Φ n e, trGs Φ n es with
    | some a, some as => some (.cons a as)
    | _, _ => none
end
section
variable {D : Wd} {Φ : Ph} {W : WX}
theorem g_ok (D : Wd) (Φ : Ph) (W : WX) : ∀ (n : Nat), (∀ {e : Expr} {x : Tg}, trG Φ n e = some x → XG D Φ W e x.ix x.b) ∧ ∀ {es : List Expr} {xs : Tgs}, es.all (fun e => !isStar e) = true → trGs Φ n es = some xs → XGs D Φ W es xs.ixs xs.bs ∧ es.length = xs.len
  | 0 => ⟨fun {e x} h => (by unfold trG at h; cases h), fun {es xs} _ h => (by unfold trGs at h; cases h)⟩
  | n + 1 => by
    obtain ⟨ih1, ih2⟩ := g_ok D Φ W n
    refine ⟨fun {e x} h => ?_, fun {es xs} ha h => ?_⟩
    · unfold trG at h
      split at h
      · cases ‹_ = 0›
      · injection ‹n + 1 = _› with e1
        subst e1
        split at h
        · rename_i hp
          rw [Option.map_eq_some_iff] at h
          obtain ⟨i, h1, rfl⟩ := h
          exact ⟨_, semG_name i, fun X F => pg_name F.nX (ix_ok F h1) (locB_ok F hp.2).1 (locB_ok F hp.2).2⟩
        · cases h
      · injection ‹n + 1 = _› with e1
        subst e1
        split at h
        · rename_i ha
          rw [Option.map_eq_some_iff] at h
          obtain ⟨ts, h1, rfl⟩ := h
          obtain ⟨⟨g, s, p⟩, hl⟩ := ih2 ha h1
          refine ⟨_, semG_tup s ts.len, fun X F => F.eK ▸ pg_tup F.calm (p X F) ?_ (assignEach_len ha).2⟩
          rw [(assignEach_len ha).1, hl]
        · cases h
      · cases h
    · unfold trGs at h
      split at h
      · cases ‹_ = 0›
      · cases h
        exact ⟨⟨_, semGs_nil, fun X F => pgs_nil⟩, rfl⟩
      · rename_i n2 e es hn
        injection hn with e1
        subst e1
        simp only [List.all_cons, Bool.and_eq_true, Bool.not_eq_true'] at ha
        split at h
        · rename_i a as h1 h2
          cases h
          obtain ⟨g, s, p⟩ := ih1 h1
          obtain ⟨⟨g2, s2, p2⟩, hl⟩ := ih2 ha.2 h2
          refine ⟨⟨_, semGs_cons s s2, fun X F => pgs_cons (p X F) (p2 X F) ?_⟩, by show es.length + 1 = as.len + 1; rw [hl]⟩
          rw [assignEach_cons ha.1]
          rfl
        · cases h
end

/-! ### what is walked -/
def notSet : Expr → Bool
  | .Set _ _ _ => false
  | _ => true
theorem folded_ok {e : Expr} {env : Env} (h : notSet e = true) : ∀ x, foldedSetIterable e env x = pure x := by
  intro x
  cases e <;> first | rfl | cases h
def bltOk (G : Gs) (Φ : Ph) (y f : Str) : Bool := decide (f = y) && glB Φ.sc f && decide (f ∈ G.blt)
def isTupE : Expr → Bool
  | .Tuple _ _ _ => true
  | _ => false
def trI1 (r : Tr) (G : Gs) (Φ : Ph) (tg : Expr) (f : Str) (p : Pos) (a : Expr) (pos : Pos) : Option It' :=
  if bltOk G Φ "range" f = true then (if isStar a = true then none else (r.e Φ a).map .rng1)
  else if bltOk G Φ "enumerate" f = true then (if isStar a = true ∨ isTupE tg = false then none else (r.e Φ a).map .enm)
  else (r.e Φ (.Call (.Name f p) [a] [] pos)).map .seq
def trI2 (r : Tr) (G : Gs) (Φ : Ph) (tg : Expr) (f : Str) (p : Pos) (a b : Expr) (pos : Pos) : Option It' :=
  if bltOk G Φ "range" f = true then (if isStar a = true ∨ isStar b = true then none else match r.e Φ a, r.e Φ b with
      | some x, some y => some (.rng2 x y)
      | _, _ => none)
  else if bltOk G Φ "zip" f = true then (if isStar a = true ∨ isStar b = true ∨ isTupE tg = false then none else match r.e Φ a, r.e Φ b with
      | some x, some y => some (.zip x y)
      | _, _ => none)
  else (r.e Φ (.Call (.Name f p) [a, b] [] pos)).map .seq
def trI (r : Tr) (G : Gs) (Φ : Ph) (tg e : Expr) : Option It' := match e with
  | .Call (.Name f p) [a] [] pos => trI1 r G Φ tg f p a pos
  | .Call (.Name f p) [a, b] [] pos => trI2 r G Φ tg f p a b pos
  | e => if notSet e = true then (r.e Φ e).map .seq else none
section
variable {D : Wd} {Φ : Ph} {W : WX} {r : Tr} {tg : Expr}
theorem seqI_ok (R : r.Ok D) {e : Expr} {x : E} (h : r.e Φ e = some x) : XI D Φ W tg e ((It'.seq x).ev D.Γ) := by
  obtain ⟨t, s, p⟩ := R.e Φ W e x h
  exact ⟨_, semI_seq s, fun X F => F.eK ▸ pi_seq (p X F)⟩
theorem bltOk_ok (tab : D.Tab) {y f : Str} (h : bltOk D.G Φ y f = true) : f = y ∧ ∀ X, Fit D Φ W X → Gl X y ∧ X.mg y = none := by
  unfold bltOk at h
  simp only [Bool.and_eq_true, decide_eq_true_eq] at h
  obtain ⟨⟨rfl, hg⟩, hb⟩ := h
  exact ⟨rfl, fun X F => ⟨glB_ok F hg, by rw [F.em]; exact tab.blt _ hb⟩⟩
theorem semI_zip {K : PySem.W.Frag} {ta tb : TE} {fa fb : Ro → Om → R Sv} (ha : SemE K W ta fa) (hb : SemE K W tb fb) : SemI K W (iZipK K (tCons ta (tCons tb tNil))) (fZip fa fb) := fun ρ ω σ F H ps rl s Q h =>
  ha ρ ω σ F H ps rl s _ (Out.bind h fun a ω1 v1 F1 H1 p1 s1 r1 q1 h1 =>
    hb ρ ω1 σ F1 H1 p1 r1 (s.step s1) _ (Out.bind h1 fun b ω2 v2 F2 H2 p2 s2 r2 q2 h2 => by
      split at h2
      · rename_i d ω3 e3
        obtain ⟨F3, r3, s3, d3⟩ := Om.fz_ok e3 r2 (q1.step s2)
        split at h2
        · rename_i e ω4 e4
          obtain ⟨F4, r4, s4, d4⟩ := Om.fz_ok e4 r3 (q2.step s3)
          split at h2
          · rename_i ds es i1 i2
            obtain ⟨k1, e1, at1, x1⟩ := (d3.mono s4.ex).kd i1
            obtain ⟨k2, e2, at2, x2⟩ := d4.kd i2
            exact ⟨k1, k2, by rw [← e1, ← e2], at1 _ r4.ex, at2 _ r4.ex, (Out.step (s3.trans s4) h2).here r4 (walks_zz at1 at2 x1 x2)⟩
          · exact h2.elim
        · exact h2.elim
      · exact h2.elim))
theorem semI_enm {K : PySem.W.Frag} {ta : TE} {fa : Ro → Om → R Sv} (ha : SemE K W ta fa) : SemI K W (iEnum K (tCons ta tNil)) (fEnm fa) := fun ρ ω σ F H ps rl s Q h =>
  ha ρ ω σ F H ps rl s _ (Out.bind h fun a ω1 v1 F1 H1 p1 s1 r1 q1 h1 => by
    split at h1
    · rename_i d ω3 e3
      obtain ⟨F3, r3, s3, d3⟩ := Om.fz_ok e3 r1 q1
      have h2 := Out.step s3 h1
      cases d3 with
      | lst g1 g2 => exact ⟨_, _, rfl, SqL.of (r3.ex _ _ g1), h2.here r3 (walks_e (SqL.of g1) g2)⟩
      | rol g1 g2 => exact ⟨_, _, rfl, r3.ex.sql g1, h2.here r3 (walks_e g1 g2)⟩
      | _ => exact h2.elim
    · exact h1.elim)
theorem i1_ok (tab : D.Tab) (R : r.Ok D) {f : Str} {p pos : Pos} {a : Expr} {x : It'} (h : trI1 r D.G Φ tg f p a pos = some x) : XI D Φ W tg (.Call (.Name f p) [a] [] pos) (x.ev D.Γ) := by
  unfold trI1 at h
  split at h
  · rename_i hr
    obtain ⟨rfl, hf⟩ := bltOk_ok (W := W) tab hr
    split at h
    · cases h
    · rename_i hs
      have hs' : isStar a = false := by simpa using hs
      rw [Option.map_eq_some_iff] at h
      obtain ⟨y, h1, rfl⟩ := h
      obtain ⟨t, s, q⟩ := R.e Φ W a y h1
      refine ⟨_, ?_, fun X F => pi_range1 (hf X F).1 (hf X F).2 (pa_cons (q X F) pa_nil (starEach_cons hs')) (starEach_cons hs')⟩
      intro ρ ω σ F H ps rl sl Q hq
      refine s ρ ω σ F H ps rl sl _ (Out.bind hq fun a ω1 v1 F1 H1 p1 s1 r1 q1 h1 => ?_)
      split at h1
      · rename_i i ei
        split at h1
        · rename_i hb
          exact ⟨i, by rw [(Om.toD_ok ei r1 q1).int_inv], hb.2, hb.1, h1.here r1 walks_r⟩
        · exact h1.elim
      · exact h1.elim
  · split at h
    · rename_i hr
      obtain ⟨rfl, hf⟩ := bltOk_ok (W := W) tab hr
      split at h
      · cases h
      · rename_i hs
        rw [not_or] at hs
        have hs' : isStar a = false := by simpa using hs.1
        rw [Option.map_eq_some_iff] at h
        obtain ⟨y, h1, rfl⟩ := h
        obtain ⟨t, s, q⟩ := R.e Φ W a y h1
        cases tg with
        | Tuple es k tp => exact ⟨_, semI_enm s, fun X F => F.eK ▸ pi_enum (hf X F).1 (hf X F).2 (pa_cons (q X F) pa_nil (starEach_cons hs')) (starEach_cons hs')⟩
        | _ => exact absurd rfl hs.2
    · rw [Option.map_eq_some_iff] at h
      obtain ⟨y, h1, rfl⟩ := h
      exact seqI_ok R h1
theorem i2_ok (tab : D.Tab) (R : r.Ok D) {f : Str} {p pos : Pos} {a b : Expr} {x : It'} (h : trI2 r D.G Φ tg f p a b pos = some x) : XI D Φ W tg (.Call (.Name f p) [a, b] [] pos) (x.ev D.Γ) := by
  unfold trI2 at h
  split at h
  · rename_i hr
    obtain ⟨rfl, hf⟩ := bltOk_ok (W := W) tab hr
    split at h
    · cases h
    · rename_i hs
      rw [not_or] at hs
      have ha' : isStar a = false := by simpa using hs.1
      have hb' : isStar b = false := by simpa using hs.2
      split at h
      · rename_i y z h1 h2
        cases h
        obtain ⟨t, s, q⟩ := R.e Φ W a y h1
        obtain ⟨t2, s2, q2⟩ := R.e Φ W b z h2
        refine ⟨_, ?_, fun X F => pi_range2 (hf X F).1 (hf X F).2 (pa_cons (q X F) (pa_cons (q2 X F) pa_nil (starEach_cons hb')) (starEach_cons ha')) (by rw [starEach_cons ha', starEach_cons hb']; rfl) (starEach_cons hb')⟩
        intro ρ ω σ F H ps rl sl Q hq
        refine s ρ ω σ F H ps rl sl _ (Out.bind hq fun a ω1 v1 F1 H1 p1 s1 r1 q1 h1 => ?_)
        refine s2 ρ ω1 σ F1 H1 p1 r1 (sl.step s1) _ (Out.bind h1 fun b ω2 v2 F2 H2 p2 s2 r2 q2 h2 => ?_)
        split at h2
        · rename_i i j ei ej
          split at h2
          · rename_i hb
            exact ⟨i, j, by rw [(Om.toD_ok ei r2 (q1.step s2)).int_inv, (Om.toD_ok ej r2 q2).int_inv], ⟨hb.2.1, hb.1, hb.2.2.2, hb.2.2.1⟩, h2.here r2 walks_r⟩
          · exact h2.elim
        · exact h2.elim
      · cases h
  · split at h
    · rename_i hr
      obtain ⟨rfl, hf⟩ := bltOk_ok (W := W) tab hr
      split at h
      · cases h
      · rename_i hs
        rw [not_or, not_or] at hs
        have ha' : isStar a = false := by simpa using hs.1
        have hb' : isStar b = false := by simpa using hs.2.1
        split at h
        · rename_i y z h1 h2
          cases h
          obtain ⟨t, s, q⟩ := R.e Φ W a y h1
          obtain ⟨t2, s2, q2⟩ := R.e Φ W b z h2
          cases tg with
          | Tuple es k tp => exact ⟨_, semI_zip s s2, fun X F => F.eK ▸ pi_zipK (hf X F).1 (hf X F).2 (pa_cons (q X F) (pa_cons (q2 X F) pa_nil (starEach_cons hb')) (starEach_cons ha')) (starEach_cons ha') (backTo_plain (by simp [hb']))⟩
          | _ => exact absurd rfl hs.2.2
        · cases h
    · rw [Option.map_eq_some_iff] at h
      obtain ⟨y, h1, rfl⟩ := h
      exact seqI_ok R h1
theorem i_ok (tab : D.Tab) (R : r.Ok D) {e : Expr} {x : It'} (h : trI r D.G Φ tg e = some x) : XI D Φ W tg e (x.ev D.Γ) ∧ notSet e = true := by
  unfold trI at h
  split at h
  · exact ⟨i1_ok tab R h, rfl⟩
  · exact ⟨i2_ok tab R h, rfl⟩
  · split at h
    · rename_i hn
      rw [Option.map_eq_some_iff] at h
      obtain ⟨y, h1, rfl⟩ := h
      exact ⟨seqI_ok R h1, hn⟩
    · cases h
end
end Vm
end
section
set_option Elab.async false
set_option linter.all false
set_option maxRecDepth 100000
set_option maxHeartbeats 4000000
/-! own errors in the texts -/
namespace Vm
open PySem PySem.Spec PyProof.Rows L2

/-- C(y), C() -/
def trEc (r : Tr) (G : Gs) (Φ : Ph) (f : Str) (args : List Expr) : Option E :=
  if plainName f = true ∧ glB Φ.sc f = true then match G.ecs.lookup f, args with
    | some (some g), [a] => if isStar a = true then none else (r.e Φ a).map fun x => .xf (.mke f g) (.cons x .nil)
    | some none, [] => some (.xf (.mk0 f) .nil)
    | _, _ => none
  else none
/-- C(..), C an own class -/
def trNew (r : Tr) (G : Gs) (Φ : Ph) (f : Str) (args : List Expr) : Option E :=
  if plainName f = true ∧ glB Φ.sc f = true then match G.cls.find? fun d => decide (d.c = f) with
    | some d => if ("__init__" : Str) ∈ d.ms then (trEs r Φ args).map (.new f (mnm f "__init__")) else none
    | none => none
  else none
/-- o.m(..), m a method of o's own class -/
def trOm (r : Tr) (G : Gs) (Φ : Ph) (o : Expr) (m : Str) (args : List Expr) (apos cpos : Pos) : Option E :=
  if notSuper o = true ∧ (apos.endLine == cpos.line) = true ∧ args.length < 30 ∧ (G.cls.any fun d => decide (m ∈ d.ms)) = true then match r.e Φ o, trEs r Φ args with
    | some a, some as => some (.cm (G.cls.filterMap fun d => if m ∈ d.ms then some d.c else none) m a as)
    | _, _ => none
  else none
/-- C(f=y) -/
def trEk (r : Tr) (G : Gs) (Φ : Ph) (f : Str) (k : Option Str) (a : Expr) : Option E :=
  if plainName f = true ∧ glB Φ.sc f = true then match G.ecs.lookup f, k with
    | some (some g), some k => if k = g then (r.e Φ a).map fun x => .xf (.mke f g) (.cons x .nil) else none
    | _, _ => none
  else none
/-- y.f, y an error with this field -/
def trFl (r : Tr) (G : Gs) (Φ : Ph) (o : Expr) (f : Str) : Option E :=
  if notSuper o = true then (r.e Φ o).map fun x => .xf (.fld (G.ecs.filterMap fun q => if q.2 = some f then some q.1 else none) (G.cls.filterMap fun d => if f ∈ d.flds then some d.c else none) f) (.cons x .nil) else none
/-- isinstance(y, T), T told by its answers -/
def trIs (r : Tr) (G : Gs) (Φ : Ph) (f : Str) (args : List Expr) : Option E :=
  if bltOk G Φ "isinstance" f = true then match args with
    | [a, .Name T _] => if isStar a = false ∧ plainName T = true ∧ glB Φ.sc T = true then match G.isa.lookup T with
        | some t => (r.e Φ a).map fun x => .xf (.isx t) (.cons x .nil)
        | none => none
      else none
    | _ => none
  else none
/-- y in T, T a written dict -/
def trTn (r : Tr) (G : Gs) (Φ : Ph) (a : Expr) (op : CmpOp) (b : Expr) : Option E := match b with
  | .Name T _ => if plainName T = true ∧ glB Φ.sc T = true ∧ behindInMarks op b = false then match G.tabs.lookup T with
      | some ks => match op with
        | .In => (r.e Φ a).map fun x => .xf (.tin false ks) (.cons x .nil)
        | .NotIn => (r.e Φ a).map fun x => .xf (.tin true ks) (.cons x .nil)
        | _ => none
      | none => none
    else none
  | _ => none
/-- {'k': y} -/
def trDs (r : Tr) (Φ : Ph) (k : Str) (a : Expr) : Option E := (r.e Φ a).map (.dsp k)
section
variable {D : Wd} {Φ : Ph} {W : WX} {r : Tr} {X : Cx}
theorem semN_no {K : PySem.W.Frag} {rr : List V → Hp → VK → Prop} : SemN K rr (fun _ _ => .no) := fun ω F H ps xs as r q σ W Q h => h.elim
theorem Fit.room2 (F : Fit D Φ W X) (tab : D.Tab) (h : 2 ≤ D.Γ.lvl) : Room 2 X.A := F.room.mono (by rw [← tab.lvl]; exact h)
theorem ec_ok (tab : D.Tab) (R : r.Ok D) {f : Str} {args : List Expr} {p pos : Pos} {x : E} (h : trEc r D.G Φ f args = some x) : XE D Φ W (.Call (.Name f p) args [] pos) (x.ev D.Γ) := by
  unfold trEc at h
  split at h
  · rename_i hp
    obtain ⟨hp, hg⟩ := hp
    obtain ⟨p1, p2, p3⟩ := plain_ok hp
    split at h
    · rename_i g a hl
      have hm := PySem.mem_of_lookup hl
      split at h
      · cases h
      · rename_i hs
        have hs' : isStar a = false := by simpa using hs
        rw [Option.map_eq_some_iff] at h
        obtain ⟨y, h1, rfl⟩ := h
        obtain ⟨t, s, q⟩ := R.e Φ W a y h1
        cases tab.ecs _ _ hm with
        | one m T =>
        by_cases h2 : 2 ≤ D.Γ.lvl
        · refine ⟨tCB (rMkE (gad D.K f) g) (tCons t tNil), ?_, fun X F => ?_⟩
          · show SemE D.K W _ (fN (lvlG D.Γ.lvl (mkES f g)) _)
            rw [lvlG_pos h2]
            exact sem_cb (sem_cons s sem_nil) (sem_mkE f g)
          · exact pe_mkE (by rw [F.eK]; exact T) (F.room2 tab h2) (glB_ok F hg) (by rw [F.em]; exact m) (pa_cons (q X F) pa_nil (starEach_cons hs')) p1 (starEach_cons hs')
        · refine ⟨tCB (fun _ _ _ => False) (tCons t tNil), ?_, fun X F => ?_⟩
          · show SemE D.K W _ (fN (lvlG D.Γ.lvl (mkES f g)) _)
            rw [lvlG_neg h2]
            exact sem_cb (sem_cons s sem_nil) semN_no
          · exact pe_cls1 (by rw [F.eK]; exact T.T.kC) (glB_ok F hg) (by rw [F.em]; exact m) (pa_cons (q X F) pa_nil (starEach_cons hs')) p1 (starEach_cons hs') fun _ _ _ _ _ _ _ _ _ z => z.elim
    · rename_i hl
      have hm := PySem.mem_of_lookup hl
      cases h
      cases tab.ecs _ _ hm with
      | zero m q kp b t =>
      by_cases h2 : 2 ≤ D.Γ.lvl
      · refine ⟨tCB (fun _ H Q => rMk0 (gad D.K f) H Q) tNil, ?_, fun X F => ?_⟩
        · show SemE D.K W _ (fN (lvlG D.Γ.lvl (mk0S f)) _)
          rw [lvlG_pos h2]
          exact sem_cb sem_nil (sem_mk0 f)
        · exact pe_mk0 (by rw [F.eK]; exact q) (by rw [F.eK]; exact kp) (glB_ok F hg) (by rw [F.em]; exact m) p1
      · refine ⟨fun _ _ _ => False, ?_, fun X F => ⟨fun _ _ _ _ _ _ z => z.elim⟩⟩
        show SemE D.K W _ (fN (lvlG D.Γ.lvl (mk0S f)) _)
        rw [lvlG_neg h2]
        exact fun ρ ω σ F H ps rl sl Q z => z
    · cases h
  · cases h
theorem new_ok (tab : D.Tab) (R : r.Ok D) {f : Str} {args : List Expr} {p pos : Pos} {x : E} (h : trNew r D.G Φ f args = some x) : XE D Φ W (.Call (.Name f p) args [] pos) (x.ev D.Γ) := by
  unfold trNew at h
  split at h
  · rename_i hp
    obtain ⟨hp, hg⟩ := hp
    obtain ⟨p1, p2, p3⟩ := plain_ok hp
    split at h
    · rename_i d hf
      have hd := List.mem_of_find?_eq_some hf
      have hc : d.c = f := by simpa using List.find?_some hf
      subst hc
      split at h
      · rename_i hm
        rw [Option.map_eq_some_iff] at h
        obtain ⟨xs, h1, rfl⟩ := h
        have C := tab.cls d hd
        by_cases h2 : 1 ≤ D.Γ.lvl
        · obtain ⟨j, hj⟩ : ∃ j, D.k = j + 1 := ⟨D.k - 1, by rw [← tab.lvl]; omega⟩
          have e : (E.new d.c (mnm d.c "__init__") xs).ev D.Γ = fNew d.c (D.Γ.call1 (mnm d.c "__init__")) (xs.ev D.Γ) := by
            show (if 1 ≤ D.Γ.lvl then fNew d.c (D.Γ.call1 (mnm d.c "__init__")) (xs.ev D.Γ) else fun _ _ => .no) = _
            rw [if_pos h2]
          rw [e]
          have F3 : ∀ X, Fit D Φ W X → FnG X.prog X.w X.K X.mg X.base j (He.fAd D.K (d.c, some "__init__")) (spOf D.K (D.Γ.call1 (mnm d.c "__init__"))) := fun X F => by
            rw [F.eP, F.ew, F.eK, F.em, F.eb]
            exact C.fn1 _ hm j hj
          have mk : ∀ X, Fit D Φ W X → L2.Mk X.K (gad D.K d.c) (He.fAd D.K (d.c, some "__init__")) := fun X F => by rw [F.eK]; exact C.ini hm
          have mg : ∀ X, Fit D Φ W X → X.mg d.c = some (.ref (gad D.K d.c)) := fun X F => by rw [F.em]; exact C.at_
          have rm : ∀ X, Fit D Φ W X → Room (j + 1) X.A := fun X F => hj ▸ F.room
          cases args with
          | nil =>
            cases h1
            exact ⟨_, sem_new _ _ sem_nil, fun X F => pe_newG0 (mk X F) (F3 X F) (rm X F) F.grd (glB_ok F hg) (mg X F) (fun σ => passAt F.tk σ) p1⟩
          | cons e es =>
            obtain ⟨⟨t, s, pa⟩, all⟩ := es_ok (W := W) R h1
            simp only [List.all_cons, Bool.and_eq_true, Bool.not_eq_true'] at all
            exact ⟨_, sem_new _ _ s, fun X F => pe_newG (mk X F) (F3 X F) (rm X F) F.grd (glB_ok F hg) (mg X F) (fun σ => passAt F.tk σ) (pa X F) p1 (starEach_cons all.1) (backTo_plain all.2)⟩
        · have e : (E.new d.c (mnm d.c "__init__") xs).ev D.Γ = fun _ _ => .no := by
            show (if 1 ≤ D.Γ.lvl then fNew d.c (D.Γ.call1 (mnm d.c "__init__")) (xs.ev D.Γ) else fun _ _ => .no) = _
            rw [if_neg h2]
          rw [e]
          exact ⟨fun _ _ _ => False, fun ρ ω σ F H ps rl sl Q z => z, fun X F => ⟨fun _ _ _ _ _ _ z => z.elim⟩⟩
      · cases h
    · cases h
  · cases h
theorem om_ok (tab : D.Tab) (R : r.Ok D) {o : Expr} {m : Str} {args : List Expr} {apos cpos : Pos} {x : E} (h : trOm r D.G Φ o m args apos cpos = some x) : XE D Φ W (.Call (.Attribute o m apos) args [] cpos) (x.ev D.Γ) := by
  unfold trOm at h
  split at h
  · rename_i hp
    obtain ⟨h1, h2, h3, _⟩ := hp
    split at h
    · rename_i a as e1 e2
      cases h
      obtain ⟨t, so, po⟩ := R.e Φ W o a e1
      let PR : Addr → Sp → Prop := fun f sp => FnG D.P D.w D.K D.mg D.base D.k f sp
      have hc : ∀ c ∈ (D.G.cls.filterMap fun d => if m ∈ d.ms then some d.c else none), Cls D.K (gad D.K c) ∧ Meth D.K (gad D.K c) m (He.fAd D.K (c, some m)) ∧ PR (He.fAd D.K (c, some m)) (spOf D.K (D.Γ.call (mnm c m))) := fun c hc => by
        rw [List.mem_filterMap] at hc
        obtain ⟨d, q2, q3⟩ := hc
        split at q3
        · rename_i e
          cases q3
          have C := tab.cls d q2
          exact ⟨C.cl, C.me m e, C.fn m e⟩
        · cases q3
      have F3 : ∀ X, Fit D Φ W X → ∀ f sp, PR f sp → FnG X.prog X.w X.K X.mg X.base D.k f sp := fun X F f sp z => by
        rw [F.eP, F.ew, F.eK, F.em, F.eb]
        exact z
      cases args with
      | nil =>
        cases e2
        exact ⟨_, sem_meth (ad := fun c => He.fAd D.K (c, some m)) so sem_nil hc, fun X F => F.eK ▸ pe_methG0 (po X F) (F3 X F) F.room F.grd (fun σ => passAt F.tk σ) (base_ok h1) h2⟩
      | cons e es =>
        obtain ⟨⟨u, sa, pa⟩, all⟩ := es_ok (W := W) R e2
        simp only [List.all_cons, Bool.and_eq_true, Bool.not_eq_true'] at all
        refine ⟨_, sem_meth (ad := fun c => He.fAd D.K (c, some m)) so sa hc, fun X F => ?_⟩
        have hfew : ((backTo cpos (starEach (e :: es) X.env)).all (fun x => !x.1) && (backToKw cpos (keywordEach [] X.env)).all (fun x => x.1.isSome) && decide ((e :: es).length + ([] : List Keyword).length + (if ([] : List Keyword).isEmpty then 0 else 1) < 30)) = true := by
          rw [backTo_all (by simp [all.1, all.2])]
          simp only [Bool.true_and, Bool.and_eq_true, decide_eq_true_eq]
          exact ⟨rfl, h3⟩
        exact F.eK ▸ pe_methG (po X F) (F3 X F) F.room F.grd (fun σ => passAt F.tk σ) (pa X F) (base_ok h1) hfew h2 (starEach_cons all.1) (backTo_plain all.2)
    · cases h
  · cases h
theorem ek_ok (tab : D.Tab) (R : r.Ok D) {f : Str} {k : Option Str} {a : Expr} {p pos kp : Pos} {x : E} (h : trEk r D.G Φ f k a = some x) : XE D Φ W (.Call (.Name f p) [] [⟨k, a, kp⟩] pos) (x.ev D.Γ) := by
  unfold trEk at h
  split at h
  · rename_i hp
    obtain ⟨hp, hg⟩ := hp
    obtain ⟨p1, p2, p3⟩ := plain_ok hp
    split at h
    · rename_i g k' hl
      have hm := PySem.mem_of_lookup hl
      split at h
      · rename_i hk
        subst hk
        rw [Option.map_eq_some_iff] at h
        obtain ⟨y, h1, rfl⟩ := h
        obtain ⟨t, s, q⟩ := R.e Φ W a y h1
        cases tab.ecs _ _ hm with
        | one m T =>
        by_cases h2 : 2 ≤ D.Γ.lvl
        · refine ⟨tCB (rMkE (gad D.K f) k') (tCons t tNil), ?_, fun X F => ?_⟩
          · show SemE D.K W _ (fN (lvlG D.Γ.lvl (mkES f k')) _)
            rw [lvlG_pos h2]
            exact sem_cb (sem_cons s sem_nil) (sem_mkE f k')
          · exact pe_mkK (by rw [F.eK]; exact T) (F.room2 tab h2) (glB_ok F hg) (by rw [F.em]; exact m) (q X F) p1
        · refine ⟨tCB (fun _ _ _ => False) (tCons t tNil), ?_, fun X F => ?_⟩
          · show SemE D.K W _ (fN (lvlG D.Γ.lvl (mkES f k')) _)
            rw [lvlG_neg h2]
            exact sem_cb (sem_cons s sem_nil) semN_no
          · exact pe_clsK (by rw [F.eK]; exact T.T.kC) (glB_ok F hg) (by rw [F.em]; exact m) (q X F) p1 fun _ _ _ _ _ _ _ _ _ z => z.elim
      · cases h
    · cases h
  · cases h
theorem fl_ok (tab : D.Tab) (R : r.Ok D) {o : Expr} {f : Str} {pos : Pos} {x : E} (h : trFl r D.G Φ o f = some x) : XE D Φ W (.Attribute o f pos) (x.ev D.Γ) := by
  unfold trFl at h
  split at h
  · rename_i hn
    rw [Option.map_eq_some_iff] at h
    obtain ⟨y, h1, rfl⟩ := h
    obtain ⟨t, s, q⟩ := R.e Φ W o y h1
    refine ⟨tCB (rFld2 D.K f) (tCons t tNil), sem_cb (sem_cons s sem_nil) (sem_fld2 (fun c hc => ?_) fun c hc => ?_), fun X F => F.eK ▸ pe_fld2 (q X F) (base_ok hn)⟩
    · rw [List.mem_filterMap] at hc
      obtain ⟨⟨c', o'⟩, h2, h3⟩ := hc
      dsimp only at h3
      split at h3
      · rename_i e
        cases h3
        subst e
        cases tab.ecs _ _ h2 with
        | one m T => exact ⟨T.X, T.no⟩
      · cases h3
    · rw [List.mem_filterMap] at hc
      obtain ⟨d, h2, h3⟩ := hc
      split at h3
      · rename_i e
        cases h3
        exact ⟨(tab.cls d h2).cl, (tab.cls d h2).no f e⟩
      · cases h3
  · cases h
theorem clsV_rel {v : V} {u : Value} (k : ClsV v u) : RelV v u := by cases k <;> rfl
theorem is_ok (tab : D.Tab) (R : r.Ok D) {f : Str} {args : List Expr} {p pos : Pos} {x : E} (h : trIs r D.G Φ f args = some x) : XE D Φ W (.Call (.Name f p) args [] pos) (x.ev D.Γ) := by
  unfold trIs at h
  split at h
  · rename_i hb
    obtain ⟨rfl, hf⟩ := bltOk_ok (W := W) tab hb
    split at h
    · split at h
      · rename_i a T tp hh
        obtain ⟨hs, hp, hg⟩ := hh
        obtain ⟨p1, p2, p3⟩ := plain_ok hp
        split at h
        · rename_i t hl
          rw [Option.map_eq_some_iff] at h
          obtain ⟨y, h1, rfl⟩ := h
          obtain ⟨ta, s, q⟩ := R.e Φ W a y h1
          obtain ⟨v, u, kc, ok, st⟩ := tab.isa _ _ hl
          refine ⟨tCB (rIsx D.K v) (tCons ta tNil), sem_cb (sem_cons s sem_nil) (sem_isx kc ok), fun X F => ?_⟩
          have pn : PE X (.Name T tp) (tC v) := by
            rcases st with m | ⟨m, b⟩
            · exact pe_glob (glB_ok F hg) (by rw [F.em]; exact m) (clsV_rel kc) p1
            · exact pe_bltn (glB_ok F hg) (by rw [F.em]; exact m) b (clsV_rel kc) p3 p1
          have pc := pe_callB (p := p) (pos := pos) (call_isx (X := X)) (hf X F).1 (hf X F).2 boot_isinstance (pa_cons (q X F) (pa_cons pn pa_nil (starEach_cons rfl)) (starEach_cons hs)) (by decide) (by decide) (starEach_cons hs) (backTo_plain rfl)
          rw [F.eK] at pc
          exact pc
        · cases h
      · cases h
    · cases h
  · cases h
theorem tn_ok (tab : D.Tab) (R : r.Ok D) {a b : Expr} {op : CmpOp} {pos : Pos} {x : E} (h : trTn r D.G Φ a op b = some x) : XE D Φ W (.Compare a [op] [b] pos) (x.ev D.Γ) := by
  unfold trTn at h
  split at h
  · rename_i T tp
    split at h
    · rename_i hh
      obtain ⟨hp, hg, hb⟩ := hh
      obtain ⟨p1, p2, p3⟩ := plain_ok hp
      split at h
      · rename_i ks hl
        obtain ⟨d, es, n, m, kd, hz⟩ := tab.tabs _ _ hl
        have pn : ∀ X, Fit D Φ W X → PE X (.Name T tp) (tC (.ref d)) := fun X F => pe_glob (v := .ref d) (glB_ok F hg) (by rw [F.em]; exact m) rfl p1
        have kdX : ∀ X, Fit D Φ W X → KDict X.K X.w d es n := fun X F => by rw [F.eK, F.ew]; exact kd
        split at h
        · rw [Option.map_eq_some_iff] at h
          obtain ⟨y, h1, rfl⟩ := h
          obtain ⟨ta, s, q⟩ := R.e Φ W a y h1
          refine ⟨tCB (rTin D.K d false) (tCons ta tNil), sem_cb (sem_cons s sem_nil) (sem_tin hz), fun X F => ?_⟩
          have pc := pe_cmpR (pos := pos) (op_in_kd (kdX X F)) (q X F) (pn X F) hb
          rw [F.eK] at pc
          exact pc
        · rw [Option.map_eq_some_iff] at h
          obtain ⟨y, h1, rfl⟩ := h
          obtain ⟨ta, s, q⟩ := R.e Φ W a y h1
          refine ⟨tCB (rTin D.K d true) (tCons ta tNil), sem_cb (sem_cons s sem_nil) (sem_tin hz), fun X F => ?_⟩
          have pc := pe_cmpR (pos := pos) (op_notIn_kd (kdX X F)) (q X F) (pn X F) hb
          rw [F.eK] at pc
          exact pc
        · cases h
      · cases h
    · cases h
  · cases h
theorem ds_ok (R : r.Ok D) {k : Str} {a : Expr} {j : Nat} {kp pos : Pos} {x : E} (h : trDs r Φ k a = some x) : XE D Φ W (.Dict [some (.Constant (.str k) j kp)] [a] pos) (x.ev D.Γ) := by
  unfold trDs at h
  rw [Option.map_eq_some_iff] at h
  obtain ⟨y, h1, rfl⟩ := h
  obtain ⟨t, s, q⟩ := R.e Φ W a y h1
  exact ⟨_, sem_dsp k s, fun X F => pe_disp (pps_cons pe_str (q X F) pps_nil) rfl rfl (fun z => by cases z) (Nat.le_of_ble_eq_true rfl)⟩
end
end Vm
end
section
set_option Elab.async false
set_option linter.all false
set_option maxRecDepth 100000
set_option maxHeartbeats 4000000
namespace Vm
open PySem PySem.Spec PyProof.Rows L2

/-! ### list comprehensions -/
def ownOf (Φ : Ph) (scope : Scope) : List (Str × Nat) := scope.names.filterMap fun y => match y.2 with
  | .local => (Φ.ix y.1).map fun i => (y.1, i)
  | .cell => (Φ.ix y.1).map fun i => (y.1, i)
  | _ => none
def trIfs (r : Tr) (Φ : Ph) : List Expr → Option T
  | [] => some .yes
  | [c] => r.t Φ c
  | _ => none
def trLc (r : Tr) (G : Gs) (Φ : Ph) (own : Bool) (elt tg it : Expr) (ifs : List Expr) (scope : Scope) : Option E :=
  if blkC Φ.N Φ.sc scope (ownOf Φ scope) = true then
    match trI r G Φ tg it, trG (Φ.blk scope) 9 tg, trIfs r (Φ.blk scope) ifs, r.e (Φ.blk scope) elt with
    | some i, some g, some t, some e => if g.ix.all (fun j => ((ownOf Φ scope).map (·.2)).contains j) = true then some (.lc own i g t e ((ownOf Φ scope).map (·.2))) else none
    | _, _, _, _ => none
  else none
def XF (D : Wd) (Φ : Ph) (W : WX) (e : Expr) (f : Ro → Om → R (List Dt)) : Prop := ∃ t, SemF D.K W t f ∧ ∀ X, Fit D Φ W X → PE X e t
section
variable {D : Wd} {Φ : Ph} {W : WX} {r : Tr}
theorem XF.mode {e : Expr} {f : Ro → Om → R (List Dt)} (h : XF D Φ W e f) (own : Bool) : XE D Φ W e (if own = true then fOwn f else fDat f) := by
  obtain ⟨t, s, p⟩ := h
  cases own with
  | true => exact ⟨t, s.own, p⟩
  | false => exact ⟨t, s.dat, p⟩
theorem ifs_ok (R : r.Ok D) {ifs : List Expr} {x : T} (h : trIfs r Φ ifs = some x) : ∃ t, SemT D.K W t (x.ev D.Γ) ∧ ∀ X, Fit D Φ W X → PTs X ifs t := by
  unfold trIfs at h
  split at h
  · cases h
    exact ⟨tYes, fun ρ ω σ F H ps rl s Q q => Out.here (a := true) q rl rfl, fun X F => pts_nil⟩
  · obtain ⟨t, s, p⟩ := R.t Φ W _ x h
    exact ⟨t, s, fun X F => pts_one (p X F)⟩
  · cases h
theorem lc_parts (tab : D.Tab) (R : r.Ok D) {own : Bool} {elt tg it : Expr} {ifs : List Expr} {scope : Scope} {x : E} (h : trLc r D.G Φ own elt tg it ifs scope = some x) :
    ∃ i g t e wi gg tt te, x = .lc own i g t e ((ownOf Φ scope).map (·.2)) ∧ SemI D.K W wi (i.ev D.Γ) ∧ SemG D.K g.ix gg g.b ∧ SemT D.K never tt (t.ev D.Γ) ∧ SemE D.K never te (e.ev D.Γ) ∧
      (∀ j ∈ g.ix, j ∈ (ownOf Φ scope).map (·.2)) ∧ notSet it = true ∧ blkC Φ.N Φ.sc scope (ownOf Φ scope) = true ∧ (∀ X, Fit D Φ W X → PI X tg it wi) ∧ (∀ X, Fit D (Φ.blk scope) never X → PG X tg gg) ∧
      (∀ X, Fit D (Φ.blk scope) never X → PTs X ifs tt) ∧ (∀ X, Fit D (Φ.blk scope) never X → PE X elt te) := by
  unfold trLc at h
  split at h
  · rename_i hb
    split at h
    · rename_i i g t e h1 h2 h3 h4
      split at h
      · rename_i ha
        cases h
        obtain ⟨⟨wi, si, pi⟩, hn⟩ := i_ok (W := W) tab R h1
        obtain ⟨gg, sg, pg⟩ := (g_ok D (Φ.blk scope) never 9).1 h2
        obtain ⟨tt, st, pt⟩ := ifs_ok (W := never) R h3
        obtain ⟨te, se, pe⟩ := R.e (Φ.blk scope) never elt e h4
        refine ⟨i, g, t, e, wi, gg, tt, te, rfl, si, sg, st, se, fun j hj => ?_, hn, hb, pi, pg, pt, pe⟩
        have := List.all_eq_true.mp ha j hj
        simpa using this
      · cases h
    · cases h
  · cases h
theorem lc_ok (tab : D.Tab) (R : r.Ok D) {own : Bool} {elt tg it : Expr} {ifs : List Expr} {scope : Scope} {pos : Pos} {x : E} (h : trLc r D.G Φ own elt tg it ifs scope = some x) :
    XE D Φ W (.ListComp elt [⟨tg, it, ifs, 0⟩] scope pos) (x.ev D.Γ) := by
  obtain ⟨i, g, t, e, wi, gg, tt, te, rfl, si, sg, st, se, hj, hn, hb, pi, pg, pt, pe⟩ := lc_parts (W := W) tab R h
  refine XF.mode ⟨_, semF_lc si sg st se hj, fun X F => ?_⟩ own
  have ok : BlkOk X.N X.env.scope scope (ownOf Φ scope) := by
    rw [F.N, F.sc]
    exact blkOk_by hb
  exact pe_lc F.calm F.nX (pi X F) ok (fun s H C cl fp => pg _ (F.blk s H scope C cl fp)) (fun s H C cl fp => pt _ (F.blk s H scope C cl fp)) (fun s H C cl fp => pe _ (F.blk s H scope C cl fp)) (folded_ok hn)
end

/-! ### len of a set -/
def trLen (r : Tr) (G : Gs) (Φ : Ph) (f : Str) (args : List Expr) : Option E :=
  if bltOk G Φ "len" f = true then match args with
    | [.Call (.Name g _) [a] [] _] => if bltOk G Φ "set" g = true ∧ isStar a = false then (r.e Φ a).map .lenSet else none
    | [.SetComp elt [⟨tg, it, ifs, 0⟩] scope _] => match trLc r G Φ false elt tg it ifs scope with
      | some (.lc _ i g t e vs) => some (.lenSc i g t e vs)
      | _ => none
    | _ => none
  else none
section
variable {D : Wd} {Φ : Ph} {W : WX} {r : Tr}
theorem len_ok (tab : D.Tab) (R : r.Ok D) {f : Str} {args : List Expr} {p pos : Pos} {x : E} (h : trLen r D.G Φ f args = some x) : XE D Φ W (.Call (.Name f p) args [] pos) (x.ev D.Γ) := by
  unfold trLen at h
  split at h
  · rename_i hr
    obtain ⟨rfl, hf⟩ := bltOk_ok (W := W) tab hr
    split at h
    · split at h
      · rename_i hs
        obtain ⟨rfl, hg⟩ := bltOk_ok (W := W) tab hs.1
        rw [Option.map_eq_some_iff] at h
        obtain ⟨y, h1, rfl⟩ := h
        obtain ⟨t, s, q⟩ := R.e Φ W _ y h1
        exact ⟨_, sem_lenSet s, fun X F => F.eK ▸ pe_lenSetK F.calm (hf X F).1 (hf X F).2 (hg X F).1 (hg X F).2 (q X F) (starEach_cons hs.2)⟩
      · cases h
    · rename_i elt tg it ifs scope sp
      split at h
      · rename_i o i g t e vs hl
        cases h
        obtain ⟨i', g', t', e', wi, gg, tt, te, eq, si, sg, st, se, hj, hn, hb, pi, pg, pt, pe⟩ := lc_parts (W := W) tab R hl
        cases eq
        refine ⟨_, sem_lenSc (P := D.P) (w := D.w) si sg st se hj, fun X F => ?_⟩
        have ok : BlkOk X.N X.env.scope scope (ownOf Φ scope) := by
          rw [F.N, F.sc]
          exact blkOk_by hb
        have q := pe_lenSc (p := p) (pos := pos) (hf X F).1 (hf X F).2 (pe_scK (pos := sp) F.calm F.nX (pi X F) ok (fun s H C cl fp => pg _ (F.blk s H scope C cl fp)) (fun s H C cl fp => pt _ (F.blk s H scope C cl fp)) (fun s H C cl fp => pe _ (F.blk s H scope C cl fp)) (folded_ok hn))
        rw [F.eP, F.ew] at q
        exact q
      · cases h
    · cases h
  · cases h
end

/-! ### and, or -/
def trB (r : Tr) (Φ : Ph) (op : BoolOp) : List Expr → Option E
  | [] => none
  | [a] => r.e Φ a
  | a :: b :: rest => match r.e Φ a, trB r Φ op (b :: rest) with
    | some x, some y => some (match op with
      | .And => .and x y
      | .Or => .or x y)
    | _, _ => none
def trBT (r : Tr) (Φ : Ph) (op : BoolOp) : List Expr → Option T
  | [] => none
  | [a] => r.t Φ a
  | a :: b :: rest => match r.t Φ a, trBT r Φ op (b :: rest) with
    | some x, some y => some (match op with
      | .And => .and x y
      | .Or => .or x y)
    | _, _ => none
section
variable {D : Wd} {Φ : Ph} {W : WX} {r : Tr}
theorem b_ok (R : r.Ok D) {op : BoolOp} {pos : Pos} : ∀ {es : List Expr} {x : E}, trB r Φ op es = some x → XE D Φ W (.BoolOp op es pos) (x.ev D.Γ)
  | [], x, h => by cases h
  | [a], x, h => by
    obtain ⟨t, s, p⟩ := R.e Φ W a x h
    exact ⟨t, s, fun X F => pe_one (p X F)⟩
  | a :: b :: rest, x, h => by
    unfold trB at h
    split at h
    · rename_i y z h1 h2
      obtain ⟨t, s, p⟩ := R.e Φ W a y h1
      obtain ⟨t2, s2, p2⟩ := b_ok R (pos := pos) h2
      cases op with
      | And => cases h; exact ⟨_, sem_and s s2, fun X F => F.eK ▸ pe_andT (p X F) (p2 X F)⟩
      | Or => cases h; exact ⟨_, sem_or s s2, fun X F => F.eK ▸ pe_orT (p X F) (p2 X F)⟩
    · cases h
theorem bt_ok (R : r.Ok D) {op : BoolOp} {pos : Pos} : ∀ {es : List Expr} {x : T}, trBT r Φ op es = some x → ∃ t, SemT D.K W t (x.ev D.Γ) ∧ ∀ X, Fit D Φ W X → PW X (.BoolOp op es pos) t
  | [], x, h => by cases h
  | [a], x, h => by
    obtain ⟨t, s, p⟩ := R.t Φ W a x h
    cases op with
    | And => exact ⟨t, s, fun X F => pw_and1 (p X F)⟩
    | Or => exact ⟨t, s, fun X F => pw_or1 (p X F)⟩
  | a :: b :: rest, x, h => by
    unfold trBT at h
    split at h
    · rename_i y z h1 h2
      obtain ⟨t, s, p⟩ := R.t Φ W a y h1
      obtain ⟨t2, s2, p2⟩ := bt_ok R (pos := pos) h2
      cases op with
      | And => cases h; exact ⟨_, semT_and s s2, fun X F => pw_and (p X F) (p2 X F)⟩
      | Or => cases h; exact ⟨_, semT_or s s2, fun X F => pw_or (p X F) (p2 X F)⟩
    · cases h
end

/-! ### one step -/
def trCm1 (r : Tr) (Φ : Ph) (a : Expr) (op : CmpOp) (b : Expr) : Option E :=
  if behindInMarks op b = false then match trCmp op, r.e Φ a, r.e Φ b with
    | some o, some x, some y => some (.cmp o x y)
    | _, _, _ => none
  else none
def trCm2 (r : Tr) (Φ : Ph) (a : Expr) (op op' : CmpOp) (b c : Expr) : Option E :=
  if lastMarks [op, op'] [b, c] = false then match trCmp op, trCmp op', r.e Φ a, r.e Φ b, r.e Φ c with
    | some o, some o', some x, some y, some z => some (.chn o o' x y z)
    | _, _, _, _, _ => none
  else none
def stepE (G : Gs) (r : Tr) (Φ : Ph) (e : Expr) : Option E := match e with
  | .Constant c _ _ => (trC c).map .cst
  | .Name x _ => trName G Φ x
  | .BinOp a op b _ => match trO op, r.e Φ a, r.e Φ b with
    | some o, some x, some y => some (.bin o x y)
    | _, _, _ => none
  | .UnaryOp .USub a _ => (r.e Φ a).map .neg
  | .UnaryOp .Not a _ => (r.e Φ a).map .not
  | .BoolOp op es _ => trB r Φ op es
  | .IfExp c a b _ => match r.t Φ c, r.e Φ a, r.e Φ b with
    | some t, some x, some y => some (.ite t x y)
    | _, _, _ => none
  | .Compare a [op] [b] _ => match trTn r G Φ a op b with
    | some x => some x
    | none => trCm1 r Φ a op b
  | .Compare a [op, op'] [b, c] _ => trCm2 r Φ a op op' b c
  | .Subscript a b _ => trSub r Φ a b
  | .Tuple es _ _ => (trEs r Φ es).map .tup
  | .List es _ => (trEs r Φ es).map (.lst false)
  | .Dict [] [] _ => some .dic
  | .Dict [some (.Constant (.str k) _ _)] [a] _ => trDs r Φ k a
  | .Call (.Name f _) args [] _ => match trLen r G Φ f args with
    | some x => some x
    | none => match trEc r G Φ f args with
      | some x => some x
      | none => match trIs r G Φ f args with
        | some x => some x
        | none => match trNew r G Φ f args with
          | some x => some x
          | none => trCall r G Φ f args
  | .Call (.Name f _) [] [⟨k, a, _⟩] _ => trEk r G Φ f k a
  | .Attribute o f _ => trFl r G Φ o f
  | .Call (.Attribute o m apos) args [] cpos => match trMth r Φ o m args apos cpos with
    | some x => some x
    | none => trOm r G Φ o m args apos cpos
  | .ListComp elt [⟨tg, it, ifs, 0⟩] scope _ => trLc r G Φ false elt tg it ifs scope
  | _ => none
def plainT : Expr → Bool
  | .Name _ _ => true
  | .Call _ _ _ _ => true
  | .Subscript _ _ _ => true
  | .Constant _ _ _ => true
  | .List _ _ => true
  | .Tuple _ _ _ => true
  | .ListComp _ _ _ _ => true
  | .BinOp _ _ _ _ => true
  | .Attribute _ _ _ => true
  | _ => false
def stepT (G : Gs) (r : Tr) (Φ : Ph) (e : Expr) : Option T := match e with
  | .UnaryOp .Not a _ => (r.t Φ a).map .not
  | .BoolOp op es _ => match es with
    | [] => none
    | [_] => none
    | es => trBT r Φ op es
  | .Compare a [op] [b] _ => (trCm1 r Φ a op b).map .val
  | .Compare a [op, op'] [b, c] _ => (trCm2 r Φ a op op' b c).map .val
  | e => if plainT e = true then (r.e Φ e).map .val else none
section
variable {D : Wd} {Φ : Ph} {W : WX} {r : Tr}
theorem cm1_ok (R : r.Ok D) {a b : Expr} {op : CmpOp} {x : E} (h : trCm1 r Φ a op b = some x) : ∃ o y z rr ta tb, x = .cmp o y z ∧ Sem2 D.K rr o.g ∧ SemE D.K W ta (y.ev D.Γ) ∧ SemE D.K W tb (z.ev D.Γ) ∧ behindInMarks op b = false ∧
    ∀ X, Fit D Φ W X → OpR X (compareOp op) rr ∧ PE X a ta ∧ PE X b tb := by
  unfold trCm1 at h
  split at h
  · rename_i hb
    split at h
    · rename_i o y z h1 h2 h3
      cases h
      obtain ⟨rr, s, p⟩ := cmp_ok (D := D) (Φ := Φ) (W := W) h1
      obtain ⟨ta, sa, pa⟩ := R.e Φ W a y h2
      obtain ⟨tb, sb, pb⟩ := R.e Φ W b z h3
      exact ⟨o, y, z, rr, ta, tb, rfl, s, sa, sb, hb, fun X F => ⟨p X F, pa X F, pb X F⟩⟩
    · cases h
  · cases h
theorem cm2_ok (R : r.Ok D) {a b c : Expr} {op op' : CmpOp} {x : E} (h : trCm2 r Φ a op op' b c = some x) : ∃ o o' y z u rr rr' ta tb tc, x = .chn o o' y z u ∧ Sem2 D.K rr o.g ∧ Sem2 D.K rr' o'.g ∧ SemE D.K W ta (y.ev D.Γ) ∧ SemE D.K W tb (z.ev D.Γ) ∧ SemE D.K W tc (u.ev D.Γ) ∧
    lastMarks [op, op'] [b, c] = false ∧ ∀ X, Fit D Φ W X → OpR X (compareOp op) rr ∧ OpR X (compareOp op') rr' ∧ PE X a ta ∧ PE X b tb ∧ PE X c tc := by
  unfold trCm2 at h
  split at h
  · rename_i hb
    split at h
    · rename_i o o' y z u h1 h2 h3 h4 h5
      cases h
      obtain ⟨rr, s, p⟩ := cmp_ok (D := D) (Φ := Φ) (W := W) h1
      obtain ⟨rr', s', p'⟩ := cmp_ok (D := D) (Φ := Φ) (W := W) h2
      obtain ⟨ta, sa, pa⟩ := R.e Φ W a y h3
      obtain ⟨tb, sb, pb⟩ := R.e Φ W b z h4
      obtain ⟨tc, sc, pc⟩ := R.e Φ W c u h5
      exact ⟨o, o', y, z, u, rr, rr', ta, tb, tc, rfl, s, s', sa, sb, sc, hb, fun X F => ⟨p X F, p' X F, pa X F, pb X F, pc X F⟩⟩
    · cases h
  · cases h
theorem stepE_ok (tab : D.Tab) (R : r.Ok D) {e : Expr} {x : E} (h : stepE D.G r Φ e = some x) : XE D Φ W e (x.ev D.Γ) := by
  unfold stepE at h
  split at h
  · rw [Option.map_eq_some_iff] at h
    obtain ⟨d, h1, rfl⟩ := h
    exact cst_ok h1
  · exact name_ok tab h
  · split at h
    · rename_i o y z h1 h2 h3
      cases h
      obtain ⟨rr, s, p⟩ := op2_ok (D := D) (Φ := Φ) (W := W) h1
      obtain ⟨ta, sa, pa⟩ := R.e Φ W _ y h2
      obtain ⟨tb, sb, pb⟩ := R.e Φ W _ z h3
      exact ⟨_, sem_2 sa sb s, fun X F => pe_op (p X F) (pa X F) (pb X F)⟩
    · cases h
  · rw [Option.map_eq_some_iff] at h
    obtain ⟨y, h1, rfl⟩ := h
    obtain ⟨ta, sa, pa⟩ := R.e Φ W _ y h1
    exact ⟨_, sem_1 sa sem_neg, fun X F => pe_un un_neg (pa X F)⟩
  · rw [Option.map_eq_some_iff] at h
    obtain ⟨y, h1, rfl⟩ := h
    obtain ⟨ta, sa, pa⟩ := R.e Φ W _ y h1
    exact ⟨_, sem_not sa, fun X F => F.eK ▸ pe_notT (pa X F)⟩
  · exact b_ok R h
  · split at h
    · rename_i t y z h1 h2 h3
      cases h
      obtain ⟨tc, sc, pc⟩ := R.t Φ W _ t h1
      obtain ⟨ta, sa, pa⟩ := R.e Φ W _ y h2
      obtain ⟨tb, sb, pb⟩ := R.e Φ W _ z h3
      exact ⟨_, sem_if sc sa sb, fun X F => pe_ifExp (pc X F) (pa X F) (pb X F)⟩
    · cases h
  · split at h
    · rename_i ht
      cases h
      exact tn_ok tab R ht
    · obtain ⟨o, y, z, rr, ta, tb, rfl, s, sa, sb, hb, p⟩ := cm1_ok (W := W) R h
      exact ⟨_, sem_2 sa sb s, fun X F => pe_cmpR (p X F).1 (p X F).2.1 (p X F).2.2 hb⟩
  · obtain ⟨o, o', y, z, u, rr, rr', ta, tb, tc, rfl, s, s', sa, sb, sc, hb, p⟩ := cm2_ok (W := W) R h
    exact ⟨_, sem_chain sa sb sc s s', fun X F => pe_chain (p X F).1 (p X F).2.1 (p X F).2.2.1 (p X F).2.2.2.1 (p X F).2.2.2.2 hb⟩
  · exact sub_ok R h
  · rw [Option.map_eq_some_iff] at h
    obtain ⟨y, h1, rfl⟩ := h
    obtain ⟨⟨ta, sa, pa⟩, _⟩ := es_ok (W := W) R h1
    exact ⟨_, sem_tup sa, fun X F => pe_tup (pa X F)⟩
  · rw [Option.map_eq_some_iff] at h
    obtain ⟨y, h1, rfl⟩ := h
    obtain ⟨⟨ta, sa, pa⟩, _⟩ := es_ok (W := W) R h1
    exact XF.mode ⟨_, semF_lst sa, fun X F => pe_lst (pa X F)⟩ false
  · cases h
    exact ⟨_, sem_dic, fun X F => pe_dnewK⟩
  · exact ds_ok R h
  · split at h
    · rename_i hl
      cases h
      exact len_ok tab R hl
    · split at h
      · rename_i hl
        cases h
        exact ec_ok tab R hl
      · split at h
        · rename_i hl
          cases h
          exact is_ok tab R hl
        · split at h
          · rename_i hl
            cases h
            exact new_ok tab R hl
          · exact call_ok tab R h
  · exact ek_ok tab R h
  · exact fl_ok tab R h
  · split at h
    · rename_i hl
      cases h
      exact mth_ok R hl
    · exact om_ok tab R h
  · exact lc_ok tab R h
  · cases h
theorem C2.isBl (o : C2) {a b z : Sv} {ω ω' : Om} (h : o.g a b ω = .ok z ω') : ∃ c, z = .dat (.bl c) := by
  cases o <;> simp only [C2.g] at h
  all_goals first
    | (unfold ordS at h; repeat' split at h
       all_goals first | (cases h; exact ⟨_, rfl⟩) | cases h)
    | (unfold eqS at h; split at h <;> first | (cases h; exact ⟨_, rfl⟩) | cases h)
    | (unfold isS at h; repeat' split at h
       all_goals first | (cases h; exact ⟨_, rfl⟩) | cases h)
    | (unfold inS at h; repeat' split at h
       all_goals first | (cases h; exact ⟨_, rfl⟩) | cases h)
theorem R.bind_ok_inv {α β : Type} {r : R α} {k : α → Om → R β} {b : β} {ω' : Om} (h : r.bind k = .ok b ω') : ∃ a ω1, r = .ok a ω1 ∧ k a ω1 = .ok b ω' := by
  cases r with
  | no => cases h
  | ok a ω1 => exact ⟨a, ω1, rfl, h⟩
  | ex c fd ω1 => cases h
theorem plainT_ok {e : Expr} {env : Env} (h : plainT e = true) : ∀ whole, isTrue e env whole = (do let v ← whole; standAt e.pos; holding [v] (truthy v)) := by
  cases e <;> first | (intro whole; rfl) | (unfold plainT at h; cases h)
theorem stepT_ok (tab : D.Tab) (R : r.Ok D) {e : Expr} {x : T} (h : stepT D.G r Φ e = some x) : XT D Φ W e (x.ev D.Γ) := by
  unfold stepT at h
  split at h
  · rw [Option.map_eq_some_iff] at h
    obtain ⟨y, h1, rfl⟩ := h
    obtain ⟨ta, sa, pa⟩ := R.t Φ W _ y h1
    exact ⟨_, semT_not sa, fun X F => pt_not (pa X F)⟩
  · split at h
    · cases h
    · cases h
    · obtain ⟨t, s, p⟩ := bt_ok (W := W) R h
      exact ⟨t, s, fun X F => (p X F).pt⟩
  · rw [Option.map_eq_some_iff] at h
    obtain ⟨y, h1, rfl⟩ := h
    obtain ⟨o, y, z, rr, ta, tb, rfl, s, sa, sb, hb, p⟩ := cm1_ok (W := W) R h1
    refine ⟨_, semT_bl (sem_2 sa sb s) fun ρ ω a ω1 q => ?_, fun X F => pt_cmpR (p X F).1 (p X F).2.1 (p X F).2.2 hb⟩
    obtain ⟨_, _, _, q⟩ := Vm.R.bind_ok_inv q
    obtain ⟨_, _, _, q⟩ := Vm.R.bind_ok_inv q
    exact C2.isBl o q
  · rw [Option.map_eq_some_iff] at h
    obtain ⟨y, h1, rfl⟩ := h
    obtain ⟨o, o', y, z, u, rr, rr', ta, tb, tc, rfl, s, s', sa, sb, sc, hb, p⟩ := cm2_ok (W := W) R h1
    refine ⟨_, semT_bl (sem_chain sa sb sc s s') fun ρ ω a ω1 q => ?_, fun X F => pt_chain (p X F).1 (p X F).2.1 (p X F).2.2.1 (p X F).2.2.2.1 (p X F).2.2.2.2 hb⟩
    obtain ⟨_, _, _, q⟩ := Vm.R.bind_ok_inv q
    obtain ⟨_, _, _, q⟩ := Vm.R.bind_ok_inv q
    obtain ⟨_, _, _, q⟩ := Vm.R.bind_ok_inv q
    split at q
    · obtain ⟨_, _, _, q⟩ := Vm.R.bind_ok_inv q
      exact C2.isBl o' q
    · cases q; exact ⟨_, rfl⟩
    · cases q
  · split at h
    · rename_i hp
      rw [Option.map_eq_some_iff] at h
      obtain ⟨y, h1, rfl⟩ := h
      obtain ⟨ta, sa, pa⟩ := R.e Φ W _ y h1
      exact ⟨_, semT_tru sa, fun X F => F.eK ▸ pt_truth (pa X F) (plainT_ok hp)⟩
    · cases h
end
def trn (G : Gs) : Nat → Tr
  | 0 => ⟨fun _ _ => none, fun _ _ => none⟩
  | n + 1 => ⟨stepE G (trn G n), stepT G (trn G n)⟩
theorem trn_ok {D : Wd} (tab : D.Tab) : ∀ n, (trn D.G n).Ok D
  | 0 => ⟨fun _ _ _ _ h => (by cases h), fun _ _ _ _ h => (by cases h)⟩
  | n + 1 => ⟨fun _ _ _ _ h => stepE_ok tab (trn_ok tab n) h, fun _ _ _ _ h => stepT_ok tab (trn_ok tab n) h⟩
end Vm
end
section
set_option Elab.async false
set_option linter.all false
set_option maxRecDepth 100000
set_option maxHeartbeats 4000000
/-! statements -/
namespace Vm
open PySem PySem.Spec PyProof.Rows L2

structure FitS (D : Wd) (Φ : Ph) (W : WX) (X : Cx) : Prop extends Fit D Φ W X where
  po : PassesOwn (model X.prog X.w) X.A X.env X.xe
  stk : X.stack = X.env :: X.outer
  frm : X.env.frame = some X.env.locals
def XS (D : Wd) (Φ : Ph) (W : WX) (st : Stmt) (f : Ro → Om → RS) : Prop := ∃ t, SemS D.K W t f ∧ ∀ X, FitS D Φ W X → PS X st t
def XSs (D : Wd) (Φ : Ph) (W : WX) (st : List Stmt) (f : Ro → Om → RS) : Prop := ∃ t, SemS D.K W t f ∧ ∀ X, FitS D Φ W X → PSs X st t

/-- which fresh lists are of the store -/
structure Md where
  names : List Str
  ret : Bool
/-! ### what a name is set to -/
def trEo (r : Tr) (G : Gs) (Φ : Ph) (own : Bool) (e : Expr) : Option E :=
  if own = true then match e with
    | .List es _ => (trEs r Φ es).map (.lst true)
    | .ListComp elt [⟨tg, it, ifs, 0⟩] scope _ => trLc r G Φ true elt tg it ifs scope
    | e => r.e Φ e
  else r.e Φ e
section
variable {D : Wd} {Φ : Ph} {W : WX} {r : Tr}
theorem eo_ok (tab : D.Tab) (R : r.Ok D) {own : Bool} {e : Expr} {x : E} (h : trEo r D.G Φ own e = some x) : XE D Φ W e (x.ev D.Γ) := by
  unfold trEo at h
  split at h
  · split at h
    · rw [Option.map_eq_some_iff] at h
      obtain ⟨y, h1, rfl⟩ := h
      obtain ⟨⟨ta, sa, pa⟩, _⟩ := es_ok (W := W) R h1
      exact XF.mode ⟨_, semF_lst sa, fun X F => pe_lst (pa X F)⟩ true
    · exact lc_ok tab R h
    · exact R.e Φ W e x h
  · exact R.e Φ W e x h
end
def notComp : Expr → Bool
  | .ListComp _ _ _ _ => false
  | .SetComp _ _ _ _ => false
  | .DictComp _ _ _ _ _ => false
  | _ => true
theorem swaps_no {e : Expr} {t : Option Expr} {l : Nat} {env : Env} (h : notComp e = true) : swapsWith e t l env = pure false := by
  cases e <;> first | rfl | (exfalso; simp [notComp] at h)
theorem swaps_tg {e tg : Expr} {l : Nat} {env : Env} (h : ∀ x p, tg ≠ .Name x p) : swapsWithSole [tg] e l env = pure false := by
  show swapsWith e (some tg) l env = pure false
  by_cases hc : notComp e = true
  · exact swaps_no hc
  · cases tg <;> first | exact absurd rfl (h _ _) | skip
    all_goals
      cases e <;> first | rfl | exact absurd rfl hc
/-- x = a comprehension: whether list and name are exchanged -/
def swB (Φ : Ph) (y : Str) (py pos : Pos) (scope : Scope) : Bool :=
  (match Φ.sc.kind with
    | .function => true
    | _ => false) && (match Φ.sc.names.lookup y with
    | some .local => true
    | _ => false) && (py.line == pos.line) && !(scope.names.any fun (n, k) => n == y && (k == .local || k == .cell))
theorem fn_kind {Φ : Ph} (h : (match Φ.sc.kind with
    | .function => true
    | _ => false) = true) : Φ.sc.kind = .function := by
  split at h
  · assumption
  · cases h
section
variable {D : Wd} {Φ : Ph} {W : WX} {r : Tr}
theorem set_ok (tab : D.Tab) (R : r.Ok D) {own : Bool} {e : Expr} {x : E} {y : Str} {py pos : Pos} {i : Nat} (hn : notComp e = true) (hl : locB Φ y = true) (hi : Φ.ix y = some i) (h : trEo r D.G Φ own e = some x) : XS D Φ W (.Assign [.Name y py] e pos) (sSet i (x.ev D.Γ)) := by
  obtain ⟨t, s, p⟩ := eo_ok (W := W) tab R h
  exact ⟨_, semS_set i s, fun X F => ps_set F.nX (ix_ok F.toFit hi) (locB_ok F.toFit hl).1 (p X F.toFit) (swaps_no hn) (locB_ok F.toFit hl).2⟩
theorem setLc_ok (tab : D.Tab) (R : r.Ok D) {own : Bool} {elt tg it : Expr} {ifs : List Expr} {scope : Scope} {cpos : Pos} {x : E} {y : Str} {py pos : Pos} {i : Nat} (hl : locB Φ y = true) (hi : Φ.ix y = some i)
    (hs : swB Φ y py cpos scope = true) (h : trLc r D.G Φ own elt tg it ifs scope = some x) : XS D Φ W (.Assign [.Name y py] (.ListComp elt [⟨tg, it, ifs, 0⟩] scope cpos) pos) (sSet i (x.ev D.Γ)) := by
  unfold swB at hs
  simp only [Bool.and_eq_true, Bool.not_eq_true'] at hs
  obtain ⟨⟨⟨h1, h2⟩, h3⟩, h4⟩ := hs
  have hk := fn_kind h1
  have hy : Φ.sc.names.lookup y = some .local := by
    split at h2
    · assumption
    · cases h2
  obtain ⟨i', g, t, e, wi, gg, tt, te, rfl, si, sg, st, se, hj, hn, hb, pi, pg, pt, pe⟩ := lc_parts (W := W) tab R h
  have mode : SemE D.K W (tLc wi gg tt te ((ownOf Φ scope).map (·.2))) ((E.lc own i' g t e ((ownOf Φ scope).map (·.2))).ev D.Γ) := by
    cases own with
    | true => exact (semF_lc si sg st se hj).own
    | false => exact (semF_lc si sg st se hj).dat
  refine ⟨_, semS_set i mode, fun X F => ?_⟩
  have ok : BlkOk X.N X.env.scope scope (ownOf Φ scope) := by
    rw [F.N, F.sc]
    exact blkOk_by hb
  exact ps_setLc F.calm F.nX (ix_ok F.toFit hi) (by rw [F.sc]; exact hy) (sw_true (by rw [F.sc]; exact hk) (by rw [F.sc]; exact hy) h3 h4) (pi X F.toFit) ok (fun s H C cl fp => pg _ (F.toFit.blk s H scope C cl fp)) (fun s H C cl fp => pt _ (F.toFit.blk s H scope C cl fp)) (fun s H C cl fp => pe _ (F.toFit.blk s H scope C cl fp)) (folded_ok hn)
end

/-! ### a, b = x, y -/
def parA (Φ : Ph) (x y : Str) (px py : Pos) (a b : Expr) : Bool :=
  (match Φ.sc.kind with
    | .function => true
    | _ => false) && (match Φ.sc.names.lookup x with
    | some .local => true
    | _ => false) && (match Φ.sc.names.lookup y with
    | some .local => true
    | _ => false) && (py.line == px.line) && !(x == y) && !(isStar a) && !(isStar b) && !([a, b].all (foldedForSure 8)) && !([a, b].all (constantsAlone 8))
def parB (Φ : Ph) (x y : Str) (a b : Expr) : Bool :=
  (match Φ.sc.kind with
    | .function => true
    | _ => false) && ((match Φ.sc.names.lookup x with
    | some .cell => true
    | _ => false) || (match Φ.sc.names.lookup y with
    | some .cell => true
    | _ => false) || [a, b].all (foldedForSure 8)) && !(isStar a) && !(isStar b)
theorem any_star {a b : Expr} (ha : isStar a = false) (hb : isStar b = false) : ([a, b].any isStar) = false := by
  simp [ha, hb]
theorem lk_eq {sc : Scope} {x : Str} (h : (match sc.names.lookup x with
    | some .local => true
    | _ => false) = true) : sc.names.lookup x = some .local := by
  split at h
  · assumption
  · cases h
theorem swapA {Φ : Ph} {env : Env} {x y : Str} {px py pt pt2 : Pos} {kt k2 : Nat} {a b : Expr} (hs : env.scope = Φ.sc) (h : parA Φ x y px py a b = true) :
    swappedStores [.Tuple [.Name x px, .Name y py] kt pt] (.Tuple [a, b] k2 pt2) env = pure (some [x, y]) ∧ Φ.sc.names.lookup x = some .local ∧ Φ.sc.names.lookup y = some .local ∧ x ≠ y := by
  unfold parA at h
  simp only [Bool.and_eq_true, Bool.not_eq_true'] at h
  obtain ⟨⟨⟨⟨⟨⟨⟨⟨h1, h2⟩, h3⟩, h4⟩, h5⟩, h6⟩, h7⟩, h8⟩, h9⟩ := h
  have hk := fn_kind h1
  have hx := lk_eq h2
  have hy := lk_eq h3
  have hxy : x ≠ y := by simpa using h5
  refine ⟨?_, hx, hy, hxy⟩
  have bk : env.blockKind = .function := by unfold Env.blockKind; rw [hs, hk]; rfl
  have kx : env.kindOf x = some .local := by unfold Env.kindOf; rw [hs]; exact hx
  have ky : env.kindOf y = some .local := by unfold Env.kindOf; rw [hs]; exact hy
  have as := any_star h6 h7
  unfold swappedStores
  refine Eq.trans (if_neg ?_) ?_
  · simp [bk]
  refine Eq.trans (if_neg ?_) ?_
  · intro z
    have z : [a, b].any isStar = true := z
    rw [as] at z; cases z
  have hl : (py.line == px.line) = true := h4
  have h5' : (y == x) = false := by
    cases e : (y == x) with
    | false => rfl
    | true => exact absurd (eq_of_beq e).symm hxy
  have names : List.filterMap (fun e => match e with
      | Expr.Name id pos => if (env.kindOf id == some NameKind.local && pos.line == px.line) = true then some id else none
      | _ => none) [Expr.Name x px, Expr.Name y py] = [x, y] := by
    simp [List.filterMap, kx, ky, h4]
  refine Eq.trans (if_neg ?_) ?_
  · show ¬ ((List.filterMap (fun e => match e with
      | Expr.Name id pos => if (env.kindOf id == some NameKind.local && pos.line == px.line) = true then some id else none
      | _ => none) [Expr.Name x px, Expr.Name y py]).length != 2 || (List.filterMap (fun e => match e with
      | Expr.Name id pos => if (env.kindOf id == some NameKind.local && pos.line == px.line) = true then some id else none
      | _ => none) [Expr.Name x px, Expr.Name y py]).eraseDups.length != (List.filterMap (fun e => match e with
      | Expr.Name id pos => if (env.kindOf id == some NameKind.local && pos.line == px.line) = true then some id else none
      | _ => none) [Expr.Name x px, Expr.Name y py]).length) = true
    rw [names]
    simp [List.eraseDups, List.eraseDupsBy, List.eraseDupsBy.loop, h5, h5']
  refine Eq.trans (if_neg ?_) ?_
  · intro z; rw [h8] at z; cases z
  refine Eq.trans (if_neg ?_) ?_
  · intro z; rw [h9] at z; cases z
  show pure (some (List.filterMap (fun e => match e with
      | Expr.Name id pos => if (env.kindOf id == some NameKind.local && pos.line == px.line) = true then some id else none
      | _ => none) [Expr.Name x px, Expr.Name y py])) = _
  rw [names]

theorem cell_eq {sc : Scope} {x : Str} (h : (match sc.names.lookup x with
    | some .cell => true
    | _ => false) = true) : sc.names.lookup x = some .cell := by
  split at h
  · assumption
  · cases h
theorem swapB {Φ : Ph} {env : Env} {x y : Str} {px py pt pt2 : Pos} {kt k2 : Nat} {a b : Expr} (hs : env.scope = Φ.sc) (h : parB Φ x y a b = true) :
    swappedStores [.Tuple [.Name x px, .Name y py] kt pt] (.Tuple [a, b] k2 pt2) env = pure none := by
  unfold parB at h
  simp only [Bool.and_eq_true, Bool.not_eq_true', Bool.or_eq_true] at h
  obtain ⟨⟨⟨h1, h2⟩, h6⟩, h7⟩ := h
  have hk := fn_kind h1
  have bk : env.blockKind = .function := by unfold Env.blockKind; rw [hs, hk]; rfl
  have as := any_star h6 h7
  unfold swappedStores
  refine Eq.trans (if_neg ?_) ?_
  · simp [bk]
  refine Eq.trans (if_neg ?_) ?_
  · intro z
    have z : [a, b].any isStar = true := z
    rw [as] at z; cases z
  rcases h2 with (hx | hy) | hf
  · have hx := cell_eq hx
    have kx : env.kindOf x = some .cell := by unfold Env.kindOf; rw [hs]; exact hx
    refine if_pos ?_
    have e : (env.kindOf x == some NameKind.local) = false := by rw [kx]; rfl
    simp only [List.filterMap, e, Bool.false_and, Bool.false_eq_true, if_false]
    split <;> simp
  · have hy := cell_eq hy
    have ky : env.kindOf y = some .cell := by unfold Env.kindOf; rw [hs]; exact hy
    refine if_pos ?_
    have e : (env.kindOf y == some NameKind.local) = false := by rw [ky]; rfl
    simp only [List.filterMap, e, Bool.false_and, Bool.false_eq_true, if_false]
    split <;> simp
  · split
    · simp only [ite_self]
    · rename_i hn
      exact absurd hf hn
end Vm
end
section
set_option Elab.async false
set_option linter.all false
set_option maxRecDepth 100000
set_option maxHeartbeats 4000000
/-! except clauses in the texts -/
namespace Vm
open PySem PySem.Spec PyProof.Rows L2

mutual
def trXa (G : Gs) (Φ : Ph) (x y : Str) : Nat → Expr → Option Xa
  | 0, _ => none
  | _ + 1, .Constant c _ _ => (trC c).map .cst
  | _ + 1, .Attribute (.Name y' _) f _ => if y' = y ∧ (x, some f) ∈ G.ecs then some (.fld x f) else none
  | _ + 1, .Call (.Name g _) [.Name y' _, .Name T _] [] _ => if bltOk G Φ "isinstance" g = true ∧ y' = y ∧ plainName T = true ∧ glB Φ.sc T = true then (G.isa.lookup T).map .isi else none
  | _ + 1, .Call (.Name g _) [.Attribute (.Name y' _) f _] [] _ => if bltOk G Φ "repr" g = true ∧ y' = y ∧ (x, some f) ∈ G.ecs then some (.rep x f) else none
  | n + 1, .BoolOp .And es _ => trXb G Φ x y n es
  | n + 1, .UnaryOp .Not a _ => (trXa G Φ x y n a).map .not
  | _ + 1, _ => none
def trXb (G : Gs) (Φ : Ph) (x y : Str) : Nat → List Expr → Option Xa
  | 0, _ => none
  | n + 1, [a] => trXa G Φ x y n a
  | n + 1, a :: b :: r => match trXa G Φ x y n a, trXb G Φ x y n (b :: r) with
    | some u, some v => some (.and u v)
    | _, _ => none
  | _ + 1, [] => none
end
def trXs (G : Gs) (Φ : Ph) (x y : Str) : List Expr → Option (List Xa)
  | [] => some []
  | e :: es => if isStar e = true then none else match trXa G Φ x y 9 e, trXs G Φ x y es with
    | some a, some as => some (a :: as)
    | _, _ => none
def trXh (G : Gs) (Φ : Ph) (x y : Str) : Expr → Option Xh
  | .List es _ => (trXs G Φ x y es).map .lst
  | e => (trXa G Φ x y 9 e).map .one
def isLoc (Φ : Ph) (y : Str) : Bool := match Φ.sc.names.lookup y with
  | some .local => true
  | _ => false
def trHd (G : Gs) (Φ : Ph) : ExceptHandler → Option Hd
  | .ExceptHandler (some (.Name x _)) (some y) [.Return (some e) _] _ =>
    if plainName x = true ∧ glB Φ.sc x = true ∧ plainName y = true ∧ isLoc Φ y = true then match Φ.ix y, G.exm.lookup x, trXh G Φ x y e with
      | some j, some t, some h => some ⟨t, some j, h⟩
      | _, _, _ => none
    else none
  | .ExceptHandler (some (.Name x _)) none [.Return (some (.Constant c _ _)) _] _ =>
    if plainName x = true ∧ glB Φ.sc x = true then match G.exm.lookup x, trC c with
      | some t, some d => some ⟨t, none, .one (.cst d)⟩
      | _, _ => none
    else none
  | _ => none
def trHds (G : Gs) (Φ : Ph) : List ExceptHandler → Option (List Hd)
  | [] => some []
  | h :: hs => match trHd G Φ h, trHds G Φ hs with
    | some a, some as => some (a :: as)
    | _, _ => none
section
variable {D : Wd} {Φ : Ph} {W : WX}
def XXa (D : Wd) (Φ : Ph) (W : WX) (i : Option Nat) (e : Expr) (x : Xa) : Prop := ∀ a cls dx, ∃ t, SemXa D.K i a cls dx t x ∧
  ∀ (X : Cx) (oe : Obj) (pn : List (Addr × Obj)), Fit D Φ W X → Zc cls dx oe → (∃ vs, oe.data = .fields vs) → PE (X.suite a ((a, oe) :: pn)) e t
theorem stands_pe {X : Cx} {T : Str} {tp : Pos} {v : V} {u : Value} (k : ClsV v u) (hg : Gl X T) (st : Stands X.mg T u) (p : plainName T = true) : PE X (.Name T tp) (tC v) := by
  obtain ⟨p1, p2, p3⟩ := plain_ok p
  rcases st with m | ⟨m, b⟩
  · exact pe_glob hg m (clsV_rel k) p1
  · exact pe_bltn hg m b (clsV_rel k) p3 p1
theorem xa_cst {c : Const} {d : Dt} {j : Nat} {pos : Pos} {i : Option Nat} (h : trC c = some d) : XXa D Φ W i (.Constant c j pos) (.cst d) := by
  intro a cls dx
  cases c <;> cases h
  · exact ⟨_, semXa_cst fun _ => .non, fun X oe pn F hz hf => pe_non⟩
  · exact ⟨_, semXa_cst fun _ => .bl _, fun X oe pn F hz hf => pe_bl⟩
  · exact ⟨_, semXa_cst fun _ => .int _, fun X oe pn F hz hf => pe_int⟩
  · exact ⟨_, semXa_cst fun _ => .str _, fun X oe pn F hz hf => pe_str⟩
theorem var_suite {X : Cx} {a : Addr} {pn : List (Addr × Obj)} {y : Str} {j : Nat} {pos : Pos} (F : Fit D Φ W X) (hj : Φ.ix y = some j) (hl : isLoc Φ y = true) (hp : plainName y = true) : PE (X.suite a pn) (.Name y pos) (tVar j) := by
  obtain ⟨p1, p2, _⟩ := plain_ok hp
  refine pe_var (X := X.suite a pn) (ix_ok F hj) ?_ p1 p2
  have v : visB Φ.sc y = true := by
    unfold isLoc at hl
    unfold visB
    split at hl
    · rename_i e; rw [e]
    · cases hl
  exact (show Vis X.env.scope y from visB_ok F v)
theorem xa_ok (tab : D.Tab) {x y : Str} {j : Nat} (hj : Φ.ix y = some j) (hl : isLoc Φ y = true) (hp : plainName y = true) : ∀ n,
    (∀ {e : Expr} {u : Xa}, trXa D.G Φ x y n e = some u → XXa D Φ W (some j) e u) ∧ ∀ {es : List Expr} {u : Xa} {pos : Pos}, trXb D.G Φ x y n es = some u → XXa D Φ W (some j) (.BoolOp .And es pos) u
  | 0 => ⟨fun {e u} h => (by unfold trXa at h; cases h), fun {es u pos} h => (by unfold trXb at h; cases h)⟩
  | n + 1 => by
    obtain ⟨ih1, ih2⟩ := xa_ok tab (x := x) hj hl hp n
    refine ⟨fun {e u} h => ?_, fun {es u pos} h => ?_⟩
    · unfold trXa at h
      split at h
      · cases ‹_ = 0›
      · rw [Option.map_eq_some_iff] at h
        obtain ⟨d, h1, rfl⟩ := h
        exact xa_cst h1
      · split at h
        · rename_i hh
          obtain ⟨rfl, hm⟩ := hh
          cases h
          cases tab.ecs _ _ hm with
          | one m T =>
          intro a cls dx
          exact ⟨_, semXa_fld rfl, fun X oe pn F hz hf => pe_xf (by rw [F.eK]; exact T.X) (by rw [F.eK]; exact T.no) hz hf (var_suite F hj hl hp) rfl⟩
        · cases h
      · split at h
        · rename_i hh
          obtain ⟨hb, rfl, pT, gT⟩ := hh
          obtain ⟨rfl, hf0⟩ := bltOk_ok (W := W) tab hb
          rw [Option.map_eq_some_iff] at h
          obtain ⟨t, h1, rfl⟩ := h
          obtain ⟨v, w, kc, ok, st⟩ := tab.isa _ _ h1
          intro a cls dx
          refine ⟨_, semXa_isi rfl kc ok, fun X oe pn F hz hf => ?_⟩
          rw [← F.eK]
          refine pe_callB (X := X.suite a ((a, oe) :: pn)) (call_isH hz hf) (hf0 X F).1 (hf0 X F).2 boot_isinstance (pa_cons (var_suite F hj hl hp) (pa_cons ?_ pa_nil (starEach_cons rfl)) (starEach_cons rfl)) (by decide) (by decide) (starEach_cons rfl) (backTo_plain rfl)
          exact stands_pe (X := X.suite a ((a, oe) :: pn)) kc (show Gl X _ from glB_ok F gT) (by rw [show (X.suite a ((a, oe) :: pn)).mg = D.mg from F.em]; exact st) pT
        · cases h
      · split at h
        · rename_i hh
          obtain ⟨hb, rfl, hm⟩ := hh
          obtain ⟨rfl, hf0⟩ := bltOk_ok (W := W) tab hb
          cases h
          cases tab.ecs _ _ hm with
          | one m T =>
          intro a cls dx
          refine ⟨_, semXa_rep rfl, fun X oe pn F hz hf => ?_⟩
          rw [← F.eK]
          refine pe_callB (X := X.suite a ((a, oe) :: pn)) (call_reprD (by rw [show (X.suite a ((a, oe) :: pn)).K = D.K from F.eK]; exact tab.sys) F.grd F.un) (hf0 X F).1 (hf0 X F).2 boot_repr (pa_cons ?_ pa_nil (starEach_cons rfl)) (by decide) (by decide) (starEach_cons rfl) (backTo_plain rfl)
          exact pe_xf (by rw [F.eK]; exact T.X) (by rw [F.eK]; exact T.no) hz hf (var_suite (pn := (a, oe) :: pn) F hj hl hp) rfl
        · cases h
      · rename_i n2 es pos hn
        injection hn with e1
        subst e1
        exact ih2 h
      · rename_i n2 e pos hn
        injection hn with e1
        subst e1
        rw [Option.map_eq_some_iff] at h
        obtain ⟨u1, h1, rfl⟩ := h
        intro a cls dx
        obtain ⟨t, s, p⟩ := ih1 h1 a cls dx
        refine ⟨_, semXa_not s, fun X oe pn F hz hf => ?_⟩
        have pc := pe_notT (pos := pos) (p X oe pn F hz hf)
        rw [show (X.suite a ((a, oe) :: pn)).K = D.K from F.eK] at pc
        exact pc
      · cases h
    · unfold trXb at h
      split at h
      · cases ‹_ = 0›
      · rename_i n2 e hn
        injection hn with e1
        subst e1
        intro a cls dx
        obtain ⟨t, s, p⟩ := ih1 h a cls dx
        exact ⟨t, s, fun X oe pn F hz hf => pe_one (p X oe pn F hz hf)⟩
      · rename_i n2 e b r hn
        injection hn with e1
        subst e1
        split at h
        · rename_i u1 u2 h1 h2
          cases h
          intro a cls dx
          obtain ⟨t, s, p⟩ := ih1 h1 a cls dx
          obtain ⟨t2, s2, p2⟩ := ih2 (pos := pos) h2 a cls dx
          refine ⟨_, semXa_and s s2, fun X oe pn F hz hf => ?_⟩
          have pc := pe_andT (p X oe pn F hz hf) (p2 X oe pn F hz hf)
          rw [show (X.suite a ((a, oe) :: pn)).K = D.K from F.eK] at pc
          exact pc
        · cases h
      · cases h
theorem xs_ok (tab : D.Tab) {x y : Str} {j : Nat} (hj : Φ.ix y = some j) (hl : isLoc Φ y = true) (hp : plainName y = true) : ∀ {es : List Expr} {us : List Xa}, trXs D.G Φ x y es = some us →
    ∀ a cls dx, ∃ t, SemXas D.K (some j) a cls dx t us ∧ ∀ (X : Cx) (oe : Obj) (pn : List (Addr × Obj)), Fit D Φ W X → Zc cls dx oe → (∃ vs, oe.data = .fields vs) → PA (X.suite a ((a, oe) :: pn)) es t
  | [], us, h => by
    cases h
    exact fun a cls dx => ⟨_, semXas_nil, fun X oe pn F hz hf => pa_nil⟩
  | e :: es, us, h => by
    unfold trXs at h
    split at h
    · cases h
    · rename_i hs
      have hs' : isStar e = false := by simpa using hs
      split at h
      · rename_i u1 u2 h1 h2
        cases h
        intro a cls dx
        obtain ⟨t, s, p⟩ := (xa_ok (W := W) tab hj hl hp 9).1 h1 a cls dx
        obtain ⟨t2, s2, p2⟩ := xs_ok tab hj hl hp h2 a cls dx
        exact ⟨_, semXas_cons s s2, fun X oe pn F hz hf => pa_cons (p X oe pn F hz hf) (p2 X oe pn F hz hf) (starEach_cons hs')⟩
      · cases h
def XXh (D : Wd) (Φ : Ph) (W : WX) (i : Option Nat) (e : Expr) (x : Xh) : Prop := ∀ a cls dx, ∃ t, SemXh D.K i a cls dx t x ∧
  ∀ (X : Cx) (oe : Obj) (pn : List (Addr × Obj)), Fit D Φ W X → Zc cls dx oe → (∃ vs, oe.data = .fields vs) → PE (X.suite a ((a, oe) :: pn)) e t
theorem xh_ok (tab : D.Tab) {x y : Str} {j : Nat} (hj : Φ.ix y = some j) (hl : isLoc Φ y = true) (hp : plainName y = true) {e : Expr} {u : Xh} (h : trXh D.G Φ x y e = some u) : XXh D Φ W (some j) e u := by
  unfold trXh at h
  split at h
  · rw [Option.map_eq_some_iff] at h
    obtain ⟨us, h1, rfl⟩ := h
    intro a cls dx
    obtain ⟨t, s, p⟩ := xs_ok (W := W) tab hj hl hp h1 a cls dx
    exact ⟨_, semXh_lst s, fun X oe pn F hz hf => pe_lst (p X oe pn F hz hf)⟩
  · rw [Option.map_eq_some_iff] at h
    obtain ⟨u1, h1, rfl⟩ := h
    intro a cls dx
    obtain ⟨t, s, p⟩ := (xa_ok (W := W) tab hj hl hp 9).1 h1 a cls dx
    exact ⟨_, semXh_one s, p⟩
theorem names_of {X : Cx} {x : Str} {u : Value} (hg : Gl X x) (st : Stands X.mg x u) (p : plainName x = true) : Names X x u := by
  obtain ⟨p1, p2, p3⟩ := plain_ok p
  rcases st with m | ⟨m, b⟩
  · exact ⟨hg, p1, .inl m⟩
  · exact ⟨hg, p1, .inr ⟨m, b, p3⟩⟩
def XHds (D : Wd) (Φ : Ph) (W : WX) (hs : List ExceptHandler) (l : List Hd) : Prop := ∃ cl : List Clz, HdsSem D.K cl l ∧ ∀ X, FitS D Φ W X → ClzOk X hs cl
theorem hds_ok (tab : D.Tab) : ∀ {hs : List ExceptHandler} {l : List Hd}, trHds D.G Φ hs = some l → XHds D Φ W hs l
  | [], l, h => by
    cases h
    exact ⟨[], .nil, fun X F => .nil⟩
  | h0 :: hs, l, h => by
    unfold trHds at h
    split at h
    · rename_i a as h1 h2
      cases h
      obtain ⟨cl, sm, ok⟩ := hds_ok tab h2
      unfold trHd at h1
      split at h1
      · rename_i x xp y e ep hp2
        split at h1
        · rename_i hh
          obtain ⟨px, gx, py, ly⟩ := hh
          split at h1
          · rename_i j t u hj ht hu
            cases h1
            obtain ⟨w, ex, st⟩ := tab.exm _ _ ht
            have hx := xh_ok (W := W) tab hj ly py hu
            let th : Addr → Value → Option Addr → TE := fun a cls dx => Classical.choose (hx a cls dx)
            have ths : ∀ a cls dx, SemXh D.K (some j) a cls dx (th a cls dx) u := fun a cls dx => (Classical.choose_spec (hx a cls dx)).1
            have thp := fun a cls dx => (Classical.choose_spec (hx a cls dx)).2
            refine ⟨(w, some j, fun a cls dx => tRet (th a cls dx)) :: cl, .cons (h := ⟨t, some j, u⟩) ex ths sm, fun X F => ?_⟩
            refine .named (names_of (glB_ok F.toFit gx) (by rw [F.em]; exact st) px) (ix_ok F.toFit hj) ?_ (fun a oe cls dx pn hz hf => ?_) (ok X F)
            · unfold isLoc at ly
              unfold Env.kindOf
              rw [F.sc]
              split at ly
              · assumption
              · cases ly
            · exact pss_one (ps_ret (thp a cls dx X oe pn F.toFit hz hf))
          · cases h1
        · cases h1
      · rename_i x xp c j cp ep hp2
        split at h1
        · rename_i hh
          obtain ⟨px, gx⟩ := hh
          split at h1
          · rename_i t d ht hc
            cases h1
            obtain ⟨w, ex, st⟩ := tab.exm _ _ ht
            have hx : XXh D Φ W none (.Constant c j cp) (.one (.cst d)) := fun a cls dx => by
              obtain ⟨t, s, p⟩ := xa_cst (D := D) (Φ := Φ) (W := W) (j := j) (pos := cp) (i := none) hc a cls dx
              exact ⟨_, semXh_one s, p⟩
            let th : Addr → Value → Option Addr → TE := fun a cls dx => Classical.choose (hx a cls dx)
            have ths : ∀ a cls dx, SemXh D.K none a cls dx (th a cls dx) (.one (.cst d)) := fun a cls dx => (Classical.choose_spec (hx a cls dx)).1
            have thp := fun a cls dx => (Classical.choose_spec (hx a cls dx)).2
            refine ⟨(w, none, fun a cls dx => tRet (th a cls dx)) :: cl, .cons (h := ⟨t, none, .one (.cst d)⟩) ex ths sm, fun X F => ?_⟩
            exact .plain (names_of (glB_ok F.toFit gx) (by rw [F.em]; exact st) px) (fun a oe cls dx pn hz hf => pss_one (ps_ret (thp a cls dx X oe pn F.toFit hz hf))) (ok X F)
          · cases h1
        · cases h1
      · cases h1
    · cases h
end
end Vm
end
section
set_option Elab.async false
set_option linter.all false
set_option maxRecDepth 100000
set_option maxHeartbeats 4000000
namespace Vm
open PySem PySem.Spec PyProof.Rows L2

section
variable {K : PySem.W.Frag} {W : WX} {ta : TA} {fs : Ro → Om → R (List Sv)}
theorem semS_parB (i j : Nat) (h : SemA K W ta fs) : SemS K W (tAsg (tTup ta) (gTup K 2 (gCons (gName i) (gCons (gName j) gNil)))) (sPar i j fs) := fun ρ ω σ F H ps r s D q =>
  h ρ ω σ F H ps r s _ (OutS.bind q s fun as ω1 xs F1 H1 p1 s1 r1 q1 h1 => by
    split at h1
    · cases q1 with
      | cons a1 q2 =>
      cases q2 with
      | cons a2 q3 =>
      cases q3
      refine ⟨by rw [sizeLine_eq]; simp, fun p hp => ⟨p, _, rfl, SqT.of upd_same, rfl, _, _, rfl, _, _, rfl, rfl, ?_⟩⟩
      exact h1 _ F1 _ p1 (Stp.refl.redo hp) (r1.away (r1.fnone hp) (r1.notin hp)) (((s.step s1).set a1).set a2)
    · exact h1.elim)
end
def trSet (r : Tr) (G : Gs) (md : Md) (Φ : Ph) (y : Str) (py : Pos) (e : Expr) : Option S :=
  if locB Φ y = true then match Φ.ix y with
    | none => none
    | some i => match e with
      | .ListComp elt [⟨tg, it, ifs, 0⟩] scope cpos => if swB Φ y py cpos scope = true then (trLc r G Φ (decide (y ∈ md.names)) elt tg it ifs scope).map (.set i) else none
      | e => if notComp e = true then (trEo r G Φ (decide (y ∈ md.names)) e).map (.set i) else none
  else none
def trPar (r : Tr) (G : Gs) (md : Md) (Φ : Ph) (x y : Str) (px py : Pos) (a b : Expr) : Option S :=
  if (parA Φ x y px py a b || parB Φ x y a b) = true ∧ locB Φ x = true ∧ locB Φ y = true ∧ x ≠ y ∧ isStar a = false ∧ isStar b = false then
    match Φ.ix x, Φ.ix y, trEo r G Φ (decide (x ∈ md.names)) a, trEo r G Φ (decide (y ∈ md.names)) b with
    | some i, some j, some u, some v => some (.par i j u v)
    | _, _, _, _ => none
  else none
def trSetL (r : Tr) (Φ : Ph) (o i e : Expr) : Option S :=
  if notSlice i = true then match r.e Φ e, r.e Φ o, r.e Φ i with
    | some x, some y, some z => some (.setL x y z)
    | _, _, _ => none
  else none
/-- o.f = e, o an instance -/
def trPut (r : Tr) (G : Gs) (Φ : Ph) (o : Expr) (f : Str) (e : Expr) : Option S := match r.e Φ o, r.e Φ e with
  | some x, some y => some (.stf (G.cls.filterMap fun d => if f ∈ d.flds then some d.c else none) f x y)
  | _, _ => none
def notTup : Expr → Bool
  | .Tuple _ _ _ => false
  | _ => true
def trUnp (r : Tr) (Φ : Ph) (tg e : Expr) : Option S :=
  if notTup e = true then match trG Φ 9 tg, r.e Φ e with
    | some t, some x => some (.asg t x)
    | _, _ => none
  else none
def trRs (r : Tr) (G : Gs) (Φ : Ph) (c : Str) (args : List Expr) : Option S :=
  if plainName c = true ∧ glB Φ.sc c = true then match G.ecs.lookup c, args with
    | some (some f), [a] => if isStar a = true then none else (r.e Φ a).map (.rse c f)
    | some none, [] => some (.rs0 c)
    | _, _ => none
  else none
def trS (r : Tr) (G : Gs) (md : Md) (Φ : Ph) (s : Stmt) : Option S := match s with
  | .Pass _ => some .nop
  | .Break _ => some .brk
  | .Continue _ => some .cnt
  | .Return none _ => some .retN
  | .Return (some e) _ => (trEo r G Φ md.ret e).map .ret
  | .Expr e _ => if notComp e = true then (r.e Φ e).map .drop else none
  | .Assign [.Name y py] e _ => trSet r G md Φ y py e
  | .Assign [.Tuple [.Name x px, .Name y py] _ _] (.Tuple [a, b] _ _) _ => trPar r G md Φ x y px py a b
  | .Assign [.Subscript o i _] e _ => trSetL r Φ o i e
  | .Assign [.Attribute o f _] e _ => trPut r G Φ o f e
  | .Assign [.Tuple ts k p] e _ => trUnp r Φ (.Tuple ts k p) e
  | .Raise (some (.Call (.Name c _) args [] _)) none _ => trRs r G Φ c args
  | _ => none
section
variable {D : Wd} {Φ : Ph} {W : WX} {r : Tr} {md : Md}
theorem trSet_ok (tab : D.Tab) (R : r.Ok D) {y : Str} {py pos : Pos} {e : Expr} {x : S} (h : trSet r D.G md Φ y py e = some x) : XS D Φ W (.Assign [.Name y py] e pos) (x.ev D.Γ) := by
  unfold trSet at h
  split at h
  · rename_i hl
    split at h
    · cases h
    · rename_i i hi
      split at h
      · split at h
        · rename_i hs
          rw [Option.map_eq_some_iff] at h
          obtain ⟨z, h1, rfl⟩ := h
          exact setLc_ok tab R hl hi hs h1
        · cases h
      · split at h
        · rename_i hs
          rw [Option.map_eq_some_iff] at h
          obtain ⟨z, h1, rfl⟩ := h
          exact set_ok tab R hs hl hi h1
        · cases h
  · cases h
theorem trPar_ok (tab : D.Tab) (R : r.Ok D) {x y : Str} {px py pt pt2 pos : Pos} {kt k2 : Nat} {a b : Expr} {z : S} (h : trPar r D.G md Φ x y px py a b = some z) :
    XS D Φ W (.Assign [.Tuple [.Name x px, .Name y py] kt pt] (.Tuple [a, b] k2 pt2) pos) (z.ev D.Γ) := by
  unfold trPar at h
  split at h
  · rename_i hp
    obtain ⟨h1, hx, hy, hxy, ha, hb⟩ := hp
    split at h
    · rename_i i j u v hi hj hu hv
      cases h
      obtain ⟨ta, sa, pa⟩ := eo_ok (W := W) tab R hu
      obtain ⟨tb, sb, pb⟩ := eo_ok (W := W) tab R hv
      have pab : ∀ X, Fit D Φ W X → PA X [a, b] (tCons ta (tCons tb tNil)) := fun X F => pa_cons (pa X F) (pa_cons (pb X F) pa_nil (starEach_cons hb)) (starEach_cons ha)
      have sem := sem_cons sa (sem_cons sb (sem_nil (K := D.K) (W := W)))
      have hij : i ≠ j := fun z => by
        subst z
        unfold Ph.ix at hi hj
        have e1 := List.find?_some hi
        have e2 := List.find?_some hj
        have e1 : Φ.N[i]? = some x := by simpa using e1
        have e2 : Φ.N[i]? = some y := by simpa using e2
        rw [e1] at e2
        exact hxy (Option.some.inj e2)
      rw [Bool.or_eq_true] at h1
      rcases h1 with hA | hB
      · refine ⟨_, semS_par i j sem, fun X F => ?_⟩
        obtain ⟨hw, lx, ly, _⟩ := swapA (pt := pt) (kt := kt) (k2 := k2) (pt2 := pt2) F.sc hA
        exact ps_par F.calm F.nX (ix_ok F.toFit hi) (ix_ok F.toFit hj) hij (by rw [F.sc]; exact lx) (by rw [F.sc]; exact ly) (pab X F.toFit) hw (swaps_tg fun _ _ z => by cases z)
      · refine ⟨_, semS_parB i j sem, fun X F => F.eK ▸ ps_asg (pe_tup (pab X F.toFit)) ?_ (swaps_tg fun _ _ z => by cases z) (swapB F.sc hB)⟩
        exact pg_tup F.calm (pgs_cons (pg_name F.nX (ix_ok F.toFit hi) (locB_ok F.toFit hx).1 (locB_ok F.toFit hx).2) (pgs_cons (pg_name F.nX (ix_ok F.toFit hj) (locB_ok F.toFit hy).1 (locB_ok F.toFit hy).2) pgs_nil))
    · cases h
  · cases h
theorem trSetL_ok (R : r.Ok D) {o i e : Expr} {p pos : Pos} {z : S} (h : trSetL r Φ o i e = some z) : XS D Φ W (.Assign [.Subscript o i p] e pos) (z.ev D.Γ) := by
  unfold trSetL at h
  split at h
  · rename_i hn
    split at h
    · rename_i x y w h1 h2 h3
      cases h
      obtain ⟨te, se, pe⟩ := R.e Φ W e x h1
      obtain ⟨to, so, po⟩ := R.e Φ W o y h2
      obtain ⟨ti, si, pi⟩ := R.e Φ W i w h3
      refine ⟨_, semS_setL se so si, fun X F => ps_asg (pe X F.toFit) (pg_sub (po X F.toFit) (pi X F.toFit) set_list fun v => ?_) (swaps_tg fun _ _ z => by cases z) ?_⟩
      · cases i <;> first | rfl | (exfalso; simp [notSlice] at hn)
      · rfl
    · cases h
  · cases h
theorem trPut_ok (tab : D.Tab) (R : r.Ok D) {o e : Expr} {f : Str} {p pos : Pos} {z : S} (h : trPut r D.G Φ o f e = some z) : XS D Φ W (.Assign [.Attribute o f p] e pos) (z.ev D.Γ) := by
  unfold trPut at h
  split at h
  · rename_i x y h1 h2
    cases h
    obtain ⟨to, so, po⟩ := R.e Φ W o x h1
    obtain ⟨te, se, pe⟩ := R.e Φ W e y h2
    refine ⟨_, semS_putF (f := f) so se (fun c hc => ?_), fun X F => F.eK ▸ ps_fld (po X F.toFit) (pe X F.toFit) ?_⟩
    · rw [List.mem_filterMap] at hc
      obtain ⟨d, h2, h3⟩ := hc
      split at h3
      · rename_i e
        cases h3
        exact ⟨(tab.cls d h2).cl, (tab.cls d h2).no f e⟩
      · cases h3
    · cases e <;> rfl
  · cases h
theorem trUnp_ok (R : r.Ok D) {ts : List Expr} {e : Expr} {k : Nat} {p pos : Pos} {z : S} (h : trUnp r Φ (.Tuple ts k p) e = some z) : XS D Φ W (.Assign [.Tuple ts k p] e pos) (z.ev D.Γ) := by
  unfold trUnp at h
  split at h
  · rename_i hn
    split at h
    · rename_i t x h1 h2
      cases h
      obtain ⟨gg, sg, pg⟩ := (g_ok D Φ W 9).1 h1
      obtain ⟨te, se, pe⟩ := R.e Φ W e x h2
      refine ⟨_, semS_asg se sg, fun X F => ps_asg (pe X F.toFit) (pg X F.toFit) (swaps_tg fun _ _ z => by cases z) ?_⟩
      cases e <;> first | rfl | (exfalso; simp [notTup] at hn)
    · cases h
  · cases h
theorem rs_false {st : Stmt} : XS D Φ W st (fun _ _ => .no) := ⟨fun _ _ _ => False, fun ρ ω σ F H ps r s D q => q.elim, fun X F => ⟨fun _ _ _ _ _ _ h => h.elim⟩⟩
theorem trRs_ok (tab : D.Tab) (R : r.Ok D) {c : Str} {args : List Expr} {p q pos : Pos} {x : S} (h : trRs r D.G Φ c args = some x) : XS D Φ W (.Raise (some (.Call (.Name c p) args [] q)) none pos) (x.ev D.Γ) := by
  unfold trRs at h
  split at h
  · rename_i hp
    obtain ⟨hp, hg⟩ := hp
    obtain ⟨p1, p2, p3⟩ := plain_ok hp
    split at h
    · rename_i f a hl
      have hm := PySem.mem_of_lookup hl
      split at h
      · cases h
      · rename_i hs
        have hs' : isStar a = false := by simpa using hs
        rw [Option.map_eq_some_iff] at h
        obtain ⟨y, h1, rfl⟩ := h
        obtain ⟨t, s, pe⟩ := R.e Φ W a y h1
        cases tab.ecs _ _ hm with
        | one m T =>
        show XS D Φ W _ (if 2 ≤ D.Γ.lvl then sRaise c f (y.ev D.Γ) else fun _ _ => .no)
        by_cases h2 : 2 ≤ D.Γ.lvl
        · rw [if_pos h2]
          exact ⟨_, semS_raise c f s, fun X F => ps_raise F.calm F.tk (pmk_E (by rw [F.eK]; exact T) (F.toFit.room2 tab h2) (glB_ok F.toFit hg) (by rw [F.em]; exact m) (pa_cons (pe X F.toFit) pa_nil (starEach_cons hs')) p1 (starEach_cons hs'))⟩
        · rw [if_neg h2]
          exact rs_false
    · rename_i hl
      have hm := PySem.mem_of_lookup hl
      cases h
      cases tab.ecs _ _ hm with
      | zero m q kp b t =>
      show XS D Φ W _ (if 2 ≤ D.Γ.lvl then sRaise0 c else fun _ _ => .no)
      by_cases h2 : 2 ≤ D.Γ.lvl
      · rw [if_pos h2]
        exact ⟨_, semS_raise0 c, fun X F => ps_raise F.calm F.tk (pmk_0 (by rw [F.eK]; exact q) (by rw [F.eK]; exact kp) (raises_own (by rw [F.eK]; exact b) (by rw [F.eK]; exact t)) (glB_ok F.toFit hg) (by rw [F.em]; exact m) p1)⟩
      · rw [if_neg h2]
        exact rs_false
    · cases h
  · cases h
theorem trS_ok (tab : D.Tab) (R : r.Ok D) {s : Stmt} {x : S} (h : trS r D.G md Φ s = some x) : XS D Φ W s (x.ev D.Γ) := by
  unfold trS at h
  split at h
  · cases h; exact ⟨_, semS_next, fun X F => ps_pass⟩
  · cases h; exact ⟨_, semS_break, fun X F => ps_break⟩
  · cases h; exact ⟨_, semS_cont, fun X F => ps_continue⟩
  · cases h; exact ⟨_, semS_retN, fun X F => ps_retN⟩
  · rw [Option.map_eq_some_iff] at h
    obtain ⟨y, h1, rfl⟩ := h
    obtain ⟨te, se, pe⟩ := eo_ok (W := W) tab R h1
    exact ⟨_, semS_ret se, fun X F => ps_ret (pe X F.toFit)⟩
  · split at h
    · rename_i hn
      rw [Option.map_eq_some_iff] at h
      obtain ⟨y, h1, rfl⟩ := h
      obtain ⟨te, se, pe⟩ := R.e Φ W _ y h1
      exact ⟨_, semS_drop se, fun X F => ps_expr (pe X F.toFit) (swaps_no hn)⟩
    · cases h
  · exact trSet_ok tab R h
  · exact trPar_ok tab R h
  · exact trSetL_ok R h
  · exact trPut_ok tab R h
  · exact trUnp_ok R h
  · exact trRs_ok tab R h
  · cases h
end
/-- the turns that a while may take -/
def whTurns : Nat := 1000000
def trSs (r : Tr) (G : Gs) (md : Md) (Φ : Ph) : Nat → List Stmt → Option Ss
  | 0, _ => none
  | _ + 1, [] => some .nil
  | n + 1, s :: rest => match trSs r G md Φ n rest with
    | none => none
    | some k => match s with
      | .If c a b _ => match r.t Φ c, trSs r G md Φ n a, trSs r G md Φ n b with
        | some t, some x, some y => some (.ife t x y k)
        | _, _, _ => some (.one .stk k)
      | .For tg it body [] _ => match trI r G Φ tg it, trG Φ 9 tg, trSs r G md Φ n body with
        | some i, some g, some x => some (.for i g x k)
        | _, _, _ => some (.one .stk k)
      | .While c body [] _ => match r.t Φ c, trSs r G md Φ n body with
        | some t, some x => some (.whl whTurns t x k)
        | _, _ => some (.one .stk k)
      | .Try body (h0 :: hs) [] [] _ => match trSs r G md Φ n body, trHds G Φ (h0 :: hs) with
        | some b, some l => some (.try b l k)
        | _, _ => some (.one .stk k)
      | s => match trS r G md Φ s with
        | some x => some (.one x k)
        | none => some (.one .stk k)
section
variable {D : Wd} {Φ : Ph} {W : WX} {r : Tr} {md : Md}
theorem stk_ok (s : Stmt) : XS D Φ W s (S.stk.ev D.Γ) :=
  ⟨fun _ _ _ => False, fun ρ ω σ F H ps r s D q => q.elim, fun X F => ⟨fun _ _ _ _ _ _ h => h.elim⟩⟩
theorem trSs_ok (tab : D.Tab) (R : r.Ok D) : ∀ (n : Nat) (W : WX) {st : List Stmt} {x : Ss}, trSs r D.G md Φ n st = some x → XSs D Φ W st (x.ev D.Γ)
  | 0, W, st, x, h => by unfold trSs at h; cases h
  | n + 1, W, [], x, h => by
    unfold trSs at h
    cases h
    exact ⟨_, semS_next, fun X F => pss_nil⟩
  | n + 1, W, s :: rest, x, h => by
    unfold trSs at h
    split at h
    · cases h
    · rename_i k hk
      obtain ⟨tk, sk, pk⟩ := trSs_ok tab R n W hk
      split at h
      · split at h
        · rename_i t y z h1 h2 h3
          cases h
          obtain ⟨tc, sc, pc⟩ := R.t Φ W _ t h1
          obtain ⟨ta, sa, pa⟩ := trSs_ok tab R n W h2
          obtain ⟨tb, sb, pb⟩ := trSs_ok tab R n W h3
          exact ⟨_, semS_seq (semS_if sc sa sb) sk, fun X F => pss_cons (ps_if (pc X F.toFit) (pa X F) (pb X F)) (pk X F)⟩
        · cases h
          obtain ⟨t1, s1, p1⟩ := stk_ok (D := D) (Φ := Φ) (W := W) _
          exact ⟨_, semS_seq s1 sk, fun X F => pss_cons (p1 X F) (pk X F)⟩
      · split at h
        · rename_i i g y h1 h2 h3
          cases h
          obtain ⟨⟨wi, si, pi⟩, hn⟩ := i_ok (W := W) tab R h1
          obtain ⟨gg, sg, pg⟩ := (g_ok D Φ W 9).1 h2
          obtain ⟨ta, sa, pa⟩ := trSs_ok tab R n W h3
          exact ⟨_, semS_seq (semS_for si sg sa) sk, fun X F => pss_cons (ps_for F.po F.calm (pi X F.toFit) (pg X F.toFit) (pa X F) (folded_ok hn)) (pk X F)⟩
        · cases h
          obtain ⟨t1, s1, p1⟩ := stk_ok (D := D) (Φ := Φ) (W := W) _
          exact ⟨_, semS_seq s1 sk, fun X F => pss_cons (p1 X F) (pk X F)⟩
      · split at h
        · rename_i t y h1 h2
          cases h
          obtain ⟨tc, sc, pc⟩ := R.t Φ W _ t h1
          obtain ⟨ta, sa, pa⟩ := trSs_ok tab R n W h2
          exact ⟨_, semS_seq (semS_while whTurns sc sa) sk, fun X F => pss_cons (ps_while F.po (pc X F.toFit) (pa X F)) (pk X F)⟩
        · cases h
          obtain ⟨t1, s1, p1⟩ := stk_ok (D := D) (Φ := Φ) (W := W) _
          exact ⟨_, semS_seq s1 sk, fun X F => pss_cons (p1 X F) (pk X F)⟩
      · rename_i body h0 hs pos
        split at h
        · rename_i b l h1 h2
          cases h
          have hb : ∀ W', XSs D Φ W' body (b.ev D.Γ) := fun W' => trSs_ok tab R n W' h1
          obtain ⟨cl, sm, ok⟩ := hds_ok (W := W) tab h2
          obtain ⟨tb, htb⟩ : ∃ tb : WX → TS, ∀ W', SemS D.K W' (tb W') (b.ev D.Γ) ∧ ∀ X, FitS D Φ W' X → PSs X body (tb W') := ⟨fun W' => Classical.choose (hb W'), fun W' => Classical.choose_spec (hb W')⟩
          refine ⟨_, semS_seq (semS_try (fun W' => (htb W').1) sm) sk, fun X F => pss_cons ?_ (pk X F)⟩
          rw [← F.eK]
          refine ps_try_any F.stk F.frm F.nX F.tk (fun W' pn xe tk' po' => ?_) (ok X F)
          exact (htb W').2 (X.tr pn xe) ⟨⟨F.eP, F.ew, F.eK, F.em, F.eb, F.N, F.nd, F.sc, F.calm, F.asg, tk', F.room, F.grd⟩, po', F.stk, F.frm⟩
        · cases h
          obtain ⟨t1, s1, p1⟩ := stk_ok (D := D) (Φ := Φ) (W := W) _
          exact ⟨_, semS_seq s1 sk, fun X F => pss_cons (p1 X F) (pk X F)⟩
      · split at h
        · rename_i y h1
          cases h
          obtain ⟨t1, s1, p1⟩ := trS_ok (W := W) tab R h1
          exact ⟨_, semS_seq s1 sk, fun X F => pss_cons (p1 X F) (pk X F)⟩
        · cases h
          obtain ⟨t1, s1, p1⟩ := stk_ok (D := D) (Φ := Φ) (W := W) _
          exact ⟨_, semS_seq s1 sk, fun X F => pss_cons (p1 X F) (pk X F)⟩
end
end Vm
end
section
set_option Elab.async false
set_option linter.all false
set_option maxRecDepth 100000
set_option maxHeartbeats 4000000
/-! a module's defs, by their texts -/
namespace Vm
open PySem PySem.Spec PyProof.Rows L2

structure Df where
  x : Str
  N : List Str
  ps : List Str
  params : Arguments
  body : List Stmt
  scope : Scope
  md : Md
  ss : Ss
  /-- a method: of which class, under which name -/
  cls : Option (Str × Str) := none
/-- the def's own name -/
def Df.nm (d : Df) : Str := match d.cls with
  | none => d.x
  | some p => p.2
/-- what the defs come to, k calls deep -/
def gam (T : List Df) : Nat → Gm
  | 0 => ⟨fun _ _ _ => .no, 0, fun _ _ _ => .no⟩
  | k + 1 => ⟨fun x as ω => match T.find? (fun d => decide (d.x = x)) with
    | some d => fnR d.N d.ps.length (d.ss.ev (gam T k)) as ω
    | none => .no, k + 1, (gam T k).call⟩
structure Df.Ok (G : Gs) (d : Df) : Prop where
  sc : FnScope d.N d.ps d.scope
  tr : trSs (trn G 40) G d.md ⟨d.N, d.scope, fun _ => true⟩ 60 d.body = some d.ss
  bd : ∀ (kV doc pm : Value) (an : Option Addr) (cdv ct : Value) (us : List Value), us.length = d.ps.length → bindArgs (PySem.W.fnOf d.nm d.x d.params d.body d.scope .none kV doc pm an cdv ct) ⟨us, []⟩ = pure (d.ps.zip us)
section
variable {P : Program} {w : World} {K : PySem.W.Frag} {mg : Str → Option Value} {base : Heap} {G : Gs} {T : List Df}
theorem out_val {F H : Hp} {ps : List Addr} {Q : VK} {E : XK} : ∀ {r : RS}, Out K (SvAt K) F H ps [] (fun cls dx _ H' => E cls dx H') Q r.val → OutS K F H ps (fun cls dx _ H' => E cls dx H') { nx := fun _ H' => Q .non H', rt := Q } r
  | .no, h => h
  | .nx ρ ω, h => fun σ F' H' ps' s r _ => h .non F' H' ps' s r Dat.non
  | .rt a ω, h => fun v F' H' ps' s r q => h v F' H' ps' s r q
  | .bk _ _, h => h.elim
  | .ct _ _, h => h.elim
  | .ex c fd ρ ω, h => fun cls dx σ F' H' ps' s r _ x => h cls dx F' H' ps' s r x
theorem len_of {n : Nat} {N : List Str} {b : Ro → Om → RS} {vs : List V} {H : Hp} {Q : VK} {E : XK} (h : spOf K (fnR N n b) vs H Q E) : vs.length = n := by
  obtain ⟨F, ps, ω, as, r, q, o⟩ := h
  unfold fnR at o
  split at o
  · rename_i e
    rw [q.length, e]
  · exact o.elim
theorem fnG_text {k : Nat} {Γ : Gm} {d : Df} {f : Addr} {fd : FuncData} (tab : Tab P w K mg base G Γ k) (ok : d.Ok G) (F : FunD K d.nm d.x d.params d.body d.scope [] [] f fd) :
    FnG P w K mg base (k + 1) f (spOf K (fnR d.N d.ps.length (d.ss.ev Γ))) := by
  refine fnG_of F ok.sc (fun s us hl => F.bindsA ok.bd s us hl) (fun vs H Q E h => len_of h) ?_
  intro cdv A outer s H vs Q E hr hg h
  obtain ⟨F0, ps, ω, as, rl, q, o⟩ := h
  let D : Wd := ⟨P, w, K, mg, base, G, Γ, k⟩
  obtain ⟨t, sem, p⟩ := trSs_ok (D := D) (Φ := ⟨d.N, d.scope, fun _ => true⟩) tab (trn_ok (D := D) tab 40) 60 (fun cls dx _ H' => E cls dx H') ok.tr
  refine ⟨t, p _ ?_, ?_⟩
  · exact ⟨⟨rfl, rfl, rfl, rfl, rfl, rfl, ok.sc.nd, rfl, rfl, fun _ _ => rfl, takes_of rfl rfl rfl rfl, hr, hg⟩, passes_of rfl, rfl, rfl⟩
  · unfold fnR at o
    split at o
    · exact sem _ ω _ F0 H ps rl (start_slots d.N q) _ (out_val o)
    · exact o.elim
/-- where the module's names stand -/
structure Mod (P : Program) (w : World) (K : PySem.W.Frag) (mg : Str → Option Value) (G : Gs) (T : List Df) : Prop where
  names : ∀ x ∈ G.fns, ∃ d, T.find? (fun d => decide (d.x = x)) = some d ∧ d ∈ T ∧ d.x = x ∧ d.cls = none
  ok : ∀ d ∈ T, d.Ok G
  fn : ∀ d ∈ T, d.cls = none → ∃ f fd, mg d.x = some (.ref f) ∧ FunD K d.nm d.x d.params d.body d.scope [] [] f fd
  me : ∀ d ∈ T, ∀ c m, d.cls = some (c, m) → ∃ fd, FunD K d.nm d.x d.params d.body d.scope [] [] (He.fAd K (c, some m)) fd
  csts : ∀ x d, G.csts.lookup x = some d → ∃ v u, mg x = some u ∧ RelV v u ∧ ∀ F, Dat K F v d
  blt : ∀ x ∈ G.blt, mg x = none
  sys : SysD K
  ecs : ∀ c o, (c, o) ∈ G.ecs → EcOk K mg c o
  isa : ∀ x t, G.isa.lookup x = some t → ∃ v u, ClsV v u ∧ IsaOk K u t ∧ Stands mg x u
  exm : ∀ x t, G.exm.lookup x = some t → ∃ u, ExmOk K u t ∧ Stands mg x u
  tabs : ∀ x ks, G.tabs.lookup x = some ks → ∃ d es n, mg x = some (.ref d) ∧ KDict K w d es n ∧ ∀ z, ∃ r : Option Value, PySem.W.nsIn K d z = some r ∧ r.isSome = decide (z ∈ ks)
  cls : ∀ d ∈ G.cls, mg d.c = some (.ref (gad K d.c)) ∧ Cls K (gad K d.c) ∧ (∀ f ∈ d.flds, NoAttr K (gad K d.c) f) ∧ (("__init__" : Str) ∈ d.ms → L2.Mk K (gad K d.c) (He.fAd K (d.c, some "__init__"))) ∧ ∀ m ∈ d.ms, Meth K (gad K d.c) m (He.fAd K (d.c, some m))
  ms : ∀ d ∈ G.cls, ∀ m ∈ d.ms, ∃ e, T.find? (fun d' => decide (d'.x = mnm d.c m)) = some e ∧ e ∈ T ∧ e.cls = some (d.c, m)
theorem find_x {x : Str} (h : x ∈ T.map (·.x)) : ∃ d, T.find? (fun d => decide (d.x = x)) = some d ∧ d ∈ T ∧ d.x = x := by
  obtain ⟨d, hd, e⟩ := List.mem_map.mp h
  cases hf : T.find? (fun d => decide (d.x = x)) with
  | none =>
    rw [List.find?_eq_none] at hf
    exact absurd e (by simpa using hf d hd)
  | some d' => exact ⟨d', rfl, List.mem_of_find?_eq_some hf, by simpa using List.find?_some hf⟩
theorem gam_call {x : Str} {d : Df} {k : Nat} (h : T.find? (fun d => decide (d.x = x)) = some d) : (gam T (k + 1)).call x = fnR d.N d.ps.length (d.ss.ev (gam T k)) := by
  show (fun as ω => match T.find? (fun d => decide (d.x = x)) with
    | some d => fnR d.N d.ps.length (d.ss.ev (gam T k)) as ω
    | none => .no) = _
  rw [h]
theorem fnG_no {f : Addr} : FnG P w K mg base 0 f (spOf K (fun _ _ => .no)) := ⟨fun A outer s H us vs Q E _ _ _ _ h => by
  obtain ⟨_, _, _, _, _, _, o⟩ := h
  exact o.elim⟩
theorem Mod.tab (M : Mod P w K mg G T) (base : Heap) : ∀ k, Tab P w K mg base G (gam T k) k
  | 0 => by
    refine ⟨fun x hx => ?_, M.csts, M.blt, M.sys, rfl, M.ecs, M.isa, M.exm, M.tabs, fun d hd => ?_⟩
    · obtain ⟨d, h1, h2, h3, h4⟩ := M.names x hx
      obtain ⟨f, fd, hm, F⟩ := M.fn d h2 h4
      exact ⟨f, by rw [← h3]; exact hm, F.kp, fnG_no⟩
    · obtain ⟨c1, c2, c3, c4, c5⟩ := M.cls d hd
      exact ⟨c1, c2, c3, c4, c5, fun m hm => fnG_no, fun m hm j hj => by cases hj⟩
  | k + 1 => by
    have ih := Mod.tab M base k
    refine ⟨fun x hx => ?_, M.csts, M.blt, M.sys, rfl, M.ecs, M.isa, M.exm, M.tabs, fun d hd => ?_⟩
    · obtain ⟨d, h1, h2, h3, h4⟩ := M.names x hx
      obtain ⟨f, fd, hm, F⟩ := M.fn d h2 h4
      refine ⟨f, by rw [← h3]; exact hm, F.kp, ?_⟩
      rw [gam_call h1]
      exact fnG_text ih (M.ok d h2) F
    · obtain ⟨c1, c2, c3, c4, c5⟩ := M.cls d hd
      refine ⟨c1, c2, c3, c4, c5, fun m hm => ?_, fun m hm j hj => ?_⟩
      · obtain ⟨e, h1, h2, h3⟩ := M.ms d hd m hm
        obtain ⟨fd, F⟩ := M.me e h2 _ _ h3
        rw [gam_call h1]
        exact fnG_text ih (M.ok e h2) F
      · cases hj
        exact (ih.cls d hd).fn m hm
end
end Vm
end
section
set_option Elab.async false
set_option linter.all false
set_option maxRecDepth 100000
set_option maxHeartbeats 4000000
/-! a law's end, by what its def comes to -/
namespace Vm
open PySem PySem.Spec PyProof.Rows L2

section
variable {P : Program} {w : World} {K : PySem.W.Frag} {mg mb : Str → Option Value} {k : Nat} {fa a : Addr} {sp : Sp} {s1 : Shared} {vs : List Value} {ns : List Int}
/-- the call from the ground, nothing but the script known -/
theorem call_core {H : Hp} (KX : K.In s1.heap) (n1 : s1.heap.Ns mainGlobals mg) (n2 : s1.heap.Ns builtinsNs mb) (n3 : ∀ x : Str, x ≠ "__name__" → mb x = bootBuiltins x) (n4 : s1.heap.NoLimit) (g0 : s1.gens = #[])
    (ha : s1.heap.get? a = some { cls := .type "list", data := .seq vs.toArray }) (hr : Room k callerA) (F : ∀ base : Heap, K.In base → base.Ns mainGlobals mg → FnG P w K mg base k fa sp)
    (only : Only H) (ok : HOk P w H s1.heap) (isA : ∀ b, H b ≠ none → b = a) (offK : H a ≠ none → K.lookup a = none) (hsp : sp [.ref a] H (fun v _ => v = .bl true) fun _ _ _ => False) :
    codeAny (model P w) callerA (.call (.ref fa) ⟨[.ref a], []⟩) (fun r s' => r = .ok (.ret (.bool true)) ∧ OldK s1.heap s'.heap ∧ s'.os = s1.os ∧ AllBare s'.gens) s1 := by
  have free : ∀ {b : Addr} {o : Obj}, s1.heap.get? b = some o → (∀ vs : List Value, o.data ≠ .seq vs.toArray) → H b = none := fun {b o} e d => by
    cases q : H b with
    | none => rfl
    | some u =>
      have eb := isA b (by rw [q]; exact Option.some_ne_none u)
      rw [eb, ha] at e
      cases e
      exact absurd rfl (d vs)
  have below : ∀ {b : Addr} {m : Str → Option Value}, s1.heap.Ns b m → (hidT s1.heap H).Ns b m := fun {b m} ⟨o, es, ep, e, d, r⟩ =>
    ⟨o, es, ep, hidT_get e (free e fun vs z => by rw [d] at z; cases z), d, r⟩
  have KB : K.In (hidT s1.heap H) := fun b o e => by
    refine hidT_get (KX b o e) ?_
    cases q : H b with
    | none => rfl
    | some u =>
      have eb := isA b (by rw [q]; exact Option.some_ne_none u)
      have := offK (by rw [← eb, q]; exact Option.some_ne_none u)
      rw [eb, this] at e
      cases e
  obtain ⟨mc, m1, m2⟩ := n4
  have M : L2.Mod K mg (hidT s1.heap H) := ⟨KB, below n1, ⟨mb, below n2, n3⟩, ⟨mc, below m1, m2⟩⟩
  have e0 : Env0 P w K mg (hidT s1.heap H) callerA [] s1 H := ⟨rfl, M, fun b o e => of_hidT e, Nat.le_of_eq (hidT_size _ _), trivial, fun b hb => (by cases hb), ok, .of_eq g0⟩
  refine codeAny_mono ((F _ KB (below n1)).run callerA [] s1 H [.ref a] [.ref a] _ _ hr rfl e0 (.cons rfl .nil) hsp) ?_
  intro r s' h
  rcases r with e | (_ | _ | _ | u)
  · obtain ⟨_, _, _, _, _, _, _, _, _, _, _, _, z⟩ := h
    exact (show False from z).elim
  · exact h.elim
  · exact h.elim
  · exact h.elim
  obtain ⟨v, H', eo, bare, un, ok', rv, rfl⟩ := h
  cases (show u = Value.bool true from rv)
  refine ⟨rfl, OldK.of_keep fun b o e => ?_, eo, bare⟩
  cases q : H b with
  | none => exact un.keep b o e q (fun z => by cases z) (fun z => by cases z)
  | some u =>
    rcases only b with z | ⟨ob, xs, z⟩
    · rw [q] at z; cases z
    · obtain ⟨e1, _⟩ := ok b _ z
      obtain ⟨e2, _⟩ := ok' b _ (un.frzs b ob _ z)
      rw [e] at e1; cases e1
      exact e2
/-- the law's promise, at the heap behind the top -/
theorem law_callG (KX : K.In s1.heap) (n1 : s1.heap.Ns mainGlobals mg) (n2 : s1.heap.Ns builtinsNs mb) (n3 : ∀ x : Str, x ≠ "__name__" → mb x = bootBuiltins x) (n4 : s1.heap.NoLimit) (g0 : s1.gens = #[])
    (ha : s1.heap.get? a = some { cls := .type "list", data := .seq vs.toArray }) (hi : IntsAre vs ns) (hl : ns.length ≤ sizeLine) (hr : Room k callerA) (F : ∀ base : Heap, K.In base → base.Ns mainGlobals mg → FnG P w K mg base k fa sp)
    (hsp : ∀ H : Hp, SqL K H a (ns.map V.int) → sp [.ref a] H (fun v _ => v = .bl true) fun _ _ _ => False) :
    codeAny (model P w) callerA (.call (.ref fa) ⟨[.ref a], []⟩) (fun r s' => r = .ok (.ret (.bool true)) ∧ OldK s1.heap s'.heap ∧ s'.os = s1.os ∧ AllBare s'.gens) s1 := by
  have rv := vals_ints hi
  have lv : vs.length = ns.length := hi.length
  cases hk : K.lookup a with
  | some o =>
    have e := KX a o hk
    rw [ha] at e
    cases e
    have q : SqL K (fun _ => none) a (ns.map V.int) := .inr ⟨_, vs.toArray, _, hk, rfl, rfl, rfl, by rw [List.size_toArray, lv]; exact hl, by simpa using rv⟩
    exact call_core (H := fun _ => none) KX n1 n2 n3 n4 g0 ha hr F (fun _ => .inl rfl) (fun b u z => (nomatch z)) (fun b z => absurd rfl z) (fun z => absurd rfl z) (hsp _ q)
  | none =>
    let o : Obj := { cls := .type "list", data := .seq vs.toArray }
    have q : SqL K (upd (fun _ => none) a (.frz o (.lst (ns.map V.int)))) a (ns.map V.int) := .inl (.inr ⟨o, upd_same⟩)
    refine call_core KX n1 n2 n3 n4 g0 ha hr F (fun b => ?_) (fun b u z => ?_) (fun b z => ?_) (fun _ => hk) (hsp _ q)
    · by_cases hb : b = a
      · subst hb; exact .inr ⟨_, _, upd_same⟩
      · exact .inl (upd_ne hb)
    · by_cases hb : b = a
      · subst hb
        rw [upd_same] at z
        cases z
        exact ⟨ha, by rw [List.length_map]; exact hl, vs, _, rv, ha⟩
      · rw [upd_ne hb] at z; cases z
    · by_cases hb : b = a
      · exact hb
      · exact absurd (upd_ne hb) z
end
/-- what a law's def with one list of ints comes to -/
def TrueAt (Γ : Gm) (n : Nat) : Prop := ∀ ns : List Int, ns.length ≤ n → ∃ ω, Γ.call "law" [.dat (.rol (ns.map Dt.int))] [] = .ok (.dat (.bl true)) ω
theorem datInts {K : PySem.W.Frag} {F : Hp} : ∀ ns : List Int, DatAll K F (ns.map V.int) (ns.map Dt.int)
  | [] => .nil
  | n :: ns => .cons (.int n) (datInts ns)
theorem walkG {l : PySem.W.OpenLaw} {n k : Nat} {q : Program} {loose : List Str} {XP : (Str → Option Value) → Heap → Prop} {YP : World → Heap → Prop} {d : DefRec} {G : Gs} {T : List Df}
    (hn : l.most = some n) (hn2 : n ≤ sizeLine) (hdf : d.params.defaults = []) (hr : Room k callerA) (hG : ("law" : Str) ∈ G.fns)
    (F : ∀ (w : World) (mg : Str → Option Value) (fa : Addr) (h : Heap), YP w h → h.Ns mainGlobals mg → mg d.name = some (.ref fa) → ∃ K : PySem.W.Frag, K.In h ∧ Mod l.prog w K mg G T ∧ mg "law" = some (.ref fa))
    (law : TrueAt (gam T k) n) : PySem.W.WalkO q loose XP YP l.row.toRowW d [] (fun f vs => PySem.call f vs) := by
  refine Att.attach_call hn hdf fun w s₀ s₁ mg mb fa o pm cd doc a vs ns G0 Y ho hd hcd hmg hobj hints hlen hg => ?_
  obtain ⟨K, KX, M, hfa⟩ := F w mg fa _ Y G0.T.g hmg
  refine law_callG (sp := spOf K ((gam T k).call "law")) KX G0.T.g G0.T.b G0.T.builtins G0.T.nolimit hg hobj hints (Nat.le_trans hlen hn2) hr (fun base _ _ => ?_) fun H hS => ?_
  · obtain ⟨f, h1, _, h3⟩ := (M.tab base k).fns "law" hG
    rw [hfa] at h1
    cases h1
    exact h3
  · obtain ⟨ω, e⟩ := law ns hlen
    refine ⟨H, [], [], [.dat (.rol (ns.map Dt.int))], ⟨Ex.refl H, rfl, List.nodup_nil, fun j p o h => by simp at h, fun p h => by cases h⟩, .cons (Dat.rol hS (datInts ns)) .nil, ?_⟩
    rw [e]
    exact fun v F' H' ps' _ _ z => Dat.bl_inv z
end Vm
end
section
set_option Elab.async false
set_option linter.all false
set_option maxRecDepth 100000
set_option maxHeartbeats 4000000
/-! what the top leaves, for the machine -/
namespace Vm
open PySem PySem.Spec PyProof.Rows L2

/-! ### the module's constants -/
mutual
def datB (K : PySem.W.Frag) : Dt → Value → Bool
  | .non, .none => true
  | .bl b, .bool c => b == c
  | .int i, .int j _ => decide (i = j)
  | .str x, .str y _ => decide (x = y)
  | .tup ds, .ref a => match K.lookup a with
    | some ⟨.type c, _, .seq its _, _⟩ => decide (c = "tuple") && (decide (its.size ≤ sizeLine) && datBs K ds its.toList)
    | _ => false
  | .rol ds, .ref a => match K.lookup a with
    | some ⟨.type c, none, .seq its _, _⟩ => decide (c = "list") && (decide (its.size ≤ sizeLine) && datBs K ds its.toList)
    | _ => false
  | _, _ => false
def datBs (K : PySem.W.Frag) : List Dt → List Value → Bool
  | [], [] => true
  | d :: ds, u :: us => datB K d u && datBs K ds us
  | _, _ => false
end
section
variable {K : PySem.W.Frag}
mutual
theorem datB_ok : ∀ (d : Dt) {u : Value}, datB K d u = true → ∃ v, RelV v u ∧ ∀ F, Dat K F v d
  | .non, u, h => by cases u <;> first | exact ⟨.non, rfl, fun _ => .non⟩ | (simp [datB] at h)
  | .bl b, u, h => by
    cases u <;> first | (simp [datB] at h; done) | skip
    rename_i c
    have : b = c := by simpa [datB] using h
    subst this
    exact ⟨.bl b, rfl, fun _ => .bl b⟩
  | .int i, u, h => by
    cases u <;> first | (simp [datB] at h; done) | skip
    rename_i j t
    have : i = j := by simpa [datB] using h
    subst this
    exact ⟨.int i, ⟨t, rfl⟩, fun _ => .int i⟩
  | .str x, u, h => by
    cases u <;> first | (simp [datB] at h; done) | skip
    rename_i y t
    have : x = y := by simpa [datB] using h
    subst this
    exact ⟨.str x, ⟨t, rfl⟩, fun _ => .str x⟩
  | .tup ds, u, h => by
    cases u <;> first | (simp [datB] at h; done) | skip
    rename_i a
    unfold datB at h
    split at h
    · rename_i c od its n sl e
      simp only [Bool.and_eq_true, decide_eq_true_eq] at h
      obtain ⟨rfl, h2, h3⟩ := h
      obtain ⟨vs, rv, hd⟩ := datBs_ok ds h3
      exact ⟨.ref a, rfl, fun F => .tup (.inr ⟨_, its, n, e, rfl, rfl, h2, rv⟩) (hd F)⟩
    · cases h
  | .rol ds, u, h => by
    cases u <;> first | (simp [datB] at h; done) | skip
    rename_i a
    unfold datB at h
    split at h
    · rename_i c its n sl e
      simp only [Bool.and_eq_true, decide_eq_true_eq] at h
      obtain ⟨rfl, h2, h3⟩ := h
      obtain ⟨vs, rv, hd⟩ := datBs_ok ds h3
      exact ⟨.ref a, rfl, fun F => .rol (.inr ⟨_, its, n, e, rfl, rfl, rfl, h2, rv⟩) (hd F)⟩
    · cases h
  | .fn _, u, h => by cases u <;> simp [datB] at h
  | .ty _, u, h => by cases u <;> simp [datB] at h
  | .lst _, u, h => by cases u <;> simp [datB] at h
  | .dic _, u, h => by cases u <;> simp [datB] at h
  | .dit _, u, h => by cases u <;> simp [datB] at h
  | .ins _ _, u, h => by cases u <;> simp [datB] at h
  | .err0 _, u, h => by cases u <;> simp [datB] at h
  | .err _ _ _, u, h => by cases u <;> simp [datB] at h
theorem datBs_ok : ∀ (ds : List Dt) {us : List Value}, datBs K ds us = true → ∃ vs, Vals vs us ∧ ∀ F, DatAll K F vs ds
  | [], us, h => by
    cases us with
    | nil => exact ⟨[], .nil, fun _ => .nil⟩
    | cons _ _ => simp [datBs] at h
  | d :: ds, us, h => by
    cases us with
    | nil => simp [datBs] at h
    | cons u us =>
      unfold datBs at h
      rw [Bool.and_eq_true] at h
      obtain ⟨v, rv, hd⟩ := datB_ok d h.1
      obtain ⟨vs, rvs, hds⟩ := datBs_ok ds h.2
      exact ⟨v :: vs, .cons rv rvs, fun F => .cons (hd F) (hds F)⟩
end
end
def cstB (K : PySem.W.Frag) (x : Str) (d : Dt) : Bool := match PySem.W.nsIn K mainGlobals x with
  | some (some u) => datB K d u
  | _ => false
theorem cstB_ok {K : PySem.W.Frag} {h : Heap} {mg : Str → Option Value} (X : K.In h) (G : h.Ns mainGlobals mg) {x : Str} {d : Dt} (c : cstB K x d = true) : ∃ v u, mg x = some u ∧ RelV v u ∧ ∀ F, Dat K F v d := by
  unfold cstB at c
  split at c
  · rename_i u e
    obtain ⟨v, rv, hd⟩ := datB_ok d c
    exact ⟨v, u, PySem.W.mg_of X G e, rv, hd⟩
  · cases c
def sysB (K : PySem.W.Frag) : Bool := match K.lookup sysModules with
  | some ⟨.type c, _, _, _⟩ => decide (c = "dict")
  | _ => false
theorem sysB_ok {K : PySem.W.Frag} (c : sysB K = true) : SysD K := by
  unfold sysB at c
  split at c
  · rename_i c1 _ _ _ e
    have : c1 = "dict" := of_decide_eq_true c
    subst this
    exact ⟨_, e, rfl⟩
  · cases c

/-! ### own errors -/
/-- an own error's class as its text has it -/
structure Ecd where
  c : Str
  f : Str
  params : Arguments
  body : List Stmt
  scope : Scope
def Ecd.d (e : Ecd) : He.DefD := ⟨(e.c, some "__init__"), "__init__", e.c ++ ".__init__", e.params, e.body, e.scope, [], []⟩
/-- what its text must be -/
structure Ecd.Ok (e : Ecd) : Prop where
  bd : ∃ p1 p2 p3 p4, e.body = initBody e.f p1 p2 p3 p4
  sc : FnScope ["self", e.f] ["self", e.f] e.scope
  pl : (e.f == ("__debug__" : Str)) = false ∧ (e.f == ("__classdict__" : Str)) = false
  bi : ∀ (kV doc pm : Value) (an : Option Addr) (cdv ct u v : Value),
      bindArgs (PySem.W.fnOf "__init__" (e.c ++ ".__init__") e.params e.body e.scope .none kV doc pm an cdv ct) ⟨[u, v], []⟩ = pure [(("self" : Str), u), (e.f, v)] ∧
      bindArgs (PySem.W.fnOf "__init__" (e.c ++ ".__init__") e.params e.body e.scope .none kV doc pm an cdv ct) ⟨[u], [(e.f, v)]⟩ = pure [(("self" : Str), u), (e.f, v)]
def oexB (K : PySem.W.Frag) (C : Addr) : Bool := match K.lookup C with
  | some ⟨.type t, _, .cls cd, sl⟩ => (match cd.mro, sl.toList with
    | .ref C2 :: bm, [_, _, _, _, some (.builtin n), _] => decide (t = "type") && (decide (C2 = C) && (decide (n = "ValueError.__new__") && (!cd.hasDel && (cd.hasDict && PySem.HandSPX.refsVE bm))))
    | _, _ => false)
  | _ => false
def excB (K : PySem.W.Frag) (C : Addr) : Bool :=
  He.eqO (PySem.W.findIn K (.ref C) "__getattribute__") (some (some (.builtin "BaseException.__getattribute__"))) && (He.eqO (PySem.W.findIn K (.ref C) "__getattr__") (some none) &&
  (decide (PySem.W.subIn K (.ref C) (.type "BaseException") = some true) && (PySem.W.hasDictIn K C && (He.eqO (PySem.W.findIn K (.ref C) "__class__") (some (some (.builtin "object.__class__"))) &&
  (He.eqO (PySem.W.specialIn K (.builtin "object.__class__") "__get__") (some (some (.builtin "getset_descriptor.__get__"))) && (decide (PySem.W.takesIn K (.builtin "object.__class__") = some true) && decide (PySem.W.mroIn K C (.type "object") = some true)))))))
theorem excB_ok {K : PySem.W.Frag} {C : Addr} (h : excB K C = true) : ExcC K C := by
  unfold excB at h
  simp only [Bool.and_eq_true, decide_eq_true_eq] at h
  obtain ⟨h1, h2, h3, h4, h5, h6, h7, h8⟩ := h
  exact ⟨He.eqO_ok h1, He.eqO_ok h2, h3, h4, He.eqO_ok h5, He.eqO_ok h6, h7, h8⟩
def basB (K : PySem.W.Frag) (C : Addr) : Bool := decide (PySem.W.subIn K (.ref C) (.type "BaseException") = some true) && (decide (PySem.W.typeIn K (.ref C) = some (.type "type")) && PySem.W.keepIn K (.ref C))
theorem basB_ok {K : PySem.W.Frag} {C : Addr} (h : basB K C = true) : PySem.W.subIn K (.ref C) (.type "BaseException") = some true ∧ PySem.W.typeIn K (.ref C) = some (.type "type") ∧ PySem.W.keepIn K (.ref C) = true := by
  unfold basB at h
  simp only [Bool.and_eq_true, decide_eq_true_eq] at h
  exact h
theorem oexB_ok {K : PySem.W.Frag} {C : Addr} (h : oexB K C = true) (b : basB K C = true) (sa : He.eqO (PySem.W.findIn K (.ref C) "__setattr__") (some (some (.builtin "object.__setattr__"))) = true) : OexC K C := by
  obtain ⟨b1, b2, b3⟩ := basB_ok b
  refine ⟨?_, He.eqO_ok sa, b1, b2, b3⟩
  unfold oexB at h
  split at h
  · rename_i t dd cd sl ho
    split at h
    · rename_i C2 bm k0 k1 k2 k3 n k5 hm hs
      simp only [Bool.and_eq_true, decide_eq_true_eq, Bool.not_eq_true'] at h
      obtain ⟨rfl, rfl, rfl, hdel, hdi, hr⟩ := h
      obtain ⟨nm, bs, mro, ns, qn, hd, sn, sub, ab, col, del⟩ := cd
      dsimp only at hm hdel hdi
      subst hm hdel hdi
      have hsl : sl = #[k0, k1, k2, k3, some (.builtin "ValueError.__new__"), k5] := by
        obtain ⟨l⟩ := sl
        simp only at hs
        rw [hs]
      subst hsl
      exact ⟨nm, qn, ns, bs, bm, sn, sub, ab, col, dd, k0, k1, k2, k3, k5, ho, hr⟩
    · cases h
  · cases h
def ecB (K : PySem.W.Frag) (e : Ecd) : Bool :=
  He.eqO (PySem.W.nsIn K mainGlobals e.c) (some (some (.ref (gad K e.c)))) && (oexB K (gad K e.c) && (basB K (gad K e.c) && (excB K (gad K e.c) && (He.eqO (PySem.W.findIn K (.ref (gad K e.c)) "__setattr__") (some (some (.builtin "object.__setattr__"))) &&
  (He.eqO (PySem.W.findIn K (.ref (gad K e.c)) "__init__") (some (some (.ref (He.fAd K (e.c, some "__init__"))))) && (decide (PySem.W.typeIn K (.ref (He.fAd K (e.c, some "__init__"))) = some (.type "function")) && He.eqO (PySem.W.findIn K (.ref (gad K e.c)) e.f) (some none)))))))
def ec0B (K : PySem.W.Frag) (c : Str) : Bool :=
  He.eqO (PySem.W.nsIn K mainGlobals c) (some (some (.ref (gad K c)))) && (PySem.W.excIn K (gad K c) He.veBase "ValueError.__new__" && (basB K (gad K c) && excB K (gad K c)))
/-- a class by its name: an object of the module, or a built-in one -/
def clsAt (K : PySem.W.Frag) (x : Str) : Option Value := match PySem.W.nsIn K mainGlobals x with
  | some (some (.ref a)) => some (.ref a)
  | some none => match bootBuiltins x with
    | some (.type T) => some (.type T)
    | _ => none
  | _ => none
theorem clsAt_ok {K : PySem.W.Frag} {h : Heap} {mg : Str → Option Value} (X : K.In h) (N : h.Ns mainGlobals mg) {x : Str} {u : Value} (e : clsAt K x = some u) : (∃ v, ClsV v u) ∧ Stands mg x u := by
  unfold clsAt at e
  split at e
  · rename_i a ha
    cases e
    exact ⟨⟨_, .own a⟩, .inl (PySem.W.mg_of X N ha)⟩
  · rename_i ha
    split at e
    · rename_i T hT
      cases e
      exact ⟨⟨_, .ty T⟩, .inr ⟨PySem.W.mg_none_of X N ha, hT⟩⟩
    · cases e
  · cases e
def tyiB (K : PySem.W.Frag) (C : Addr) : Bool :=
  (PySem.W.plainGet K C Str.empty && (PySem.W.hasDictIn K C && (PySem.W.plainOver K C && He.eqO (PySem.W.findIn K (.ref C) "__setattr__") (some (some (.builtin "object.__setattr__")))))) &&
  (He.eqO (PySem.W.findIn K (.ref C) "__class__") (some (some (.builtin "object.__class__"))) && (He.eqO (PySem.W.specialIn K (.builtin "object.__class__") "__get__") (some (some (.builtin "getset_descriptor.__get__"))) &&
  (decide (PySem.W.takesIn K (.builtin "object.__class__") = some true) && decide (PySem.W.mroIn K C (.type "object") = some true))))
theorem tyiB_ok {K : PySem.W.Frag} {C : Addr} (c : tyiB K C = true) : TyI K C := by
  unfold tyiB at c
  simp only [Bool.and_eq_true, decide_eq_true_eq] at c
  obtain ⟨⟨h2, h3, h4, h5⟩, h6, h7, h8, h9⟩ := c
  exact ⟨⟨h2, h3, h4, He.eqO_ok h5⟩, He.eqO_ok h6, He.eqO_ok h7, h8, h9⟩
def isaB (K : PySem.W.Frag) (all : List Str) (p : Str × Isa) : Bool := match clsAt K p.1 with
  | some u => p.2.yes.all (fun c => all.contains c && decide (PySem.W.kitOne K (.ref (gad K c)) u = some true)) && (p.2.no.all (fun c => all.contains c && decide (PySem.W.kitOne K (.ref (gad K c)) u = some false)) &&
      ((!p.2.pl || tysA.all fun S => decide (PySem.W.kitOne K (.type S) u = some false)) &&
      (p.2.yi.all (fun c => tyiB K (gad K c) && decide (PySem.W.kitOne K (.ref (gad K c)) u = some true)) && p.2.ni.all (fun c => tyiB K (gad K c) && decide (PySem.W.kitOne K (.ref (gad K c)) u = some false)))))
  | none => false
def exmB (K : PySem.W.Frag) (p : Str × Isa) : Bool := match clsAt K p.1 with
  | some u => p.2.yes.all (fun c => decide (PySem.W.exmOne K (.ref (gad K c)) u = some true)) && p.2.no.all (fun c => decide (PySem.W.exmOne K (.ref (gad K c)) u = some false))
  | none => false
def tabB (K : PySem.W.Frag) (x : Str) : Bool := He.eqO (PySem.W.nsIn K mainGlobals x) (some (some (.ref (gad K x))))
theorem tab_keys {K : PySem.W.Frag} {a : Addr} {P : Params} {ks : List Str} (h : He.dicW K a = some (He.keysIn P ks)) : ∀ z, ∃ r : Option Value, PySem.W.nsIn K a z = some r ∧ r.isSome = decide (z ∈ ks) := by
  intro z
  unfold He.dicW at h
  split at h
  · rename_i c es n sl q
    split at h
    · have h := Option.some.inj h
      have key : ∀ (l : List DictEntry) (ks : List Str), l.map He.keyOf = He.keysIn P ks →
          (∃ e, l.find? (·.key.isStr z) = some e ∧ z ∈ ks) ∨ (l.find? (·.key.isStr z) = none ∧ z ∉ ks ∧ l.any (·.refKey) = false) := by
        intro l
        induction l with
        | nil =>
          intro ks hk
          cases ks with
          | nil => exact .inr ⟨rfl, by simp, rfl⟩
          | cons _ _ => cases hk
        | cons e r ih =>
          intro ks hk
          cases ks with
          | nil => cases hk
          | cons k ks =>
          have hk : He.keyOf e :: r.map He.keyOf = some (k, PyData.keyHash P k) :: He.keysIn P ks := hk
          injection hk with h1 h2
          unfold He.keyOf at h1
          split at h1
          · rename_i y t ey
            have h4 := Option.some.inj h1
            have e1 : y = k := (Prod.mk.inj h4).1
            subst e1
            have er : e.refKey = false := by unfold DictEntry.refKey; rw [ey]
            by_cases hz : y = z
            · subst hz
              refine .inl ⟨e, ?_, by simp⟩
              rw [List.find?_cons, ey]
              simp [Value.isStr]
            · have hn : (e.key.isStr z) = false := by rw [ey]; simpa [Value.isStr] using hz
              rw [List.find?_cons, hn]
              rcases ih ks h2 with ⟨e2, q1, q2⟩ | ⟨q1, q2, q3⟩
              · exact .inl ⟨e2, q1, List.mem_cons_of_mem _ q2⟩
              · refine .inr ⟨q1, ?_, ?_⟩
                · rw [List.mem_cons, not_or]
                  exact ⟨fun y => hz y.symm, q2⟩
                · rw [List.any_cons, er, q3]; rfl
          · cases h1
      rcases key es.toList ks h with ⟨e, q1, q2⟩ | ⟨q1, q2, q3⟩
      · refine ⟨some e.val, ?_, by simp [q2]⟩
        unfold PySem.W.nsIn
        rw [q]
        simp only [q1]
      · refine ⟨none, ?_, by simp [q2]⟩
        unfold PySem.W.nsIn
        rw [q]
        simp only [q1, q3]
        rfl
    · cases h
  · cases h

/-! ### own classes -/
def clsB1 (K : PySem.W.Frag) (C : Addr) : Bool := PySem.W.plainGet K C Str.empty && (PySem.W.hasDictIn K C && (PySem.W.plainOver K C && He.eqO (PySem.W.findIn K (.ref C) "__setattr__") (some (some (.builtin "object.__setattr__")))))
def clsB2 (K : PySem.W.Frag) (c : Str) : Bool := PySem.W.makesIn K (gad K c) && (He.eqO (PySem.W.findIn K (.ref (gad K c)) "__init__") (some (some (.ref (He.fAd K (c, some "__init__"))))) && (PySem.W.isFn K (.ref (He.fAd K (c, some "__init__"))) && PySem.W.keepIn K (.ref (gad K c))))
def clsB3 (K : PySem.W.Frag) (c m : Str) : Bool := He.eqO (PySem.W.findIn K (.ref (gad K c)) m) (some (some (.ref (He.fAd K (c, some m))))) && (PySem.W.isFn K (.ref (He.fAd K (c, some m))) && PySem.W.keepIn K (.ref (He.fAd K (c, some m))))
def clsB (K : PySem.W.Frag) (d : Cd) : Bool :=
  He.eqO (PySem.W.nsIn K mainGlobals d.c) (some (some (.ref (gad K d.c)))) && (clsB1 K (gad K d.c) && ((d.flds.all fun f => He.eqO (PySem.W.findIn K (.ref (gad K d.c)) f) (some none)) && ((!decide (("__init__" : Str) ∈ d.ms) || clsB2 K d.c) && d.ms.all (clsB3 K d.c))))
theorem clsB_ok {K : PySem.W.Frag} {h : Heap} {mg : Str → Option Value} (X : K.In h) (N : h.Ns mainGlobals mg) {d : Cd} (c : clsB K d = true) :
    mg d.c = some (.ref (gad K d.c)) ∧ Cls K (gad K d.c) ∧ (∀ f ∈ d.flds, NoAttr K (gad K d.c) f) ∧ (("__init__" : Str) ∈ d.ms → L2.Mk K (gad K d.c) (He.fAd K (d.c, some "__init__"))) ∧ ∀ m ∈ d.ms, Meth K (gad K d.c) m (He.fAd K (d.c, some m)) := by
  unfold clsB clsB1 clsB2 clsB3 at c
  simp only [Bool.and_eq_true, List.all_eq_true, Bool.or_eq_true, Bool.not_eq_true', decide_eq_false_iff_not] at c
  obtain ⟨h1, ⟨h2, h3, h4, h5⟩, h6, h7, h8⟩ := c
  refine ⟨PySem.W.mg_of X N (He.eqO_ok h1), ⟨h2, h3, h4, He.eqO_ok h5⟩, fun f hf => He.eqO_ok (h6 f hf), fun hm => ?_, fun m hm => ⟨He.eqO_ok (h8 m hm).1, (h8 m hm).2.1, (h8 m hm).2.2⟩⟩
  rcases h7 with z | ⟨a1, a2, a3, a4⟩
  · exact absurd hm z
  · exact ⟨a1, He.eqO_ok a2, a3, a4⟩

/-! ### the Hook -/
/-- what the top must say: the module's names, the own errors' texts, those without a field -/
structure Hx where
  cs : List (Str × Dt)
  es : List Ecd
  e0 : List Str
  isa : List (Str × Isa)
  exm : List (Str × Isa)
  tabs : List (Str × List Str)
  cls : List Cd
def Hx.all (x : Hx) : List Str := x.es.map (·.c) ++ x.e0
def exB (x : Hx) (K : PySem.W.Frag) : Bool := sysB K && (x.cs.all (fun c => cstB K c.1 c.2) && (x.es.all (ecB K) && (x.e0.all (ec0B K) && (x.isa.all (isaB K x.all) && (x.exm.all (exmB K) && (x.tabs.all (fun t => tabB K t.1) && x.cls.all (clsB K)))))))
def frM (n : Nat) (g : Addr → Option Obj) : PySem.W.Frag := He.frG g (sysModules :: He.asD g n)
abbrev AlM : Type := (He.AlD × Bool) × List (Option (List (Option (Str × Int))))
def obsM (n : Nat) (fa : List He.Fa) (fn : List He.DefD) (x : Hx) (g : Addr → Option Obj) : AlM := ((He.obsD fa fn (frM n g), exB x (frM n g)), x.tabs.map fun t => He.dicW (frM n g) (gad (frM n g) t.1))
def hookM (n : Nat) (fa : List He.Fa) (fn : List He.DefD) (x : Hx) : PySem.W.Hook where
  α := AlM
  obs := fun s => obsM n fa fn x s.heap.get?
  val := fun w => ((He.valD fn, true), x.tabs.map fun t => some (He.keysIn w.params t.2))
  says := fun w h => ∃ K : PySem.W.Frag, K.In h ∧ He.SaysD fa fn K ∧ exB x K = true ∧ x.tabs.map (fun t => He.dicW K (gad K t.1)) = x.tabs.map fun t => some (He.keysIn w.params t.2)
  of := fun w s e => by
    have e : obsM n fa fn x s.heap.get? = ((He.valD fn, true), x.tabs.map fun t => some (He.keysIn w.params t.2)) := e
    exact ⟨frM n s.heap.get?, He.frG_in, congrArg (fun z : AlM => z.1.1) e, congrArg (fun z : AlM => z.1.2) e, congrArg (fun z : AlM => z.2) e⟩
  keeps := fun _ _ _ ⟨K, hK, c⟩ k => ⟨K, PySem.W.Frag.In.keeps hK k, c⟩
theorem obsM_eq {n : Nat} {fa : List He.Fa} {fn : List He.DefD} {x : Hx} {g : Addr → Option Obj} {s : Shared} (h : ∀ a, g a = s.heap.get? a) : obsM n fa fn x g = (hookM n fa fn x).obs s := by
  have e : g = s.heap.get? := funext h
  rw [e] <;> rfl
/-! ### a module from what the top leaves -/
def Df.key (d : Df) : Str × Option Str := match d.cls with
  | none => (d.x, none)
  | some p => (p.1, some p.2)
def Df.d (d : Df) : He.DefD := ⟨d.key, d.nm, d.x, d.params, d.body, d.scope, [], []⟩
/-- each name among the defs is told once; the methods are there -/
def namB (G : Gs) (T : List Df) : Bool := (G.fns.all fun x => match T.find? (fun d => decide (d.x = x)) with
    | some d => d.cls.isNone
    | none => false) && ((T.all fun d => !d.cls.isNone || decide (d.x ∈ G.fns)) && (G.cls.all fun d => d.ms.all fun m => match T.find? (fun d' => decide (d'.x = mnm d.c m)) with
    | some e => decide (e.cls = some (d.c, m))
    | none => false))
def fasOf (G : Gs) : List He.Fa := G.fns.map He.Fa.glo ++ G.blt.map He.Fa.free
/-- the defs that are looked at: the module's own, then the errors' -/
def fnsOf (T : List Df) (x : Hx) : List He.DefD := T.map Df.d ++ x.es.map Ecd.d
theorem mod_of {P : Program} {w : World} {K : PySem.W.Frag} {h : Heap} {mg : Str → Option Value} {G : Gs} {T0 : List Df} {x : Hx} (X : K.In h) (N : h.Ns mainGlobals mg) (c : He.SaysD (fasOf G) (fnsOf T0 x) K) (ex : exB x K = true)
    (tb : x.tabs.map (fun t => He.dicW K (gad K t.1)) = x.tabs.map fun t => some (He.keysIn w.params t.2))
    (names : namB G T0 = true) (ok : ∀ d ∈ T0, d.Ok G) (ecs : G.ecs = x.es.map (fun e => (e.c, some e.f)) ++ x.e0.map fun c => (c, none)) (eok : ∀ e ∈ x.es, e.Ok)
    (hc : G.csts = x.cs) (hi : G.isa = x.isa) (he : G.exm = x.exm) (ht : G.tabs = x.tabs) (hl : G.cls = x.cls) : Mod P w K mg G T0 := by
  unfold exB at ex
  simp only [Bool.and_eq_true, List.all_eq_true] at ex
  obtain ⟨ex1, ex2, ex3, ex4, ex5, ex6, ex7, ex8⟩ := ex
  unfold namB at names
  simp only [Bool.and_eq_true, List.all_eq_true, Bool.or_eq_true, Bool.not_eq_true', decide_eq_true_eq] at names
  obtain ⟨nm1, nm2, nm3⟩ := names
  have fact : ∀ f ∈ fasOf G, f.ok K = true := fun f hf => by
    obtain ⟨i, hi⟩ := List.getElem?_of_mem hf
    exact c.fact i hi
  have excOf : ∀ n ∈ x.all, ExcC K (gad K n) := fun n hn => by
    unfold Hx.all at hn
    rcases List.mem_append.mp hn with hn | hn
    · obtain ⟨e, h1, rfl⟩ := List.mem_map.mp hn
      have h2 := ex3 e h1
      unfold ecB at h2
      simp only [Bool.and_eq_true] at h2
      exact excB_ok h2.2.2.2.1
    · have h2 := ex4 n hn
      unfold ec0B at h2
      simp only [Bool.and_eq_true] at h2
      exact excB_ok h2.2.2.2
  have defs : ∀ d ∈ T0, ∃ fd, FunD K d.nm d.x d.params d.body d.scope [] [] (He.fAd K d.key) fd := fun d hd => by
    obtain ⟨i, hi⟩ := List.getElem?_of_mem hd
    obtain ⟨fd, F⟩ := c.def_ i (d := d.d) (by
      unfold fnsOf
      rw [List.getElem?_append_left (by rw [List.length_map]; exact (List.getElem?_eq_some_iff.mp hi).1), List.getElem?_map, hi]
      rfl)
    exact ⟨fd, F⟩
  refine ⟨fun n hn => ?_, ok, fun d hd hc0 => ?_, fun d hd c0 m hc0 => ?_, fun n d hx => ?_, fun n hx => ?_, sysB_ok ex1, fun n o hm => ?_, fun n t hl => ?_, fun n t hl => ?_, fun n ks hl => ?_, fun d hd => ?_, fun d hd m hm => ?_⟩
  · have z := nm1 n hn
    split at z
    · rename_i d e
      exact ⟨d, e, List.mem_of_find?_eq_some e, by simpa using List.find?_some e, by simpa using z⟩
    · cases z
  · obtain ⟨fd, F⟩ := defs d hd
    have k0 : d.key = (d.x, none) := by unfold Df.key; rw [hc0]
    rw [k0] at F
    refine ⟨_, fd, He.glo_ok X N (fact (.glo d.x) ?_), F⟩
    refine List.mem_append_left _ (List.mem_map.mpr ⟨d.x, ?_, rfl⟩)
    rcases nm2 d hd with z | z
    · rw [hc0] at z; cases z
    · exact z
  · obtain ⟨fd, F⟩ := defs d hd
    have k0 : d.key = (c0, some m) := by unfold Df.key; rw [hc0]
    rw [k0] at F
    exact ⟨fd, F⟩
  · rw [hc] at hx
    exact cstB_ok X N (ex2 (n, d) (PySem.mem_of_lookup hx))
  · exact He.free_ok X N (fact (.free n) (List.mem_append_right _ (List.mem_map.mpr ⟨n, hx, rfl⟩)))
  · rw [ecs] at hm
    rcases List.mem_append.mp hm with hm | hm
    · obtain ⟨e, h1, h2⟩ := List.mem_map.mp hm
      cases h2
      have h3 := ex3 e h1
      unfold ecB at h3
      simp only [Bool.and_eq_true, decide_eq_true_eq] at h3
      obtain ⟨g1, g2, g3, g4, g5, g6, g7, g8⟩ := h3
      have T := oexB_ok g2 g3 g5
      have S := excB_ok g4
      have O := eok e h1
      obtain ⟨j, hj⟩ := List.getElem?_of_mem h1
      obtain ⟨fd, F⟩ := c.def_ ((List.map Df.d T0).length + j) (d := e.d) (by
        unfold fnsOf
        rw [List.getElem?_append_right (Nat.le_add_right _ _), Nat.add_sub_cancel_left, List.getElem?_map, hj]
        rfl)
      obtain ⟨p1, p2, p3, p4, hb⟩ := O.bd
      refine .one (fI := He.fAd K (e.c, some "__init__")) (PySem.W.mg_of X N (He.eqO_ok g1)) ⟨T, ⟨S.hg, S.hk, S.hs, S.hd⟩, S, He.eqO_ok g6, g7, He.eqO_ok g8, O.pl, e.c ++ ".__init__", e.params, e.scope, p1, p2, p3, p4, fd, ?_, O.sc, ?_⟩
      · rw [← hb]; exact F
      · rw [← hb]; exact O.bi
    · obtain ⟨n2, h1, h2⟩ := List.mem_map.mp hm
      cases h2
      have h3 := ex4 n h1
      unfold ec0B at h3
      simp only [Bool.and_eq_true] at h3
      obtain ⟨g1, g2, g3, g4⟩ := h3
      obtain ⟨b1, b2, b3⟩ := basB_ok g3
      exact .zero (PySem.W.mg_of X N (He.eqO_ok g1)) g2 b3 b1 b2
  · rw [hi] at hl
    have h1 := ex5 (n, t) (PySem.mem_of_lookup hl)
    unfold isaB at h1
    split at h1
    · rename_i u hu
      simp only [Bool.and_eq_true, List.all_eq_true, List.contains_iff_mem, decide_eq_true_eq, Bool.or_eq_true, Bool.not_eq_true'] at h1
      obtain ⟨⟨v, hv⟩, st⟩ := clsAt_ok X N hu
      refine ⟨v, u, hv, ⟨fun q hq => ⟨excOf q (h1.1 q hq).1, (h1.1 q hq).2⟩, fun q hq => ⟨excOf q (h1.2.1 q hq).1, (h1.2.1 q hq).2⟩, fun hp S hS => ?_, fun q hq => ⟨tyiB_ok (h1.2.2.2.1 q hq).1, (h1.2.2.2.1 q hq).2⟩, fun q hq => ⟨tyiB_ok (h1.2.2.2.2 q hq).1, (h1.2.2.2.2 q hq).2⟩⟩, st⟩
      rcases h1.2.2.1 with z | z
      · rw [show t.pl = false from z] at hp; cases hp
      · exact z S hS
    · cases h1
  · rw [he] at hl
    have h1 := ex6 (n, t) (PySem.mem_of_lookup hl)
    unfold exmB at h1
    split at h1
    · rename_i u hu
      simp only [Bool.and_eq_true, List.all_eq_true, decide_eq_true_eq] at h1
      exact ⟨u, ⟨h1.1, h1.2⟩, (clsAt_ok X N hu).2⟩
    · cases h1
  · rw [ht] at hl
    have hm := PySem.mem_of_lookup hl
    obtain ⟨j, hj⟩ := List.getElem?_of_mem hm
    have e2 : (x.tabs.map fun t => He.dicW K (gad K t.1))[j]? = (x.tabs.map fun t => some (He.keysIn w.params t.2))[j]? := by rw [tb]
    rw [List.getElem?_map, List.getElem?_map, hj] at e2
    have e3 : He.dicW K (gad K n) = some (He.keysIn w.params ks) := Option.some.inj e2
    obtain ⟨es, m, kd⟩ := He.dicW_ok e3
    have h1 := ex7 (n, ks) hm
    exact ⟨_, es, m, PySem.W.mg_of X N (He.eqO_ok h1), kd, tab_keys e3⟩
  · rw [hl] at hd
    exact clsB_ok X N (ex8 d hd)
  · have z := nm3 d hd m hm
    split at z
    · rename_i e h1
      exact ⟨e, h1, List.mem_of_find?_eq_some h1, of_decide_eq_true z⟩
    · cases z
end Vm
end
section
set_option Elab.async false
set_option linter.all false
set_option maxRecDepth 100000
set_option maxHeartbeats 4000000
namespace K10
open PySem PySem.Spec PyProof.Rows L2 Vm
def topS (i : Nat) : Stmt := PySem.Challenge.pw_backfilled_k10_values_and_columns.main.body.getD i (.Pass ⟨0, 0, 0, 0⟩)
def gs : Gs := ⟨["is_integer", "is_text", "is_name", "is_value", "is_day", "is_columns", "is_column", "is_row", "_law_pool", "_law_take", "_law_words", "_law_is_name", "_law_kind", "_law_is_column", "_law_is_columns", "_law_is_row", "_law_odd", "_law_bent", "_law_right", "law"], [("LETTERS", (.str "abcdefghijklmnopqrstuvwxyz")), ("TEXT_SIGNS", (.str "abcdefghijklmnopqrstuvwxyz0123456789 ")), ("KINDS", (.tup [(.str "number"), (.str "text")])), ("MOST_SIGNS", (.int (20)))], ["len", "abs", "int", "tuple", "list", "all", "str", "repr", "max", "min", "isinstance", "range", "bool", "set", "zip"], [], [], [], [("FIXED", ["last", "where", "with", "keep", "rename", "join", "union", "minus", "group", "count", "sum", "least", "greatest", "and", "or", "not", "today", "|", "(", ")", "[", "]", ",", ":", "=", "<", "<=", "+", "-", "*", "", " "])], []⟩
def initS (i j : Nat) : Stmt := match topS i with
  | .ClassDef (body := b) .. => b.getD j (.Pass ⟨0, 0, 0, 0⟩)
  | _ => .Pass ⟨0, 0, 0, 0⟩
def b_is_integer : Ss := (.one (.ret (.and (.blt .isi (.cons (.var 0) (.cons (.cst (.ty "int")) .nil))) (.and (.cmp .isnot (.var 0) (.cst (.bl true))) (.cmp .isnot (.var 0) (.cst (.bl false))))))
  .nil)
def d_is_integer : Df := ⟨"is_integer", ["value"], ["value"], defArgs (topS 6), defBody (topS 6), defScope (topS 6), ⟨[], false⟩, b_is_integer, none⟩
def b_is_text : Ss := (.one (.ret (.and (.blt .isi (.cons (.var 0) (.cons (.cst (.ty "str")) .nil))) (.and (.cmp .le (.blt .len (.cons (.var 0) .nil)) (.cst (.int (20)))) (.not (.mth .strip (.var 0) (.cons (.cst (.str "abcdefghijklmnopqrstuvwxyz0123456789 ")) .nil))))))
  .nil)
def d_is_text : Df := ⟨"is_text", ["value"], ["value"], defArgs (topS 7), defBody (topS 7), defScope (topS 7), ⟨[], false⟩, b_is_text, none⟩
def b_is_name : Ss := (.one (.ret (.and (.blt .isi (.cons (.var 0) (.cons (.cst (.ty "str")) .nil))) (.and (.chn .le .le (.cst (.int (1))) (.blt .len (.cons (.var 0) .nil)) (.cst (.int (8)))) (.and (.not (.mth .strip (.var 0) (.cons (.cst (.str "abcdefghijklmnopqrstuvwxyz")) .nil))) (.xf (.tin true ["last", "where", "with", "keep", "rename", "join", "union", "minus", "group", "count", "sum", "least", "greatest", "and", "or", "not", "today", "|", "(", ")", "[", "]", ",", ":", "=", "<", "<=", "+", "-", "*", "", " "]) (.cons (.var 0) .nil))))))
  .nil)
def d_is_name : Df := ⟨"is_name", ["value"], ["value"], defArgs (topS 8), defBody (topS 8), defScope (topS 8), ⟨[], false⟩, b_is_name, none⟩
def b_is_value : Ss := (.one (.ret (.or (.call "is_integer" (.cons (.var 0) .nil)) (.call "is_text" (.cons (.var 0) .nil))))
  .nil)
def d_is_value : Df := ⟨"is_value", ["value"], ["value"], defArgs (topS 9), defBody (topS 9), defScope (topS 9), ⟨[], false⟩, b_is_value, none⟩
def b_is_day : Ss := (.one (.ret (.and (.blt .isi (.cons (.var 0) (.cons (.cst (.ty "int")) .nil))) (.and (.chn .le .le (.cst (.int (0))) (.var 0) (.cst (.int (999)))) (.and (.cmp .isnot (.var 0) (.cst (.bl true))) (.cmp .isnot (.var 0) (.cst (.bl false)))))))
  .nil)
def d_is_day : Df := ⟨"is_day", ["value"], ["value"], defArgs (topS 10), defBody (topS 10), defScope (topS 10), ⟨[], false⟩, b_is_day, none⟩
def b_is_columns : Ss := (.ife (.or (.not (.val (.blt .isi (.cons (.var 0) (.cons (.cst (.ty "list")) .nil))))) (.not (.val (.chn .le .le (.cst (.int (1))) (.blt .len (.cons (.var 0) .nil)) (.cst (.int (10)))))))
  (.one (.ret (.cst (.bl false)))
  .nil)
  .nil
  (.ife (.not (.val (.blt .all (.cons (.lc false (.seq (.var 0)) (.name 1) .yes (.call "is_column" (.cons (.var 1) .nil)) [1]) .nil))))
  (.one (.ret (.cst (.bl false)))
  .nil)
  .nil
  (.one (.ret (.cmp .eq (.lenSc (.seq (.var 0)) (.tup (.cons (.name 2) (.cons (.name 3) .nil))) .yes (.var 2) [2, 3]) (.blt .len (.cons (.var 0) .nil))))
  .nil)))
def d_is_columns : Df := ⟨"is_columns", ["value", "item", "name", "_"], ["value"], defArgs (topS 11), defBody (topS 11), defScope (topS 11), ⟨[], false⟩, b_is_columns, none⟩
def b_is_column : Ss := (.ife (.or (.not (.val (.blt .isi (.cons (.var 0) (.cons (.cst (.ty "tuple")) .nil))))) (.val (.cmp .ne (.blt .len (.cons (.var 0) .nil)) (.cst (.int (2))))))
  (.one (.ret (.cst (.bl false)))
  .nil)
  .nil
  (.one (.ret (.and (.call "is_name" (.cons (.idx (.var 0) (.cst (.int (0)))) .nil)) (.and (.blt .isi (.cons (.idx (.var 0) (.cst (.int (1)))) (.cons (.cst (.ty "str")) .nil))) (.cmp .inn (.idx (.var 0) (.cst (.int (1)))) (.cst (.tup [(.str "number"), (.str "text")]))))))
  .nil))
def d_is_column : Df := ⟨"is_column", ["value"], ["value"], defArgs (topS 12), defBody (topS 12), defScope (topS 12), ⟨[], false⟩, b_is_column, none⟩
def b_is_row : Ss := (.ife (.or (.not (.val (.blt .isi (.cons (.var 0) (.cons (.cst (.ty "tuple")) .nil))))) (.val (.cmp .ne (.blt .len (.cons (.var 0) .nil)) (.blt .len (.cons (.var 1) .nil)))))
  (.one (.ret (.cst (.bl false)))
  .nil)
  .nil
  (.for (.zip (.var 0) (.var 1)) (.tup (.cons (.name 2) (.cons (.tup (.cons (.name 3) (.cons (.name 4) .nil))) .nil)))
  (.ife (.val (.cmp .eq (.var 4) (.cst (.str "text"))))
  (.ife (.or (.not (.val (.blt .isi (.cons (.var 2) (.cons (.cst (.ty "str")) .nil))))) (.or (.val (.cmp .gt (.blt .len (.cons (.var 2) .nil)) (.cst (.int (20))))) (.val (.mth .strip (.var 2) (.cons (.cst (.str "abcdefghijklmnopqrstuvwxyz0123456789 ")) .nil)))))
  (.one (.ret (.cst (.bl false)))
  .nil)
  .nil
  .nil)
  (.ife (.or (.not (.val (.blt .isi (.cons (.var 2) (.cons (.cst (.ty "int")) .nil))))) (.or (.val (.cmp .is (.var 2) (.cst (.bl true)))) (.val (.cmp .is (.var 2) (.cst (.bl false))))))
  (.one (.ret (.cst (.bl false)))
  .nil)
  .nil
  .nil)
  .nil)
  (.one (.ret (.cst (.bl true)))
  .nil)))
def d_is_row : Df := ⟨"is_row", ["value", "columns", "item", "_", "kind"], ["value", "columns"], defArgs (topS 13), defBody (topS 13), defScope (topS 13), ⟨[], false⟩, b_is_row, none⟩
def b_law_pool : Ss := (.one (.set 2 (.cst (.int (0))))
  (.ife (.val (.cmp .lt (.var 1) (.blt .len (.cons (.var 0) .nil))))
  (.one (.set 2 (.idx (.var 0) (.var 1)))
  .nil)
  .nil
  (.one (.set 3 (.blt .abs (.cons (.var 2) .nil)))
  (.one (.set 4 (.bin .mod (.bin .pow (.bin .add (.bin .add (.bin .add (.bin .mod (.var 2) (.cst (.int (2147483629)))) (.bin .mul (.bin .mul (.cst (.int (104729))) (.var 1)) (.var 1))) (.bin .mul (.cst (.int (7919))) (.var 1))) (.cst (.int (11)))) (.cst (.int (3)))) (.cst (.int (2147483647)))))
  (.one (.ret (.lst true (.cons (.bin .mul (.var 3) (.blt .int (.cons (.cmp .ge (.var 3) (.bin .pow (.cst (.int (10))) (.cst (.int (18))))) .nil))) (.cons (.var 4) .nil))))
  .nil)))))
def d_law_pool : Df := ⟨"_law_pool", ["_law_script", "_law_k", "_law_cell", "_law_size", "_law_seed"], ["_law_script", "_law_k"], defArgs (topS 15), defBody (topS 15), defScope (topS 15), ⟨[], true⟩, b_law_pool, none⟩
def b_law_take : Ss := (.ife (.val (.cmp .gt (.idx (.var 0) (.cst (.int (0)))) (.cst (.int (0)))))
  (.one (.set 2 (.bin .mod (.idx (.var 0) (.cst (.int (0)))) (.var 1)))
  (.one (.setL (.bin .fdiv (.idx (.var 0) (.cst (.int (0)))) (.var 1)) (.var 0) (.cst (.int (0))))
  (.one (.ret (.var 2))
  .nil)))
  .nil
  (.one (.setL (.bin .mod (.bin .add (.bin .mul (.idx (.var 0) (.cst (.int (1)))) (.cst (.int (48271)))) (.cst (.int (11)))) (.cst (.int (2147483647)))) (.var 0) (.cst (.int (1))))
  (.one (.ret (.bin .mod (.bin .fdiv (.bin .mod (.bin .mul (.idx (.var 0) (.cst (.int (1)))) (.idx (.var 0) (.cst (.int (1))))) (.cst (.int (2147483629)))) (.cst (.int (64)))) (.var 1)))
  .nil)))
def d_law_take : Df := ⟨"_law_take", ["_law_pool_here", "_law_many", "_law_found"], ["_law_pool_here", "_law_many"], defArgs (topS 16), defBody (topS 16), defScope (topS 16), ⟨[], false⟩, b_law_take, none⟩
def b_law_words : Ss := (.one (.ret (.mth .split (.cst (.str "last where with keep rename join union minus group count sum least greatest and or not today")) (.cons (.cst (.str " ")) .nil)))
  .nil)
def d_law_words : Df := ⟨"_law_words", [], [], defArgs (topS 17), defBody (topS 17), defScope (topS 17), ⟨[], false⟩, b_law_words, none⟩
def b_law_is_name : Ss := (.ife (.or (.not (.val (.blt .isi (.cons (.var 0) (.cons (.cst (.ty "str")) .nil))))) (.or (.val (.cmp .inn (.var 0) (.call "_law_words" .nil))) (.not (.val (.chn .le .le (.cst (.int (1))) (.blt .len (.cons (.var 0) .nil)) (.cst (.int (8))))))))
  (.one (.ret (.cst (.bl false)))
  .nil)
  .nil
  (.one (.ret (.cmp .eq (.lc false (.seq (.var 0)) (.name 1) (.not (.val (.chn .le .le (.cst (.str "a")) (.var 1) (.cst (.str "z"))))) (.var 1) [1]) (.lst false .nil)))
  .nil))
def d_law_is_name : Df := ⟨"_law_is_name", ["_law_value", "_law_letter"], ["_law_value"], defArgs (topS 18), defBody (topS 18), defScope (topS 18), ⟨[], false⟩, b_law_is_name, none⟩
def b_law_kind : Ss := (.ife (.val (.blt .isi (.cons (.var 0) (.cons (.cst (.ty "str")) .nil))))
  (.one (.set 1 (.lc false (.seq (.var 0)) (.name 2) (.or (.val (.chn .le .le (.cst (.str "a")) (.var 2) (.cst (.str "z")))) (.or (.val (.chn .le .le (.cst (.str "0")) (.var 2) (.cst (.str "9")))) (.val (.cmp .eq (.var 2) (.cst (.str " ")))))) (.var 2) [2]))
  (.one (.ret (.ite (.val (.chn .eq .le (.blt .len (.cons (.var 1) .nil)) (.blt .len (.cons (.var 0) .nil)) (.cst (.int (20))))) (.cst (.str "text")) (.cst .non)))
  .nil))
  .nil
  (.one (.ret (.ite (.and (.val (.blt .isi (.cons (.var 0) (.cons (.cst (.ty "int")) .nil)))) (.not (.val (.blt .isi (.cons (.var 0) (.cons (.cst (.ty "bool")) .nil)))))) (.cst (.str "number")) (.cst .non)))
  .nil))
def d_law_kind : Df := ⟨"_law_kind", ["_law_value", "_law_good", "_law_sign"], ["_law_value"], defArgs (topS 19), defBody (topS 19), defScope (topS 19), ⟨[], false⟩, b_law_kind, none⟩
def b_law_is_column : Ss := (.ife (.or (.not (.val (.blt .isi (.cons (.var 0) (.cons (.cst (.ty "tuple")) .nil))))) (.or (.val (.cmp .ne (.blt .len (.cons (.var 0) .nil)) (.cst (.int (2))))) (.not (.val (.call "_law_is_name" (.cons (.idx (.var 0) (.cst (.int (0)))) .nil))))))
  (.one (.ret (.cst (.bl false)))
  .nil)
  .nil
  (.one (.ret (.and (.blt .isi (.cons (.idx (.var 0) (.cst (.int (1)))) (.cons (.cst (.ty "str")) .nil))) (.cmp .inn (.idx (.var 0) (.cst (.int (1)))) (.lst false (.cons (.cst (.str "number")) (.cons (.cst (.str "text")) .nil))))))
  .nil))
def d_law_is_column : Df := ⟨"_law_is_column", ["_law_value"], ["_law_value"], defArgs (topS 20), defBody (topS 20), defScope (topS 20), ⟨[], false⟩, b_law_is_column, none⟩
def b_law_is_columns : Ss := (.ife (.or (.not (.val (.blt .isi (.cons (.var 0) (.cons (.cst (.ty "list")) .nil))))) (.not (.val (.chn .le .le (.cst (.int (1))) (.blt .len (.cons (.var 0) .nil)) (.cst (.int (10)))))))
  (.one (.ret (.cst (.bl false)))
  .nil)
  .nil
  (.ife (.val (.cmp .ne (.lc false (.seq (.var 0)) (.name 1) (.not (.val (.call "_law_is_column" (.cons (.var 1) .nil)))) (.var 1) [1]) (.lst false .nil)))
  (.one (.ret (.cst (.bl false)))
  .nil)
  .nil
  (.one (.ret (.cmp .eq (.lenSet (.lc false (.seq (.var 0)) (.name 1) .yes (.idx (.var 1) (.cst (.int (0)))) [1])) (.blt .len (.cons (.var 0) .nil))))
  .nil)))
def d_law_is_columns : Df := ⟨"_law_is_columns", ["_law_value", "_law_column"], ["_law_value"], defArgs (topS 21), defBody (topS 21), defScope (topS 21), ⟨[], false⟩, b_law_is_columns, none⟩
def b_law_is_row : Ss := (.ife (.or (.not (.val (.blt .isi (.cons (.var 0) (.cons (.cst (.ty "tuple")) .nil))))) (.val (.cmp .ne (.blt .len (.cons (.var 0) .nil)) (.blt .len (.cons (.var 1) .nil)))))
  (.one (.ret (.cst (.bl false)))
  .nil)
  .nil
  (.one (.ret (.cmp .eq (.lc false (.seq (.var 0)) (.name 2) .yes (.call "_law_kind" (.cons (.var 2) .nil)) [2]) (.lc false (.seq (.var 1)) (.tup (.cons (.name 3) (.cons (.name 4) .nil))) .yes (.var 4) [3, 4])))
  .nil))
def d_law_is_row : Df := ⟨"_law_is_row", ["_law_value", "_law_columns", "_law_one", "_law_name", "_law_kind_here"], ["_law_value", "_law_columns"], defArgs (topS 22), defBody (topS 22), defScope (topS 22), ⟨[], false⟩, b_law_is_row, none⟩
def b_law_odd : Ss := (.one (.set 1 (.lst false (.cons (.cst .non) (.cons (.cst (.bl true)) (.cons (.cst (.bl false)) (.cons (.cst (.str "")) (.cons (.cst (.str "A")) (.cons (.cst (.str "a1")) (.cons (.cst (.str "a b")) (.cons (.cst (.str "a~")) (.cons (.cst (.str "ninesigns")) (.cons (.cst (.str "sum")) (.cons (.cst (.str "today")) (.cons (.tup .nil) (.cons (.lst false .nil) (.cons .dic (.cons (.tup (.cons (.cst (.str "a")) .nil)) (.cons (.lst false (.cons (.cst (.str "a")) .nil)) .nil))))))))))))))))))
  (.one (.set 1 (.bin .add (.var 1) (.lst false (.cons (.neg (.cst (.int (1)))) (.cons (.cst (.int (999))) (.cons (.cst (.int (1000))) (.cons (.bin .pow (.cst (.int (10))) (.cst (.int (39)))) (.cons (.bin .mul (.cst (.str "a")) (.cst (.int (20)))) (.cons (.bin .mul (.cst (.str "a")) (.cst (.int (21)))) (.cons (.cst (.str "0")) (.cons (.cst (.str "a_b")) (.cons (.cst (.str "a\n")) (.cons (.cst (.str " ")) (.cons (.cst (.str "eight")) (.cons (.cst (.str "abcdefgh")) (.cons (.tup (.cons (.cst (.str "a")) (.cons (.cst (.str "text")) .nil))) .nil))))))))))))))))
  (.one (.ret (.idx (.var 1) (.call "_law_take" (.cons (.var 0) (.cons (.cst (.int (29))) .nil)))))
  .nil)))
def d_law_odd : Df := ⟨"_law_odd", ["_law_pool_here", "_law_some"], ["_law_pool_here"], defArgs (topS 23), defBody (topS 23), defScope (topS 23), ⟨[], false⟩, b_law_odd, none⟩
def b_law_bent : Ss := (.one (.par 3 4 (.call "_law_take" (.cons (.var 0) (.cons (.blt .len (.cons (.var 1) .nil)) .nil))) (.call "_law_odd" (.cons (.var 0) .nil)))
  (.one (.set 2 (.lst false (.cons (.bin .add (.bin .add (.sl (.var 1) .non (.som (.var 3))) (.lst false (.cons (.var 4) .nil))) (.sl (.var 1) (.som (.bin .add (.var 3) (.cst (.int (1))))) .non)) (.cons (.bin .add (.sl (.var 1) .non (.som (.var 3))) (.sl (.var 1) (.som (.bin .add (.var 3) (.cst (.int (1))))) .non)) (.cons (.bin .add (.var 1) (.lst false (.cons (.idx (.var 1) (.var 3)) .nil))) (.cons (.var 1) .nil))))))
  (.one (.ret (.idx (.var 2) (.call "_law_take" (.cons (.var 0) (.cons (.cst (.int (4))) .nil)))))
  .nil)))
def d_law_bent : Df := ⟨"_law_bent", ["_law_pool_here", "_law_things", "_law_some", "_law_at", "_law_odd_here"], ["_law_pool_here", "_law_things"], defArgs (topS 24), defBody (topS 24), defScope (topS 24), ⟨[], false⟩, b_law_bent, none⟩
def b_law_right : Ss := (.one (.set 2 (.lst false (.cons (.call "is_name" (.cons (.var 1) .nil)) (.cons (.call "is_value" (.cons (.var 1) .nil)) (.cons (.call "is_day" (.cons (.var 1) .nil)) (.cons (.call "is_columns" (.cons (.var 1) .nil)) (.cons (.call "is_row" (.cons (.var 1) (.cons (.var 0) .nil))) .nil)))))))
  (.one (.set 3 (.and (.cmp .eq (.call "_law_kind" (.cons (.var 1) .nil)) (.cst (.str "number"))) (.chn .le .le (.cst (.int (0))) (.var 1) (.cst (.int (999))))))
  (.one (.set 4 (.lst false (.cons (.call "_law_is_name" (.cons (.var 1) .nil)) (.cons (.cmp .isnot (.call "_law_kind" (.cons (.var 1) .nil)) (.cst .non)) (.cons (.var 3) (.cons (.call "_law_is_columns" (.cons (.var 1) .nil)) (.cons (.call "_law_is_row" (.cons (.var 1) (.cons (.var 0) .nil))) .nil)))))))
  (.one (.ret (.cmp .eq (.blt .repr (.cons (.var 2) .nil)) (.blt .repr (.cons (.var 4) .nil))))
  .nil))))
def d_law_right : Df := ⟨"_law_right", ["_law_columns", "_law_value", "_law_told", "_law_day", "_law_due"], ["_law_columns", "_law_value"], defArgs (topS 25), defBody (topS 25), defScope (topS 25), ⟨[], false⟩, b_law_right, none⟩
def b_law : Ss := (.for (.rng1 (.blt .max2 (.cons (.cst (.int (1))) (.cons (.blt .min2 (.cons (.blt .len (.cons (.var 0) .nil)) (.cons (.cst (.int (6))) .nil))) .nil)))) (.name 1)
  (.one (.set 2 (.call "_law_pool" (.cons (.var 0) (.cons (.var 1) .nil))))
  (.one (.set 3 (.lc false (.seq (.sl (.cst (.str "abcdefghijk")) .non (.som (.bin .add (.cst (.int (1))) (.call "_law_take" (.cons (.var 2) (.cons (.cst (.int (11))) .nil))))))) (.name 12) .yes (.bin .add (.var 12) (.bin .mul (.cst (.str "x")) (.call "_law_take" (.cons (.var 2) (.cons (.cst (.int (8))) .nil))))) [12]))
  (.one (.set 4 (.lc false (.seq (.var 3)) (.name 7) .yes (.tup (.cons (.var 7) (.cons (.idx (.lst false (.cons (.cst (.str "number")) (.cons (.cst (.str "text")) .nil))) (.call "_law_take" (.cons (.var 2) (.cons (.cst (.int (2))) .nil)))) .nil))) [7]))
  (.one (.set 5 (.lst true .nil))
  (.for (.seq (.var 4)) (.tup (.cons (.name 7) (.cons (.name 8) .nil)))
  (.one (.drop (.mth .append (.var 5) (.cons (.ite (.val (.cmp .eq (.var 8) (.cst (.str "text")))) (.idx (.lst false (.cons (.cst (.str "tea")) (.cons (.cst (.str "")) (.cons (.cst (.str "a 1")) .nil)))) (.call "_law_take" (.cons (.var 2) (.cons (.cst (.int (3))) .nil)))) (.bin .sub (.call "_law_take" (.cons (.var 2) (.cons (.cst (.int (99))) .nil))) (.cst (.int (50))))) .nil)))
  .nil)
  (.for (.rng1 (.cst (.int (8)))) (.name 6)
  (.one (.set 9 (.call "_law_bent" (.cons (.var 2) (.cons (.var 4) .nil))))
  (.one (.set 10 (.blt .repr (.cons (.var 9) .nil)))
  (.ife (.or (.not (.val (.call "_law_right" (.cons (.sl (.var 4) .non (.som (.cst (.int (10))))) (.cons (.var 9) .nil))))) (.not (.val (.call "_law_right" (.cons (.sl (.var 4) .non (.som (.cst (.int (10))))) (.cons (.blt .tuple (.cons (.call "_law_bent" (.cons (.var 2) (.cons (.sl (.var 5) .non (.som (.cst (.int (10))))) .nil))) .nil)) .nil))))))
  (.one (.ret (.cst (.bl false)))
  .nil)
  .nil
  (.one (.set 11 (.blt .tuple (.cons (.call "_law_bent" (.cons (.var 2) (.cons (.lst false (.cons (.cst (.str "name")) (.cons (.cst (.str "text")) .nil))) .nil))) .nil)))
  (.ife (.or (.not (.val (.call "_law_right" (.cons (.sl (.var 4) .non (.som (.cst (.int (10))))) (.cons (.bin .add (.lst false (.cons (.var 11) .nil)) (.sl (.var 4) (.som (.cst (.int (1)))) .non)) .nil))))) (.val (.cmp .ne (.blt .repr (.cons (.var 9) .nil)) (.var 10))))
  (.one (.ret (.cst (.bl false)))
  .nil)
  .nil
  (.ife (.not (.val (.call "_law_right" (.cons (.sl (.var 4) .non (.som (.cst (.int (10))))) (.cons (.call "_law_odd" (.cons (.var 2) .nil)) .nil)))))
  (.one (.ret (.cst (.bl false)))
  .nil)
  .nil
  .nil))))))
  .nil))))))
  (.one (.ret (.cmp .eq (.lc false (.seq (.call "_law_words" .nil)) (.name 13) (.val (.cmp .isnot (.call "is_name" (.cons (.var 13) .nil)) (.cst (.bl false)))) (.var 13) [13]) (.lst false .nil)))
  .nil))
def d_law : Df := ⟨"law", ["_law_script", "_law_k", "_law_pool_here", "_law_names", "_law_columns", "_law_row", "_law_turn", "_law_name", "_law_kind_here", "_law_bent_here", "_law_kept", "_law_pair", "_law_letter", "_law_word"], ["_law_script"], defArgs (topS 26), defBody (topS 26), defScope (topS 26), ⟨["_law_row"], false⟩, b_law, none⟩
def tb : List Df := [d_is_integer, d_is_text, d_is_name, d_is_value, d_is_day, d_is_columns, d_is_column, d_is_row, d_law_pool, d_law_take, d_law_words, d_law_is_name, d_law_kind, d_law_is_column, d_law_is_columns, d_law_is_row, d_law_odd, d_law_bent, d_law_right, d_law]
theorem ok_is_integer : d_is_integer.Ok gs := ⟨⟨rfl, rfl, rfl, by decide +kernel, rfl, by decide +kernel, by decide +kernel⟩, by kernel_rfl, fun _ _ _ _ _ _ us hl => match us, hl with | [_], _ => rfl⟩
theorem ok_is_text : d_is_text.Ok gs := ⟨⟨rfl, rfl, rfl, by decide +kernel, rfl, by decide +kernel, by decide +kernel⟩, by kernel_rfl, fun _ _ _ _ _ _ us hl => match us, hl with | [_], _ => rfl⟩
theorem ok_is_name : d_is_name.Ok gs := ⟨⟨rfl, rfl, rfl, by decide +kernel, rfl, by decide +kernel, by decide +kernel⟩, by kernel_rfl, fun _ _ _ _ _ _ us hl => match us, hl with | [_], _ => rfl⟩
theorem ok_is_value : d_is_value.Ok gs := ⟨⟨rfl, rfl, rfl, by decide +kernel, rfl, by decide +kernel, by decide +kernel⟩, by kernel_rfl, fun _ _ _ _ _ _ us hl => match us, hl with | [_], _ => rfl⟩
theorem ok_is_day : d_is_day.Ok gs := ⟨⟨rfl, rfl, rfl, by decide +kernel, rfl, by decide +kernel, by decide +kernel⟩, by kernel_rfl, fun _ _ _ _ _ _ us hl => match us, hl with | [_], _ => rfl⟩
theorem ok_is_columns : d_is_columns.Ok gs := ⟨⟨rfl, rfl, rfl, by decide +kernel, rfl, by decide +kernel, by decide +kernel⟩, by kernel_rfl, fun _ _ _ _ _ _ us hl => match us, hl with | [_], _ => rfl⟩
theorem ok_is_column : d_is_column.Ok gs := ⟨⟨rfl, rfl, rfl, by decide +kernel, rfl, by decide +kernel, by decide +kernel⟩, by kernel_rfl, fun _ _ _ _ _ _ us hl => match us, hl with | [_], _ => rfl⟩
theorem ok_is_row : d_is_row.Ok gs := ⟨⟨rfl, rfl, rfl, by decide +kernel, rfl, by decide +kernel, by decide +kernel⟩, by kernel_rfl, fun _ _ _ _ _ _ us hl => match us, hl with | [_, _], _ => rfl⟩
theorem ok_law_pool : d_law_pool.Ok gs := ⟨⟨rfl, rfl, rfl, by decide +kernel, rfl, by decide +kernel, by decide +kernel⟩, by kernel_rfl, fun _ _ _ _ _ _ us hl => match us, hl with | [_, _], _ => rfl⟩
theorem ok_law_take : d_law_take.Ok gs := ⟨⟨rfl, rfl, rfl, by decide +kernel, rfl, by decide +kernel, by decide +kernel⟩, by kernel_rfl, fun _ _ _ _ _ _ us hl => match us, hl with | [_, _], _ => rfl⟩
theorem ok_law_words : d_law_words.Ok gs := ⟨⟨rfl, rfl, rfl, by decide +kernel, rfl, by decide +kernel, by decide +kernel⟩, by kernel_rfl, fun _ _ _ _ _ _ us hl => match us, hl with | [], _ => rfl⟩
theorem ok_law_is_name : d_law_is_name.Ok gs := ⟨⟨rfl, rfl, rfl, by decide +kernel, rfl, by decide +kernel, by decide +kernel⟩, by kernel_rfl, fun _ _ _ _ _ _ us hl => match us, hl with | [_], _ => rfl⟩
theorem ok_law_kind : d_law_kind.Ok gs := ⟨⟨rfl, rfl, rfl, by decide +kernel, rfl, by decide +kernel, by decide +kernel⟩, by kernel_rfl, fun _ _ _ _ _ _ us hl => match us, hl with | [_], _ => rfl⟩
theorem ok_law_is_column : d_law_is_column.Ok gs := ⟨⟨rfl, rfl, rfl, by decide +kernel, rfl, by decide +kernel, by decide +kernel⟩, by kernel_rfl, fun _ _ _ _ _ _ us hl => match us, hl with | [_], _ => rfl⟩
theorem ok_law_is_columns : d_law_is_columns.Ok gs := ⟨⟨rfl, rfl, rfl, by decide +kernel, rfl, by decide +kernel, by decide +kernel⟩, by kernel_rfl, fun _ _ _ _ _ _ us hl => match us, hl with | [_], _ => rfl⟩
theorem ok_law_is_row : d_law_is_row.Ok gs := ⟨⟨rfl, rfl, rfl, by decide +kernel, rfl, by decide +kernel, by decide +kernel⟩, by kernel_rfl, fun _ _ _ _ _ _ us hl => match us, hl with | [_, _], _ => rfl⟩
theorem ok_law_odd : d_law_odd.Ok gs := ⟨⟨rfl, rfl, rfl, by decide +kernel, rfl, by decide +kernel, by decide +kernel⟩, by kernel_rfl, fun _ _ _ _ _ _ us hl => match us, hl with | [_], _ => rfl⟩
theorem ok_law_bent : d_law_bent.Ok gs := ⟨⟨rfl, rfl, rfl, by decide +kernel, rfl, by decide +kernel, by decide +kernel⟩, by kernel_rfl, fun _ _ _ _ _ _ us hl => match us, hl with | [_, _], _ => rfl⟩
theorem ok_law_right : d_law_right.Ok gs := ⟨⟨rfl, rfl, rfl, by decide +kernel, rfl, by decide +kernel, by decide +kernel⟩, by kernel_rfl, fun _ _ _ _ _ _ us hl => match us, hl with | [_, _], _ => rfl⟩
theorem ok_law : d_law.Ok gs := ⟨⟨rfl, rfl, rfl, by decide +kernel, rfl, by decide +kernel, by decide +kernel⟩, by kernel_rfl, fun _ _ _ _ _ _ us hl => match us, hl with | [_], _ => rfl⟩
theorem oks : ∀ d ∈ tb, d.Ok gs :=
  List.forall_mem_cons.mpr ⟨ok_is_integer,
  List.forall_mem_cons.mpr ⟨ok_is_text,
  List.forall_mem_cons.mpr ⟨ok_is_name,
  List.forall_mem_cons.mpr ⟨ok_is_value,
  List.forall_mem_cons.mpr ⟨ok_is_day,
  List.forall_mem_cons.mpr ⟨ok_is_columns,
  List.forall_mem_cons.mpr ⟨ok_is_column,
  List.forall_mem_cons.mpr ⟨ok_is_row,
  List.forall_mem_cons.mpr ⟨ok_law_pool,
  List.forall_mem_cons.mpr ⟨ok_law_take,
  List.forall_mem_cons.mpr ⟨ok_law_words,
  List.forall_mem_cons.mpr ⟨ok_law_is_name,
  List.forall_mem_cons.mpr ⟨ok_law_kind,
  List.forall_mem_cons.mpr ⟨ok_law_is_column,
  List.forall_mem_cons.mpr ⟨ok_law_is_columns,
  List.forall_mem_cons.mpr ⟨ok_law_is_row,
  List.forall_mem_cons.mpr ⟨ok_law_odd,
  List.forall_mem_cons.mpr ⟨ok_law_bent,
  List.forall_mem_cons.mpr ⟨ok_law_right,
  List.forall_mem_cons.mpr ⟨ok_law,
  fun _ h => nomatch h⟩⟩⟩⟩⟩⟩⟩⟩⟩⟩⟩⟩⟩⟩⟩⟩⟩⟩⟩⟩
def ets : List Ecd := []
theorem eoks : ∀ e ∈ ets, e.Ok := fun _ h => nomatch h
def ex : Hx := ⟨gs.csts, ets, [], gs.isa, gs.exm, gs.tabs, gs.cls⟩
end K10
end
section
set_option Elab.async false
set_option linter.all false
set_option maxRecDepth 100000
set_option maxHeartbeats 4000000
/-! running the machine's texts by simp -/
namespace Vm
open PySem PySem.Spec PyProof.Rows L2

section
variable {Γ : Gm} {ρ : Ro} {ω : Om}
@[simp] theorem ev_var (i : Nat) : (E.var i).ev Γ ρ ω = (match ρ[i]? with
  | some (some sv) => .ok sv ω
  | _ => .no) := rfl
@[simp] theorem ev_cst (d : Dt) : (E.cst d).ev Γ ρ ω = .ok (.dat d) ω := rfl
@[simp] theorem ev_neg (a : E) : (E.neg a).ev Γ ρ ω = (a.ev Γ ρ ω).bind fun x ω1 => negS x ω1 := rfl
@[simp] theorem ev_bin (o : O2) (a b : E) : (E.bin o a b).ev Γ ρ ω = (a.ev Γ ρ ω).bind fun x ω1 => (b.ev Γ ρ ω1).bind fun y ω2 => o.g x y ω2 := rfl
@[simp] theorem ev_cmp (o : C2) (a b : E) : (E.cmp o a b).ev Γ ρ ω = (a.ev Γ ρ ω).bind fun x ω1 => (b.ev Γ ρ ω1).bind fun y ω2 => o.g x y ω2 := rfl
@[simp] theorem ev_chn (o p : C2) (a b c : E) : (E.chn o p a b c).ev Γ ρ ω = (a.ev Γ ρ ω).bind fun x ω1 => (b.ev Γ ρ ω1).bind fun y ω2 => (o.g x y ω2).bind fun z ω3 => match z with
  | .dat (.bl true) => (c.ev Γ ρ ω3).bind fun u ω4 => p.g y u ω4
  | .dat (.bl false) => .ok (.dat (.bl false)) ω3
  | _ => .no := rfl
@[simp] theorem ev_and (a b : E) : (E.and a b).ev Γ ρ ω = (a.ev Γ ρ ω).bind fun x ω1 => match ω1.tru x with
  | some true => b.ev Γ ρ ω1
  | some false => .ok x ω1
  | none => .no := rfl
@[simp] theorem ev_or (a b : E) : (E.or a b).ev Γ ρ ω = (a.ev Γ ρ ω).bind fun x ω1 => match ω1.tru x with
  | some true => .ok x ω1
  | some false => b.ev Γ ρ ω1
  | none => .no := rfl
@[simp] theorem ev_not (a : E) : (E.not a).ev Γ ρ ω = (a.ev Γ ρ ω).bind fun x ω1 => match ω1.tru x with
  | some k => .ok (.dat (.bl (!k))) ω1
  | none => .no := rfl
@[simp] theorem ev_ite (t : T) (a b : E) : (E.ite t a b).ev Γ ρ ω = (t.ev Γ ρ ω).bind fun c ω1 => if c = true then a.ev Γ ρ ω1 else b.ev Γ ρ ω1 := rfl
@[simp] theorem ev_idx (a b : E) : (E.idx a b).ev Γ ρ ω = (a.ev Γ ρ ω).bind fun x ω1 => (b.ev Γ ρ ω1).bind fun y ω2 => idxS x y ω2 := rfl
@[simp] theorem ev_sl (a : E) (lo hi : Oe) : (E.sl a lo hi).ev Γ ρ ω = (a.ev Γ ρ ω).bind fun x ω1 => (lo.ev Γ ρ ω1).bind fun l ω2 => (hi.ev Γ ρ ω2).bind fun h ω3 => slS x l h ω3 := rfl
@[simp] theorem ev_tup (es : Es) : (E.tup es).ev Γ ρ ω = (es.ev Γ ρ ω).bind fun as ω1 => match ω1.fzAll as with
  | some (ds, ω2) => if ds.length ≤ sizeLine then .ok (.dat (.tup ds)) ω2 else .no
  | none => .no := rfl
def lstR (as : List Sv) (ω1 : Om) : R (List Dt) := match ω1.fzAll as with
  | some (ds, ω2) => if ds.length ≤ sizeLine then .ok ds ω2 else .no
  | none => .no
@[simp] theorem ev_lstD (es : Es) : (E.lst false es).ev Γ ρ ω = ((es.ev Γ ρ ω).bind lstR).bind fun ds ω1 => .ok (.dat (.lst ds)) ω1 := rfl
@[simp] theorem ev_lstO (es : Es) : (E.lst true es).ev Γ ρ ω = ((es.ev Γ ρ ω).bind lstR).bind fun ds ω1 => .ok (.own ω1.length) (ω1 ++ [.lst ds]) := rfl
@[simp] theorem ev_dic : E.dic.ev Γ ρ ω = .ok (.dat (.dic [])) ω := rfl
@[simp] theorem ev_call (f : Str) (es : Es) : (E.call f es).ev Γ ρ ω = (es.ev Γ ρ ω).bind (Γ.call f) := rfl
@[simp] theorem ev_blt (b : Bf) (es : Es) : (E.blt b es).ev Γ ρ ω = (es.ev Γ ρ ω).bind fun as ω1 => b.g as ω1 := rfl
@[simp] theorem ev_mth (m : Mf) (a : E) (es : Es) : (E.mth m a es).ev Γ ρ ω = (a.ev Γ ρ ω).bind fun x ω1 => if m.t x ω1 = true then (es.ev Γ ρ ω1).bind fun as ω2 => m.g x as ω2 else .no := rfl
@[simp] theorem ev_lcD (it : It') (tg : Tg) (t : T) (e : E) (vs : List Nat) : (E.lc false it tg t e vs).ev Γ ρ ω = ((it.ev Γ ρ ω).bind fun ds ω1 => lcGo tg.b (t.ev Γ) (e.ev Γ) (wipeR ρ vs) ds ω1 []).bind fun ds ω1 => .ok (.dat (.lst ds)) ω1 := rfl
@[simp] theorem ev_lcO (it : It') (tg : Tg) (t : T) (e : E) (vs : List Nat) : (E.lc true it tg t e vs).ev Γ ρ ω = ((it.ev Γ ρ ω).bind fun ds ω1 => lcGo tg.b (t.ev Γ) (e.ev Γ) (wipeR ρ vs) ds ω1 []).bind fun ds ω1 => .ok (.own ω1.length) (ω1 ++ [.lst ds]) := rfl
@[simp] theorem ev_lenSc (it : It') (tg : Tg) (t : T) (e : E) (vs : List Nat) : (E.lenSc it tg t e vs).ev Γ ρ ω = (it.ev Γ ρ ω).bind fun ds ω1 => (scGo tg.b (t.ev Γ) (e.ev Γ) (wipeR ρ vs) ds ω1 []).bind fun ks ω2 => if ks.length < 2 ^ 63 then .ok (.dat (.int (ks.length : Nat))) ω2 else .no := rfl
@[simp] theorem ev_lenSet (a : E) : (E.lenSet a).ev Γ ρ ω = fLenSet (a.ev Γ) ρ ω := rfl
@[simp] theorem ev_xf (x : Xf) (es : Es) : (E.xf x es).ev Γ ρ ω = (es.ev Γ ρ ω).bind fun as ω1 => x.g Γ.lvl as ω1 := rfl
@[simp] theorem x_fld (n : Nat) (cs is : List Str) (f : Str) : (Xf.fld cs is f).g n = fldS2 cs is f := rfl
@[simp] theorem x_isx (n : Nat) (t : Isa) : (Xf.isx t).g n = isxS t := rfl
@[simp] theorem x_tin (n : Nat) (neg : Bool) (ks : List Str) : (Xf.tin neg ks).g n = tinS neg ks := rfl
@[simp] theorem evs_nil : Es.nil.ev Γ ρ ω = .ok [] ω := rfl
@[simp] theorem evs_cons (e : E) (es : Es) : (Es.cons e es).ev Γ ρ ω = (e.ev Γ ρ ω).bind fun a ω1 => (es.ev Γ ρ ω1).bind fun r ω2 => .ok (a :: r) ω2 := rfl
@[simp] theorem evo_non : Oe.non.ev Γ ρ ω = .ok none ω := rfl
@[simp] theorem evo_som (e : E) : (Oe.som e).ev Γ ρ ω = (e.ev Γ ρ ω).bind fun a ω1 => match ω1.toD a with
  | some (.int i) => .ok (some i) ω1
  | _ => .no := rfl
@[simp] theorem evt_yes : T.yes.ev Γ ρ ω = .ok true ω := rfl
@[simp] theorem evt_val (e : E) : (T.val e).ev Γ ρ ω = (e.ev Γ ρ ω).bind fun a ω1 => R.of (ω1.tru a) ω1 := rfl
@[simp] theorem evt_and (t u : T) : (T.and t u).ev Γ ρ ω = (t.ev Γ ρ ω).bind fun c ω1 => if c = true then u.ev Γ ρ ω1 else .ok false ω1 := rfl
@[simp] theorem evt_or (t u : T) : (T.or t u).ev Γ ρ ω = (t.ev Γ ρ ω).bind fun c ω1 => if c = true then .ok true ω1 else u.ev Γ ρ ω1 := rfl
@[simp] theorem evt_not (t : T) : (T.not t).ev Γ ρ ω = (t.ev Γ ρ ω).bind fun c ω1 => .ok (!c) ω1 := rfl
@[simp] theorem evi_seq (e : E) : (It'.seq e).ev Γ ρ ω = (e.ev Γ ρ ω).bind fun a ω1 => match ω1.fz a with
  | some (d, ω2) => R.of d.items ω2
  | none => .no := rfl
@[simp] theorem evi_rng1 (e : E) : (It'.rng1 e).ev Γ ρ ω = (e.ev Γ ρ ω).bind fun a ω1 => match ω1.toD a with
  | some (.int i) => if i < 2 ^ 62 ∧ -(2 ^ 62) ≤ i then .ok (rangeD 0 i.toNat) ω1 else .no
  | _ => .no := rfl
@[simp] theorem evi_zip (a b : E) : (It'.zip a b).ev Γ ρ ω = (a.ev Γ ρ ω).bind fun a ω1 => (b.ev Γ ρ ω1).bind fun b ω2 => match ω2.fz a with
  | some (d, ω3) => match ω3.fz b with
    | some (e, ω4) => match d.items, e.items with
      | some ds, some es => .ok (pairs ds es) ω4
      | _, _ => .no
    | none => .no
  | none => .no := rfl
@[simp] theorem evS_drop (e : E) : (S.drop e).ev Γ ρ ω = (e.ev Γ ρ ω).toS ρ fun _ ω1 => .nx ρ ω1 := rfl
@[simp] theorem evS_ret (e : E) : (S.ret e).ev Γ ρ ω = (e.ev Γ ρ ω).toS ρ fun a ω1 => .rt a ω1 := rfl
@[simp] theorem evS_set (i : Nat) (e : E) : (S.set i e).ev Γ ρ ω = (e.ev Γ ρ ω).toS ρ fun a ω1 => .nx (ρ.set i (some a)) ω1 := rfl
@[simp] theorem evS_par (i j : Nat) (a b : E) : (S.par i j a b).ev Γ ρ ω = ((a.ev Γ ρ ω).bind fun x ω1 => (b.ev Γ ρ ω1).bind fun y ω2 => .ok [x, y] ω2).toS ρ fun as ω1 => match as with
  | [a, b] => .nx ((ρ.set i (some a)).set j (some b)) ω1
  | _ => .no := by
  show sPar i j (fCons (a.ev Γ) (fCons (b.ev Γ) fNil)) ρ ω = _
  unfold sPar fCons fNil
  cases a.ev Γ ρ ω with
  | ok x ω1 =>
    simp only [R.bind_ok]
    cases b.ev Γ ρ ω1 <;> rfl
  | _ => rfl
@[simp] theorem evS_setL (e o i : E) : (S.setL e o i).ev Γ ρ ω = sSetL (e.ev Γ) (o.ev Γ) (i.ev Γ) ρ ω := rfl
@[simp] theorem evs'_nil : Ss.nil.ev Γ ρ ω = .nx ρ ω := rfl
@[simp] theorem evs'_one (s : S) (r : Ss) : (Ss.one s r).ev Γ ρ ω = (s.ev Γ ρ ω).then (r.ev Γ) := rfl
@[simp] theorem evs'_ife (t : T) (a b r : Ss) : (Ss.ife t a b r).ev Γ ρ ω = ((t.ev Γ ρ ω).toS ρ fun c ω1 => if c = true then a.ev Γ ρ ω1 else b.ev Γ ρ ω1).then (r.ev Γ) := rfl
@[simp] theorem evs'_for (it : It') (tg : Tg) (b r : Ss) : (Ss.for it tg b r).ev Γ ρ ω = ((it.ev Γ ρ ω).toS ρ fun ds ω1 => forGo tg.b (b.ev Γ) ds ρ ω1).then (r.ev Γ) := rfl
/-! the operations at data -/
@[simp] theorem g_add : O2.add.g = addS := rfl
@[simp] theorem g_sub : O2.sub.g = subS := rfl
@[simp] theorem g_mul : O2.mul.g = mulS := rfl
@[simp] theorem g_fdiv : O2.fdiv.g = fdivS := rfl
@[simp] theorem g_mod : O2.mod.g = modS := rfl
@[simp] theorem g_pow : O2.pow.g = powS := rfl
@[simp] theorem g_lt : C2.lt.g = ordS .lt := rfl
@[simp] theorem g_le : C2.le.g = ordS .le := rfl
@[simp] theorem g_gt : C2.gt.g = ordS .gt := rfl
@[simp] theorem g_ge : C2.ge.g = ordS .ge := rfl
@[simp] theorem g_eq : C2.eq.g = eqS false := rfl
@[simp] theorem g_ne : C2.ne.g = eqS true := rfl
@[simp] theorem g_is : C2.is.g = isS false := rfl
@[simp] theorem g_isnot : C2.isnot.g = isS true := rfl
@[simp] theorem g_in : C2.inn.g = inS false := rfl
@[simp] theorem g_notin : C2.notin.g = inS true := rfl
@[simp] theorem g_len : Bf.len.g = lenS := rfl
@[simp] theorem g_abs : Bf.abs.g = absS := rfl
@[simp] theorem g_max2 : Bf.max2.g = mx2S := rfl
@[simp] theorem g_min2 : Bf.min2.g = mn2S := rfl
@[simp] theorem g_int : Bf.int.g = intS := rfl
@[simp] theorem g_tuple : Bf.tuple.g = tupOfS := rfl
@[simp] theorem g_list : Bf.list.g = lstOfS := rfl
@[simp] theorem g_all : Bf.all.g = allS := rfl
@[simp] theorem g_str : Bf.str.g = strIS := rfl
@[simp] theorem g_isi : Bf.isi.g = isiS := rfl
@[simp] theorem g_repr : Bf.repr.g = reprS := rfl
@[simp] theorem m_append : Mf.append.g = appendM := rfl
@[simp] theorem m_strip : Mf.strip.g = stripM := rfl
@[simp] theorem m_split : Mf.split.g = splitM := rfl
@[simp] theorem mt_appendT : Mf.append.t = isLstT := rfl
@[simp] theorem mt_stripT : Mf.strip.t = isStrT := rfl
@[simp] theorem mt_splitT : Mf.split.t = isStrT := rfl
@[simp] theorem tg_name (i : Nat) : (Tg.name i).b = bName i := rfl
@[simp] theorem tg_tup (ts : Tgs) : (Tg.tup ts).b = bTup ts.len ts.bs := rfl
@[simp] theorem tgs_nil : Tgs.nil.bs = bNil := rfl
@[simp] theorem tgs_cons (t : Tg) (ts : Tgs) : (Tgs.cons t ts).bs = bCons t.b ts.bs := rfl
@[simp] theorem tgs_len0 : Tgs.nil.len = 0 := rfl
@[simp] theorem tgs_len1 (t : Tg) (ts : Tgs) : (Tgs.cons t ts).len = ts.len + 1 := rfl
@[simp] theorem toD_dat (d : Dt) : ω.toD (.dat d) = some d := rfl
@[simp] theorem fz_dat (d : Dt) : ω.fz (.dat d) = some (d, ω) := rfl
@[simp] theorem fzAll_nil : ω.fzAll [] = some ([], ω) := rfl
@[simp] theorem fzAll_dat (d : Dt) (as : List Sv) : ω.fzAll (.dat d :: as) = (ω.fzAll as).map fun p => (d :: p.1, p.2) := by
  show (match ω.fz (.dat d) with
    | some (d, ω1) => match ω1.fzAll as with
      | some (ds, ω2) => some (d :: ds, ω2)
      | none => none
    | none => none) = _
  rw [fz_dat]
  dsimp only
  cases e : ω.fzAll as <;> simp [e]
@[simp] theorem lst_dat (ds : List Dt) : ω.lst (.dat (.lst ds)) = some ds := rfl
@[simp] theorem seq_lst (ds : List Dt) : ω.seq (.dat (.lst ds)) = some (.l ds) := rfl
@[simp] theorem seq_rol (ds : List Dt) : ω.seq (.dat (.rol ds)) = some (.l ds) := rfl
@[simp] theorem seq_tup (ds : List Dt) : ω.seq (.dat (.tup ds)) = some (.t ds) := rfl
@[simp] theorem seq_int (i : Int) : ω.seq (.dat (.int i)) = none := rfl
@[simp] theorem seq_str (x : Str) : ω.seq (.dat (.str x)) = none := rfl
@[simp] theorem seq_non : ω.seq (.dat .non) = none := rfl
@[simp] theorem seq_bl (b : Bool) : ω.seq (.dat (.bl b)) = none := rfl
@[simp] theorem seq_dic (k : List (Key × Dt)) : ω.seq (.dat (.dic k)) = none := rfl
@[simp] theorem add_int (i j : Int) : addS (.dat (.int i)) (.dat (.int j)) ω = .ok (.dat (.int (i + j))) ω := rfl
@[simp] theorem add_lst (a b : List Dt) : addS (.dat (.lst a)) (.dat (.lst b)) ω = if a.length + b.length ≤ sizeLine then .ok (.dat (.lst (a ++ b))) ω else .no := rfl
@[simp] theorem add_str (a b : Str) : addS (.dat (.str a)) (.dat (.str b)) ω = if a.length + b.length ≤ sizeLine then .ok (.dat (.str (a ++ b))) ω else .no := rfl
@[simp] theorem sub_int (i j : Int) : subS (.dat (.int i)) (.dat (.int j)) ω = .ok (.dat (.int (i - j))) ω := rfl
@[simp] theorem mul_int (i j : Int) : mulS (.dat (.int i)) (.dat (.int j)) ω = if cmul i j then .ok (.dat (.int (i * j))) ω else .no := rfl
@[simp] theorem fdiv_int (i j : Int) : fdivS (.dat (.int i)) (.dat (.int j)) ω = if decide (0 < j) && decide (j < 1073741824) then .ok (.dat (.int (i / j))) ω else .no := rfl
@[simp] theorem mod_int (i j : Int) : modS (.dat (.int i)) (.dat (.int j)) ω = if 0 < j then .ok (.dat (.int (i % j))) ω else .no := rfl
@[simp] theorem pow_int (i j : Int) : powS (.dat (.int i)) (.dat (.int j)) ω = if decide (0 ≤ j) && decide (j ≤ 1000000) && decide (i.natAbs < 2 ^ 64) then .ok (.dat (.int (i ^ j.toNat))) ω else .no := rfl
@[simp] theorem neg_int (i : Int) : negS (.dat (.int i)) ω = .ok (.dat (.int (-i))) ω := rfl
@[simp] theorem ord_int (o : Ord4) (i j : Int) : ordS o (.dat (.int i)) (.dat (.int j)) ω = .ok (.dat (.bl (o.i i j))) ω := rfl
@[simp] theorem ord_str (o : Ord4) (i j : Str) : ordS o (.dat (.str i)) (.dat (.str j)) ω = .ok (.dat (.bl (o.s i j))) ω := rfl
@[simp] theorem tru_bl (b : Bool) : ω.tru (.dat (.bl b)) = some b := rfl
@[simp] theorem of_some {α : Type} (a : α) : R.of (some a) ω = .ok a ω := rfl
@[simp] theorem is_bl (neg : Bool) (d : Dt) (b : Bool) : isS neg (.dat d) (.dat (.bl b)) ω = .ok (.dat (.bl (if neg then !d.isBl b else d.isBl b))) ω := rfl
@[simp] theorem len_lst (ds : List Dt) : lenS [.dat (.lst ds)] ω = .ok (.dat (.int ds.length)) ω := rfl
@[simp] theorem len_rol (ds : List Dt) : lenS [.dat (.rol ds)] ω = .ok (.dat (.int ds.length)) ω := rfl
@[simp] theorem len_tup (ds : List Dt) : lenS [.dat (.tup ds)] ω = .ok (.dat (.int ds.length)) ω := rfl
@[simp] theorem len_str (x : Str) : lenS [.dat (.str x)] ω = if x.length ≤ sizeLine then .ok (.dat (.int x.length)) ω else .no := rfl
@[simp] theorem abs_int (i : Int) : absS [.dat (.int i)] ω = .ok (.dat (.int (if i < 0 then -i else i))) ω := rfl
@[simp] theorem mx_int (i j : Int) : mx2S [.dat (.int i), .dat (.int j)] ω = .ok (.dat (.int (if j > i then j else i))) ω := rfl
@[simp] theorem mn_int (i j : Int) : mn2S [.dat (.int i), .dat (.int j)] ω = .ok (.dat (.int (if j < i then j else i))) ω := rfl
@[simp] theorem int_bl (b : Bool) : intS [.dat (.bl b)] ω = .ok (.dat (.int (if b then 1 else 0))) ω := rfl
@[simp] theorem tup_lst (ds : List Dt) : tupOfS [.dat (.lst ds)] ω = .ok (.dat (.tup ds)) ω := rfl
@[simp] theorem idx_lst (ds : List Dt) (i : Int) : idxS (.dat (.lst ds)) (.dat (.int i)) ω = R.of ((L2.atI ds i).map Sv.dat) ω := rfl
@[simp] theorem idx_rol (ds : List Dt) (i : Int) : idxS (.dat (.rol ds)) (.dat (.int i)) ω = R.of ((L2.atI ds i).map Sv.dat) ω := rfl
@[simp] theorem idx_tup (ds : List Dt) (i : Int) : idxS (.dat (.tup ds)) (.dat (.int i)) ω = R.of ((L2.atI ds i).map Sv.dat) ω := rfl
theorem idx_own {j : Nat} {ds : List Dt} (h : ω[j]? = some (.lst ds)) (i : Int) : idxS (.own j) (.dat (.int i)) ω = R.of ((L2.atI ds i).map Sv.dat) ω := by
  simp [idxS, Om.seq, h]
@[simp] theorem sl_lst (ds : List Dt) (lo hi : Option Int) : slS (.dat (.lst ds)) lo hi ω = .ok (.dat (.lst (cutD ds lo hi))) ω := rfl
theorem sl_own {j : Nat} {ds : List Dt} (h : ω[j]? = some (.lst ds)) (lo hi : Option Int) : slS (.own j) lo hi ω = .ok (.dat (.lst (cutD ds lo hi))) ω := by
  simp [slS, Om.seq, h]
end
/-- a def's body from its arguments -/
theorem fnR_of {N : List Str} {n : Nat} {b : Ro → Om → RS} {as : List Sv} {ω : Om} (h : as.length = n) : fnR N n b as ω = (b (startR N as) ω).val := by
  unfold fnR
  rw [if_pos h]
@[simp] theorem val_rt (a : Sv) (ω : Om) : (RS.rt a ω).val = .ok a ω := rfl
@[simp] theorem val_nx (ρ : Ro) (ω : Om) : (RS.nx ρ ω).val = .ok (.dat .non) ω := rfl

theorem cmul_r {i j : Int} (h1 : -(2 ^ 64) < j) (h2 : j < 2 ^ 64) : cmul i j = true := by
  unfold cmul
  rw [decide_eq_true h1, decide_eq_true h2]
  simp
theorem cmul_l {i j : Int} (h1 : -(2 ^ 64) < i) (h2 : i < 2 ^ 64) : cmul i j = true := by
  unfold cmul
  rw [decide_eq_true h1, decide_eq_true h2]
  simp
/-! ### a pool: a list of the store of two whole numbers -/
def PoolAt (ω : Om) (j : Nat) : Prop := ∃ s d : Int, 0 ≤ s ∧ 0 ≤ d ∧ d < 2147483647 ∧ ω[j]? = some (.lst [.int s, .int d])
/-- only the pool j has changed -/
def Pl (j : Nat) (ω ω' : Om) : Prop := PoolAt ω' j ∧ ω'.length = ω.length ∧ ∀ i, i ≠ j → ω'[i]? = ω[i]?
theorem Pl.refl {ω : Om} {j : Nat} (h : PoolAt ω j) : Pl j ω ω := ⟨h, rfl, fun _ _ => rfl⟩
theorem Pl.trans {ω ω1 ω2 : Om} {j : Nat} (a : Pl j ω ω1) (b : Pl j ω1 ω2) : Pl j ω ω2 := ⟨b.1, b.2.1.trans a.2.1, fun i hi => (b.2.2 i hi).trans (a.2.2 i hi)⟩
theorem Pl.set {ω : Om} {j : Nat} {o : Ow} (e : ω[j]? = some o) {s d : Int} (h1 : 0 ≤ s) (h2 : 0 ≤ d) (h3 : d < 2147483647) : Pl j ω (ω.set j (.lst [.int s, .int d])) :=
  ⟨⟨s, d, h1, h2, h3, List.getElem?_set_self (List.getElem?_eq_some_iff.mp e).1⟩, by simp, fun i hi => List.getElem?_set_ne (Ne.symm hi)⟩
end Vm
end
section
set_option Elab.async false
set_option linter.all false
set_option maxRecDepth 100000
set_option maxHeartbeats 4000000
namespace K10
open PySem PySem.Spec PyProof.Rows L2 Vm
theorem c_take (k : Nat) : (gam tb (k + 1)).call "_law_take" = fnR d_law_take.N 2 (b_law_take.ev (gam tb k)) := by
  kernel_rfl
theorem take_ok (k : Nat) {ω : Om} {j : Nat} (h : PoolAt ω j) {m : Int} (h0 : 0 < m) (h1 : m < 1000) : ∃ r ω', (gam tb (k + 1)).call "_law_take" [.own j, .dat (.int m)] ω = .ok (.dat (.int r)) ω' ∧ 0 ≤ r ∧ r < m ∧ Pl j ω ω' := by
  obtain ⟨s, d, hs, hd, hd2, e⟩ := h
  rw [c_take, fnR_of (n := 2) rfl]
  simp only [b_law_take, startR, d_law_take, List.map_cons, List.map_nil, List.length_cons, List.length_nil]
  have a0 : ∀ x y : Dt, L2.atI [x, y] 0 = some x := fun _ _ => rfl
  have a1 : ∀ x y : Dt, L2.atI [x, y] 1 = some y := fun _ _ => rfl
  by_cases hp : s > 0
  · have hs2 : ixN 2 0 = some 0 := rfl
    have mb : m < 1073741824 := by omega
    simp [idx_own e, a0, Ord4.i, hp, h0, sSetL, e, hs2, mb, List.set]
    exact ⟨s % m, _, ⟨rfl, rfl⟩, Int.emod_nonneg _ (by omega), Int.emod_lt_of_pos _ h0, Pl.set e (Int.ediv_nonneg hs (by omega)) hd hd2⟩
  · have hs2 : ixN 2 1 = some 1 := rfl
    have c1 : cmul d 48271 = true := cmul_r (by omega) (by omega)
    generalize hz : (d * 48271 + 11) % 2147483647 = z
    have z0 : 0 ≤ z := by omega
    have z1 : z < 2147483647 := by omega
    have c2 : cmul z z = true := cmul_r (by omega) (by omega)
    have hj : j < ω.length := (List.getElem?_eq_some_iff.mp e).1
    have e2 : (ω.set j (.lst [.int s, .int z]))[j]? = some (.lst [.int s, .int z]) := List.getElem?_set_self hj
    simp [idx_own e, a0, a1, Ord4.i, hp, h0, sSetL, e, hs2, c1, hz, List.set, idx_own e2, c2]
    exact ⟨_, _, ⟨rfl, rfl⟩, Int.emod_nonneg _ (by omega), Int.emod_lt_of_pos _ h0, Pl.set e hs z0 z1⟩
end K10
end
section
set_option Elab.async false
set_option linter.all false
set_option maxRecDepth 100000
set_option maxHeartbeats 4000000
/-! texts -/
namespace Vm
open PySem PySem.Spec PyProof.Rows L2 PySem.Builtin PySem.Builtin.Str

theorem strip_empty (x y : Str) : ((Txt.stripChars x y).length = 0) ↔ ∀ c ∈ x.cps.toList, y.cps.contains c = true := by
  unfold Txt.stripChars
  rw [stripBy_eq]
  obtain ⟨l1, l2, l3⟩ := lo_facts y.cps.contains x
  obtain ⟨h1, h2, h3, h4⟩ := hi_facts y.cps.contains x (stripLo y.cps.contains true x) l1
  rw [size_strSub _ _ _ h2]
  have mem : ∀ c ∈ x.cps.toList, ∃ k, k < x.length ∧ c = x.cps.getD k 0 := fun c hc => by
    obtain ⟨k, hk, e⟩ := List.getElem_of_mem hc
    have hk' : k < x.cps.size := by simpa using hk
    refine ⟨k, hk', ?_⟩
    simp [Array.getD, hk']
    simpa using e.symm
  constructor
  · intro e c hc
    obtain ⟨k, hk, rfl⟩ := mem c hc
    by_cases hlt : k < stripLo y.cps.contains true x
    · exact l2 k hlt
    · exact h3 k (by omega) hk
  · intro all
    have allk : ∀ k, k < x.length → y.cps.contains (x.cps.getD k 0) = true := fun k hk => all _ (by
      have hk' : k < x.cps.size := hk
      simp [Array.getD, hk'])
    rcases l3 with e | e
    · omega
    · by_cases hlt : stripLo y.cps.contains true x < x.length
      · rw [allk _ hlt] at e; cases e
      · omega
end Vm
end
section
set_option Elab.async false
set_option linter.all false
set_option maxRecDepth 100000
set_option maxHeartbeats 4000000
/-! comprehensions whose parts change nothing; kinds; equality with [] -/
namespace Vm
open PySem PySem.Spec PyProof.Rows L2
section
variable {ω : Om} {b : Dt → Ro → Option Ro} {ft : Ro → Om → R Bool} {fe : Ro → Om → R Sv} {ρ : Ro}
theorem lcGo_pure (p : Dt → Bool) (g : Dt → Dt) : ∀ (ds acc : List Dt), (∀ d ∈ ds, ∃ ρ2, b d ρ = some ρ2 ∧ ft ρ2 ω = .ok (p d) ω ∧ (p d = true → fe ρ2 ω = .ok (.dat (g d)) ω)) → acc.length + ds.length ≤ sizeLine →
    lcGo b ft fe ρ ds ω acc = .ok (acc ++ (ds.filter p).map g) ω
  | [], acc, _, _ => by simp [lcGo]
  | d :: ds, acc, h, hl => by
    obtain ⟨ρ2, h1, h2, h3⟩ := h d (by simp)
    unfold lcGo
    rw [h1]
    dsimp only
    rw [h2]
    have rest : ∀ e ∈ ds, ∃ ρ2, b e ρ = some ρ2 ∧ ft ρ2 ω = .ok (p e) ω ∧ (p e = true → fe ρ2 ω = .ok (.dat (g e)) ω) := fun e he => h e (by simp [he])
    cases hp : p d with
    | true =>
      dsimp only
      rw [h3 hp]
      dsimp only [fz_dat]
      have hl1 : acc.length < sizeLine := by simp only [List.length_cons] at hl; omega
      rw [if_pos hl1, lcGo_pure p g ds (acc ++ [g d]) rest (by simp only [List.length_append, List.length_cons, List.length_nil] at hl ⊢; omega)]
      simp [hp]
    | false =>
      dsimp only
      rw [lcGo_pure p g ds acc rest (by simp only [List.length_cons] at hl; omega)]
      simp [hp]
theorem lcGo_map (g : Dt → Dt) (ds : List Dt) (h : ∀ d ∈ ds, ∃ ρ2, b d ρ = some ρ2 ∧ ft ρ2 ω = .ok true ω ∧ fe ρ2 ω = .ok (.dat (g d)) ω) (hl : ds.length ≤ sizeLine) : lcGo b ft fe ρ ds ω [] = .ok (ds.map g) ω := by
  rw [lcGo_pure (fun _ => true) g ds [] (fun d hd => by
    obtain ⟨ρ2, h1, h2, h3⟩ := h d hd
    exact ⟨ρ2, h1, h2, fun _ => h3⟩) (by simpa using hl)]
  rw [List.filter_eq_self.mpr fun _ _ => rfl]
  rfl
theorem scGo_pure (g : Dt → Key) : ∀ (ds : List Dt) (acc : List Key), (∀ d ∈ ds, ∃ ρ2 e, b d ρ = some ρ2 ∧ ft ρ2 ω = .ok true ω ∧ fe ρ2 ω = .ok (.dat e) ω ∧ keyD e = some (g d)) → acc.length + ds.length + 1 < scanBound →
    scGo b ft fe ρ ds ω acc = .ok ((ds.map g).foldl once acc) ω
  | [], acc, _, _ => by simp [scGo]
  | d :: ds, acc, h, hl => by
    obtain ⟨ρ2, e, h1, h2, h3, h4⟩ := h d (by simp)
    unfold scGo
    rw [h1]
    dsimp only
    rw [h2]
    dsimp only
    rw [h3]
    dsimp only
    rw [toD_dat, Option.bind_some, h4]
    dsimp only
    have h5 := once_len acc (g d)
    simp only [List.length_cons] at hl
    rw [if_pos (by omega), scGo_pure g ds (once acc (g d)) (fun e he => h e (by simp [he])) (by omega)]
    simp
end
/-! ### kinds -/
def Dt.kind : Dt → Option String
  | .non => some "NoneType"
  | .bl _ => some "bool"
  | .int _ => some "int"
  | .str _ => some "str"
  | .lst _ => some "list"
  | .tup _ => some "tuple"
  | .dic _ => some "dict"
  | _ => none
theorem tyOf_kind {ω : Om} {d : Dt} {T : String} (h : d.kind = some T) : ω.tyOf (.dat d) = some T := by
  cases d <;> cases h <;> rfl
theorem isi_kind {ω : Om} {d : Dt} {S T : String} (h : d.kind = some S) (hT : T ∈ tysB) : isiS [.dat d, .dat (.ty T)] ω = .ok (.dat (.bl (isiB S T))) ω := by
  unfold isiS
  dsimp only
  rw [tyOf_kind h]
  dsimp only
  rw [if_pos hT]
theorem eq_nil {ω : Om} (ds : List Dt) : eqS false (.dat (.lst ds)) (.dat (.lst [])) ω = .ok (.dat (.bl ds.isEmpty)) ω := by
  cases ds with
  | nil => rfl
  | cons d ds => rfl
theorem ne_nil {ω : Om} (ds : List Dt) : eqS true (.dat (.lst ds)) (.dat (.lst [])) ω = .ok (.dat (.bl (!ds.isEmpty))) ω := by
  cases ds with
  | nil => rfl
  | cons d ds => rfl
theorem eq_str {ω : Om} (x y : Str) : eqS false (.dat (.str x)) (.dat (.str y)) ω = .ok (.dat (.bl (decide (x = y)))) ω := rfl
theorem ne_str {ω : Om} (x y : Str) : eqS true (.dat (.str x)) (.dat (.str y)) ω = .ok (.dat (.bl (!decide (x = y)))) ω := rfl
theorem eq_int {ω : Om} (x y : Int) : eqS false (.dat (.int x)) (.dat (.int y)) ω = .ok (.dat (.bl (decide (x = y)))) ω := rfl
theorem ne_int {ω : Om} (x y : Int) : eqS true (.dat (.int x)) (.dat (.int y)) ω = .ok (.dat (.bl (!decide (x = y)))) ω := rfl
theorem eq_non_str {ω : Om} (y : Str) : eqS false (.dat .non) (.dat (.str y)) ω = .ok (.dat (.bl false)) ω := rfl
/-! ### single signs -/
theorem one_lt (c d : Nat) : ([c] < [d]) ↔ c < d := by
  rw [List.cons_lt_cons_iff]
  simp
theorem le_one (c d : Nat) : Ord4.le.s ⟨#[c]⟩ ⟨#[d]⟩ = decide (c ≤ d) := by
  show (!decide ([d] < [c])) = decide (c ≤ d)
  have : ([d] < [c]) ↔ d < c := one_lt d c
  by_cases h : d < c
  · rw [decide_eq_true (this.mpr h)]; simp; omega
  · rw [decide_eq_false (fun z => h (this.mp z))]; simp; omega
end Vm
end
section
set_option Elab.async false
set_option linter.all false
set_option maxRecDepth 100000
set_option maxHeartbeats 4000000
namespace K10
open PySem PySem.Spec PyProof.Rows L2 Vm

def letC (c : Nat) : Bool := decide (97 ≤ c) && decide (c ≤ 122)
def digC (c : Nat) : Bool := decide (48 ≤ c) && decide (c ≤ 57)
def goodC (c : Nat) : Bool := letC c || (digC c || decide (c = 32))
abbrev sL : Str := "abcdefghijklmnopqrstuvwxyz"
abbrev sD : Str := "0123456789"
abbrev sB : Str := " "
theorem cont_L (c : Nat) : sL.cps.contains c = letC c := by
  have e : sL.cps = #[97, 98, 99, 100, 101, 102, 103, 104, 105, 106, 107, 108, 109, 110, 111, 112, 113, 114, 115, 116, 117, 118, 119, 120, 121, 122] := by decide +kernel
  rw [e, Bool.eq_iff_iff]
  simp [letC]
  omega
abbrev sT : Str := "abcdefghijklmnopqrstuvwxyz0123456789 "
theorem cont_T (c : Nat) : sT.cps.contains c = goodC c := by
  have e : sT.cps = #[97, 98, 99, 100, 101, 102, 103, 104, 105, 106, 107, 108, 109, 110, 111, 112, 113, 114, 115, 116, 117, 118, 119, 120, 121, 122, 48, 49, 50, 51, 52, 53, 54, 55, 56, 57, 32] := by decide +kernel
  rw [e, Bool.eq_iff_iff]
  simp [goodC, letC, digC]
  omega
/-- the values that are asked -/
def plainD : Dt → Bool
  | .str s => decide (s.length ≤ 1000)
  | d => d.kind.isSome
def intD : Dt → Bool
  | .int _ => true
  | _ => false
def textD : Dt → Bool
  | .str s => decide (s.length ≤ 20) && s.cps.all goodC
  | _ => false
def wordsD : List Dt := [.str "last", .str "where", .str "with", .str "keep", .str "rename", .str "join", .str "union", .str "minus", .str "group", .str "count", .str "sum", .str "least", .str "greatest", .str "and", .str "or", .str "not", .str "today"]
def nameD : Dt → Bool
  | .str s => decide (1 ≤ s.length) && (decide (s.length ≤ 8) && (s.cps.all letC && !inF (.str s) wordsD))
  | _ => false
theorem plain_kind {v : Dt} (h : plainD v = true) : ∃ T, v.kind = some T := by
  cases v <;> first | exact ⟨_, rfl⟩ | (simp [plainD, Dt.kind] at h)
theorem line_ge {n : Nat} (h : n ≤ 1000) : n ≤ sizeLine := by
  rw [sizeLine_eq]; omega
section
variable {ω : Om}
theorem strip_tru {x y : Str} (h : x.length ≤ 1000) : ω.tru (.dat (.str (Txt.stripChars x y))) = some (!x.cps.toList.all fun c => y.cps.contains c) := by
  have hl : (Txt.stripChars x y).length ≤ sizeLine := Nat.le_trans (len_stripChars x y) (line_ge h)
  show (if (Txt.stripChars x y).length ≤ sizeLine then some (((Txt.stripChars x y).length : Int) != 0) else none) = _
  rw [if_pos hl]
  have key := strip_empty x y
  cases ha : (x.cps.toList.all fun c => y.cps.contains c) with
  | true =>
    rw [key.mpr (List.all_eq_true.mp ha)]
    rfl
  | false =>
    have : (Txt.stripChars x y).length ≠ 0 := fun z => by
      rw [List.all_eq_true.mpr (key.mp z)] at ha
      cases ha
    have h2 : (((Txt.stripChars x y).length : Int) != 0) = true := by
      rw [bne_iff_ne]
      omega
    rw [h2]
    rfl
theorem strip_g {x y : Str} {g : Nat → Bool} (hg : ∀ c, y.cps.contains c = g c) (h : x.length ≤ 1000) : ω.tru (.dat (.str (Txt.stripChars x y))) = some (!x.cps.all g) := by
  rw [strip_tru h, ← Array.all_toList]
  have : (fun c => y.cps.contains c) = g := funext hg
  rw [this]
theorem c_is_integer (k : Nat) : (gam tb (k + 1)).call "is_integer" = fnR d_is_integer.N 1 (b_is_integer.ev (gam tb k)) := by kernel_rfl
theorem e_is_integer (k : Nat) {v : Dt} (h : plainD v = true) : (gam tb (k + 1)).call "is_integer" [.dat v] ω = .ok (.dat (.bl (intD v))) ω := by
  obtain ⟨T, hT⟩ := plain_kind h
  rw [c_is_integer, fnR_of (n := 1) rfl]
  have m1 : "int" ∈ tysB := by decide
  have m2 : "bool" ∈ tysB := by decide
  simp only [b_is_integer, startR, d_is_integer, List.map_cons, List.map_nil, List.length_cons, List.length_nil]
  simp [isi_kind hT m1]
  cases v <;> cases hT <;> first
    | rfl
    | (rename_i b; cases b <;> rfl)
theorem c_is_text (k : Nat) : (gam tb (k + 1)).call "is_text" = fnR d_is_text.N 1 (b_is_text.ev (gam tb k)) := by kernel_rfl
theorem e_is_text (k : Nat) {v : Dt} (h : plainD v = true) : (gam tb (k + 1)).call "is_text" [.dat v] ω = .ok (.dat (.bl (textD v))) ω := by
  obtain ⟨T, hT⟩ := plain_kind h
  rw [c_is_text, fnR_of (n := 1) rfl]
  have m1 : "str" ∈ tysB := by decide
  simp only [b_is_text, startR, d_is_text, List.map_cons, List.map_nil, List.length_cons, List.length_nil]
  simp [isi_kind hT m1]
  cases v with
  | str s =>
    cases hT
    have hl : s.length ≤ 1000 := by simpa [plainD] using h
    have e1 : isiB "str" "str" = true := rfl
    by_cases h20 : s.length ≤ 20
    · have h20' : ((s.length : Nat) : Int) ≤ 20 := by omega
      simp [e1, line_ge hl, Ord4.i, isStrT, h20', stripM, strip_g cont_T hl]
      simp [textD, h20]
    · have h20' : ¬ ((s.length : Nat) : Int) ≤ 20 := by omega
      simp [e1, line_ge hl, Ord4.i, h20']
      simp [textD, h20]
  | _ => cases hT <;> rfl

theorem c_is_name (k : Nat) : (gam tb (k + 1)).call "is_name" = fnR d_is_name.N 1 (b_is_name.ev (gam tb k)) := by kernel_rfl
/-- the fixed words and signs -/
def wordsS : List Str := ["last", "where", "with", "keep", "rename", "join", "union", "minus", "group", "count", "sum", "least", "greatest", "and", "or", "not", "today"]
def signsS : List Str := ["|", "(", ")", "[", "]", ",", ":", "=", "<", "<=", "+", "-", "*", "", " "]
theorem inF_words (s : Str) : ∀ ws : List Str, inF (.str s) (ws.map .str) = decide (s ∈ ws)
  | [] => rfl
  | w :: ws => by
    rw [List.map_cons, List.decide_mem_cons, ← inF_words s ws, BEq.comm (a := s)]
    rfl
theorem fixed_in {s : Str} (h : s.cps.all letC = true) (h1 : 1 ≤ s.length) : decide (s ∈ wordsS ++ signsS) = inF (.str s) wordsD := by
  rw [show wordsD = wordsS.map .str from rfl, inF_words]
  have key : ∀ x ∈ signsS, x.cps.all letC = true → ¬ 1 ≤ x.length := by decide +kernel
  have e : s ∈ wordsS ++ signsS ↔ s ∈ wordsS := by
    rw [List.mem_append]
    exact ⟨fun z => z.elim id fun z => absurd h1 (key s z h), .inl⟩
  rw [decide_eq_decide]
  exact e
theorem flat_words : wordsD.all Dt.flat = true := rfl
theorem e_is_name (k : Nat) {v : Dt} (h : plainD v = true) : (gam tb (k + 1)).call "is_name" [.dat v] ω = .ok (.dat (.bl (nameD v))) ω := by
  obtain ⟨T, hT⟩ := plain_kind h
  rw [c_is_name, fnR_of (n := 1) rfl]
  have m1 : "str" ∈ tysB := by decide
  simp only [b_is_name, startR, d_is_name, List.map_cons, List.map_nil, List.length_cons, List.length_nil]
  rw [show (["last", "where", "with", "keep", "rename", "join", "union", "minus", "group", "count", "sum", "least", "greatest", "and", "or", "not", "today", "|", "(", ")", "[", "]", ",", ":", "=", "<", "<=", "+", "-", "*", "", " "] : List Str) = wordsS ++ signsS from rfl]
  simp [isi_kind hT m1]
  cases v with
  | str s =>
    cases hT
    have hl : s.length ≤ 1000 := by simpa [plainD] using h
    have e1 : isiB "str" "str" = true := rfl
    have fl : (Dt.str s).flat = true := rfl
    by_cases h1 : 1 ≤ s.length
    · have h1' : (1 : Int) ≤ ((s.length : Nat) : Int) := by omega
      by_cases h8 : s.length ≤ 8
      · have h8' : ((s.length : Nat) : Int) ≤ 8 := by omega
        simp [e1, line_ge hl, Ord4.i, isStrT, h1', h8', stripM, strip_g cont_L hl]
        cases ha : s.cps.all letC with
        | true => 
          have tin : ∀ ks, tinS true ks [.dat (.str s)] ω = .ok (.dat (.bl (!decide (s ∈ ks)))) ω := fun _ => rfl
          simp only [tin, fixed_in ha h1]
          simp [nameD, h1, h8, ha]
        | false => simp [nameD, h1, h8, ha]
      · have h8' : ¬ ((s.length : Nat) : Int) ≤ 8 := by omega
        simp [e1, line_ge hl, Ord4.i, h1', h8']
        simp [nameD, h8]
    · have h1' : ¬ (1 : Int) ≤ ((s.length : Nat) : Int) := by omega
      simp [e1, line_ge hl, Ord4.i, h1']
      simp [nameD, h1]
  | _ => cases hT <;> rfl
end
end K10
end
section
set_option Elab.async false
set_option linter.all false
set_option maxRecDepth 100000
set_option maxHeartbeats 4000000
namespace K10
open PySem PySem.Spec PyProof.Rows L2 Vm
section
variable {ω : Om}
abbrev sW : Str := "last where with keep rename join union minus group count sum least greatest and or not today"
theorem split_words : (Txt.split sW sB).map Dt.str = wordsD := by
  have e : Txt.split sW sB = (["last", "where", "with", "keep", "rename", "join", "union", "minus", "group", "count", "sum", "least", "greatest", "and", "or", "not", "today"] : List Str) := by decide +kernel
  rw [e]
  rfl
theorem c_words (k : Nat) : (gam tb (k + 1)).call "_law_words" = fnR d_law_words.N 0 (b_law_words.ev (gam tb k)) := by kernel_rfl
theorem e_words (k : Nat) : (gam tb (k + 1)).call "_law_words" [] ω = .ok (.dat (.lst wordsD)) ω := by
  rw [c_words, fnR_of (n := 0) rfl]
  have e1 : (sB.length == 0) = false := by decide +kernel
  have e2 : sW.length + 2 ≤ sizeLine := by rw [sizeLine_eq]; decide +kernel
  have e3 : splitM (.dat (.str sW)) [.dat (.str sB)] ω = .ok (.dat (.lst wordsD)) ω := by
    show (if (sB.length == 0) = false ∧ sW.length + 2 ≤ sizeLine then R.ok (Sv.dat (.lst ((Txt.split sW sB).map .str))) ω else .no) = _
    rw [if_pos ⟨e1, e2⟩, split_words]
  simp only [b_law_words, startR, d_law_words, List.map_nil, List.length_nil]
  simp [isStrT, e3]
/-- the signs of a text that a test leaves -/
theorem signs_filter (g : Nat → Bool) (p : Dt → Bool) (hp : ∀ c, p (.str ⟨#[c]⟩) = g c) (s : Str) : ((Vm.signs s).filter p).map (fun d => d) = ((s.cps.toList.filter g).map fun c => Dt.str ⟨#[c]⟩) := by
  unfold Vm.signs
  rw [List.map_id']
  generalize s.cps.toList = l
  induction l with
  | nil => rfl
  | cons c l ih =>
    simp only [List.map_cons, List.filter_cons, hp]
    cases g c <;> simp [ih]
theorem in_words (s : Str) : inS false (.dat (.str s)) (.dat (.lst wordsD)) ω = .ok (.dat (.bl (inF (.str s) wordsD))) ω := by
  unfold inS
  rw [toD_dat]
  dsimp only
  rw [seq_lst]
  dsimp only
  rw [if_pos (by rfl)]
  rfl
def rngP (lo hi : Str) (d : Dt) : Bool := match d with
  | .str x => Ord4.le.s lo x && Ord4.le.s x hi
  | _ => false
theorem rng_az (c : Nat) : rngP "a" "z" (.str ⟨#[c]⟩) = letC c := by
  show (Ord4.le.s ⟨#[97]⟩ ⟨#[c]⟩ && Ord4.le.s ⟨#[c]⟩ ⟨#[122]⟩) = letC c
  rw [le_one, le_one]
  rfl
theorem rng_09 (c : Nat) : rngP "0" "9" (.str ⟨#[c]⟩) = digC c := by
  show (Ord4.le.s ⟨#[48]⟩ ⟨#[c]⟩ && Ord4.le.s ⟨#[c]⟩ ⟨#[57]⟩) = digC c
  rw [le_one, le_one]
  rfl
theorem chn_rng {Γ : Gm} {ρ : Ro} {i : Nat} {x lo hi : Str} (h : ρ[i]? = some (some (.dat (.str x)))) : (E.chn .le .le (.cst (.str lo)) (.var i) (.cst (.str hi))).ev Γ ρ ω = .ok (.dat (.bl (rngP lo hi (.str x)))) ω := by
  simp [h]
  cases e : Ord4.le.s lo x <;> simp [rngP, e]
theorem mem_signs {s : Str} {d : Dt} (h : d ∈ Vm.signs s) : ∃ c, c ∈ s.cps.toList ∧ d = .str ⟨#[c]⟩ := by
  unfold Vm.signs at h
  obtain ⟨c, hc, rfl⟩ := List.mem_map.mp h
  exact ⟨c, hc, rfl⟩
theorem signs_none {g : Nat → Bool} {p : Dt → Bool} (hp : ∀ c, p (.str ⟨#[c]⟩) = !g c) (s : Str) : ((Vm.signs s).filter p).isEmpty = s.cps.all g := by
  unfold Vm.signs
  rw [← Array.all_toList]
  generalize s.cps.toList = l
  induction l with
  | nil => rfl
  | cons c l ih =>
    simp only [List.map_cons, List.filter_cons, hp, List.all_cons]
    cases g c <;> simp [ih]
theorem c_lname (k : Nat) : (gam tb (k + 1)).call "_law_is_name" = fnR d_law_is_name.N 1 (b_law_is_name.ev (gam tb k)) := by kernel_rfl
theorem e_lname (k : Nat) {v : Dt} (h : plainD v = true) : (gam tb (k + 2)).call "_law_is_name" [.dat v] ω = .ok (.dat (.bl (nameD v))) ω := by
  obtain ⟨T, hT⟩ := plain_kind h
  rw [c_lname, fnR_of (n := 1) rfl]
  have m1 : "str" ∈ tysB := by decide
  simp only [b_law_is_name, startR, d_law_is_name, List.map_cons, List.map_nil, List.length_cons, List.length_nil]
  simp [isi_kind hT m1]
  cases v with
  | str s =>
    cases hT
    have hl : s.length ≤ 1000 := by simpa [plainD] using h
    have e1 : isiB "str" "str" = true := rfl
    have fl : (Dt.str s).flat = true := rfl
    have sz : (Vm.signs s).length ≤ sizeLine := by
      have : (Vm.signs s).length = s.length := by simp [Vm.signs, Str.length]
      rw [this]; exact line_ge hl
    simp [e1, e_words, in_words]
    cases hw : inF (.str s) wordsD with
    | true => simp [nameD, hw]
    | false =>
      by_cases h1 : 1 ≤ s.length
      · have h1' : (1 : Int) ≤ ((s.length : Nat) : Int) := by omega
        by_cases h8 : s.length ≤ 8
        · have h8' : ((s.length : Nat) : Int) ≤ 8 := by omega
          simp [line_ge hl, Ord4.i, h1', h8']
          have L : lcGo (bName 1) (T.ev (gam tb (k + 1)) (T.val (E.chn C2.le C2.le (E.cst (Dt.str (Str.ofString "a"))) (E.var 1) (E.cst (Dt.str (Str.ofString "z"))))).not) (E.ev (gam tb (k + 1)) (E.var 1))
              (wipeR [some (Sv.dat (Dt.str s)), none] [1]) (Vm.signs s) ω [] = .ok ([] ++ ((Vm.signs s).filter fun d => !rngP "a" "z" d).map fun d => d) ω := by
            refine lcGo_pure (fun d => !rngP "a" "z" d) (fun d => d) (Vm.signs s) [] (fun d hd => ?_) (by simpa using sz)
            obtain ⟨c, _, rfl⟩ := mem_signs hd
            refine ⟨_, rfl, ?_, fun _ => rfl⟩
            rw [evt_not, evt_val, chn_rng (x := ⟨#[c]⟩) rfl]
            rfl
          rw [show (Dt.str s).items = some (Vm.signs s) from rfl, of_some, R.bind_ok, L, R.bind_ok, R.bind_ok, List.nil_append, List.map_id', show lstR [] ω = .ok [] ω from rfl]
          simp [eq_nil]
          rw [signs_none (g := letC) (fun c => by rw [rng_az])]
          simp [nameD, h1, h8, hw]
        · have h8' : ¬ ((s.length : Nat) : Int) ≤ 8 := by omega
          simp [line_ge hl, Ord4.i, h1', h8']
          simp [nameD, h8]
      · have h1' : ¬ (1 : Int) ≤ ((s.length : Nat) : Int) := by omega
        simp [line_ge hl, Ord4.i, h1']
        simp [nameD, h1]
  | _ => cases hT <;> rfl
end
end K10
end
section
set_option Elab.async false
set_option linter.all false
set_option maxRecDepth 100000
set_option maxHeartbeats 4000000
namespace K10
open PySem PySem.Spec PyProof.Rows L2 Vm
section
variable {ω : Om}
def kindD (v : Dt) : Dt := if textD v = true then .str "text" else if intD v = true then .str "number" else .non
def isSp (d : Dt) : Bool := match d with
  | .str x => decide (x = " ")
  | _ => false
theorem isSp_one (c : Nat) : isSp (.str ⟨#[c]⟩) = decide (c = 32) := by
  show decide ((⟨#[c]⟩ : Str) = ⟨#[32]⟩) = decide (c = 32)
  by_cases h : c = 32
  · subst h; simp
  · have : ¬ ((⟨#[c]⟩ : Str) = ⟨#[32]⟩) := fun z => by
      injection z with z
      simp at z
      exact h z
    rw [decide_eq_false this, decide_eq_false h]
def goodP (d : Dt) : Bool := rngP "a" "z" d || (rngP "0" "9" d || isSp d)
theorem goodP_one (c : Nat) : goodP (.str ⟨#[c]⟩) = goodC c := by
  unfold goodP goodC
  rw [rng_az, rng_09, isSp_one]
theorem signs_all {g : Nat → Bool} {p : Dt → Bool} (hp : ∀ c, p (.str ⟨#[c]⟩) = g c) (s : Str) : decide (((Vm.signs s).filter p).length = s.length) = s.cps.all g ∧ ((Vm.signs s).filter p).length ≤ s.length := by
  have e : s.length = s.cps.toList.length := by simp [Str.length]
  unfold Vm.signs
  rw [← Array.all_toList, e]
  generalize s.cps.toList = l
  induction l with
  | nil => exact ⟨rfl, Nat.le_refl _⟩
  | cons c l ih =>
    simp only [List.map_cons, List.filter_cons, hp, List.all_cons, List.length_cons]
    cases g c with
    | true => simpa using ih
    | false =>
      refine ⟨?_, by simp; omega⟩
      simp
      omega
theorem c_lkind (k : Nat) : (gam tb (k + 1)).call "_law_kind" = fnR d_law_kind.N 1 (b_law_kind.ev (gam tb k)) := by kernel_rfl
theorem e_lkind (k : Nat) {v : Dt} (h : plainD v = true) : (gam tb (k + 1)).call "_law_kind" [.dat v] ω = .ok (.dat (kindD v)) ω := by
  obtain ⟨T, hT⟩ := plain_kind h
  rw [c_lkind, fnR_of (n := 1) rfl]
  have m1 : "str" ∈ tysB := by decide
  have m2 : "int" ∈ tysB := by decide
  have m3 : "bool" ∈ tysB := by decide
  simp only [b_law_kind, startR, d_law_kind, List.map_cons, List.map_nil, List.length_cons, List.length_nil]
  simp [isi_kind hT m1, isi_kind hT m2, isi_kind hT m3]
  cases v with
  | str s =>
    cases hT
    have hl : s.length ≤ 1000 := by simpa [plainD] using h
    have e1 : isiB "str" "str" = true := rfl
    have sz : (Vm.signs s).length ≤ sizeLine := by
      have : (Vm.signs s).length = s.length := by simp [Vm.signs, Str.length]
      rw [this]; exact line_ge hl
    simp [e1]
    have L : ∀ ρ : Ro, ρ = wipeR [some (Sv.dat (Dt.str s)), none, none] [2] → lcGo (bName 2) (T.ev (gam tb k) ((T.val (E.chn C2.le C2.le (E.cst (Dt.str "a")) (E.var 2) (E.cst (Dt.str "z")))).or ((T.val (E.chn C2.le C2.le (E.cst (Dt.str "0")) (E.var 2) (E.cst (Dt.str "9")))).or (T.val (E.cmp C2.eq (E.var 2) (E.cst (Dt.str " "))))))) (E.ev (gam tb k) (E.var 2))
        ρ (Vm.signs s) ω [] = .ok ([] ++ ((Vm.signs s).filter goodP).map fun d => d) ω := by
      rintro ρ rfl
      refine lcGo_pure goodP (fun d => d) (Vm.signs s) [] (fun d hd => ?_) (by simpa using sz)
      obtain ⟨c, _, rfl⟩ := mem_signs hd
      refine ⟨_, rfl, ?_, fun _ => rfl⟩
      have e3 : (T.val (E.cmp C2.eq (E.var 2) (E.cst (Dt.str " ")))).ev (gam tb k) ((wipeR [some (Sv.dat (Dt.str s)), none, none] [2]).set 2 (some (.dat (.str ⟨#[c]⟩)))) ω = .ok (isSp (.str ⟨#[c]⟩)) ω := rfl
      have e4 : (T.val (E.chn C2.le C2.le (E.cst (Dt.str "0")) (E.var 2) (E.cst (Dt.str "9")))).ev (gam tb k) ((wipeR [some (Sv.dat (Dt.str s)), none, none] [2]).set 2 (some (.dat (.str ⟨#[c]⟩)))) ω = .ok (rngP "0" "9" (.str ⟨#[c]⟩)) ω := by
        rw [evt_val, chn_rng (x := ⟨#[c]⟩) rfl]
        rfl
      have e5 : (T.val (E.chn C2.le C2.le (E.cst (Dt.str "a")) (E.var 2) (E.cst (Dt.str "z")))).ev (gam tb k) ((wipeR [some (Sv.dat (Dt.str s)), none, none] [2]).set 2 (some (.dat (.str ⟨#[c]⟩)))) ω = .ok (rngP "a" "z" (.str ⟨#[c]⟩)) ω := by
        rw [evt_val, chn_rng (x := ⟨#[c]⟩) rfl]
        rfl
      rw [evt_or, e5, R.bind_ok]
      unfold goodP
      cases rngP "a" "z" (.str ⟨#[c]⟩) with
      | true => rfl
      | false =>
        rw [if_neg (by decide), evt_or, e4, R.bind_ok]
        cases rngP "0" "9" (.str ⟨#[c]⟩) with
        | true => rfl
        | false => rw [if_neg (by decide), e3]; rfl
    rw [show (Dt.str s).items = some (Vm.signs s) from rfl, of_some, R.bind_ok, L _ rfl, R.bind_ok, List.nil_append, List.map_id']
    obtain ⟨a1, a2⟩ := signs_all (g := goodC) goodP_one s
    generalize hf : (Vm.signs s).filter goodP = fl at a1 a2
    simp [line_ge hl, Vm.eq_int]
    have b1 : decide ((fl.length : Int) = (s.length : Int)) = s.cps.all goodC := by
      rw [← a1]
      by_cases z : fl.length = s.length
      · simp [z]
      · rw [decide_eq_false z, decide_eq_false (fun y => z (by omega))]
    have b2 : Ord4.le.i (s.length : Int) 20 = decide (s.length ≤ 20) := by
      show decide ((s.length : Int) ≤ 20) = decide (s.length ≤ 20)
      by_cases z : s.length ≤ 20
      · rw [decide_eq_true z, decide_eq_true (by omega)]
      · rw [decide_eq_false z, decide_eq_false (by omega)]
    rw [b1, b2]
    cases hg : s.cps.all goodC <;> by_cases h20 : s.length ≤ 20 <;> simp [kindD, textD, intD, hg, h20]
  | int i => cases hT; rfl
  | bl i => cases hT; rfl
  | _ => cases hT <;> rfl
end
end K10
end
section
set_option Elab.async false
set_option linter.all false
set_option maxRecDepth 100000
set_option maxHeartbeats 4000000
namespace K10
open PySem PySem.Spec PyProof.Rows L2 Vm
mutual
/-- deep: all parts are plain -/
def deepD : Dt → Bool
  | .non => true
  | .bl _ => true
  | .int _ => true
  | .str s => decide (s.length ≤ 1000)
  | .lst ds => deepAll ds && decide (ds.length ≤ 1000)
  | .tup ds => deepAll ds && decide (ds.length ≤ 1000)
  | .dic [] => true
  | .dic (_ :: _) => false
  | .rol _ => false
  | .fn _ => false
  | .ty _ => false
  | .dit _ => false
  | .ins _ _ => false
  | .err0 _ => false
  | .err _ _ _ => false
def deepAll : List Dt → Bool
  | [] => true
  | d :: ds => deepD d && deepAll ds
end
theorem deep_plain {v : Dt} (h : deepD v = true) : plainD v = true := by
  cases v with
  | str s => simpa [deepD, plainD] using h
  | dic k => rfl
  | non => rfl
  | bl _ => rfl
  | int _ => rfl
  | lst _ => rfl
  | tup _ => rfl
  | rol _ => simp [deepD] at h
  | fn _ => simp [deepD] at h
  | ty _ => simp [deepD] at h
  | dit _ => simp [deepD] at h
  | ins _ _ => simp [deepD] at h
  | err0 _ => simp [deepD] at h
  | err _ _ _ => simp [deepD] at h
theorem deep_mem : ∀ {ds : List Dt}, deepAll ds = true → ∀ d ∈ ds, deepD d = true
  | d :: ds, h, e, he => by
    unfold deepAll at h
    rw [Bool.and_eq_true] at h
    rcases List.mem_cons.mp he with rfl | he
    · exact h.1
    · exact deep_mem h.2 e he
section
variable {ω : Om}
def valueD (v : Dt) : Bool := intD v || textD v
def dayD (v : Dt) : Bool := match v with
  | .int i => decide (0 ≤ i) && decide (i ≤ 999)
  | _ => false
theorem c_is_value (k : Nat) : (gam tb (k + 1)).call "is_value" = fnR d_is_value.N 1 (b_is_value.ev (gam tb k)) := by kernel_rfl
theorem e_is_value (k : Nat) {v : Dt} (h : plainD v = true) : (gam tb (k + 2)).call "is_value" [.dat v] ω = .ok (.dat (.bl (valueD v))) ω := by
  rw [c_is_value, fnR_of (n := 1) rfl]
  simp only [b_is_value, startR, d_is_value, List.map_cons, List.map_nil, List.length_cons, List.length_nil]
  simp [e_is_integer k h, e_is_text k h]
  unfold valueD
  cases intD v <;> simp
theorem c_is_day (k : Nat) : (gam tb (k + 1)).call "is_day" = fnR d_is_day.N 1 (b_is_day.ev (gam tb k)) := by kernel_rfl
theorem e_is_day (k : Nat) {v : Dt} (h : plainD v = true) : (gam tb (k + 3)).call "is_day" [.dat v] ω = .ok (.dat (.bl (dayD v))) ω := by
  rw [c_is_day, fnR_of (n := 1) rfl]
  simp only [b_is_day, startR, d_is_day, List.map_cons, List.map_nil, List.length_cons, List.length_nil]
  obtain ⟨T, hT⟩ := plain_kind h
  have m1 : "int" ∈ tysB := by decide
  simp [isi_kind hT m1]
  cases v with
  | int i =>
    cases hT
    have e1 : isiB "int" "int" = true := rfl
    by_cases h1 : 0 ≤ i
    · by_cases h2 : i ≤ 999 <;> simp [h1, h2, e1, Dt.isBl, Ord4.i, dayD]
    · simp [h1, e1, Dt.isBl, Ord4.i, dayD]
  | bl b =>
    cases hT
    cases b <;> rfl
  | _ => cases hT <;> rfl
def kindsD : List Dt := [.str "number", .str "text"]
def isKind (b : Dt) : Bool := match b with
  | .str s => inF (.str s) kindsD
  | _ => false
def columnD (v : Dt) : Bool := match v with
  | .tup [a, b] => nameD a && isKind b
  | _ => false
theorem in_kindsT (s : Str) : inS false (.dat (.str s)) (.dat (.tup kindsD)) ω = .ok (.dat (.bl (inF (.str s) kindsD))) ω := by
  unfold inS
  rw [toD_dat]
  dsimp only
  rw [seq_tup]
  dsimp only
  rw [if_pos (by rfl)]
  rfl
theorem in_kindsL (s : Str) : inS false (.dat (.str s)) (.dat (.lst kindsD)) ω = .ok (.dat (.bl (inF (.str s) kindsD))) ω := by
  unfold inS
  rw [toD_dat]
  dsimp only
  rw [seq_lst]
  dsimp only
  rw [if_pos (by rfl)]
  rfl
theorem c_is_column (k : Nat) : (gam tb (k + 1)).call "is_column" = fnR d_is_column.N 1 (b_is_column.ev (gam tb k)) := by kernel_rfl
theorem at2_0 (a b : Dt) : L2.atI [a, b] 0 = some a := rfl
theorem at2_1 (a b : Dt) : L2.atI [a, b] 1 = some b := rfl
theorem e_is_column (k : Nat) {v : Dt} (h : deepD v = true) : (gam tb (k + 2)).call "is_column" [.dat v] ω = .ok (.dat (.bl (columnD v))) ω := by
  have hp := deep_plain h
  obtain ⟨T, hT⟩ := plain_kind hp
  rw [c_is_column, fnR_of (n := 1) rfl]
  have m1 : "tuple" ∈ tysB := by decide
  have m2 : "str" ∈ tysB := by decide
  simp only [b_is_column, startR, d_is_column, List.map_cons, List.map_nil, List.length_cons, List.length_nil]
  rw [show ([.str "number", .str "text"] : List Dt) = kindsD from rfl]
  simp [isi_kind hT m1]
  cases v with
  | tup ds =>
    cases hT
    have e1 : isiB "tuple" "tuple" = true := rfl
    simp [e1, Vm.ne_int]
    rcases ds with _ | ⟨a, _ | ⟨b, _ | ⟨c, r⟩⟩⟩
    · rfl
    · rfl
    · have hd : deepAll [a, b] = true := by
        unfold deepD at h
        exact (Bool.and_eq_true_iff.mp h).1
      have ha := deep_plain (deep_mem hd a (by simp))
      have hb := deep_plain (deep_mem hd b (by simp))
      obtain ⟨S, hS⟩ := plain_kind hb
      simp [at2_0, at2_1, e_is_name k ha, isi_kind hS m2]
      cases hn : nameD a with
      | false => simp [columnD, hn]
      | true =>
        cases b with
        | str s =>
          cases hS
          have e2 : isiB "str" "str" = true := rfl
          simp [e2, in_kindsT, columnD, isKind, hn]
        | _ =>
          cases hS
          all_goals
            simp [columnD, isKind, hn]
            rfl
    · have n2 : ¬ ((r.length : Nat) : Int) + 1 + 1 + 1 = 2 := by omega
      simp [n2, columnD]
  | _ => cases hT <;> rfl

theorem c_lcolumn (k : Nat) : (gam tb (k + 1)).call "_law_is_column" = fnR d_law_is_column.N 1 (b_law_is_column.ev (gam tb k)) := by kernel_rfl
theorem e_lcolumn (k : Nat) {v : Dt} (h : deepD v = true) : (gam tb (k + 3)).call "_law_is_column" [.dat v] ω = .ok (.dat (.bl (columnD v))) ω := by
  have hp := deep_plain h
  obtain ⟨T, hT⟩ := plain_kind hp
  rw [c_lcolumn, fnR_of (n := 1) rfl]
  have m1 : "tuple" ∈ tysB := by decide
  have m2 : "str" ∈ tysB := by decide
  simp only [b_law_is_column, startR, d_law_is_column, List.map_cons, List.map_nil, List.length_cons, List.length_nil]
  simp [isi_kind hT m1]
  cases v with
  | tup ds =>
    cases hT
    have e1 : isiB "tuple" "tuple" = true := rfl
    simp [e1, Vm.ne_int]
    rcases ds with _ | ⟨a, _ | ⟨b, _ | ⟨c, r⟩⟩⟩
    · rfl
    · rfl
    · have hd : deepAll [a, b] = true := by
        unfold deepD at h
        exact (Bool.and_eq_true_iff.mp h).1
      have ha := deep_plain (deep_mem hd a (by simp))
      have hb := deep_plain (deep_mem hd b (by simp))
      obtain ⟨S, hS⟩ := plain_kind hb
      simp [at2_0, at2_1, e_lname k ha, isi_kind hS m2]
      cases hn : nameD a with
      | false => simp [columnD, hn]
      | true =>
        cases b with
        | str s =>
          cases hS
          have e2 : isiB "str" "str" = true := rfl
          have e3 : lstR [Sv.dat (.str "number"), Sv.dat (.str "text")] ω = .ok kindsD ω := by
            unfold lstR
            simp
            rw [if_pos (by rw [sizeLine_eq]; decide)]
            rfl
          simp [at2_1, isi_kind (d := .str s) rfl m2, e2, e3, in_kindsL, columnD, isKind, hn]
        | _ =>
          cases hS
          all_goals
            simp [columnD, isKind, hn]
            rfl
    · have n2 : ¬ ((r.length : Nat) : Int) + 1 + 1 + 1 = 2 := by omega
      simp [n2, columnD]
  | _ => cases hT <;> rfl
end
end K10
end
section
set_option Elab.async false
set_option linter.all false
set_option maxRecDepth 100000
set_option maxHeartbeats 4000000
namespace K10
open PySem PySem.Spec PyProof.Rows L2 Vm
section
variable {ω : Om}
theorem allBl_map (g : Dt → Bool) : ∀ ds : List Dt, allBl (ds.map fun d => .bl (g d)) = some (ds.map g)
  | [] => rfl
  | d :: ds => by
    show (match (Dt.bl (g d)).blOf, allBl (ds.map fun d => .bl (g d)) with
      | some a, some l => some (a :: l)
      | _, _ => none) = _
    rw [allBl_map g ds]
    rfl
theorem all_map (g : Dt → Bool) (ds : List Dt) : allS [.dat (.lst (ds.map fun d => .bl (g d)))] ω = .ok (.dat (.bl (ds.all g))) ω := by
  unfold allS
  dsimp only
  rw [seq_lst]
  dsimp only
  rw [allBl_map]
  dsimp only
  congr 3
  induction ds with
  | nil => rfl
  | cons d ds ih => simp [List.all_cons, ih]
theorem dec_cast (a b : Nat) : decide ((a : Int) = (b : Int)) = decide (a = b) := by
  by_cases h : a = b
  · rw [decide_eq_true h, decide_eq_true (by omega)]
  · rw [decide_eq_false h, decide_eq_false (by omega)]
def nameK (d : Dt) : Key := match d with
  | .tup [.str s, _] => .inr s
  | _ => .inl 0
def columnsD (v : Dt) : Bool := match v with
  | .lst ds => (decide (1 ≤ ds.length) && decide (ds.length ≤ 10)) && (ds.all columnD && decide ((kset (ds.map nameK)).length = ds.length))
  | _ => false
theorem column_str {d : Dt} (h : columnD d = true) : ∃ s b, d = .tup [.str s, b] := by
  unfold columnD at h
  split at h
  · rename_i a b
    rw [Bool.and_eq_true] at h
    cases a with
    | str s => exact ⟨s, b, rfl⟩
    | _ => simp [nameD] at h
  · cases h
theorem c_is_columns (k : Nat) : (gam tb (k + 1)).call "is_columns" = fnR d_is_columns.N 1 (b_is_columns.ev (gam tb k)) := by kernel_rfl
theorem e_is_columns (k : Nat) {v : Dt} (h : deepD v = true) : (gam tb (k + 3)).call "is_columns" [.dat v] ω = .ok (.dat (.bl (columnsD v))) ω := by
  have hp := deep_plain h
  obtain ⟨T, hT⟩ := plain_kind hp
  rw [c_is_columns, fnR_of (n := 1) rfl]
  have m1 : "list" ∈ tysB := by decide
  simp only [b_is_columns, startR, d_is_columns, List.map_cons, List.map_nil, List.length_cons, List.length_nil]
  simp [isi_kind hT m1]
  cases v with
  | lst ds =>
    cases hT
    have e1 : isiB "list" "list" = true := rfl
    have hd : deepAll ds = true := by
      unfold deepD at h
      exact (Bool.and_eq_true_iff.mp h).1
    by_cases h1 : 1 ≤ ds.length
    · have h1' : (1 : Int) ≤ ((ds.length : Nat) : Int) := by omega
      by_cases h8 : ds.length ≤ 10
      · have h8' : ((ds.length : Nat) : Int) ≤ 10 := by omega
        simp [e1, Ord4.i, h1', h8']
        have L : ∀ ρ : Ro, ρ = wipeR [some (Sv.dat (Dt.lst ds)), none, none, none] [1] → lcGo (bName 1) (T.ev (gam tb (k + 2)) T.yes) (E.ev (gam tb (k + 2)) (E.call "is_column" (Es.cons (E.var 1) Es.nil))) ρ ds ω [] = .ok (ds.map fun d => .bl (columnD d)) ω := by
          rintro ρ rfl
          refine lcGo_map _ ds (fun d hm => ⟨_, rfl, rfl, ?_⟩) (by rw [sizeLine_eq]; omega)
          rw [ev_call, evs_cons, ev_var]
          show ((gam tb (k + 2)).call "is_column" [Sv.dat d] ω) = _
          exact e_is_column k (deep_mem hd d hm)
        rw [show (Dt.lst ds).items = some ds from rfl, of_some, R.bind_ok, L _ rfl, R.bind_ok, R.bind_ok, R.bind_ok, all_map]
        cases hc : ds.all columnD with
        | false => simp [columnsD, hc]
        | true =>
          have hcm := List.all_eq_true.mp hc
          have S : ∀ ρ : Ro, ρ = wipeR [some (Sv.dat (Dt.lst ds)), none, none, none] [2, 3] → scGo (bTup 2 (bCons (bName 2) (bCons (bName 3) bNil))) (T.ev (gam tb (k + 2)) T.yes) (E.ev (gam tb (k + 2)) (E.var 2)) ρ ds ω [] = .ok ((ds.map nameK).foldl once []) ω := by
            rintro ρ rfl
            refine scGo_pure nameK ds [] (fun d hm => ?_) (by show 0 + ds.length + 1 < scanBound; unfold scanBound; omega)
            obtain ⟨s, b, rfl⟩ := column_str (hcm d hm)
            exact ⟨_, .str s, rfl, rfl, rfl, rfl⟩
          have small : ((ds.map nameK).foldl once []).length < 2 ^ 63 := by
            have := kset_len (ds.map nameK)
            unfold kset at this
            rw [List.length_map] at this
            omega
          simp [show (Dt.lst ds).items = some ds from rfl, S _ rfl, small, Vm.eq_int]
          rw [dec_cast]
          simp [columnsD, kset, hc, h1, h8]
          rfl
      · have h8' : ¬ ((ds.length : Nat) : Int) ≤ 10 := by omega
        simp [e1, Ord4.i, h1', h8']
        simp [columnsD, h8]
    · have h1' : ¬ (1 : Int) ≤ ((ds.length : Nat) : Int) := by omega
      simp [e1, Ord4.i, h1']
      simp [columnsD, h1]
  | _ => cases hT <;> rfl

def fstD (d : Dt) : Dt := match d with
  | .tup (a :: _) => a
  | _ => .non
theorem keys_of : ∀ {ds : List Dt}, (∀ d ∈ ds, columnD d = true) → keysD (ds.map fstD) = some (ds.map nameK)
  | [], _ => rfl
  | d :: ds, h => by
    obtain ⟨s, b, rfl⟩ := column_str (h d (by simp))
    show (match keyD (.str s), keysD (ds.map fstD) with
      | some k, some ks => some (k :: ks)
      | _, _ => none) = _
    rw [keys_of fun e he => h e (by simp [he])]
    rfl
theorem c_lcolumns (k : Nat) : (gam tb (k + 1)).call "_law_is_columns" = fnR d_law_is_columns.N 1 (b_law_is_columns.ev (gam tb k)) := by kernel_rfl
theorem e_lcolumns (k : Nat) {v : Dt} (h : deepD v = true) : (gam tb (k + 4)).call "_law_is_columns" [.dat v] ω = .ok (.dat (.bl (columnsD v))) ω := by
  have hp := deep_plain h
  obtain ⟨T, hT⟩ := plain_kind hp
  rw [c_lcolumns, fnR_of (n := 1) rfl]
  have m1 : "list" ∈ tysB := by decide
  simp only [b_law_is_columns, startR, d_law_is_columns, List.map_cons, List.map_nil, List.length_cons, List.length_nil]
  simp [isi_kind hT m1]
  cases v with
  | lst ds =>
    cases hT
    have e1 : isiB "list" "list" = true := rfl
    have hd : deepAll ds = true := by
      unfold deepD at h
      exact (Bool.and_eq_true_iff.mp h).1
    by_cases h1 : 1 ≤ ds.length
    · have h1' : (1 : Int) ≤ ((ds.length : Nat) : Int) := by omega
      by_cases h8 : ds.length ≤ 10
      · have h8' : ((ds.length : Nat) : Int) ≤ 10 := by omega
        have e0 : ∀ ω : Om, lstR [] ω = .ok [] ω := fun _ => rfl
        have L : ∀ ρ : Ro, ρ = wipeR [some (Sv.dat (Dt.lst ds)), none] [1] → lcGo (bName 1) (T.ev (gam tb (k + 3)) (T.val (E.call "_law_is_column" (Es.cons (E.var 1) Es.nil))).not) (E.ev (gam tb (k + 3)) (E.var 1)) ρ ds ω [] = .ok ([] ++ (ds.filter fun d => !columnD d).map fun d => d) ω := by
          rintro ρ rfl
          refine lcGo_pure (fun d => !columnD d) (fun d => d) ds [] (fun d hm => ⟨_, rfl, ?_, fun _ => rfl⟩) (by rw [sizeLine_eq]; simp; omega)
          rw [evt_not, evt_val, ev_call, evs_cons, ev_var]
          show (((gam tb (k + 3)).call "_law_is_column" [Sv.dat d] ω).bind fun a ω1 => R.of (ω1.tru a) ω1).bind _ = _
          rw [e_lcolumn k (deep_mem hd d hm)]
          rfl
        simp [e1, Ord4.i, h1', h8', show (Dt.lst ds).items = some ds from rfl, L _ rfl, e0, ne_nil]
        cases hc : ds.all columnD with
        | false =>
          have hx : ∃ x, x ∈ ds ∧ columnD x = false := by
            simpa using hc
          simp [hx, columnsD, hc]
        | true =>
          have hcm := List.all_eq_true.mp hc
          have he : ¬ ∃ x, x ∈ ds ∧ columnD x = false := fun ⟨x, hx, z⟩ => by
            rw [hcm x hx] at z
            cases z
          have L2 : ∀ ρ : Ro, ρ = wipeR [some (Sv.dat (Dt.lst ds)), none] [1] → lcGo (bName 1) (T.ev (gam tb (k + 3)) T.yes) (E.ev (gam tb (k + 3)) ((E.var 1).idx (E.cst (Dt.int 0)))) ρ ds ω [] = .ok (ds.map fstD) ω := by
            rintro ρ rfl
            refine lcGo_map fstD ds (fun d hm => ?_) (by rw [sizeLine_eq]; omega)
            obtain ⟨s, b, rfl⟩ := column_str (hcm d hm)
            exact ⟨_, rfl, rfl, rfl⟩
          have room : ds.length + 1 < scanBound := by unfold scanBound; omega
          have ks := keys_of hcm
          rw [if_neg he]
          simp [fLenSet, show (Dt.lst ds).items = some ds from rfl, L2 _ rfl, ks, room, Vm.eq_int, dec_cast]
          simp [columnsD, hc, h1, h8]
      · have h8' : ¬ ((ds.length : Nat) : Int) ≤ 10 := by omega
        simp [e1, Ord4.i, h1', h8']
        simp [columnsD, h8]
    · have h1' : ¬ (1 : Int) ≤ ((ds.length : Nat) : Int) := by omega
      simp [e1, Ord4.i, h1']
      simp [columnsD, h1]
  | _ => cases hT <;> rfl
end
end K10
end
section
set_option Elab.async false
set_option linter.all false
set_option maxRecDepth 100000
set_option maxHeartbeats 4000000
/-! a law's pool: its two defs, whatever the rest -/
namespace Vm
open PySem PySem.Spec PyProof.Rows L2
section
variable {b : Dt → Ro → Option Ro} {ft : Ro → Om → R Bool} {fe : Ro → Om → R Sv} {ρ : Ro} {body : Ro → Om → RS}
theorem lcGo_inv (I : Om → Prop) (P : List Dt → Prop) : ∀ (ds acc : List Dt) (ω : Om), (∀ d ∈ ds, ∀ acc ω, P acc → I ω → ∃ ρ2 e ω', b d ρ = some ρ2 ∧ ft ρ2 ω = .ok true ω ∧ fe ρ2 ω = .ok (.dat e) ω' ∧ I ω' ∧ P (acc ++ [e])) → acc.length + ds.length ≤ sizeLine → P acc → I ω →
    ∃ es ω', lcGo b ft fe ρ ds ω acc = .ok es ω' ∧ I ω' ∧ P es ∧ es.length = acc.length + ds.length
  | [], acc, ω, _, _, hp, hi => ⟨acc, ω, by simp [lcGo], hi, hp, rfl⟩
  | d :: ds, acc, ω, h, hl, hp, hi => by
    obtain ⟨ρ2, e, ω1, h1, h2, h3, h4, h5⟩ := h d (by simp) acc ω hp hi
    simp only [List.length_cons] at hl
    obtain ⟨es, ω2, e1, i2, p2, l2⟩ := lcGo_inv I P ds (acc ++ [e]) ω1 (fun x hx => h x (by simp [hx])) (by simp; omega) h5 h4
    refine ⟨es, ω2, ?_, i2, p2, by simp at l2 ⊢; omega⟩
    unfold lcGo
    rw [h1]
    dsimp only
    rw [h2]
    dsimp only
    rw [h3]
    dsimp only [fz_dat]
    rw [if_pos (by omega), e1]
theorem forGo_inv (I : Nat → Ro → Om → Prop) : ∀ (ds : List Dt) (n : Nat) (ρ : Ro) (ω : Om), (∀ d ∈ ds, ∀ m ρ ω, m < n + ds.length → I m ρ ω → ∃ ρ2 ρ3 ω', b d ρ = some ρ2 ∧ body ρ2 ω = .nx ρ3 ω' ∧ I (m + 1) ρ3 ω') → I n ρ ω →
    ∃ ρ' ω', forGo b body ds ρ ω = .nx ρ' ω' ∧ I (n + ds.length) ρ' ω'
  | [], n, ρ, ω, _, hi => ⟨ρ, ω, rfl, hi⟩
  | d :: ds, n, ρ, ω, h, hi => by
    obtain ⟨ρ2, ρ3, ω1, h1, h2, h3⟩ := h d (by simp) n ρ ω (by simp) hi
    obtain ⟨ρ', ω', e, i2⟩ := forGo_inv I ds (n + 1) ρ3 ω1 (fun x hx m ρ ω hm => h x (by simp [hx]) m ρ ω (by simp only [List.length_cons]; omega)) h3
    refine ⟨ρ', ω', ?_, by simpa [Nat.add_assoc, Nat.add_comm 1] using i2⟩
    unfold forGo
    rw [h1]
    dsimp only
    rw [h2]
    exact e
/-- a for that goes on while a test holds, and returns at the first that fails -/
theorem forGo_all {ω : Om} (I : Ro → Prop) (p : Dt → Bool) (a : Sv) : ∀ (ds : List Dt) (ρ : Ro), (∀ d ∈ ds, ∀ ρ, I ρ → ∃ ρ2, b d ρ = some ρ2 ∧ (p d = true → ∃ ρ3, body ρ2 ω = .nx ρ3 ω ∧ I ρ3) ∧ (p d = false → body ρ2 ω = .rt a ω)) → I ρ →
    (ds.all p = true → ∃ ρ', forGo b body ds ρ ω = .nx ρ' ω ∧ I ρ') ∧ (ds.all p = false → forGo b body ds ρ ω = .rt a ω)
  | [], ρ, _, hi => ⟨fun _ => ⟨ρ, rfl, hi⟩, fun h => by cases h⟩
  | d :: ds, ρ, h, hi => by
    obtain ⟨ρ2, h1, h2, h3⟩ := h d (by simp) ρ hi
    rw [List.all_cons]
    cases e : p d with
    | true =>
      obtain ⟨ρ3, h4, h5⟩ := h2 e
      have r := forGo_all I p a ds ρ3 (fun x hx => h x (by simp [hx])) h5
      have u : forGo b body (d :: ds) ρ ω = forGo b body ds ρ3 ω := by
        rw [forGo, h1]
        dsimp only
        rw [h4]
      rw [u, Bool.true_and]
      exact r
    | false =>
      refine ⟨fun z => by simp at z, fun _ => ?_⟩
      rw [forGo, h1]
      dsimp only
      rw [h3 e]

end
def takeN : List Str := ["_law_pool_here", "_law_many", "_law_found"]
def poolN : List Str := ["_law_script", "_law_k", "_law_cell", "_law_size", "_law_seed"]
def takeB : Ss := (.ife (.val (.cmp .gt (.idx (.var 0) (.cst (.int (0)))) (.cst (.int (0)))))
  (.one (.set 2 (.bin .mod (.idx (.var 0) (.cst (.int (0)))) (.var 1)))
  (.one (.setL (.bin .fdiv (.idx (.var 0) (.cst (.int (0)))) (.var 1)) (.var 0) (.cst (.int (0))))
  (.one (.ret (.var 2))
  .nil)))
  .nil
  (.one (.setL (.bin .mod (.bin .add (.bin .mul (.idx (.var 0) (.cst (.int (1)))) (.cst (.int (48271)))) (.cst (.int (11)))) (.cst (.int (2147483647)))) (.var 0) (.cst (.int (1))))
  (.one (.ret (.bin .mod (.bin .fdiv (.bin .mod (.bin .mul (.idx (.var 0) (.cst (.int (1)))) (.idx (.var 0) (.cst (.int (1))))) (.cst (.int (2147483629)))) (.cst (.int (64)))) (.var 1)))
  .nil)))
def poolB : Ss := (.one (.set 2 (.cst (.int (0))))
  (.ife (.val (.cmp .lt (.var 1) (.blt .len (.cons (.var 0) .nil))))
  (.one (.set 2 (.idx (.var 0) (.var 1)))
  .nil)
  .nil
  (.one (.set 3 (.blt .abs (.cons (.var 2) .nil)))
  (.one (.set 4 (.bin .mod (.bin .pow (.bin .add (.bin .add (.bin .add (.bin .mod (.var 2) (.cst (.int (2147483629)))) (.bin .mul (.bin .mul (.cst (.int (104729))) (.var 1)) (.var 1))) (.bin .mul (.cst (.int (7919))) (.var 1))) (.cst (.int (11)))) (.cst (.int (3)))) (.cst (.int (2147483647)))))
  (.one (.ret (.lst true (.cons (.bin .mul (.var 3) (.blt .int (.cons (.cmp .ge (.var 3) (.bin .pow (.cst (.int (10))) (.cst (.int (18))))) .nil))) (.cons (.var 4) .nil))))
  .nil)))))
theorem atI_mem {xs : List Dt} {r : Int} (h0 : 0 ≤ r) (h1 : r < xs.length) : ∃ d, d ∈ xs ∧ L2.atI xs r = some d := by
  have hr : r.toNat < xs.length := by omega
  refine ⟨xs[r.toNat], List.getElem_mem hr, ?_⟩
  unfold L2.atI L2.ixN
  rw [if_pos h0, if_pos h1]
  exact List.getElem?_eq_getElem hr
theorem take_any (Γ : Gm) {ω : Om} {j : Nat} (h : PoolAt ω j) {m : Int} (h0 : 0 < m) (h1 : m < 1000) : ∃ r ω', fnR takeN 2 (takeB.ev Γ) [.own j, .dat (.int m)] ω = .ok (.dat (.int r)) ω' ∧ 0 ≤ r ∧ r < m ∧ Pl j ω ω' := by
  obtain ⟨s, d, hs, hd, hd2, e⟩ := h
  rw [fnR_of (n := 2) rfl]
  simp only [takeB, startR, takeN, List.map_cons, List.map_nil, List.length_cons, List.length_nil]
  have a0 : ∀ x y : Dt, L2.atI [x, y] 0 = some x := fun _ _ => rfl
  have a1 : ∀ x y : Dt, L2.atI [x, y] 1 = some y := fun _ _ => rfl
  by_cases hp : s > 0
  · have hs2 : ixN 2 0 = some 0 := rfl
    have mb : m < 1073741824 := by omega
    simp [idx_own e, a0, Ord4.i, hp, h0, sSetL, e, hs2, mb, List.set]
    exact ⟨s % m, _, ⟨rfl, rfl⟩, Int.emod_nonneg _ (by omega), Int.emod_lt_of_pos _ h0, Pl.set e (Int.ediv_nonneg hs (by omega)) hd hd2⟩
  · have hs2 : ixN 2 1 = some 1 := rfl
    have c1 : cmul d 48271 = true := cmul_r (by omega) (by omega)
    generalize hz : (d * 48271 + 11) % 2147483647 = z
    have z0 : 0 ≤ z := by omega
    have z1 : z < 2147483647 := by omega
    have c2 : cmul z z = true := cmul_r (by omega) (by omega)
    have hj : j < ω.length := (List.getElem?_eq_some_iff.mp e).1
    have e2 : (ω.set j (.lst [.int s, .int z]))[j]? = some (.lst [.int s, .int z]) := List.getElem?_set_self hj
    simp [idx_own e, a0, a1, Ord4.i, hp, h0, sSetL, e, hs2, c1, hz, List.set, idx_own e2, c2]
    exact ⟨_, _, ⟨rfl, rfl⟩, Int.emod_nonneg _ (by omega), Int.emod_lt_of_pos _ h0, Pl.set e hs z0 z1⟩
section
variable {ω : Om}
theorem atI_int {xs : List Int} {i : Int} (h0 : 0 ≤ i) (h1 : i < xs.length) : ∃ c, L2.atI (xs.map Dt.int) i = some (.int c) := by
  obtain ⟨d, hd, e⟩ := atI_mem (xs := xs.map Dt.int) h0 (by simpa using h1)
  obtain ⟨c, _, rfl⟩ := List.mem_map.mp hd
  exact ⟨c, e⟩
/-- the second half of the def, from the cell -/
theorem pool_rest (Γ : Gm) (c i : Int) (x : Option Sv) (h0 : 0 ≤ i) (h1 : i ≤ 63) : ∃ s d : Int, 0 ≤ s ∧ 0 ≤ d ∧ d < 2147483647 ∧
    ((Ss.one (.set 3 (.blt .abs (.cons (.var 2) .nil)))
  (.one (.set 4 (.bin .mod (.bin .pow (.bin .add (.bin .add (.bin .add (.bin .mod (.var 2) (.cst (.int (2147483629)))) (.bin .mul (.bin .mul (.cst (.int (104729))) (.var 1)) (.var 1))) (.bin .mul (.cst (.int (7919))) (.var 1))) (.cst (.int (11)))) (.cst (.int (3)))) (.cst (.int (2147483647)))))
  (.one (.ret (.lst true (.cons (.bin .mul (.var 3) (.blt .int (.cons (.cmp .ge (.var 3) (.bin .pow (.cst (.int (10))) (.cst (.int (18))))) .nil))) (.cons (.var 4) .nil))))
  .nil))).ev Γ [x, some (.dat (.int i)), some (.dat (.int c)), none, none] ω) = .rt (.own ω.length) (ω ++ [.lst [.int s, .int d]]) := by
  generalize hz : (if c < 0 then -c else c) = z
  have z0 : 0 ≤ z := by
    rw [← hz]
    split <;> omega
  have c1 : cmul 104729 i = true := cmul_l (by decide) (by decide)
  have c2 : cmul (104729 * i) i = true := cmul_r (by omega) (by omega)
  have c3 : cmul 7919 i = true := cmul_l (by decide) (by decide)
  have bnd : 104729 * i * i ≤ 104729 * 63 * 63 ∧ 0 ≤ 104729 * i * i := by
    have h2 : i * i ≤ 63 * 63 := Int.mul_le_mul h1 h1 h0 (by decide)
    have h3 : 0 ≤ i * i := Int.mul_nonneg h0 h0
    rw [Int.mul_assoc]
    omega
  generalize hq : 104729 * i * i = q at bnd
  have m0 : 0 ≤ c % 2147483629 := Int.emod_nonneg _ (by decide)
  have m1 : c % 2147483629 < 2147483629 := Int.emod_lt_of_pos _ (by decide)
  have p1 : (c % 2147483629 + q + 7919 * i + 11).natAbs < 18446744073709551616 := by omega
  have p2 : (10 : Int).natAbs < 18446744073709551616 := by decide
  generalize hd : (c % 2147483629 + q + 7919 * i + 11) ^ 3 % 2147483647 = d
  have d0 : 0 ≤ d := by rw [← hd]; exact Int.emod_nonneg _ (by decide)
  have d1 : d < 2147483647 := by rw [← hd]; exact Int.emod_lt_of_pos _ (by decide)
  have c4 : ∀ b : Bool, cmul z (if b = true then 1 else 0) = true := fun b => cmul_r (by cases b <;> decide) (by cases b <;> decide)
  refine ⟨z * (if Ord4.ge.i z (10 ^ 18) = true then 1 else 0), d, Int.mul_nonneg z0 (by split <;> decide), d0, d1, ?_⟩
  simp [hz, c1, c2, c3, hq, p1, hd, lstR]
  have c5 := c4 (Ord4.ge.i z 1000000000000000000)
  rw [if_pos c5]
  have l2 : ∀ (a b : Dt) (ω : Om), lstR [.dat a, .dat b] ω = .ok [a, b] ω := fun a b ω => by
    unfold lstR
    simp
    rw [sizeLine_eq]; decide
  rw [R.bind_ok, R.bind_ok, l2, R.bind_ok]
  simp
theorem pool_first (Γ : Gm) (T : Ss) (xs : List Int) (i c : Int) (a : Sv) (ω' : Om) (hl : xs.length ≤ 63)
    (hc : c = 0 ∧ ¬ i < xs.length ∨ i < xs.length ∧ L2.atI (xs.map Dt.int) i = some (.int c))
    (h : T.ev Γ [some (.dat (.rol (xs.map .int))), some (.dat (.int i)), some (.dat (.int c)), none, none] ω = .rt a ω') :
    ((Ss.one (.set 2 (.cst (.int (0))))
  (.ife (.val (.cmp .lt (.var 1) (.blt .len (.cons (.var 0) .nil))))
  (.one (.set 2 (.idx (.var 0) (.var 1)))
  .nil)
  .nil T))).ev Γ [some (.dat (.rol (xs.map .int))), some (.dat (.int i)), none, none, none] ω = .rt a ω' := by
  rcases hc with ⟨rfl, hi⟩ | ⟨hi, hc⟩
  · simp [Ord4.i, hi, h]
  · simp [Ord4.i, hi, hc, h]
theorem pool_any (Γ : Gm) (xs : List Int) {i : Int} (h0 : 0 ≤ i) (h1 : i ≤ 63) (hl : xs.length ≤ 63) : ∃ s d : Int, 0 ≤ s ∧ 0 ≤ d ∧ d < 2147483647 ∧ fnR poolN 2 (poolB.ev Γ) [.dat (.rol (xs.map .int)), .dat (.int i)] ω = .ok (.own ω.length) (ω ++ [.lst [.int s, .int d]]) := by
  rw [fnR_of (n := 2) rfl]
  have ⟨c, hc⟩ : ∃ c : Int, c = 0 ∧ ¬ i < xs.length ∨ i < xs.length ∧ L2.atI (xs.map Dt.int) i = some (.int c) := by
    by_cases hi : i < xs.length
    · obtain ⟨c, hc⟩ := atI_int h0 hi
      exact ⟨c, .inr ⟨hi, hc⟩⟩
    · exact ⟨0, .inl ⟨rfl, hi⟩⟩
  obtain ⟨s, d, hs, hd, hd2, e⟩ := pool_rest (ω := ω) Γ c i (some (.dat (.rol (xs.map .int)))) h0 h1
  refine ⟨s, d, hs, hd, hd2, ?_⟩
  exact congrArg RS.val (pool_first (ω := ω) Γ _ xs i c _ _ hl hc e)
theorem pool_at {s d : Int} (hs : 0 ≤ s) (hd : 0 ≤ d) (hd2 : d < 2147483647) : PoolAt (ω ++ [.lst [.int s, .int d]]) ω.length := ⟨s, d, hs, hd, hd2, by simp⟩
end
end Vm
end
section
set_option Elab.async false
set_option linter.all false
set_option maxRecDepth 100000
set_option maxHeartbeats 4000000
namespace K10
open PySem PySem.Spec PyProof.Rows L2 Vm
section
variable {ω : Om}
def kstr (t : Bool) : Str := if t = true then "text" else "number"
/-- columns by names and kinds -/
def colsOf (ps : List (Str × Bool)) : List Dt := ps.map fun p => .tup [.str p.1, .str (kstr p.2)]
def okKind (t : Bool) (d : Dt) : Bool := if t = true then textD d else intD d
def rowD (v : Dt) (ps : List (Str × Bool)) : Bool := match v with
  | .tup ds => decide (ds.length = ps.length) && (ds.zip ps).all fun q => okKind q.2.2 q.1
  | _ => false
theorem c_is_row (k : Nat) : (gam tb (k + 1)).call "is_row" = fnR d_is_row.N 2 (b_is_row.ev (gam tb k)) := by kernel_rfl
theorem pairs_mem {as bs : List Dt} {d : Dt} (h : d ∈ pairs as bs) : ∃ a b, a ∈ as ∧ b ∈ bs ∧ d = .tup [a, b] := by
  unfold pairs at h
  obtain ⟨⟨a, b⟩, hm, rfl⟩ := List.mem_map.mp h
  exact ⟨a, b, (List.of_mem_zip hm).1, (List.of_mem_zip hm).2, rfl⟩
def okPair (d : Dt) : Bool := match d with
  | .tup [a, .tup [_, .str k]] => okKind (decide (k = "text")) a
  | _ => false
theorem kstr_text (t : Bool) : decide (kstr t = ("text" : Str)) = t := by cases t <;> decide +kernel
theorem pairs_all (ds : List Dt) (ps : List (Str × Bool)) : (pairs ds (colsOf ps)).all okPair = (ds.zip ps).all fun q => okKind q.2.2 q.1 := by
  induction ds generalizing ps with
  | nil => rfl
  | cons d ds ih =>
    cases ps with
    | nil => rfl
    | cons p ps =>
      show (okKind (decide (kstr p.2 = "text")) d && (pairs ds (colsOf ps)).all okPair) = _
      rw [kstr_text, ih]
      rfl
def rowB : Ss := (.ife (.val (.cmp .eq (.var 4) (.cst (.str "text"))))
  (.ife (.or (.not (.val (.blt .isi (.cons (.var 2) (.cons (.cst (.ty "str")) .nil))))) (.or (.val (.cmp .gt (.blt .len (.cons (.var 2) .nil)) (.cst (.int (20))))) (.val (.mth .strip (.var 2) (.cons (.cst (.str "abcdefghijklmnopqrstuvwxyz0123456789 ")) .nil)))))
  (.one (.ret (.cst (.bl false))) .nil) .nil .nil)
  (.ife (.or (.not (.val (.blt .isi (.cons (.var 2) (.cons (.cst (.ty "int")) .nil))))) (.or (.val (.cmp .is (.var 2) (.cst (.bl true)))) (.val (.cmp .is (.var 2) (.cst (.bl false))))))
  (.one (.ret (.cst (.bl false))) .nil) .nil .nil) .nil)
theorem row_one (k : Nat) {d : Dt} (h : plainD d = true) (t : Bool) (a0 a1 a3 : Option Sv) : rowB.ev (gam tb (k + 1)) [a0, a1, some (.dat d), a3, some (.dat (.str (kstr t)))] ω =
    if okKind t d = true then .nx [a0, a1, some (.dat d), a3, some (.dat (.str (kstr t)))] ω else .rt (.dat (.bl false)) ω := by
  obtain ⟨T, hT⟩ := plain_kind h
  have m1 : "int" ∈ tysB := by decide
  unfold rowB
  cases t with
  | true =>
    have e : decide (kstr true = ("text" : Str)) = true := by decide +kernel
    have m2 : "str" ∈ tysB := by decide
    simp [Vm.eq_str, e, okKind, isi_kind hT m2]
    cases d with
    | str s =>
      cases hT
      have hl : s.length ≤ 1000 := by simpa [plainD] using h
      have e1 : isiB "str" "str" = true := rfl
      by_cases h20 : s.length ≤ 20
      · have h20' : ¬ (20 : Int) < ((s.length : Nat) : Int) := by omega
        cases hh : s.cps.all goodC <;> simp [e1, line_ge hl, Ord4.i, isStrT, h20', stripM, strip_g cont_T hl, textD, h20, hh]
      · have h20' : (20 : Int) < ((s.length : Nat) : Int) := by omega
        simp [e1, line_ge hl, Ord4.i, h20', textD, h20]
    | _ => cases hT <;> rfl
  | false =>
    have e : decide (kstr false = ("text" : Str)) = false := by decide +kernel
    simp [Vm.eq_str, e, okKind, isi_kind hT m1]
    cases d <;> cases hT <;> first
      | rfl
      | (rename_i b; cases b <;> rfl)
def rowI (v c : Dt) (ρ : Ro) : Prop := ∃ a2 a3 a4, ρ = [some (.dat v), some (.dat c), a2, a3, a4]
theorem e_is_row (k : Nat) {v : Dt} (h : deepD v = true) (ps : List (Str × Bool)) (hps : ps.length ≤ 1000) : (gam tb (k + 3)).call "is_row" [.dat v, .dat (.lst (colsOf ps))] ω = .ok (.dat (.bl (rowD v ps))) ω := by
  have hp := deep_plain h
  obtain ⟨T, hT⟩ := plain_kind hp
  rw [c_is_row, fnR_of (n := 2) rfl]
  have m1 : "tuple" ∈ tysB := by decide
  have be : b_is_row = .ife (.or (.not (.val (.blt .isi (.cons (.var 0) (.cons (.cst (.ty "tuple")) .nil))))) (.val (.cmp .ne (.blt .len (.cons (.var 0) .nil)) (.blt .len (.cons (.var 1) .nil))))) (.one (.ret (.cst (.bl false))) .nil) .nil
    (.for (.zip (.var 0) (.var 1)) (.tup (.cons (.name 2) (.cons (.tup (.cons (.name 3) (.cons (.name 4) .nil))) .nil))) rowB (.one (.ret (.cst (.bl true))) .nil)) := rfl
  rw [be]
  generalize hR : rowB = R
  simp only [startR, d_is_row, List.map_cons, List.map_nil, List.length_cons, List.length_nil]
  simp [isi_kind hT m1]
  have cl : (colsOf ps).length = ps.length := by simp [colsOf]
  cases v with
  | tup ds =>
    cases hT
    have e1 : isiB "tuple" "tuple" = true := rfl
    have hd : deepAll ds = true := by
      unfold deepD at h
      exact (Bool.and_eq_true_iff.mp h).1
    simp [e1, Vm.ne_int, cl, dec_cast]
    by_cases hl : ds.length = ps.length
    · rw [if_pos hl]
      subst hR
      have go := forGo_all (ω := ω) (b := bTup 2 (bCons (bName 2) (bCons (bTup 2 (bCons (bName 3) (bCons (bName 4) bNil))) bNil))) (body := rowB.ev (gam tb (k + 2))) (rowI (.tup ds) (.lst (colsOf ps))) okPair (.dat (.bl false)) (pairs ds (colsOf ps)) [some (.dat (.tup ds)), some (.dat (.lst (colsOf ps))), none, none, none] ?_ ⟨_, _, _, rfl⟩
      · rw [pairs_all ds ps] at go
        have it1 : R.of (Dt.tup ds).items ω = .ok ds ω := rfl
        have it2 : (Dt.tup ds).items = some ds := rfl
        have it3 : (Dt.lst (colsOf ps)).items = some (colsOf ps) := rfl
        simp only [rowD, hl, decide_true, Bool.true_and]
        cases e : (ds.zip ps).all fun q => okKind q.2.2 q.1 with
        | true =>
          obtain ⟨ρ', e2, _⟩ := go.1 e
          simp [it2, it3, e2]
        | false =>
          have e2 := go.2 e
          simp [it2, it3, e2]
      · rintro d hm ρ ⟨a2, a3, a4, rfl⟩
        obtain ⟨a, b, ha, hb, rfl⟩ := pairs_mem hm
        unfold colsOf at hb
        obtain ⟨p, _, rfl⟩ := List.mem_map.mp hb
        have r1 := row_one (ω := ω) (k + 1) (deep_plain (deep_mem hd a ha)) p.2 (some (.dat (.tup ds))) (some (.dat (.lst (colsOf ps)))) (some (.dat (.str p.1)))
        have r2 : okPair (.tup [a, .tup [.str p.1, .str (kstr p.2)]]) = okKind p.2 a := by
          show okKind (decide (kstr p.2 = "text")) a = _
          rw [kstr_text]
        rw [r2]
        refine ⟨_, rfl, fun z => ⟨[some (.dat (.tup ds)), some (.dat (.lst (colsOf ps))), some (.dat a), some (.dat (.str p.1)), some (.dat (.str (kstr p.2)))], ?_, ⟨_, _, _, rfl⟩⟩, fun z => ?_⟩
        · exact (r1.trans (by rw [if_pos z]))
        · exact (r1.trans (by rw [z]; rfl))
    · rw [if_neg hl]
      simp [rowD, hl]
  | _ => cases hT <;> rfl

/-! ### lists of kinds are compared -/
def kpy (d : Dt) : PyData := match kindD d with
  | .str s => .str s
  | _ => .none
theorem kind_cases (d : Dt) : (kindD d = .str "text" ∧ textD d = true ∧ intD d = false) ∨ (kindD d = .str "number" ∧ textD d = false ∧ intD d = true) ∨ (kindD d = .non ∧ textD d = false ∧ intD d = false) := by
  unfold kindD
  cases ht : textD d with
  | true =>
    refine .inl ⟨rfl, rfl, ?_⟩
    cases d <;> first | rfl | (simp [textD] at ht)
  | false =>
    cases hi : intD d with
    | true => exact .inr (.inl ⟨rfl, rfl, rfl⟩)
    | false => exact .inr (.inr ⟨rfl, rfl, rfl⟩)
theorem kpy_ok (d : Dt) : (kindD d).py = some (kpy d) ∧ (kpy d).canLay0 = true ∧ (kpy d).depth = 0 := by
  unfold kpy
  rcases kind_cases d with ⟨e, _⟩ | ⟨e, _⟩ | ⟨e, _⟩ <;> rw [e] <;> exact ⟨rfl, by decide +kernel, rfl⟩
theorem pyAll_kinds : ∀ ds : List Dt, pyAll (ds.map kindD) = some (ds.map kpy)
  | [] => rfl
  | d :: ds => by
    show (match (kindD d).py, pyAll (ds.map kindD) with
      | some a, some l => some (a :: l)
      | _, _ => none) = _
    rw [(kpy_ok d).1, pyAll_kinds ds]
    rfl
theorem pyAll_strs : ∀ xs : List Str, pyAll (xs.map Dt.str) = some (xs.map PyData.str)
  | [] => rfl
  | x :: xs => by
    show (match (Dt.str x).py, pyAll (xs.map Dt.str) with
      | some a, some l => some (a :: l)
      | _, _ => none) = _
    rw [pyAll_strs xs]
    rfl
theorem leaves_shaped : ∀ {xs : List PyData}, (∀ x ∈ xs, x.canLay0 = true ∧ x.depth = 0) → PyData.canLayAll0 xs = true ∧ PyData.depthAll xs = 0
  | [], _ => ⟨rfl, rfl⟩
  | x :: xs, h => by
    obtain ⟨h1, h2⟩ := h x (by simp)
    obtain ⟨h3, h4⟩ := leaves_shaped (xs := xs) fun y hy => h y (by simp [hy])
    refine ⟨?_, ?_⟩
    · show (x.canLay0 && PyData.canLayAll0 xs) = true
      rw [h1, h3]; rfl
    · show max x.depth (PyData.depthAll xs) = 0
      rw [h2, h4]; rfl
theorem shaped_list {xs : List PyData} (h : ∀ x ∈ xs, x.canLay0 = true ∧ x.depth = 0) : SeqAt.shaped (.list xs) = true := by
  obtain ⟨h1, h2⟩ := leaves_shaped h
  show (PyData.canLayAll0 xs && decide (PyData.depthAll xs + 1 ≤ 64)) = true
  rw [h1, h2]
  rfl
theorem kpy_eqv (d : Dt) (t : Bool) : PyData.eqv (kpy d) (.str (kstr t)) = okKind t d := by
  unfold kpy okKind
  rcases kind_cases d with ⟨e, h1, h2⟩ | ⟨e, h1, h2⟩ | ⟨e, h1, h2⟩ <;> rw [e, h1, h2] <;> cases t <;> decide +kernel
theorem eqv_kinds : ∀ (ds : List Dt) (ps : List (Str × Bool)), ds.length = ps.length → PyData.eqvAll (ds.map kpy) ((ps.map fun p : Str × Bool => kstr p.2).map PyData.str) = (ds.zip ps).all fun q => okKind q.2.2 q.1
  | [], [], _ => rfl
  | d :: ds, p :: ps, h => by
    show (PyData.eqv (kpy d) (.str (kstr p.2)) && PyData.eqvAll (ds.map kpy) ((ps.map fun p : Str × Bool => kstr p.2).map PyData.str)) = (okKind p.2 d && (ds.zip ps).all fun q => okKind q.2.2 q.1)
    rw [kpy_eqv, eqv_kinds ds ps (by simpa using h)]
  | [], _ :: _, h => by cases h
  | _ :: _, [], h => by cases h
theorem eq_kinds {ds : List Dt} {ps : List (Str × Bool)} (h : ds.length = ps.length) : eqS false (.dat (.lst (ds.map kindD))) (.dat (.lst ((ps.map fun p : Str × Bool => kstr p.2).map Dt.str))) ω = .ok (.dat (.bl ((ds.zip ps).all fun q => okKind q.2.2 q.1))) ω := by
  have e1 : (Dt.lst (ds.map kindD)).py = some (.list (ds.map kpy)) := by
    show (pyAll (ds.map kindD)).map PyData.list = _
    rw [pyAll_kinds]; rfl
  have e2 : (Dt.lst ((ps.map fun p : Str × Bool => kstr p.2).map Dt.str)).py = some (.list ((ps.map fun p : Str × Bool => kstr p.2).map PyData.str)) := by
    show (pyAll _).map PyData.list = _
    rw [pyAll_strs]; rfl
  have s1 : SeqAt.shaped (.list (ds.map kpy)) = true := shaped_list fun x hx => by
    obtain ⟨d, _, rfl⟩ := List.mem_map.mp hx
    exact (kpy_ok d).2
  have s2 : SeqAt.shaped (.list ((ps.map fun p : Str × Bool => kstr p.2).map PyData.str)) = true := shaped_list fun x hx => by
    obtain ⟨y, hy, rfl⟩ := List.mem_map.mp hx
    obtain ⟨p, _, rfl⟩ := List.mem_map.mp hy
    cases p.2 <;> exact ⟨by decide +kernel, rfl⟩
  have key : ω.eq (.dat (.lst (ds.map kindD))) (.dat (.lst ((ps.map fun p : Str × Bool => kstr p.2).map Dt.str))) = some ((ds.zip ps).all fun q => okKind q.2.2 q.1) := by
    show (match scD (.lst (ds.map kindD)) (.lst ((ps.map fun p : Str × Bool => kstr p.2).map Dt.str)) with
      | some c => some c
      | none => match decide ((ds.map kindD).length ≠ ((ps.map fun p : Str × Bool => kstr p.2).map Dt.str).length) with
        | true => some false
        | false => match (Dt.lst (ds.map kindD)).py, (Dt.lst ((ps.map fun p : Str × Bool => kstr p.2).map Dt.str)).py with
          | some p, some q => if SeqAt.shaped p && SeqAt.shaped q then some (PyData.eqv p q) else none
          | _, _ => none) = _
    rw [e1, e2]
    have l : decide ((ds.map kindD).length ≠ ((ps.map fun p : Str × Bool => kstr p.2).map Dt.str).length) = false := decide_eq_false (by simp [h])
    rw [l]
    show (if SeqAt.shaped (.list (ds.map kpy)) && SeqAt.shaped (.list ((ps.map fun p : Str × Bool => kstr p.2).map PyData.str)) then some (PyData.eqvAll (ds.map kpy) ((ps.map fun p : Str × Bool => kstr p.2).map PyData.str)) else none) = _
    rw [s1, s2, eqv_kinds ds ps h]
    rfl
  unfold eqS
  rw [key]
  rfl
theorem c_lrow (k : Nat) : (gam tb (k + 1)).call "_law_is_row" = fnR d_law_is_row.N 2 (b_law_is_row.ev (gam tb k)) := by kernel_rfl
theorem e_lrow (k : Nat) {v : Dt} (h : deepD v = true) (ps : List (Str × Bool)) (hps : ps.length ≤ 1000) : (gam tb (k + 3)).call "_law_is_row" [.dat v, .dat (.lst (colsOf ps))] ω = .ok (.dat (.bl (rowD v ps))) ω := by
  have hp := deep_plain h
  obtain ⟨T, hT⟩ := plain_kind hp
  rw [c_lrow, fnR_of (n := 2) rfl]
  have m1 : "tuple" ∈ tysB := by decide
  simp only [b_law_is_row, startR, d_law_is_row, List.map_cons, List.map_nil, List.length_cons, List.length_nil]
  simp [isi_kind hT m1]
  have cl : (colsOf ps).length = ps.length := by simp [colsOf]
  cases v with
  | tup ds =>
    cases hT
    have e1 : isiB "tuple" "tuple" = true := rfl
    have hd : deepAll ds = true := by
      unfold deepD at h
      exact (Bool.and_eq_true_iff.mp h).1
    simp [e1, Vm.ne_int, cl, dec_cast]
    by_cases hl : ds.length = ps.length
    · rw [if_pos hl]
      have L : ∀ ρ : Ro, ρ = wipeR [some (Sv.dat (Dt.tup ds)), some (Sv.dat (Dt.lst (colsOf ps))), none, none, none] [2] →
          lcGo (bName 2) (T.ev (gam tb (k + 2)) T.yes) (E.ev (gam tb (k + 2)) (E.call "_law_kind" (Es.cons (E.var 2) Es.nil))) ρ ds ω [] = .ok (ds.map kindD) ω := by
        rintro ρ rfl
        refine lcGo_map kindD ds (fun d hm => ⟨_, rfl, rfl, ?_⟩) (by rw [sizeLine_eq]; omega)
        show (gam tb (k + 2)).call "_law_kind" [Sv.dat d] ω = _
        exact e_lkind (k + 1) (deep_plain (deep_mem hd d hm))
      have L2 : ∀ ρ : Ro, ρ = wipeR [some (Sv.dat (Dt.tup ds)), some (Sv.dat (Dt.lst (colsOf ps))), none, none, none] [3, 4] →
          lcGo (bTup 2 (bCons (bName 3) (bCons (bName 4) bNil))) (T.ev (gam tb (k + 2)) T.yes) (E.ev (gam tb (k + 2)) (E.var 4)) ρ (colsOf ps) ω [] = .ok ((ps.map fun p : Str × Bool => kstr p.2).map Dt.str) ω := by
        rintro ρ rfl
        have := lcGo_map (ω := ω) (b := bTup 2 (bCons (bName 3) (bCons (bName 4) bNil))) (ft := T.ev (gam tb (k + 2)) T.yes) (fe := E.ev (gam tb (k + 2)) (E.var 4)) (ρ := wipeR [some (Sv.dat (Dt.tup ds)), some (Sv.dat (Dt.lst (colsOf ps))), none, none, none] [3, 4])
          (fun d => match d with | .tup [_, b] => b | _ => .non) (colsOf ps) (fun d hm => ?_) (by rw [cl, sizeLine_eq]; omega)
        · rw [this]
          unfold colsOf
          rw [List.map_map, List.map_map]
          rfl
        · unfold colsOf at hm
          obtain ⟨p, _, rfl⟩ := List.mem_map.mp hm
          exact ⟨_, rfl, rfl, rfl⟩
      simp only [show (Dt.tup ds).items = some ds from rfl, show (Dt.lst (colsOf ps)).items = some (colsOf ps) from rfl, RS.then_nx, evs'_one, evS_ret, ev_cmp, ev_lcD, evi_seq, ev_var, List.getElem?_cons_zero, List.getElem?_cons_succ, R.bind_ok, fz_dat, of_some, tg_name, tg_tup, tgs_cons, tgs_nil, tgs_len1, tgs_len0, Nat.zero_add, L _ rfl, L2 _ rfl, g_eq, eq_kinds hl, R.toS_ok, RS.then_rt, val_rt]
      simp [rowD, hl]
    · rw [if_neg hl]
      simp [rowD, hl]
  | _ => cases hT <;> rfl
end
end K10
end
section
set_option Elab.async false
set_option linter.all false
set_option maxRecDepth 100000
set_option maxHeartbeats 4000000
namespace K10
open PySem PySem.Spec PyProof.Rows L2 Vm
section
variable {ω : Om}
def five (a b c d e : Bool) : List Dt := [.bl a, .bl b, .bl c, .bl d, .bl e]
def five' (a b c d e : Bool) : PyData := .list [.bool a, .bool b, .bool c, .bool d, .bool e]
theorem five_len : ∀ a b c d e : Bool, (five' a b c d e).shown.length ≤ 1000 := by decide +kernel
theorem repr_five (a b c d e : Bool) : reprS [.dat (.lst (five a b c d e))] ω = .ok (.dat (.str (five' a b c d e).shown)) ω := by
  have key : ω.repr (.dat (.lst (five a b c d e))) = some (five' a b c d e).shown := by
    show (if (five' a b c d e).showable && decide ((five' a b c d e).shown.length ≤ sizeLine) && decide ((five' a b c d e).depth ≤ 60) then some (five' a b c d e).shown else none) = _
    rw [if_pos]
    simp only [Bool.and_eq_true, decide_eq_true_eq]
    exact ⟨⟨rfl, line_ge (five_len a b c d e)⟩, by decide +revert⟩
  unfold reprS
  dsimp only
  rw [key]
theorem c_right (k : Nat) : (gam tb (k + 1)).call "_law_right" = fnR d_law_right.N 2 (b_law_right.ev (gam tb k)) := by kernel_rfl
theorem lst_five (a b c d e : Bool) : lstR [.dat (.bl a), .dat (.bl b), .dat (.bl c), .dat (.bl d), .dat (.bl e)] ω = .ok (five a b c d e) ω := by
  unfold lstR
  simp
  rw [if_pos (by rw [sizeLine_eq]; decide)]
  rfl
theorem isnot_kind (v : Dt) : isS true (.dat (kindD v)) (.dat .non) ω = .ok (.dat (.bl (valueD v))) ω := by
  unfold valueD
  rcases kind_cases v with ⟨e, h1, h2⟩ | ⟨e, h1, h2⟩ | ⟨e, h1, h2⟩ <;> rw [e, h1, h2] <;> rfl
theorem day_kind {Γ : Gm} {ρ : Ro} {v : Dt} (h : ρ[1]? = some (some (.dat v))) (hc : ∀ ω, Γ.call "_law_kind" [.dat v] ω = .ok (.dat (kindD v)) ω) :
    (E.and (.cmp .eq (.call "_law_kind" (.cons (.var 1) .nil)) (.cst (.str "number"))) (.chn .le .le (.cst (.int 0)) (.var 1) (.cst (.int 999)))).ev Γ ρ ω = .ok (.dat (.bl (dayD v))) ω := by
  have e1 : eqS false (.dat (kindD v)) (.dat (.str "number")) ω = .ok (.dat (.bl (intD v))) ω := by
    rcases kind_cases v with ⟨e, h1, h2⟩ | ⟨e, h1, h2⟩ | ⟨e, h1, h2⟩ <;> rw [e, h2]
    · rw [Vm.eq_str, show decide (("text" : Str) = "number") = false by decide +kernel]
    · rw [Vm.eq_str, show decide (("number" : Str) = "number") = true by decide +kernel]
    · rfl
  simp [h, hc, e1]
  cases v with
  | int i =>
    simp [intD, dayD, Ord4.i]
    by_cases h1 : (0 : Int) ≤ i <;> simp [h1]
  | _ => simp [intD, dayD]
theorem e_right (k : Nat) {v : Dt} (h : deepD v = true) (ps : List (Str × Bool)) (hps : ps.length ≤ 1000) : (gam tb (k + 5)).call "_law_right" [.dat (.lst (colsOf ps)), .dat v] ω = .ok (.dat (.bl true)) ω := by
  have hp := deep_plain h
  rw [c_right, fnR_of (n := 2) rfl]
  simp only [b_law_right, startR, d_law_right, List.map_cons, List.map_nil, List.length_cons, List.length_nil]
  have dk := fun ρ (hρ : ρ[1]? = some (some (Sv.dat v))) => day_kind (ω := ω) (Γ := gam tb (k + 4)) (ρ := ρ) hρ (fun ω => e_lkind (k + 3) hp)
  have a1 : (gam tb (k + 4)).call "is_name" [.dat v] ω = .ok (.dat (.bl (nameD v))) ω := e_is_name (k + 3) hp
  have a2 : (gam tb (k + 4)).call "is_value" [.dat v] ω = .ok (.dat (.bl (valueD v))) ω := e_is_value (k + 2) hp
  have a3 : (gam tb (k + 4)).call "is_day" [.dat v] ω = .ok (.dat (.bl (dayD v))) ω := e_is_day (k + 1) hp
  have a4 : (gam tb (k + 4)).call "is_columns" [.dat v] ω = .ok (.dat (.bl (columnsD v))) ω := e_is_columns (k + 1) h
  have a5 : (gam tb (k + 4)).call "is_row" [.dat v, .dat (.lst (colsOf ps))] ω = .ok (.dat (.bl (rowD v ps))) ω := e_is_row (k + 1) h ps hps
  have b1 : (gam tb (k + 4)).call "_law_is_name" [.dat v] ω = .ok (.dat (.bl (nameD v))) ω := e_lname (k + 2) hp
  have b2 : (gam tb (k + 4)).call "_law_kind" [.dat v] ω = .ok (.dat (kindD v)) ω := e_lkind (k + 3) hp
  have b4 : (gam tb (k + 4)).call "_law_is_columns" [.dat v] ω = .ok (.dat (.bl (columnsD v))) ω := e_lcolumns k h
  have b5 : (gam tb (k + 4)).call "_law_is_row" [.dat v, .dat (.lst (colsOf ps))] ω = .ok (.dat (.bl (rowD v ps))) ω := e_lrow (k + 1) h ps hps
  simp only [evs'_one, evS_set, ev_lstD, evs_cons, evs_nil, ev_call, ev_var, List.getElem?_cons_zero, List.getElem?_cons_succ, R.bind_ok, a1, a2, a3, a4, a5, lst_five, R.toS_ok, RS.then_nx,
    List.cons_append, List.nil_append, List.replicate, List.set_cons_succ, List.set_cons_zero]
  rw [dk _ rfl]
  simp only [evs'_one, evS_set, evS_ret, ev_lstD, ev_cmp, ev_blt, ev_cst, evs_cons, evs_nil, ev_call, ev_var, List.getElem?_cons_zero, List.getElem?_cons_succ, R.bind_ok, b1, b2, b4, b5, g_isnot, isnot_kind, lst_five, R.toS_ok, RS.then_nx, RS.then_rt, val_rt,
    List.set_cons_succ, List.set_cons_zero, g_repr, repr_five, g_eq, Vm.eq_str, decide_true]
end
end K10
end
section
set_option Elab.async false
set_option linter.all false
set_option maxRecDepth 100000
set_option maxHeartbeats 4000000
namespace K10
open PySem PySem.Spec PyProof.Rows L2 Vm
section
variable {ω : Om}
/-- small data that are asked and shown -/
def smB (d : Dt) : Bool := deepD d && (match d.pyR with
  | some p => p.showable && (p.leavesShort 100 && (decide (p.bulk ≤ 100) && decide (p.depth ≤ 5)))
  | none => false)
theorem sm_deep {d : Dt} (h : smB d = true) : deepD d = true := (Bool.and_eq_true_iff.mp h).1
theorem sm_py {d : Dt} (h : smB d = true) : ∃ p, d.pyR = some p ∧ p.showable = true ∧ p.leavesShort 100 = true ∧ p.bulk ≤ 100 ∧ p.depth ≤ 5 := by
  have h := (Bool.and_eq_true_iff.mp h).2
  split at h
  · rename_i p e
    simp only [Bool.and_eq_true, decide_eq_true_eq] at h
    exact ⟨p, e, h.1, h.2.1, h.2.2.1, h.2.2.2⟩
  · cases h
theorem sm_all : ∀ {ds : List Dt}, (∀ d ∈ ds, smB d = true) → deepAll ds = true ∧ ∃ ps, pyRAll ds = some ps ∧ PyData.showableAll ps = true ∧ PyData.leavesShortAll 100 ps = true ∧ PyData.bulkAll ps ≤ 101 * ds.length ∧ PyData.depthAll ps ≤ 5
  | [], _ => ⟨rfl, [], rfl, rfl, rfl, Nat.le_refl _, Nat.zero_le _⟩
  | d :: ds, h => by
    obtain ⟨h1, ps, e1, e2, e3, e4, e5⟩ := sm_all (ds := ds) fun x hx => h x (by simp [hx])
    have hd := h d (by simp)
    obtain ⟨p, p1, p2, p3, p4, p5⟩ := sm_py hd
    refine ⟨?_, p :: ps, ?_, ?_, ?_, ?_, ?_⟩
    · show (deepD d && deepAll ds) = true
      rw [sm_deep hd, h1]; rfl
    · show (match d.pyR, pyRAll ds with
        | some a, some l => some (a :: l)
        | _, _ => none) = _
      rw [p1, e1]
    · show (p.showable && PyData.showableAll ps) = true
      rw [p2, e2]; rfl
    · show (p.leavesShort 100 && PyData.leavesShortAll 100 ps) = true
      rw [p3, e3]; rfl
    · show p.bulk + 1 + PyData.bulkAll ps ≤ _
      simp only [List.length_cons]
      omega
    · show max p.depth (PyData.depthAll ps) ≤ 5
      omega
theorem sm_list {ds : List Dt} (h : ∀ d ∈ ds, smB d = true) (hl : ds.length ≤ 1000) : deepD (.lst ds) = true ∧ deepD (.tup ds) = true := by
  have := (sm_all h).1
  constructor <;> (unfold deepD; rw [this]; simp [hl])
theorem repr_sm {ds : List Dt} (h : ∀ d ∈ ds, smB d = true) (hl : ds.length ≤ 30) : ∃ z : Str, ∀ ω : Om, reprS [.dat (.lst ds)] ω = .ok (.dat (.str z)) ω := by
  obtain ⟨_, ps, e1, e2, e3, e4, e5⟩ := sm_all h
  refine ⟨(PyData.list ps).shown, fun ω => ?_⟩
  have e : (Dt.lst ds).pyR = some (.list ps) := by
    show (pyRAll ds).map PyData.list = _
    rw [e1]; rfl
  have len : (PyData.list ps).shown.length ≤ sizeLine := by
    have := PyData.shown_le_bulk 100 (by decide) (.list ps) e3
    have b : (PyData.list ps).bulk = PyData.bulkAll ps := rfl
    rw [b] at this
    rw [sizeLine_eq]
    have : (100 + 2) * PyData.bulkAll ps ≤ 102 * 3030 := by omega
    omega
  have dep : (PyData.list ps).depth ≤ 60 := by
    show PyData.depthAll ps + 1 ≤ 60
    omega
  have key : ω.repr (.dat (.lst ds)) = some (PyData.list ps).shown := by
    unfold Om.repr
    rw [toD_dat]
    dsimp only
    rw [e]
    dsimp only
    rw [if_pos]
    simp only [Bool.and_eq_true, decide_eq_true_eq]
    exact ⟨⟨e2, len⟩, dep⟩
  unfold reprS
  dsimp only
  rw [key]
/-! ### the odd values -/
def oddA : List Dt := [.non, .bl true, .bl false, .str "", .str "A", .str "a1", .str "a b", .str "a~", .str "ninesigns", .str "sum", .str "today", .tup [], .lst [], .dic [], .tup [.str "a"], .lst [.str "a"]]
def oddB : List Dt := [.int (-1), .int 999, .int 1000, .int 1000000000000000000000000000000000000000, .str "aaaaaaaaaaaaaaaaaaaa", .str "aaaaaaaaaaaaaaaaaaaaa", .str "0", .str "a_b", .str "a\n", .str " ", .str "eight", .str "abcdefgh", .tup [.str "a", .str "text"]]
theorem odd_sm : ∀ d ∈ oddA ++ oddB, smB d = true := by
  have : (oddA ++ oddB).all smB = true := by decide +kernel
  exact List.all_eq_true.mp this
theorem atI_mem {xs : List Dt} {r : Int} (h0 : 0 ≤ r) (h1 : r < xs.length) : ∃ d, d ∈ xs ∧ L2.atI xs r = some d := by
  have hr : r.toNat < xs.length := by omega
  refine ⟨xs[r.toNat], List.getElem_mem hr, ?_⟩
  unfold L2.atI L2.ixN
  rw [if_pos h0, if_pos h1]
  exact List.getElem?_eq_getElem hr
theorem c_odd (k : Nat) : (gam tb (k + 1)).call "_law_odd" = fnR d_law_odd.N 1 (b_law_odd.ev (gam tb k)) := by kernel_rfl
theorem e_odd (k : Nat) {j : Nat} (h : PoolAt ω j) : ∃ d ω', (gam tb (k + 2)).call "_law_odd" [.own j] ω = .ok (.dat d) ω' ∧ smB d = true ∧ Pl j ω ω' := by
  obtain ⟨r, ω', e, h0, h1, pl⟩ := take_ok k h (m := 29) (by decide) (by decide)
  obtain ⟨d, hd, ea⟩ := atI_mem (xs := oddA ++ oddB) h0 (by simpa [oddA, oddB] using h1)
  refine ⟨d, ω', ?_, odd_sm d hd, pl⟩
  rw [c_odd, fnR_of (n := 1) rfl]
  have x1 : ∀ Γ : Gm, b_law_odd.ev Γ (startR d_law_odd.N [Sv.own j]) ω = (((Γ.call "_law_take" [.own j, .dat (.int 29)] ω).bind fun b ω2 => idxS (.dat (.lst (oddA ++ oddB))) b ω2).toS [some (Sv.own j), some (.dat (.lst (oddA ++ oddB)))] fun a ω1 => .rt a ω1).then (Ss.nil.ev Γ) := by
    intro Γ
    kernel_rfl
  rw [x1, e, R.bind_ok]
  simp [ea]
end
end K10
end
section
set_option Elab.async false
set_option linter.all false
set_option maxRecDepth 100000
set_option maxHeartbeats 4000000
namespace K10
open PySem PySem.Spec PyProof.Rows L2 Vm
section
variable {ω : Om}
theorem c_pool (k : Nat) : (gam tb (k + 1)).call "_law_pool" = fnR d_law_pool.N 2 (b_law_pool.ev (gam tb k)) := by kernel_rfl
theorem atI_int {xs : List Int} {i : Int} (h0 : 0 ≤ i) (h1 : i < xs.length) : ∃ c, L2.atI (xs.map Dt.int) i = some (.int c) := by
  obtain ⟨d, hd, e⟩ := atI_mem (xs := xs.map Dt.int) h0 (by simpa using h1)
  obtain ⟨c, _, rfl⟩ := List.mem_map.mp hd
  exact ⟨c, e⟩
/-- the second half of the def, from the cell -/
theorem pool_rest (Γ : Gm) (c i : Int) (x : Option Sv) (h0 : 0 ≤ i) (h1 : i ≤ 63) : ∃ s d : Int, 0 ≤ s ∧ 0 ≤ d ∧ d < 2147483647 ∧
    ((Ss.one (.set 3 (.blt .abs (.cons (.var 2) .nil)))
  (.one (.set 4 (.bin .mod (.bin .pow (.bin .add (.bin .add (.bin .add (.bin .mod (.var 2) (.cst (.int (2147483629)))) (.bin .mul (.bin .mul (.cst (.int (104729))) (.var 1)) (.var 1))) (.bin .mul (.cst (.int (7919))) (.var 1))) (.cst (.int (11)))) (.cst (.int (3)))) (.cst (.int (2147483647)))))
  (.one (.ret (.lst true (.cons (.bin .mul (.var 3) (.blt .int (.cons (.cmp .ge (.var 3) (.bin .pow (.cst (.int (10))) (.cst (.int (18))))) .nil))) (.cons (.var 4) .nil))))
  .nil))).ev Γ [x, some (.dat (.int i)), some (.dat (.int c)), none, none] ω) = .rt (.own ω.length) (ω ++ [.lst [.int s, .int d]]) := by
  generalize hz : (if c < 0 then -c else c) = z
  have z0 : 0 ≤ z := by
    rw [← hz]
    split <;> omega
  have c1 : cmul 104729 i = true := cmul_l (by decide) (by decide)
  have c2 : cmul (104729 * i) i = true := cmul_r (by omega) (by omega)
  have c3 : cmul 7919 i = true := cmul_l (by decide) (by decide)
  have bnd : 104729 * i * i ≤ 104729 * 63 * 63 ∧ 0 ≤ 104729 * i * i := by
    have h2 : i * i ≤ 63 * 63 := Int.mul_le_mul h1 h1 h0 (by decide)
    have h3 : 0 ≤ i * i := Int.mul_nonneg h0 h0
    rw [Int.mul_assoc]
    omega
  generalize hq : 104729 * i * i = q at bnd
  have m0 : 0 ≤ c % 2147483629 := Int.emod_nonneg _ (by decide)
  have m1 : c % 2147483629 < 2147483629 := Int.emod_lt_of_pos _ (by decide)
  have p1 : (c % 2147483629 + q + 7919 * i + 11).natAbs < 18446744073709551616 := by omega
  have p2 : (10 : Int).natAbs < 18446744073709551616 := by decide
  generalize hd : (c % 2147483629 + q + 7919 * i + 11) ^ 3 % 2147483647 = d
  have d0 : 0 ≤ d := by rw [← hd]; exact Int.emod_nonneg _ (by decide)
  have d1 : d < 2147483647 := by rw [← hd]; exact Int.emod_lt_of_pos _ (by decide)
  have c4 : ∀ b : Bool, cmul z (if b = true then 1 else 0) = true := fun b => cmul_r (by cases b <;> decide) (by cases b <;> decide)
  refine ⟨z * (if Ord4.ge.i z (10 ^ 18) = true then 1 else 0), d, Int.mul_nonneg z0 (by split <;> decide), d0, d1, ?_⟩
  simp [hz, c1, c2, c3, hq, p1, hd, lstR]
  have c5 := c4 (Ord4.ge.i z 1000000000000000000)
  rw [if_pos c5]
  have l2 : ∀ (a b : Dt) (ω : Om), lstR [.dat a, .dat b] ω = .ok [a, b] ω := fun a b ω => by
    unfold lstR
    simp
    rw [sizeLine_eq]; decide
  rw [R.bind_ok, R.bind_ok, l2, R.bind_ok]
  simp
theorem pool_first (Γ : Gm) (T : Ss) (xs : List Int) (i c : Int) (a : Sv) (ω' : Om) (hl : xs.length ≤ 63)
    (hc : c = 0 ∧ ¬ i < xs.length ∨ i < xs.length ∧ L2.atI (xs.map Dt.int) i = some (.int c))
    (h : T.ev Γ [some (.dat (.rol (xs.map .int))), some (.dat (.int i)), some (.dat (.int c)), none, none] ω = .rt a ω') :
    ((Ss.one (.set 2 (.cst (.int (0))))
  (.ife (.val (.cmp .lt (.var 1) (.blt .len (.cons (.var 0) .nil))))
  (.one (.set 2 (.idx (.var 0) (.var 1)))
  .nil)
  .nil T))).ev Γ [some (.dat (.rol (xs.map .int))), some (.dat (.int i)), none, none, none] ω = .rt a ω' := by
  rcases hc with ⟨rfl, hi⟩ | ⟨hi, hc⟩
  · simp [Ord4.i, hi, h]
  · simp [Ord4.i, hi, hc, h]
theorem e_pool (k : Nat) (xs : List Int) {i : Int} (h0 : 0 ≤ i) (h1 : i ≤ 63) (hl : xs.length ≤ 63) : ∃ s d : Int, 0 ≤ s ∧ 0 ≤ d ∧ d < 2147483647 ∧ (gam tb (k + 1)).call "_law_pool" [.dat (.rol (xs.map .int)), .dat (.int i)] ω = .ok (.own ω.length) (ω ++ [.lst [.int s, .int d]]) := by
  rw [c_pool, fnR_of (n := 2) rfl]
  have ⟨c, hc⟩ : ∃ c : Int, c = 0 ∧ ¬ i < xs.length ∨ i < xs.length ∧ L2.atI (xs.map Dt.int) i = some (.int c) := by
    by_cases hi : i < xs.length
    · obtain ⟨c, hc⟩ := atI_int h0 hi
      exact ⟨c, .inr ⟨hi, hc⟩⟩
    · exact ⟨0, .inl ⟨rfl, hi⟩⟩
  obtain ⟨s, d, hs, hd, hd2, e⟩ := pool_rest (ω := ω) (gam tb k) c i (some (.dat (.rol (xs.map .int)))) h0 h1
  refine ⟨s, d, hs, hd, hd2, ?_⟩
  exact congrArg RS.val (pool_first (ω := ω) (gam tb k) _ xs i c _ _ hl hc e)
theorem pool_at {s d : Int} (hs : 0 ≤ s) (hd : 0 ≤ d) (hd2 : d < 2147483647) : PoolAt (ω ++ [.lst [.int s, .int d]]) ω.length := ⟨s, d, hs, hd, hd2, by simp⟩
end
end K10
end
section
set_option Elab.async false
set_option linter.all false
set_option maxRecDepth 100000
set_option maxHeartbeats 4000000
namespace K10
open PySem PySem.Spec PyProof.Rows L2 Vm
section
variable {ω : Om}
theorem cutD_mem {xs : List Dt} {lo hi : Option Int} {x : Dt} (h : x ∈ Vm.cutD xs lo hi) : x ∈ xs := List.mem_of_mem_drop (List.mem_of_mem_take h)
theorem cutD_len (xs : List Dt) (lo hi : Option Int) : (Vm.cutD xs lo hi).length ≤ xs.length := by
  unfold Vm.cutD
  rw [List.length_take, List.length_drop]
  omega
theorem add_lst {xs ys : List Dt} (h : xs.length + ys.length ≤ 1000) : addS (.dat (.lst xs)) (.dat (.lst ys)) ω = .ok (.dat (.lst (xs ++ ys))) ω := by
  show (if xs.length + ys.length ≤ sizeLine then R.ok (Sv.dat (.lst (xs ++ ys))) ω else .no) = _
  rw [if_pos (line_ge h)]
theorem lst_one (a : Dt) : lstR [.dat a] ω = .ok [a] ω := by
  unfold lstR
  simp
  rw [sizeLine_eq]; decide
theorem lst_two (a b : Dt) : lstR [.dat a, .dat b] ω = .ok [a, b] ω := by
  unfold lstR
  simp
  rw [sizeLine_eq]; decide
theorem lst_four (a b c d : Dt) : lstR [.dat a, .dat b, .dat c, .dat d] ω = .ok [a, b, c, d] ω := by
  unfold lstR
  simp
  rw [sizeLine_eq]; decide
theorem c_bent (k : Nat) : (gam tb (k + 1)).call "_law_bent" = fnR d_law_bent.N 2 (b_law_bent.ev (gam tb k)) := by kernel_rfl
theorem e_bent (k : Nat) {j : Nat} {ds : List Dt} (h : PoolAt ω j) (hd : ∀ d ∈ ds, smB d = true) (h0 : 1 ≤ ds.length) (h1 : ds.length ≤ 12) : ∃ es ω', (gam tb (k + 3)).call "_law_bent" [.own j, .dat (.lst ds)] ω = .ok (.dat (.lst es)) ω' ∧ (∀ d ∈ es, smB d = true) ∧ es.length ≤ 30 ∧ Pl j ω ω' := by
  obtain ⟨r, ω1, e1, r0, r1, pl1⟩ := take_ok (k + 1) h (m := (ds.length : Int)) (by omega) (by omega)
  obtain ⟨o, ω2, e2, ho, pl2⟩ := e_odd k pl1.1
  obtain ⟨q, ω3, e3, q0, q1, pl3⟩ := take_ok (k + 1) pl2.1 (m := 4) (by decide) (by decide)
  obtain ⟨x, hx, ex⟩ := atI_mem (xs := ds) r0 r1
  have a1 := cutD_len ds none (some r)
  have a2 := cutD_len ds (some (r + 1)) none
  generalize ha : Vm.cutD ds none (some r) = A at a1
  generalize hb : Vm.cutD ds (some (r + 1)) none = B at a2
  have mA : ∀ d ∈ A, smB d = true := fun d h => hd d (by rw [← ha] at h; exact cutD_mem h)
  have mB : ∀ d ∈ B, smB d = true := fun d h => hd d (by rw [← hb] at h; exact cutD_mem h)
  have b1 : ∀ ω, addS (.dat (.lst A)) (.dat (.lst [o])) ω = .ok (.dat (.lst (A ++ [o]))) ω := fun ω => add_lst (by simp; omega)
  have b2 : ∀ ω, addS (.dat (.lst (A ++ [o]))) (.dat (.lst B)) ω = .ok (.dat (.lst ((A ++ [o]) ++ B))) ω := fun ω => add_lst (by simp; omega)
  have b3 : ∀ ω, addS (.dat (.lst A)) (.dat (.lst B)) ω = .ok (.dat (.lst (A ++ B))) ω := fun ω => add_lst (by omega)
  have b4 : ∀ ω, addS (.dat (.lst ds)) (.dat (.lst [x])) ω = .ok (.dat (.lst (ds ++ [x]))) ω := fun ω => add_lst (by simp; omega)
  obtain ⟨y, hy, ey⟩ := atI_mem (xs := [.lst ((A ++ [o]) ++ B), .lst (A ++ B), .lst (ds ++ [x]), .lst ds]) q0 (by simpa using q1)
  have fin : ∃ es : List Dt, y = .lst es ∧ (∀ d ∈ es, smB d = true) ∧ es.length ≤ 30 := by
    simp only [List.mem_cons, List.not_mem_nil, or_false] at hy
    rcases hy with rfl | rfl | rfl | rfl
    · refine ⟨_, rfl, fun d hm => ?_, by simp; omega⟩
      simp only [List.mem_append, List.mem_cons, List.not_mem_nil, or_false] at hm
      rcases hm with (h | rfl) | h
      · exact mA d h
      · exact ho
      · exact mB d h
    · refine ⟨_, rfl, fun d hm => ?_, by simp; omega⟩
      simp only [List.mem_append] at hm
      rcases hm with h | h
      · exact mA d h
      · exact mB d h
    · refine ⟨_, rfl, fun d hm => ?_, by simp; omega⟩
      simp only [List.mem_append, List.mem_cons, List.not_mem_nil, or_false] at hm
      rcases hm with h | rfl
      · exact hd d h
      · exact hd _ hx
    · exact ⟨_, rfl, hd, by omega⟩
  obtain ⟨es, rfl, f1, f2⟩ := fin
  refine ⟨es, ω3, ?_, f1, f2, (pl1.trans pl2).trans pl3⟩
  rw [c_bent, fnR_of (n := 2) rfl]
  simp only [b_law_bent]
  rw [show (A ++ [o]) ++ B = A ++ o :: B by simp] at ey
  simp [startR, d_law_bent, e1, e2, ha, hb, lst_one, b1, b2, b3, ex, b4, lst_four, e3, ey]
end
end K10
end
section
set_option Elab.async false
set_option linter.all false
set_option maxRecDepth 100000
set_option maxHeartbeats 4000000
namespace Vm
open PySem PySem.Spec PyProof.Rows L2
section
variable {b : Dt → Ro → Option Ro} {ft : Ro → Om → R Bool} {fe : Ro → Om → R Sv} {ρ : Ro} {body : Ro → Om → RS}
end
end Vm
namespace K10
open PySem PySem.Spec PyProof.Rows L2 Vm
section
variable {ω : Om}
def sAK : Str := "abcdefghijk"
def sX : Str := "x"
def namesL : List Str := sAK.cps.toList.flatMap fun c => (List.range 8).map fun (r : Nat) => (⟨#[c]⟩ : Str) ++ Txt.mul sX ((r : Nat) : Int)
theorem names_col : ∀ s ∈ namesL, ∀ t : Bool, smB (.tup [.str s, .str (kstr t)]) = true := by
  have : (namesL.all fun s => smB (.tup [.str s, .str (kstr true)]) && smB (.tup [.str s, .str (kstr false)])) = true := by decide +kernel
  intro s hs t
  have := List.all_eq_true.mp this s hs
  rw [Bool.and_eq_true] at this
  cases t
  · exact this.2
  · exact this.1
theorem cut_ak : ∀ r : Nat, r < 11 → ∃ z, slS (.dat (.str sAK)) none (some (1 + (r : Int))) ω = .ok (.dat (.str z)) ω ∧ (Vm.signs z).length = r + 1 ∧ ∀ d ∈ Vm.signs z, d ∈ Vm.signs sAK := by
  intro r hr
  have key : ∀ r : Nat, r < 11 → (Vm.signs (cutS sAK none (some (1 + (r : Int))))).length = r + 1 ∧ ((cutS sAK none (some (1 + (r : Int)))).cps.toList.all fun c => sAK.cps.toList.contains c) = true := by decide +kernel
  obtain ⟨h1, h2⟩ := key r hr
  refine ⟨_, ?_, h1, fun d hd => ?_⟩
  · show (if sAK.length ≤ sizeLine then R.ok (Sv.dat (.str (cutS sAK none (some (1 + (r : Int)))))) ω else .no) = _
    rw [if_pos (by rw [sizeLine_eq]; decide +kernel)]
  · obtain ⟨c, hc, rfl⟩ := List.mem_map.mp hd
    exact List.mem_map.mpr ⟨c, List.contains_iff_mem.mp (List.all_eq_true.mp h2 c hc), rfl⟩
theorem mul_x {r : Int} (h0 : 0 ≤ r) (h1 : r < 8) : mulS (.dat (.str sX)) (.dat (.int r)) ω = .ok (.dat (.str (Txt.mul sX r))) ω := by
  show (if (decide (-2 ^ 62 < r) && decide (r < 2 ^ 62) && decide (sX.length * r.toNat ≤ 1000000)) = true then R.ok (Sv.dat (Dt.str (Txt.mul sX r))) ω else R.no) = _
  have : sX.length = 1 := rfl
  rw [if_pos]
  simp only [Bool.and_eq_true, decide_eq_true_eq, this]
  omega
theorem add_x {r : Int} (h0 : 0 ≤ r) (h1 : r < 8) {d : Dt} (hd : d ∈ Vm.signs sAK) : ∃ s ∈ namesL, ∀ ω, addS (.dat d) (.dat (.str (Txt.mul sX r))) ω = .ok (.dat (.str s)) ω := by
  obtain ⟨n, rfl⟩ : ∃ n : Nat, r = n := ⟨r.toNat, by omega⟩
  obtain ⟨c, hc, rfl⟩ := List.mem_map.mp hd
  refine ⟨(⟨#[c]⟩ : Str) ++ Txt.mul sX n, List.mem_flatMap.mpr ⟨c, hc, List.mem_map.mpr ⟨n, List.mem_range.mpr (by omega), rfl⟩⟩, fun ω => ?_⟩
  have key : ∀ n : Nat, n < 8 → (Txt.mul sX (n : Int)).length ≤ 10 := by decide +kernel
  have := key n (by omega)
  have l1 : (⟨#[c]⟩ : Str).length = 1 := rfl
  rw [add_str, if_pos]
  rw [l1]
  exact line_ge (by omega)
/-- the names -/
def P1 (acc : List Dt) : Prop := ∃ ss : List Str, acc = ss.map .str ∧ ∀ s ∈ ss, s ∈ namesL
theorem e_names (k : Nat) {j : Nat} (h : PoolAt ω j) {ρ : Ro} (h2 : ρ[2]? = some (some (.own j))) (hl : ρ.length = 14) : ∃ (ss : List Str) (ω' : Om), (E.lc false (.seq (.sl (.cst (.str "abcdefghijk")) .non (.som (.bin .add (.cst (.int (1))) (.call "_law_take" (.cons (.var 2) (.cons (.cst (.int (11))) .nil))))))) (.name 12) .yes (.bin .add (.var 12) (.bin .mul (.cst (.str "x")) (.call "_law_take" (.cons (.var 2) (.cons (.cst (.int (8))) .nil))))) [12]).ev (gam tb (k + 1)) ρ ω = .ok (.dat (.lst (ss.map .str))) ω' ∧ (∀ s ∈ ss, s ∈ namesL) ∧ 1 ≤ ss.length ∧ ss.length ≤ 11 ∧ Pl j ω ω' := by
  obtain ⟨r, ω1, e1, r0, r1, pl1⟩ := take_ok k h (m := 11) (by decide) (by decide)
  obtain ⟨n, rfl⟩ : ∃ n : Nat, r = n := ⟨r.toNat, by omega⟩
  obtain ⟨z, ez, zl, zm⟩ := cut_ak (ω := ω1) n (by omega)
  have ez : slS (.dat (.str "abcdefghijk")) none (some (1 + (n : Int))) ω1 = _ := ez
  have it : R.of (Dt.str z).items ω1 = .ok (Vm.signs z) ω1 := rfl
  have go := lcGo_inv (b := bName 12) (ft := T.yes.ev (gam tb (k + 1))) (fe := (E.bin .add (.var 12) (.bin .mul (.cst (.str "x")) (.call "_law_take" (.cons (.var 2) (.cons (.cst (.int (8))) .nil))))).ev (gam tb (k + 1))) (ρ := wipeR ρ [12]) (Pl j ω1) P1 (Vm.signs z) [] ω1 ?_ (by rw [sizeLine_eq]; simp; omega) ⟨[], rfl, by simp⟩ (Pl.refl pl1.1)
  · obtain ⟨es, ω2, e2, pl2, ⟨ss, rfl, hs⟩, hl2⟩ := go
    simp at hl2
    refine ⟨ss, ω2, ?_, hs, by omega, by omega, pl1.trans pl2⟩
    simp [h2, e1, ez, it, e2]
  · intro d hd acc ω3 ⟨ss, hss, hs⟩ hi
    obtain ⟨q, ω4, e4, q0, q1, pl4⟩ := take_ok k hi.1 (m := 8) (by decide) (by decide)
    obtain ⟨s, hm, ea⟩ := add_x q0 q1 (zm d hd)
    have em : mulS (.dat (.str "x")) (.dat (.int q)) ω4 = _ := mul_x q0 q1
    have g0 : ((wipeR ρ [12]).set 12 (some (Sv.dat d)))[2]? = some (some (Sv.own j)) := by
      simp [wipeR, h2]
    have g1 : ((wipeR ρ [12]).set 12 (some (Sv.dat d)))[12]? = some (some (Sv.dat d)) := by
      simp [wipeR, hl]
    refine ⟨(wipeR ρ [12]).set 12 (some (.dat d)), .str s, ω4, rfl, rfl, ?_, hi.trans pl4, ss ++ [s], by rw [hss]; simp, ?_⟩
    · simp [g0, g1, e4, em, ea]
    · intro x hx
      simp only [List.mem_append, List.mem_cons, List.not_mem_nil, or_false] at hx
      rcases hx with hx | rfl
      · exact hs x hx
      · exact hm
end
end K10
end
section
set_option Elab.async false
set_option linter.all false
set_option maxRecDepth 100000
set_option maxHeartbeats 4000000
namespace K10
open PySem PySem.Spec PyProof.Rows L2 Vm
section
variable {ω : Om}
theorem two_kinds {q : Int} (h0 : 0 ≤ q) (h1 : q < 2) : ∃ t : Bool, L2.atI [Dt.str "number", .str "text"] q = some (.str (kstr t)) := by
  have : q = 0 ∨ q = 1 := by omega
  rcases this with rfl | rfl
  · exact ⟨false, rfl⟩
  · exact ⟨true, rfl⟩
def P2 (acc : List Dt) : Prop := ∃ ps, acc = colsOf ps ∧ ∀ d ∈ acc, smB d = true
theorem e_cols (k : Nat) {j : Nat} (h : PoolAt ω j) {ρ : Ro} (h2 : ρ[2]? = some (some (.own j))) (hl : ρ.length = 14) {ss : List Str} (h3 : ρ[3]? = some (some (.dat (.lst (ss.map .str))))) (hss : ∀ s ∈ ss, s ∈ namesL) (hn : ss.length ≤ 11) :
    ∃ (ps : List (Str × Bool)) (ω' : Om), (E.lc false (.seq (.var 3)) (.name 7) .yes (.tup (.cons (.var 7) (.cons (.idx (.lst false (.cons (.cst (.str "number")) (.cons (.cst (.str "text")) .nil))) (.call "_law_take" (.cons (.var 2) (.cons (.cst (.int (2))) .nil)))) .nil))) [7]).ev (gam tb (k + 1)) ρ ω = .ok (.dat (.lst (colsOf ps))) ω' ∧ (∀ d ∈ colsOf ps, smB d = true) ∧ ps.length = ss.length ∧ Pl j ω ω' := by
  have go := lcGo_inv (b := bName 7) (ft := T.yes.ev (gam tb (k + 1))) (fe := (E.tup (.cons (.var 7) (.cons (.idx (.lst false (.cons (.cst (.str "number")) (.cons (.cst (.str "text")) .nil))) (.call "_law_take" (.cons (.var 2) (.cons (.cst (.int (2))) .nil)))) .nil))).ev (gam tb (k + 1))) (ρ := wipeR ρ [7]) (Pl j ω) P2 (ss.map .str) [] ω ?_ (by rw [sizeLine_eq]; simp; omega) ⟨[], rfl, by simp⟩ (Pl.refl h)
  · obtain ⟨es, ω2, e2, pl2, ⟨ps, rfl, hs⟩, hl2⟩ := go
    simp [colsOf] at hl2
    refine ⟨ps, ω2, ?_, hs, hl2, pl2⟩
    have it : ∀ ω : Om, R.of (Dt.lst (ss.map .str)).items ω = .ok (ss.map .str) ω := fun _ => rfl
    simp [h3, it, e2]
  · intro d hd acc ω3 ⟨ps, hps, hs⟩ hi
    obtain ⟨s, hsm, rfl⟩ := List.mem_map.mp hd
    obtain ⟨q, ω4, e4, q0, q1, pl4⟩ := take_ok k hi.1 (m := 2) (by decide) (by decide)
    obtain ⟨t, et⟩ := two_kinds q0 q1
    have g0 : ((wipeR ρ [7]).set 7 (some (Sv.dat (Dt.str s))))[2]? = some (some (Sv.own j)) := by
      simp [wipeR, h2]
    have g1 : ((wipeR ρ [7]).set 7 (some (Sv.dat (Dt.str s))))[7]? = some (some (Sv.dat (Dt.str s))) := by
      simp [wipeR, hl]
    refine ⟨(wipeR ρ [7]).set 7 (some (.dat (.str s))), .tup [.str s, .str (kstr t)], ω4, rfl, rfl, ?_, hi.trans pl4, ps ++ [(s, t)], by rw [hps]; simp [colsOf], ?_⟩
    · have s2 : 2 ≤ sizeLine := by rw [sizeLine_eq]; decide
      simp [g0, g1, e4, et, lst_two, s2]
    · intro x hx
      simp only [List.mem_append, List.mem_cons, List.not_mem_nil, or_false] at hx
      rcases hx with hx | rfl
      · exact hs x hx
      · exact names_col s (hss s hsm) t
/-! ### the row -/
structure Reg (xs : List Int) (j jr : Nat) (ps : List (Str × Bool)) (ρ : Ro) : Prop where
  len : ρ.length = 14
  s0 : ρ[0]? = some (some (.dat (.rol (xs.map .int))))
  s2 : ρ[2]? = some (some (.own j))
  s4 : ρ[4]? = some (some (.dat (.lst (colsOf ps))))
  s5 : ρ[5]? = some (some (.own jr))
theorem Reg.put {xs : List Int} {j jr : Nat} {ps : List (Str × Bool)} {ρ : Ro} (r : Reg xs j jr ps ρ) {i : Nat} (h : 6 ≤ i) (a : Option Sv) : Reg xs j jr ps (ρ.set i a) :=
  ⟨by simp [r.len], by rw [List.getElem?_set_ne (by omega), r.s0], by rw [List.getElem?_set_ne (by omega), r.s2], by rw [List.getElem?_set_ne (by omega), r.s4], by rw [List.getElem?_set_ne (by omega), r.s5]⟩
def RowAt (ω : Om) (jr n : Nat) : Prop := ∃ row, ω[jr]? = some (.lst row) ∧ row.length = n ∧ ∀ d ∈ row, smB d = true
def bdRow : Ss := (.one (.drop (.mth .append (.var 5) (.cons (.ite (.val (.cmp .eq (.var 8) (.cst (.str "text")))) (.idx (.lst false (.cons (.cst (.str "tea")) (.cons (.cst (.str "")) (.cons (.cst (.str "a 1")) .nil)))) (.call "_law_take" (.cons (.var 2) (.cons (.cst (.int (3))) .nil)))) (.bin .sub (.call "_law_take" (.cons (.var 2) (.cons (.cst (.int (99))) .nil))) (.cst (.int (50))))) .nil)))
  .nil)
theorem teas {q : Int} (h0 : 0 ≤ q) (h1 : q < 3) : ∃ d, L2.atI [Dt.str "tea", .str "", .str "a 1"] q = some d ∧ smB d = true := by
  have : q = 0 ∨ q = 1 ∨ q = 2 := by omega
  rcases this with rfl | rfl | rfl
  · exact ⟨.str "tea", rfl, by decide +kernel⟩
  · exact ⟨.str "", rfl, by decide +kernel⟩
  · exact ⟨.str "a 1", rfl, by decide +kernel⟩
theorem nums {q : Int} (h0 : 0 ≤ q) (h1 : q < 99) : smB (.int (q - 50)) = true := by
  have key : ∀ n : Nat, n < 99 → smB (.int ((n : Int) - 50)) = true := by decide +kernel
  obtain ⟨n, rfl⟩ : ∃ n : Nat, q = n := ⟨q.toNat, by omega⟩
  exact key n (by omega)
theorem lst_three (a b c : Dt) : lstR [.dat a, .dat b, .dat c] ω = .ok [a, b, c] ω := by
  unfold lstR
  simp
  rw [sizeLine_eq]; decide
theorem row_turn (k : Nat) {xs : List Int} {j jr n : Nat} {ps : List (Str × Bool)} {ρ : Ro} (r : Reg xs j jr ps ρ) (h : PoolAt ω j) (hne : jr ≠ j) (hr : RowAt ω jr n) (hn : n ≤ 900) {t : Bool} (h8 : ρ[8]? = some (some (.dat (.str (kstr t))))) :
    ∃ ω', bdRow.ev (gam tb (k + 1)) ρ ω = .nx ρ ω' ∧ PoolAt ω' j ∧ RowAt ω' jr (n + 1) := by
  obtain ⟨row, er, hl, hs⟩ := hr
  have i5 : isLstT (.own jr) ω = true := by simp [isLstT, Om.seq, er]
  have app : ∀ (ω1 : Om) (d : Dt), Pl j ω ω1 → smB d = true → ∃ ω', appendM (.own jr) [.dat d] ω1 = .ok (.dat .non) ω' ∧ PoolAt ω' j ∧ RowAt ω' jr (n + 1) := fun ω1 d pl hd => by
    have e1 : ω1[jr]? = some (.lst row) := (pl.2.2 jr hne).trans er
    obtain ⟨s, q, a1, a2, a3, a4⟩ := pl.1
    refine ⟨ω1.set jr (.lst (row ++ [d])), ?_, ⟨s, q, a1, a2, a3, by rw [List.getElem?_set_ne hne, a4]⟩, row ++ [d], by rw [List.getElem?_set_self (List.getElem?_eq_some_iff.mp e1).1], by simp [hl], ?_⟩
    · unfold appendM
      dsimp only [fz_dat]
      rw [e1]
      dsimp only
      rw [if_pos (by rw [sizeLine_eq]; omega)]
    · intro x hx
      simp only [List.mem_append, List.mem_cons, List.not_mem_nil, or_false] at hx
      rcases hx with hx | rfl
      · exact hs x hx
      · exact hd
  cases t with
  | true =>
    obtain ⟨q, ω1, e1, q0, q1, pl⟩ := take_ok k h (m := 3) (by decide) (by decide)
    obtain ⟨d, ed, hd⟩ := teas q0 q1
    obtain ⟨ω2, e2, p2, r2⟩ := app ω1 d pl hd
    refine ⟨ω2, ?_, p2, r2⟩
    have ek : decide (kstr true = ("text" : Str)) = true := by decide +kernel
    unfold bdRow
    simp [r.s5, r.s2, h8, i5, Vm.eq_str, ek, lst_three, e1, ed, e2]
  | false =>
    obtain ⟨q, ω1, e1, q0, q1, pl⟩ := take_ok k h (m := 99) (by decide) (by decide)
    obtain ⟨ω2, e2, p2, r2⟩ := app ω1 _ pl (nums q0 q1)
    refine ⟨ω2, ?_, p2, r2⟩
    have ek : decide (kstr false = ("text" : Str)) = false := by decide +kernel
    unfold bdRow
    simp [r.s5, r.s2, h8, i5, Vm.eq_str, ek, e1, e2]
theorem e_row (k : Nat) {xs : List Int} {j jr : Nat} {ps : List (Str × Bool)} {ρ : Ro} (r : Reg xs j jr ps ρ) (h : PoolAt ω j) (hne : jr ≠ j) (hr : RowAt ω jr 0) (hn : ps.length ≤ 11) :
    ∃ ρ' ω', forGo (bTup 2 (bCons (bName 7) (bCons (bName 8) bNil))) (bdRow.ev (gam tb (k + 1))) (colsOf ps) ρ ω = .nx ρ' ω' ∧ Reg xs j jr ps ρ' ∧ PoolAt ω' j ∧ RowAt ω' jr ps.length := by
  have cl : (colsOf ps).length = ps.length := by simp [colsOf]
  have go := forGo_inv (b := bTup 2 (bCons (bName 7) (bCons (bName 8) bNil))) (body := bdRow.ev (gam tb (k + 1)))
    (fun n ρ ω => Reg xs j jr ps ρ ∧ PoolAt ω j ∧ RowAt ω jr n) (colsOf ps) 0 ρ ω ?_ ⟨r, h, hr⟩
  · obtain ⟨ρ', ω', e, r1, p1, q1⟩ := go
    rw [cl, Nat.zero_add] at q1
    exact ⟨ρ', ω', e, r1, p1, q1⟩
  · rintro d hd m ρ ω hm ⟨r1, p1, q1⟩
    obtain ⟨⟨s, t⟩, _, rfl⟩ := List.mem_map.mp hd
    have r2 := (r1.put (i := 7) (by decide) (some (.dat (.str s)))).put (i := 8) (by decide) (some (.dat (.str (kstr t))))
    obtain ⟨ω', e, p2, q2⟩ := row_turn k r2 p1 hne q1 (by omega) (t := t) (List.getElem?_set_self (by simp [r1.len]))
    exact ⟨_, _, ω', rfl, e, r2, p2, q2⟩
end
end K10
end
section
set_option Elab.async false
set_option linter.all false
set_option maxRecDepth 100000
set_option maxHeartbeats 4000000
namespace K10
open PySem PySem.Spec PyProof.Rows L2 Vm
section
variable {ω : Om}
def bdTurn : Ss := (.one (.set 9 (.call "_law_bent" (.cons (.var 2) (.cons (.var 4) .nil))))
  (.one (.set 10 (.blt .repr (.cons (.var 9) .nil)))
  (.ife (.or (.not (.val (.call "_law_right" (.cons (.sl (.var 4) .non (.som (.cst (.int (10))))) (.cons (.var 9) .nil))))) (.not (.val (.call "_law_right" (.cons (.sl (.var 4) .non (.som (.cst (.int (10))))) (.cons (.blt .tuple (.cons (.call "_law_bent" (.cons (.var 2) (.cons (.sl (.var 5) .non (.som (.cst (.int (10))))) .nil))) .nil)) .nil))))))
  (.one (.ret (.cst (.bl false)))
  .nil)
  .nil
  (.one (.set 11 (.blt .tuple (.cons (.call "_law_bent" (.cons (.var 2) (.cons (.lst false (.cons (.cst (.str "name")) (.cons (.cst (.str "text")) .nil))) .nil))) .nil)))
  (.ife (.or (.not (.val (.call "_law_right" (.cons (.sl (.var 4) .non (.som (.cst (.int (10))))) (.cons (.bin .add (.lst false (.cons (.var 11) .nil)) (.sl (.var 4) (.som (.cst (.int (1)))) .non)) .nil))))) (.val (.cmp .ne (.blt .repr (.cons (.var 9) .nil)) (.var 10))))
  (.one (.ret (.cst (.bl false)))
  .nil)
  .nil
  (.ife (.not (.val (.call "_law_right" (.cons (.sl (.var 4) .non (.som (.cst (.int (10))))) (.cons (.call "_law_odd" (.cons (.var 2) .nil)) .nil)))))
  (.one (.ret (.cst (.bl false)))
  .nil)
  .nil
  .nil))))))
theorem cut10 (xs : List Dt) : Vm.cutD xs none (some 10) = xs.take 10 := by
  unfold Vm.cutD HT.sIx
  simp
theorem cols10 (ps : List (Str × Bool)) : Vm.cutD (colsOf ps) none (some 10) = colsOf (ps.take 10) := by
  rw [cut10]
  simp [colsOf]
theorem Reg.lit {xs : List Int} {j jr : Nat} {ps : List (Str × Bool)} {ρ : Ro} (r : Reg xs j jr ps ρ) : ∃ a1 a3 a6 a7 a8 a9 a10 a11 a12 a13, ρ = [some (.dat (.rol (xs.map .int))), a1, some (.own j), a3, some (.dat (.lst (colsOf ps))), some (.own jr), a6, a7, a8, a9, a10, a11, a12, a13] := by
  obtain ⟨h, h0, h2, h4, h5⟩ := r
  match ρ, h with
  | [b0, b1, b2, b3, b4, b5, b6, b7, b8, b9, b10, b11, b12, b13], _ =>
    cases h0; cases h2; cases h4; cases h5
    exact ⟨_, _, _, _, _, _, _, _, _, _, rfl⟩
theorem e_turn (k : Nat) {xs : List Int} {j jr n : Nat} {ps : List (Str × Bool)} {ρ : Ro} (r : Reg xs j jr ps ρ) (h : PoolAt ω j) (hne : jr ≠ j) (hr : RowAt ω jr n) (n0 : 1 ≤ n) (n1 : n ≤ 11) (hps : ∀ d ∈ colsOf ps, smB d = true) (p0 : 1 ≤ ps.length) (p1 : ps.length ≤ 11) :
    ∃ ρ' ω', bdTurn.ev (gam tb (k + 5)) ρ ω = .nx ρ' ω' ∧ Reg xs j jr ps ρ' ∧ PoolAt ω' j ∧ RowAt ω' jr n := by
  obtain ⟨row, er, rl, rs⟩ := hr
  have cl : (colsOf ps).length = ps.length := by simp [colsOf]
  obtain ⟨b1, ω1, e1, s1, l1, pl1⟩ := e_bent (k + 2) h hps (by omega) (by omega)
  have er1 : ω1[jr]? = some (.lst row) := (pl1.2.2 jr hne).trans er
  have t10 : (row.take 10).length = min 10 n := by rw [List.length_take, rl]
  obtain ⟨b2, ω2, e2, s2, l2, pl2⟩ := e_bent (k + 2) pl1.1 (ds := row.take 10) (fun d hd => rs d (List.mem_of_mem_take hd)) (by omega) (by omega)
  obtain ⟨b3, ω3, e3, s3, l3, pl3⟩ := e_bent (k + 2) pl2.1 (ds := [.str "name", .str "text"]) (by
    intro d hd
    simp only [List.mem_cons, List.not_mem_nil, or_false] at hd
    rcases hd with rfl | rfl <;> decide +kernel) (by decide) (by decide)
  obtain ⟨o, ω4, e4, s4, pl4⟩ := e_odd (k + 3) pl3.1
  obtain ⟨z, hz⟩ := repr_sm s1 l1
  have lp : (ps.take 10).length ≤ 1000 := by rw [List.length_take]; omega
  have q1 : (gam tb (k + 5)).call "_law_right" [.dat (.lst (colsOf (ps.take 10))), .dat (.lst b1)] ω1 = .ok (.dat (.bl true)) ω1 := e_right k (sm_list s1 (by omega)).1 _ lp
  have q2 : (gam tb (k + 5)).call "_law_right" [.dat (.lst (colsOf (ps.take 10))), .dat (.tup b2)] ω2 = .ok (.dat (.bl true)) ω2 := e_right k (sm_list s2 (by omega)).2 _ lp
  have cm : ∀ d ∈ Vm.cutD (colsOf ps) (some 1) none, smB d = true := fun d hd => hps d (cutD_mem hd)
  have cn := cutD_len (colsOf ps) (some 1) none
  generalize hC : Vm.cutD (colsOf ps) (some 1) none = C at cm cn
  have dp : deepD (.lst ([.tup b3] ++ C)) = true := by
    have a := (sm_all cm).1
    have b := (sm_list s3 (by omega)).2
    unfold deepD
    rw [show deepAll ([.tup b3] ++ C) = (deepD (.tup b3) && deepAll C) from rfl, a, b]
    simp; omega
  have q3 : (gam tb (k + 5)).call "_law_right" [.dat (.lst (colsOf (ps.take 10))), .dat (.lst (.tup b3 :: C))] ω3 = .ok (.dat (.bl true)) ω3 := e_right k dp _ lp
  have q4 : (gam tb (k + 5)).call "_law_right" [.dat (.lst (colsOf (ps.take 10))), .dat o] ω4 = .ok (.dat (.bl true)) ω4 := e_right k (sm_deep s4) _ lp
  have a3 : 1 + C.length ≤ sizeLine := by rw [sizeLine_eq]; omega
  have sl := fun i => sl_own er1 (none : Option Int) i
  have sl10 := sl (some 10)
  rw [cut10] at sl10
  refine ⟨((ρ.set 9 (some (.dat (.lst b1)))).set 10 (some (.dat (.str z)))).set 11 (some (.dat (.tup b3))), ω4, ?_, ((r.put (by decide) _).put (by decide) _).put (by decide) _, pl4.1, row, ?_, rl, rs⟩
  · obtain ⟨a1, a3', a6, a7, a8, a9, a10, a11, a12, a13, rfl⟩ := r.lit
    unfold bdTurn
    simp [e1, hz, cols10, q1, sl10, e2, q2, lst_two, e3, lst_one, hC, a3, q3, Vm.ne_str, e4, q4]
  · rw [(pl4.2.2 jr hne), (pl3.2.2 jr hne), (pl2.2.2 jr hne), er1]
end
end K10
end
section
set_option Elab.async false
set_option linter.all false
set_option maxRecDepth 100000
set_option maxHeartbeats 4000000
namespace K10
open PySem PySem.Spec PyProof.Rows L2 Vm
section
variable {ω : Om}
def eNames : E := .lc false (.seq (.sl (.cst (.str "abcdefghijk")) .non (.som (.bin .add (.cst (.int (1))) (.call "_law_take" (.cons (.var 2) (.cons (.cst (.int (11))) .nil))))))) (.name 12) .yes (.bin .add (.var 12) (.bin .mul (.cst (.str "x")) (.call "_law_take" (.cons (.var 2) (.cons (.cst (.int (8))) .nil))))) [12]
def eCols : E := .lc false (.seq (.var 3)) (.name 7) .yes (.tup (.cons (.var 7) (.cons (.idx (.lst false (.cons (.cst (.str "number")) (.cons (.cst (.str "text")) .nil))) (.call "_law_take" (.cons (.var 2) (.cons (.cst (.int (2))) .nil)))) .nil))) [7]
def bdK : Ss := .one (.set 2 (.call "_law_pool" (.cons (.var 0) (.cons (.var 1) .nil))))
  (.one (.set 3 eNames) (.one (.set 4 eCols) (.one (.set 5 (.lst true .nil))
  (.for (.seq (.var 4)) (.tup (.cons (.name 7) (.cons (.name 8) .nil))) bdRow
  (.for (.rng1 (.cst (.int (8)))) (.name 6) bdTurn .nil)))))
theorem one_nx {Γ : Gm} {s : S} {r : Ss} {ρ ρ' : Ro} {ω ω' : Om} (h : s.ev Γ ρ ω = .nx ρ' ω') : (Ss.one s r).ev Γ ρ ω = r.ev Γ ρ' ω' := by
  rw [evs'_one, h]; rfl
theorem set_nx {Γ : Gm} {i : Nat} {e : E} {ρ : Ro} {ω ω' : Om} {a : Sv} (h : e.ev Γ ρ ω = .ok a ω') : (S.set i e).ev Γ ρ ω = .nx (ρ.set i (some a)) ω' := by
  rw [evS_set, h]; rfl
theorem e_body {xs : List Int} (hx : xs.length ≤ 63) {i : Int} (i0 : 0 ≤ i) (i1 : i ≤ 63) {ρ : Ro} (hl : ρ.length = 14) (h0 : ρ[0]? = some (some (.dat (.rol (xs.map .int))))) (h1 : ρ[1]? = some (some (.dat (.int i)))) :
    ∃ ρ' ω', bdK.ev (gam tb 11) ρ ω = .nx ρ' ω' ∧ ρ'.length = 14 ∧ ρ'[0]? = some (some (.dat (.rol (xs.map .int)))) := by
  obtain ⟨s, d, hs, hd, hd2, e1⟩ := e_pool (ω := ω) 10 xs i0 i1 hx
  have p1 := pool_at (ω := ω) hs hd hd2
  generalize hj : ω.length = j at e1 p1
  generalize hw : ω ++ [.lst [.int s, .int d]] = ω1 at e1 p1
  generalize hr1 : ρ.set 2 (some (.own j)) = ρ1
  have l1 : ρ1.length = 14 := by rw [← hr1]; simp [hl]
  have g12 : ρ1[2]? = some (some (.own j)) := by rw [← hr1]; exact List.getElem?_set_self (by omega)
  have g10 : ρ1[0]? = some (some (.dat (.rol (xs.map .int)))) := by rw [← hr1, List.getElem?_set_ne (by decide), h0]
  obtain ⟨ss, ω2, e2, hss, n0, n1, pl2⟩ := e_names 10 p1 g12 l1
  have e2 : eNames.ev (gam tb 11) ρ1 ω1 = .ok (.dat (.lst (ss.map .str))) ω2 := e2
  generalize hr2 : ρ1.set 3 (some (.dat (.lst (ss.map .str)))) = ρ2
  have l2 : ρ2.length = 14 := by rw [← hr2]; simp [l1]
  have g22 : ρ2[2]? = some (some (.own j)) := by rw [← hr2, List.getElem?_set_ne (by decide), g12]
  have g20 : ρ2[0]? = some (some (.dat (.rol (xs.map .int)))) := by rw [← hr2, List.getElem?_set_ne (by decide), g10]
  have g23 : ρ2[3]? = some (some (.dat (.lst (ss.map .str)))) := by rw [← hr2]; exact List.getElem?_set_self (by omega)
  obtain ⟨ps, ω3, e3, hps, np, pl3⟩ := e_cols 10 pl2.1 g22 l2 g23 hss n1
  have e3 : eCols.ev (gam tb 11) ρ2 ω2 = .ok (.dat (.lst (colsOf ps))) ω3 := e3
  have p3 := pl3.1
  generalize hr3 : ρ2.set 4 (some (.dat (.lst (colsOf ps)))) = ρ3
  have l3 : ρ3.length = 14 := by rw [← hr3]; simp [l2]
  have e4 : (E.lst true .nil).ev (gam tb 11) ρ3 ω3 = .ok (.own ω3.length) (ω3 ++ [.lst []]) := by
    rw [ev_lstO, evs_nil, R.bind_ok]
    rfl
  have hjl : j < ω3.length := by
    obtain ⟨_, _, _, _, _, e⟩ := p3
    exact (List.getElem?_eq_some_iff.mp e).1
  have p4 : PoolAt (ω3 ++ [.lst []]) j := by
    obtain ⟨a, b, c1, c2, c3, e⟩ := p3
    exact ⟨a, b, c1, c2, c3, by rw [List.getElem?_append_left hjl, e]⟩
  have r4 : RowAt (ω3 ++ [.lst []]) ω3.length 0 := ⟨[], by simp, rfl, by simp⟩
  have reg : Reg xs j ω3.length ps (ρ3.set 5 (some (.own ω3.length))) := by
    refine ⟨by simp [l3], ?_, ?_, ?_, ?_⟩
    · rw [List.getElem?_set_ne (by decide), ← hr3, List.getElem?_set_ne (by decide), g20]
    · rw [List.getElem?_set_ne (by decide), ← hr3, List.getElem?_set_ne (by decide), g22]
    · rw [List.getElem?_set_ne (by decide), ← hr3, List.getElem?_set_self (by omega)]
    · exact List.getElem?_set_self (by omega)
  obtain ⟨ρ5, ω5, e5, reg5, p5, r5⟩ := e_row 10 reg p4 (by omega) r4 (by omega)
  have go := forGo_inv (b := bName 6) (body := bdTurn.ev (gam tb 11))
    (fun _ ρ ω => Reg xs j ω3.length ps ρ ∧ PoolAt ω j ∧ RowAt ω ω3.length ps.length) (rangeD 0 8) 0 ρ5 ω5 ?_ ⟨reg5, p5, r5⟩
  · obtain ⟨ρ6, ω6, e6, reg6, _, _⟩ := go
    refine ⟨ρ6, ω6, ?_, reg6.len, reg6.s0⟩
    unfold bdK
    rw [one_nx (set_nx (show (E.call "_law_pool" (.cons (.var 0) (.cons (.var 1) .nil))).ev (gam tb 11) ρ ω = _ by simp [h0, h1]; exact e1)), hr1,
      one_nx (set_nx e2), hr2, one_nx (set_nx e3), hr3, one_nx (set_nx e4)]
    have v4 : (It'.seq (.var 4)).ev (gam tb 11) (ρ3.set 5 (some (.own ω3.length))) (ω3 ++ [.lst []]) = .ok (colsOf ps) (ω3 ++ [.lst []]) := by
      simp [reg.s4]
      rfl
    have v8 : (It'.rng1 (.cst (.int 8))).ev (gam tb 11) ρ5 ω5 = .ok (rangeD 0 8) ω5 := by
      simp
    rw [evs'_for, v4, R.toS_ok]
    have e5' : forGo (Tg.tup (.cons (.name 7) (.cons (.name 8) .nil))).b (bdRow.ev (gam tb 11)) (colsOf ps) (ρ3.set 5 (some (.own ω3.length))) (ω3 ++ [.lst []]) = .nx ρ5 ω5 := e5
    rw [e5', RS.then_nx, evs'_for, v8, R.toS_ok]
    have e6' : forGo (Tg.name 6).b (bdTurn.ev (gam tb 11)) (rangeD 0 8) ρ5 ω5 = .nx ρ6 ω6 := e6
    rw [e6', RS.then_nx, evs'_nil]
  · rintro d hd m ρ ω hm ⟨a, b, c⟩
    obtain ⟨ρ', ω', e, x, y, z⟩ := e_turn 6 (a.put (i := 6) (by decide) (some (.dat d))) b (by omega) c (by omega) (by omega) hps (by omega) (by omega)
    exact ⟨_, ρ', ω', rfl, e, x, y, z⟩
theorem law_body : b_law = .for (.rng1 (.blt .max2 (.cons (.cst (.int (1))) (.cons (.blt .min2 (.cons (.blt .len (.cons (.var 0) .nil)) (.cons (.cst (.int (6))) .nil))) .nil)))) (.name 1) bdK
  (.one (.ret (.cmp .eq (.lc false (.seq (.call "_law_words" .nil)) (.name 13) (.val (.cmp .isnot (.call "is_name" (.cons (.var 13) .nil)) (.cst (.bl false)))) (.var 13) [13]) (.lst false .nil))) .nil) := rfl
theorem words_not : ∀ d ∈ wordsD, plainD d = true ∧ nameD d = false := by
  have : (wordsD.all fun d => plainD d && !nameD d) = true := by decide +kernel
  intro d hd
  have := List.all_eq_true.mp this d hd
  rw [Bool.and_eq_true] at this
  exact ⟨this.1, by simpa using this.2⟩
theorem words_len : wordsD.length ≤ 1000 := by decide +kernel
theorem c_law : (gam tb 12).call "law" = fnR d_law.N 1 (b_law.ev (gam tb 11)) := by kernel_rfl
theorem e_end {ρ : Ro} (hl : ρ.length = 14) : (E.cmp .eq (.lc false (.seq (.call "_law_words" .nil)) (.name 13) (.val (.cmp .isnot (.call "is_name" (.cons (.var 13) .nil)) (.cst (.bl false)))) (.var 13) [13]) (.lst false .nil)).ev (gam tb 11) ρ ω = .ok (.dat (.bl true)) ω := by
  have it : ∀ ω : Om, R.of (Dt.lst wordsD).items ω = .ok wordsD ω := fun _ => rfl
  have go := lcGo_pure (ω := ω) (b := bName 13) (ft := (T.val (.cmp .isnot (.call "is_name" (.cons (.var 13) .nil)) (.cst (.bl false)))).ev (gam tb 11)) (fe := (E.var 13).ev (gam tb 11)) (ρ := wipeR ρ [13]) (fun _ => false) (fun d => d) wordsD [] ?_ (by simpa using line_ge words_len)
  · have nl : lstR [] ω = .ok [] ω := by
      unfold lstR
      simp
    have fl : (wordsD.filter fun _ => false) = [] := by simp
    rw [fl] at go
    simp [e_words 10, it, go, nl, Vm.eq_nil]
  · intro d hd
    obtain ⟨h1, h2⟩ := words_not d hd
    have g1 : ((wipeR ρ [13]).set 13 (some (Sv.dat d)))[13]? = some (some (Sv.dat d)) := by
      simp [wipeR, hl]
    have e1 := e_is_name (ω := ω) 10 h1
    rw [h2] at e1
    have e2 : isS true (.dat (.bl false)) (.dat (.bl false)) ω = .ok (.dat (.bl false)) ω := rfl
    refine ⟨_, rfl, ?_, fun h => nomatch h⟩
    simp [g1, e1, e2]
theorem law_true : TrueAt (gam tb 12) 63 := by
  intro ns hn
  rw [c_law, fnR_of (n := 1) rfl, law_body]
  generalize hm : (if (if (6 : Int) < (ns.length : Int) then (6 : Int) else (ns.length : Int)) > 1 then (if (6 : Int) < (ns.length : Int) then (6 : Int) else (ns.length : Int)) else 1) = m
  have m0 : 1 ≤ m := by rw [← hm]; split <;> omega
  have m1 : m ≤ 6 := by rw [← hm]; split <;> split <;> omega
  have start : (startR d_law.N [Sv.dat (.rol (ns.map Dt.int))])[0]? = some (some (.dat (.rol (ns.map .int)))) := rfl
  have sl : (startR d_law.N [Sv.dat (.rol (ns.map Dt.int))]).length = 14 := rfl
  generalize startR d_law.N [Sv.dat (.rol (ns.map Dt.int))] = ρ0 at start sl
  have go := forGo_inv (b := bName 1) (body := bdK.ev (gam tb 11)) (fun _ ρ _ => ρ.length = 14 ∧ ρ[0]? = some (some (.dat (.rol (ns.map .int))))) (rangeD 0 m.toNat) 0 ρ0 [] ?_ ⟨sl, start⟩
  · obtain ⟨ρ', ω', e, l, _⟩ := go
    refine ⟨ω', ?_⟩
    have e' : forGo (Tg.name 1).b (bdK.ev (gam tb 11)) (rangeD 0 m.toNat) ρ0 [] = .nx ρ' ω' := e
    have it : (It'.rng1 (.blt .max2 (.cons (.cst (.int (1))) (.cons (.blt .min2 (.cons (.blt .len (.cons (.var 0) .nil)) (.cons (.cst (.int (6))) .nil))) .nil)))).ev (gam tb 11) ρ0 [] = .ok (rangeD 0 m.toNat) [] := by
      have b1 : m < 2 ^ 62 := by omega
      have b2 : -(2 ^ 62) ≤ m := by omega
      simp [start]
      rw [hm]
      simp [b1, b2]
      omega
    rw [evs'_for, it, R.toS_ok, e', RS.then_nx, evs'_one, evS_ret, e_end l]
    rfl
  · rintro d hd n ρ ω _ ⟨l, h0⟩
    obtain ⟨i, hi, rfl⟩ := List.mem_map.mp hd
    have hi := List.mem_range.mp hi
    obtain ⟨ρ', ω', e, l', h0'⟩ := e_body (ω := ω) hn (i := 0 + (i : Int)) (by omega) (by omega) (ρ := ρ.set 1 (some (.dat (.int (0 + (i : Int)))))) (by simp [l]) (by rw [List.getElem?_set_ne (by decide), h0]) (List.getElem?_set_self (by omega))
    exact ⟨_, ρ', ω', rfl, e, l', h0'⟩
end
end K10
end
section
set_option Elab.async false
set_option linter.all false
set_option maxRecDepth 100000
/-! the head's run where the top asks what the world follows: by the answer -/
namespace Vm
open PySem PySem.Spec PyProof.Rows L2
def setF (w : World) (x : String) (b : Bool) : World := { w with params := { w.params with followText := fun s => if s = x then b else w.params.followText s } }
theorem setF_self (w : World) (x : String) : setF w x (w.params.followText x) = w := by
  have e : (fun s => if s = x then w.params.followText x else w.params.followText s) = w.params.followText := by
    funext s
    by_cases h : s = x
    · rw [if_pos h, h]
    · rw [if_neg h]
  unfold setF
  rw [e]
theorem byF {P : World → Prop} (x : String) (h : ∀ w b, P (setF w x b)) (w : World) : P w := by
  have := h w (w.params.followText x)
  rwa [setF_self] at this
end Vm
end
section
set_option Elab.async false
set_option linter.all false
set_option maxRecDepth 100000
set_option maxHeartbeats 0
namespace K10
open PySem PySem.Spec PyProof.Rows L2 Vm
abbrev RR : PySem.W.OpenRow := PySem.W.OpenLaw.row PySem.Challenge.rw_backfilled_k10_values_and_columns
abbrev hk : PySem.W.Hook := hookM 5 (fasOf gs) (fnsOf tb ex) ex
def ob (s : PySem.W.SharedT) : AlM := obsM 5 (fasOf gs) (fnsOf tb ex) ex (HandSHeadRun.getT s)
theorem ob_eq (s : PySem.W.SharedT) : ob s = hk.obs s.abs := obsM_eq (HandSHeadRun.getT_eq s)
def lo : List Str := ["LETTERS", "TEXT_SIGNS", "FIXED", "KINDS", "MOST_SIGNS", "is_integer", "is_text", "is_name", "is_value", "is_day", "is_columns", "is_column", "is_row", "_law_pool", "_law_take", "_law_words", "_law_is_name", "_law_kind", "_law_is_column", "_law_is_columns", "_law_is_row", "_law_odd", "_law_bent", "_law_right"]
theorem run0 (w : World) (b : Bool) : HandSHeadRun.RunEq RR (PySem.W.view RR.prog [26]) hk ob 6000 lo (setF w "special-get-raises" b) := by
  intro os
  cases b <;> kernel_rfl
theorem run (w : World) : HandSHeadRun.RunEq RR (PySem.W.view RR.prog [26]) hk ob 6000 lo w := byF "special-get-raises" run0 w
end K10
open PySem PySem.W PySem.Calls PyProof.Rows
theorem PySem.Challenge.cw_backfilled_k10_values_and_columns_holds : PySem.Challenge.rw_backfilled_k10_values_and_columns.Holds := by
  w_on; o_law
  refine HandSHeadRun.head_any (r := K10.RR) (q := view K10.RR.prog [26]) (H := K10.hk) (ob := K10.ob) (M := 6000) (loose := K10.lo) (d := HandSHeadRun.topDef K10.RR.prog 26) (kwd := []) K10.ob_eq
    (by kernel_rfl) (fun s => by kernel_rfl) K10.run (by kernel_rfl) (by kernel_rfl) (by kernel_rfl) (by rfl) (by first | assumption | decide +kernel) (by decide +kernel) ⟨rfl, rfl, rfl, rfl, rfl, by decide +kernel⟩ ?hw ?hc
  case hw => w_witness2
  case hc =>
    refine Vm.walkG (l := PySem.Challenge.rw_backfilled_k10_values_and_columns) (n := 63) (k := 12) (G := K10.gs) (T := K10.tb) rfl (by decide) (by kernel_rfl) ⟨rfl, by decide, by decide⟩ (by decide +kernel) ?F K10.law_true
    intro w mg fa h Y G hmg0
    obtain ⟨K, KX, c, ex, tb⟩ := Y
    have hmg : mg ("law" : PySem.Str) = some (.ref fa) := by
      have e : (HandSHeadRun.topDef K10.RR.prog 26).name = ("law" : PySem.Str) := by kernel_rfl
      rw [← e]
      exact hmg0
    exact ⟨K, KX, Vm.mod_of KX G c ex tb (by kernel_rfl) K10.oks (by kernel_rfl) K10.eoks rfl rfl rfl rfl rfl, hmg⟩
end
