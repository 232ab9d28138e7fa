import PyProof.Rows.All
import Wide.All
import OpenK.AllK
import Wide.FinOn
import HandS.Base
import HandS.Call
import HandS.List
import HandS.Comp
import HandS.Ends
import HandS.Iter
import HandS.Words
import HandS.WordsList
import HandS.Wide
import HandS.Evl
import HandS.TupAny
import KE.GoesEnum
import HandS.IsInst
import HandS.Codes
import HandS.More
import HandS.SlotsOwn
import HandS.Deep
import HandS.MakeKwOnly
import HandS.Property
import HandS.OwnEq
import HandS.TupMul
import HandS.SetFor
import HandS.Strs
import HandS.TryOnly
import PySem.Challenge.RW_millsluices_k06_lot_numbers_and_obstacle
import HandS.ForDict
/-! part DL1 -/
set_option Elab.async false
set_option linter.all false
set_option maxRecDepth 100000
set_option maxHeartbeats 1000000
/-! DL: values of the program as data, over the hand layer -/
namespace DL
open PySem PySem.Spec PyProof.Rows L2
open Evl (Ex)

inductive D where
  | non | bl (b : Bool) | int (i : Int) | str (x : Str) | ty (n : String)
  | tup (xs : List D) | lst (xs : List D) | scr (xs : List D) | ins (C : Str) (fs : List (Str × D))
  deriving Inhabited

mutual
inductive Rp (K : PySem.W.Frag) (mg : Str → Option Value) (F : Hp) : D → V → Prop
  | non : Rp K mg F .non .non
  | bl (b : Bool) : Rp K mg F (.bl b) (.bl b)
  | int (i : Int) : Rp K mg F (.int i) (.int i)
  | str (x : Str) : Rp K mg F (.str x) (.str x)
  | ty (n : String) : Rp K mg F (.ty n) (.ty n)
  | tup {a : Addr} {xs : List V} {ds : List D} : SqT K F a xs → Rps K mg F ds xs → Rp K mg F (.tup ds) (.ref a)
  | lst {a : Addr} {xs : List V} {ds : List D} : F a = some (.lst xs) → Rps K mg F ds xs → Rp K mg F (.lst ds) (.ref a)
  | scr {a : Addr} {xs : List V} {ds : List D} : SqL K F a xs → Rps K mg F ds xs → Rp K mg F (.scr ds) (.ref a)
  | ins {a C dx : Addr} {n : Str} {fs : List (Str × V)} {gs : List (Str × D)} : mg n = some (.ref C) → F a = some (.ins C dx fs) → Rfs K mg F gs fs → Rp K mg F (.ins n gs) (.ref a)
inductive Rps (K : PySem.W.Frag) (mg : Str → Option Value) (F : Hp) : List D → List V → Prop
  | nil : Rps K mg F [] []
  | cons {d : D} {v : V} {ds : List D} {vs : List V} : Rp K mg F d v → Rps K mg F ds vs → Rps K mg F (d :: ds) (v :: vs)
inductive Rfs (K : PySem.W.Frag) (mg : Str → Option Value) (F : Hp) : List (Str × D) → List (Str × V) → Prop
  | nil : Rfs K mg F [] []
  | cons {f : Str} {d : D} {v : V} {ds : List (Str × D)} {vs : List (Str × V)} : Rp K mg F d v → Rfs K mg F ds vs → Rfs K mg F ((f, d) :: ds) ((f, v) :: vs)
end

section
variable {K : PySem.W.Frag} {mg : Str → Option Value} {F F' H H' : Hp}

mutual
theorem Rp.mono (e : Ex F F') : ∀ {d : D} {v : V}, Rp K mg F d v → Rp K mg F' d v
  | _, _, .non => .non
  | _, _, .bl b => .bl b
  | _, _, .int i => .int i
  | _, _, .str x => .str x
  | _, _, .ty n => .ty n
  | _, _, .tup h r => .tup (Evl.ex_t e h) (Rps.mono e r)
  | _, _, .lst h r => .lst (e _ _ h) (Rps.mono e r)
  | _, _, .scr h r => .scr (Evl.ex_l e h) (Rps.mono e r)
  | _, _, .ins m h r => .ins m (e _ _ h) (Rfs.mono e r)
theorem Rps.mono (e : Ex F F') : ∀ {ds : List D} {vs : List V}, Rps K mg F ds vs → Rps K mg F' ds vs
  | _, _, .nil => .nil
  | _, _, .cons h r => .cons (Rp.mono e h) (Rps.mono e r)
theorem Rfs.mono (e : Ex F F') : ∀ {ds : List (Str × D)} {vs : List (Str × V)}, Rfs K mg F ds vs → Rfs K mg F' ds vs
  | _, _, .nil => .nil
  | _, _, .cons h r => .cons (Rp.mono e h) (Rfs.mono e r)
end

theorem Rps.length : ∀ {ds : List D} {vs : List V}, Rps K mg F ds vs → ds.length = vs.length
  | _, _, .nil => rfl
  | _, _, .cons _ r => by rw [List.length_cons, List.length_cons, r.length]
theorem Rps.get : ∀ {ds : List D} {vs : List V}, Rps K mg F ds vs → ∀ {i : Nat} {d : D}, ds[i]? = some d → ∃ v, vs[i]? = some v ∧ Rp K mg F d v
  | _, _, .nil, i, d, h => by simp at h
  | _, _, .cons h _, 0, d, e => by
    rw [List.getElem?_cons_zero] at e
    cases e
    exact ⟨_, rfl, h⟩
  | _, _, .cons _ r, i + 1, d, e => by
    rw [List.getElem?_cons_succ] at e
    obtain ⟨v, e1, e2⟩ := r.get e
    exact ⟨v, by rw [List.getElem?_cons_succ]; exact e1, e2⟩
theorem Rps.append : ∀ {ds es : List D} {vs ws : List V}, Rps K mg F ds vs → Rps K mg F es ws → Rps K mg F (ds ++ es) (vs ++ ws)
  | _, _, _, _, .nil, s => s
  | _, _, _, _, .cons h r, s => .cons h (r.append s)
theorem Rps.set {d : D} {v : V} (q : Rp K mg F d v) : ∀ {ds : List D} {vs : List V} (i : Nat), Rps K mg F ds vs → Rps K mg F (ds.set i d) (vs.set i v)
  | _, _, _, .nil => .nil
  | _, _, 0, .cons _ r => .cons q r
  | _, _, i + 1, .cons h r => .cons h (Rps.set q i r)
theorem Rps.take : ∀ {ds : List D} {vs : List V} (n : Nat), Rps K mg F ds vs → Rps K mg F (ds.take n) (vs.take n)
  | _, _, 0, _ => .nil
  | _, _, n + 1, .nil => .nil
  | _, _, n + 1, .cons h r => .cons h (Rps.take n r)
theorem Rps.drop : ∀ {ds : List D} {vs : List V} (n : Nat), Rps K mg F ds vs → Rps K mg F (ds.drop n) (vs.drop n)
  | _, _, 0, r => r
  | _, _, n + 1, .nil => .nil
  | _, _, n + 1, .cons _ r => Rps.drop n r
theorem Rps.rev : ∀ {ds : List D} {vs : List V}, Rps K mg F ds vs → Rps K mg F ds.reverse vs.reverse
  | _, _, .nil => .nil
  | _, _, .cons h r => by
    rw [List.reverse_cons, List.reverse_cons]
    exact r.rev.append (.cons h .nil)
theorem Rps.rep {ds : List D} {vs : List V} (r : Rps K mg F ds vs) : ∀ n : Nat, Rps K mg F (List.replicate n ds).flatten (List.replicate n vs).flatten
  | 0 => .nil
  | n + 1 => by
    rw [List.replicate_succ, List.replicate_succ, List.flatten_cons, List.flatten_cons]
    exact r.append (Rps.rep r n)
theorem Rfs.lookup : ∀ {gs : List (Str × D)} {fs : List (Str × V)}, Rfs K mg F gs fs → ∀ {f : Str} {d : D}, gs.lookup f = some d → ∃ v, fs.lookup f = some v ∧ Rp K mg F d v
  | _, _, .nil, f, d, h => by simp at h
  | _, _, .cons (f := g) h r, f, d, e => by
    rw [List.lookup_cons] at e
    rw [List.lookup_cons]
    cases q : (f == g) with
    | true =>
      rw [q] at e
      cases e
      exact ⟨_, rfl, h⟩
    | false =>
      rw [q] at e
      exact r.lookup e
theorem rps_ints : ∀ ns : List Int, Rps K mg F (ns.map D.int) (ns.map V.int)
  | [] => .nil
  | n :: ns => .cons (.int n) (rps_ints ns)
theorem Rps.ints : ∀ {ns : List Int} {vs : List V}, Rps K mg F (ns.map D.int) vs → vs = ns.map V.int
  | [], _, .nil => rfl
  | n :: ns, _, .cons h r => by
    cases h
    rw [r.ints]
    rfl
theorem Rps.bools : ∀ {ns : List Bool} {vs : List V}, Rps K mg F (ns.map D.bl) vs → vs = ns.map V.bl
  | [], _, .nil => rfl
  | n :: ns, _, .cons h r => by
    cases h
    rw [r.bools]
    rfl

/-- what was frozen stays, what was tracked stays, the new frozen part is tracked, what was tracked and not frozen is not frozen -/
structure Le (F H F' H' : Hp) : Prop where
  f : Ex F F'
  h : Ex H H'
  s : Ex F' H'
  n : ∀ a o, H a = some o → F a = none → F' a = none
theorem Le.refl (s : Ex F H) : Le F H F H := ⟨Ex.refl F, Ex.refl H, s, fun _ _ _ h => h⟩
theorem Le.trans {F1 H1 F2 H2 : Hp} (a : Le F H F1 H1) (b : Le F1 H1 F2 H2) : Le F H F2 H2 :=
  ⟨a.f.trans b.f, a.h.trans b.h, b.s, fun x o hx hf => b.n x o (a.h x o hx) (a.n x o hx hf)⟩
theorem free_of (s : Ex F H) {p : Addr} (h : H p = none) : F p = none := by
  cases q : F p with
  | none => rfl
  | some o =>
    rw [s p o q] at h
    cases h
theorem Le.new (s : Ex F H) {p : Addr} {o : HO} (h : H p = none) : Le F H (upd F p o) (upd H p o) where
  f := Ex.new (free_of s h)
  h := Ex.new h
  s := fun a u e => by
    by_cases q : a = p
    · subst q
      rw [upd_same] at e ⊢
      exact e
    · rw [upd_ne q] at e ⊢
      exact s a u e
  n := fun a u e f => by
    rw [upd_ne (ne_of_none e h)]
    exact f

/-! ### the frame -/
/-- an object of one's own: what it holds -/
inductive Cn where
  | lst (ds : List D) | ins (x : Addr) (n : Str) (fs : List (Str × D))
def Own (K : PySem.W.Frag) (mg : Str → Option Value) (F : Hp) (a : Addr) : Cn → HO → Prop
  | .lst ds, .lst vs => Rps K mg F ds vs
  | .ins x n fs, .ins C _ ws => a = x ∧ mg n = some (.ref C) ∧ Rfs K mg F fs ws
  | _, _ => False
theorem Own.mono {c : Cn} {o : HO} {a : Addr} (h : Own K mg F a c o) (e : Ex F F') : Own K mg F' a c o := by
  cases c <;> cases o <;> first | exact h.elim | skip
  · exact Rps.mono e h
  · exact ⟨h.1, h.2.1, Rfs.mono e h.2.2⟩
def Cn.data : Cn → D
  | .lst ds => .lst ds
  | .ins _ n fs => .ins n fs
theorem Own.rp {c : Cn} {o : HO} {a : Addr} (h : Own K mg F a c o) (ha : F a = some o) : Rp K mg F c.data (.ref a) := by
  cases c <;> cases o <;> first | exact h.elim | skip
  · exact .lst ha h
  · exact .ins h.2.1 ha h.2.2
inductive B where
  | un | sh (d : D) | ow (c : Cn)
abbrev Rho := List B
def Slot (K : PySem.W.Frag) (mg : Str → Option Value) (H0 F H : Hp) : B → Option V → Prop
  | .un, _ => True
  | .sh d, o => ∃ v, o = some v ∧ Rp K mg F d v
  | .ow c, o => ∃ a u, o = some (V.ref a) ∧ H0 a = none ∧ F a = none ∧ H a = some u ∧ Own K mg F a c u
structure SR (K : PySem.W.Frag) (mg : Str → Option Value) (F0 H0 : Hp) (ρ : Rho) (σ : L2.St) (F H : Hp) : Prop where
  le : Le F0 H0 F H
  len : ρ.length = σ.length
  at_ : ∀ (i : Nat) (b : B) (o : Option V), ρ[i]? = some b → σ[i]? = some o → Slot K mg H0 F H b o
  ne : ∀ (i j : Nat) (a : Addr) (ds es : Cn), ρ[i]? = some (.ow ds) → ρ[j]? = some (.ow es) → σ[i]? = some (some (.ref a)) → σ[j]? = some (some (.ref a)) → i = j

variable {F0 H0 : Hp} {ρ : Rho} {σ : L2.St}
theorem Slot.mono {b : B} {o : Option V} (s : Slot K mg H0 F H b o) (l : Le F H F' H') : Slot K mg H0 F' H' b o := by
  cases b with
  | un => trivial
  | sh d =>
    obtain ⟨v, e, r⟩ := s
    exact ⟨v, e, r.mono l.f⟩
  | ow ds =>
    obtain ⟨a, vs, e, h0, hf, hh, r⟩ := s
    exact ⟨a, vs, e, h0, l.n a _ hh hf, l.h a _ hh, r.mono l.f⟩
theorem SR.mono (s : SR K mg F0 H0 ρ σ F H) (l : Le F H F' H') : SR K mg F0 H0 ρ σ F' H' :=
  ⟨s.le.trans l, s.len, fun i b o e1 e2 => (s.at_ i b o e1 e2).mono l, s.ne⟩
theorem SR.sub (s : SR K mg F0 H0 ρ σ F H) : Ex F H := s.le.s
theorem SR.slot (s : SR K mg F0 H0 ρ σ F H) {i : Nat} {b : B} (e : ρ[i]? = some b) : ∃ o, σ[i]? = some o ∧ Slot K mg H0 F H b o := by
  obtain ⟨h, _⟩ := List.getElem?_eq_some_iff.mp e
  have h2 : i < σ.length := by rw [← s.len]; exact h
  exact ⟨σ[i], List.getElem?_eq_getElem h2, s.at_ i b _ e (List.getElem?_eq_getElem h2)⟩
/-- a slot is stored, shared -/
theorem SR.set (s : SR K mg F0 H0 ρ σ F H) {i : Nat} {d : D} {v : V} (r : Rp K mg F d v) : SR K mg F0 H0 (ρ.set i (.sh d)) (σ.set i (some v)) F H where
  le := s.le
  len := by rw [List.length_set, List.length_set, s.len]
  at_ := fun j b o e1 e2 => by
    by_cases h : i = j
    · subst h
      by_cases hi : i < ρ.length
      · rw [List.getElem?_set_self hi] at e1
        rw [List.getElem?_set_self (by rw [← s.len]; exact hi)] at e2
        cases e1
        cases e2
        exact ⟨v, rfl, r⟩
      · rw [List.getElem?_eq_none (by rw [List.length_set]; omega)] at e1
        cases e1
    · rw [List.getElem?_set_ne h] at e1 e2
      exact s.at_ j b o e1 e2
  ne := fun j k a ds es e1 e2 e3 e4 => by
    have hj : i ≠ j := fun h => by
      subst h
      by_cases hi : i < ρ.length
      · rw [List.getElem?_set_self hi] at e1
        cases e1
      · rw [List.getElem?_eq_none (by rw [List.length_set]; omega)] at e1
        cases e1
    have hk : i ≠ k := fun h => by
      subst h
      by_cases hi : i < ρ.length
      · rw [List.getElem?_set_self hi] at e2
        cases e2
      · rw [List.getElem?_eq_none (by rw [List.length_set]; omega)] at e2
        cases e2
    rw [List.getElem?_set_ne hj] at e1 e3
    rw [List.getElem?_set_ne hk] at e2 e4
    exact s.ne j k a ds es e1 e2 e3 e4
/-- a slot is stored, a new list of one's own -/
theorem SR.setOw (s : SR K mg F0 H0 ρ σ F H) {i : Nat} {c : Cn} {u : HO} {p : Addr} (hp : H p = none) (r : Own K mg F p c u) : SR K mg F0 H0 (ρ.set i (.ow c)) (σ.set i (some (.ref p))) F (upd H p u) := by
  have hF : F p = none := free_of s.le.s hp
  have l : Le F H F (upd H p u) := ⟨Ex.refl F, Ex.new hp, fun a o e => by rw [upd_ne (ne_of_none e hF)]; exact s.le.s a o e, fun _ _ _ h => h⟩
  have hH0 : H0 p = none := free_of s.le.h hp
  have old : ∀ (j : Nat) (ds : Cn) (o : Option V), ρ[j]? = some (.ow ds) → σ[j]? = some o → o ≠ some (.ref p) := fun j ds o e1 e2 z => by
    subst z
    obtain ⟨a, vs', e, _, _, h2, _⟩ := s.at_ j _ _ e1 e2
    cases e
    rw [hp] at h2
    cases h2
  refine ⟨s.le.trans l, by rw [List.length_set, List.length_set, s.len], fun j b o e1 e2 => ?_, fun j k a ds' es e1 e2 e3 e4 => ?_⟩
  · by_cases h : i = j
    · subst h
      by_cases hi : i < ρ.length
      · rw [List.getElem?_set_self hi] at e1
        rw [List.getElem?_set_self (by rw [← s.len]; exact hi)] at e2
        cases e1
        cases e2
        exact ⟨p, u, rfl, hH0, hF, upd_same, r⟩
      · rw [List.getElem?_eq_none (by rw [List.length_set]; omega)] at e1
        cases e1
    · rw [List.getElem?_set_ne h] at e1 e2
      exact (s.at_ j b o e1 e2).mono l
  · by_cases hj : i = j
    · by_cases hk : i = k
      · omega
      · subst hj
        rw [List.getElem?_set_ne hk] at e2 e4
        have hi : i < σ.length := by
          have := (List.getElem?_eq_some_iff.mp e3).1
          rw [List.length_set] at this
          exact this
        rw [List.getElem?_set_self hi] at e3
        cases e3
        exact absurd rfl (old k es _ e2 e4)
    · by_cases hk : i = k
      · subst hk
        rw [List.getElem?_set_ne hj] at e1 e3
        have hi : i < σ.length := by
          have := (List.getElem?_eq_some_iff.mp e4).1
          rw [List.length_set] at this
          exact this
        rw [List.getElem?_set_self hi] at e4
        cases e4
        exact absurd rfl (old j ds' _ e1 e3)
      · rw [List.getElem?_set_ne hj] at e1 e3
        rw [List.getElem?_set_ne hk] at e2 e4
        exact s.ne j k a ds' es e1 e2 e3 e4
/-- an own list is changed -/
theorem SR.write (s : SR K mg F0 H0 ρ σ F H) {i : Nat} {ds es : Cn} {ws : HO} {a : Addr} (e : ρ[i]? = some (.ow ds)) (ea : σ[i]? = some (some (.ref a))) (r : Own K mg F a es ws) :
    SR K mg F0 H0 (ρ.set i (.ow es)) σ F (upd H a ws) := by
  obtain ⟨a', vs', e', h0, hF, _, _⟩ := s.at_ i _ _ e ea
  cases e'
  have hi : i < ρ.length := (List.getElem?_eq_some_iff.mp e).1
  refine ⟨⟨s.le.f, Ex.mut s.le.h h0, fun b o q => ?_, s.le.n⟩, by rw [List.length_set, s.len], fun j b o e1 e2 => ?_, fun j k c ds' es' e1 e2 e3 e4 => ?_⟩
  · rw [upd_ne (ne_of_none q hF)]
    exact s.le.s b o q
  · by_cases h : i = j
    · subst h
      rw [List.getElem?_set_self hi] at e1
      rw [ea] at e2
      cases e1
      cases e2
      exact ⟨a, ws, rfl, h0, hF, upd_same, r⟩
    · rw [List.getElem?_set_ne h] at e1
      have q := s.at_ j b o e1 e2
      cases b with
      | un => trivial
      | sh d =>
        obtain ⟨v, ev, rv⟩ := q
        exact ⟨v, ev, rv⟩
      | ow d2 =>
        obtain ⟨b', vs2, eb, h02, hF2, hH2, r2⟩ := q
        have nb : b' ≠ a := fun z => by
          subst z
          rw [eb] at e2
          exact h (s.ne i j b' ds d2 e e1 ea e2)
        exact ⟨b', vs2, eb, h02, hF2, by rw [upd_ne nb]; exact hH2, r2⟩
  · have hj : ∃ d, ρ[j]? = some (.ow d) := by
      by_cases h : i = j
      · subst h; exact ⟨_, e⟩
      · rw [List.getElem?_set_ne h] at e1; exact ⟨_, e1⟩
    have hk : ∃ d, ρ[k]? = some (.ow d) := by
      by_cases h : i = k
      · subst h; exact ⟨_, e⟩
      · rw [List.getElem?_set_ne h] at e2; exact ⟨_, e2⟩
    obtain ⟨d1, q1⟩ := hj
    obtain ⟨d2, q2⟩ := hk
    exact s.ne j k c d1 d2 q1 q2 e3 e4
/-- an own list is handed out: from now on it is not changed -/
theorem SR.freeze (s : SR K mg F0 H0 ρ σ F H) {i : Nat} {ds : Cn} (e : ρ[i]? = some (.ow ds)) : ∃ F', SR K mg F0 H0 (ρ.set i (.sh ds.data)) σ F' H := by
  obtain ⟨o, ea, a, vs, rfl, h0, hF, hH, r⟩ := s.slot e
  have hi : i < ρ.length := (List.getElem?_eq_some_iff.mp e).1
  have exF : Ex F (upd F a vs) := Ex.new hF
  refine ⟨upd F a vs, ⟨s.le.f.trans exF, s.le.h, fun b u q => ?_, fun b u hb hf => ?_⟩, by rw [List.length_set, s.len], fun j b u e1 e2 => ?_, fun j k c ds' es' e1 e2 e3 e4 => ?_⟩
  · by_cases h : b = a
    · subst h
      rw [upd_same] at q
      cases q
      exact hH
    · rw [upd_ne h] at q
      exact s.le.s b u q
  · have nb : b ≠ a := fun z => by
      subst z
      rw [h0] at hb
      cases hb
    rw [upd_ne nb]
    exact s.le.n b u hb hf
  · by_cases h : i = j
    · subst h
      rw [List.getElem?_set_self hi] at e1
      rw [ea] at e2
      cases e1
      cases e2
      exact ⟨_, rfl, (r.mono exF).rp upd_same⟩
    · rw [List.getElem?_set_ne h] at e1
      have q := s.at_ j b u e1 e2
      cases b with
      | un => trivial
      | sh d =>
        obtain ⟨v, ev, rv⟩ := q
        exact ⟨v, ev, rv.mono exF⟩
      | ow d2 =>
        obtain ⟨b', vs2, eb, h02, hF2, hH2, r2⟩ := q
        have nb : b' ≠ a := fun z => by
          subst z
          rw [eb] at e2
          exact h (s.ne i j b' ds d2 e e1 ea e2)
        exact ⟨b', vs2, eb, h02, by rw [upd_ne nb]; exact hF2, hH2, r2.mono exF⟩
  · have hj : i ≠ j := fun h => by
      subst h
      rw [List.getElem?_set_self hi] at e1
      cases e1
    have hk : i ≠ k := fun h => by
      subst h
      rw [List.getElem?_set_self hi] at e2
      cases e2
    rw [List.getElem?_set_ne hj] at e1
    rw [List.getElem?_set_ne hk] at e2
    exact s.ne j k c ds' es' e1 e2 e3 e4
end
end DL

/-! part DL2 -/
set_option Elab.async false
set_option linter.all false
set_option maxRecDepth 100000
set_option maxHeartbeats 1000000
namespace DL
open PySem PySem.Spec PyProof.Rows L2
open Evl (Ex)

/-! ### readings by data -/
def tP (K : PySem.W.Frag) (mg : Str → Option Value) (g : Rho → Option D) : TE := fun σ H Q => ∃ F0 H0 ρ F d, SR K mg F0 H0 ρ σ F H ∧ g ρ = some d ∧
  ∀ v F' H', Le F H F' H' → Rp K mg F' d v → Q v H'
def tPT (K : PySem.W.Frag) (mg : Str → Option Value) (g : Rho → Option Bool) : TT := fun σ H Q => ∃ F0 H0 ρ F b, SR K mg F0 H0 ρ σ F H ∧ g ρ = some b ∧
  ∀ F' H', Le F H F' H' → Q b H'
def tPA (K : PySem.W.Frag) (mg : Str → Option Value) (g : Rho → Option (List D)) : TA := fun σ H Q => ∃ F0 H0 ρ F ds, SR K mg F0 H0 ρ σ F H ∧ g ρ = some ds ∧
  ∀ vs F' H', Le F H F' H' → Rps K mg F' ds vs → Q vs H'
def tPO (K : PySem.W.Frag) (mg : Str → Option Value) (g : Rho → Option (Option Int)) : TO := fun σ H Q => ∃ F0 H0 ρ F o, SR K mg F0 H0 ρ σ F H ∧ g ρ = some o ∧
  ∀ F' H', Le F H F' H' → Q o H'
abbrev PuE (X : Cx) (e : Expr) (g : Rho → Option D) : Prop := PE X e (tP X.K X.mg g)
abbrev PuT (X : Cx) (e : Expr) (g : Rho → Option Bool) : Prop := PT X e (tPT X.K X.mg g)
abbrev PuA (X : Cx) (es : List Expr) (g : Rho → Option (List D)) : Prop := PA X es (tPA X.K X.mg g)
abbrev PuO (X : Cx) (e : Option Expr) (g : Rho → Option (Option Int)) : Prop := PO X e (tPO X.K X.mg g)

theorem pe_imp {X : Cx} {e : Expr} {t t' : TE} (h : PE X e t) (w : ∀ σ H Q, t' σ H Q → t σ H Q) : PE X e t' := ⟨fun pins s σ H Q I q => h.run pins s σ H Q I (w σ H Q q)⟩
theorem pt_imp {X : Cx} {e : Expr} {t t' : TT} (h : PT X e t) (w : ∀ σ H Q, t' σ H Q → t σ H Q) : PT X e t' := ⟨fun pins s σ H Q I q => h.run pins s σ H Q I (w σ H Q q)⟩
theorem pw_imp {X : Cx} {e : Expr} {t t' : TT} (h : PW X e t) (w : ∀ σ H Q, t' σ H Q → t σ H Q) : PW X e t' := ⟨fun wh pins s σ H Q I q => h.run wh pins s σ H Q I (w σ H Q q)⟩
theorem pa_imp {X : Cx} {e : List Expr} {t t' : TA} (h : PA X e t) (w : ∀ σ H Q, t' σ H Q → t σ H Q) : PA X e t' := ⟨fun pos pins s σ H Q I q => h.run pos pins s σ H Q I (w σ H Q q)⟩
theorem po_imp {X : Cx} {e : Option Expr} {t t' : TO} (h : PO X e t) (w : ∀ σ H Q, t' σ H Q → t σ H Q) : PO X e t' := ⟨fun pins s σ H Q I q => h.run pins s σ H Q I (w σ H Q q)⟩

/-! ### what expressions are worth -/
def gC (d : D) : Rho → Option D := fun _ => some d
def gV (i : Nat) : Rho → Option D := fun ρ => match ρ[i]? with
  | some (.sh d) => some d
  | _ => none
def gOp (f : D → D → Option D) (a b : Rho → Option D) : Rho → Option D := fun ρ => (a ρ).bind fun x => (b ρ).bind fun y => f x y
def gUn (f : D → Option D) (a : Rho → Option D) : Rho → Option D := fun ρ => (a ρ).bind f
def gNil : Rho → Option (List D) := fun _ => some []
def gCons (a : Rho → Option D) (r : Rho → Option (List D)) : Rho → Option (List D) := fun ρ => (a ρ).bind fun x => (r ρ).bind fun xs => some (x :: xs)
def big : Nat := 1000000
theorem big_ok {n : Nat} (h : n ≤ big) : n ≤ sizeLine := Nat.le_trans h (by decide)
theorem big_lt {n : Nat} (h : n < big) : n < sizeLine := Nat.lt_of_lt_of_le h (by decide)
def gTup (r : Rho → Option (List D)) : Rho → Option D := fun ρ => (r ρ).bind fun xs => if xs.length ≤ big then some (.tup xs) else none
def gLst (r : Rho → Option (List D)) : Rho → Option D := fun ρ => (r ρ).bind fun xs => if xs.length ≤ big then some (.lst xs) else none
def asB : D → Option Bool
  | .bl b => some b
  | _ => none
def gB (a : Rho → Option D) : Rho → Option Bool := fun ρ => (a ρ).bind asB
def gAndT (a b : Rho → Option Bool) : Rho → Option Bool := fun ρ => (a ρ).bind fun x => if x = true then b ρ else some false
def gOrT (a b : Rho → Option Bool) : Rho → Option Bool := fun ρ => (a ρ).bind fun x => if x = true then some true else b ρ
def gNotT (a : Rho → Option Bool) : Rho → Option Bool := fun ρ => (a ρ).bind fun x => some (!x)
def gAnd (a b : Rho → Option D) : Rho → Option D := fun ρ => (gB a ρ).bind fun x => if x = true then b ρ else some (.bl false)
def gOr (a b : Rho → Option D) : Rho → Option D := fun ρ => (gB a ρ).bind fun x => if x = true then some (.bl true) else b ρ
def gNot (a : Rho → Option D) : Rho → Option D := fun ρ => (gB a ρ).bind fun x => some (.bl (!x))
def gIf (c : Rho → Option Bool) (a b : Rho → Option D) : Rho → Option D := fun ρ => (c ρ).bind fun x => if x = true then a ρ else b ρ
def asI : D → Option Int
  | .int i => some i
  | _ => none
def gPart (a : Rho → Option D) : Rho → Option (Option Int) := fun ρ => (a ρ).bind fun x => (asI x).bind fun i => some (some i)
def gNoPart : Rho → Option (Option Int) := fun _ => some none

theorem bind_some {α β : Type} {x : Option α} {f : α → Option β} {b : β} (h : x.bind f = some b) : ∃ a, x = some a ∧ f a = some b := by
  cases x with
  | none => cases h
  | some a => exact ⟨a, rfl, h⟩

section
variable {X : Cx} {a b c e : Expr} {es : List Expr} {pos : Pos} {g g1 g2 g3 : Rho → Option D} {k k1 k2 : Rho → Option Bool} {gs : Rho → Option (List D)}

theorem pu_stuck : PuE X e (fun _ => none) := ⟨fun _ _ _ _ _ _ h => by
  obtain ⟨_, _, _, _, _, _, h, _⟩ := h
  cases h⟩
theorem pu_c {d : D} {v : V} (h : PE X e (tC v)) (r : ∀ F, Rp X.K X.mg F d v) : PuE X e (gC d) := pe_imp h fun σ H Q ⟨F0, H0, ρ, F, d', s, e, q⟩ => by
  cases e
  exact q v F H (Le.refl s.sub) (r F)
theorem pu_int {i : Int} {j : Nat} : PuE X (.Constant (.int i) j pos) (gC (.int i)) := pu_c pe_int fun _ => .int i
theorem pu_bl {i : Bool} {j : Nat} : PuE X (.Constant (.bool i) j pos) (gC (.bl i)) := pu_c pe_bl fun _ => .bl i
theorem pu_non {j : Nat} : PuE X (.Constant .none j pos) (gC .non) := pu_c pe_non fun _ => .non
theorem pu_str {x : Str} {j : Nat} : PuE X (.Constant (.str x) j pos) (gC (.str x)) := pu_c pe_str fun _ => .str x
theorem tVar_of {i : Nat} {σ : L2.St} {H : Hp} {Q : VK} (h : tP X.K X.mg (gV i) σ H Q) : tVar i σ H Q := by
  obtain ⟨F0, H0, ρ, F, d, s, e, q⟩ := h
  unfold gV at e
  cases h : ρ[i]? with
  | none => rw [h] at e; cases e
  | some x =>
    rw [h] at e
    cases x with
    | un => cases e
    | ow ds => cases e
    | sh d' =>
      cases e
      obtain ⟨o, eo, v, ev, r⟩ := s.slot h
      exact ⟨v, by rw [eo, ev], q v F H (Le.refl s.sub) r⟩
theorem pu_var {i : Nat} (h : PE X e (tVar i)) : PuE X e (gV i) := pe_imp h fun _ _ _ q => tVar_of q

theorem asB_some {d : D} {b : Bool} (h : asB d = some b) : d = .bl b := by
  cases d <;> first | cases h | skip
  rfl
/-- f is what the operation r does on data -/
def RelOp (K : PySem.W.Frag) (mg : Str → Option Value) (r : R2) (f : D → D → Option D) : Prop :=
  ∀ (x y : V) (d e z : D) (F H : Hp) (Q : VK), Ex F H → Rp K mg F d x → Rp K mg F e y → f d e = some z → (∀ v F' H', Le F H F' H' → Rp K mg F' z v → Q v H') → r x y H Q
theorem RelOp.or {K : PySem.W.Frag} {mg : Str → Option Value} {r r' : R2} {f f' : D → D → Option D} (h : RelOp K mg r f) (h' : RelOp K mg r' f') : RelOp K mg (fun x y H Q => r x y H Q ∨ r' x y H Q) (fun d e => (f d e).or (f' d e)) := by
  intro x y d e z F H Q s hx hy hz q
  have hz : (f d e).or (f' d e) = some z := hz
  cases q1 : f d e with
  | some w =>
    rw [q1] at hz
    cases hz
    exact .inl (h x y d e _ F H Q s hx hy q1 q)
  | none =>
    rw [q1] at hz
    exact .inr (h' x y d e z F H Q s hx hy hz q)
theorem OpR.or {f : Value → Value → Sem Value} {r r' : R2} (h : OpR X f r) (h' : OpR X f r') : OpR X f (fun x y H Q => r x y H Q ∨ r' x y H Q) := by
  intro pins s σ H x y v u Q I rx ry q
  rcases q with q | q
  · exact h pins s σ H x y v u Q I rx ry q
  · exact h' pins s σ H x y v u Q I rx ry q
/-- two in a row -/
theorem two {σ : L2.St} {H : Hp} {R : V → V → Hp → Prop} {F0 H0 F : Hp} {ρ : Rho} {d1 d2 : D} (s : SR X.K X.mg F0 H0 ρ σ F H) (e1 : g1 ρ = some d1) (e2 : g2 ρ = some d2)
    (q : ∀ x y F' H', Le F H F' H' → Rp X.K X.mg F' d1 x → Rp X.K X.mg F' d2 y → R x y H') : tP X.K X.mg g1 σ H fun x H1 => tP X.K X.mg g2 σ H1 fun y H2 => R x y H2 :=
  ⟨F0, H0, ρ, F, d1, s, e1, fun x F1 H1 l1 r1 => ⟨F0, H0, ρ, F1, d2, s.mono l1, e2, fun y F2 H2 l2 r2 => q x y F2 H2 (l1.trans l2) (r1.mono l2.f) r2⟩⟩
theorem tOp_of {r : R2} {f : D → D → Option D} (hr : RelOp X.K X.mg r f) {σ : L2.St} {H : Hp} {Q : VK} (h : tP X.K X.mg (gOp f g1 g2) σ H Q) : tOp r (tP X.K X.mg g1) (tP X.K X.mg g2) σ H Q := by
  obtain ⟨F0, H0, ρ, F, z, s, e, q⟩ := h
  obtain ⟨d1, e1, e⟩ := bind_some e
  obtain ⟨d2, e2, e⟩ := bind_some e
  exact two s e1 e2 fun x y F2 H2 l rx ry => hr x y d1 d2 z F2 H2 Q l.s rx ry e fun v F' H' l' rv => q v F' H' (l.trans l') rv
theorem pu_op {op : Operator} {r : R2} {f : D → D → Option D} (ho : OpR X (binaryOp op) r) (hr : RelOp X.K X.mg r f) (ha : PuE X a g1) (hb : PuE X b g2) : PuE X (.BinOp a op b pos) (gOp f g1 g2) :=
  pe_imp (pe_op ho ha hb) fun _ _ _ h => tOp_of hr h
theorem pu_cmp {op : CmpOp} {r : R2} {f : D → D → Option D} (ho : OpR X (compareOp op) r) (hr : RelOp X.K X.mg r f) (hm : behindInMarks op b = false) (ha : PuE X a g1) (hb : PuE X b g2) : PuE X (.Compare a [op] [b] pos) (gOp f g1 g2) :=
  pe_imp (pe_cmpR ho ha hb hm) fun _ _ _ h => tOp_of hr h
theorem rp_bl {K : PySem.W.Frag} {mg : Str → Option Value} {F : Hp} {b : Bool} {v : V} (r : Rp K mg F (.bl b) v) : v = .bl b := by
  cases r
  rfl
theorem tTest_of {t : TE} {g : Rho → Option D} (ht : ∀ σ H Q, tP X.K X.mg g σ H Q → t σ H Q) {σ : L2.St} {H : Hp} {Q : Bool → Hp → Prop} (h : tPT X.K X.mg (gB g) σ H Q) : t σ H fun x H1 => ∃ k, x = .bl k ∧ Q k H1 := by
  obtain ⟨F0, H0, ρ, F, z, s, e, q⟩ := h
  obtain ⟨d, e1, e⟩ := bind_some e
  refine ht _ _ _ ⟨F0, H0, ρ, F, d, s, e1, fun v F' H' l r => ?_⟩
  cases d <;> first | cases e | skip
  exact ⟨z, rp_bl r, q F' H' l⟩
theorem put_cmp {op : CmpOp} {r : R2} {f : D → D → Option D} (ho : OpR X (compareOp op) r) (hr : RelOp X.K X.mg r f) (hm : behindInMarks op b = false) (ha : PuE X a g1) (hb : PuE X b g2) : PuT X (.Compare a [op] [b] pos) (gB (gOp f g1 g2)) :=
  pt_imp (pt_cmpR ho ha hb hm) fun _ _ _ h => tTest_of (fun _ _ _ h => tOp_of hr h) h
/-- a < b < c -/
def gChain (f f' : D → D → Option D) (a b c : Rho → Option D) : Rho → Option D := fun ρ => (a ρ).bind fun x => (b ρ).bind fun y => (f x y).bind fun z => (asB z).bind fun k => if k = true then (c ρ).bind fun w => f' y w else some (.bl false)
theorem tChain_of {r r' : R2} {f f' : D → D → Option D} (hr : RelOp X.K X.mg r f) (hr' : RelOp X.K X.mg r' f') {σ : L2.St} {H : Hp} {Q : VK} (h : tP X.K X.mg (gChain f f' g1 g2 g3) σ H Q) :
    tChain r r' (tP X.K X.mg g1) (tP X.K X.mg g2) (tP X.K X.mg g3) σ H Q := by
  obtain ⟨F0, H0, ρ, F, z, s, e, q⟩ := h
  obtain ⟨d1, e1, e⟩ := bind_some e
  obtain ⟨d2, e2, e⟩ := bind_some e
  obtain ⟨d3, e3, e⟩ := bind_some e
  obtain ⟨k, e4, ee⟩ := bind_some e
  clear e
  refine two s e1 e2 fun x y F2 H2 l rx ry => hr x y d1 d2 d3 F2 H2 _ l.s rx ry e3 fun v F' H' l' rv => ?_
  have e5 := asB_some e4
  subst e5
  refine ⟨k, rp_bl rv, ?_⟩
  cases k with
  | false =>
    rw [if_neg Bool.false_ne_true] at ee ⊢
    cases ee
    exact q _ F' H' (l.trans l') (.bl false)
  | true =>
    rw [if_pos rfl] at ee ⊢
    obtain ⟨d5, e5, e6⟩ := bind_some ee
    exact ⟨F0, H0, ρ, F', d5, s.mono (l.trans l'), e5, fun w F3 H3 l3 rw3 => hr' y w d2 d5 z F3 H3 Q l3.s (ry.mono (l'.f.trans l3.f)) rw3 e6 fun v' F4 H4 l4 r4 => q v' F4 H4 (((l.trans l').trans l3).trans l4) r4⟩
theorem pu_chain {op op' : CmpOp} {r r' : R2} {f f' : D → D → Option D} (ho : OpR X (compareOp op) r) (hr : RelOp X.K X.mg r f) (ho' : OpR X (compareOp op') r') (hr' : RelOp X.K X.mg r' f') (ha : PuE X a g1) (hb : PuE X b g2) (hc : PuE X c g3)
    (hm : lastMarks [op, op'] [b, c] = false := by with_unfolding_all rfl) : PuE X (.Compare a [op, op'] [b, c] pos) (gChain f f' g1 g2 g3) :=
  pe_imp (pe_chain ho ho' ha hb hc hm) fun _ _ _ h => tChain_of hr hr' h
theorem put_chain {op op' : CmpOp} {r r' : R2} {f f' : D → D → Option D} (ho : OpR X (compareOp op) r) (hr : RelOp X.K X.mg r f) (ho' : OpR X (compareOp op') r') (hr' : RelOp X.K X.mg r' f') (ha : PuE X a g1) (hb : PuE X b g2) (hc : PuE X c g3)
    (hm : lastMarks [op, op'] [b, c] = false := by with_unfolding_all rfl) : PuT X (.Compare a [op, op'] [b, c] pos) (gB (gChain f f' g1 g2 g3)) :=
  pt_imp (pt_chain ho ho' ha hb hc hm) fun _ _ _ h => tTest_of (fun _ _ _ h => tChain_of hr hr' h) h
theorem put_val (h : PuE X e g) (he : ∀ whole, isTrue e X.env whole = (do let v ← whole; standAt e.pos; holding [v] (truthy v)) := by intro _; rfl) : PuT X e (gB g) :=
  pt_imp (pt_val h he) fun _ _ _ q => tTest_of (fun _ _ _ z => z) q
theorem put_not (h : PuT X a k) : PuT X (.UnaryOp .Not a pos) (gNotT k) := pt_imp (pt_not h) fun σ H Q ⟨F0, H0, ρ, F, z, s, e, q⟩ => by
  obtain ⟨x, e1, e⟩ := bind_some e
  cases e
  exact ⟨F0, H0, ρ, F, x, s, e1, q⟩
abbrev PuW (X : Cx) (e : Expr) (g : Rho → Option Bool) : Prop := PW X e (tPT X.K X.mg g)
variable {rest : List Expr}
theorem puw_and1 (h : PuT X a k) : PuW X (.BoolOp .And [a] pos) k := pw_and1 h
theorem puw_or1 (h : PuT X a k) : PuW X (.BoolOp .Or [a] pos) k := pw_or1 h
theorem puw_and (ha : PuT X a k1) (hb : PuW X (.BoolOp .And (b :: rest) pos) k2) : PuW X (.BoolOp .And (a :: b :: rest) pos) (gAndT k1 k2) := pw_imp (pw_and ha hb) fun σ H Q ⟨F0, H0, ρ, F, z, s, e, q⟩ => by
  obtain ⟨x, e1, e⟩ := bind_some e
  refine ⟨F0, H0, ρ, F, x, s, e1, fun F1 H1 l => ?_⟩
  cases x with
  | true => exact ⟨F0, H0, ρ, F1, z, s.mono l, e, fun F2 H2 l2 => q F2 H2 (l.trans l2)⟩
  | false =>
    cases e
    exact q F1 H1 l
theorem puw_or (ha : PuT X a k1) (hb : PuW X (.BoolOp .Or (b :: rest) pos) k2) : PuW X (.BoolOp .Or (a :: b :: rest) pos) (gOrT k1 k2) := pw_imp (pw_or ha hb) fun σ H Q ⟨F0, H0, ρ, F, z, s, e, q⟩ => by
  obtain ⟨x, e1, e⟩ := bind_some e
  refine ⟨F0, H0, ρ, F, x, s, e1, fun F1 H1 l => ?_⟩
  cases x with
  | false => exact ⟨F0, H0, ρ, F1, z, s.mono l, e, fun F2 H2 l2 => q F2 H2 (l.trans l2)⟩
  | true =>
    cases e
    exact q F1 H1 l
theorem pu_one {op : BoolOp} (h : PuE X a g) : PuE X (.BoolOp op [a] pos) g := pe_one h
theorem pu_and (ha : PuE X a g1) (hb : PuE X (.BoolOp .And (b :: rest) pos) g2) : PuE X (.BoolOp .And (a :: b :: rest) pos) (gAnd g1 g2) := pe_imp (pe_and ha hb) fun σ H Q ⟨F0, H0, ρ, F, z, s, e, q⟩ => by
  obtain ⟨x, e1, e⟩ := bind_some e
  obtain ⟨d, e0, e1⟩ := bind_some e1
  rw [asB_some e1] at e0
  refine ⟨F0, H0, ρ, F, .bl x, s, e0, fun v F1 H1 l r => ⟨x, rp_bl r, ?_⟩⟩
  cases x with
  | true => exact ⟨F0, H0, ρ, F1, z, s.mono l, e, fun v F2 H2 l2 => q v F2 H2 (l.trans l2)⟩
  | false =>
    cases e
    exact q _ F1 H1 l (.bl false)
theorem pu_or (ha : PuE X a g1) (hb : PuE X (.BoolOp .Or (b :: rest) pos) g2) : PuE X (.BoolOp .Or (a :: b :: rest) pos) (gOr g1 g2) := pe_imp (pe_or ha hb) fun σ H Q ⟨F0, H0, ρ, F, z, s, e, q⟩ => by
  obtain ⟨x, e1, e⟩ := bind_some e
  obtain ⟨d, e0, e1⟩ := bind_some e1
  rw [asB_some e1] at e0
  refine ⟨F0, H0, ρ, F, .bl x, s, e0, fun v F1 H1 l r => ⟨x, rp_bl r, ?_⟩⟩
  cases x with
  | false => exact ⟨F0, H0, ρ, F1, z, s.mono l, e, fun v F2 H2 l2 => q v F2 H2 (l.trans l2)⟩
  | true =>
    cases e
    exact q _ F1 H1 l (.bl true)
theorem pu_not (ha : PuE X a g) : PuE X (.UnaryOp .Not a pos) (gNot g) := pe_imp (pe_not ha) fun σ H Q ⟨F0, H0, ρ, F, z, s, e, q⟩ => by
  obtain ⟨x, e1, e⟩ := bind_some e
  obtain ⟨d, e0, e1⟩ := bind_some e1
  rw [asB_some e1] at e0
  cases e
  exact ⟨F0, H0, ρ, F, .bl x, s, e0, fun v F1 H1 l r => ⟨x, rp_bl r, q _ F1 H1 l (.bl _)⟩⟩
theorem pu_if (hc : PuT X c k) (ha : PuE X a g1) (hb : PuE X b g2) : PuE X (.IfExp c a b pos) (gIf k g1 g2) := pe_imp (pe_ifExp hc ha hb) fun σ H Q ⟨F0, H0, ρ, F, z, s, e, q⟩ => by
  obtain ⟨x, e1, e⟩ := bind_some e
  refine ⟨F0, H0, ρ, F, x, s, e1, fun F1 H1 l => ?_⟩
  cases x with
  | true => exact ⟨F0, H0, ρ, F1, z, s.mono l, e, fun v F2 H2 l2 => q v F2 H2 (l.trans l2)⟩
  | false => exact ⟨F0, H0, ρ, F1, z, s.mono l, e, fun v F2 H2 l2 => q v F2 H2 (l.trans l2)⟩
theorem pua_nil : PuA X [] gNil := pa_imp pa_nil fun σ H Q ⟨F0, H0, ρ, F, z, s, e, q⟩ => by
  cases e
  exact q [] F H (Le.refl s.sub) .nil
theorem pua_cons (ha : PuE X e g) (hr : PuA X es gs) (hs : starEach (e :: es) X.env = (false, eval e X.env) :: starEach es X.env := by rfl) : PuA X (e :: es) (gCons g gs) := pa_imp (pa_cons ha hr hs) fun σ H Q ⟨F0, H0, ρ, F, z, s, e, q⟩ => by
  obtain ⟨x, e1, e⟩ := bind_some e
  obtain ⟨xs, e2, e⟩ := bind_some e
  cases e
  exact ⟨F0, H0, ρ, F, x, s, e1, fun v F1 H1 l r => ⟨F0, H0, ρ, F1, xs, s.mono l, e2, fun vs F2 H2 l2 r2 => q (v :: vs) F2 H2 (l.trans l2) (.cons (r.mono l2.f) r2)⟩⟩
theorem pu_tup {x1 : Nat} (h : PuA X es gs) : PuE X (.Tuple es x1 pos) (gTup gs) := pe_imp (pe_tup h) fun σ H Q ⟨F0, H0, ρ, F, z, s, e, q⟩ => by
  obtain ⟨xs, e1, e⟩ := bind_some e
  split at e
  · rename_i hb
    cases e
    refine ⟨F0, H0, ρ, F, xs, s, e1, fun vs F1 H1 l r => ⟨big_ok (by rw [← r.length]; exact hb), fun p hp => ?_⟩⟩
    have l2 := Le.new (o := .tup vs) l.s hp
    exact q _ _ _ (l.trans l2) (.tup (SqT.of upd_same) (r.mono l2.f))
  · cases e
theorem pu_lst (h : PuA X es gs) : PuE X (.List es pos) (gLst gs) := pe_imp (pe_lst h) fun σ H Q ⟨F0, H0, ρ, F, z, s, e, q⟩ => by
  obtain ⟨xs, e1, e⟩ := bind_some e
  split at e
  · rename_i hb
    cases e
    refine ⟨F0, H0, ρ, F, xs, s, e1, fun vs F1 H1 l r => ⟨big_ok (by rw [← r.length]; exact hb), fun p hp => ?_⟩⟩
    have l2 := Le.new (o := .lst vs) l.s hp
    exact q _ _ _ (l.trans l2) (.lst upd_same (r.mono l2.f))
  · cases e
theorem puo_none : PuO X none gNoPart := po_imp po_none fun σ H Q ⟨F0, H0, ρ, F, z, s, e, q⟩ => by
  cases e
  exact q F H (Le.refl s.sub)
theorem puo_some (h : PuE X e g) : PuO X (some e) (gPart g) := po_imp (po_some h) fun σ H Q ⟨F0, H0, ρ, F, z, s, e, q⟩ => by
  obtain ⟨x, e1, e⟩ := bind_some e
  obtain ⟨i, e2, e⟩ := bind_some e
  cases e
  cases x <;> first | cases e2 | skip
  refine ⟨F0, H0, ρ, F, _, s, e1, fun v F1 H1 l r => ?_⟩
  cases r
  exact ⟨_, rfl, q F1 H1 l⟩
end

/-! ### the operations on data -/
instance (i j : Int) : Decidable (CMul i j) := by unfold CMul; infer_instance
instance (i j : Int) : Decidable (CDiv i j) := by unfold CDiv; infer_instance
instance (i j : Int) : Decidable (CPow i j) := by unfold CPow; infer_instance
def oI0 (g : Int → Int → D) : D → D → Option D
  | .int i, .int j => some (g i j)
  | _, _ => none
def oI (C : Int → Int → Prop) [∀ i j, Decidable (C i j)] (g : Int → Int → D) : D → D → Option D
  | .int i, .int j => if C i j then some (g i j) else none
  | _, _ => none
section
variable {K : PySem.W.Frag} {mg : Str → Option Value}
theorem rel_I0 {g : Int → Int → V} {f : Int → Int → D} (h : ∀ i j F, Rp K mg F (f i j) (g i j)) : RelOp K mg (rI0 g) (oI0 f) := by
  intro x y d e z F H Q s hx hy hz q
  cases d <;> cases e <;> first | cases hz | skip
  cases hx
  cases hy
  exact ⟨_, _, rfl, rfl, q _ F H (Le.refl s) (h _ _ F)⟩
theorem rel_I {C : Int → Int → Prop} [∀ i j, Decidable (C i j)] {g : Int → Int → V} {f : Int → Int → D} (h : ∀ i j F, Rp K mg F (f i j) (g i j)) : RelOp K mg (rI C g) (oI C f) := by
  intro x y d e z F H Q s hx hy hz q
  cases d <;> cases e <;> first | cases hz | skip
  rename_i i j
  dsimp only [oI] at hz
  split at hz
  · rename_i hc
    cases hz
    cases hx
    cases hy
    exact ⟨_, _, rfl, rfl, hc, q _ F H (Le.refl s) (h _ _ F)⟩
  · cases hz
def oCatL : D → D → Option D
  | .lst a, .lst b => if a.length + b.length ≤ big then some (.lst (a ++ b)) else none
  | _, _ => none
theorem rel_catL : RelOp K mg rCat oCatL := by
  intro x y d e z F H Q s hx hy hz q
  cases d <;> cases e <;> first | cases hz | skip
  rename_i ds es
  dsimp only [oCatL] at hz
  split at hz
  · rename_i hc
    cases hz
    cases hx with
    | lst hx rx =>
      cases hy with
      | lst hy ry =>
        refine ⟨_, _, _, _, rfl, rfl, s _ _ hx, s _ _ hy, big_ok (by rw [← rx.length, ← ry.length]; exact hc), fun p hp => ?_⟩
        exact q _ _ _ (Le.new s hp) (.lst upd_same ((rx.append ry).mono (Le.new s hp).f))
  · cases hz
def oCatT : D → D → Option D
  | .tup a, .tup b => if a.length + b.length ≤ big then some (.tup (a ++ b)) else none
  | _, _ => none
theorem Rps.nil_of {F : Hp} {ds : List D} (h : Rps K mg F ds []) : ds = [] := by
  cases h
  rfl
theorem rel_catT : RelOp K mg (rCatA K) oCatT := by
  intro x y d e z F H Q s hx hy hz q
  cases d <;> cases e <;> first | cases hz | skip
  rename_i ds es
  dsimp only [oCatT] at hz
  split at hz
  · rename_i hc
    cases hz
    cases hx with
    | tup hx rx =>
      cases hy with
      | tup hy ry =>
        refine ⟨_, _, _, _, rfl, rfl, Evl.ex_t s hx, Evl.ex_t s hy, big_ok (by rw [← rx.length, ← ry.length]; exact hc), fun h => ?_, fun h1 h => ?_, fun h1 h2 p hp => ?_⟩
        · subst h
          have e := rx.nil_of
          subst e
          exact q _ F H (Le.refl s) (.tup hy ry)
        · subst h
          have e := ry.nil_of
          subst e
          exact q _ F H (Le.refl s) (.tup hx (by rw [List.append_nil]; exact rx))
        · exact q _ _ _ (Le.new s hp) (.tup (SqT.of upd_same) ((rx.append ry).mono (Le.new s hp).f))
  · cases hz
def oRepL : D → D → Option D
  | .lst a, .int k => if -1000000 ≤ k ∧ k ≤ 1000000 ∧ a.length * k.toNat ≤ big then some (.lst (List.replicate k.toNat a).flatten) else none
  | _, _ => none
theorem rel_repL : RelOp K mg rRep oRepL := by
  intro x y d e z F H Q s hx hy hz q
  cases d <;> cases e <;> first | cases hz | skip
  rename_i ds k
  dsimp only [oRepL] at hz
  split at hz
  · rename_i hc
    cases hz
    cases hy
    cases hx with
    | lst hx rx =>
      refine ⟨_, _, _, rfl, rfl, s _ _ hx, by omega, by omega, big_ok (by rw [← rx.length]; exact hc.2.2), fun p hp => ?_⟩
      exact q _ _ _ (Le.new s hp) (.lst upd_same ((rx.rep k.toNat).mono (Le.new s hp).f))
  · cases hz
/-! == over data -/
mutual
def pyd : D → Option PyData
  | .non => some .none
  | .bl b => some (.bool b)
  | .int i => some (.int i)
  | .str x => some (.str x)
  | .tup xs => (pyds xs).map .tuple
  | .lst xs => (pyds xs).map .list
  | .scr xs => (pyds xs).map .list
  | .ins _ _ => none
  | .ty _ => none
def pyds : List D → Option (List PyData)
  | [] => some []
  | x :: xs => (pyd x).bind fun y => (pyds xs).map fun ys => y :: ys
end
mutual
theorem dp_of {F H : Hp} (s : Ex F H) : ∀ (d : D) (v : V) (p : PyData), Rp K mg F d v → pyd d = some p → Dp K H v p
  | .non, _, _, .non, e => by cases e; exact .non
  | .bl b, _, _, .bl _, e => by cases e; exact .bl b
  | .int i, _, _, .int _, e => by cases e; exact .int i
  | .str x, _, _, .str _, e => by cases e; exact .str x
  | .tup ds, _, _, .tup h r, e => by
    unfold pyd at e
    cases q : pyds ds with
    | none => rw [q] at e; cases e
    | some ps =>
      rw [q] at e
      cases e
      exact .tup (Evl.ex_t s h) (dps_of s ds _ ps r q)
  | .lst ds, _, _, .lst h r, e => by
    unfold pyd at e
    cases q : pyds ds with
    | none => rw [q] at e; cases e
    | some ps =>
      rw [q] at e
      cases e
      exact .lst (SqL.of (s _ _ h)) (dps_of s ds _ ps r q)
  | .scr ds, _, _, .scr h r, e => by
    unfold pyd at e
    cases q : pyds ds with
    | none => rw [q] at e; cases e
    | some ps =>
      rw [q] at e
      cases e
      exact .lst (Evl.ex_l s h) (dps_of s ds _ ps r q)
theorem dps_of {F H : Hp} (s : Ex F H) : ∀ (ds : List D) (vs : List V) (ps : List PyData), Rps K mg F ds vs → pyds ds = some ps → DpAll K H vs ps
  | [], _, _, .nil, e => by cases e; exact .nil
  | d :: ds, _, _, .cons h r, e => by
    unfold pyds at e
    obtain ⟨y, e1, e⟩ := bind_some e
    cases q : pyds ds with
    | none => rw [q] at e; cases e
    | some ys =>
      rw [q] at e
      cases e
      exact .cons (dp_of s d _ y h e1) (dps_of s ds _ ys r q)
end
def oEq : D → D → Option D := fun a b => (pyd a).bind fun x => (pyd b).bind fun y => if SeqAt.shaped x = true ∧ SeqAt.shaped y = true then some (.bl (PyData.eqv x y)) else none
def oNe : D → D → Option D := fun a b => (pyd a).bind fun x => (pyd b).bind fun y => if SeqAt.shaped x = true ∧ SeqAt.shaped y = true then some (.bl (!PyData.eqv x y)) else none
theorem rel_eq : RelOp K mg (rEqD K) oEq := by
  intro x y d e z F H Q s hx hy hz q
  obtain ⟨a, e1, hz⟩ := bind_some hz
  obtain ⟨b, e2, hz⟩ := bind_some hz
  split at hz
  · rename_i hc
    cases hz
    exact ⟨a, b, dp_of s _ _ _ hx e1, dp_of s _ _ _ hy e2, hc.1, hc.2, q _ F H (Le.refl s) (.bl _)⟩
  · cases hz
theorem rel_ne : RelOp K mg (rNeD K) oNe := by
  intro x y d e z F H Q s hx hy hz q
  obtain ⟨a, e1, hz⟩ := bind_some hz
  obtain ⟨b, e2, hz⟩ := bind_some hz
  split at hz
  · rename_i hc
    cases hz
    exact ⟨a, b, dp_of s _ _ _ hx e1, dp_of s _ _ _ hy e2, hc.1, hc.2, q _ F H (Le.refl s) (.bl _)⟩
  · cases hz
/-! in, over flat items -/
def flat : D → Option V
  | .non => some .non
  | .bl b => some (.bl b)
  | .int i => some (.int i)
  | .str x => some (.str x)
  | _ => none
def flats : List D → Option (List V)
  | [] => some []
  | x :: xs => (flat x).bind fun y => (flats xs).map fun ys => y :: ys
theorem flat_of {F : Hp} {d : D} {v w : V} (r : Rp K mg F d v) (h : flat d = some w) : v = w ∧ flatV v = true := by
  cases d <;> first | cases h | skip
  all_goals (cases r; exact ⟨rfl, rfl⟩)
theorem flats_of {F : Hp} : ∀ {ds : List D} {vs ws : List V}, Rps K mg F ds vs → flats ds = some ws → vs = ws ∧ vs.all flatV = true
  | [], _, _, .nil, h => by cases h; exact ⟨rfl, rfl⟩
  | d :: ds, _, _, .cons a r, h => by
    unfold flats at h
    obtain ⟨y, e1, h⟩ := bind_some h
    cases q : flats ds with
    | none => rw [q] at h; cases h
    | some ys =>
      rw [q] at h
      cases h
      obtain ⟨e2, f2⟩ := flat_of a e1
      obtain ⟨e3, f3⟩ := flats_of r q
      subst e2
      subst e3
      exact ⟨rfl, by rw [List.all_cons, f2, f3]; rfl⟩
def items : D → Option (List D)
  | .tup xs => some xs
  | .lst xs => some xs
  | .scr xs => some xs
  | _ => none
theorem items_of {F H : Hp} {d : D} {v : V} {ds : List D} (s : Ex F H) (r : Rp K mg F d v) (h : items d = some ds) : ∃ a xs, v = .ref a ∧ (SqL K H a xs ∨ SqT K H a xs) ∧ Rps K mg F ds xs := by
  cases d <;> first | cases h | skip
  all_goals cases r
  · rename_i h r
    exact ⟨_, _, rfl, .inr (Evl.ex_t s h), r⟩
  · rename_i h r
    exact ⟨_, _, rfl, .inl (SqL.of (s _ _ h)), r⟩
  · rename_i h r
    exact ⟨_, _, rfl, .inl (Evl.ex_l s h), r⟩
def oIn (neg : Bool) : D → D → Option D := fun x y => (flat x).bind fun v => (items y).bind fun ds => (flats ds).bind fun vs => some (.bl (if neg then !inV v vs else inV v vs))
theorem rel_in {neg : Bool} : RelOp K mg (rIn K neg) (oIn neg) := by
  intro x y d e z F H Q s hx hy hz q
  obtain ⟨v, e1, hz⟩ := bind_some hz
  obtain ⟨ds, e2, hz⟩ := bind_some hz
  obtain ⟨vs, e3, hz⟩ := bind_some hz
  cases hz
  obtain ⟨a, xs, rfl, hq, r⟩ := items_of s hy e2
  obtain ⟨e4, f4⟩ := flat_of hx e1
  obtain ⟨e5, f5⟩ := flats_of r e3
  subst e4
  subst e5
  exact ⟨a, _, rfl, hq, f4, f5, q _ F H (Le.refl s) (.bl _)⟩
def isNon : D → Bool
  | .non => true
  | _ => false
def oIs (neg : Bool) : D → D → Option D
  | x, .non => some (.bl (if neg then !isNon x else isNon x))
  | _, _ => none
theorem non_iff {F : Hp} {d : D} {v : V} (r : Rp K mg F d v) : decide (v = .non) = isNon d := by
  cases r <;> rfl
theorem rel_isN : RelOp K mg (fun x y H Q => y = .non ∧ Q (.bl (decide (x = .non))) H) (oIs false) := by
  intro x y d e z F H Q s hx hy hz q
  cases e <;> first | cases hz | skip
  cases hy
  refine ⟨rfl, ?_⟩
  rw [non_iff hx]
  exact q _ F H (Le.refl s) (.bl _)
theorem rel_isnotN : RelOp K mg (fun x y H Q => y = .non ∧ Q (.bl (!decide (x = .non))) H) (oIs true) := by
  intro x y d e z F H Q s hx hy hz q
  cases e <;> first | cases hz | skip
  cases hy
  refine ⟨rfl, ?_⟩
  rw [non_iff hx]
  exact q _ F H (Le.refl s) (.bl _)
/-! subscripts -/
def oIx : D → D → Option D
  | c, .int i => (items c).bind fun ds => atI ds i
  | _, _ => none
theorem atI_of {F : Hp} {ds : List D} {xs : List V} {i : Int} {d : D} (r : Rps K mg F ds xs) (h : atI ds i = some d) : ∃ v, atI xs i = some v ∧ Rp K mg F d v := by
  unfold atI at h ⊢
  rw [← r.length]
  obtain ⟨j, e1, e2⟩ := bind_some h
  obtain ⟨v, e3, q⟩ := r.get e2
  exact ⟨v, by rw [e1]; exact e3, q⟩
theorem rel_ix : RelOp K mg (fun x y H Q => rIxL K x y H Q ∨ rIxT K x y H Q) oIx := by
  intro x y d e z F H Q s hx hy hz q
  cases e <;> first | cases hz | skip
  cases hy
  obtain ⟨ds, e1, hz⟩ := bind_some hz
  obtain ⟨a, xs, rfl, hq, r⟩ := items_of s hx e1
  obtain ⟨v, e2, rv⟩ := atI_of r hz
  rcases hq with hq | hq
  · exact .inl ⟨a, xs, _, v, rfl, rfl, hq, e2, q _ F H (Le.refl s) rv⟩
  · exact .inr ⟨a, xs, _, v, rfl, rfl, hq, e2, q _ F H (Le.refl s) rv⟩
end
section
variable {X : Cx} {a b : Expr} {lo hi : Option Expr} {p2 pos : Pos} {g g1 g2 : Rho → Option D} {g3 g4 : Rho → Option (Option Int)}
theorem ixr_or {r r' : R2} (h : IxR X r) (h' : IxR X r') : IxR X (fun x y H Q => r x y H Q ∨ r' x y H Q) := by
  intro value slice pins s σ H x y v u Q I rx ry q hs
  rcases q with q | q
  · exact h value slice pins s σ H x y v u Q I rx ry q hs
  · exact h' value slice pins s σ H x y v u Q I rx ry q hs
theorem pu_ix (ha : PuE X a g1) (hb : PuE X b g2) (hp : PlainIx b := by intro _ _; rfl) : PuE X (.Subscript a b pos) (gOp oIx g1 g2) :=
  pe_imp (pe_ix (ixr_or ix_list ix_tup) ha hb hp) fun _ _ _ h => tOp_of rel_ix h
/-- slices -/
def cutD (xs : List D) (lo hi : Option Int) : List D := (xs.drop (HT.sIx xs.length 0 lo)).take (HT.sIx xs.length xs.length hi - HT.sIx xs.length 0 lo)
def oSl (c : D) (lo hi : Option Int) : Option D := match c with
  | .tup xs => some (.tup (cutD xs lo hi))
  | .lst xs => some (.lst (cutD xs lo hi))
  | _ => none
theorem cut_of {K : PySem.W.Frag} {mg : Str → Option Value} {F : Hp} {ds : List D} {xs : List V} (r : Rps K mg F ds xs) (lo hi : Option Int) : Rps K mg F (cutD ds lo hi) (cutV xs lo hi) := by
  unfold cutD cutV
  rw [r.length]
  exact (r.drop _).take _
def gSl (a : Rho → Option D) (lo hi : Rho → Option (Option Int)) : Rho → Option D := fun ρ => (a ρ).bind fun x => (lo ρ).bind fun i => (hi ρ).bind fun j => oSl x i j
theorem pu_sl (ha : PuE X a g) (hl : PuO X lo g3) (hh : PuO X hi g4) : PuE X (.Subscript a (.Slice lo hi none p2) pos) (gSl g g3 g4) :=
  pe_imp (pe_slice (SlR.or sl_list sl_tupA) ha hl hh) fun σ H Q ⟨F0, H0, ρ, F, z, s, e, q⟩ => by
    obtain ⟨x, e1, e⟩ := bind_some e
    obtain ⟨i, e2, e⟩ := bind_some e
    obtain ⟨j, e3, e⟩ := bind_some e
    refine ⟨F0, H0, ρ, F, x, s, e1, fun v F1 H1 l1 r1 => ⟨F0, H0, ρ, F1, i, s.mono l1, e2, fun F2 H2 l2 => ⟨F0, H0, ρ, F2, j, (s.mono l1).mono l2, e3, fun F3 H3 l3 => ?_⟩⟩⟩
    have l := (l1.trans l2).trans l3
    have r := r1.mono (l2.f.trans l3.f)
    cases x <;> first | cases e | skip
    · cases r with
      | tup h r =>
        refine .inr ⟨_, _, rfl, Evl.ex_t l.s h, fun w => ?_, fun w p hp => ?_⟩
        · refine q _ F3 H3 l (.tup h ?_)
          have c := cut_of r i j
          unfold cutV at c
          rw [w.1, w.2, List.drop_zero, Nat.sub_zero, List.take_length] at c
          exact c
        · have c := cut_of r i j
          exact q _ _ _ (l.trans (Le.new l.s hp)) (.tup (SqT.of upd_same) (c.mono (Le.new l.s hp).f))
    · cases r with
      | lst h r =>
        refine .inl ⟨_, _, rfl, SqL.of (l.s _ _ h), fun p hp => ?_⟩
        have c := cut_of r i j
        exact q _ _ _ (l.trans (Le.new l.s hp)) (.lst upd_same (c.mono (Le.new l.s hp).f))
end
end DL

/-! part DL3 -/
set_option Elab.async false
set_option linter.all false
set_option maxRecDepth 100000
set_option maxHeartbeats 1000000
namespace DL
open PySem PySem.Spec PyProof.Rows L2
open Evl (Ex)

/-! ### enumerate(a tuple) -/
section
open Sem (wp)
theorem meets_enumerate_newB1 {v : Value} {o : Obj} {H : Heap → Prop} (B : Begins v o H) :
    Meets (Builtin.«enumerate.__new__» ⟨[.type "enumerate", v], []⟩) (fun _ R s => H s.heap ∧
      R (.ok (.ret (.ref (s.heap.push o).objs.size))) { s with heap := (s.heap.push o).push { cls := .type "enumerate", data := .fields #[.none, .bool false, .ref s.heap.objs.size, rawInt 0, .none, .none] } }) :=
  .of_wp fun prog w A R s h => by
    obtain ⟨hp, g, d, tk, os⟩ := s; obtain ⟨h1, h⟩ := h
    have hsub := sub_enumerate
    have q1 : ∀ {A' : Around} {E : Value → Shared → Prop} {Q : Value → Shared → Prop}, Q (.ref hp.objs.size) ⟨hp.push o, g, d, tk, os⟩ → wpAny (model prog w) A' (pyIter v) Q E ⟨hp, g, d, tk, os⟩ :=
      fun q => B.iter prog w _ _ ⟨hp, g, d, tk, os⟩ _ h1 q
    wp_walk using q1
    refine wpAny_stack_any fun st => wpAny_pure ?_
    split
    · rename_i c _ _ _ _ _
      cases (c == Value.type "enumerate")
      · wp_walk using q1
        exact ⟨_, rfl, h⟩
      · wp_walk using q1
        exact ⟨_, rfl, h⟩
    · wp_walk using q1
      exact ⟨_, rfl, h⟩
end
section
variable {prog : Program} {w : World} {A : Around} {E : Value → Shared → Prop} {s : Shared}
theorem enum_begins1 {v : Value} {o : Obj} {H : Heap → Prop} {Q : Value → Shared → Prop} (B : Begins v o H) (h1 : H s.heap)
    (h : ∀ h', IsEnum h' (s.heap.objs.size + 1) s.heap.objs.size 0 .none → h'.get? s.heap.objs.size = some o → h'.objs.size = s.heap.objs.size + 2 →
      (∀ b o, s.heap.get? b = some o → h'.get? b = some o) → Q (.ref (s.heap.objs.size + 1)) { s with heap := h' }) :
    wpAny (model prog w) A (call (.type "enumerate") [v]) Q E s := by
  refine callType_new F.called_enumerate (by decide) (F.typeCall_enumerate_1 _) (F.newCall_enumerate_1 _) (fun obj => F.args_object_init_2 obj _) F.entry_enumerate_new
    (meets_enumerate_newB1 B) ⟨h1, ?_⟩
  have hz : (s.heap.push o).objs.size = s.heap.objs.size + 1 := Heap.size_push ..
  show _ ∧ _
  rw [hz]
  have he : IsEnum ((s.heap.push o).push { cls := .type "enumerate", data := .fields #[.none, .bool false, .ref s.heap.objs.size, rawInt 0, .none, .none] }) (s.heap.objs.size + 1) s.heap.objs.size 0 .none := by
    have := Heap.get?_push_size (s.heap.push o) (o := { cls := .type "enumerate", data := .fields #[.none, .bool false, .ref s.heap.objs.size, rawInt 0, .none, .none] }) rfl
    rw [hz] at this; exact this
  refine ⟨⟨_, he, rfl⟩, h _ he (Heap.get?_push_of_some _ (Heap.get?_push_size _ B.free)) (by rw [Heap.size_push, hz]) fun b o x => Heap.get?_push_of_some _ (Heap.get?_push_of_some _ x)⟩
end
section
variable {prog : Program} {w : World} {A : Around} {E : Value → Shared → Prop} {s : Shared}
theorem wpAny_pyNext_enum_endT {e it l : Addr} {i : Nat} {items : Array Value} {old : Value} {Q : Option Value → Shared → Prop} (hh : A.handled = none)
    (he : IsEnum s.heap e it i old) (hit : s.heap.IsTupleIter it l i) (hl : s.heap.IsTuple l items) (hx : items[i]? = none)
    (hQ : ∀ h', Heap.ExtBut it s.heap h' → Q none { s with heap := h' }) : wpAny (model prog w) A (pyNext (.ref e)) Q E s := by
  have hT : s.TypeIs (.ref e) "enumerate" := ⟨_, he, rfl⟩
  unfold pyNext
  refine wpAny_bind (wpAny_attempt (wpAny_callSpecial?_slot (name := Str.ofString "__next__") hT F.slot_enumerate_next
    (wpAny_call_entry F.slot_enumerate_next hT F.entry_enumerate_next ?_ (F.args_enumerate_next_1 _))))
  show wpAny _ _ (field (.ref e) 2 >>= _) _ _ _
  refine wpAny_bind (wpAny_field he rfl (x := .ref it) rfl ?_)
  refine wpAny_bind (wpAny_nextOf_tuple_end hh hit hl hx fun h' x he' hx' => ?_)
  obtain ⟨o, ho, hc⟩ := hx'
  refine wpAny_bind (wpAny_isInstance (T := "StopIteration") (b := true) ⟨o, ho, hc⟩ isSubtype_stop ?_)
  exact wpAny_pure (hQ _ he')
end
def IteT (K : PySem.W.Frag) (a : Addr) : It :=
  ⟨fun i H => ∃ (xs : List V) (x : V), SqT K H a xs ∧ xs[i]? = some x, fun i H v H' => ∃ T x, v = .ref T ∧ H T = none ∧ H' = upd H T (.tup [.int (i : Nat), x]) ∧ ∀ xs, SqT K H a xs → xs[i]? = some x, fun i H => ∃ xs : List V, SqT K H a xs ∧ xs.length ≤ i⟩
theorem tup_lt {h : Heap} {a : Addr} {vs : Array Value} (t : IsTup h a vs) : a < h.objs.size := t.lt
theorem turn_enumT {P : Program} {w : World} {K : PySem.W.Frag} {elts : List Expr} {kk : Nat} {tpos : Pos} (a e it : Addr) :
    Turn P w K (.Tuple elts kk tpos) (IteT K a) [e, it] e (fun i h => (∃ old, IsEnum h e it ((i : Nat) : Int) old) ∧ h.IsTupleIter it a i ∧ e ≠ it ∧ a ≠ it ∧ a ≠ e) where
  mem := by simp
  obj := fun i h st b hb => by
    obtain ⟨⟨old, he⟩, ⟨o, ho, hc, hd⟩, _⟩ := st
    have e' : b = e ∨ b = it := by simpa using hb
    rcases e' with z | z
    · rw [z]; exact ⟨_, he, fun v q => nomatch q⟩
    · rw [z]; exact ⟨o, ho, fun v q => by rw [hd] at q; cases q⟩
  keep := fun i h h' st k => let ⟨⟨old, he⟩, hi, hne, n1, n2⟩ := st; ⟨⟨old, k e (by simp) _ he⟩, hi.at fun o q => k it (by simp) o q, hne, n1, n2⟩
  item := by
    intro X hP hw hK hc i pins s σ H E I hf st hg
    subst hP hw hK
    obtain ⟨⟨old, he⟩, hit, hne, n1, n2⟩ := st
    obtain ⟨xs, x, hq, hx⟩ := hg
    obtain ⟨its, rv, p, hz⟩ := I.tuple hq
    obtain ⟨u, hu, ru⟩ := rv.get hx
    have hel : e < s.heap.objs.size := Heap.lt_size he
    have hil : it < s.heap.objs.size := by obtain ⟨_, q, _⟩ := hit; exact Heap.lt_size q
    have hal : a < s.heap.objs.size := tup_lt p
    have hi : i < its.toArray.size := by
      obtain ⟨h1, _⟩ := List.getElem?_eq_some_iff.mp hu
      simpa using h1
    refine wpAny_pyNext_enum_itemD (A := X.A) (Draws.tuple (A := X.A.in1) (show X.A.in1.handled = none from I.ok.hd hc) it a n1 its.toArray) he ⟨hit, p⟩ hi hne (fun z => by
      rcases List.mem_cons.mp z with z | z
      · exact hne z
      · exact n2 (List.mem_singleton.mp z).symm) fun y h' tk hy ho hst' hT hsz hk => ?_
    obtain ⟨hit', htu'⟩ := hst'
    have ey : y = u := by
      have : its.toArray[i]? = some y := hy
      rw [List.getElem?_toArray] at this
      rw [hu] at this
      exact (Option.some.inj this).symm
    subst ey
    refine ⟨_, rfl, wpAny_letOwnedTupleGo_enum (s := { s with heap := h', toks := tk + 1 }) ho fun h'' he' sb => ?_⟩
    have hT2 : h''.get? s.heap.objs.size = some { cls := .type "tuple", data := .seq #[.int i tk, y] } := (sb.2 _ (Nat.ne_of_gt hel)).trans hT
    have new : ObjOk X.prog X.w (upd H s.heap.objs.size (.tup [.int (i : Nat), x])) h'' s.heap.objs.size (.tup [.int (i : Nat), x]) :=
      ⟨by show 2 ≤ sizeLine; decide, [.int i tk, y], .cons ⟨_, rfl⟩ (.cons ru .nil), ⟨_, hT2, rfl, _, rfl⟩⟩
    have I1 : Inv X pins σ (upd H s.heap.objs.size (.tup [.int (i : Nat), x])) { s with heap := h'', toks := tk + 1 } :=
      I.turnedNew (ch := [e, it]) (fun b ob hb q => (sb.2 b (fun z => hb (by simp [z]))).trans (hk b ob (fun z => hb (by simp [z])) (fun z => hb (by simp [z])) q)) hf (Nat.le_refl _) new
    refine ⟨.ref s.heap.objs.size, _, I1, rfl, ⟨_, x, rfl, I.hok.fresh (Nat.le_refl _), rfl, fun ys hy => by rw [I.tuple_inj hy hq]; exact hx⟩, ⟨⟨y, ?_⟩, hit'.at fun o q => (sb.2 it (Ne.symm hne)).trans q, hne, n1, n2⟩, fun b hb => ?_⟩
    · have e1 : ((i + 1 : Nat) : Int) = (i : Int) + 1 := by omega
      rw [e1]; exact he'
    · have hb' : b < s.heap.objs.size := by
        have e' : b = e ∨ b = it := by simpa using hb
        rcases e' with z | z
        · rw [z]; exact hel
        · rw [z]; exact hil
      rw [upd_ne (Nat.ne_of_lt hb')]
      exact (hf b hb).1
  done := by
    intro X hP hw hK hc i pins s σ H E I hf st hg
    subst hP hw hK
    obtain ⟨⟨old, he⟩, hit, hne, n1, n2⟩ := st
    obtain ⟨xs, hq, hx⟩ := hg
    obtain ⟨its, rv, p, hz⟩ := I.tuple hq
    obtain ⟨f0, f1, f2, f3, f4, f5⟩ := hf it (by simp)
    have hl := rv.length
    have hend : its.toArray[i]? = none := by simp; omega
    refine wpAny_pyNext_enum_endT (I.ok.hd hc) he hit p hend fun h' eb => ⟨rfl, I.turned (t' := s.toks) (fun b o hb q => eb b o hb q) f0 f1 f3 f4 f5⟩
  self := fun A i s Q E st h => let ⟨⟨_, he⟩, _⟩ := st; wpAny_pyIter_enum he h
def iEnumT (K : PySem.W.Frag) (ta : TA) : TI := fun σ H R => ta σ H fun vs H1 => ∃ a xs, vs = [.ref a] ∧ ((SqL K H1 a xs ∧ R (Ite K a) H1) ∨ (SqT K H1 a xs ∧ R (IteT K a) H1))
theorem pi_enumT {X : Cx} {e : Expr} {ta : TA} {p pos tpos : Pos} {elts : List Expr} {kk : Nat} (hg : Gl X "enumerate") (hm : X.mg "enumerate" = none) (ha : PA X [e] ta) (hs : starEach [e] X.env = [(false, eval e X.env)] := by rfl) :
    PI X (.Tuple elts kk tpos) (.Call (.Name "enumerate" p) [e] [] pos) (iEnumT X.K ta) := by
  refine ⟨fun pins s σ H R I h => ?_⟩
  refine Call_ (ld_blt I hg hm boot_enumerate (PyProof.Rows.callWith_type1 (thn (ha.run pos pins s σ H _ I h) fun us s1 ⟨vs, H1, I1, r1, q1⟩ => ?_) hs rfl))
  obtain ⟨a, xs, ex, q⟩ := q1
  subst ex
  cases r1 with
  | cons r rr =>
    cases rr
    cases r
    rcases q with ⟨hq, q⟩ | ⟨hq, q⟩
    · obtain ⟨its, rv, p', hz⟩ := I1.list hq
      refine call_enumerate_list p'.isList fun h' he hit hsz hk => wpAny_pyIter_enum he ?_
      have I2 : Inv X pins σ H1 { s1 with heap := h' } := I1.kept (t' := s1.toks) hk
      refine ⟨s1.heap.objs.size + 1, [s1.heap.objs.size + 1, s1.heap.objs.size], _, _, H1, rfl, I2, turn_enum a (s1.heap.objs.size + 1) s1.heap.objs.size, ⟨⟨.none, he⟩, hit, Nat.succ_ne_self _⟩, fun b hb => ?_, q⟩
      have e' : b = s1.heap.objs.size + 1 ∨ b = s1.heap.objs.size := by simpa using hb
      have hle : s1.heap.objs.size ≤ b := by
        rcases e' with z | z
        · rw [z]; exact Nat.le_add_right _ _
        · rw [z]; exact Nat.le_refl _
      exact I1.fpOk hle (I1.hok.fresh hle)
    · obtain ⟨its, rv, p', hz⟩ := I1.tuple hq
      have hal : a < s1.heap.objs.size := tup_lt p'
      refine enum_begins1 (begins_tuple a its.toArray) (show s1.heap.IsTuple a its.toArray from p') fun h' he hit hsz hk => wpAny_pyIter_enum he ?_
      have I2 : Inv X pins σ H1 { s1 with heap := h' } := I1.kept (t' := s1.toks) hk
      refine ⟨s1.heap.objs.size + 1, [s1.heap.objs.size + 1, s1.heap.objs.size], _, _, H1, rfl, I2, turn_enumT a (s1.heap.objs.size + 1) s1.heap.objs.size,
        ⟨⟨.none, he⟩, ⟨_, hit, rfl, rfl⟩, Nat.succ_ne_self _, Nat.ne_of_lt hal, Nat.ne_of_lt (Nat.lt_succ_of_lt hal)⟩, fun b hb => ?_, q⟩
      have e' : b = s1.heap.objs.size + 1 ∨ b = s1.heap.objs.size := by simpa using hb
      have hle : s1.heap.objs.size ≤ b := by
        rcases e' with z | z
        · rw [z]; exact Nat.le_add_right _ _
        · rw [z]; exact Nat.le_refl _
      exact I1.fpOk hle (I1.hok.fresh hle)
end DL

/-! part DL4 -/
set_option Elab.async false
set_option linter.all false
set_option maxRecDepth 100000
set_option maxHeartbeats 1000000
namespace DL
open PySem PySem.Spec PyProof.Rows L2
open Evl (Ex)

/-! ### statements -/
inductive Res where
  | nx (ρ : Rho) | rt (d : D) | bk (ρ : Rho) | ct (ρ : Rho)
def Post (K : PySem.W.Frag) (mg : Str → Option Value) (F0 H0 : Hp) (E : Ends) : Res → Prop
  | .nx ρ => ∀ σ F H, SR K mg F0 H0 ρ σ F H → E.nx σ H
  | .bk ρ => ∀ σ F H, SR K mg F0 H0 ρ σ F H → E.bk σ H
  | .ct ρ => ∀ σ F H, SR K mg F0 H0 ρ σ F H → E.ct σ H
  | .rt d => ∀ v F H, Le F0 H0 F H → Rp K mg F d v → E.rt v H
abbrev SG := Rho → Option Res
def tPS (K : PySem.W.Frag) (mg : Str → Option Value) (g : SG) : TS := fun E σ H => ∃ F0 H0 ρ F r, SR K mg F0 H0 ρ σ F H ∧ g ρ = some r ∧ Post K mg F0 H0 E r
abbrev PuS (X : Cx) (st : Stmt) (g : SG) : Prop := PS X st (tPS X.K X.mg g)
abbrev PuSs (X : Cx) (sts : List Stmt) (g : SG) : Prop := PSs X sts (tPS X.K X.mg g)
theorem ps_imp {X : Cx} {st : Stmt} {t t' : TS} (h : PS X st t) (w : ∀ E σ H, t' E σ H → t E σ H) : PS X st t' := ⟨fun pins s σ H E I q => h.run pins s σ H E I (w E σ H q)⟩
theorem pss_imp {X : Cx} {st : List Stmt} {t t' : TS} (h : PSs X st t) (w : ∀ E σ H, t' E σ H → t E σ H) : PSs X st t' := ⟨fun pins s σ H E I q => h.run pins s σ H E I (w E σ H q)⟩

def gNext : SG := fun ρ => some (.nx ρ)
def gThen (r : Option Res) (g : SG) : Option Res := r.bind fun r => match r with
  | .nx ρ => g ρ
  | r => some r
def gSeq (a b : SG) : SG := fun ρ => gThen (a ρ) b
def gStuck : SG := fun _ => none
def gSet (i : Nat) (g : Rho → Option D) : SG := fun ρ => (g ρ).bind fun d => some (.nx (ρ.set i (.sh d)))
def gRet (g : Rho → Option D) : SG := fun ρ => (g ρ).bind fun d => some (.rt d)
def gRetN : SG := fun _ => some (.rt .non)
def gIfS (c : Rho → Option Bool) (a b : SG) : SG := fun ρ => (c ρ).bind fun x => if x = true then a ρ else b ρ
def gBreak : SG := fun ρ => some (.bk ρ)
def gCont : SG := fun ρ => some (.ct ρ)
def gFreeze (i : Nat) (g : SG) : SG := fun ρ => match ρ[i]? with
  | some (.ow c) => g (ρ.set i (.sh c.data))
  | _ => g ρ
section
variable {X : Cx} {st : Stmt} {rest a b : List Stmt} {e c : Expr} {pos : Pos} {g : Rho → Option D} {k : Rho → Option Bool} {s1 s2 : SG}
theorem pus_stuck : PuS X st gStuck := ⟨fun _ _ _ _ _ _ h => by
  obtain ⟨_, _, _, _, _, _, h, _⟩ := h
  cases h⟩
theorem puss_stuck : PuSs X rest gStuck := ⟨fun _ _ _ _ _ _ h => by
  obtain ⟨_, _, _, _, _, _, h, _⟩ := h
  cases h⟩
theorem puss_nil : PuSs X [] gNext := pss_imp pss_nil fun E σ H ⟨F0, H0, ρ, F, r, s, e, q⟩ => by
  cases e
  exact q σ F H s
theorem puss_cons (h1 : PuS X st s1) (h2 : PuSs X rest s2) : PuSs X (st :: rest) (gSeq s1 s2) := pss_imp (pss_cons h1 h2) fun E σ H ⟨F0, H0, ρ, F, r, s, e, q⟩ => by
  obtain ⟨r1, e1, e⟩ := bind_some e
  refine ⟨F0, H0, ρ, F, r1, s, e1, ?_⟩
  cases r1 with
  | nx ρ' => exact fun σ' F' H' s' => ⟨F0, H0, ρ', F', r, s', e, q⟩
  | rt d => cases e; exact q
  | bk d => cases e; exact q
  | ct d => cases e; exact q
theorem puss_one (h : PuS X st s1) : PuSs X [st] s1 := pss_one h
theorem pus_pass : PuS X (.Pass pos) gNext := ps_imp ps_pass fun E σ H ⟨F0, H0, ρ, F, r, s, e, q⟩ => by
  cases e
  exact q σ F H s
theorem pus_break : PuS X (.Break pos) gBreak := ps_imp ps_break fun E σ H ⟨F0, H0, ρ, F, r, s, e, q⟩ => by
  cases e
  exact q σ F H s
theorem pus_continue : PuS X (.Continue pos) gCont := ps_imp ps_continue fun E σ H ⟨F0, H0, ρ, F, r, s, e, q⟩ => by
  cases e
  exact q σ F H s
theorem pus_ret (h : PuE X e g) : PuS X (.Return (some e) pos) (gRet g) := ps_imp (ps_ret h) fun E σ H ⟨F0, H0, ρ, F, r, s, e, q⟩ => by
  obtain ⟨d, e1, e⟩ := bind_some e
  cases e
  exact ⟨F0, H0, ρ, F, d, s, e1, fun v F' H' l r => q v F' H' (s.le.trans l) r⟩
theorem pus_retN : PuS X (.Return none pos) gRetN := ps_imp ps_retN fun E σ H ⟨F0, H0, ρ, F, r, s, e, q⟩ => by
  cases e
  exact q _ F H s.le .non
theorem pus_if (hc : PuT X c k) (ha : PuSs X a s1) (hb : PuSs X b s2) : PuS X (.If c a b pos) (gIfS k s1 s2) := ps_imp (ps_if hc ha hb) fun E σ H ⟨F0, H0, ρ, F, r, s, e, q⟩ => by
  obtain ⟨x, e1, e⟩ := bind_some e
  refine ⟨F0, H0, ρ, F, x, s, e1, fun F1 H1 l => ?_⟩
  cases x with
  | true => exact ⟨F0, H0, ρ, F1, r, s.mono l, e, q⟩
  | false => exact ⟨F0, H0, ρ, F1, r, s.mono l, e, q⟩
theorem freeze_of {i : Nat} {t : TS} (w : ∀ E σ H, tPS X.K X.mg s1 E σ H → t E σ H) : ∀ E σ H, tPS X.K X.mg (gFreeze i s1) E σ H → t E σ H := fun E σ H ⟨F0, H0, ρ, F, r, s, e, q⟩ => by
  unfold gFreeze at e
  split at e
  · rename_i c hc
    obtain ⟨F', s'⟩ := s.freeze hc
    exact w _ _ _ ⟨F0, H0, _, F', r, s', e, q⟩
  · exact w _ _ _ ⟨F0, H0, ρ, F, r, s, e, q⟩
theorem pus_freeze (i : Nat) (h : PuS X st s1) : PuS X st (gFreeze i s1) := ps_imp h (freeze_of fun _ _ _ q => q)
theorem puss_freeze (i : Nat) (h : PuSs X rest s1) : PuSs X rest (gFreeze i s1) := pss_imp h (freeze_of fun _ _ _ q => q)
theorem pus_set {i : Nat} {x : Str} {pos' : Pos} (hN : X.N.Nodup) (hi : X.N[i]? = some x) (hx : Loc X.env.scope x) (h : PuE X e g) (hs : swapsWith e (some (.Name x pos')) pos.line X.env = pure false := by rfl) (hf : X.fn x = true ∨ X.env.scope.names.lookup x = some .local := by first | exact .inl rfl | exact .inr rfl | assumption) :
    PuS X (.Assign [.Name x pos'] e pos) (gSet i g) := ps_imp (ps_set hN hi hx h hs hf) fun E σ H ⟨F0, H0, ρ, F, r, s, e, q⟩ => by
  obtain ⟨d, e1, e⟩ := bind_some e
  cases e
  exact ⟨F0, H0, ρ, F, d, s, e1, fun v F' H' l r => q _ F' H' ((s.mono l).set r)⟩
theorem pus_drop (h : PuE X e g) (hs : swapsWith e none pos.line X.env = pure false := by rfl) : PuS X (.Expr e pos) (fun ρ => (g ρ).bind fun _ => some (.nx ρ)) := ps_imp (ps_expr h hs) fun E σ H ⟨F0, H0, ρ, F, r, s, e, q⟩ => by
  obtain ⟨d, e1, e⟩ := bind_some e
  cases e
  exact ⟨F0, H0, ρ, F, d, s, e1, fun v F' H' l r => q _ F' H' (s.mono l)⟩
end

/-! ### new lists -/
def tPL (K : PySem.W.Frag) (mg : Str → Option Value) (g : Rho → Option (List D)) : TE := fun σ H Q => ∃ F0 H0 ρ F ds, SR K mg F0 H0 ρ σ F H ∧ g ρ = some ds ∧
  ∀ p vs F' H', Le F H F' H' → H' p = none → Rps K mg F' ds vs → Q (.ref p) (upd H' p (.lst vs))
abbrev PuL (X : Cx) (e : Expr) (g : Rho → Option (List D)) : Prop := PE X e (tPL X.K X.mg g)
def gOfL (g : Rho → Option (List D)) : Rho → Option D := fun ρ => (g ρ).bind fun ds => some (.lst ds)
def gLen1 (g : Rho → Option (List D)) : Rho → Option (List D) := fun ρ => (g ρ).bind fun ds => if ds.length ≤ big then some ds else none
def gSetOw (i : Nat) (g : Rho → Option (List D)) : SG := fun ρ => (g ρ).bind fun ds => some (.nx (ρ.set i (.ow (.lst ds))))
section
variable {X : Cx} {a b e : Expr} {es : List Expr} {pos : Pos} {g g1 g2 : Rho → Option D} {gl : Rho → Option (List D)}
theorem tP_ofL {σ : L2.St} {H : Hp} {Q : VK} (h : tP X.K X.mg (gOfL gl) σ H Q) : tPL X.K X.mg gl σ H Q := by
  obtain ⟨F0, H0, ρ, F, d, s, e, q⟩ := h
  obtain ⟨ds, e1, e⟩ := bind_some e
  cases e
  exact ⟨F0, H0, ρ, F, ds, s, e1, fun p vs F' H' l hp r => q _ _ _ (l.trans (Le.new l.s hp)) (.lst upd_same (r.mono (Le.new l.s hp).f))⟩
theorem pu_ofL (h : PuL X e gl) : PuE X e (gOfL gl) := pe_imp h fun _ _ _ q => tP_ofL q
theorem pul_lst (h : PuA X es gl) : PuL X (.List es pos) (gLen1 gl) := pe_imp (pe_lst h) fun σ H Q ⟨F0, H0, ρ, F, z, s, e, q⟩ => by
  obtain ⟨xs, e1, e⟩ := bind_some e
  split at e
  · rename_i hb
    cases e
    exact ⟨F0, H0, ρ, F, _, s, e1, fun vs F1 H1 l r => ⟨big_ok (by rw [← r.length]; exact hb), fun p hp => q p vs F1 H1 l hp r⟩⟩
  · cases e
theorem pus_setOw {i : Nat} {x : Str} {pos' : Pos} (hN : X.N.Nodup) (hi : X.N[i]? = some x) (hx : Loc X.env.scope x) (h : PuL X e gl) (hs : swapsWith e (some (.Name x pos')) pos.line X.env = pure false := by rfl) (hf : X.fn x = true ∨ X.env.scope.names.lookup x = some .local := by first | exact .inl rfl | exact .inr rfl | assumption) :
    PuS X (.Assign [.Name x pos'] e pos) (gSetOw i gl) := ps_imp (ps_set hN hi hx h hs hf) fun E σ H ⟨F0, H0, ρ, F, r, s, e, q⟩ => by
  obtain ⟨d, e1, e⟩ := bind_some e
  cases e
  exact ⟨F0, H0, ρ, F, d, s, e1, fun p vs F' H' l hp r => q _ F' _ ((s.mono l).setOw hp r)⟩
def glRep (a b : Rho → Option D) : Rho → Option (List D) := fun ρ => (a ρ).bind fun x => (b ρ).bind fun y => match x, y with
  | .lst xs, .int k => if -1000000 ≤ k ∧ k ≤ 1000000 ∧ xs.length * k.toNat ≤ big then some (List.replicate k.toNat xs).flatten else none
  | _, _ => none
theorem pul_rep (ha : PuE X a g1) (hb : PuE X b g2) : PuL X (.BinOp a .Mult b pos) (glRep g1 g2) := pe_imp (pe_op op_rep ha hb) fun σ H Q ⟨F0, H0, ρ, F, z, s, e, q⟩ => by
  obtain ⟨d1, e1, e⟩ := bind_some e
  obtain ⟨d2, e2, e⟩ := bind_some e
  refine two s e1 e2 fun x y F2 H2 l rx ry => ?_
  cases d1 <;> first | cases e | skip
  cases d2 <;> first | cases e | skip
  dsimp only at e
  split at e
  · rename_i hc
    cases e
    cases ry
    cases rx with
    | lst hx rx =>
      exact ⟨_, _, _, rfl, rfl, l.s _ _ hx, by omega, by omega, big_ok (by rw [← rx.length]; exact hc.2.2), fun p hp => q p _ F2 H2 l hp (rx.rep _)⟩
  · cases e
def glCat (a b : Rho → Option D) : Rho → Option (List D) := fun ρ => (a ρ).bind fun x => (b ρ).bind fun y => match x, y with
  | .lst xs, .lst ys => if xs.length + ys.length ≤ big then some (xs ++ ys) else none
  | _, _ => none
theorem pul_cat (ha : PuE X a g1) (hb : PuE X b g2) : PuL X (.BinOp a .Add b pos) (glCat g1 g2) := pe_imp (pe_op op_cat ha hb) fun σ H Q ⟨F0, H0, ρ, F, z, s, e, q⟩ => by
  obtain ⟨d1, e1, e⟩ := bind_some e
  obtain ⟨d2, e2, e⟩ := bind_some e
  refine two s e1 e2 fun x y F2 H2 l rx ry => ?_
  cases d1 <;> first | cases e | skip
  cases d2 <;> first | cases e | skip
  dsimp only at e
  split at e
  · rename_i hc
    cases e
    cases rx with
    | lst hx rx =>
      cases ry with
      | lst hy ry =>
        exact ⟨_, _, _, _, rfl, rfl, l.s _ _ hx, l.s _ _ hy, big_ok (by rw [← rx.length, ← ry.length]; exact hc), fun p hp => q p _ F2 H2 l hp (rx.append ry)⟩
  · cases e
end

/-! ### borrowed: an own list that is read and not handed out -/
def BP (K : PySem.W.Frag) (mg : Str → Option Value) (F H : Hp) (d : D) (v : V) : Prop := Rp K mg F d v ∨ ∃ a vs ds, d = .lst ds ∧ v = .ref a ∧ H a = some (.lst vs) ∧ Rps K mg F ds vs
def tPB (K : PySem.W.Frag) (mg : Str → Option Value) (g : Rho → Option D) : TE := fun σ H Q => ∃ F0 H0 ρ F d, SR K mg F0 H0 ρ σ F H ∧ g ρ = some d ∧
  ∀ v F' H', Le F H F' H' → BP K mg F' H' d v → Q v H'
abbrev PuB (X : Cx) (e : Expr) (g : Rho → Option D) : Prop := PE X e (tPB X.K X.mg g)
def gBor (i : Nat) : Rho → Option D := fun ρ => match ρ[i]? with
  | some (.sh d) => some d
  | some (.ow (.lst ds)) => some (.lst ds)
  | _ => none
theorem BP.mono {K : PySem.W.Frag} {mg : Str → Option Value} {F H F' H' : Hp} {d : D} {v : V} (h : BP K mg F H d v) (l : Le F H F' H') : BP K mg F' H' d v := by
  rcases h with h | ⟨a, vs, ds, e1, e2, e3, r⟩
  · exact .inl (h.mono l.f)
  · exact .inr ⟨a, vs, ds, e1, e2, l.h _ _ e3, r.mono l.f⟩
theorem BP.items {K : PySem.W.Frag} {mg : Str → Option Value} {F H : Hp} {d : D} {v : V} {ds : List D} (s : Ex F H) (r : BP K mg F H d v) (h : items d = some ds) : ∃ a xs, v = .ref a ∧ (SqL K H a xs ∨ SqT K H a xs) ∧ Rps K mg F ds xs := by
  rcases r with r | ⟨a, vs, ds', e1, e2, e3, r⟩
  · exact items_of s r h
  · subst e1
    cases h
    exact ⟨a, vs, e2, .inl (SqL.of e3), r⟩
section
variable {X : Cx} {a b e : Expr} {p pos : Pos} {g g1 g2 : Rho → Option D}
theorem pub_of (h : PuE X e g) : PuB X e g := pe_imp h fun σ H Q ⟨F0, H0, ρ, F, d, s, e, q⟩ => ⟨F0, H0, ρ, F, d, s, e, fun v F' H' l r => q v F' H' l (.inl r)⟩
theorem pub_var {i : Nat} (h : PE X e (tVar i)) : PuB X e (gBor i) := pe_imp h fun σ H Q ⟨F0, H0, ρ, F, d, s, e, q⟩ => by
  unfold gBor at e
  split at e
  · rename_i d' h
    cases e
    obtain ⟨o, eo, v, ev, r⟩ := s.slot h
    exact ⟨v, by rw [eo, ev], q v F H (Le.refl s.sub) (.inl r)⟩
  · rename_i ds h
    cases e
    obtain ⟨o, eo, a, u, ev, h0, hF, hH, r⟩ := s.slot h
    cases u <;> first | exact r.elim | skip
    exact ⟨_, by rw [eo, ev], q _ F H (Le.refl s.sub) (.inr ⟨a, _, ds, rfl, rfl, hH, r⟩)⟩
  · cases e
/-- a call of a builtin with one borrowed argument -/
def oLen (d : D) : Option D := (items d).bind fun ds => some (.int ds.length)
def oTupOf (d : D) : Option D := (items d).bind fun ds => some (.tup ds)
theorem pub_len (hg : Gl X "len") (hm : X.mg "len" = none) (h : PuB X e g) (he : starEach [e] X.env = (false, eval e X.env) :: starEach [] X.env := by rfl) :
    PuE X (.Call (.Name "len" p) [e] [] pos) (gUn oLen g) := pe_imp (pe_callB call_len_seq hg hm PySem.boot_len (pa_cons h pa_nil he) (he := he)) fun σ H Q ⟨F0, H0, ρ, F, z, s, e, q⟩ => by
  obtain ⟨d, e1, e⟩ := bind_some e
  obtain ⟨ds, e2, e⟩ := bind_some e
  cases e
  refine ⟨F0, H0, ρ, F, d, s, e1, fun v F' H' l r => ?_⟩
  obtain ⟨a, xs, rfl, hq, rr⟩ := r.items l.s e2
  refine ⟨a, xs, rfl, hq, ?_⟩
  rw [← rr.length]
  exact q _ F' H' l (.int _)
theorem pub_tupleOf (hg : Gl X "tuple") (hm : X.mg "tuple" = none) (h : PuB X e g) (he : starEach [e] X.env = (false, eval e X.env) :: starEach [] X.env := by rfl) :
    PuE X (.Call (.Name "tuple" p) [e] [] pos) (gUn oTupOf g) := pe_imp (pe_callTy call_tuple_of hg hm (by decide +kernel) (pa_cons h pa_nil he) (he := he)) fun σ H Q ⟨F0, H0, ρ, F, z, s, e, q⟩ => by
  obtain ⟨d, e1, e⟩ := bind_some e
  obtain ⟨ds, e2, e⟩ := bind_some e
  cases e
  refine ⟨F0, H0, ρ, F, d, s, e1, fun v F' H' l r => ?_⟩
  have key : (∃ a xs, v = .ref a ∧ SqL X.K H' a xs ∧ Rps X.K X.mg F' ds xs) ∨ ∃ a xs, v = .ref a ∧ SqT X.K H' a xs ∧ SqT X.K F' a xs ∧ Rps X.K X.mg F' ds xs := by
    rcases r with r | ⟨a, vs, ds', ed, ev, eh, r⟩
    · cases d <;> first | cases e2 | skip
      · cases r with
        | tup h r => exact .inr ⟨_, _, rfl, Evl.ex_t l.s h, h, r⟩
      · cases r with
        | lst h r => exact .inl ⟨_, _, rfl, SqL.of (l.s _ _ h), r⟩
      · cases r with
        | scr h r => exact .inl ⟨_, _, rfl, Evl.ex_l l.s h, r⟩
    · subst ed
      cases e2
      exact .inl ⟨a, vs, ev, SqL.of eh, r⟩
  rcases key with ⟨a, xs, rfl, hq, rr⟩ | ⟨a, xs, rfl, hq, hF, rr⟩
  · exact ⟨a, xs, rfl, .inl ⟨hq, fun p hp => q _ _ _ (l.trans (Le.new l.s hp)) (.tup (SqT.of upd_same) (rr.mono (Le.new l.s hp).f))⟩⟩
  · exact ⟨a, xs, rfl, .inr ⟨hq, q _ F' H' l (.tup hF rr)⟩⟩
def glListOf (g : Rho → Option D) : Rho → Option (List D) := fun ρ => (g ρ).bind items
theorem pul_listOf (hg : Gl X "list") (hm : X.mg "list" = none) (h : PuB X e g) (he : starEach [e] X.env = (false, eval e X.env) :: starEach [] X.env := by rfl) :
    PuL X (.Call (.Name "list" p) [e] [] pos) (glListOf g) := pe_imp (pe_callTy call_list_of hg hm (by decide +kernel) (pa_cons h pa_nil he) (he := he)) fun σ H Q ⟨F0, H0, ρ, F, z, s, e, q⟩ => by
  obtain ⟨d, e1, e⟩ := bind_some e
  refine ⟨F0, H0, ρ, F, d, s, e1, fun v F' H' l r => ?_⟩
  obtain ⟨a, xs, rfl, hq, rr⟩ := r.items l.s e
  exact ⟨a, xs, rfl, hq, fun p hp => q p xs F' H' l hp rr⟩
theorem pub_ix (ha : PuB X a g1) (hb : PuE X b g2) (hp : PlainIx b := by intro _ _; rfl) : PuE X (.Subscript a b pos) (gOp oIx g1 g2) :=
  pe_imp (pe_ix (ixr_or ix_list ix_tup) ha hb hp) fun σ H Q ⟨F0, H0, ρ, F, z, s, e, q⟩ => by
    obtain ⟨d1, e1, e⟩ := bind_some e
    obtain ⟨d2, e2, e⟩ := bind_some e
    refine ⟨F0, H0, ρ, F, d1, s, e1, fun v F1 H1 l1 r1 => ⟨F0, H0, ρ, F1, d2, s.mono l1, e2, fun w F2 H2 l2 r2 => ?_⟩⟩
    cases d2 <;> first | cases e | skip
    cases r2
    obtain ⟨ds, e3, hz⟩ := bind_some e
    obtain ⟨a, xs, rfl, hq, rr⟩ := (r1.mono l2).items l2.s e3
    obtain ⟨v, e4, rv⟩ := atI_of rr hz
    rcases hq with hq | hq
    · exact .inl ⟨a, xs, _, v, rfl, rfl, hq, e4, q _ F2 H2 (l1.trans l2) rv⟩
    · exact .inr ⟨a, xs, _, v, rfl, rfl, hq, e4, q _ F2 H2 (l1.trans l2) rv⟩
end

/-! ### own lists that change -/
def gApp (i : Nat) (g : Rho → Option D) : SG := fun ρ => match ρ[i]? with
  | some (.ow (.lst ds)) => (g ρ).bind fun d => if ds.length < big then some (.nx (ρ.set i (.ow (.lst (ds ++ [d]))))) else none
  | _ => none
def gSetIx (i : Nat) (gi ge : Rho → Option D) : SG := fun ρ => match ρ[i]? with
  | some (.ow (.lst ds)) => (ge ρ).bind fun d => (gi ρ).bind fun x => (asI x).bind fun z => (ixN ds.length z).bind fun k => some (.nx (ρ.set i (.ow (.lst (ds.set k d)))))
  | _ => none
section
variable {X : Cx} {a b e : Expr} {p pos : Pos} {g g1 g2 : Rho → Option D}
theorem own_lst {K : PySem.W.Frag} {mg : Str → Option Value} {F : Hp} {a : Addr} {ds : List D} {u : HO} (r : Own K mg F a (.lst ds) u) : ∃ vs, u = .lst vs ∧ Rps K mg F ds vs := by
  cases u <;> first | exact r.elim | skip
  exact ⟨_, rfl, r⟩
theorem pus_app {i : Nat} {apos cpos : Pos} (ho : PE X a (tVar i)) (h : PuE X e g)
    (hb : attributeBase a "append" X.env (eval a X.env) = eval a X.env := by rfl)
    (hfew : ((backTo cpos (starEach [e] X.env)).all (fun x => !x.1) && (backToKw cpos (keywordEach [] X.env)).all (fun x => x.1.isSome)
      && decide (([e] : List Expr).length + ([] : List Keyword).length + (if ([] : List Keyword).isEmpty then 0 else 1) < 30)) = true := by rfl)
    (hline : (apos.endLine == cpos.line) = true := by rfl) (hs : starEach [e] X.env = (false, eval e X.env) :: starEach [] X.env := by rfl) (hplain : (backTo cpos (starEach [] X.env)).any (·.1) = false := by rfl)
    (hsw : swapsWith (.Call (.Attribute a "append" apos) [e] [] cpos) none pos.line X.env = pure false := by rfl) :
    PuS X (.Expr (.Call (.Attribute a "append" apos) [e] [] cpos) pos) (gApp i g) :=
  ps_imp (ps_expr (pe_bm PySem.F.plainAttrs_list PySem.F.slot_list_append PySem.F.type_list_append mt_append ho (pa_cons h pa_nil hs) hb hfew hline hs hplain) hsw) fun E σ H ⟨F0, H0, ρ, F, r, s, e, q⟩ => by
    unfold gApp at e
    split at e
    · rename_i ds hd
      obtain ⟨d, e1, e⟩ := bind_some e
      split at e
      · rename_i hb
        cases e
        obtain ⟨o, eo, l, u, rfl, h0, hF, hH, r⟩ := s.slot hd
        obtain ⟨vs, rfl, r⟩ := own_lst r
        refine ⟨.ref l, eo, .inl ⟨rfl, vs, SqL.of hH⟩, F0, H0, ρ, F, d, s, e1, fun v F' H' le rv => ?_⟩
        refine ⟨l, vs, v, rfl, rfl, le.h _ _ hH, big_lt (by rw [← r.length]; exact hb), q _ F' _ ((s.mono le).write hd eo ?_)⟩
        exact (r.mono le.f).append (.cons rv .nil)
      · cases e
    · cases e
theorem pus_setIx {i : Nat} {spos : Pos} (ho : PE X a (tVar i)) (hi : PuE X b g1) (h : PuE X e g2)
    (ha : ∀ v, assign (.Subscript a b spos) X.env v = (do
      let ov ← holding [v] (eval a X.env)
      let iv ← holding [v, ov] (eval b X.env)
      standAt spos
      holding [v, ov, iv] (setItem ov iv v)
      release [v, ov, iv] []) := by intro _; rfl)
    (hs : swapsWithSole [.Subscript a b spos] e pos.line X.env = pure false := by rfl) (hw : swappedStores [.Subscript a b spos] e X.env = pure none := by rfl)
    (h1 : (assignEach [.Subscript a b spos] X.env).map (·.2) = [assign (.Subscript a b spos) X.env] := by rfl) :
    PuS X (.Assign [.Subscript a b spos] e pos) (gSetIx i g1 g2) := ps_imp (ps_asg h (pg_sub ho hi set_list ha) hs hw h1) fun E σ H ⟨F0, H0, ρ, F, r, s, e, q⟩ => by
  unfold gSetIx at e
  split at e
  · rename_i ds hd
    obtain ⟨d, e1, e⟩ := bind_some e
    obtain ⟨x, e2, e⟩ := bind_some e
    obtain ⟨z, e3, e⟩ := bind_some e
    obtain ⟨k, e4, e⟩ := bind_some e
    cases e
    obtain ⟨o, eo, l, u, rfl, h0, hF, hH, r⟩ := s.slot hd
    obtain ⟨vs, rfl, r⟩ := own_lst r
    refine ⟨F0, H0, ρ, F, d, s, e1, fun v F1 H1 l1 rv => ⟨.ref l, eo, F0, H0, ρ, F1, x, s.mono l1, e2, fun w F2 H2 l2 rw2 => ?_⟩⟩
    have le := l1.trans l2
    cases x <;> first | cases e3 | skip
    cases rw2
    refine ⟨l, vs, _, k, rfl, rfl, le.h _ _ hH, by rw [← r.length]; exact e4, q _ F2 _ ((s.mono le).write hd eo ?_)⟩
    exact Rps.set (rv.mono l2.f) k (r.mono le.f)
  · cases e
end

/-! ### what is walked -/
/-- a later state -/
structure Lx (F F2 H2 : Hp) : Prop where
  f : Ex F F2
  s : Ex F2 H2
/-- the walk J gives the items ds at any later state -/
def Walks (K : PySem.W.Frag) (mg : Str → Option Value) (F : Hp) (J : It) (ds : List D) : Prop := ∀ (i : Nat) (F2 H2 : Hp), Lx F F2 H2 →
  (∀ d, ds[i]? = some d → J.go i H2 ∧ ∀ x H3, J.yld i H2 x H3 → ∃ F3, Le F2 H2 F3 H3 ∧ Rp K mg F3 d x) ∧ (ds.length ≤ i → J.stop i H2)
def tPI (K : PySem.W.Frag) (mg : Str → Option Value) (g : Rho → Option (List D)) : TI := fun σ H R => ∃ F0 H0 ρ F ds, SR K mg F0 H0 ρ σ F H ∧ g ρ = some ds ∧
  ∀ J F' H', Le F H F' H' → Walks K mg F' J ds → R J H'
abbrev PuI (X : Cx) (tg iter : Expr) (g : Rho → Option (List D)) : Prop := PI X tg iter (tPI X.K X.mg g)
theorem pi_imp {X : Cx} {tg e : Expr} {t t' : TI} (h : PI X tg e t) (w : ∀ σ H Q, t' σ H Q → t σ H Q) : PI X tg e t' := ⟨fun pins s σ H Q I q => h.run pins s σ H Q I (w σ H Q q)⟩
theorem pi_or {X : Cx} {tg e : Expr} {t t' : TI} (h : PI X tg e t) (h' : PI X tg e t') : PI X tg e (fun σ H R => t σ H R ∨ t' σ H R) := ⟨fun pins s σ H Q I q => by
  rcases q with q | q
  · exact h.run pins s σ H Q I q
  · exact h'.run pins s σ H Q I q⟩
section
variable {X : Cx} {tg e : Expr} {p pos : Pos} {g : Rho → Option D}
def gSeqOf (g : Rho → Option D) : Rho → Option (List D) := fun ρ => (g ρ).bind items
theorem walks_list {K : PySem.W.Frag} {mg : Str → Option Value} {F : Hp} {a : Addr} {xs : List V} {ds : List D} (hl : F a = some (.lst xs) ∨ SqL K F a xs) (r : Rps K mg F ds xs) : Walks K mg F (Itl K a) ds := fun i F2 H2 l => by
  have hF : SqL K F a xs := by
    rcases hl with h | h
    · exact SqL.of h
    · exact h
  have hq : SqL K H2 a xs := Evl.ex_l (l.f.trans l.s) hF
  refine ⟨fun d hd => ?_, fun hi => ⟨xs, hq, by rw [← r.length]; exact hi⟩⟩
  obtain ⟨v, hv, rv⟩ := r.get hd
  refine ⟨⟨xs, v, hq, hv⟩, fun x H3 ⟨e, y⟩ => ?_⟩
  subst e
  have e2 := y xs hq
  rw [hv] at e2
  cases e2
  exact ⟨F2, Le.refl l.s, rv.mono l.f⟩
theorem walks_tup {K : PySem.W.Frag} {mg : Str → Option Value} {F : Hp} {a : Addr} {xs : List V} {ds : List D} (hF : SqT K F a xs) (r : Rps K mg F ds xs) : Walks K mg F (Itt K a) ds := fun i F2 H2 l => by
  have hq : SqT K H2 a xs := Evl.ex_t (l.f.trans l.s) hF
  refine ⟨fun d hd => ?_, fun hi => ⟨xs, hq, by rw [← r.length]; exact hi⟩⟩
  obtain ⟨v, hv, rv⟩ := r.get hd
  refine ⟨⟨xs, v, hq, hv⟩, fun x H3 ⟨e, y⟩ => ?_⟩
  subst e
  have e2 := y xs hq
  rw [hv] at e2
  cases e2
  exact ⟨F2, Le.refl l.s, rv.mono l.f⟩
theorem pui_seq (h : PuE X e g) : PuI X tg e (gSeqOf g) := pi_imp (pi_or (pi_list h) (pi_tup h)) fun σ H R ⟨F0, H0, ρ, F, ds, s, e, q⟩ => by
  obtain ⟨d, e1, e⟩ := bind_some e
  cases d <;> first | cases e | skip
  · refine .inr ⟨F0, H0, ρ, F, _, s, e1, fun v F' H' l r => ?_⟩
    cases r with
    | tup h r => exact ⟨_, rfl, ⟨_, Evl.ex_t l.s h⟩, q _ F' H' l (walks_tup h r)⟩
  · refine .inl ⟨F0, H0, ρ, F, _, s, e1, fun v F' H' l r => ?_⟩
    cases r with
    | lst h r => exact ⟨_, rfl, ⟨_, SqL.of (l.s _ _ h)⟩, q _ F' H' l (walks_list (.inl h) r)⟩
  · refine .inl ⟨F0, H0, ρ, F, _, s, e1, fun v F' H' l r => ?_⟩
    cases r with
    | scr h r => exact ⟨_, rfl, ⟨_, Evl.ex_l l.s h⟩, q _ F' H' l (walks_list (.inr h) r)⟩
def gRange1 (g : Rho → Option D) : Rho → Option (List D) := fun ρ => (g ρ).bind fun d => (asI d).bind fun n => if -1000000 ≤ n ∧ n ≤ 1000000 then some ((List.range n.toNat).map fun k => .int (k : Nat)) else none
theorem walks_range {K : PySem.W.Frag} {mg : Str → Option Value} {F : Hp} {lo : Int} {n : Nat} : Walks K mg F (Itr lo n) ((List.range n).map fun k => .int (lo + (k : Nat))) := fun i F2 H2 l => by
  refine ⟨fun d hd => ?_, fun hi => by rw [List.length_map, List.length_range] at hi; exact hi⟩
  rw [List.getElem?_map] at hd
  have hi : i < n := by
    by_cases h : i < n
    · exact h
    · rw [List.getElem?_eq_none (by rw [List.length_range]; omega)] at hd
      cases hd
  rw [List.getElem?_range hi] at hd
  cases hd
  refine ⟨hi, fun x H3 ⟨e, y⟩ => ?_⟩
  subst e
  subst y
  exact ⟨F2, Le.refl l.s, .int _⟩
theorem pui_range1 (hg : Gl X "range") (hm : X.mg "range" = none) (h : PuE X e g) (hs : starEach [e] X.env = (false, eval e X.env) :: starEach [] X.env := by rfl) : PuI X tg (.Call (.Name "range" p) [e] [] pos) (gRange1 g) :=
  pi_imp (pi_range1 hg hm (pa_cons h pa_nil hs) hs) fun σ H R ⟨F0, H0, ρ, F, ds, s, e, q⟩ => by
    obtain ⟨d, e1, e⟩ := bind_some e
    obtain ⟨n, e2, e⟩ := bind_some e
    split at e
    · rename_i hb
      cases e
      cases d <;> first | cases e2 | skip
      refine ⟨F0, H0, ρ, F, _, s, e1, fun v F' H' l r => ?_⟩
      cases r
      refine ⟨_, rfl, by omega, by omega, q _ F' H' l ?_⟩
      have w := walks_range (K := X.K) (mg := X.mg) (F := F') (lo := 0) (n := n.toNat)
      simpa using w
    · cases e
end
end DL

/-! part DL5 -/
set_option Elab.async false
set_option linter.all false
set_option maxRecDepth 100000
set_option maxHeartbeats 1000000
namespace DL
open PySem PySem.Spec PyProof.Rows L2
open Evl (Ex)

/-! ### enumerate -/
def enumD (i : Nat) : List D → List D
  | [] => []
  | d :: ds => .tup [.int (i : Nat), d] :: enumD (i + 1) ds
theorem enumD_get : ∀ (ds : List D) (n i : Nat), (enumD n ds)[i]? = (ds[i]?).map fun d => .tup [.int ((n + i : Nat) : Int), d]
  | [], n, i => by simp [enumD]
  | d :: ds, n, 0 => by simp [enumD]
  | d :: ds, n, i + 1 => by
    show (enumD (n + 1) ds)[i]? = (ds[i]?).map _
    rw [enumD_get ds (n + 1) i, show n + 1 + i = n + (i + 1) by omega]
theorem enumD_len : ∀ (ds : List D) (n : Nat), (enumD n ds).length = ds.length
  | [], n => rfl
  | d :: ds, n => by rw [enumD, List.length_cons, List.length_cons, enumD_len ds]
def gEnum (g : Rho → Option D) : Rho → Option (List D) := fun ρ => (g ρ).bind fun d => (items d).bind fun ds => some (enumD 0 ds)
section
variable {X : Cx} {e : Expr} {p pos tpos : Pos} {g : Rho → Option D} {elts : List Expr} {kk : Nat}
theorem pair_of {K : PySem.W.Frag} {mg : Str → Option Value} {F H : Hp} (s : Ex F H) {T : Addr} (hT : H T = none) {a b : V} {d e : D} (ra : Rp K mg F d a) (rb : Rp K mg F e b) : ∃ F3, Le F H F3 (upd H T (.tup [a, b])) ∧ Rp K mg F3 (.tup [d, e]) (.ref T) :=
  ⟨_, Le.new s hT, .tup (SqT.of upd_same) (.cons (ra.mono (Le.new s hT).f) (.cons (rb.mono (Le.new s hT).f) .nil))⟩
theorem walks_enumL {K : PySem.W.Frag} {mg : Str → Option Value} {F : Hp} {a : Addr} {xs : List V} {ds : List D} (hF : SqL K F a xs) (r : Rps K mg F ds xs) : Walks K mg F (Ite K a) (enumD 0 ds) := fun i F2 H2 l => by
  have hq : SqL K H2 a xs := Evl.ex_l (l.f.trans l.s) hF
  refine ⟨fun d hd => ?_, fun hi => ⟨xs, hq, by rw [← r.length]; rw [enumD_len] at hi; exact hi⟩⟩
  rw [enumD_get, Nat.zero_add] at hd
  cases hd' : ds[i]? with
  | none => rw [hd'] at hd; cases hd
  | some d' =>
    rw [hd'] at hd
    cases hd
    obtain ⟨v, hv, rv⟩ := r.get hd'
    refine ⟨⟨xs, v, hq, hv⟩, fun x H3 ⟨T, y, ex, hT, eH, hy⟩ => ?_⟩
    subst ex
    subst eH
    have e2 := hy xs hq
    rw [hv] at e2
    cases e2
    exact pair_of l.s hT (.int _) (rv.mono l.f)
theorem walks_enumT {K : PySem.W.Frag} {mg : Str → Option Value} {F : Hp} {a : Addr} {xs : List V} {ds : List D} (hF : SqT K F a xs) (r : Rps K mg F ds xs) : Walks K mg F (IteT K a) (enumD 0 ds) := fun i F2 H2 l => by
  have hq : SqT K H2 a xs := Evl.ex_t (l.f.trans l.s) hF
  refine ⟨fun d hd => ?_, fun hi => ⟨xs, hq, by rw [← r.length]; rw [enumD_len] at hi; exact hi⟩⟩
  rw [enumD_get, Nat.zero_add] at hd
  cases hd' : ds[i]? with
  | none => rw [hd'] at hd; cases hd
  | some d' =>
    rw [hd'] at hd
    cases hd
    obtain ⟨v, hv, rv⟩ := r.get hd'
    refine ⟨⟨xs, v, hq, hv⟩, fun x H3 ⟨T, y, ex, hT, eH, hy⟩ => ?_⟩
    subst ex
    subst eH
    have e2 := hy xs hq
    rw [hv] at e2
    cases e2
    exact pair_of l.s hT (.int _) (rv.mono l.f)
theorem pui_enum (hg : Gl X "enumerate") (hm : X.mg "enumerate" = none) (h : PuE X e g) (hs : starEach [e] X.env = (false, eval e X.env) :: starEach [] X.env := by rfl) :
    PuI X (.Tuple elts kk tpos) (.Call (.Name "enumerate" p) [e] [] pos) (gEnum g) := pi_imp (pi_enumT hg hm (pa_cons h pa_nil hs) hs) fun σ H R ⟨F0, H0, ρ, F, ds, s, e, q⟩ => by
  obtain ⟨d, e1, e⟩ := bind_some e
  obtain ⟨xs, e2, e⟩ := bind_some e
  cases e
  refine ⟨F0, H0, ρ, F, d, s, e1, fun v F' H' l r => ?_⟩
  cases d <;> first | cases e2 | skip
  · cases r with
    | tup h r => exact ⟨_, _, rfl, .inr ⟨Evl.ex_t l.s h, q _ F' H' l (walks_enumT h r)⟩⟩
  · cases r with
    | lst h r => exact ⟨_, _, rfl, .inl ⟨SqL.of (l.s _ _ h), q _ F' H' l (walks_enumL (SqL.of h) r)⟩⟩
  · cases r with
    | scr h r => exact ⟨_, _, rfl, .inl ⟨Evl.ex_l l.s h, q _ F' H' l (walks_enumL h r)⟩⟩
end

/-! ### targets -/
/-- only the slots of js were stored -/
def Only (js : List Nat) (σ σ' : L2.St) : Prop := σ'.length = σ.length ∧ ∀ j, j ∉ js → σ'[j]? = σ[j]?
theorem Only.refl (js : List Nat) (σ : L2.St) : Only js σ σ := ⟨rfl, fun _ _ => rfl⟩
theorem Only.trans {is js : List Nat} {σ σ1 σ2 : L2.St} (a : Only is σ σ1) (b : Only js σ1 σ2) : Only (is ++ js) σ σ2 :=
  ⟨b.1.trans a.1, fun j h => by
    rw [List.mem_append, not_or] at h
    exact (b.2 j h.2).trans (a.2 j h.1)⟩
def tPG (K : PySem.W.Frag) (mg : Str → Option Value) (js : List Nat) (g : D → Rho → Option Rho) : TG := fun v σ H Q => ∃ F0 H0 ρ F d ρ', SR K mg F0 H0 ρ σ F H ∧ Rp K mg F d v ∧ g d ρ = some ρ' ∧
  ∀ σ' F' H', SR K mg F0 H0 ρ' σ' F' H' → Le F H F' H' → Only js σ σ' → Q σ' H'
def tPGs (K : PySem.W.Frag) (mg : Str → Option Value) (js : List Nat) (g : List D → Rho → Option Rho) : TGs := fun vs σ H Q => ∃ F0 H0 ρ F ds ρ', SR K mg F0 H0 ρ σ F H ∧ Rps K mg F ds vs ∧ g ds ρ = some ρ' ∧
  ∀ σ' F' H', SR K mg F0 H0 ρ' σ' F' H' → Le F H F' H' → Only js σ σ' → Q σ' H'
abbrev PuG (X : Cx) (tg : Expr) (js : List Nat) (g : D → Rho → Option Rho) : Prop := PG X tg (tPG X.K X.mg js g)
abbrev PuGs (X : Cx) (tgs : List Expr) (js : List Nat) (g : List D → Rho → Option Rho) : Prop := PGs X tgs (tPGs X.K X.mg js g)
theorem pg_imp {X : Cx} {tg : Expr} {t t' : TG} (h : PG X tg t) (w : ∀ v σ H Q, t' v σ H Q → t v σ H Q) : PG X tg t' := ⟨fun pins s σ H v u Q I r q => h.run pins s σ H v u Q I r (w v σ H Q q)⟩
theorem pgs_imp {X : Cx} {tg : List Expr} {t t' : TGs} (h : PGs X tg t) (w : ∀ v σ H Q, t' v σ H Q → t v σ H Q) : PGs X tg t' := ⟨fun pins s σ H v u Q I r q => h.run pins s σ H v u Q I r (w v σ H Q q)⟩
def gtName (i : Nat) : D → Rho → Option Rho := fun d ρ => some (ρ.set i (.sh d))
def gtNil : List D → Rho → Option Rho := fun ds ρ => match ds with
  | [] => some ρ
  | _ => none
def gtCons (t : D → Rho → Option Rho) (u : List D → Rho → Option Rho) : List D → Rho → Option Rho := fun ds ρ => match ds with
  | d :: ds => (t d ρ).bind (u ds)
  | _ => none
def gtTup (u : List D → Rho → Option Rho) : D → Rho → Option Rho := fun d ρ => match d with
  | .tup ds => u ds ρ
  | _ => none
section
variable {X : Cx} {pos : Pos} {e : Expr} {es : List Expr} {t : D → Rho → Option Rho} {u : List D → Rho → Option Rho}
theorem pug_name {i : Nat} {x : Str} (hN : X.N.Nodup) (hi : X.N[i]? = some x) (hx : Loc X.env.scope x) (hf : X.fn x = true ∨ X.env.scope.names.lookup x = some .local := by first | exact .inl rfl | exact .inr rfl | assumption) : PuG X (.Name x pos) [i] (gtName i) :=
  pg_imp (pg_name hN hi hx hf) fun v σ H Q ⟨F0, H0, ρ, F, d, ρ', s, r, e, q⟩ => by
    cases e
    exact q _ F H (s.set r) (Le.refl s.sub) ⟨List.length_set, fun j h => List.getElem?_set_ne (fun z => h (by rw [z]; exact List.mem_singleton.mpr rfl))⟩
theorem pugs_nil : PuGs X [] [] gtNil := pgs_imp pgs_nil fun vs σ H Q ⟨F0, H0, ρ, F, ds, ρ', s, r, e, q⟩ => by
  cases ds with
  | nil =>
    cases e
    cases r
    exact ⟨rfl, q σ F H s (Le.refl s.sub) (Only.refl _ _)⟩
  | cons d ds => cases e
theorem pugs_cons {is js : List Nat} (h1 : PuG X e is t) (h2 : PuGs X es js u) (hs : (assignEach (e :: es) X.env).map (·.2) = assign e X.env :: (assignEach es X.env).map (·.2) := by rfl) : PuGs X (e :: es) (is ++ js) (gtCons t u) :=
  pgs_imp (pgs_cons h1 h2 hs) fun vs σ H Q ⟨F0, H0, ρ, F, ds, ρ', s, r, e, q⟩ => by
    cases ds with
    | nil => cases e
    | cons d ds =>
      obtain ⟨ρ1, e1, e⟩ := bind_some e
      cases r with
      | cons rd rs =>
        exact ⟨_, _, rfl, F0, H0, ρ, F, d, ρ1, s, rd, e1, fun σ' F' H' s' l o => ⟨F0, H0, ρ1, F', ds, ρ', s', rs.mono l.f, e, fun σ2 F2 H2 s2 l2 o2 => q σ2 F2 H2 s2 (l.trans l2) (o.trans o2)⟩⟩
theorem pug_tup {k n : Nat} {js : List Nat} (hc : X.calm = true) (h : PuGs X es js u) (hn : (assignEach es X.env).length = n := by rfl) (hst : (assignEach es X.env).findIdx? (·.1) = none := by rfl) (hu : ∀ ds ρ ρ', u ds ρ = some ρ' → ds.length = n) : PuG X (.Tuple es k pos) js (gtTup u) :=
  pg_imp (pg_tup hc h hn hst) fun v σ H Q ⟨F0, H0, ρ, F, d, ρ', s, r, e, q⟩ => by
    cases d <;> first | cases e | skip
    cases r with
    | tup h r => exact ⟨_, _, rfl, Evl.ex_t s.sub h, by rw [← r.length]; exact hu _ _ _ e, F0, H0, ρ, F, _, ρ', s, r, e, q⟩
theorem gt_len0 : ∀ ds ρ ρ', gtNil ds ρ = some ρ' → ds.length = 0 := fun ds ρ ρ' h => by
  cases ds with
  | nil => rfl
  | cons d ds => cases h
theorem gt_len {n : Nat} (hu : ∀ ds ρ ρ', u ds ρ = some ρ' → ds.length = n) : ∀ ds ρ ρ', gtCons t u ds ρ = some ρ' → ds.length = n + 1 := fun ds ρ ρ' h => by
  cases ds with
  | nil => cases h
  | cons d ds =>
    obtain ⟨ρ1, e1, e⟩ := bind_some h
    rw [List.length_cons, hu _ _ _ e]
def gAsg (g : Rho → Option D) (t : D → Rho → Option Rho) : SG := fun ρ => (g ρ).bind fun d => (t d ρ).bind fun ρ' => some (.nx ρ')
theorem pus_asg {tg : Expr} {js : List Nat} {g : Rho → Option D} (he : PuE X e g) (hg : PuG X tg js t) (hs : swapsWithSole [tg] e pos.line X.env = pure false := by rfl) (hw : swappedStores [tg] e X.env = pure none := by rfl)
    (h1 : (assignEach [tg] X.env).map (·.2) = [assign tg X.env] := by rfl) : PuS X (.Assign [tg] e pos) (gAsg g t) := ps_imp (ps_asg he hg hs hw h1) fun E σ H ⟨F0, H0, ρ, F, r, s, e, q⟩ => by
  obtain ⟨d, e1, e⟩ := bind_some e
  obtain ⟨ρ', e2, e⟩ := bind_some e
  cases e
  exact ⟨F0, H0, ρ, F, d, s, e1, fun v F' H' l rv => ⟨F0, H0, ρ, F', d, ρ', s.mono l, rv, e2, fun σ' F2 H2 s' _ _ => q σ' F2 H2 s'⟩⟩
end

/-! ### for -/
def gLoop (t : D → Rho → Option Rho) (b : SG) : List D → Rho → Option Res
  | [], ρ => some (.nx ρ)
  | d :: ds, ρ => (t d ρ).bind fun ρ1 => (b ρ1).bind fun r => match r with
    | .nx ρ2 => gLoop t b ds ρ2
    | .ct ρ2 => gLoop t b ds ρ2
    | .bk ρ2 => some (.nx ρ2)
    | .rt d => some (.rt d)
def gFor (it : Rho → Option (List D)) (t : D → Rho → Option Rho) (b : SG) : SG := fun ρ => (it ρ).bind fun ds => gLoop t b ds ρ
/-- the frozen part as it stands taken for the frozen part at the entry -/
def join (H F : Hp) : Hp := fun a => (H a).or (F a)
section
variable {K : PySem.W.Frag} {mg : Str → Option Value} {F0 H0 F H F' H' : Hp} {ρ ρ' : Rho} {σ σ' : L2.St}
theorem join_none {a : Addr} (h : join H F a = none) : H a = none ∧ F a = none := by
  unfold join at h
  cases q : H a with
  | none =>
    rw [q] at h
    exact ⟨rfl, h⟩
  | some o =>
    rw [q] at h
    cases h
theorem SR.rebase (s : SR K mg F0 H0 ρ σ F H) : SR K mg F (join H0 F) ρ σ F H where
  le := ⟨Ex.refl F, fun a o h => by
    unfold join at h
    cases q : H0 a with
    | none =>
      rw [q] at h
      exact s.le.s a o h
    | some u =>
      rw [q] at h
      cases h
      exact s.le.h a _ q, s.le.s, fun a o _ h => h⟩
  len := s.len
  at_ := fun i b o e1 e2 => by
    have q := s.at_ i b o e1 e2
    cases b with
    | un => trivial
    | sh d => exact q
    | ow c =>
      obtain ⟨a, u, e, h0, hF, hH, r⟩ := q
      exact ⟨a, u, e, by unfold join; rw [h0, hF]; rfl, hF, hH, r⟩
  ne := s.ne
theorem SR.unbase (s : SR K mg F0 H0 ρ σ F H) (s' : SR K mg F (join H0 F) ρ' σ' F' H') : SR K mg F0 H0 ρ' σ' F' H' where
  le := ⟨s.le.f.trans s'.le.f, fun a o h => s'.le.h a o (by unfold join; rw [h]; rfl), s'.le.s, fun a o h hf => s'.le.n a o (by unfold join; rw [h]; rfl) (s.le.n a o h hf)⟩
  len := s'.len
  at_ := fun i b o e1 e2 => by
    have q := s'.at_ i b o e1 e2
    cases b with
    | un => trivial
    | sh d => exact q
    | ow c =>
      obtain ⟨a, u, e, h0, hF, hH, r⟩ := q
      exact ⟨a, u, e, (join_none h0).1, hF, hH, r⟩
  ne := s'.ne
theorem Le.unbase (s : SR K mg F0 H0 ρ σ F H) (l : Le F (join H0 F) F' H') : Le F0 H0 F' H' :=
  ⟨s.le.f.trans l.f, fun a o h => l.h a o (by unfold join; rw [h]; rfl), l.s, fun a o h hf => l.n a o (by unfold join; rw [h]; rfl) (s.le.n a o h hf)⟩
end
section
variable {X : Cx} {pos : Pos} {iter tg : Expr} {body : List Stmt} {g : Rho → Option (List D)} {t : D → Rho → Option Rho} {b : SG} {js : List Nat}
theorem pus_for (hp : PassesOwn (model X.prog X.w) X.A X.env X.xe) (hc : X.calm = true) (hi : PuI X tg iter g) (hg : PuG X tg js t) (hb : PuSs X body b)
    (hs : ∀ x, foldedSetIterable iter X.env x = pure x := by intro _; rfl) : PuS X (.For tg iter body [] pos) (gFor g t b) := ps_imp (ps_for hp hc hi hg hb hs) fun E σ H ⟨F0, H0, ρ, F, r, s, e, q⟩ => by
  obtain ⟨ds, e1, e⟩ := bind_some e
  refine ⟨F0, H0, ρ, F, ds, s, e1, fun J F1 H1 l1 w => ?_⟩
  have s1 := s.mono l1
  refine ⟨fun i m σ H => ∃ ρ F2, SR X.K X.mg F1 (join H0 F1) ρ σ F2 H ∧ i ≤ ds.length ∧ m = ds.length - i ∧ gLoop t b (ds.drop i) ρ = some r, ⟨ds.length, ρ, F1, s1.rebase, Nat.zero_le _, rfl, e⟩, ?_⟩
  rintro i m σ H ⟨ρ, F2, s2, hi, rfl, e⟩
  have wi := w i F2 H ⟨s2.le.f, s2.le.s⟩
  by_cases hlt : i < ds.length
  · have hd : ds[i]? = some ds[i] := List.getElem?_eq_getElem hlt
    obtain ⟨go, yl⟩ := wi.1 _ hd
    rw [List.drop_eq_getElem_cons hlt] at e
    obtain ⟨ρ1, e2, e⟩ := bind_some e
    obtain ⟨r1, e3, e⟩ := bind_some e
    refine .inr ⟨go, fun σ' H' => ∃ ρ F2, SR X.K X.mg F1 (join H0 F1) ρ σ' F2 H' ∧ gLoop t b (ds.drop (i + 1)) ρ = some r, fun σ' H' ⟨ρ', F', s', e'⟩ => ⟨ds.length - (i + 1), by omega, ρ', F', s', hlt, rfl, e'⟩, fun x H3 y => ?_⟩
    obtain ⟨F3, l3, rx⟩ := yl x H3 y
    refine ⟨F1, join H0 F1, ρ, F3, ds[i], ρ1, s2.mono l3, rx, e2, fun σ4 F4 H4 s4 l4 _ => ?_⟩
    refine ⟨F1, join H0 F1, ρ1, F4, r1, s4, e3, ?_⟩
    cases r1 with
    | nx ρ2 => exact fun σ5 F5 H5 s5 => ⟨ρ2, F5, s5, e⟩
    | ct ρ2 => exact fun σ5 F5 H5 s5 => ⟨ρ2, F5, s5, e⟩
    | bk ρ2 =>
      cases e
      exact fun σ5 F5 H5 s5 => q σ5 F5 H5 (s1.unbase s5)
    | rt d =>
      cases e
      exact fun v F5 H5 l5 r5 => q v F5 H5 (l5.unbase s1) r5
  · refine .inl ⟨wi.2 (by omega), ?_⟩
    rw [List.drop_of_length_le (by omega)] at e
    cases e
    exact q σ F2 H (s1.unbase s2)
end

/-! ### while -/
def gWl (c : Rho → Option Bool) (b : SG) : Nat → Rho → Option Res
  | 0, _ => none
  | n + 1, ρ => (c ρ).bind fun x => if x = true then (b ρ).bind fun r => match r with
      | .nx ρ2 => gWl c b n ρ2
      | .ct ρ2 => gWl c b n ρ2
      | .bk ρ2 => some (.nx ρ2)
      | .rt d => some (.rt d)
    else some (.nx ρ)
def gWhile (n : Nat) (c : Rho → Option Bool) (b : SG) : SG := fun ρ => gWl c b n ρ
section
variable {X : Cx} {pos : Pos} {c : Expr} {body : List Stmt} {k : Rho → Option Bool} {b : SG}
theorem pus_while (n : Nat) (hp : PassesOwn (model X.prog X.w) X.A X.env X.xe) (hc : PuT X c k) (hb : PuSs X body b) : PuS X (.While c body [] pos) (gWhile n k b) := ps_imp (ps_while hp hc hb) fun E σ H ⟨F0, H0, ρ, F, r, s, e, q⟩ => by
  refine ⟨fun m σ H => ∃ ρ F, SR X.K X.mg F0 H0 ρ σ F H ∧ gWl k b m ρ = some r, ⟨n, ρ, F, s, e⟩, ?_⟩
  rintro m σ H ⟨ρ, F, s, e⟩
  cases m with
  | zero => cases e
  | succ m =>
    obtain ⟨x, e1, e⟩ := bind_some e
    refine ⟨F0, H0, ρ, F, x, s, e1, fun F1 H1 l => ?_⟩
    cases x with
    | false =>
      cases e
      rw [if_neg Bool.false_ne_true]
      exact q σ F1 H1 (s.mono l)
    | true =>
      rw [if_pos rfl] at e ⊢
      obtain ⟨r1, e2, e⟩ := bind_some e
      refine ⟨fun σ' H' => ∃ ρ F, SR X.K X.mg F0 H0 ρ σ' F H' ∧ gWl k b m ρ = some r, fun σ' H' w => ⟨m, Nat.lt_succ_self m, w⟩, F0, H0, ρ, F1, r1, s.mono l, e2, ?_⟩
      cases r1 with
      | nx ρ2 => exact fun σ5 F5 H5 s5 => ⟨ρ2, F5, s5, e⟩
      | ct ρ2 => exact fun σ5 F5 H5 s5 => ⟨ρ2, F5, s5, e⟩
      | bk ρ2 =>
        cases e
        exact q
      | rt d =>
        cases e
        exact q
end
end DL

/-! part DL6 -/
set_option Elab.async false
set_option linter.all false
set_option maxRecDepth 100000
set_option maxHeartbeats 1000000
namespace DL
open PySem PySem.Spec PyProof.Rows L2
open Evl (Ex)

/-! ### comprehensions -/
def wipeR (ρ : Rho) : List Nat → Rho
  | [] => ρ
  | v :: vs => (wipeR ρ vs).set v .un
section
variable {K : PySem.W.Frag} {mg : Str → Option Value} {F0 H0 F H : Hp} {ρ : Rho} {σ σ' : L2.St}
theorem SR.unset (s : SR K mg F0 H0 ρ σ F H) (i : Nat) : SR K mg F0 H0 (ρ.set i .un) (σ.set i none) F H where
  le := s.le
  len := by rw [List.length_set, List.length_set, s.len]
  at_ := fun j b o e1 e2 => by
    by_cases h : i = j
    · subst h
      by_cases hi : i < ρ.length
      · rw [List.getElem?_set_self hi] at e1
        cases e1
        trivial
      · rw [List.getElem?_eq_none (by rw [List.length_set]; omega)] at e1
        cases e1
    · rw [List.getElem?_set_ne h] at e1 e2
      exact s.at_ j b o e1 e2
  ne := fun j k a ds es e1 e2 e3 e4 => by
    have hj : i ≠ j := fun h => by
      subst h
      by_cases hi : i < ρ.length
      · rw [List.getElem?_set_self hi] at e1
        cases e1
      · rw [List.getElem?_eq_none (by rw [List.length_set]; omega)] at e1
        cases e1
    have hk : i ≠ k := fun h => by
      subst h
      by_cases hi : i < ρ.length
      · rw [List.getElem?_set_self hi] at e2
        cases e2
      · rw [List.getElem?_eq_none (by rw [List.length_set]; omega)] at e2
        cases e2
    rw [List.getElem?_set_ne hj] at e1 e3
    rw [List.getElem?_set_ne hk] at e2 e4
    exact s.ne j k a ds es e1 e2 e3 e4
theorem SR.wipe (s : SR K mg F0 H0 ρ σ F H) : ∀ vs : List Nat, SR K mg F0 H0 (wipeR ρ vs) (L2.wipe σ vs) F H
  | [] => s
  | v :: vs => (SR.wipe s vs).unset v
theorem wipe_get (σ : L2.St) : ∀ (vs : List Nat) (j : Nat), (L2.wipe σ vs)[j]? = if j ∈ vs ∧ j < σ.length then some none else σ[j]?
  | [], j => by
    show σ[j]? = _
    rw [if_neg (by simp)]
  | v :: vs, j => by
    show ((L2.wipe σ vs).set v none)[j]? = _
    by_cases h : v = j
    · subst h
      by_cases hl : v < σ.length
      · rw [List.getElem?_set_self (by rw [wipe_length]; exact hl), if_pos ⟨List.mem_cons_self, hl⟩]
      · rw [List.getElem?_eq_none (by rw [List.length_set, wipe_length]; omega), if_neg (fun z => hl z.2), List.getElem?_eq_none (by omega)]
    · rw [List.getElem?_set_ne h, wipe_get σ vs j]
      by_cases hj : j ∈ vs ∧ j < σ.length
      · rw [if_pos hj, if_pos ⟨List.mem_cons_of_mem _ hj.1, hj.2⟩]
      · rw [if_neg hj, if_neg fun z => hj ⟨by
          rcases List.mem_cons.mp z.1 with y | y
          · exact absurd y.symm h
          · exact y, z.2⟩]
theorem wipe_only {js vs : List Nat} (o : Only js (L2.wipe σ vs) σ') (hs : ∀ j ∈ js, j ∈ vs) : L2.wipe σ' vs = L2.wipe σ vs := by
  have hl : σ'.length = σ.length := o.1.trans (wipe_length σ vs)
  refine List.ext_getElem? fun j => ?_
  rw [wipe_get, wipe_get, hl]
  by_cases h : j ∈ vs ∧ j < σ.length
  · rw [if_pos h, if_pos h]
  · rw [if_neg h, if_neg h]
    by_cases hv : j ∈ vs
    · have hj : ¬ j < σ.length := fun z => h ⟨hv, z⟩
      rw [List.getElem?_eq_none (by omega), List.getElem?_eq_none (by omega)]
    · rw [o.2 j fun z => hv (hs j z), wipe_get, if_neg h]
end
def gCompL (t : D → Rho → Option Rho) (k : Rho → Option Bool) (g : Rho → Option D) (ρ : Rho) : List D → Option (List D)
  | [] => some []
  | d :: ds => (t d ρ).bind fun ρ1 => (k ρ1).bind fun x => if x = true then (g ρ1).bind fun y => (gCompL t k g ρ ds).bind fun ys => some (y :: ys) else gCompL t k g ρ ds
def gComp (it : Rho → Option (List D)) (t : D → Rho → Option Rho) (k : Rho → Option Bool) (g : Rho → Option D) (vs : List Nat) : Rho → Option (List D) := fun ρ =>
  (it ρ).bind fun ds => if ds.length ≤ big then gCompL t k g (wipeR ρ vs) ds else none
/-- the heap without one object -/
def cut (H : Hp) (p : Addr) : Hp := fun a => if a = p then none else H a
theorem cut_upd {H : Hp} {p : Addr} {o : HO} : cut (upd H p o) p = cut H p := by
  funext a
  unfold cut upd
  by_cases h : a = p
  · rw [if_pos h, if_pos h]
  · rw [if_neg h, if_neg h, if_neg h]
theorem upd_cut {H : Hp} {p : Addr} {o : HO} (h : H p = some o) : upd (cut H p) p o = H := by
  funext a
  unfold cut upd
  by_cases e : a = p
  · rw [if_pos e, e, h]
  · show (if a = p then some o else if a = p then none else H a) = H a
    rw [if_neg e, if_neg e]
theorem cut_none {H : Hp} {p : Addr} : cut H p p = none := by
  unfold cut
  rw [if_pos rfl]
theorem cut_of_none {H : Hp} {p : Addr} (h : H p = none) : cut H p = H := by
  funext a
  unfold cut
  by_cases e : a = p
  · rw [if_pos e, e, h]
  · rw [if_neg e]
theorem cut_ex {H : Hp} {p : Addr} : Ex (cut H p) H := fun a o h => by
  unfold cut at h
  by_cases e : a = p
  · rw [if_pos e] at h
    cases h
  · rw [if_neg e] at h
    exact h
theorem cut_some {H : Hp} {p a : Addr} {o : HO} (h : cut H p a = some o) : a ≠ p ∧ H a = some o := by
  unfold cut at h
  by_cases e : a = p
  · rw [if_pos e] at h
    cases h
  · rw [if_neg e] at h
    exact ⟨e, h⟩
theorem cut_ne {H : Hp} {p a : Addr} (h : a ≠ p) : cut H p a = H a := by
  unfold cut
  rw [if_neg h]
theorem Le.uncut {F H : Hp} {p : Addr} (s : Ex F (cut H p)) (hF : F p = none) : Le F (cut H p) F H := ⟨Ex.refl F, cut_ex, s.trans cut_ex, fun _ _ _ h => h⟩
theorem Le.cut {F H F' H' : Hp} {p : Addr} {o : HO} (l : Le F H F' H') (hp : H p = some o) (hF : F p = none) : Le F (cut H p) F' (cut H' p) where
  f := l.f
  h := fun a u h => by
    obtain ⟨ne, h⟩ := cut_some h
    rw [cut_ne ne]
    exact l.h a u h
  s := fun a u h => by
    have ne : a ≠ p := fun e => by
      rw [e, l.n p o hp hF] at h
      cases h
    rw [cut_ne ne]
    exact l.s a u h
  n := fun a u h hf => l.n a u (cut_some h).2 hf
abbrev PuTs (X : Cx) (ifs : List Expr) (g : Rho → Option Bool) : Prop := PTs X ifs (tPT X.K X.mg g)
def gYes : Rho → Option Bool := fun _ => some true
theorem puts_nil {X : Cx} : PuTs X [] gYes := ⟨fun pins s σ H Q I ⟨F0, H0, ρ, F, b, sr, e, q⟩ => by
  cases e
  exact pts_nil.run pins s σ H Q I (q F H (Le.refl sr.sub))⟩
theorem puts_one {X : Cx} {c : Expr} {k : Rho → Option Bool} (h : PuT X c k) : PuTs X [c] k := pts_one h
section
variable {K : PySem.W.Frag} {mg : Str → Option Value} {js vs : List Nat} {it : Rho → Option (List D)} {t : D → Rho → Option Rho} {k : Rho → Option Bool} {g : Rho → Option D}
theorem lc_of (hs : ∀ j ∈ js, j ∈ vs) {σ : L2.St} {H : Hp} {Q : VK} (h : tPL K mg (gComp it t k g vs) σ H Q) : tLc (tPI K mg it) (tPG K mg js t) (tPT K mg k) (tP K mg g) vs σ H Q := by
  obtain ⟨F0, H0, ρ, F, out, s, e, q⟩ := h
  obtain ⟨ds, e1, e⟩ := bind_some e
  split at e
  · rename_i hb
    refine ⟨F0, H0, ρ, F, ds, s, e1, fun J F1 H1 l1 w p hp => ?_⟩
    have hp0 : cut H1 p = H1 := cut_of_none hp
    have hF1 : F1 p = none := free_of l1.s hp
    refine ⟨fun i m H2 => ∃ F2 acc done rest, Le F1 H1 F2 (cut H2 p) ∧ F2 p = none ∧ H2 p = some (.lst acc) ∧ Rps K mg F2 done acc ∧ done.length ≤ i ∧ i ≤ ds.length ∧ m = ds.length - i ∧ gCompL t k g (wipeR ρ vs) (ds.drop i) = some rest ∧ out = done ++ rest,
      ⟨ds.length, F1, [], [], out, ?_, hF1, upd_same, .nil, Nat.le_refl _, Nat.zero_le _, rfl, e, rfl⟩, ?_⟩
    · rw [cut_upd, hp0]
      exact Le.refl l1.s
    · rintro i m H2 ⟨F2, acc, done, rest, l2, hF2, hH2, rd, hdl, hi, rfl, e, eo⟩
      have lu : Le F2 (cut H2 p) F2 H2 := Le.uncut l2.s hF2
      have wi := w i F2 H2 ⟨l2.f, lu.s⟩
      by_cases hlt : i < ds.length
      · have hd : ds[i]? = some ds[i] := List.getElem?_eq_getElem hlt
        obtain ⟨go, yl⟩ := wi.1 _ hd
        rw [List.drop_eq_getElem_cons hlt] at e
        obtain ⟨ρ1, e2, e⟩ := bind_some e
        obtain ⟨b, e3, e⟩ := bind_some e
        refine .inr ⟨go, fun H' => ∃ F2 acc done rest, Le F1 H1 F2 (cut H' p) ∧ F2 p = none ∧ H' p = some (.lst acc) ∧ Rps K mg F2 done acc ∧ done.length ≤ i + 1 ∧ gCompL t k g (wipeR ρ vs) (ds.drop (i + 1)) = some rest ∧ out = done ++ rest,
          fun H' ⟨F', acc', done', rest', z1, z2, z3, z4, z5, z6, z7⟩ => ⟨ds.length - (i + 1), by omega, F', acc', done', rest', z1, z2, z3, z4, z5, hlt, rfl, z6, z7⟩, fun x H3 y => ?_⟩
        obtain ⟨F3, l3, rx⟩ := yl x H3 y
        have s2 : SR K mg F0 H0 ρ σ F2 H2 := ((s.mono l1).mono l2).mono lu
        have s3 : SR K mg F0 H0 (wipeR ρ vs) (L2.wipe σ vs) F3 H3 := (s2.mono l3).wipe vs
        refine ⟨F0, H0, _, F3, ds[i], ρ1, s3, rx, e2, fun σ4 F4 H4 s4 l4 o4 => ⟨wipe_only o4 hs, F0, H0, ρ1, F4, b, s4, e3, fun F5 H5 l5 => ?_⟩⟩
        have l25 := (l3.trans l4).trans l5
        cases b with
        | false =>
          rw [if_neg Bool.false_ne_true] at e
          show if false = true then _ else _
          rw [if_neg Bool.false_ne_true]
          exact ⟨F5, acc, done, rest, l2.trans (l25.cut hH2 hF2), l25.n p _ hH2 hF2, l25.h p _ hH2, rd.mono l25.f, by omega, e, eo⟩
        | true =>
          rw [if_pos rfl] at e
          show if true = true then _ else _
          rw [if_pos rfl]
          obtain ⟨y, e4, e⟩ := bind_some e
          obtain ⟨ys, e5, e⟩ := bind_some e
          cases e
          refine ⟨F0, H0, ρ1, F5, y, s4.mono l5, e4, fun v F6 H6 l6 rv => ?_⟩
          have l26 := l25.trans l6
          refine ⟨acc, l26.h p _ hH2, big_lt (by rw [← rd.length]; omega), F6, acc ++ [v], done ++ [y], ys, ?_, l26.n p _ hH2 hF2, upd_same, (rd.mono l26.f).append (.cons rv .nil), by rw [List.length_append, List.length_singleton]; omega, e5, by rw [eo, List.append_assoc]; rfl⟩
          rw [cut_upd]
          exact l2.trans (l26.cut hH2 hF2)
      · refine .inl ⟨wi.2 (by omega), ?_⟩
        rw [List.drop_of_length_le (by omega)] at e
        cases e
        rw [List.append_nil] at eo
        subst eo
        have z := q p acc F2 (cut H2 p) (l1.trans l2) cut_none rd
        rw [upd_cut hH2] at z
        exact z
  · cases e
end
section
variable {X : Cx} {elt tg iter : Expr} {ifs : List Expr} {scope : Scope} {own : List (Str × Nat)} {js : List Nat} {pos spos py : Pos} {it : Rho → Option (List D)} {t : D → Rho → Option Rho} {k : Rho → Option Bool} {g : Rho → Option D}
theorem pul_lc (hc : X.calm = true) (hN : X.N.Nodup) (hi : PuI X tg iter it) (ok : BlkOk X.N X.env.scope scope own) (hj : ∀ j ∈ js, j ∈ own.map (·.2))
    (hg : ∀ (s : Shared) (H : Hp) (C : Addr) (cl : List (Str × Addr)) (fp : List Addr), PuG (X.blk s H scope (compEnvC scope cl C X.env) fp) tg js t) (ht : ∀ (s : Shared) (H : Hp) (C : Addr) (cl : List (Str × Addr)) (fp : List Addr), PuTs (X.blk s H scope (compEnvC scope cl C X.env) fp) ifs k)
    (he : ∀ (s : Shared) (H : Hp) (C : Addr) (cl : List (Str × Addr)) (fp : List Addr), PuE (X.blk s H scope (compEnvC scope cl C X.env) fp) elt g) (hs : ∀ x, foldedSetIterable iter X.env x = pure x := by intro _; rfl) :
    PuL X (.ListComp elt [⟨tg, iter, ifs, 0⟩] scope pos) (gComp it t k g (own.map (·.2))) := pe_imp (pe_lc hc hN hi ok hg ht he hs) fun σ H Q h => lc_of hj h
theorem lcs_of {vs : List Nat} (hj : ∀ j ∈ js, j ∈ vs) {i : Nat} {E : Ends} {σ : L2.St} {H : Hp} (h : tPS X.K X.mg (gSetOw i (gComp it t k g vs)) E σ H) : tAsg (tLc (tPI X.K X.mg it) (tPG X.K X.mg js t) (tPT X.K X.mg k) (tP X.K X.mg g) vs) (gName i) E σ H := by
  obtain ⟨F0, H0, ρ, F, r, s, e, q⟩ := h
  obtain ⟨d, e1, e⟩ := bind_some e
  cases e
  exact lc_of hj ⟨F0, H0, ρ, F, d, s, e1, fun p vs F' H' l hp r => q _ F' _ ((s.mono l).setOw (c := .lst d) hp r)⟩
theorem pus_setLc {i : Nat} {y : Str} (hc : X.calm = true) (hN : X.N.Nodup) (hy : X.N[i]? = some y) (hyl : X.env.scope.names.lookup y = some .local)
    (hsw : swapsWith (.ListComp elt [⟨tg, iter, ifs, 0⟩] scope pos) (some (.Name y py)) spos.line X.env = pure true) (hi : PuI X tg iter it) (ok : BlkOk X.N X.env.scope scope own) (hj : ∀ j ∈ js, j ∈ own.map (·.2))
    (hg : ∀ (s : Shared) (H : Hp) (C : Addr) (cl : List (Str × Addr)) (fp : List Addr), PuG (X.blk s H scope (compEnvC scope cl C X.env) fp) tg js t) (ht : ∀ (s : Shared) (H : Hp) (C : Addr) (cl : List (Str × Addr)) (fp : List Addr), PuTs (X.blk s H scope (compEnvC scope cl C X.env) fp) ifs k)
    (he : ∀ (s : Shared) (H : Hp) (C : Addr) (cl : List (Str × Addr)) (fp : List Addr), PuE (X.blk s H scope (compEnvC scope cl C X.env) fp) elt g) (hs : ∀ x, foldedSetIterable iter X.env x = pure x := by intro _; rfl) :
    PuS X (.Assign [.Name y py] (.ListComp elt [⟨tg, iter, ifs, 0⟩] scope pos) spos) (gSetOw i (gComp it t k g (own.map (·.2)))) := ps_imp (ps_setLc hc hN hy hyl hsw hi ok hg ht he hs) fun E σ H h => lcs_of hj h
end

/-! ### defs -/
def spP (K : PySem.W.Frag) (mg : Str → Option Value) (n : Nat) (g : List D → Option D) : Sp := fun vs H Q _ => ∃ F ds d, vs.length = n ∧ Ex F H ∧ Rps K mg F ds vs ∧ g ds = some d ∧
  ∀ v F' H', Le F H F' H' → Rp K mg F' d v → Q v H'
def gDef (n N : Nat) (b : SG) : List D → Option D := fun ds => if ds.length = n then (b (ds.map B.sh ++ List.replicate (N - n) .un)).bind fun r => match r with
  | .rt d => some d
  | .nx _ => some .non
  | _ => none else none
section
variable {P : Program} {w : World} {K : PySem.W.Frag} {mg : Str → Option Value} {base : Heap}
theorem sr_start {F H : Hp} {ds : List D} {vs : List V} {N : List Str} (s : Ex F H) (r : Rps K mg F ds vs) : SR K mg F H (ds.map B.sh ++ List.replicate (N.length - ds.length) .un) (L2.start N vs) F H where
  le := Le.refl s
  len := by
    unfold L2.start
    rw [List.length_append, List.length_append, List.length_map, List.length_map, List.length_replicate, List.length_replicate, r.length]
  at_ := fun i b o e1 e2 => by
    unfold L2.start at e2
    by_cases hi : i < ds.length
    · have hv : i < vs.length := by rw [← r.length]; exact hi
      rw [List.getElem?_append_left (by rw [List.length_map]; exact hi), List.getElem?_map, List.getElem?_eq_getElem hi] at e1
      rw [List.getElem?_append_left (by rw [List.length_map]; exact hv), List.getElem?_map, List.getElem?_eq_getElem hv] at e2
      cases e1
      cases e2
      obtain ⟨v, hv2, rv⟩ := r.get (List.getElem?_eq_getElem hi)
      rw [List.getElem?_eq_getElem hv] at hv2
      cases hv2
      exact ⟨_, rfl, rv⟩
    · rw [List.getElem?_append_right (by rw [List.length_map]; omega)] at e1
      have := (List.mem_replicate.mp (List.mem_of_getElem? e1)).2
      subst this
      trivial
  ne := fun i j a c1 c2 e1 _ _ _ => by
    by_cases hi : i < ds.length
    · rw [List.getElem?_append_left (by rw [List.length_map]; exact hi), List.getElem?_map, List.getElem?_eq_getElem hi] at e1
      cases e1
    · rw [List.getElem?_append_right (by rw [List.length_map]; omega)] at e1
      cases (List.mem_replicate.mp (List.mem_of_getElem? e1)).2
theorem ok_def {x qual : Str} {st : Stmt} {f : Addr} {fd : FuncData} {N ps : List Str} {k : Nat} {b : SG} (F : Fun K x qual st f fd) (S : FnScope N ps (defScope st))
    (hbody : ∀ (cdv : Value) (A : Around) (outer : List Env) (s : Shared) (H : Hp) (E : XK), Room k (A.deeper (envOfC qual (defScope st) s.heap.objs.size f cdv)) →
      PuSs (cxOf CX0 P w K mg base N qual (defScope st) f cdv A outer s H E).nox (defBody st) b) : FnOk P w K mg base CX0 (k + 1) f fd ps (spP K mg ps.length (gDef ps.length N.length b)) := by
  refine F.ok S (fun vs H Q E h => ?_) (fun cdv A outer s H vs Q E hr h => ⟨_, hbody cdv A outer s H E hr, ?_⟩)
  · obtain ⟨_, _, _, h, _⟩ := h
    exact h
  · obtain ⟨F', ds, d, hl, sub, r, e, q⟩ := h
    unfold gDef at e
    split at e
    · rename_i hn
      obtain ⟨res, e1, e⟩ := bind_some e
      have hds : ds.length = vs.length := r.length
      refine ⟨F', H, _, F', res, sr_start sub r, by rw [hn]; exact e1, ?_⟩
      cases res with
      | rt d' =>
        cases e
        exact fun v F2 H2 l rv => q v F2 H2 l rv
      | nx ρ =>
        cases e
        exact fun σ F2 H2 s2 => q _ F2 H2 s2.le .non
      | bk ρ => cases e
      | ct ρ => cases e
    · cases e
end
def gCall (f : List D → Option D) (gs : Rho → Option (List D)) : Rho → Option D := fun ρ => (gs ρ).bind f
section
variable {X : Cx} {k n : Nat} {f : Addr} {fd : FuncData} {ps : List Str} {x : Str} {p pos : Pos} {e : Expr} {es : List Expr} {gs : Rho → Option (List D)} {gf : List D → Option D}
theorem gDef_len {n N : Nat} {b : SG} {ds : List D} {d : D} (h : gDef n N b ds = some d) : ds.length = n := by
  unfold gDef at h
  split at h
  · assumption
  · cases h
theorem pu_call (F : FnOk X.prog X.w X.K X.mg X.base CX0 k f fd ps (spP X.K X.mg n gf)) (hr : Room k X.A) (hg : Gl X x) (hm : X.mg x = some (.ref f)) (hk : PySem.W.keepIn X.K (.ref f) = true) (hb : Binds X.K fd ps [])
    (hn : ∀ ds d, gf ds = some d → ds.length = n) (ha : PuA X (e :: es) gs) (hdb : (x == ("__debug__" : Str)) = false := by decide) (he : starEach (e :: es) X.env = (false, eval e X.env) :: starEach es X.env := by rfl) (hpl : (backTo pos (starEach es X.env)).any (·.1) = false := by rfl) :
    PuE X (.Call (.Name x p) (e :: es) [] pos) (gCall gf gs) := pe_imp (pe_call F hr hg hm hk hb .nil pass0 ha hdb he hpl) fun σ H Q ⟨F0, H0, ρ, F, d, s, e, q⟩ => by
  obtain ⟨ds, e1, e⟩ := bind_some e
  refine ⟨F0, H0, ρ, F, ds, s, e1, fun vs F' H' l r => ⟨F', ds, d, ?_, l.s, ?_, e, fun v F2 H2 l2 rv => q v F2 H2 (l.trans l2) rv⟩⟩
  · rw [List.append_nil, ← r.length]
    exact hn _ _ e
  · rw [List.append_nil]
    exact r
end
end DL

/-! part DL7 -/
set_option Elab.async false
set_option linter.all false
set_option maxRecDepth 100000
set_option maxHeartbeats 1000000
namespace DL
open PySem PySem.Spec PyProof.Rows L2
open Evl (Ex)

/-! ### builtins -/
section
variable {X : Cx} {e a b : Expr} {es : List Expr} {p p1 p2 pos : Pos} {g g1 g2 : Rho → Option D} {gs : Rho → Option (List D)}
/-- a call of a builtin, its arguments handed out -/
def RelC (K : PySem.W.Frag) (mg : Str → Option Value) (r : List V → Hp → VK → Prop) (f : List D → Option D) : Prop :=
  ∀ (xs : List V) (ds : List D) (z : D) (F H : Hp) (Q : VK), Ex F H → Rps K mg F ds xs → f ds = some z → (∀ v F' H', Le F H F' H' → Rp K mg F' z v → Q v H') → r xs H Q
theorem tCB_of {r : List V → Hp → VK → Prop} {f : List D → Option D} (hr : RelC X.K X.mg r f) {σ : L2.St} {H : Hp} {Q : VK} (h : tP X.K X.mg (gCall f gs) σ H Q) : tCB r (tPA X.K X.mg gs) σ H Q := by
  obtain ⟨F0, H0, ρ, F, z, s, e, q⟩ := h
  obtain ⟨ds, e1, e⟩ := bind_some e
  exact ⟨F0, H0, ρ, F, ds, s, e1, fun vs F' H' l rv => hr vs ds z F' H' Q l.s rv e fun v F2 H2 l2 r2 => q v F2 H2 (l.trans l2) r2⟩
theorem pu_callB {x : Str} {id : String} {r : List V → Hp → VK → Prop} {f : List D → Option D} (hc : CallR X (.builtin id) r) (hr : RelC X.K X.mg r f) (hg : Gl X x) (hm : X.mg x = none) (hv : bootBuiltins x = some (.builtin id)) (ha : PuA X (e :: es) gs)
    (hn : x ≠ "__name__" := by decide) (hdb : (x == ("__debug__" : Str)) = false := by decide) (he : starEach (e :: es) X.env = (false, eval e X.env) :: starEach es X.env := by rfl) (hpl : (backTo pos (starEach es X.env)).any (·.1) = false := by rfl) :
    PuE X (.Call (.Name x p) (e :: es) [] pos) (gCall f gs) := pe_imp (pe_callB hc hg hm hv ha hn hdb he hpl) fun _ _ _ h => tCB_of hr h
theorem pu_callTy {x : Str} {T : String} {r : List V → Hp → VK → Prop} {f : List D → Option D} (hc : CallR X (.type T) r) (hr : RelC X.K X.mg r f) (hg : Gl X x) (hm : X.mg x = none) (hv : bootBuiltins x = some (.type T)) (ha : PuA X (e :: es) gs)
    (hn : x ≠ "__name__" := by decide) (hdb : (x == ("__debug__" : Str)) = false := by decide) (he : starEach (e :: es) X.env = (false, eval e X.env) :: starEach es X.env := by rfl) (hpl : (backTo pos (starEach es X.env)).any (·.1) = false := by rfl) :
    PuE X (.Call (.Name x p) (e :: es) [] pos) (gCall f gs) := pe_imp (pe_callTy hc hg hm hv ha hn hdb he hpl) fun _ _ _ h => tCB_of hr h
end
def fInt : List D → Option D
  | [.int i] => some (.int i)
  | [.bl b] => some (.int (if b then 1 else 0))
  | _ => none
def fAbs : List D → Option D
  | [.int i] => some (.int (if i < 0 then -i else i))
  | _ => none
def fMax2 : List D → Option D
  | [.int i, .int j] => some (.int (if j > i then j else i))
  | _ => none
def fMin2 : List D → Option D
  | [.int i, .int j] => some (.int (if j < i then j else i))
  | _ => none
def bools : List D → Option (List Bool)
  | [] => some []
  | .bl b :: ds => (bools ds).bind fun bs => some (b :: bs)
  | _ => none
theorem bools_eq : ∀ {ds : List D} {bs : List Bool}, bools ds = some bs → ds = bs.map D.bl
  | [], _, h => by cases h; rfl
  | .bl b :: ds, _, h => by
    obtain ⟨bs', e1, h⟩ := bind_some h
    cases h
    rw [bools_eq e1]
    rfl
  | .non :: _, _, h => by cases h
  | .int _ :: _, _, h => by cases h
  | .str _ :: _, _, h => by cases h
  | .ty _ :: _, _, h => by cases h
  | .tup _ :: _, _, h => by cases h
  | .lst _ :: _, _, h => by cases h
  | .scr _ :: _, _, h => by cases h
  | .ins _ _ :: _, _, h => by cases h
def fAll : List D → Option D
  | [.lst ds] => (bools ds).bind fun bs => some (.bl (bs.all id))
  | _ => none
def fAny : List D → Option D
  | [.lst ds] => (bools ds).bind fun bs => some (.bl (bs.any id))
  | _ => none
section
variable {K : PySem.W.Frag} {mg : Str → Option Value}
theorem relc_int : RelC K mg (fun xs H Q => (∃ i, xs = [.int i] ∧ Q (.int i) H) ∨ ∃ k, xs = [.bl k] ∧ Q (.int (if k then 1 else 0)) H) fInt := by
  intro xs ds z F H Q s r e q
  match ds, r, e with
  | [.int i], .cons (.int _) .nil, e =>
    cases e
    exact .inl ⟨i, rfl, q _ F H (Le.refl s) (.int i)⟩
  | [.bl b], .cons (.bl _) .nil, e =>
    cases e
    exact .inr ⟨b, rfl, q _ F H (Le.refl s) (.int _)⟩
theorem relc_abs : RelC K mg (fun xs H Q => ∃ i, xs = [.int i] ∧ Q (.int (if i < 0 then -i else i)) H) fAbs := by
  intro xs ds z F H Q s r e q
  match ds, r, e with
  | [.int i], .cons (.int _) .nil, e =>
    cases e
    exact ⟨i, rfl, q _ F H (Le.refl s) (.int _)⟩
theorem relc_max2 : RelC K mg (fun xs H Q => ∃ i j, xs = [.int i, .int j] ∧ Q (.int (if j > i then j else i)) H) fMax2 := by
  intro xs ds z F H Q s r e q
  match ds, r, e with
  | [.int i, .int j], .cons (.int _) (.cons (.int _) .nil), e =>
    cases e
    exact ⟨i, j, rfl, q _ F H (Le.refl s) (.int _)⟩
theorem relc_min2 : RelC K mg (fun xs H Q => ∃ i j, xs = [.int i, .int j] ∧ Q (.int (if j < i then j else i)) H) fMin2 := by
  intro xs ds z F H Q s r e q
  match ds, r, e with
  | [.int i, .int j], .cons (.int _) (.cons (.int _) .nil), e =>
    cases e
    exact ⟨i, j, rfl, q _ F H (Le.refl s) (.int _)⟩
theorem relc_all : RelC K mg (rAll K) fAll := by
  intro xs ds z F H Q s r e q
  match ds, r, e with
  | [.lst ds], .cons (.lst h r) .nil, e =>
    obtain ⟨bs, e1, e⟩ := bind_some e
    cases e
    have e2 := bools_eq e1
    subst e2
    have e3 := r.bools
    subst e3
    exact ⟨_, bs, rfl, SqL.of (s _ _ h), q _ F H (Le.refl s) (.bl _)⟩
theorem relc_any : RelC K mg (rAny K) fAny := by
  intro xs ds z F H Q s r e q
  match ds, r, e with
  | [.lst ds], .cons (.lst h r) .nil, e =>
    obtain ⟨bs, e1, e⟩ := bind_some e
    cases e
    have e2 := bools_eq e1
    subst e2
    have e3 := r.bools
    subst e3
    exact ⟨_, bs, rfl, SqL.of (s _ _ h), q _ F H (Le.refl s) (.bl _)⟩
end
/-! isinstance, of flat things and of lists and tuples -/
def tyD : D → Option String
  | .non => some "NoneType"
  | .bl _ => some "bool"
  | .int _ => some "int"
  | .str _ => some "str"
  | .tup _ => some "tuple"
  | .lst _ => some "list"
  | _ => none
def fIsi : List D → Option D
  | [x, .ty n] => (tyD x).bind fun t => (kitB t n).bind fun b => some (.bl b)
  | _ => none
section
variable {K : PySem.W.Frag} {mg : Str → Option Value}
theorem tyx_of {F H : Hp} {d : D} {v : V} {t : String} (s : Ex F H) (r : Rp K mg F d v) (h : tyD d = some t) : TyX K H v (.type t) := by
  cases d <;> first | cases h | skip
  all_goals cases r
  · exact .base .non
  · exact .base (.bl _)
  · exact .base (.int _)
  · exact .base (.str _)
  · rename_i h r
    rcases Evl.ex_t s h with (h | ⟨o, h⟩) | ⟨o, its, n, hk, hc, _⟩
    · exact .base (.tup h)
    · exact .fTuple h
    · exact .kTuple hk hc
  · rename_i h r
    exact .base (.lst (s _ _ h))
theorem relc_isi : RelC K mg (rIsi K) fIsi := by
  intro xs ds z F H Q s r e q
  match ds, r, e with
  | [x, .ty n], .cons rx (.cons (.ty _) .nil), e =>
    obtain ⟨t, e1, e⟩ := bind_some e
    obtain ⟨b, e2, e⟩ := bind_some e
    cases e
    exact ⟨_, _, .type t, .type n, b, rfl, .ty n, tyx_of s rx e1, kit_ty e2, q _ F H (Le.refl s) (.bl b)⟩
end

/-! ### own classes -/
def gFld (n f : Str) (g : Rho → Option D) : Rho → Option D := fun ρ => (g ρ).bind fun d => match d with
  | .ins m fs => if m = n then fs.lookup f else none
  | _ => none
/-- the class's name stands for a class whose instances have the field -/
structure FldOk (K : PySem.W.Frag) (mg : Str → Option Value) (n f : Str) : Prop where
  cl : ∀ C, mg n = some (.ref C) → Cls K C
  no : ∀ C, mg n = some (.ref C) → NoAttr K C f
section
variable {X : Cx} {e a b : Expr} {es : List Expr} {p p1 p2 pos pos' : Pos} {g g1 g2 : Rho → Option D} {gs : Rho → Option (List D)}
theorem pu_fld {n f : Str} (c : FldOk X.K X.mg n f) (h : PuE X e g) (hb : attributeBase e f X.env (eval e X.env) = eval e X.env := by rfl) : PuE X (.Attribute e f pos) (gFld n f g) := pe_imp (pe_fld h hb) fun σ H Q ⟨F0, H0, ρ, F, z, s, e, q⟩ => by
  obtain ⟨d, e1, e⟩ := bind_some e
  cases d <;> first | cases e | skip
  rename_i m fs
  have ee : (if m = n then fs.lookup f else none) = some z := e
  split at ee
  · rename_i hm
    subst hm
    refine ⟨F0, H0, ρ, F, _, s, e1, fun v F' H' l r => ?_⟩
    cases r with
    | ins hC ha rf =>
      obtain ⟨v, ev, rv⟩ := rf.lookup ee
      exact ⟨_, _, _, _, v, rfl, l.s _ _ ha, c.cl _ hC, c.no _ hC, ev, q v F' H' l rv⟩
  · cases ee
/-! a field of one's own new instance is stored -/
def putD (f : Str) (d : D) : List (Str × D) → List (Str × D)
  | [] => [(f, d)]
  | (g, x) :: r => if g = f then (g, d) :: r else (g, x) :: putD f d r
theorem rfs_put {K : PySem.W.Frag} {mg : Str → Option Value} {F : Hp} {f : Str} {d : D} {v : V} (r : Rp K mg F d v) : ∀ {gs : List (Str × D)} {fs : List (Str × V)}, Rfs K mg F gs fs → Rfs K mg F (putD f d gs) (putF f v fs)
  | _, _, .nil => .cons r .nil
  | _, _, .cons (f := g) h q => by
    unfold putD putF
    by_cases e : g = f
    · rw [if_pos e, if_pos e]
      exact .cons r q
    · rw [if_neg e, if_neg e]
      exact .cons h (rfs_put r q)
theorem Rfs.length {K : PySem.W.Frag} {mg : Str → Option Value} {F : Hp} : ∀ {gs : List (Str × D)} {fs : List (Str × V)}, Rfs K mg F gs fs → gs.length = fs.length
  | _, _, .nil => rfl
  | _, _, .cons _ r => by rw [List.length_cons, List.length_cons, r.length]
def gSetFld (n f : Str) (i : Nat) (g : Rho → Option D) : SG := fun ρ => match ρ[i]? with
  | some (.ow (.ins x m fs)) => if m = n ∧ fs.length < 900 then (g ρ).bind fun d => some (.nx (ρ.set i (.ow (.ins x m (putD f d fs))))) else none
  | _ => none
theorem own_ins {K : PySem.W.Frag} {mg : Str → Option Value} {F : Hp} {a x : Addr} {n : Str} {gs : List (Str × D)} {u : HO} (r : Own K mg F a (.ins x n gs) u) : a = x ∧ ∃ C dx ws, u = .ins C dx ws ∧ mg n = some (.ref C) ∧ Rfs K mg F gs ws := by
  cases u <;> first | exact r.elim | skip
  exact ⟨r.1, _, _, _, rfl, r.2.1, r.2.2⟩
theorem pus_setFld {n f : Str} {i : Nat} (c : FldOk X.K X.mg n f) (ho : PE X a (tVar i)) (h : PuE X e g) (hs : swapsWith e (some (.Attribute a f pos')) pos.line X.env = pure false := by rfl) : PuS X (.Assign [.Attribute a f pos'] e pos) (gSetFld n f i g) :=
  ps_imp (ps_fld ho h hs) fun E σ H ⟨F0, H0, ρ, F, r, s, e, q⟩ => by
    unfold gSetFld at e
    split at e
    · rename_i x' m fs hd
      split at e
      · rename_i hb
        obtain ⟨d, e1, e⟩ := bind_some e
        cases e
        obtain ⟨hm, hb⟩ := hb
        subst hm
        obtain ⟨o, eo, x, u, rfl, h0, hF, hH, r⟩ := s.slot hd
        obtain ⟨ex, C, dx, ws, rfl, hC, r⟩ := own_ins r
        refine ⟨F0, H0, ρ, F, d, s, e1, fun v F' H' l rv => ⟨.ref x, eo, x, C, dx, ws, rfl, l.h _ _ hH, c.cl _ hC, c.no _ hC, by rw [← r.length]; omega, q _ F' _ ((s.mono l).write hd eo ?_)⟩⟩
        exact ⟨ex, hC, rfs_put rv (r.mono l.f)⟩
      · cases e
    · cases e
end
/-- what __init__ promises: the new instance's fields -/
def spI (K : PySem.W.Frag) (mg : Str → Option Value) (n : Nat) (name : Str) (g : Addr → List D → Option (List (Str × D))) : Sp := fun vs H Q _ => ∃ C x dx H0 F ds fs as, mg name = some (.ref C) ∧ vs = .ref x :: as ∧ as.length = n ∧ H = upd (upd H0 dx (.own x)) x (.ins C dx []) ∧
  H0 x = none ∧ H0 dx = none ∧ dx ≠ x ∧ Ex F H0 ∧ Rps K mg F ds as ∧ g x ds = some fs ∧ ∀ F' H', Le F H0 F' H' → Rp K mg F' (.ins name fs) (.ref x) → Q .non H'
def gInit (name : Str) (n N : Nat) (b : SG) (x : Addr) : List D → Option (List (Str × D)) := fun ds => if ds.length = n then (b (.ow (.ins x name []) :: (ds.map B.sh ++ List.replicate (N - (n + 1)) .un))).bind fun r => match r with
  | .nx ρ => match (List.head? (α := B) ρ) with
    | some (.ow (.ins y m fs)) => if m = name ∧ y = x then some fs else none
    | _ => none
  | _ => none else none
theorem gInit_len {name : Str} {n N : Nat} {b : SG} {x : Addr} {ds : List D} {d : List (Str × D)} (h : gInit name n N b x ds = some d) : ds.length = n := by
  unfold gInit at h
  split at h
  · assumption
  · cases h
open Classical in
/-- the same at every address -/
noncomputable def gUni {α : Type} (g : Addr → List D → Option α) : List D → Option α := fun ds => if h : ∃ fs, ∀ x, g x ds = some fs then some h.choose else none
theorem gUni_at {α : Type} {g : Addr → List D → Option α} {ds : List D} {fs : α} (h : gUni g ds = some fs) (x : Addr) : g x ds = some fs := by
  unfold gUni at h
  split at h
  · rename_i hx
    cases h
    exact hx.choose_spec x
  · cases h
theorem gUni_of {α : Type} {g : Addr → List D → Option α} {ds : List D} {fs : α} (h : ∀ x, g x ds = some fs) : gUni g ds = some fs := by
  have hx : ∃ fs, ∀ x, g x ds = some fs := ⟨fs, h⟩
  unfold gUni
  rw [dif_pos hx]
  exact (hx.choose_spec 0).symm.trans (h 0)
section
variable {P : Program} {w : World} {K : PySem.W.Frag} {mg : Str → Option Value} {base : Heap}
theorem init_run {n : Nat} {name : Str} {N : List Str} {b : SG} {vs : List V} {H : Hp} {Q : VK} {E : XK} (h : spI K mg n name (gInit name n N.length b) vs H Q E) :
    tPS K mg b { nx := fun _ H' => Q .non H', rt := Q } (L2.start N vs) H := by
  obtain ⟨C, x, dx, H0, F, ds, fs, as, hC, rfl, hl, rfl, hx, hdx, hne, sub, r, e, q⟩ := h
  unfold gInit at e
  split at e
  · rename_i hn
    obtain ⟨res, e1, e⟩ := bind_some e
    have exH : Ex H0 (upd (upd H0 dx (.own x)) x (.ins C dx [])) := fun a o ha => by
      rw [upd_ne (ne_of_none ha hx), upd_ne (ne_of_none ha hdx)]
      exact ha
    have sr := sr_start (N := N) (K := K) (mg := mg) (ds := D.non :: ds) (vs := V.non :: as) sub (.cons .non r)
    have sr2 := sr.mono (⟨Ex.refl F, exH, sub.trans exH, fun _ _ _ h => h⟩ : Le F H0 F (upd (upd H0 dx (.own x)) x (.ins C dx [])))
    have hlen : (D.non :: ds).length = n + 1 := by rw [List.length_cons, hn]
    rw [hlen] at sr2
    have hnow : ∀ (i : Nat) (c : Cn), (B.sh D.non :: (ds.map B.sh ++ List.replicate (N.length - (n + 1)) .un))[i]? ≠ some (.ow c) := fun i c z => by
      have hm := List.mem_of_getElem? z
      simp at hm
    have hst : L2.start N (V.ref x :: as) = (L2.start N (V.non :: as)).set 0 (some (.ref x)) := by
      unfold L2.start
      rfl
    have srF : SR K mg F H0 (.ow (.ins x name []) :: (ds.map B.sh ++ List.replicate (N.length - (n + 1)) .un)) (L2.start N (V.ref x :: as)) F (upd (upd H0 dx (.own x)) x (.ins C dx [])) := by
      rw [hst]
      refine ⟨sr2.le, by rw [List.length_set, ← sr2.len]; rfl, fun i u o e1 e2 => ?_, fun i j a c1 c2 e1 e2 _ _ => ?_⟩
      · cases i with
        | zero =>
          rw [List.getElem?_cons_zero] at e1
          cases e1
          have h0 : 0 < (L2.start N (V.non :: as)).length := by unfold L2.start; simp
          rw [List.getElem?_set_self h0] at e2
          cases e2
          exact ⟨x, _, rfl, hx, free_of sub hx, upd_same, rfl, hC, .nil⟩
        | succ i =>
          rw [List.getElem?_set_ne (by omega)] at e2
          exact sr2.at_ (i + 1) u o e1 e2
      · cases i with
        | zero =>
          cases j with
          | zero => rfl
          | succ j => exact absurd e2 (hnow (j + 1) c2)
        | succ i => exact absurd e1 (hnow (i + 1) c1)
    refine ⟨F, H0, _, F, res, srF, e1, ?_⟩
    cases res with
    | rt d' => cases e
    | bk ρ => cases e
    | ct ρ => cases e
    | nx ρ =>
      have e3 : (match (List.head? (α := B) ρ) with
        | some (.ow (.ins y m fs)) => if m = name ∧ y = x then some fs else none
        | _ => none) = some fs := e
      intro σ F2 H2 s2
      split at e3
      · rename_i y m fs' h0
        split at e3
        · rename_i hm
          obtain ⟨hm, hy⟩ := hm
          subst hm
          subst hy
          cases e3
          have h0' : ρ[0]? = some (.ow (.ins y m fs)) := by rw [← List.head?_eq_getElem?]; exact h0
          obtain ⟨o, eo, a, u, ea, hh, hF, hH, ro⟩ := s2.slot h0'
          have hax : a = y := by
            cases u <;> first | exact ro.elim | skip
            exact ro.1
          subst hax
          have exF : Ex F2 (upd F2 a u) := Ex.new hF
          refine q (upd F2 a u) H2 ⟨s2.le.f.trans exF, s2.le.h, fun b o hb => ?_, fun b o hb hf => ?_⟩ ((ro.mono exF).rp upd_same)
          · by_cases hba : b = a
            · subst hba
              rw [upd_same] at hb
              cases hb
              exact hH
            · rw [upd_ne hba] at hb
              exact s2.le.s b o hb
          · rw [upd_ne (ne_of_none hb hx)]
            exact s2.le.n b o hb hf
        · cases e3
      · cases e3
  · cases e
theorem spI_len {n : Nat} {name : Str} {g : Addr → List D → Option (List (Str × D))} {vs : List V} {H : Hp} {Q : VK} {E : XK} (h : spI K mg n name g vs H Q E) : vs.length = n + 1 := by
  obtain ⟨C, x, dx, H0, F, ds, fs, as, hC, rfl, hl, _⟩ := h
  rw [List.length_cons, hl]
end
/-- C(..) -/
def gMake (name : Str) (gi : List D → Option (List (Str × D))) (gs : Rho → Option (List D)) : Rho → Option D := fun ρ => (gs ρ).bind fun ds => (gi ds).bind fun fs => some (.ins name fs)
section
variable {X : Cx} {k n : Nat} {C f : Addr} {fd : FuncData} {ps : List Str} {x : Str} {p pos : Pos} {e : Expr} {es : List Expr} {gs : Rho → Option (List D)} {gi : Addr → List D → Option (List (Str × D))}
theorem pu_make (M : Mk X.K C f) (F : FnOk X.prog X.w X.K X.mg X.base CX0 k f fd ps (spI X.K X.mg n x gi)) (hr : Room (k + 1) X.A) (hg : Gl X x) (hm : X.mg x = some (.ref C)) (hb : Binds X.K fd ps [])
    (hn : ∀ y ds d, gi y ds = some d → ds.length = n) (ha : PuA X (e :: es) gs) (hdb : (x == ("__debug__" : Str)) = false := by decide) (he : starEach (e :: es) X.env = (false, eval e X.env) :: starEach es X.env := by rfl) (hpl : (backTo pos (starEach es X.env)).any (·.1) = false := by rfl) :
    PuE X (.Call (.Name x p) (e :: es) [] pos) (gMake x (gUni gi) gs) := pe_imp (pe_make M F hr hg hm hb .nil pass0 ha hdb he hpl) fun σ H Q ⟨F0, H0, ρ, F, d, s, e, q⟩ => by
  obtain ⟨ds, e1, e⟩ := bind_some e
  obtain ⟨fs, e2, e⟩ := bind_some e
  cases e
  refine ⟨F0, H0, ρ, F, ds, s, e1, fun vs F1 H1 l r y dy hy hdy hne => ⟨C, y, dy, H1, F1, ds, fs, vs ++ [], hm, rfl, ?_, rfl, hy, hdy, hne, l.s, ?_, gUni_at e2 y, fun F2 H2 l2 rv => ⟨rfl, q _ F2 H2 (l.trans l2) rv⟩⟩⟩
  · rw [List.append_nil, ← r.length]
    exact hn 0 _ _ (gUni_at e2 0)
  · rw [List.append_nil]
    exact r
/-! len of an instance with an own __len__ -/
theorem ins_at {pins : List (Addr × Obj)} {σ : L2.St} {H : Hp} {s : Shared} {a dx : Addr} {fs : List (Str × V)} (I : Inv X pins σ H s) (e : H a = some (.ins C dx fs)) : ∃ od, PySem.W.InstAt s.heap a (PySem.W.instObj C dx) C (some od) := by
  obtain ⟨mA, O, r, _⟩ := ins_get I.hok e
  obtain ⟨od, ho, hl⟩ := lookIn_ns O.ns
  exact ⟨od, O.obj, rfl, rfl, ho⟩
theorem fnR_of {sp : Sp} (F : FnOk X.prog X.w X.K X.mg X.base CX0 k f fd ps sp) (hb : Binds X.K fd ps []) : FnR X.prog X.w X.K X.mg X.base CX0 k f sp := (F.raw hb .nil).imp fun vs H Q E h => by
  rw [List.append_nil]
  exact h
end
end DL

/-! part DL8 -/
set_option Elab.async false
set_option linter.all false
set_option maxRecDepth 100000
set_option maxHeartbeats 1000000
namespace DL
open PySem PySem.Spec PyProof.Rows L2
open Evl (Ex)

/-! ### each operation once, whatever the data -/
def dAdd : D → D → Option D
  | .int i, .int j => some (.int (i + j))
  | .lst a, .lst b => if a.length + b.length ≤ big then some (.lst (a ++ b)) else none
  | .tup a, .tup b => if a.length + b.length ≤ big then some (.tup (a ++ b)) else none
  | _, _ => none
def dSub : D → D → Option D := oI0 fun i j => .int (i - j)
def dMul : D → D → Option D
  | .int i, .int j => if CMul i j then some (.int (i * j)) else none
  | .lst a, .int k => if -1000000 ≤ k ∧ k ≤ 1000000 ∧ a.length * k.toNat ≤ big then some (.lst (List.replicate k.toNat a).flatten) else none
  | _, _ => none
def dFdiv : D → D → Option D := oI CDiv fun i j => .int (i / j)
def dMod : D → D → Option D := oI (fun _ j => 0 < j) fun i j => .int (i % j)
def dPow : D → D → Option D := oI CPow fun i j => .int (i ^ j.toNat)
def dBand : D → D → Option D := oI0 fun i j => .int (Builtin.bitAnd i j)
def dLt : D → D → Option D := oI0 fun i j => .bl (decide (i < j))
def dLe : D → D → Option D := oI0 fun i j => .bl (decide (i ≤ j))
def dGt : D → D → Option D := oI0 fun i j => .bl (decide (j < i))
def dGe : D → D → Option D := oI0 fun i j => .bl (decide (j ≤ i))
def oInD (neg : Bool) : D → D → Option D := fun x y => (pyd x).bind fun d => (items y).bind fun ys => (pyds ys).bind fun ds =>
  if SeqAt.shaped d = true ∧ SeqAt.shaped (.list ds) = true then some (.bl (if neg then !(ds.any fun z => PyData.eqv z d) else ds.any fun z => PyData.eqv z d)) else none
def dIn (neg : Bool) : D → D → Option D := fun x y => (oIn neg x y).or (oInD neg x y)
def rAdd (K : PySem.W.Frag) : R2 := fun x y H Q => rI0 (fun i j => .int (i + j)) x y H Q ∨ rCat x y H Q ∨ rCatA K x y H Q
def rMul : R2 := fun x y H Q => rI CMul (fun i j => .int (i * j)) x y H Q ∨ rRep x y H Q
section
variable {K : PySem.W.Frag} {mg : Str → Option Value}
theorem rel_add : RelOp K mg (rAdd K) dAdd := by
  intro x y d e z F H Q s hx hy hz q
  cases d <;> cases e <;> first | cases hz | skip
  · exact .inl (rel_I0 (f := fun i j => .int (i + j)) (fun i j F => .int (i + j)) x y _ _ _ F H Q s hx hy rfl q)
  · exact .inr (.inr (rel_catT x y _ _ z F H Q s hx hy hz q))
  · exact .inr (.inl (rel_catL x y _ _ z F H Q s hx hy hz q))
theorem rel_sub : RelOp K mg (rI0 fun i j => .int (i - j)) dSub := rel_I0 fun i j F => .int _
theorem rel_mul : RelOp K mg rMul dMul := by
  intro x y d e z F H Q s hx hy hz q
  cases d <;> cases e <;> first | cases hz | skip
  · exact .inl (rel_I (f := fun i j => .int (i * j)) (fun i j F => .int (i * j)) x y _ _ _ F H Q s hx hy hz q)
  · exact .inr (rel_repL x y _ _ z F H Q s hx hy hz q)
theorem rel_fdiv : RelOp K mg (rI CDiv fun i j => .int (i / j)) dFdiv := rel_I fun i j F => .int _
theorem rel_mod : RelOp K mg (rI (fun _ j => 0 < j) fun i j => .int (i % j)) dMod := rel_I fun i j F => .int _
theorem rel_pow : RelOp K mg (rI CPow fun i j => .int (i ^ j.toNat)) dPow := rel_I fun i j F => .int _
theorem rel_band : RelOp K mg (rI0 fun i j => .int (Builtin.bitAnd i j)) dBand := rel_I0 fun i j F => .int _
theorem rel_lt : RelOp K mg (rI0 fun i j => .bl (decide (i < j))) dLt := rel_I0 fun i j F => .bl _
theorem rel_le : RelOp K mg (rI0 fun i j => .bl (decide (i ≤ j))) dLe := rel_I0 fun i j F => .bl _
theorem rel_gt : RelOp K mg (rI0 fun i j => .bl (decide (j < i))) dGt := rel_I0 fun i j F => .bl _
theorem rel_ge : RelOp K mg (rI0 fun i j => .bl (decide (j ≤ i))) dGe := rel_I0 fun i j F => .bl _
/-- deep in, of lists and tuples -/
def rInDT (K : PySem.W.Frag) (neg : Bool) : R2 := fun x y H Q => ∃ d ds, Dp K H x d ∧ (Dp K H y (.list ds) ∨ Dp K H y (.tuple ds)) ∧ SeqAt.shaped d = true ∧ SeqAt.shaped (.list ds) = true ∧
  Q (.bl (if neg then !(ds.any fun z => PyData.eqv z d) else ds.any fun z => PyData.eqv z d)) H
theorem rel_inD {neg : Bool} : RelOp K mg (rInDT K neg) (oInD neg) := by
  intro x y d e z F H Q s hx hy hz q
  obtain ⟨a, e1, hz⟩ := bind_some hz
  obtain ⟨ys, e2, hz⟩ := bind_some hz
  obtain ⟨ds, e3, hz⟩ := bind_some hz
  split at hz
  · rename_i hc
    cases hz
    refine ⟨a, ds, dp_of s _ _ _ hx e1, ?_, hc.1, hc.2, q _ F H (Le.refl s) (.bl _)⟩
    cases e <;> first | cases e2 | skip
    · exact .inr (dp_of s _ _ _ hy (by unfold pyd; rw [e3]; rfl))
    · exact .inl (dp_of s _ _ _ hy (by unfold pyd; rw [e3]; rfl))
    · exact .inl (dp_of s _ _ _ hy (by unfold pyd; rw [e3]; rfl))
  · cases hz
def rInA (K : PySem.W.Frag) (neg : Bool) : R2 := fun x y H Q => rIn K neg x y H Q ∨ rInDT K neg x y H Q
theorem rel_inA {neg : Bool} : RelOp K mg (rInA K neg) (dIn neg) := RelOp.or rel_in rel_inD
end
section
variable {X : Cx} {k : Nat}
theorem hu64 (hr : Room k X.A) : X.A.units + 64 < cLine := hr.units
theorem hu65 (hr : Room k X.A) : X.A.units + 65 < cLine := by
  have := hr.un
  omega
theorem opAdd : OpR X (binaryOp .Add) (rAdd X.K) := OpR.or op_add (OpR.or op_cat op_catA)
theorem opMul : OpR X (binaryOp .Mult) rMul := OpR.or op_mul op_rep
theorem op_inDT (hu : X.A.units + 65 < cLine) : OpR X (compareOp .In) (rInDT X.K false) := by
  intro pins s σ H x y v u Q I rx ry h
  obtain ⟨d, ds, hd, he, sd, se, q⟩ := h
  obtain ⟨as, r1⟩ := Dp.reads I d x v hd rx
  rcases he with he | he
  · obtain ⟨bs, r2⟩ := Dp.reads I (.list ds) y u he ry
    exact SeqAt.in_list_reads r2 r1 (SeqAt.canLay_of_shaped se) (SeqAt.canLay_of_shaped sd) (room_in_shaped sd hu) ⟨.bl _, H, I, rfl, q⟩
  · obtain ⟨bs, r2⟩ := Dp.reads I (.tuple ds) y u he ry
    exact SeqAt.in_tuple_reads r2 r1 (SeqAt.canLay_of_shaped se) (SeqAt.canLay_of_shaped sd) (room_in_shaped sd hu) ⟨.bl _, H, I, rfl, q⟩
theorem op_notInDT (hu : X.A.units + 65 < cLine) : OpR X (compareOp .NotIn) (rInDT X.K true) := by
  intro pins s σ H x y v u Q I rx ry h
  obtain ⟨d, ds, hd, he, sd, se, q⟩ := h
  obtain ⟨as, r1⟩ := Dp.reads I d x v hd rx
  rcases he with he | he
  · obtain ⟨bs, r2⟩ := Dp.reads I (.list ds) y u he ry
    exact SeqAt.notIn_list_reads r2 r1 (SeqAt.canLay_of_shaped se) (SeqAt.canLay_of_shaped sd) (room_in_shaped sd hu) ⟨.bl _, H, I, rfl, q⟩
  · obtain ⟨bs, r2⟩ := Dp.reads I (.tuple ds) y u he ry
    exact SeqAt.notIn_tuple_reads r2 r1 (SeqAt.canLay_of_shaped se) (SeqAt.canLay_of_shaped sd) (room_in_shaped sd hu) ⟨.bl _, H, I, rfl, q⟩
theorem opIn (hu : X.A.units + 65 < cLine) : OpR X (compareOp .In) (rInA X.K false) := OpR.or op_in_seq (op_inDT hu)
theorem opNotIn (hu : X.A.units + 65 < cLine) : OpR X (compareOp .NotIn) (rInA X.K true) := OpR.or op_notIn_seq (op_notInDT hu)
/-- a constant of the module -/
theorem pu_glob {x : Str} {v : V} {u : Value} {d : D} {pos : Pos} (hg : Gl X x) (hm : X.mg x = some u) (r : RelV v u) (q : ∀ F, Rp X.K X.mg F d v) (hd : (x == ("__debug__" : Str)) = false := by decide) : PuE X (.Name x pos) (gC d) :=
  pu_c (pe_glob hg hm r hd) q
/-- a builtin's name as a value -/
theorem pu_ty {x : Str} {n : String} {pos : Pos} (hg : Gl X x) (hm : X.mg x = none) (hv : bootBuiltins x = some (.type n)) (hn : x ≠ "__name__" := by decide) (hd : (x == ("__debug__" : Str)) = false := by decide) : PuE X (.Name x pos) (gC (.ty n)) :=
  pu_c (v := .ty n) (pe_bltn (v := .ty n) hg hm hv rfl hn hd) fun _ => .ty n
theorem pu_neg {a : Expr} {g : Rho → Option D} {pos : Pos} (h : PuE X a g) : PuE X (.UnaryOp .USub a pos) (gUn (fun d => (asI d).bind fun i => some (.int (-i))) g) := pe_imp (pe_un un_neg h) fun σ H Q ⟨F0, H0, ρ, F, z, s, e, q⟩ => by
  obtain ⟨d, e1, e⟩ := bind_some e
  obtain ⟨i, e2, e⟩ := bind_some e
  cases e
  refine ⟨F0, H0, ρ, F, d, s, e1, fun v F' H' l r => ?_⟩
  cases d <;> first | cases e2 | skip
  cases r
  exact ⟨_, rfl, q _ F' H' l (.int _)⟩
end
end DL

/-! part DL9 -/
set_option Elab.async false
set_option linter.all false
set_option maxRecDepth 100000
set_option maxHeartbeats 1000000
namespace DL
open PySem PySem.Spec PyProof.Rows L2
open Evl (Ex)

theorem Rfs.lookup_none {K : PySem.W.Frag} {mg : Str → Option Value} {F : Hp} : ∀ {gs : List (Str × D)} {fs : List (Str × V)}, Rfs K mg F gs fs → ∀ {f : Str}, gs.lookup f = none → fs.lookup f = none
  | _, _, .nil, f, _ => rfl
  | _, _, .cons (f := g) h r, f, e => by
    rw [List.lookup_cons] at e
    rw [List.lookup_cons]
    cases q : (f == g) with
    | true =>
      rw [q] at e
      cases e
    | false =>
      rw [q] at e
      exact r.lookup_none e
/-! ### methods -/
def gMeth (n m : Str) (gf : List D → Option D) (g : Rho → Option D) (gs : Rho → Option (List D)) : Rho → Option D := fun ρ => (g ρ).bind fun d => match d with
  | .ins c fs => if c = n ∧ (fs.lookup m).isNone = true then (gs ρ).bind fun ds => gf (.ins c fs :: ds) else none
  | _ => none
theorem gMeth_some {n m : Str} {gf : List D → Option D} {g : Rho → Option D} {gs : Rho → Option (List D)} {ρ : Rho} {d : D} (h : gMeth n m gf g gs ρ = some d) :
    ∃ fs ds, g ρ = some (.ins n fs) ∧ fs.lookup m = none ∧ gs ρ = some ds ∧ gf (.ins n fs :: ds) = some d := by
  obtain ⟨z, e1, e⟩ := bind_some h
  cases z <;> first | cases e | skip
  rename_i c fs
  have e' : (if c = n ∧ (fs.lookup m).isNone = true then (gs ρ).bind fun ds => gf (.ins c fs :: ds) else none) = some d := e
  split at e'
  · rename_i hc
    obtain ⟨h1, h2⟩ := hc
    subst h1
    obtain ⟨ds, e2, e3⟩ := bind_some e'
    exact ⟨fs, ds, e1, Option.isNone_iff_eq_none.mp h2, e2, e3⟩
  · cases e'
theorem Rp.inst {K : PySem.W.Frag} {mg : Str → Option Value} {F : Hp} {n : Str} {fs : List (Str × D)} {v : V} {C : Addr} (hC : mg n = some (.ref C)) (r : Rp K mg F (.ins n fs) v) : ∃ a dx ws, v = .ref a ∧ F a = some (.ins C dx ws) ∧ Rfs K mg F fs ws := by
  cases r with
  | ins h e f =>
    rw [hC] at h
    cases h
    exact ⟨_, _, _, rfl, e, f⟩
section
variable {X : Cx} {k j : Nat} {C f : Addr} {fd : FuncData} {ps ks : List Str} {n m x : Str} {p pos apos kpos : Pos} {o e : Expr} {es : List Expr} {kws : List Keyword} {g : Rho → Option D} {gs gk : Rho → Option (List D)} {gf : List D → Option D} {nm : Option Str}
theorem pu_meth {pl : Sem Bool} (hC : X.mg n = some (.ref C)) (c : Cls X.K C) (hm : Meth X.K C m f) (F : FnOk X.prog X.w X.K X.mg X.base CX0 k f fd ps (spP X.K X.mg j gf)) (hr : Room k X.A) (hb : Binds X.K fd ps [])
    (hn : ∀ ds d, gf ds = some d → ds.length = j) (ho : PuE X o g) (ha : PuA X (e :: es) gs)
    (hst : starEach (e :: es) X.env = (false, eval e X.env) :: starEach es X.env := by rfl) (hpl : (backTo pos (starEach es X.env)).any (·.1) = false := by rfl)
    (ht : eval (.Call (.Attribute o m apos) (e :: es) [] pos) X.env = (do
      let ov ← eval o X.env
      standAt apos.atName
      let (f, first) ← holding [ov] (getMethod ov m pl)
      callWith pos f first (backTo pos (starEach (e :: es) X.env)) (backToKw pos (keywordEach [] X.env))) := by rfl) :
    PuE X (.Call (.Attribute o m apos) (e :: es) [] pos) (gMeth n m gf g gs) := pe_imp (pe_meth (pl := pl) ho c hm F hr hb .nil pass0 ha hst hpl ht) fun σ H Q ⟨F0, H0, ρ, F, d, s, e, q⟩ => by
  obtain ⟨fs, ds, e1, e2, e3, e4⟩ := gMeth_some e
  refine ⟨F0, H0, ρ, F, _, s, e1, fun v F1 H1 l r => ?_⟩
  obtain ⟨a, dx, ws, rfl, ea, rf⟩ := r.inst hC
  refine ⟨a, dx, ws, rfl, l.s _ _ ea, rf.lookup_none e2, F0, H0, ρ, F1, ds, s.mono l, e3, fun vs F2 H2 l2 r2 => ⟨F2, _, d, ?_, l2.s, .cons (r.mono l2.f) (by rw [List.append_nil]; exact r2), e4, fun v F3 H3 l3 rv => q v F3 H3 ((l.trans l2).trans l3) rv⟩⟩
  rw [List.append_nil, List.length_cons, ← r2.length, ← List.length_cons (a := D.ins n fs)]
  exact hn _ _ e4
theorem pu_meth0 {pl : Sem Bool} (hC : X.mg n = some (.ref C)) (c : Cls X.K C) (hm : Meth X.K C m f) (F : FnOk X.prog X.w X.K X.mg X.base CX0 k f fd ps (spP X.K X.mg j gf)) (hr : Room k X.A) (hb : Binds X.K fd ps [])
    (hn : ∀ ds d, gf ds = some d → ds.length = j) (ho : PuE X o g)
    (ht : eval (.Call (.Attribute o m apos) [] [] pos) X.env = (do
      let ov ← eval o X.env
      standAt apos.atName
      let (f, first) ← holding [ov] (getMethod ov m pl)
      callWith pos f first (backTo pos (starEach [] X.env)) (backToKw pos (keywordEach [] X.env))) := by rfl) :
    PuE X (.Call (.Attribute o m apos) [] [] pos) (gMeth n m gf g gNil) := pe_imp (pe_meth0 (pl := pl) ho c hm F hr hb .nil pass0 ht) fun σ H Q ⟨F0, H0, ρ, F, d, s, e, q⟩ => by
  obtain ⟨fs, ds, e1, e2, e3, e4⟩ := gMeth_some e
  cases e3
  refine ⟨F0, H0, ρ, F, _, s, e1, fun v F1 H1 l r => ?_⟩
  obtain ⟨a, dx, ws, rfl, ea, rf⟩ := r.inst hC
  exact ⟨a, dx, ws, rfl, l.s _ _ ea, rf.lookup_none e2, F1, _, d, hn _ _ e4, l.s, .cons r .nil, e4, fun v F3 H3 l3 rv => q v F3 H3 (l.trans l3) rv⟩
/-! keywords -/
abbrev PuK (X : Cx) (kws : List Keyword) (gs : Rho → Option (List D)) : Prop := PK X kws (tPA X.K X.mg gs)
theorem pk_imp {t t' : TA} (h : PK X kws t) (w : ∀ σ H Q, t' σ H Q → t σ H Q) : PK X kws t' := ⟨fun pos pins s σ H Q I q => h.run pos pins s σ H Q I (w σ H Q q)⟩
theorem puk_nil : PuK X [] gNil := pk_imp pk_nil fun σ H Q ⟨F0, H0, ρ, F, z, s, e, q⟩ => by
  cases e
  exact q [] F H (Le.refl s.sub) .nil
theorem puk_cons (ha : PuE X e g) (hr : PuK X kws gs) : PuK X (⟨nm, e, kpos⟩ :: kws) (gCons g gs) := pk_imp (pk_cons ha hr) fun σ H Q ⟨F0, H0, ρ, F, z, s, e, q⟩ => by
  obtain ⟨x, e1, e⟩ := bind_some e
  obtain ⟨xs, e2, e⟩ := bind_some e
  cases e
  exact ⟨F0, H0, ρ, F, x, s, e1, fun v F1 H1 l r => ⟨F0, H0, ρ, F1, xs, s.mono l, e2, fun vs F2 H2 l2 r2 => q (v :: vs) F2 H2 (l.trans l2) (.cons (r.mono l2.f) r2)⟩⟩
/-- o.m(k = v, ..) -/
def tMethK (C : Addr) (m : Str) (j : Nat) (sp : Sp) (gV : List V → List V → List V) (E : XK) (ta : TE) (tk : TA) : TE := fun σ H Q => ta σ H fun x H1 => ∃ a dx fs, x = .ref a ∧ H1 a = some (.ins C dx fs) ∧ fs.lookup m = none ∧
  tk σ H1 fun zs H2 => zs.length = j ∧ sp (gV [x] zs) H2 Q E
theorem pe_methK {CX : CXT} {sp : Sp} {E : XK} {ta : TE} {tk : TA} {gg : List Value → List Value → List Value} {gV : List V → List V → List V} {pl : Sem Bool} (he : PE X o ta) (c : Cls X.K C) (hm : Meth X.K C m f) (F : FnOk X.prog X.w X.K X.mg X.base CX k f fd ps sp)
    (hr : Room k X.A) (hb : KBn X.K fd ps 1 ks gg gV) (hx : Passes CX X E) (hkw : PK X kws tk)
    (hall : (backToKw pos (keywordEach kws X.env)).all (·.1.isSome) = true := by rfl) (hks : (backToKw pos (keywordEach kws X.env)).filterMap (·.1) = ks := by rfl)
    (hpl : ((backTo pos (starEach [] X.env)).any (·.1) || (backToKw pos (keywordEach kws X.env)).any (·.1.isNone)) = false := by rfl)
    (ht : eval (.Call (.Attribute o m apos) [] kws pos) X.env = (do
      let ov ← eval o X.env
      standAt apos.atName
      let (f, first) ← holding [ov] (getMethod ov m pl)
      callWith pos f first (backTo pos (starEach [] X.env)) (backToKw pos (keywordEach kws X.env))) := by rfl) :
    PE X (.Call (.Attribute o m apos) [] kws pos) (tMethK C m ks.length sp gV E ta tk) := by
  refine ⟨fun pins s σ H Q I h => ?_⟩
  refine PySem.W.methodCall_KW (pl := pl) (thn (he.run pins s σ H _ I h) fun u s1 ⟨x, H1, I1, rx, a, dx, fs, ex, ea, l, q⟩ => ?_) ht
  subst ex
  obtain rfl : u = Value.ref a := rx
  refine getmeth_ok I1 ea c hm l ?_
  refine PySem.W.callWith_KW0 (first := [.ref a]) (h₀ := X.base) I.ok.mod.kin hm.kp hall ?_ hpl
  refine thn (hkw.run pos pins s1 σ H1 _ I1 q) fun ws s2 ⟨zs, H2, I2, rz, l2, q2⟩ => ⟨I2.kIn, ?_⟩
  rw [hks]
  exact run_fnN (us := [.ref a]) (vs := [.ref a]) F hr hb hx I2 (.cons (show RelV (.ref a) (.ref a) from rfl) .nil) rz rfl l2 q2
abbrev app2 {α : Type} : List α → List α → List α := fun a b => a ++ b
theorem pu_methK {pl : Sem Bool} (hC : X.mg n = some (.ref C)) (c : Cls X.K C) (hm : Meth X.K C m f) (F : FnOk X.prog X.w X.K X.mg X.base CX0 k f fd ps (spP X.K X.mg j gf)) (hr : Room k X.A) (hb : KBn X.K fd ps 1 ks app2 app2)
    (hj : ks.length + 1 = j) (hn : ∀ ds d, gf ds = some d → ds.length = j) (ho : PuE X o g) (hkw : PuK X kws gs)
    (hall : (backToKw pos (keywordEach kws X.env)).all (·.1.isSome) = true := by rfl) (hks : (backToKw pos (keywordEach kws X.env)).filterMap (·.1) = ks := by rfl)
    (hpl : ((backTo pos (starEach [] X.env)).any (·.1) || (backToKw pos (keywordEach kws X.env)).any (·.1.isNone)) = false := by rfl)
    (ht : eval (.Call (.Attribute o m apos) [] kws pos) X.env = (do
      let ov ← eval o X.env
      standAt apos.atName
      let (f, first) ← holding [ov] (getMethod ov m pl)
      callWith pos f first (backTo pos (starEach [] X.env)) (backToKw pos (keywordEach kws X.env))) := by rfl) :
    PuE X (.Call (.Attribute o m apos) [] kws pos) (gMeth n m gf g gs) := pe_imp (pe_methK (pl := pl) ho c hm F hr hb pass0 hkw hall hks hpl ht) fun σ H Q ⟨F0, H0, ρ, F, d, s, e, q⟩ => by
  obtain ⟨fs, ds, e1, e2, e3, e4⟩ := gMeth_some e
  refine ⟨F0, H0, ρ, F, _, s, e1, fun v F1 H1 l r => ?_⟩
  obtain ⟨a, dx, ws, rfl, ea, rf⟩ := r.inst hC
  have hl := hn _ _ e4
  rw [List.length_cons] at hl
  refine ⟨a, dx, ws, rfl, l.s _ _ ea, rf.lookup_none e2, F0, H0, ρ, F1, ds, s.mono l, e3, fun vs F2 H2 l2 r2 => ⟨by rw [← r2.length]; omega, F2, _, d, ?_, l2.s, .cons (r.mono l2.f) r2, e4, fun v F3 H3 l3 rv => q v F3 H3 ((l.trans l2).trans l3) rv⟩⟩
  show (V.ref a :: vs).length = j
  rw [List.length_cons, ← r2.length]
  exact hl
/-! properties -/
def gProp (n : Str) (gf : List D → Option D) (g : Rho → Option D) : Rho → Option D := fun ρ => (g ρ).bind fun d => match d with
  | .ins c fs => if c = n then gf [.ins c fs] else none
  | _ => none
theorem pu_prop {pr : Addr} {fn : Str} (hC : X.mg n = some (.ref C)) (c : Cls X.K C) (hp : PropOf X.K C fn pr f) (F : FnOk X.prog X.w X.K X.mg X.base CX0 k f fd ps (spP X.K X.mg j gf)) (hr : Room (k + 1) X.A) (hb : Binds X.K fd ps [])
    (hn : ∀ ds d, gf ds = some d → ds.length = j) (ho : PuE X o g) (hab : attributeBase o fn X.env (eval o X.env) = eval o X.env := by rfl) : PuE X (.Attribute o fn pos) (gProp n gf g) :=
  pe_imp (pe_prop ho c hp F hr hb .nil pass0 hab) fun σ H Q ⟨F0, H0, ρ, F, d, s, e, q⟩ => by
    obtain ⟨z, e1, e⟩ := bind_some e
    cases z <;> first | cases e | skip
    rename_i c' fs
    have e' : (if c' = n then gf [.ins c' fs] else none) = some d := e
    split at e'
    · rename_i hc
      subst hc
      refine ⟨F0, H0, ρ, F, _, s, e1, fun v F1 H1 l r => ?_⟩
      obtain ⟨a, dx, ws, rfl, ea, rf⟩ := r.inst hC
      exact ⟨a, dx, ws, rfl, l.s _ _ ea, F1, _, d, hn _ _ e', l.s, .cons r .nil, e', fun v F3 H3 l3 rv => q v F3 H3 (l.trans l3) rv⟩
    · cases e'
/-! C(e, .., k = v, ..) -/
def gApp2 (a b : Rho → Option (List D)) : Rho → Option (List D) := fun ρ => (a ρ).bind fun xs => (b ρ).bind fun ys => some (xs ++ ys)
theorem pu_makeK {i : Nat} {gi : Addr → List D → Option (List (Str × D))} (M : Mk X.K C f) (F : FnOk X.prog X.w X.K X.mg X.base CX0 k f fd ps (spI X.K X.mg j x gi)) (hr : Room (k + 1) X.A) (hg : Gl X x) (hm : X.mg x = some (.ref C)) (hb : KBn X.K fd ps (i + 1) ks app2 app2)
    (hij : i + ks.length = j) (hi : ∀ ρ ds, gs ρ = some ds → ds.length = i) (hkl : ∀ ρ ds, gk ρ = some ds → ds.length = ks.length) (ha : PuA X (e :: es) gs) (hkw : PuK X kws gk)
    (hall : (backToKw pos (keywordEach kws X.env)).all (·.1.isSome) = true := by rfl) (hks : (backToKw pos (keywordEach kws X.env)).filterMap (·.1) = ks := by rfl) (hdb : (x == ("__debug__" : Str)) = false := by decide)
    (he : starEach (e :: es) X.env = (false, eval e X.env) :: starEach es X.env := by rfl) (hpl : ((backTo pos (starEach (e :: es) X.env)).any (·.1) || (backToKw pos (keywordEach kws X.env)).any (·.1.isNone)) = false := by rfl) :
    PuE X (.Call (.Name x p) (e :: es) kws pos) (gMake x (gUni gi) (gApp2 gs gk)) := pe_imp (pe_makeK M F hr hg hm hb pass0 ha hkw hall hks hdb he hpl) fun σ H Q ⟨F0, H0, ρ, F, d, s, e, q⟩ => by
  obtain ⟨dd, e1, e⟩ := bind_some e
  obtain ⟨fs, e2, e⟩ := bind_some e
  cases e
  obtain ⟨ds, e3, e1⟩ := bind_some e1
  obtain ⟨zs, e4, e1⟩ := bind_some e1
  cases e1
  refine ⟨F0, H0, ρ, F, ds, s, e3, fun vs F1 H1 l r => ⟨F0, H0, ρ, F1, zs, s.mono l, e4, fun us F2 H2 l2 r2 => ⟨by rw [← r.length]; exact hi _ _ e3, by rw [← r2.length]; exact hkl _ _ e4, fun y dy hy hdy hne => ⟨C, y, dy, H2, F2, ds ++ zs, fs, vs ++ us, hm, rfl, ?_, rfl, hy, hdy, hne, l2.s, (r.mono l2.f).append r2, gUni_at e2 y, fun F3 H3 l3 rv => ⟨rfl, q _ F3 H3 ((l.trans l2).trans l3) rv⟩⟩⟩⟩⟩
  rw [List.length_append, ← r.length, ← r2.length, hi _ _ e3, hkl _ _ e4, hij]
theorem gl_nil : ∀ (ρ : Rho) (ds : List D), gNil ρ = some ds → ds.length = 0 := fun ρ ds h => by
  cases h
  rfl
theorem gl_cons {i : Nat} (h : ∀ (ρ : Rho) (ds : List D), gs ρ = some ds → ds.length = i) : ∀ (ρ : Rho) (ds : List D), gCons g gs ρ = some ds → ds.length = i + 1 := fun ρ ds e => by
  obtain ⟨y, e1, e⟩ := bind_some e
  obtain ⟨ys, e2, e⟩ := bind_some e
  cases e
  rw [List.length_cons, h _ _ e2]
end
/-! ### __init__ -/
section
variable {P : Program} {w : World} {K : PySem.W.Frag} {mg : Str → Option Value} {base : Heap}
theorem ok_init {x qual name : Str} {st : Stmt} {f : Addr} {fd : FuncData} {N ps : List Str} {k n : Nat} {b : SG} (F : Fun K x qual st f fd) (S : FnScope N ps (defScope st)) (hp : ps.length = n + 1)
    (hbody : ∀ (cdv : Value) (A : Around) (outer : List Env) (s : Shared) (H : Hp) (E : XK), Room k (A.deeper (envOfC qual (defScope st) s.heap.objs.size f cdv)) →
      PuSs (cxOf CX0 P w K mg base N qual (defScope st) f cdv A outer s H E).nox (defBody st) b) : FnOk P w K mg base CX0 (k + 1) f fd ps (spI K mg n name (gInit name n N.length b)) :=
  F.ok S (fun vs H Q E h => by rw [spI_len h, hp]) fun cdv A outer s H vs Q E hr h => ⟨_, hbody cdv A outer s H E hr, init_run h⟩
theorem ok_initD {x qual name : Str} {st : Stmt} {f : Addr} {fd : FuncData} {N ps : List Str} {k n : Nat} {b : SG} {dvs : List V} {kws : List (Str × V)} (F : FunD K x qual (defArgs st) (defBody st) (defScope st) dvs kws f fd) (S : FnScope N ps (defScope st)) (hp : ps.length = n + 1)
    (hbody : ∀ (cdv : Value) (A : Around) (outer : List Env) (s : Shared) (H : Hp) (E : XK), Room k (A.deeper (envOfC qual (defScope st) s.heap.objs.size f cdv)) →
      PuSs (cxOf CX0 P w K mg base N qual (defScope st) f cdv A outer s H E).nox (defBody st) b) : FnOk P w K mg base CX0 (k + 1) f fd ps (spI K mg n name (gInit name n N.length b)) :=
  F.ok S (fun vs H Q E h => by rw [spI_len h, hp]) fun cdv A outer s H vs Q E hr h => ⟨_, (hbody cdv A outer s H E hr).nox, init_run h⟩
end
end DL

/-! part DL10 -/
set_option Elab.async false
set_option linter.all false
set_option maxRecDepth 100000
set_option maxHeartbeats 1000000
namespace PySem.SeqAt
open AutoSeq1 (wpAny_loadPart')
open MeetsSeq PySem.Spec PyProof.Rows
theorem int_declines_own (b : Int) (u : Tok) (x C dx : Addr) :
    Meets (Builtin.«int.__eq__» ⟨[.int b u, .ref x], []⟩) (fun _ R s => s.heap.get? x = some (W.instObj C dx) ∧ R (.ok (.ret .notImplemented)) s) :=
  .of_wp fun prog w A R s h => by obtain ⟨hp, g, d, tk, os⟩ := s; obtain ⟨hl, h⟩ := h; wp_walk using wpAny_loadPart' hl, wpAny_load hl; exact ⟨_, rfl, h⟩
theorem bool_declines_own (b : Bool) (x C dx : Addr) :
    Meets (Builtin.«int.__eq__» ⟨[.bool b, .ref x], []⟩) (fun _ R s => s.heap.get? x = some (W.instObj C dx) ∧ R (.ok (.ret .notImplemented)) s) :=
  .of_wp fun prog w A R s h => by obtain ⟨hp, g, d, tk, os⟩ := s; obtain ⟨hl, h⟩ := h; wp_walk using wpAny_loadPart' hl, wpAny_load hl; exact ⟨_, rfl, h⟩
theorem str_declines_own (b : Str) (u : Tok) (x C dx : Addr) :
    Meets (Builtin.«str.__eq__» ⟨[.str b u, .ref x], []⟩) (fun _ R s => s.heap.get? x = some (W.instObj C dx) ∧ R (.ok (.ret .notImplemented)) s) :=
  .of_wp fun prog w A R s h => by obtain ⟨hp, g, d, tk, os⟩ := s; obtain ⟨hl, h⟩ := h; wp_walk using wpAny_loadPart' hl, wpAny_load hl; exact ⟨_, rfl, h⟩
theorem tuple_declines_own (l x C dx : Addr) :
    Meets (Builtin.«tuple.__eq__» ⟨[.ref l, .ref x], []⟩) (fun _ R s => s.heap.get? x = some (W.instObj C dx) ∧ (∀ M, W.Looks M s.heap (isSubtype (.ref C) (.type "tuple")) false) ∧ R (.ok (.ret .notImplemented)) s) :=
  .of_wp fun prog w A R s h => by obtain ⟨hp, g, d, tk, os⟩ := s; obtain ⟨hl, hs, h⟩ := h; wp_walk using wpAny_loadPart' hl, wpAny_load hl, W.Looks.here (hs _); exact ⟨_, rfl, h⟩
theorem list_declines_own (l x C dx : Addr) :
    Meets (Builtin.«list.__eq__» ⟨[.ref l, .ref x], []⟩) (fun _ R s => s.heap.get? x = some (W.instObj C dx) ∧ (∀ M, W.Looks M s.heap (isSubtype (.ref C) (.type "list")) false) ∧ R (.ok (.ret .notImplemented)) s) :=
  .of_wp fun prog w A R s h => by obtain ⟨hp, g, d, tk, os⟩ := s; obtain ⟨hl, hs, h⟩ := h; wp_walk using wpAny_loadPart' hl, wpAny_load hl, W.Looks.here (hs _); exact ⟨_, rfl, h⟩
section
variable {prog : Program} {w : World} {A : Around} {E : Value → Shared → Prop} {s : Shared} {K : W.Frag} {x C dx f : Addr} {od : Option Obj}
/-- what lets the class answer: v of the built-in type T, which says NotImplemented -/
theorem rc_back {T id : String} {v : Value} {Q : Value → Shared → Prop} (hu : A.units < cLine) (X : K.In s.heap) (I : W.InstAt s.heap x (W.instObj C dx) C od) (hv : s.TypeIs v T) (hsl : Slot T (cmpInfo .Eq).2.1 id)
    (hd : ∀ Q' : Value → Shared → Prop, Q' .notImplemented s → wpAny (model prog w) A (call (.builtin id) [v, .ref x]) Q' E s)
    (hm : W.mroIn K C (.type T) = some false) (hs : W.findIn K (.ref C) "__eq__" = some (some (.ref f))) (hf : W.isFn K (.ref f) = true)
    (h : wpAny (model prog w) A (call (.ref f) [.ref x, v]) (W.CmpBack Q) E s) : wpAny (model prog w) A (richCompare .Eq v (.ref x)) Q E s := by
  simp only [richCompare, cmpInfo_Eq, hv.oneThing_none]
  refine wpAny_holding (wpAny_bind (wpAny_cRoomFor hu ?_))
  refine wpAny_bind (wpAny_typeOf hv (wpAny_bind (I.type.here ?_)))
  have hne : (Value.type T != Value.ref C) = true := by simp
  simp only [hne, if_true]
  refine wpAny_bind ((W.looks_mroIn X hm).here ?_)
  simp only [Bool.false_eq_true, if_false, Bool.not_false, if_true]
  refine wpAny_bind (m := tryCompare v _ (.ref x)) (wpAny_tryCompare_declines hv hsl (hd _ ⟨rfl, ?_⟩))
  have one : wpAny (model prog w) A (tryCompare (.ref x) "__eq__" v) (fun r s' => ∃ z, r = some z ∧ Q z s') E s := by
    unfold tryCompare
    refine wpAny_bind (W.ifBound_K X I hs hf (wpAny_mono h (fun z s' hz => ?_) fun _ _ e => e))
    cases z <;> first | exact hz.elim | exact wpAny_pure ⟨_, rfl, hz⟩
  refine wpAny_bind (m := tryCompare (.ref x) _ v) (wpAny_mono one (fun r s' z => ?_) fun _ _ e => e)
  obtain ⟨v', rfl, hq⟩ := z
  exact wpAny_pure hq
end
end PySem.SeqAt

/-! part DL11 -/
set_option Elab.async false
set_option linter.all false
set_option maxRecDepth 100000
set_option maxHeartbeats 1000000
namespace DL
open PySem PySem.Spec PyProof.Rows L2
open Evl (Ex)
def flatTys : List String := ["NoneType", "bool", "int", "str", "tuple", "list"]
/-- what isinstance asks of an own class -/
structure InsO (K : PySem.W.Frag) (C : Addr) : Prop where
  cl : Cls K C
  ha : PySem.W.findIn K (.ref C) "__class__" = some (some (.builtin "object.__class__"))
  hn : PySem.W.specialIn K (.builtin "object.__class__") "__get__" = some (some (.builtin "getset_descriptor.__get__"))
  htk : PySem.W.takesIn K (.builtin "object.__class__") = some true
  hm : PySem.W.mroIn K C (.type "object") = some true
  me : PySem.W.kitOne K (.ref C) (.ref C) = some true
/-- what the text's class n must be -/
structure OwnC (K : PySem.W.Frag) (mg : Str → Option Value) (n : Str) (C : Addr) (os : List Str) : Prop where
  at_ : mg n = some (.ref C)
  ins : InsO K C
  no : ∀ T ∈ flatTys, PySem.W.mroIn K C (.type T) = some false
  kit : ∀ T ∈ flatTys, PySem.W.kitOne K (.type T) (.ref C) = some false
  nf : ∀ T ∈ flatTys, PySem.W.notFirst K C (.type T) = true
  os : ∀ m ∈ os, m ≠ n → ∃ C', mg m = some (.ref C') ∧ InsO K C' ∧ PySem.W.notFirst K C (.ref C') = true ∧ PySem.W.kitOne K (.ref C') (.ref C) = some false
theorem ty_mem {d : D} {t : String} (h : tyD d = some t) : t ∈ flatTys := by
  cases d <;> cases h <;> decide
/-- something of a built-in type -/
inductive FlatT (K : PySem.W.Frag) (H : Hp) : V → String → Prop
  | non : FlatT K H .non "NoneType"
  | bl (b : Bool) : FlatT K H (.bl b) "bool"
  | int (i : Int) : FlatT K H (.int i) "int"
  | str (x : Str) : FlatT K H (.str x) "str"
  | tup {a : Addr} {xs : List V} : SqT K H a xs → FlatT K H (.ref a) "tuple"
  | lst {a : Addr} {xs : List V} : H a = some (.lst xs) → FlatT K H (.ref a) "list"
theorem flatT_of {K : PySem.W.Frag} {mg : Str → Option Value} {F H : Hp} {d : D} {v : V} {t : String} (s : Ex F H) (r : Rp K mg F d v) (h : tyD d = some t) : FlatT K H v t := by
  cases d <;> first | cases h | skip
  all_goals cases r
  · exact .non
  · exact .bl _
  · exact .int _
  · exact .str _
  · rename_i h _
    exact .tup (Evl.ex_t s h)
  · rename_i h _
    exact .lst (s _ _ h)
/-- an instance of the class n -/
def isC (n : Str) (d : D) : Bool := match d with
  | .ins m _ => m == n
  | _ => false
/-- the type of a value, the text's classes among them -/
def okR (n : Str) (os : List Str) (y : D) : Bool := match y with
  | .ins m _ => m == n || os.contains m
  | _ => (tyD y).isSome
theorem tyx_own {K : PySem.W.Frag} {mg : Str → Option Value} {F H : Hp} {n : Str} {C : Addr} {os : List Str} {d : D} {v : V} (c : OwnC K mg n C os) (s : Ex F H) (r : Rp K mg F d v) (h : okR n os d = true) :
    ∃ t, TyX K H v t ∧ PySem.W.notFirst K C t = true ∧ ∃ b, PySem.W.kitOne K t (.ref C) = some b ∧ b = isC n d := by
  have flatcase : ∀ t, tyD d = some t → isC n d = false → ∃ t, TyX K H v t ∧ PySem.W.notFirst K C t = true ∧ ∃ b, PySem.W.kitOne K t (.ref C) = some b ∧ b = isC n d := fun t ht hc =>
    ⟨_, tyx_of s r ht, c.nf _ (ty_mem ht), false, c.kit _ (ty_mem ht), hc.symm⟩
  cases d with
  | ins m fs =>
    cases r with
    | ins hC ha rf =>
      by_cases hm : m = n
      · subst hm
        rw [c.at_] at hC
        cases hC
        exact ⟨_, .base (.ins (s _ _ ha) c.ins.cl c.ins.ha c.ins.hn c.ins.htk c.ins.hm), by simp [PySem.W.notFirst], true, c.ins.me, by simp [isC]⟩
      · have h2 : m ∈ os := by
          have h3 : (m == n || os.contains m) = true := h
          simp [hm] at h3
          exact h3
        obtain ⟨C', e1, i, nf, ki⟩ := c.os m h2 hm
        rw [hC] at e1
        cases e1
        exact ⟨_, .base (.ins (s _ _ ha) i.cl i.ha i.hn i.htk i.hm), nf, false, ki, by simp [isC, hm]⟩
  | non => exact flatcase _ rfl rfl
  | bl b => exact flatcase _ rfl rfl
  | int i => exact flatcase _ rfl rfl
  | str x => exact flatcase _ rfl rfl
  | tup xs => exact flatcase _ rfl rfl
  | lst xs => exact flatcase _ rfl rfl
  | ty x => cases h
  | scr x => cases h
/-! ### isinstance, an own class -/
def oIsiC (n : Str) (os : List Str) : D → Option D := fun d => if okR n os d = true then some (.bl (isC n d)) else none
section
variable {X : Cx} {n x1 x2 : Str} {C f : Addr} {os : List Str} {e : Expr} {g g1 g2 : Rho → Option D} {p1 p2 pos : Pos}
theorem pu_isiC (c : OwnC X.K X.mg n C os) (hg : Gl X "isinstance") (hm : X.mg "isinstance" = none) (hgn : Gl X n) (h : PuE X e g) (hv : bootBuiltins "isinstance" = some (.builtin "isinstance") := by decide +kernel) (hd : (n == ("__debug__" : Str)) = false := by decide)
    (hs1 : starEach [e, .Name n p2] X.env = (false, eval e X.env) :: starEach [.Name n p2] X.env := by rfl) (hs2 : starEach [.Name n p2] X.env = (false, eval (.Name n p2) X.env) :: starEach [] X.env := by rfl) (hpl : (backTo pos (starEach [.Name n p2] X.env)).any (·.1) = false := by rfl) :
    PuE X (.Call (.Name "isinstance" p1) [e, .Name n p2] [] pos) (gUn (oIsiC n os) g) :=
  pe_imp (pe_callB call_isi hg hm hv (pa_cons h (pa_cons (pe_glob (v := .ref C) hgn c.at_ rfl hd) pa_nil hs2) hs1) (by decide) (by decide) hs1 hpl) fun σ H Q ⟨F0, H0, ρ, F, z, s, e, q⟩ => by
    obtain ⟨d, e1, e⟩ := bind_some e
    unfold oIsiC at e
    split at e
    · rename_i hok
      cases e
      refine ⟨F0, H0, ρ, F, d, s, e1, fun v F' H' l r => ?_⟩
      obtain ⟨t, ty, _, b, hk, hb⟩ := tyx_own c l.s r hok
      exact ⟨v, .ref C, t, .ref C, b, rfl, .own C, ty, hk, by rw [hb]; exact q _ F' H' l (.bl _)⟩
    · cases e
end
/-! ### == of an own class -/
def rEqOwn (K : PySem.W.Frag) (C : Addr) (sp : Sp) (E : XK) : R2 := fun x y H Q => (∃ a dx fs t, x = .ref a ∧ H a = some (.ins C dx fs) ∧ TyX K H y t ∧ PySem.W.notFirst K C t = true ∧ sp [x, y] H Q E) ∨
  (∃ a dx fs T, y = .ref a ∧ H a = some (.ins C dx fs) ∧ FlatT K H x T ∧ sp [y, x] H Q E)
def oEqOwn (n : Str) (os : List Str) (gf : List D → Option D) : D → D → Option D := fun x y => match x with
  | .ins m fs => if m = n ∧ okR n os y = true then gf [.ins m fs, y] else none
  | x => match y with
    | .ins m fs => if m = n ∧ (tyD x).isSome = true then gf [.ins m fs, x] else none
    | _ => none
section
variable {X : Cx} {n : Str} {C f : Addr} {os : List Str} {gf : List D → Option D} {k : Nat} {sp : Sp} {E : XK} {CX : CXT}
theorem tyR_of {K : PySem.W.Frag} {mg : Str → Option Value} {F H : Hp} {d : D} {v : V} (s : Ex F H) (r : Rp K mg F d v) (h : (tyD d).isSome = true) : ∃ T, FlatT K H v T := by
  obtain ⟨t, e⟩ := Option.isSome_iff_exists.mp h
  exact ⟨t, flatT_of s r e⟩
theorem rel_eqOwn (c : OwnC X.K X.mg n C os) (hn : ∀ ds d, gf ds = some d → ds.length = 2) : RelOp X.K X.mg (rEqOwn X.K C (spP X.K X.mg 2 gf) E) (oEqOwn n os gf) := by
  intro x y d1 d2 z F H Q s r1 r2 e q
  have flatcase : ∀ m fs, d2 = .ins m fs → (m = n ∧ (tyD d1).isSome = true) → gf [.ins m fs, d1] = some z → rEqOwn X.K C (spP X.K X.mg 2 gf) E x y H Q := fun m fs e0 hc e' => by
    obtain ⟨h1, h2⟩ := hc
    subst h1
    subst e0
    obtain ⟨a, dx, ws, rfl, ea, rf⟩ := r2.inst c.at_
    obtain ⟨T, ft⟩ := tyR_of s r1 h2
    exact .inr ⟨a, dx, ws, T, rfl, s _ _ ea, ft, F, _, z, rfl, s, .cons r2 (.cons r1 .nil), e', fun v F' H' l r => q v F' H' l r⟩
  cases d1 with
  | ins m fs =>
    have e' : (if m = n ∧ okR n os d2 = true then gf [.ins m fs, d2] else none) = some z := e
    split at e'
    · rename_i hc
      obtain ⟨h1, h2⟩ := hc
      subst h1
      obtain ⟨a, dx, ws, rfl, ea, rf⟩ := r1.inst c.at_
      obtain ⟨t, ty, nf, _⟩ := tyx_own c s r2 h2
      exact .inl ⟨a, dx, ws, t, rfl, s _ _ ea, ty, nf, F, _, z, rfl, s, .cons r1 (.cons r2 .nil), e', fun v F' H' l r => q v F' H' l r⟩
    · cases e'
  | ty t => cases d2 <;> first | cases e | (rename_i m fs; have e' : (if m = n ∧ (tyD (.ty t)).isSome = true then gf [.ins m fs, .ty t] else none) = some z := e; split at e' <;> first | cases e' | (rename_i hc; exact flatcase m fs rfl hc e'))
  | scr t => cases d2 <;> first | cases e | (rename_i m fs; have e' : (if m = n ∧ (tyD (.scr t)).isSome = true then gf [.ins m fs, .scr t] else none) = some z := e; split at e' <;> first | cases e' | (rename_i hc; exact flatcase m fs rfl hc e'))
  | non => cases d2 <;> first | cases e | (rename_i m fs; have e' : (if m = n ∧ (tyD .non).isSome = true then gf [.ins m fs, .non] else none) = some z := e; split at e' <;> first | cases e' | (rename_i hc; exact flatcase m fs rfl hc e'))
  | bl t => cases d2 <;> first | cases e | (rename_i m fs; have e' : (if m = n ∧ (tyD (.bl t)).isSome = true then gf [.ins m fs, .bl t] else none) = some z := e; split at e' <;> first | cases e' | (rename_i hc; exact flatcase m fs rfl hc e'))
  | int t => cases d2 <;> first | cases e | (rename_i m fs; have e' : (if m = n ∧ (tyD (.int t)).isSome = true then gf [.ins m fs, .int t] else none) = some z := e; split at e' <;> first | cases e' | (rename_i hc; exact flatcase m fs rfl hc e'))
  | str t => cases d2 <;> first | cases e | (rename_i m fs; have e' : (if m = n ∧ (tyD (.str t)).isSome = true then gf [.ins m fs, .str t] else none) = some z := e; split at e' <;> first | cases e' | (rename_i hc; exact flatcase m fs rfl hc e'))
  | tup t => cases d2 <;> first | cases e | (rename_i m fs; have e' : (if m = n ∧ (tyD (.tup t)).isSome = true then gf [.ins m fs, .tup t] else none) = some z := e; split at e' <;> first | cases e' | (rename_i hc; exact flatcase m fs rfl hc e'))
  | lst t => cases d2 <;> first | cases e | (rename_i m fs; have e' : (if m = n ∧ (tyD (.lst t)).isSome = true then gf [.ins m fs, .lst t] else none) = some z := e; split at e' <;> first | cases e' | (rename_i hc; exact flatcase m fs rfl hc e'))
theorem op_eqOwn (c : OwnC X.K X.mg n C os) (hs : PySem.W.findIn X.K (.ref C) "__eq__" = some (some (.ref f))) (hf : PySem.W.isFn X.K (.ref f) = true) (G : FnR X.prog X.w X.K X.mg X.base CX k f sp) (hr : Room k X.A) (hx : Passes CX X E) : OpR X (compareOp .Eq) (rEqOwn X.K C sp E) := by
  intro pins s σ H x y v u Q I rx ry h
  show wpAny (model X.prog X.w) X.A (richCompare .Eq v u) (EP X pins σ Q) X.xe s
  rcases h with ⟨a, dx, fs, t, rfl, ha, ty, hn, q⟩ | ⟨a, dx, fs, T, rfl, ha, ty, q⟩
  · cases (show v = Value.ref a from rx)
    obtain ⟨mA, J, _⟩ := ins_get I.hok ha
    obtain ⟨od, J, _⟩ := J.look
    obtain ⟨m, hF⟩ := I.fr
    obtain ⟨P, Z, p, _⟩ := kit_of I ry ty
    refine PySem.W.cmp_K (op := .Eq) (tb := t) hr.units0 hF I.ok.mod.kin J (Z.ty _ _ I.kIn p) hn hs hf ?_
    refine wpAny_mono (wpAny_call <| run_fnR (us := [.ref a, u]) (vs := [.ref a, y]) G hr hx I (.cons (show RelV (.ref a) (.ref a) from rfl) (.cons ry .nil)) q) (fun w s' z => ?_) fun _ _ x => x
    obtain ⟨z', H', I', rz, qz⟩ := z
    exact SlX.cmpback rz ⟨z', H', I', rz, qz⟩
  · cases (show u = Value.ref a from ry)
    obtain ⟨mA, J, _⟩ := ins_get I.hok ha
    obtain ⟨od, J, _⟩ := J.look
    have run : wpAny (model X.prog X.w) X.A (call (.ref f) [.ref a, v]) (PySem.W.CmpBack (EP X pins σ Q)) X.xe s := by
      refine wpAny_mono (wpAny_call <| run_fnR (us := [.ref a, v]) (vs := [.ref a, x]) G hr hx I (.cons (show RelV (.ref a) (.ref a) from rfl) (.cons rx .nil)) q) (fun w s' z => ?_) fun _ _ x => x
      obtain ⟨z', H', I', rz, qz⟩ := z
      exact SlX.cmpback rz ⟨z', H', I', rz, qz⟩
    have hob : s.heap.get? a = some (PySem.W.instObj C dx) := J.1
    cases ty with
    | non =>
      cases (show v = Value.none from rx)
      exact SeqAt.rc_back (T := "NoneType") hr.units0 I.kIn J rfl F.slot_NoneType_eq (fun Q' q' => call_gives F.slot_NoneType_eq rfl F.entry_NoneType_eq (F.args_NoneType_eq_2 _ _) (SeqAt.NoneType___eq___none_ref_0 a) q') (c.no _ (by decide)) hs hf run
    | bl b =>
      cases (show v = Value.bool b from rx)
      exact SeqAt.rc_back (T := "bool") hr.units0 I.kIn J rfl F.slot_bool_eq (fun Q' q' => call_meets F.slot_bool_eq rfl F.entry_int_eq (F.args_int_eq_2 _ _) (SeqAt.bool_declines_own b a C dx) ⟨hob, q'⟩) (c.no _ (by decide)) hs hf run
    | int i =>
      obtain ⟨t, e⟩ := (show ∃ t, v = Value.int i t from rx)
      cases e
      exact SeqAt.rc_back (T := "int") hr.units0 I.kIn J rfl F.slot_int_eq (fun Q' q' => call_meets F.slot_int_eq rfl F.entry_int_eq (F.args_int_eq_2 _ _) (SeqAt.int_declines_own i t a C dx) ⟨hob, q'⟩) (c.no _ (by decide)) hs hf run
    | str i =>
      obtain ⟨t, e⟩ := (show ∃ t, v = Value.str i t from rx)
      cases e
      exact SeqAt.rc_back (T := "str") hr.units0 I.kIn J rfl F.slot_str_eq (fun Q' q' => call_meets F.slot_str_eq rfl F.entry_str_eq (F.args_str_eq_2 _ _) (SeqAt.str_declines_own i t a C dx) ⟨hob, q'⟩) (c.no _ (by decide)) hs hf run
    | tup ht =>
      rename_i b xs
      cases (show v = Value.ref b from rx)
      obtain ⟨its, r, e, z⟩ := I.tuple ht
      obtain ⟨⟨cls, dd, data, sl⟩, ho, hc, n, hd⟩ := id e
      exact SeqAt.rc_back (T := "tuple") hr.units0 I.kIn J ⟨_, ho, hc⟩ F.slot_tuple_eq (fun Q' q' => call_meets F.slot_tuple_eq ⟨_, ho, hc⟩ F.entry_tuple_eq (F.args_tuple_eq_2 _ _) (SeqAt.tuple_declines_own b a C dx) ⟨hob, fun M => PySem.W.looks_mroIn I.kIn (c.no _ (by decide)), q'⟩) (c.no _ (by decide)) hs hf run
    | lst hl =>
      rename_i b xs
      cases (show v = Value.ref b from rx)
      obtain ⟨_, _, n, _, h1⟩ := (show ObjOk X.prog X.w H s.heap b (.lst xs) from I.hok b _ hl)
      exact SeqAt.rc_back (T := "list") hr.units0 I.kIn J ⟨_, h1, rfl⟩ F.slot_list_eq (fun Q' q' => call_meets F.slot_list_eq ⟨_, h1, rfl⟩ F.entry_list_eq (F.args_list_eq_2 _ _) (SeqAt.list_declines_own b a C dx) ⟨hob, fun M => PySem.W.looks_mroIn I.kIn (c.no _ (by decide)), q'⟩) (c.no _ (by decide)) hs hf run
end
/-! ### in, an own class -/
def rInOwn (C : Addr) (sp : Sp) (E : XK) (neg : Bool) : R2 := fun x y H Q => ∃ a dx fs, y = .ref a ∧ H a = some (.ins C dx fs) ∧ sp [y, x] H (fun z H' => ∃ b : Bool, z = .bl b ∧ Q (.bl (if neg = true then !b else b)) H') E
def oInOwn (n : Str) (gf : List D → Option D) (neg : Bool) : D → D → Option D := fun x y => match y with
  | .ins m fs => if m = n then (gf [.ins m fs, x]).bind fun r => (asB r).bind fun b => some (.bl (if neg = true then !b else b)) else none
  | _ => none
section
variable {X : Cx} {n : Str} {C f : Addr} {gf : List D → Option D} {k : Nat} {sp : Sp} {E : XK} {CX : CXT} {neg : Bool}
theorem rel_inOwn (hC : X.mg n = some (.ref C)) : RelOp X.K X.mg (rInOwn C (spP X.K X.mg 2 gf) E neg) (oInOwn n gf neg) := by
  intro x y d1 d2 z F H Q s r1 r2 e q
  cases d2 <;> first | cases e | skip
  rename_i m fs
  have e' : (if m = n then (gf [.ins m fs, d1]).bind fun r => (asB r).bind fun b => some (.bl (if neg = true then !b else b)) else none) = some z := e
  split at e'
  · rename_i hm
    subst hm
    obtain ⟨r, e1, e'⟩ := bind_some e'
    obtain ⟨b, e2, e'⟩ := bind_some e'
    cases e'
    cases asB_some e2
    obtain ⟨a, dx, ws, rfl, ea, rf⟩ := r2.inst hC
    exact ⟨a, dx, ws, rfl, s _ _ ea, F, _, _, rfl, s, .cons r2 (.cons r1 .nil), e1, fun v F' H' l r => ⟨b, rp_bl r, q _ F' H' l (.bl _)⟩⟩
  · cases e'
theorem op_inOwn (hs : PySem.W.findIn X.K (.ref C) "__contains__" = some (some (.ref f))) (hf : PySem.W.isFn X.K (.ref f) = true) (F : FnR X.prog X.w X.K X.mg X.base CX k f sp) (hr : Room k X.A) (hx : Passes CX X E) : OpR X (compareOp .In) (rInOwn C sp E false) := by
  intro pins s σ H x y v u Q I rx ry h
  obtain ⟨a, dx, fs, rfl, ha, q⟩ := h
  cases (show u = Value.ref a from ry)
  obtain ⟨mA, J, _⟩ := ins_get I.hok ha
  obtain ⟨od, J, _⟩ := J.look
  obtain ⟨m, hF⟩ := I.fr
  refine PySem.W.in_K hF I.ok.mod.kin J hs hf ?_
  refine wpAny_mono (wpAny_call <| run_fnR (us := [.ref a, v]) (vs := [.ref a, x]) F hr hx I (.cons (show RelV (.ref a) (.ref a) from rfl) (.cons rx .nil)) q) (fun w s' z => ?_) fun _ _ x => x
  obtain ⟨z', H', I', rz, b, rfl, qz⟩ := z
  cases (show w = Value.bool b from rz)
  exact wpAny_truthy_bool ⟨.bl _, H', I', rfl, qz⟩
theorem op_notInOwn (hs : PySem.W.findIn X.K (.ref C) "__contains__" = some (some (.ref f))) (hf : PySem.W.isFn X.K (.ref f) = true) (F : FnR X.prog X.w X.K X.mg X.base CX k f sp) (hr : Room k X.A) (hx : Passes CX X E) : OpR X (compareOp .NotIn) (rInOwn C sp E true) := by
  intro pins s σ H x y v u Q I rx ry h
  obtain ⟨a, dx, fs, rfl, ha, q⟩ := h
  cases (show u = Value.ref a from ry)
  obtain ⟨mA, J, _⟩ := ins_get I.hok ha
  obtain ⟨od, J, _⟩ := J.look
  obtain ⟨m, hF⟩ := I.fr
  refine PySem.W.notIn_K hF I.ok.mod.kin J hs hf ?_
  refine wpAny_mono (wpAny_call <| run_fnR (us := [.ref a, v]) (vs := [.ref a, x]) F hr hx I (.cons (show RelV (.ref a) (.ref a) from rfl) (.cons rx .nil)) q) (fun w s' z => ?_) fun _ _ x => x
  obtain ⟨z', H', I', rz, b, rfl, qz⟩ := z
  cases (show w = Value.bool b from rz)
  exact wpAny_truthy_bool ⟨.bl _, H', I', rfl, qz⟩
end
/-! ### len, an own class -/
def oLenOwn (n : Str) (gf : List D → Option D) : D → Option D := fun x => match x with
  | .ins m fs => if m = n then (gf [.ins m fs]).bind fun r => (asI r).bind fun i => if 0 ≤ i ∧ i ≤ 1000000 then some (.int i) else none else none
  | _ => none
section
variable {X : Cx} {n : Str} {C f : Addr} {fd : FuncData} {ps : List Str} {gf : List D → Option D} {k : Nat} {e : Expr} {g : Rho → Option D} {p pos : Pos}
theorem asI_some {d : D} {i : Int} (h : asI d = some i) : d = .int i := by
  cases d <;> cases h
  rfl
theorem pu_lenOwn (hC : X.mg n = some (.ref C)) (hs : PySem.W.findIn X.K (.ref C) "__len__" = some (some (.ref f))) (hf : PySem.W.isFn X.K (.ref f) = true) (F : FnOk X.prog X.w X.K X.mg X.base CX0 k f fd ps (spP X.K X.mg 1 gf)) (hb : Binds X.K fd ps []) (hr : Room (k + 1) X.A)
    (hg : Gl X "len") (hm : X.mg "len" = none) (h : PuE X e g) (he : starEach [e] X.env = (false, eval e X.env) :: starEach [] X.env := by rfl) (hpl : (backTo pos (starEach [] X.env)).any (·.1) = false := by rfl) :
    PuE X (.Call (.Name "len" p) [e] [] pos) (gUn (oLenOwn n gf) g) :=
  pe_imp (pe_callB (r := fun xs H Q => ∃ a dx fs, xs = [V.ref a] ∧ H a = some (.ins C dx fs) ∧ spP X.K X.mg 1 gf xs H (fun z H' => ∃ i : Int, z = .int i ∧ 0 ≤ i ∧ i ≤ 1000000 ∧ Q (.int i) H') E0) (id := "len") (fun pins s σ H xs us Q I r h => by
      obtain ⟨a, dx, fs, rfl, ha, q⟩ := h
      obtain ⟨u, rfl, ru⟩ := r.one
      cases (show u = Value.ref a from ru)
      obtain ⟨mA, J, _⟩ := ins_get I.hok ha
      obtain ⟨od, J, _⟩ := J.look
      obtain ⟨m, hF⟩ := I.fr
      refine PySem.W.len_K hF I.ok.mod.kin J hs hf ?_
      refine wpAny_mono (wpAny_call (SlX.run_at (us := [.ref a]) (ws := [.ref a]) (fnR_of F hb) hr.in1 I.env0.in1 pass0 I (.cons (show RelV (.ref a) (.ref a) from rfl) .nil) q)) (fun w s' z => ?_) fun _ _ x => x
      obtain ⟨z', H', I', rz, i, rfl, h0, h1, qz⟩ := z
      obtain ⟨t, e⟩ := (show ∃ t, w = Value.int i t from rz)
      cases e
      exact ⟨⟨h0, by omega⟩, .int i, H', I'.tok _, ⟨_, rfl⟩, qz⟩) hg hm (by decide +kernel) (pa_cons h pa_nil he) (by decide) (by decide) he hpl) fun σ H Q ⟨F0, H0, ρ, F, z, s, e, q⟩ => by
    obtain ⟨d, e1, e⟩ := bind_some e
    cases d <;> first | cases e | skip
    rename_i m fs
    have e' : (if m = n then (gf [.ins m fs]).bind fun r => (asI r).bind fun i => if 0 ≤ i ∧ i ≤ 1000000 then some (.int i) else none else none) = some z := e
    split at e'
    · rename_i hm
      subst hm
      obtain ⟨r, e2, e'⟩ := bind_some e'
      obtain ⟨i, e3, e'⟩ := bind_some e'
      cases asI_some e3
      have e5 : (if 0 ≤ i ∧ i ≤ 1000000 then some (D.int i) else none) = some z := e'
      split at e5
      · rename_i hi
        cases e5
        refine ⟨F0, H0, ρ, F, _, s, e1, fun v F' H' l r => ?_⟩
        obtain ⟨a, dx, ws, rfl, ea, rf⟩ := r.inst hC
        exact ⟨a, dx, ws, rfl, l.s _ _ ea, F', _, _, rfl, l.s, .cons r .nil, e2, fun v F3 H3 l3 r3 => ⟨i, by cases r3; rfl, hi.1, hi.2, q _ F3 H3 (l.trans l3) (.int i)⟩⟩
      · cases e5
    · cases e'
end
end DL

/-! part DL12 -/
set_option Elab.async false
set_option linter.all false
set_option maxRecDepth 100000
set_option maxHeartbeats 1000000
namespace DL
open PySem PySem.Spec PyProof.Rows L2
open Evl (Ex)
def oRepT : D → D → Option D
  | .tup a, .int k => if 2 ≤ k ∧ k ≤ 1000 ∧ a.length ≤ 1000 ∧ a ≠ [] then some (.tup (List.replicate k.toNat a).flatten) else none
  | _, _ => none
theorem ne_nil {K : PySem.W.Frag} {mg : Str → Option Value} {F : Hp} {ds : List D} {vs : List V} (r : Rps K mg F ds vs) (h : ds ≠ []) : vs ≠ [] := fun z => by
  subst z
  exact h r.nil_of
theorem rel_repT {K : PySem.W.Frag} {mg : Str → Option Value} : RelOp K mg (rRepT K) oRepT := by
  intro x y d e z F H Q s hx hy hz q
  cases d <;> cases e <;> first | cases hz | skip
  rename_i ds k
  have e5 : (if 2 ≤ k ∧ k ≤ 1000 ∧ ds.length ≤ 1000 ∧ ds ≠ [] then some (D.tup (List.replicate k.toNat ds).flatten) else none) = some z := hz
  split at e5
  · rename_i hc
    cases e5
    cases hy
    cases hx with
    | tup hx rx =>
      refine ⟨_, _, _, rfl, rfl, Evl.ex_t s hx, ne_nil rx hc.2.2.2, hc.1, hc.2.1, by rw [← rx.length]; exact hc.2.2.1, fun p hp => ?_⟩
      exact q _ _ _ (Le.new s hp) (.tup (SqT.of upd_same) ((rx.rep k.toNat).mono (Le.new s hp).f))
  · cases e5
def dMulT : D → D → Option D := fun d e => (dMul d e).or (oRepT d e)
theorem rel_mulT {K : PySem.W.Frag} {mg : Str → Option Value} : RelOp K mg (fun x y H Q => rMul x y H Q ∨ rRepT K x y H Q) dMulT := RelOp.or rel_mul rel_repT
theorem opMulT {X : Cx} : OpR X (binaryOp .Mult) (fun x y H Q => rMul x y H Q ∨ rRepT X.K x y H Q) := OpR.or opMul op_repT
end DL

/-! part DL13 -/
set_option Elab.async false
set_option linter.all false
set_option maxRecDepth 100000
set_option maxHeartbeats 1000000
namespace DL
open PySem PySem.Spec PyProof.Rows L2
open Evl (Ex)
/-! ### f(e, .., k = v, ..): the keywords in any order -/
/-- the values of the keywords in the parameters' order -/
def perm {α : Type} (idx : List Nat) (zs : List α) : List α := idx.filterMap fun i => zs[i]?
abbrev appP {α : Type} (idx : List Nat) : List α → List α → List α := fun a b => a ++ perm idx b
theorem perm_rel {idx : List Nat} {zs : List V} {ws : List Value} (r : Vals zs ws) : Vals (perm idx zs) (perm idx ws) := by
  induction idx with
  | nil => exact .nil
  | cons i idx ih =>
    unfold perm
    rw [List.filterMap_cons, List.filterMap_cons]
    by_cases h : i < zs.length
    · obtain ⟨u, hu, ru⟩ := r.get (List.getElem?_eq_getElem h)
      rw [hu, List.getElem?_eq_getElem h]
      exact .cons ru ih
    · rw [List.getElem?_eq_none (by omega), List.getElem?_eq_none (by rw [← r.length]; omega)]
      exact ih
theorem appP_rel {idx : List Nat} {vs zs : List V} {us ws : List Value} (r1 : Vals vs us) (r2 : Vals zs ws) : Vals (appP idx vs zs) (appP idx us ws) := r1.append (perm_rel r2)
theorem perm_rps {K : PySem.W.Frag} {mg : Str → Option Value} {F : Hp} {idx : List Nat} {zs : List D} {ws : List V} (r : Rps K mg F zs ws) : Rps K mg F (perm idx zs) (perm idx ws) := by
  induction idx with
  | nil => exact .nil
  | cons i idx ih =>
    unfold perm
    rw [List.filterMap_cons, List.filterMap_cons]
    by_cases h : i < zs.length
    · obtain ⟨u, hu, ru⟩ := r.get (List.getElem?_eq_getElem h)
      rw [hu, List.getElem?_eq_getElem h]
      exact .cons ru ih
    · rw [List.getElem?_eq_none (by omega), List.getElem?_eq_none (by rw [← r.length]; omega)]
      exact ih
def gAppP (idx : List Nat) (a b : Rho → Option (List D)) : Rho → Option (List D) := fun ρ => (a ρ).bind fun xs => (b ρ).bind fun ys => some (xs ++ perm idx ys)
section
variable {X : Cx} {k j i : Nat} {f : Addr} {fd : FuncData} {ps ks : List Str} {x : Str} {p pos : Pos} {e : Expr} {es : List Expr} {kws : List Keyword} {gs gk : Rho → Option (List D)} {gf : List D → Option D} {idx : List Nat}
theorem pe_callK0 {CX : CXT} {sp : Sp} {E : XK} {tk : TA} {gg : List Value → List Value → List Value} {gV : List V → List V → List V} (F : FnOk X.prog X.w X.K X.mg X.base CX k f fd ps sp) (hr : Room k X.A) (hg : Gl X x) (hm : X.mg x = some (.ref f)) (hk : PySem.W.keepIn X.K (.ref f) = true) (hb : KBn X.K fd ps 0 ks gg gV) (hx : Passes CX X E)
    (hkw : PK X kws tk) (hall : (backToKw pos (keywordEach kws X.env)).all (·.1.isSome) = true := by rfl) (hks : (backToKw pos (keywordEach kws X.env)).filterMap (·.1) = ks := by rfl)
    (hdb : (x == ("__debug__" : Str)) = false := by decide) (hpl : ((backTo pos (starEach [] X.env)).any (·.1) || (backToKw pos (keywordEach kws X.env)).any (·.1.isNone)) = false := by rfl) :
    PE X (.Call (.Name x p) [] kws pos) (tCallN 0 ks.length sp gV E tNil tk) := by
  refine ⟨fun pins s σ H Q I h => ?_⟩
  refine wpAny_Call_Name_kw (ld_glob I hg hm ?_ hdb)
  refine PySem.W.callWith_KW0 (h₀ := X.base) I.ok.mod.kin hk hall ?_ hpl
  refine thn (hkw.run pos pins s σ H _ I h) fun ws s2 ⟨zs, H2, I2, rz, l1, l2, q2⟩ => ⟨I2.kIn, ?_⟩
  rw [hks]
  exact run_fnN (us := []) (vs := []) F hr hb hx I2 .nil rz rfl l2 q2
theorem pu_callK0 (F : FnOk X.prog X.w X.K X.mg X.base CX0 k f fd ps (spP X.K X.mg j gf)) (hr : Room k X.A) (hg : Gl X x) (hm : X.mg x = some (.ref f)) (hk : PySem.W.keepIn X.K (.ref f) = true) (hb : KBn X.K fd ps 0 ks (appP idx) (appP idx))
    (hkl : ∀ ρ ds, gk ρ = some ds → ds.length = ks.length) (hn : ∀ ds d, gf ds = some d → ds.length = j) (hkw : PuK X kws gk)
    (hall : (backToKw pos (keywordEach kws X.env)).all (·.1.isSome) = true := by rfl) (hks : (backToKw pos (keywordEach kws X.env)).filterMap (·.1) = ks := by rfl)
    (hdb : (x == ("__debug__" : Str)) = false := by decide) (hpl : ((backTo pos (starEach [] X.env)).any (·.1) || (backToKw pos (keywordEach kws X.env)).any (·.1.isNone)) = false := by rfl) :
    PuE X (.Call (.Name x p) [] kws pos) (gCall gf (gAppP idx gNil gk)) := pe_imp (pe_callK0 F hr hg hm hk hb pass0 hkw hall hks hdb hpl) fun σ H Q ⟨F0, H0, ρ, F, d, s, e, q⟩ => by
  obtain ⟨ds, e1, e⟩ := bind_some e
  obtain ⟨zs, e2, e1⟩ := bind_some (show (gk ρ).bind (fun ys => some ([] ++ perm idx ys)) = some ds from e1)
  cases e1
  refine ⟨F0, H0, ρ, F, zs, s, e2, fun vs F1 H1 l r => ⟨rfl, by rw [← r.length]; exact hkl _ _ e2, F1, _, d, ?_, l.s, perm_rps r, e, fun v F2 H2 l2 rv => q v F2 H2 (l.trans l2) rv⟩⟩
  have h1 := hn _ _ e
  show (appP idx [] vs).length = j
  rw [← h1]
  exact (perm_rps r).length.symm
theorem pu_callKP (F : FnOk X.prog X.w X.K X.mg X.base CX0 k f fd ps (spP X.K X.mg j gf)) (hr : Room k X.A) (hg : Gl X x) (hm : X.mg x = some (.ref f)) (hk : PySem.W.keepIn X.K (.ref f) = true) (hb : KBn X.K fd ps i ks (appP idx) (appP idx))
    (hil : ∀ ρ ds, gs ρ = some ds → ds.length = i) (hkl : ∀ ρ ds, gk ρ = some ds → ds.length = ks.length) (hn : ∀ ds d, gf ds = some d → ds.length = j) (ha : PuA X (e :: es) gs) (hkw : PuK X kws gk)
    (hall : (backToKw pos (keywordEach kws X.env)).all (·.1.isSome) = true := by rfl) (hks : (backToKw pos (keywordEach kws X.env)).filterMap (·.1) = ks := by rfl)
    (hdb : (x == ("__debug__" : Str)) = false := by decide) (he : starEach (e :: es) X.env = (false, eval e X.env) :: starEach es X.env := by rfl)
    (hpl : ((backTo pos (starEach (e :: es) X.env)).any (·.1) || (backToKw pos (keywordEach kws X.env)).any (·.1.isNone)) = false := by rfl) :
    PuE X (.Call (.Name x p) (e :: es) kws pos) (gCall gf (gAppP idx gs gk)) := pe_imp (pe_callN F hr hg hm hk hb pass0 ha hkw hall hks hdb he hpl) fun σ H Q ⟨F0, H0, ρ, F, d, s, e, q⟩ => by
  obtain ⟨dd, e1, e⟩ := bind_some e
  obtain ⟨ds, e3, e1⟩ := bind_some e1
  obtain ⟨zs, e4, e1⟩ := bind_some e1
  cases e1
  refine ⟨F0, H0, ρ, F, ds, s, e3, fun vs F1 H1 l r => ⟨F0, H0, ρ, F1, zs, s.mono l, e4, fun us F2 H2 l2 r2 => ⟨by rw [← r.length]; exact hil _ _ e3, by rw [← r2.length]; exact hkl _ _ e4, F2, _, d, ?_, l2.s, (r.mono l2.f).append (perm_rps r2), e, fun v F3 H3 l3 rv => q v F3 H3 ((l.trans l2).trans l3) rv⟩⟩⟩
  rw [← hn _ _ e]
  exact ((r.mono l2.f).append (perm_rps (idx := idx) r2)).length.symm
end
/-! ### sum, sorted(set(..)) of ints -/
def asInts : List D → Option (List Int)
  | [] => some []
  | .int i :: ds => (asInts ds).bind fun ns => some (i :: ns)
  | _ => none
theorem asInts_eq : ∀ {ds : List D} {ns : List Int}, asInts ds = some ns → ds = ns.map D.int
  | [], _, h => by cases h; rfl
  | .int i :: ds, _, h => by
    obtain ⟨ns', e1, h⟩ := bind_some h
    cases h
    rw [asInts_eq e1]
    rfl
  | .non :: _, _, h => by cases h
  | .bl _ :: _, _, h => by cases h
  | .str _ :: _, _, h => by cases h
  | .ty _ :: _, _, h => by cases h
  | .tup _ :: _, _, h => by cases h
  | .lst _ :: _, _, h => by cases h
  | .scr _ :: _, _, h => by cases h
  | .ins _ _ :: _, _, h => by cases h
theorem asInts_map : ∀ ns : List Int, asInts (ns.map D.int) = some ns
  | [] => rfl
  | n :: ns => by
    show (asInts (ns.map D.int)).bind _ = _
    rw [asInts_map ns]
    rfl
def fSum : List D → Option D
  | [.lst ds] => (asInts ds).bind fun ns => some (.int ns.sum)
  | _ => none
theorem relc_sum {K : PySem.W.Frag} {mg : Str → Option Value} : RelC K mg (rSum K) fSum := by
  intro xs ds z F H Q s r e q
  match ds, r, e with
  | [.lst ds], .cons (.lst h r) .nil, e =>
    obtain ⟨ns, e1, e⟩ := bind_some e
    cases e
    have e2 := asInts_eq e1
    subst e2
    have e3 := r.ints
    subst e3
    exact ⟨_, ns, rfl, SqL.of (s _ _ h), q _ F H (Le.refl s) (.int _)⟩
end DL

/-! part DL14 -/
set_option Elab.async false
set_option linter.all false
set_option maxRecDepth 100000
set_option maxHeartbeats 3200000
namespace DLS
open PySem PySem.Spec PyProof.Rows L2
/-- a set that was just made -/
abbrev emp (w : World) : Obj := ⟨.type "set", none, .set #[] 0 (.fresh 0 0 (!w.params.followText "set-order")), #[]⟩
abbrev lit (l : Addr) : Obj := { cls := .type "list_iterator", data := .fields #[.ref l, .int 0 0] }
section
variable {P : Program} {w : World} {A : Around} {E : Value → Shared → Prop} {s : Shared} {l : Addr} {xs : Array Value} {Q : Value → Shared → Prop}
/-- set(l), l a list of ints -/
theorem set_lst (ns : List Int) (hn : A.handled = none) (hl : s.heap.IsList l xs) (hi : IntsAre xs.toList ns) (hb : ns.length + 1 < scanBound)
    (q : ∀ (g : Heap) (tk c : Nat), SetR w g s.heap.objs.size (fun j => decide (j ∈ ns)) c → c ≤ ns.length → (∀ b o, s.heap.get? b = some o → g.get? b = some o) → Q (.ref s.heap.objs.size) { s with heap := g, toks := tk }) :
    wpAny (model P w) A (call (.type "set") [.ref l]) Q E s := by
  have hz : xs.size = ns.length := by
    rw [← hi.length, Array.length_toList]
  have ⟨_, _, z1⟩ := F.called_set.mro
  have z2 := F.called_set.made
  have z3 := F.called_set.sub
  apply wpAny_call
  apply codeAny_of_tree
  show wpAny _ _ (callAny (.type "set") _) _ _ _
  apply wpAny_pure
  refine And.intro (Code.quiet_builtin _ (by decide +kernel)) (codeAny_builtin F.entry_type_call ?_)
  rw [Around.under_plain (weight_type_call_type "set" [.ref l] []) rfl]
  have z4 := F.called_set.notType
  have z5 := F.called_set.canCreate
  have z6 := F.typeCall_set_1 (.ref l)
  repeat (any_goals (first | assumption | wp_step))
  refine codeAny_mono (code_set_led1 (Q₁ := fun u t => u = .ref s.heap.objs.size ∧ t = { s with heap := s.heap.push (emp w) }) (E := E) (.ref l) ⟨rfl, rfl⟩) fun r t hr => ?_
  rcases r with e | fl
  · exact hr
  cases fl <;> first | exact hr.elim | skip
  rename_i u
  obtain ⟨rfl, rfl⟩ := hr
  have g0 : (s.heap.push (emp w)).get? s.heap.objs.size = some (emp w) := Heap.get?_push_size _ rfl
  have ty : Shared.TypeIs { s with heap := s.heap.push (emp w) } (.ref s.heap.objs.size) "set" := ⟨_, g0, rfl⟩
  have z7 := F.called_set.init.lookup
  have z8 := F.called_set.init.bind (.ref s.heap.objs.size)
  repeat (any_goals (first | assumption | wp_step))
  refine codeAny_mono (codeAny_call_builtin (R := wants (fun r t => r = .none ∧ ∃ g tk c, t = { s with heap := g, toks := tk } ∧ SetR w g s.heap.objs.size (fun j => decide (j ∈ ns)) c ∧ c ≤ ns.length ∧ (∀ b o, s.heap.get? b = some o → g.get? b = some o)) E)
    F.called_set.init.plain F.entry_set_init (check_set_init_1 ty ?_)) fun r t hr => ?_
  · obtain ⟨⟨oc, od, dt, os⟩, ho, h1, k, h2⟩ := id hl
    simp only at h1 h2
    subst h1 h2
    have ho2 : (s.heap.push (emp w)).get? l = some ⟨.type "list", od, .seq xs k, os⟩ := Heap.get?_push_of_some _ ho
    have y1 := F.sub_list_set
    have y2 := F.sub_list_frozenset
    have y3 : (Value.type "list" == Value.type "dict") = false := by decide
    have hl2 : (s.heap.push (emp w)).IsList l xs := ⟨_, ho2, rfl, k, rfl⟩
    unfold Builtin.«set.__init__» noKeywords Builtin.Frozenset.updateFrom
    generalize hp : pyIter = pi
    wp_walk
    subst hp
    apply wpAny_pyIter_list hl2
    apply wpAny_bind
    apply wpAny_runValue
    have hlt : l < s.heap.objs.size := Heap.lt_size ho
    have sz : (s.heap.push (emp w)).objs.size = s.heap.objs.size + 1 := Heap.size_push ..
    have ne1 : l ≠ (s.heap.push (emp w)).objs.size := by
      rw [sz]
      exact Nat.ne_of_lt (Nat.lt_succ_of_lt hlt)
    refine set_update_ints ((Walks.list (by simp [hn]) _ l ne1 xs).toS) s.heap.objs.size (by simp only [List.mem_cons, List.not_mem_nil, or_false, not_or]; exact ⟨fun e => Nat.ne_of_lt (Nat.lt_succ_self _) (e.trans sz), fun e => Nat.ne_of_gt hlt e⟩) ns hz hb (fun i v hv => ?_) (xs.size - 0) 0 _ (by omega) (Nat.zero_le _) ⟨⟨_, Heap.get?_push_size _ rfl, rfl, rfl⟩, hl2.push _⟩
      ⟨0, Nat.le_refl 0, setR_new_at (Heap.get?_push_of_some _ g0)⟩ fun t c hm hc hS => ?_
    · have hi2 : i < ns.length := by rw [← hz]; exact (Array.getElem?_eq_some_iff.mp hv).1
      obtain ⟨tk, e⟩ := PyProof.Rows.IntsAre.int_at hi i v (by rw [Array.getElem?_toList]; exact hv)
      refine ⟨ns[i], tk, List.getElem?_eq_getElem hi2, ?_⟩
      rw [e, List.getD_eq_getElem?_getD, List.getElem?_eq_getElem hi2]
      rfl
    · obtain ⟨g, ge, dr, tk, os'⟩ := t
      cases (hm.gens : ge = s.gens)
      cases (hm.drawn : dr = s.drawn)
      cases (hm.os : os' = s.os)
      rw [hz] at hc
      show wpAny _ _ _ _ _ _
      apply wpAny_pure
      show wpAny _ _ (ret Value.none) _ _ _
      refine wpAny_pure ⟨rfl, g, tk, c, rfl, hS, hc, fun b o e => ?_⟩
      have hb0 : b < s.heap.objs.size := Heap.lt_size e
      exact hm.heap b o (by simp only [List.mem_cons, List.not_mem_nil, or_false, not_or]; exact ⟨Nat.ne_of_lt hb0, fun e2 => Nat.ne_of_lt (Nat.lt_succ_of_lt hb0) (e2.trans sz)⟩) (Heap.get?_push_of_some _ (Heap.get?_push_of_some _ e))
  · rcases r with e | fl
    · exact hr
    cases fl <;> first | exact hr.elim | skip
    obtain ⟨rfl, g, tk, c, rfl, hS, hc, hk⟩ := hr
    repeat (any_goals (first | assumption | wp_step))
    exact q _ _ _ hS hc hk
end
end DLS

/-! part DL15 -/
set_option Elab.async false
set_option linter.all false
set_option maxRecDepth 100000
set_option maxHeartbeats 1000000
namespace DL
open PySem PySem.Spec PyProof.Rows L2
open Evl (Ex)
/-! ### sorted(set(x)), x a list or a tuple of ints -/
def insS (x : Int) : List Int → List Int
  | [] => [x]
  | y :: ys => if x < y then x :: y :: ys else if x = y then y :: ys else y :: insS x ys
def sset (ns : List Int) : List Int := ns.foldr insS []
theorem insS_mem {x k : Int} : ∀ {l : List Int}, k ∈ insS x l ↔ k = x ∨ k ∈ l
  | [] => by simp [insS]
  | y :: ys => by
    unfold insS
    split
    · simp
    · split
      · rename_i h
        subst h
        simp
      · rw [List.mem_cons, insS_mem, List.mem_cons]
        constructor
        · rintro (h | h | h) <;> simp [h]
        · rintro (h | h | h) <;> simp [h]
theorem insS_pw {x : Int} : ∀ {l : List Int}, l.Pairwise (· < ·) → (insS x l).Pairwise (· < ·)
  | [], _ => by simp [insS]
  | y :: ys, h => by
    have h1 := List.pairwise_cons.mp h
    unfold insS
    split
    · rename_i hx
      exact List.pairwise_cons.mpr ⟨fun z hz => by
        rcases List.mem_cons.mp hz with e | e
        · rw [e]; exact hx
        · exact Int.lt_trans hx (h1.1 z e), h⟩
    · split
      · exact h
      · refine List.pairwise_cons.mpr ⟨fun z hz => ?_, insS_pw h1.2⟩
        rcases insS_mem.mp hz with e | e
        · omega
        · exact h1.1 z e
theorem sset_pw : ∀ ns : List Int, (sset ns).Pairwise (· < ·)
  | [] => .nil
  | n :: ns => insS_pw (sset_pw ns)
theorem sset_mem {k : Int} : ∀ {ns : List Int}, k ∈ sset ns ↔ k ∈ ns
  | [] => by simp [sset]
  | n :: ns => by
    show k ∈ insS n (sset ns) ↔ _
    rw [insS_mem, sset_mem, List.mem_cons]
/-- strictly ascending lists of the same members are the same -/
theorem asc_eq : ∀ {l m : List Int}, l.Pairwise (· < ·) → m.Pairwise (· < ·) → (∀ k, k ∈ l ↔ k ∈ m) → l = m
  | [], [], _, _, _ => rfl
  | [], y :: m, _, _, h => by
    have := (h y).mpr List.mem_cons_self
    cases this
  | x :: l, [], _, _, h => by
    have := (h x).mp List.mem_cons_self
    cases this
  | x :: l, y :: m, hl, hm, h => by
    have h1 := List.pairwise_cons.mp hl
    have h2 := List.pairwise_cons.mp hm
    have e : x = y := by
      have a := (h x).mp List.mem_cons_self
      have b := (h y).mpr List.mem_cons_self
      rcases List.mem_cons.mp a with a | a
      · exact a
      · rcases List.mem_cons.mp b with b | b
        · exact b.symm
        · have := h2.1 x a
          have := h1.1 y b
          omega
    subst e
    rw [asc_eq h1.2 h2.2 fun k => ?_]
    constructor
    · intro hk
      have lt := h1.1 k hk
      rcases List.mem_cons.mp ((h k).mp (List.mem_cons_of_mem _ hk)) with e | e
      · omega
      · exact e
    · intro hk
      have lt := h2.1 k hk
      rcases List.mem_cons.mp ((h k).mpr (List.mem_cons_of_mem _ hk)) with e | e
      · omega
      · exact e
theorem Le.raw {F H : Hp} {p : Addr} {o : HO} (s : Ex F H) (h : H p = none) : Le F H F (upd H p o) := ⟨Ex.refl F, Ex.new h, s.trans (Ex.new h), fun _ _ _ z => z⟩
def rSetI (K : PySem.W.Frag) (w : World) : List V → Hp → VK → Prop := fun xs H Q => ∃ (p : Addr) (ns : List Int), xs = [.ref p] ∧ (SqL K H p (ns.map V.int) ∨ SqT K H p (ns.map V.int)) ∧ ns.length ≤ 1000 ∧
  ∀ (a : Addr) (n : Nat), H a = none → n ≤ ns.length → Q (.ref a) (upd H a (SetO w a (fun j => decide (j ∈ ns)) n))
section
variable {X : Cx}
theorem cr_setI (hc : X.calm = true) : CallR X (.type "set") (rSetI X.K X.w) := by
  intro pins s σ H vs us Q I r h
  obtain ⟨p, ns, rfl, hs, hl, q⟩ := h
  rw [Vals.ref1 r]
  have fin : ∀ (g : Heap) (tk c : Nat), SetR X.w g s.heap.objs.size (fun j => decide (j ∈ ns)) c → c ≤ ns.length → (∀ b o, s.heap.get? b = some o → g.get? b = some o) → EP X pins σ Q (.ref s.heap.objs.size) { s with heap := g, toks := tk } := fun g tk c R hc hk =>
    ⟨.ref _, upd H s.heap.objs.size (SetO X.w s.heap.objs.size (fun j => decide (j ∈ ns)) c), I.laid (t' := tk) hk (Nat.le_refl _) (setO_new R), rfl, q _ _ (I.hok.fresh (Nat.le_refl _)) hc⟩
  rcases hs with hs | hs
  · obtain ⟨its, rv, pl, hz⟩ := I.list hs
    exact DLS.set_lst ns (I.ok.hd hc) pl.isList (by simpa using rv.ints) (by unfold scanBound; omega) fin
  · obtain ⟨its, rv, pt, hz⟩ := I.tuple hs
    exact call_set_tupI ns (I.ok.hd hc) pt (by simpa using rv.ints) (by unfold scanBound; omega) fin
def glSortSet (g : Rho → Option D) : Rho → Option (List D) := fun ρ => (g ρ).bind fun d => (items d).bind fun ds => (asInts ds).bind fun ns => if ns.length < 64 then some ((sset ns).map D.int) else none
theorem pul_sortSet {a : Expr} {g : Rho → Option D} {p p2 q pos : Pos} (hc : X.calm = true) (hg : Gl X "sorted") (hm : X.mg "sorted" = none) (hg2 : Gl X "set") (hm2 : X.mg "set" = none) (h : PuE X a g)
    (n1 : starEach [a] X.env = (false, eval a X.env) :: starEach [] X.env := by rfl) (n2 : starEach [.Call (.Name "set" p2) [a] [] q] X.env = (false, eval (.Call (.Name "set" p2) [a] [] q) X.env) :: starEach [] X.env := by rfl)
    (l1 : (backTo q (starEach [] X.env)).any (·.1) = false := by rfl) (l2 : (backTo pos (starEach [] X.env)).any (·.1) = false := by rfl) :
    PuL X (.Call (.Name "sorted" p) [.Call (.Name "set" p2) [a] [] q] [] pos) (glSortSet g) :=
  pe_imp (pe_callB (cr_sortedSet hc) hg hm (by decide +kernel) (pa_cons (pe_callTy (cr_setI hc) hg2 hm2 (by decide +kernel) (pa_cons h pa_nil n1) (by decide) (by decide) n1 l1) pa_nil n2) (by decide) (by decide) n2 l2) fun σ H Q ⟨F0, H0, ρ, F, z, s, e, k⟩ => by
    obtain ⟨d, e1, e⟩ := bind_some e
    obtain ⟨ds, e2, e⟩ := bind_some e
    obtain ⟨ns, e3, e⟩ := bind_some e
    split at e
    · rename_i hl
      cases e
      have e4 := asInts_eq e3
      subst e4
      refine ⟨F0, H0, ρ, F, d, s, e1, fun v F1 H1 l r => ?_⟩
      obtain ⟨a, xs, rfl, hs, rs⟩ := items_of l.s r e2
      have e5 := rs.ints
      subst e5
      refine ⟨a, ns, rfl, hs, by omega, fun b n hb hn => ⟨b, _, n, rfl, upd_same, by omega, fun ms c pw hms hlen hcn => ?_⟩⟩
      have e6 : ms = sset ns := asc_eq pw (sset_pw ns) fun k => by
        rw [hms k, sset_mem]
        simp
      subst e6
      exact k c _ F1 _ (l.trans (Le.raw l.s hb)) hcn (rps_ints _)
    · cases e
end
end DL

/-! part DL16 -/
set_option Elab.async false
set_option linter.all false
set_option maxRecDepth 100000
set_option maxHeartbeats 1000000
namespace DL
open PySem PySem.Spec PyProof.Rows L2
open Evl (Ex)
/-! ### a, b = a list or a tuple -/
def gtSeq (u : List D → Rho → Option Rho) : D → Rho → Option Rho := fun d ρ => (items d).bind fun ds => u ds ρ
theorem pg_or {X : Cx} {tg : Expr} {t t' : TG} (h : PG X tg t) (h' : PG X tg t') : PG X tg (fun v σ H Q => t v σ H Q ∨ t' v σ H Q) := ⟨fun pins s σ H v u Q I r q => by
  rcases q with q | q
  · exact h.run pins s σ H v u Q I r q
  · exact h'.run pins s σ H v u Q I r q⟩
theorem pug_seq {X : Cx} {es : List Expr} {pos : Pos} {u : List D → Rho → Option Rho} {k n : Nat} {js : List Nat} (hc : X.calm = true) (h : PuGs X es js u) (hn : (assignEach es X.env).length = n := by rfl) (hst : (assignEach es X.env).findIdx? (·.1) = none := by rfl) (hu : ∀ ds ρ ρ', u ds ρ = some ρ' → ds.length = n) : PuG X (.Tuple es k pos) js (gtSeq u) :=
  pg_imp (pg_or (pg_lst hc h hn hst) (pg_tup hc h hn hst)) fun v σ H Q ⟨F0, H0, ρ, F, d, ρ', s, r, e, q⟩ => by
    obtain ⟨ds, e1, e⟩ := bind_some e
    obtain ⟨a, xs, rfl, hs, rs⟩ := items_of s.sub r e1
    have hl : xs.length = n := by rw [← rs.length]; exact hu _ _ _ e
    rcases hs with hs | hs
    · exact .inl ⟨a, xs, rfl, hs, hl, F0, H0, ρ, F, ds, ρ', s, rs, e, q⟩
    · exact .inr ⟨a, xs, rfl, hs, hl, F0, H0, ρ, F, ds, ρ', s, rs, e, q⟩
end DL

/-! part DL17 -/
set_option Elab.async false
set_option linter.all false
set_option maxRecDepth 100000
set_option maxHeartbeats 1000000
namespace DL
open PySem PySem.Spec PyProof.Rows L2
open Evl (Ex)
/-! ### a def that ends by «return [..]», a new list; its call lends own lists and takes them back -/
def tPL2 (K : PySem.W.Frag) (mg : Str → Option Value) (g : SG) (gl : Rho → Option (List D)) : TS := fun E σ H => ∃ F0 H0 ρ F ρ' ds, SR K mg F0 H0 ρ σ F H ∧ g ρ = some (.nx ρ') ∧ gl ρ' = some ds ∧
  ∀ p vs F' H', Le F0 H0 F' H' → H' p = none → Rps K mg F' ds vs → E.rt (.ref p) (upd H' p (.lst vs))
abbrev PuL2 (X : Cx) (sts : List Stmt) (g : SG) (gl : Rho → Option (List D)) : Prop := PSs X sts (tPL2 X.K X.mg g gl)
section
variable {X : Cx} {st : Stmt} {rest : List Stmt} {e : Expr} {pos : Pos} {s g : SG} {gl : Rho → Option (List D)}
theorem pul2_ret (h : PuL X e gl) : PuL2 X [.Return (some e) pos] gNext gl := pss_imp (pss_one (ps_ret h)) fun E σ H ⟨F0, H0, ρ, F, ρ', ds, sr, e1, e2, q⟩ => by
  cases e1
  exact ⟨F0, H0, ρ, F, ds, sr, e2, fun p vs F' H' l hp r => q p vs F' H' (sr.le.trans l) hp r⟩
theorem pul2_cons (h1 : PuS X st s) (h2 : PuL2 X rest g gl) : PuL2 X (st :: rest) (gSeq s g) gl := pss_imp (pss_cons h1 h2) fun E σ H ⟨F0, H0, ρ, F, ρ', ds, sr, e1, e2, q⟩ => by
  obtain ⟨r1, a1, a2⟩ := bind_some e1
  refine ⟨F0, H0, ρ, F, r1, sr, a1, ?_⟩
  cases r1 with
  | nx ρ1 => exact fun σ' F' H' s' => ⟨F0, H0, ρ1, F', ρ', ds, s', a2, e2, q⟩
  | rt d => cases a2
  | bk d => cases a2
  | ct d => cases a2
theorem pul2_freeze (i : Nat) (h : PuL2 X rest g gl) : PuL2 X rest (gFreeze i g) gl := pss_imp h fun E σ H ⟨F0, H0, ρ, F, ρ', ds, sr, e1, e2, q⟩ => by
  unfold gFreeze at e1
  split at e1
  · rename_i c hc
    obtain ⟨F', s'⟩ := sr.freeze hc
    exact ⟨F0, H0, _, F', ρ', ds, s', e1, e2, q⟩
  · exact ⟨F0, H0, ρ, F, ρ', ds, sr, e1, e2, q⟩
end
def spN (K : PySem.W.Frag) (mg : Str → Option Value) (n : Nat) (g : List D → Option (List D)) : Sp := fun vs H Q _ => ∃ F ds out, vs.length = n ∧ Ex F H ∧ Rps K mg F ds vs ∧ g ds = some out ∧
  ∀ p ws F' H', Le F H F' H' → H' p = none → Rps K mg F' out ws → Q (.ref p) (upd H' p (.lst ws))
def gDefL (n N : Nat) (b : SG) (gl : Rho → Option (List D)) : List D → Option (List D) := fun ds => if ds.length = n then (b (ds.map B.sh ++ List.replicate (N - n) .un)).bind fun r => match r with
  | .nx ρ => gl ρ
  | _ => none else none
theorem gDefL_len {n N : Nat} {b : SG} {gl : Rho → Option (List D)} {ds out : List D} (h : gDefL n N b gl ds = some out) : ds.length = n := by
  unfold gDefL at h
  split at h
  · assumption
  · cases h
section
variable {P : Program} {w : World} {K : PySem.W.Frag} {mg : Str → Option Value} {base : Heap}
theorem ok_defL {x qual : Str} {st : Stmt} {f : Addr} {fd : FuncData} {N ps : List Str} {k : Nat} {b : SG} {gl : Rho → Option (List D)} (F : Fun K x qual st f fd) (S : FnScope N ps (defScope st))
    (hbody : ∀ (cdv : Value) (A : Around) (outer : List Env) (s : Shared) (H : Hp) (E : XK), Room k (A.deeper (envOfC qual (defScope st) s.heap.objs.size f cdv)) →
      PuL2 (cxOf CX0 P w K mg base N qual (defScope st) f cdv A outer s H E).nox (defBody st) b gl) : FnOk P w K mg base CX0 (k + 1) f fd ps (spN K mg ps.length (gDefL ps.length N.length b gl)) := by
  refine F.ok S (fun vs H Q E h => ?_) (fun cdv A outer s H vs Q E hr h => ⟨_, hbody cdv A outer s H E hr, ?_⟩)
  · obtain ⟨_, _, _, h, _⟩ := h
    exact h
  · obtain ⟨F', ds, out, hl, sub, r, e, q⟩ := h
    unfold gDefL at e
    split at e
    · rename_i hn
      obtain ⟨res, e1, e⟩ := bind_some e
      cases res <;> first | cases e | skip
      exact ⟨F', H, _, F', _, out, sr_start sub r, by rw [hn]; exact e1, e, fun p ws F2 H2 l hp rw' => q p ws F2 H2 l hp rw'⟩
    · cases e
end
/-- own lists lent: frozen for the time of the call -/
def lend1 (ρ : Rho) (j : Nat) : Rho := match ρ[j]? with
  | some (B.ow c) => ρ.set j (.sh c.data)
  | _ => ρ
def lend : List Nat → Rho → Rho
  | [], ρ => ρ
  | j :: js, ρ => lend js (lend1 ρ j)
theorem SR.lend {K : PySem.W.Frag} {mg : Str → Option Value} {F0 H0 : Hp} {σ : L2.St} {H : Hp} : ∀ (js : List Nat) {ρ : Rho} {F : Hp}, SR K mg F0 H0 ρ σ F H → ∃ F', SR K mg F0 H0 (lend js ρ) σ F' H
  | [], ρ, F, s => ⟨F, s⟩
  | j :: js, ρ, F, s => by
    have one : ∃ F1, SR K mg F0 H0 (lend1 ρ j) σ F1 H := by
      unfold lend1
      split
      · rename_i c h
        exact s.freeze h
      · exact ⟨F, s⟩
    obtain ⟨F1, s1⟩ := one
    exact SR.lend js s1
/-- flat data stand for themselves in every heap -/
theorem flats_any {K : PySem.W.Frag} {mg : Str → Option Value} {F G : Hp} : ∀ {ds : List D} {vs ws : List V}, flats ds = some ws → Rps K mg F ds vs → Rps K mg G ds vs
  | [], _, _, _, .nil => .nil
  | d :: ds, _, _, e, .cons r rs => by
    obtain ⟨v, e1, e⟩ := bind_some (show (flat d).bind (fun y => (flats ds).map fun ys => y :: ys) = some _ from e)
    obtain ⟨vs', e2, _⟩ := Option.map_eq_some_iff.mp e
    refine .cons ?_ (flats_any e2 rs)
    cases d <;> first | cases e1 | skip
    · cases r; exact .non
    · cases r; exact .bl _
    · cases r; exact .int _
    · cases r; exact .str _
/-- i = f(..), f returns a new list of flat things; the own lists js are lent -/
def gSetLend (i : Nat) (js : List Nat) (gf : List D → Option (List D)) (gs : Rho → Option (List D)) : SG := fun ρ => (gs (lend js ρ)).bind fun ds => (gf ds).bind fun out => if (flats out).isSome = true then some (.nx (ρ.set i (.sh (.lst out)))) else none
section
variable {X : Cx} {k n i : Nat} {f : Addr} {fd : FuncData} {ps : List Str} {x y : Str} {p py pos spos : Pos} {e : Expr} {es : List Expr} {gs : Rho → Option (List D)} {gf : List D → Option (List D)} {js : List Nat}
theorem pus_setLend (hN : X.N.Nodup) (hi : X.N[i]? = some y) (hy : Loc X.env.scope y) (F : FnOk X.prog X.w X.K X.mg X.base CX0 k f fd ps (spN X.K X.mg n gf)) (hr : Room k X.A) (hg : Gl X x) (hm : X.mg x = some (.ref f)) (hk : PySem.W.keepIn X.K (.ref f) = true) (hb : Binds X.K fd ps [])
    (hn : ∀ ds d, gf ds = some d → ds.length = n) (ha : PuA X (e :: es) gs) (hs : swapsWith (.Call (.Name x p) (e :: es) [] pos) (some (.Name y py)) spos.line X.env = pure false := by rfl)
    (hf : X.fn y = true ∨ X.env.scope.names.lookup y = some .local := by first | exact .inl rfl | exact .inr rfl | assumption)
    (hdb : (x == ("__debug__" : Str)) = false := by decide) (he : starEach (e :: es) X.env = (false, eval e X.env) :: starEach es X.env := by rfl) (hpl : (backTo pos (starEach es X.env)).any (·.1) = false := by rfl) :
    PuS X (.Assign [.Name y py] (.Call (.Name x p) (e :: es) [] pos) spos) (gSetLend i js gf gs) := ps_imp (ps_set hN hi hy (pe_call F hr hg hm hk hb .nil pass0 ha hdb he hpl) hs hf) fun E σ H ⟨F0, H0, ρ, F, r, s, e, q⟩ => by
  obtain ⟨ds, e1, e⟩ := bind_some e
  obtain ⟨out, e2, e⟩ := bind_some e
  split at e
  · rename_i hfl
    cases e
    obtain ⟨ws, hws⟩ := Option.isSome_iff_exists.mp hfl
    obtain ⟨F1, s1⟩ := SR.lend js s
    refine ⟨F0, H0, _, F1, ds, s1, e1, fun vs F2 H2 l r => ⟨F2, ds, out, ?_, l.s, ?_, e2, fun a us F3 H3 l3 ha ru => ?_⟩⟩
    · rw [List.append_nil, ← r.length]
      exact hn _ _ e2
    · rw [List.append_nil]
      exact r
    · have l13 : Ex H H3 := l.h.trans l3.h
      have hHa : H a = none := free_of l13 ha
      have hFa : F a = none := free_of s.sub hHa
      have fe : Ex F H3 := s.sub.trans l13
      have le : Le F H (upd F a (.lst us)) (upd H3 a (.lst us)) := by
        refine ⟨Ex.new hFa, l13.trans (Ex.new ha), fun b o hb => ?_, fun b o hb hf => ?_⟩
        · by_cases h : b = a
          · subst h
            rw [upd_same] at hb ⊢
            exact hb
          · rw [upd_ne h] at hb ⊢
            exact fe b o hb
        · rw [upd_ne (ne_of_none hb hHa)]
          exact hf
      exact q _ _ _ ((s.mono le).set (.lst upd_same (flats_any hws ru)))
  · cases e
end
end DL

/-! part T6 -/
set_option Elab.async false
set_option linter.all false
set_option maxRecDepth 100000
set_option maxHeartbeats 4000000
namespace Lw
noncomputable section
open PySem PySem.Spec PyProof.Rows L2 DL
def topS (i : Nat) : Stmt := PySem.Challenge.pw_millsluices_k06_lot_numbers_and_obstacle.main.body.getD i (.Pass ⟨0, 0, 0, 0⟩)
def c_BOTH : D := .tup [.int 0, .int 1]
abbrev s_law_cell : Stmt := topS 38
abbrev N_law_cell : List Str := ["script", "k", "seed", "cell"]
theorem sc_law_cell : FnScope N_law_cell ["script", "k"] (defScope s_law_cell) := ⟨rfl, rfl, rfl, by decide +kernel, rfl, by decide +kernel, by decide +kernel⟩
abbrev s_law_digits : Stmt := topS 39
abbrev N_law_digits : List Str := ["cell", "sizes", "row", "rest", "size", "seed", "k", "twice"]
theorem sc_law_digits : FnScope N_law_digits ["cell", "sizes"] (defScope s_law_digits) := ⟨rfl, rfl, rfl, by decide +kernel, rfl, by decide +kernel, by decide +kernel⟩
abbrev s_is_whole : Stmt := topS 2
abbrev N_is_whole : List Str := ["value"]
theorem sc_is_whole : FnScope N_is_whole ["value"] (defScope s_is_whole) := ⟨rfl, rfl, rfl, by decide +kernel, rfl, by decide +kernel, by decide +kernel⟩
abbrev s_is_count : Stmt := topS 3
abbrev N_is_count : List Str := ["value"]
theorem sc_is_count : FnScope N_is_count ["value"] (defScope s_is_count) := ⟨rfl, rfl, rfl, by decide +kernel, rfl, by decide +kernel, by decide +kernel⟩
abbrev s_first_fault : Stmt := topS 25
abbrev N_first_fault : List Str := ["size", "good", "index"]
theorem sc_first_fault : FnScope N_first_fault ["size", "good"] (defScope s_first_fault) := ⟨rfl, rfl, rfl, by decide +kernel, rfl, by decide +kernel, by decide +kernel⟩
abbrev s_checked_needs : Stmt := topS 26
abbrev N_checked_needs : List Str := ["valley", "needs", "fault", "need"]
theorem sc_checked_needs : FnScope N_checked_needs ["valley", "needs"] (defScope s_checked_needs) := ⟨rfl, rfl, rfl, by decide +kernel, rfl, by decide +kernel, by decide +kernel⟩
abbrev s_checked_limits : Stmt := topS 27
abbrev N_checked_limits : List Str := ["valley", "limits", "fault", "limit"]
theorem sc_checked_limits : FnScope N_checked_limits ["valley", "limits"] (defScope s_checked_limits) := ⟨rfl, rfl, rfl, by decide +kernel, rfl, by decide +kernel, by decide +kernel⟩
abbrev s_are_sides : Stmt := topS 28
abbrev N_are_sides : List Str := ["sides", "side"]
theorem sc_are_sides : FnScope N_are_sides ["sides"] (defScope s_are_sides) := ⟨rfl, rfl, rfl, by decide +kernel, rfl, by decide +kernel, by decide +kernel⟩
abbrev s_Valley_len : Stmt := inClass (topS 35) 1
abbrev N_Valley_len : List Str := ["self"]
theorem sc_Valley_len : FnScope N_Valley_len ["self"] (defScope s_Valley_len) := ⟨rfl, rfl, rfl, by decide +kernel, rfl, by decide +kernel, by decide +kernel⟩
abbrev s_checked_sides : Stmt := topS 29
abbrev N_checked_sides : List Str := ["valley", "sides", "rows", "fault", "let"]
theorem sc_checked_sides : FnScope N_checked_sides ["valley", "sides"] (defScope s_checked_sides) := ⟨rfl, rfl, rfl, by decide +kernel, rfl, by decide +kernel, by decide +kernel⟩
abbrev s_Season_init : Stmt := inClass (topS 32) 0
abbrev N_Season_init : List Str := ["self", "valley", "needs", "limits", "sides"]
theorem sc_Season_init : FnScope N_Season_init ["self", "valley", "needs", "limits", "sides"] (defScope s_Season_init) := ⟨rfl, rfl, rfl, by decide +kernel, rfl, by decide +kernel, by decide +kernel⟩
abbrev s_joins_mills : Stmt := topS 34
abbrev N_joins_mills : List Str := ["mills", "pair", "good", "mill"]
theorem sc_joins_mills : FnScope N_joins_mills ["mills", "pair"] (defScope s_joins_mills) := ⟨rfl, rfl, rfl, by decide +kernel, rfl, by decide +kernel, by decide +kernel⟩
abbrev s_Valley_init : Stmt := inClass (topS 35) 0
abbrev N_Valley_init : List Str := ["self", "mills", "sluices", "pairs", "index", "pair", "item"]
theorem sc_Valley_init : FnScope N_Valley_init ["self", "mills", "sluices"] (defScope s_Valley_init) := ⟨rfl, rfl, rfl, by decide +kernel, rfl, by decide +kernel, by decide +kernel⟩
abbrev s_law_season : Stmt := topS 44
abbrev N_law_season : List Str := ["world"]
theorem sc_law_season : FnScope N_law_season ["world"] (defScope s_law_season) := ⟨rfl, rfl, rfl, by decide +kernel, rfl, by decide +kernel, by decide +kernel⟩
abbrev s_law_sharing : Stmt := topS 45
abbrev N_law_sharing : List Str := ["rule", "world", "sharing", "land"]
theorem sc_law_sharing : FnScope N_law_sharing ["rule", "world", "sharing"] (defScope s_law_sharing) := ⟨rfl, rfl, rfl, by decide +kernel, rfl, by decide +kernel, by decide +kernel⟩
abbrev s_law_valley : Stmt := topS 40
abbrev N_law_valley : List Str := ["row", "upto", "mills", "many", "pairs", "k", "first", "second"]
theorem sc_law_valley : FnScope N_law_valley ["row", "upto"] (defScope s_law_valley) := ⟨rfl, rfl, rfl, by decide +kernel, rfl, by decide +kernel, by decide +kernel⟩
abbrev s_law_fed : Stmt := topS 41
abbrev N_law_fed : List Str := ["mills", "pairs", "setting", "count", "k", "mill"]
theorem sc_law_fed : FnScope N_law_fed ["mills", "pairs", "setting"] (defScope s_law_fed) := ⟨rfl, rfl, rfl, by decide +kernel, rfl, by decide +kernel, by decide +kernel⟩
abbrev s_law_world : Stmt := topS 42
abbrev N_law_world : List Str := ["valley", "row", "mills", "pairs", "base", "k", "count", "low", "high", "mill", "slack", "top", "let"]
theorem sc_law_world : FnScope N_law_world ["valley", "row"] (defScope s_law_world) := ⟨rfl, rfl, rfl, by decide +kernel, rfl, by decide +kernel, by decide +kernel⟩
abbrev s_law_drawn : Stmt := topS 46
abbrev N_law_drawn : List Str := ["script", "at", "upto", "valley"]
theorem sc_law_drawn : FnScope N_law_drawn ["script", "at", "upto"] (defScope s_law_drawn) := ⟨rfl, rfl, rfl, by decide +kernel, rfl, by decide +kernel, by decide +kernel⟩
abbrev s_law_free : Stmt := topS 47
abbrev N_law_free : List Str := ["script", "valley", "row", "low", "high", "mill", "need", "top", "let", "k", "side"]
theorem sc_law_free : FnScope N_law_free ["script"] (defScope s_law_free) := ⟨rfl, rfl, rfl, by decide +kernel, rfl, by decide +kernel, by decide +kernel⟩
abbrev s_law_small_world : Stmt := topS 48
abbrev N_law_small_world : List Str := ["script", "choice"]
theorem sc_law_small_world : FnScope N_law_small_world ["script", "choice"] (defScope s_law_small_world) := ⟨rfl, rfl, rfl, by decide +kernel, rfl, by decide +kernel, by decide +kernel⟩
abbrev s_law_wide : Stmt := topS 49
abbrev N_law_wide : List Str := ["script", "at", "upto", "row", "mills", "pairs", "k", "first", "second", "base", "count", "low", "high", "mill", "slack", "top", "let"]
theorem sc_law_wide : FnScope N_law_wide ["script", "at", "upto"] (defScope s_law_wide) := ⟨rfl, rfl, rfl, by decide +kernel, rfl, by decide +kernel, by decide +kernel⟩
abbrev s_law_spoilt : Stmt := topS 50
abbrev N_law_spoilt : List Str := ["world", "row", "mills", "pairs", "low", "high", "let", "t", "kind", "mill", "size", "near", "k"]
theorem sc_law_spoilt : FnScope N_law_spoilt ["world", "row"] (defScope s_law_spoilt) := ⟨rfl, rfl, rfl, by decide +kernel, rfl, by decide +kernel, by decide +kernel⟩
abbrev s_law_numbers : Stmt := topS 51
abbrev N_law_numbers : List Str := ["world", "group", "can", "must", "k", "ends", "inside", "wanted", "borne", "mill", "side"]
theorem sc_law_numbers : FnScope N_law_numbers ["world", "group"] (defScope s_law_numbers) := ⟨rfl, rfl, rfl, by decide +kernel, rfl, by decide +kernel, by decide +kernel⟩
abbrev s_law_kept : Stmt := topS 52
abbrev N_law_kept : List Str := ["rule", "world"]
theorem sc_law_kept : FnScope N_law_kept ["rule", "world"] (defScope s_law_kept) := ⟨rfl, rfl, rfl, by decide +kernel, rfl, by decide +kernel, by decide +kernel⟩
abbrev s_law_shown : Stmt := topS 53
abbrev N_law_shown : List Str := ["group", "k", "j"]
theorem sc_law_shown : FnScope N_law_shown ["group", "k"] (defScope s_law_shown) := ⟨rfl, rfl, rfl, by decide +kernel, rfl, by decide +kernel, by decide +kernel⟩
abbrev s_law_subsets : Stmt := topS 43
abbrev N_law_subsets : List Str := ["numbers", "upto", "layer", "subsets", "size", "grown", "part", "number"]
theorem sc_law_subsets : FnScope N_law_subsets ["numbers", "upto"] (defScope s_law_subsets) := ⟨rfl, rfl, rfl, by decide +kernel, rfl, by decide +kernel, by decide +kernel⟩
abbrev s_law_lots : Stmt := topS 54
abbrev N_law_lots : List Str := ["mills", "row", "everyone", "lots", "mill", "k"]
theorem sc_law_lots : FnScope N_law_lots ["mills", "row"] (defScope s_law_lots) := ⟨rfl, rfl, rfl, by decide +kernel, rfl, by decide +kernel, by decide +kernel⟩
abbrev s_law_levelled : Stmt := topS 55
abbrev N_law_levelled : List Str := ["world", "one", "two", "above", "below", "low", "high", "counts", "mill"]
theorem sc_law_levelled : FnScope N_law_levelled ["world", "one", "two", "above", "below"] (defScope s_law_levelled) := ⟨rfl, rfl, rfl, by decide +kernel, rfl, by decide +kernel, by decide +kernel⟩
abbrev s_feeding_sides : Stmt := topS 6
abbrev N_feeding_sides : List Str := ["season", "sluice", "lot", "pair", "side"]
theorem sc_feeding_sides : FnScope N_feeding_sides ["season", "sluice", "lot"] (defScope s_feeding_sides) := ⟨rfl, rfl, rfl, by decide +kernel, rfl, by decide +kernel, by decide +kernel⟩
abbrev s_gain : Stmt := topS 7
abbrev N_gain : List Str := ["season", "lot", "sluice"]
theorem sc_gain : FnScope N_gain ["season", "lot"] (defScope s_gain) := ⟨rfl, rfl, rfl, by decide +kernel, rfl, by decide +kernel, by decide +kernel⟩
abbrev s_distinct : Stmt := topS 4
abbrev N_distinct : List Str := ["numbers"]
theorem sc_distinct : FnScope N_distinct ["numbers"] (defScope s_distinct) := ⟨rfl, rfl, rfl, by decide +kernel, rfl, by decide +kernel, by decide +kernel⟩
abbrev s_want : Stmt := topS 9
abbrev N_want : List Str := ["season", "lot", "mill"]
theorem sc_want : FnScope N_want ["season", "lot"] (defScope s_want) := ⟨rfl, rfl, rfl, by decide +kernel, rfl, by decide +kernel, by decide +kernel⟩
abbrev s_load : Stmt := topS 8
abbrev N_load : List Str := ["season", "lot", "sluice", "let"]
theorem sc_load : FnScope N_load ["season", "lot"] (defScope s_load) := ⟨rfl, rfl, rfl, by decide +kernel, rfl, by decide +kernel, by decide +kernel⟩
abbrev s_bear : Stmt := topS 10
abbrev N_bear : List Str := ["season", "lot", "limits", "mill"]
theorem sc_bear : FnScope N_bear ["season", "lot"] (defScope s_bear) := ⟨rfl, rfl, rfl, by decide +kernel, rfl, by decide +kernel, by decide +kernel⟩
abbrev s_bears_too_little : Stmt := topS 11
abbrev N_bears_too_little : List Str := ["season", "lot", "most"]
theorem sc_bears_too_little : FnScope N_bears_too_little ["season", "lot"] (defScope s_bears_too_little) := ⟨rfl, rfl, rfl, by decide +kernel, rfl, by decide +kernel, by decide +kernel⟩
abbrev s_bears_less_than_need : Stmt := topS 13
abbrev N_bears_less_than_need : List Str := ["season", "mill", "limit"]
theorem sc_bears_less_than_need : FnScope N_bears_less_than_need ["season", "mill"] (defScope s_bears_less_than_need) := ⟨rfl, rfl, rfl, by decide +kernel, rfl, by decide +kernel, by decide +kernel⟩
abbrev s_is_obstacle : Stmt := topS 12
abbrev N_is_obstacle : List Str := ["season", "value", "word", "what"]
theorem sc_is_obstacle : FnScope N_is_obstacle ["season", "value"] (defScope s_is_obstacle) := ⟨rfl, rfl, rfl, by decide +kernel, rfl, by decide +kernel, by decide +kernel⟩
abbrev s_law_single : Stmt := topS 56
abbrev N_law_single : List Str := ["rule", "word", "number", "due", "pair", "told", "again"]
theorem sc_law_single : FnScope N_law_single ["rule", "word", "number", "due"] (defScope s_law_single) := ⟨rfl, rfl, rfl, by decide +kernel, rfl, by decide +kernel, by decide +kernel⟩
abbrev s_law_singles : Stmt := topS 57
abbrev N_law_singles : List Str := ["rule", "world", "k", "mill", "due"]
theorem sc_law_singles : FnScope N_law_singles ["rule", "world"] (defScope s_law_singles) := ⟨rfl, rfl, rfl, by decide +kernel, rfl, by decide +kernel, by decide +kernel⟩
abbrev s_law_whole : Stmt := topS 37
abbrev N_law_whole : List Str := ["item"]
theorem sc_law_whole : FnScope N_law_whole ["item"] (defScope s_law_whole) := ⟨rfl, rfl, rfl, by decide +kernel, rfl, by decide +kernel, by decide +kernel⟩
abbrev s_law_right : Stmt := topS 58
abbrev N_law_right : List Str := ["rule", "due", "shown", "named", "copied", "told", "k"]
theorem sc_law_right : FnScope N_law_right ["rule", "due", "shown", "named"] (defScope s_law_right) := ⟨rfl, rfl, rfl, by decide +kernel, rfl, by decide +kernel, by decide +kernel⟩
abbrev s_law_both : Stmt := topS 59
abbrev N_law_both : List Str := ["rule", "due", "shown", "form", "copied", "word", "pair", "wants", "bears"]
theorem sc_law_both : FnScope N_law_both ["rule", "due", "shown", "form"] (defScope s_law_both) := ⟨rfl, rfl, rfl, by decide +kernel, rfl, by decide +kernel, by decide +kernel⟩
abbrev s_law : Stmt := topS 60
abbrev N_law : List Str := ["script", "choice", "plain", "world", "row", "one", "two", "way", "before", "rule", "lots", "turn", "k", "old", "due", "form", "mill"]
theorem sc_law : FnScope N_law ["script"] (defScope s_law) := ⟨rfl, rfl, rfl, by decide +kernel, rfl, by decide +kernel, by decide +kernel⟩
def g_law_cell : List D → Option D := gDef 2 4
  (gSeq (gIfS (gB (gOp dLt (gV 1) (gUn oLen (gV 0))))
  (gSeq (gRet (gOp oIx (gV 0) (gV 1)))
  gNext)
  gNext)
  (gSeq (gSet 2 (gC (.int 17)))
  (gSeq (gFor (gSeqOf (gV 0)) (gtName 3)
  (gSeq (gSet 2 (gOp dMod (gCall fInt (gCons (gOp dAdd (gOp dMulT (gV 2) (gC (.int 31))) (gOp dMod (gCall fInt (gCons (gV 3) gNil)) (gC (.int 1000003)))) gNil)) (gC (.int 1000003))))
  gNext))
  (gSeq (gRet (gOp dMod (gCall fInt (gCons (gOp dMulT (gOp dMulT (gOp dAdd (gV 2) (gC (.int 7))) (gOp dAdd (gV 1) (gC (.int 3)))) (gC (.int 69621))) gNil)) (gC (.int 2147483647))))
  gNext))))
def g_law_digits : List D → Option D := gDef 2 8
  (gSeq (gSetOw 2 (gLen1 gNil))
  (gSeq (gSet 3 (gCall fInt (gCons (gV 0) gNil)))
  (gSeq (gIfS (gB (gOp dGe (gV 3) (gOp dPow (gC (.int 10)) (gC (.int 18)))))
  (gSeq (gSet 3 (gOp dSub (gV 3) (gOp dPow (gC (.int 10)) (gC (.int 18)))))
  (gSeq (gFor (gSeqOf (gV 1)) (gtName 4)
  (gSeq (gApp 2 (gOp dMod (gCall fInt (gCons (gV 3) gNil)) (gV 4)))
  (gSeq (gSet 3 (gOp dFdiv (gCall fInt (gCons (gV 3) gNil)) (gV 4)))
  gNext)))
  (gSeq (gFreeze 2 (gRet (gV 2)))
  gNext)))
  gNext)
  (gSeq (gSet 5 (gOp dMod (gCall fInt (gCons (gV 3) gNil)) (gC (.int 2147483629))))
  (gSeq (gFor (gRange1 (gUn oLen (gV 1))) (gtName 6)
  (gSeq (gSet 5 (gOp dMod (gCall fInt (gCons (gOp dAdd (gOp dAdd (gOp dMulT (gV 5) (gC (.int 48271))) (gOp dMulT (gC (.int 974711)) (gV 6))) (gC (.int 12345))) gNil)) (gC (.int 2147483647))))
  (gSeq (gSet 7 (gOp dMod (gCall fInt (gCons (gOp dMulT (gV 5) (gOp dAdd (gOp dFdiv (gV 5) (gC (.int 65537))) (gC (.int 3)))) gNil)) (gC (.int 2147483629))))
  (gSeq (gApp 2 (gOp dMod (gCall fInt (gCons (gOp dFdiv (gV 7) (gC (.int 19))) gNil)) (gOp oIx (gV 1) (gV 6))))
  gNext))))
  (gSeq (gFreeze 2 (gRet (gV 2)))
  gNext))))))
def g_is_whole : List D → Option D := gDef 1 1
  (gSeq (gRet (gAnd (gCall fIsi (gCons (gV 0) (gCons (gC (.ty "int")) gNil))) (gNot (gCall fIsi (gCons (gV 0) (gCons (gC (.ty "bool")) gNil))))))
  gNext)
def g_is_count : List D → Option D := gDef 1 1
  (gSeq (gRet (gAnd (gCall g_is_whole (gCons (gV 0) gNil)) (gOp dGe (gV 0) (gC (.int 0)))))
  gNext)
def g_first_fault : List D → Option D := gDef 2 3
  (gSeq (gFor (gRange1 (gCall fMax2 (gCons (gV 0) (gCons (gUn oLen (gV 1)) gNil)))) (gtName 2)
  (gSeq (gIfS (gOrT (gB (gOp dGe (gV 2) (gV 0))) (gOrT (gB (gOp dGe (gV 2) (gUn oLen (gV 1)))) (gNotT (gB (gOp oIx (gV 1) (gV 2))))))
  (gSeq (gRet (gV 2))
  gNext)
  gNext)
  gNext))
  (gSeq (gRet (gC .non))
  gNext))
def g_checked_needs : List D → Option D := gDef 2 4
  (gSeq (gIfS (gB (gOp (oIs false) (gV 1) (gC .non)))
  (gSeq (gRet (gOp dMulT (gTup (gCons (gC (.int 0)) gNil)) (gFld "Valley" "mills" (gV 0))))
  gNext)
  gNext)
  (gSeq (gSet 2 (gCall g_first_fault (gCons (gFld "Valley" "mills" (gV 0)) (gCons (gOfL (gComp (gSeqOf (gV 1)) (gtName 3) gYes (gCall g_is_count (gCons (gV 3) gNil)) [3])) gNil))))
  (gSeq (gIfS (gB (gOp (oIs true) (gV 2) (gC .non)))
  (gSeq gStuck
  gNext)
  gNext)
  (gSeq (gRet (gUn oTupOf (gV 1)))
  gNext))))
def g_checked_limits : List D → Option D := gDef 2 4
  (gSeq (gIfS (gB (gOp (oIs false) (gV 1) (gC .non)))
  (gSeq (gRet (gOp dMulT (gTup (gCons (gC .non) gNil)) (gFld "Valley" "mills" (gV 0))))
  gNext)
  gNext)
  (gSeq (gSet 2 (gCall g_first_fault (gCons (gFld "Valley" "mills" (gV 0)) (gCons (gOfL (gComp (gSeqOf (gV 1)) (gtName 3) gYes (gOr (gOp (oIs false) (gV 3) (gC .non)) (gCall g_is_count (gCons (gV 3) gNil))) [3])) gNil))))
  (gSeq (gIfS (gB (gOp (oIs true) (gV 2) (gC .non)))
  (gSeq gStuck
  gNext)
  gNext)
  (gSeq (gRet (gUn oTupOf (gV 1)))
  gNext))))
def g_are_sides : List D → Option D := gDef 1 2
  (gSeq (gRet (gAnd (gCall fAll (gCons (gOfL (gComp (gSeqOf (gV 0)) (gtName 1) gYes (gCall g_is_whole (gCons (gV 1) gNil)) [1])) gNil)) (gOp (dIn false) (gV 0) (gTup (gCons (gC c_BOTH) (gCons (gTup (gCons (gC (.int 0)) gNil)) (gCons (gTup (gCons (gC (.int 1)) gNil)) (gCons (gTup gNil) gNil))))))))
  gNext)
def g_Valley_len : List D → Option D := gDef 1 1
  (gSeq (gRet (gUn oLen (gFld "Valley" "sluices" (gV 0))))
  gNext)
def g_checked_sides : List D → Option D := gDef 2 5
  (gSeq (gIfS (gB (gOp (oIs false) (gV 1) (gC .non)))
  (gSeq (gRet (gOp dMulT (gTup (gCons (gC c_BOTH) gNil)) (gUn (oLenOwn "Valley" g_Valley_len) (gV 0))))
  gNext)
  gNext)
  (gSeq (gSet 2 (gUn oTupOf (gOfL (gComp (gSeqOf (gV 1)) (gtName 4) gYes (gUn oTupOf (gV 4)) [4]))))
  (gSeq (gSet 3 (gCall g_first_fault (gCons (gUn (oLenOwn "Valley" g_Valley_len) (gV 0)) (gCons (gOfL (gComp (gSeqOf (gV 2)) (gtName 4) gYes (gCall g_are_sides (gCons (gV 4) gNil)) [4])) gNil))))
  (gSeq (gIfS (gB (gOp (oIs true) (gV 3) (gC .non)))
  (gSeq gStuck
  gNext)
  gNext)
  (gSeq (gRet (gV 2))
  gNext)))))
def g_Season_init : Addr → List D → Option (List (Str × D)) := gInit "Season" 4 5
  (gSeq (gSetFld "Season" "valley" 0 (gV 1))
  (gSeq (gSetFld "Season" "needs" 0 (gCall g_checked_needs (gCons (gV 1) (gCons (gV 2) gNil))))
  (gSeq (gSetFld "Season" "limits" 0 (gCall g_checked_limits (gCons (gV 1) (gCons (gV 3) gNil))))
  (gSeq (gSetFld "Season" "sides" 0 (gCall g_checked_sides (gCons (gV 1) (gCons (gV 4) gNil))))
  gNext))))
def g_joins_mills : List D → Option D := gDef 2 4
  (gSeq (gSetOw 2 (gComp (gSeqOf (gV 1)) (gtName 3) gYes (gAnd (gCall g_is_whole (gCons (gV 3) gNil)) (gChain dLe dLt (gC (.int 0)) (gV 3) (gV 0))) [3]))
  (gFreeze 2 (gSeq (gRet (gAnd (gOp oEq (gV 2) (gOfL (gLen1 (gCons (gC (.bl true)) (gCons (gC (.bl true)) gNil))))) (gOp oNe (gOp oIx (gV 1) (gC (.int 0))) (gOp oIx (gV 1) (gC (.int 1))))))
  gNext)))
def g_Valley_init : Addr → List D → Option (List (Str × D)) := gInit "Valley" 2 7
  (gSeq (gSet 3 (gUn oTupOf (gOfL (gComp (gSeqOf (gV 2)) (gtName 6) gYes (gUn oTupOf (gV 6)) [6]))))
  (gSeq (gFor (gEnum (gV 3)) (gtTup (gtCons (gtName 4) (gtCons (gtName 5) gtNil)))
  (gSeq (gIfS (gNotT (gB (gCall g_joins_mills (gCons (gV 1) (gCons (gV 5) gNil)))))
  (gSeq gStuck
  gNext)
  gNext)
  gNext))
  (gSeq (gSetFld "Valley" "mills" 0 (gV 1))
  (gSeq (gSetFld "Valley" "sluices" 0 (gV 3))
  gNext))))
def g_law_season : List D → Option D := gDef 1 1
  (gSeq (gRet (gMake "Season" (gUni g_Season_init) (gApp2 (gCons (gMake "Valley" (gUni g_Valley_init) (gCons (gOp oIx (gV 0) (gC (.int 0))) (gCons (gOfL (glListOf (gOp oIx (gV 0) (gC (.int 1))))) gNil))) gNil) (gCons (gOfL (glListOf (gOp oIx (gV 0) (gC (.int 2))))) (gCons (gOfL (glListOf (gOp oIx (gV 0) (gC (.int 3))))) (gCons (gOfL (glListOf (gOp oIx (gV 0) (gC (.int 4))))) gNil))))))
  gNext)
def g_law_sharing : List D → Option D := gDef 3 4
  (gSeq (gSet 3 (gIf (gB (gV 2)) (gFld "Season" "valley" (gV 0)) (gMake "Valley" (gUni g_Valley_init) (gCons (gOp oIx (gV 1) (gC (.int 0))) (gCons (gOfL (glListOf (gOp oIx (gV 1) (gC (.int 1))))) gNil)))))
  (gSeq (gRet (gMake "Season" (gUni g_Season_init) (gApp2 (gCons (gV 3) gNil) (gCons (gOfL (glListOf (gOp oIx (gV 1) (gC (.int 2))))) (gCons (gOfL (glListOf (gOp oIx (gV 1) (gC (.int 3))))) (gCons (gOfL (glListOf (gOp oIx (gV 1) (gC (.int 4))))) gNil))))))
  gNext))
def g_law_valley : List D → Option D := gDef 2 8
  (gSeq (gSet 2 (gOp oIx (gOp dMulT (gOfL (gLen1 (gCons (gC (.int 3)) (gCons (gC (.int 3)) (gCons (gC (.int 4)) (gCons (gC (.int 2)) (gCons (gC (.int 4)) (gCons (gC (.int 3)) (gCons (gC (.int 5)) (gCons (gC (.int 3)) (gCons (gC (.int 4)) (gCons (gC (.int 3)) (gCons (gC (.int 2)) (gCons (gC (.int 4)) gNil)))))))))))))) (gC (.int 2))) (gOp dMod (gCall fInt (gCons (gOp oIx (gV 0) (gC (.int 0))) gNil)) (gC (.int 24)))))
  (gSeq (gIfS (gB (gOp oEq (gOp oIx (gV 0) (gC (.int 0))) (gC (.int 23))))
  (gSeq (gSet 2 (gC (.int 1)))
  gNext)
  gNext)
  (gSeq (gSet 3 (gOp oIx (gOp dMulT (gOfL (gLen1 (gCons (gC (.int 4)) (gCons (gC (.int 5)) (gCons (gC (.int 3)) (gCons (gC (.int 6)) (gCons (gC (.int 5)) (gCons (gC (.int 4)) (gCons (gC (.int 7)) (gCons (gC (.int 5)) (gCons (gC (.int 4)) (gCons (gC (.int 6)) (gCons (gC (.int 5)) (gCons (gC (.int 2)) gNil)))))))))))))) (gC (.int 2))) (gOp dMod (gCall fInt (gCons (gOp oIx (gV 0) (gC (.int 1))) gNil)) (gC (.int 24)))))
  (gSeq (gIfS (gB (gOp dGe (gOp oIx (gV 0) (gC (.int 1))) (gC (.int 22))))
  (gSeq (gSet 3 (gOp dSub (gC (.int 23)) (gOp oIx (gV 0) (gC (.int 1)))))
  gNext)
  gNext)
  (gSeq (gSetOw 4 (gLen1 gNil))
  (gSeq (gIfS (gB (gOp dGt (gV 2) (gC (.int 1))))
  (gSeq (gFor (gRange1 (gCall fMin2 (gCons (gV 3) (gCons (gV 1) gNil)))) (gtName 5)
  (gSeq (gSet 6 (gOp dMod (gCall fInt (gCons (gOp oIx (gV 0) (gOp dAdd (gC (.int 3)) (gOp dMulT (gC (.int 2)) (gV 5)))) gNil)) (gV 2)))
  (gSeq (gSet 7 (gOp dMod (gCall fInt (gCons (gOp dAdd (gOp dAdd (gV 6) (gC (.int 1))) (gOp dMod (gCall fInt (gCons (gOp oIx (gV 0) (gOp dAdd (gC (.int 4)) (gOp dMulT (gC (.int 2)) (gV 5)))) gNil)) (gOp dSub (gV 2) (gC (.int 1))))) gNil)) (gV 2)))
  (gSeq (gIfS (gAndT (gOrT (gB (gOp oEq (gOp oIx (gV 0) (gC (.int 2))) (gC (.int 2)))) (gB (gOp oEq (gOp oIx (gV 0) (gC (.int 2))) (gC (.int 3))))) (gB (gOp dLt (gV 5) (gV 2))))
  (gSeq (gSet 6 (gV 5))
  (gSeq (gSet 7 (gOp dMod (gCall fInt (gCons (gOp dAdd (gV 5) (gC (.int 1))) gNil)) (gV 2)))
  gNext))
  gNext)
  (gSeq (gIfS (gOrT (gAndT (gB (gOp dGe (gOp oIx (gV 0) (gC (.int 2))) (gC (.int 4)))) (gB (gOp oEq (gV 5) (gC (.int 1))))) (gAndT (gB (gOp oEq (gOp oIx (gV 0) (gC (.int 2))) (gC (.int 5)))) (gB (gOp oEq (gV 5) (gC (.int 3))))))
  (gSeq (gSet 6 (gOp oIx (gOp oIx (gBor 4) (gOp dSub (gV 5) (gC (.int 1)))) (gC (.int 1))))
  (gSeq (gSet 7 (gOp oIx (gOp oIx (gBor 4) (gOp dSub (gV 5) (gC (.int 1)))) (gC (.int 0))))
  gNext))
  gNext)
  (gSeq (gApp 4 (gTup (gCons (gV 6) (gCons (gV 7) gNil))))
  gNext))))))
  gNext)
  gNext)
  (gSeq (gFreeze 4 (gRet (gOfL (gLen1 (gCons (gV 2) (gCons (gV 4) (gCons (gOp oIx (gV 0) (gC (.int 2))) gNil)))))))
  gNext)))))))
def g_law_fed : List D → Option D := gDef 3 6
  (gSeq (gSetOw 3 (gComp (gRange1 (gV 0)) (gtName 5) gYes (gC (.int 0)) [5]))
  (gSeq (gFor (gRange1 (gUn oLen (gV 1))) (gtName 4)
  (gSeq (gSet 5 (gOp oIx (gOp oIx (gV 1) (gV 4)) (gOp oIx (gV 2) (gV 4))))
  (gSeq (gSetIx 3 (gV 5) (gOp dAdd (gOp oIx (gBor 3) (gV 5)) (gC (.int 1))))
  gNext)))
  (gSeq (gFreeze 3 (gRet (gV 3)))
  gNext)))
def g_law_world : List D → Option D := gDef 2 13
  (gSeq (gSet 2 (gOp oIx (gV 0) (gC (.int 0))))
  (gSeq (gSet 3 (gOp oIx (gV 0) (gC (.int 1))))
  (gSeq (gSetOw 4 (gComp (gRange1 (gUn oLen (gV 3))) (gtName 5) gYes (gOp dMod (gCall fInt (gCons (gOp oIx (gV 1) (gOp dAdd (gC (.int 18)) (gV 5))) gNil)) (gC (.int 2))) [5]))
  (gSeq (gFor (gRange1 (gUn oLen (gV 3))) (gtName 5)
  (gSeq (gIfS (gAndT (gOrT (gB (gOp oEq (gOp oIx (gV 0) (gC (.int 2))) (gC (.int 2)))) (gB (gOp oEq (gOp oIx (gV 0) (gC (.int 2))) (gC (.int 3))))) (gB (gOp dLt (gV 5) (gV 2))))
  (gSeq (gSetIx 4 (gV 5) (gOp oIx (gBor 4) (gC (.int 0))))
  gNext)
  gNext)
  (gSeq (gIfS (gOrT (gAndT (gB (gOp dGe (gOp oIx (gV 0) (gC (.int 2))) (gC (.int 4)))) (gB (gOp oEq (gV 5) (gC (.int 1))))) (gAndT (gB (gOp oEq (gOp oIx (gV 0) (gC (.int 2))) (gC (.int 5)))) (gB (gOp oEq (gV 5) (gC (.int 3))))))
  (gSeq (gSetIx 4 (gV 5) (gOp oIx (gBor 4) (gOp dSub (gV 5) (gC (.int 1)))))
  gNext)
  gNext)
  gNext)))
  (gSeq (gFreeze 4 (gSet 6 (gCall g_law_fed (gCons (gV 2) (gCons (gV 3) (gCons (gV 4) gNil))))))
  (gSeq (gSetOw 7 (gLen1 gNil))
  (gSeq (gSetOw 8 (gLen1 gNil))
  (gSeq (gFor (gRange1 (gV 2)) (gtName 9)
  (gSeq (gSet 10 (gOp oIx (gOfL (gLen1 (gCons (gC (.int 0)) (gCons (gC (.int 0)) (gCons (gC (.int 1)) (gCons (gC (.int 0)) (gCons (gC (.int 1)) (gCons (gC (.int 2)) (gCons (gC (.int 0)) (gCons (gC (.int 1)) gNil)))))))))) (gOp dMod (gCall fInt (gCons (gOp oIx (gV 1) (gOp dAdd (gC (.int 1)) (gOp dMulT (gC (.int 2)) (gV 9)))) gNil)) (gC (.int 8)))))
  (gSeq (gSet 11 (gOp oIx (gOfL (gLen1 (gCons (gC .non) (gCons (gC (.int 1)) (gCons (gC .non) (gCons (gC (.int 0)) (gCons (gC (.int 1)) (gCons (gC (.int 2)) (gCons (gC (.int 1)) (gCons (gC .non) gNil)))))))))) (gOp dMod (gCall fInt (gCons (gOp oIx (gV 1) (gOp dAdd (gC (.int 2)) (gOp dMulT (gC (.int 2)) (gV 9)))) gNil)) (gC (.int 8)))))
  (gSeq (gIfS (gOrT (gB (gOp oEq (gOp oIx (gV 1) (gC (.int 0))) (gC (.int 1)))) (gOrT (gB (gOp oEq (gOp oIx (gV 1) (gC (.int 0))) (gC (.int 5)))) (gAndT (gB (gOp oEq (gOp oIx (gV 1) (gC (.int 0))) (gC (.int 2)))) (gB (gOp dGt (gV 9) (gC (.int 0)))))))
  (gSeq (gSet 10 (gC (.int 0)))
  gNext)
  gNext)
  (gSeq (gIfS (gB (gOp oEq (gOp oIx (gV 1) (gC (.int 0))) (gC (.int 5))))
  (gSeq (gSet 11 (gC (.int 1)))
  gNext)
  gNext)
  (gSeq (gIfS (gOrT (gB (gOp dLe (gOp oIx (gV 1) (gC (.int 0))) (gC (.int 2)))) (gB (gOp oEq (gOp oIx (gV 1) (gC (.int 0))) (gC (.int 7)))))
  (gSeq (gSet 11 (gC .non))
  gNext)
  gNext)
  (gSeq (gApp 7 (gCall fMax2 (gCons (gC (.int 0)) (gCons (gOp dSub (gOp oIx (gV 6) (gV 9)) (gV 10)) gNil))))
  (gSeq (gIfS (gB (gOp oEq (gOp oIx (gV 1) (gC (.int 0))) (gC (.int 3))))
  (gSeq (gSetIx 7 (gV 9) (gC (.int 0)))
  (gSeq (gSet 11 (gOp oIx (gOfL (gLen1 (gCons (gC (.int 0)) (gCons (gC (.int 0)) (gCons (gC (.int 0)) (gCons (gC (.int 1)) gNil)))))) (gOp dMod (gCall fInt (gCons (gOp oIx (gV 1) (gOp dAdd (gC (.int 2)) (gOp dMulT (gC (.int 2)) (gV 9)))) gNil)) (gC (.int 4)))))
  gNext))
  gNext)
  (gSeq (gIfS (gB (gOp (oIs true) (gV 11) (gC .non)))
  (gSeq (gSet 11 (gOp dAdd (gOp oIx (gV 6) (gV 9)) (gV 11)))
  gNext)
  gNext)
  (gSeq (gApp 8 (gV 11))
  gNext))))))))))
  (gSeq (gSetOw 12 (gLen1 gNil))
  (gSeq (gFor (gRange1 (gUn oLen (gV 3))) (gtName 5)
  (gSeq (gApp 12 (gOp oIx (gOfL (gLen1 (gCons (gTup (gCons (gC (.int 0)) (gCons (gC (.int 1)) gNil))) (gCons (gTup (gCons (gOp oIx (gBor 4) (gV 5)) gNil)) gNil)))) (gCall fInt (gCons (gOp oEq (gOp oIx (gV 1) (gOp dAdd (gC (.int 11)) (gV 5))) (gC (.int 5))) gNil))))
  gNext))
  (gSeq (gFreeze 12 (gFreeze 8 (gFreeze 7 (gRet (gOfL (gLen1 (gCons (gV 2) (gCons (gV 3) (gCons (gV 7) (gCons (gV 8) (gCons (gV 12) gNil)))))))))))
  gNext)))))))))))
def g_law_drawn : List D → Option D := gDef 3 4
  (gSeq (gSet 3 (gCall g_law_valley (gCons (gCall g_law_digits (gCons (gCall g_law_cell (gCons (gV 0) (gCons (gV 1) gNil))) (gCons (gOp dAdd (gOfL (gLen1 (gCons (gC (.int 24)) (gCons (gC (.int 24)) (gCons (gC (.int 6)) gNil))))) (gOp dMulT (gOfL (gLen1 (gCons (gC (.int 12)) (gCons (gC (.int 12)) gNil)))) (gC (.int 7)))) gNil))) (gCons (gV 2) gNil))))
  (gSeq (gRet (gCall g_law_world (gCons (gV 3) (gCons (gCall g_law_digits (gCons (gCall g_law_cell (gCons (gV 0) (gCons (gOp dAdd (gV 1) (gC (.int 1))) gNil))) (gCons (gOp dAdd (gOp dAdd (gOp dAdd (gOfL (gLen1 (gCons (gC (.int 8)) gNil))) (gOp dMulT (gOfL (gLen1 (gCons (gC (.int 8)) (gCons (gC (.int 8)) gNil)))) (gC (.int 5)))) (gOp dMulT (gOfL (gLen1 (gCons (gC (.int 24)) gNil))) (gC (.int 7)))) (gOp dMulT (gOfL (gLen1 (gCons (gC (.int 2)) gNil))) (gC (.int 7)))) gNil))) gNil))))
  gNext))
def g_law_free : List D → Option D := gDef 1 11
  (gSeq (gSet 1 (gCall g_law_valley (gCons (gCall g_law_digits (gCons (gCall g_law_cell (gCons (gV 0) (gCons (gC (.int 0)) gNil))) (gCons (gOp dAdd (gOfL (gLen1 (gCons (gC (.int 24)) (gCons (gC (.int 24)) (gCons (gC (.int 6)) gNil))))) (gOp dMulT (gOfL (gLen1 (gCons (gC (.int 12)) (gCons (gC (.int 12)) gNil)))) (gC (.int 7)))) gNil))) (gCons (gC (.int 7)) gNil))))
  (gSeq (gSet 2 (gCall g_law_digits (gCons (gCall g_law_cell (gCons (gV 0) (gCons (gC (.int 1)) gNil))) (gCons (gOp dAdd (gOp dAdd (gOfL (gLen1 (gCons (gC (.int 4)) gNil))) (gOp dMulT (gOfL (gLen1 (gCons (gC (.int 24)) (gCons (gC (.int 24)) gNil)))) (gC (.int 5)))) (gOp dMulT (gOfL (gLen1 (gCons (gC (.int 24)) gNil))) (gC (.int 7)))) gNil))))
  (gSeq (gSetOw 3 (gLen1 gNil))
  (gSeq (gSetOw 4 (gLen1 gNil))
  (gSeq (gFor (gRange1 (gOp oIx (gV 1) (gC (.int 0)))) (gtName 5)
  (gSeq (gSet 6 (gCall fInt (gCons (gOp oIx (gV 2) (gOp dAdd (gC (.int 1)) (gOp dMulT (gC (.int 2)) (gV 5)))) gNil)))
  (gSeq (gApp 3 (gOp oIx (gOfL (gLen1 (gCons (gC (.int 0)) (gCons (gC (.int 1)) (gCons (gC (.int 0)) (gCons (gC (.int 2)) (gCons (gC (.int 0)) (gCons (gC (.int 0)) (gCons (gC (.int 1)) (gCons (gC (.int 0)) (gCons (gC (.int 3)) (gCons (gC (.int 0)) (gCons (gC (.int 1)) (gCons (gC (.int 0)) (gCons (gC (.int 0)) (gCons (gC (.int 1)) (gCons (gC (.int 0)) (gCons (gC (.int 1)) (gCons (gC (.int 2)) (gCons (gC (.int 0)) (gCons (gC (.int 4)) (gCons (gC (.int 5)) (gCons (gC (.int 6)) (gCons (gC (.int 7)) (gCons (gC (.int 8)) (gCons (gC (.int 1)) gNil)))))))))))))))))))))))))) (gV 6)))
  (gSeq (gSet 7 (gCall fInt (gCons (gOp oIx (gV 2) (gOp dAdd (gC (.int 2)) (gOp dMulT (gC (.int 2)) (gV 5)))) gNil)))
  (gSeq (gApp 4 (gOp oIx (gOfL (gLen1 (gCons (gC .non) (gCons (gC (.int 2)) (gCons (gC (.int 3)) (gCons (gC .non) (gCons (gC (.int 4)) (gCons (gC (.int 2)) (gCons (gC .non) (gCons (gC (.int 5)) (gCons (gC (.int 3)) (gCons (gC (.int 4)) (gCons (gC .non) (gCons (gC (.int 1)) (gCons (gC (.int 3)) (gCons (gC (.int 6)) (gCons (gC (.int 0)) (gCons (gC (.int 7)) (gCons (gC (.int 8)) (gCons (gC .non) (gCons (gC (.int 1)) (gCons (gC (.int 2)) (gCons (gC (.int 3)) (gCons (gC .non) (gCons (gC (.int 2)) (gCons (gC .non) gNil)))))))))))))))))))))))))) (gV 7)))
  (gSeq (gIfS (gB (gOp dLe (gOp oIx (gV 2) (gC (.int 0))) (gC (.int 1))))
  (gSeq (gSetIx 3 (gV 5) (gCall fMin2 (gCons (gOp oIx (gBor 3) (gV 5)) (gCons (gOp dAdd (gC (.int 1)) (gOp dMod (gCall fInt (gCons (gV 5) gNil)) (gC (.int 2)))) gNil))))
  gNext)
  gNext)
  (gSeq (gIfS (gOrT (gB (gOp oEq (gOp oIx (gV 2) (gC (.int 0))) (gC (.int 1)))) (gAndT (gB (gOp oEq (gOp oIx (gV 2) (gC (.int 0))) (gC (.int 2)))) (gB (gOp dGt (gV 5) (gC (.int 1))))))
  (gSeq (gSetIx 4 (gV 5) (gC .non))
  gNext)
  gNext)
  gNext)))))))
  (gSeq (gSetOw 8 (gLen1 gNil))
  (gSeq (gFor (gRange1 (gUn oLen (gOp oIx (gV 1) (gC (.int 1))))) (gtName 9)
  (gSeq (gSet 10 (gCall fInt (gCons (gOp oIx (gV 2) (gOp dAdd (gC (.int 11)) (gV 9))) gNil)))
  (gSeq (gApp 8 (gOp oIx (gOfL (gLen1 (gCons (gTup (gCons (gC (.int 0)) (gCons (gC (.int 1)) gNil))) (gCons (gTup (gCons (gC (.int 0)) gNil)) (gCons (gTup (gCons (gC (.int 1)) gNil)) (gCons (gTup gNil) gNil)))))) (gIf (gB (gOp dGt (gV 10) (gC (.int 4)))) (gC (.int 0)) (gOp oIx (gOfL (gLen1 (gCons (gC (.int 1)) (gCons (gC (.int 2)) (gCons (gC (.int 1)) (gCons (gC (.int 2)) (gCons (gC (.int 3)) gNil))))))) (gV 10)))))
  gNext)))
  (gSeq (gFreeze 8 (gFreeze 4 (gFreeze 3 (gRet (gOfL (gLen1 (gCons (gOp oIx (gV 1) (gC (.int 0))) (gCons (gOp oIx (gV 1) (gC (.int 1))) (gCons (gV 3) (gCons (gV 4) (gCons (gV 8) gNil)))))))))))
  gNext))))))))
def g_law_small_world : List D → Option D := gDef 2 2
  (gSeq (gIfS (gB (gOp oEq (gOp dMod (gCall fInt (gCons (gV 1) gNil)) (gC (.int 8))) (gC (.int 3))))
  (gSeq (gRet (gCall g_law_free (gCons (gV 0) gNil)))
  gNext)
  gNext)
  (gSeq (gRet (gCall g_law_drawn (gCons (gV 0) (gCons (gC (.int 0)) (gCons (gOp oIx (gOfL (gLen1 (gCons (gC (.int 7)) (gCons (gC (.int 1)) gNil)))) (gCall fInt (gCons (gOp oEq (gOp dMod (gCall fInt (gCons (gV 1) gNil)) (gC (.int 16))) (gC (.int 15))) gNil))) gNil)))))
  gNext))
def g_law_wide : List D → Option D := gDef 3 17
  (gSeq (gSet 3 (gCall g_law_digits (gCons (gCall g_law_cell (gCons (gV 0) (gCons (gV 1) gNil))) (gCons (gOp dAdd (gOfL (gLen1 (gCons (gC (.int 24)) (gCons (gC (.int 49)) (gCons (gC (.int 4)) gNil))))) (gOp dMulT (gOfL (gLen1 (gCons (gC (.int 24)) (gCons (gC (.int 23)) gNil)))) (gC (.int 48)))) gNil))))
  (gSeq (gSet 4 (gOp oIx (gOfL (gLen1 (gCons (gC (.int 12)) (gCons (gC (.int 9)) (gCons (gC (.int 24)) (gCons (gC (.int 16)) (gCons (gC (.int 7)) (gCons (gC (.int 20)) (gCons (gC (.int 10)) (gCons (gC (.int 24)) (gCons (gC (.int 14)) (gCons (gC (.int 8)) (gCons (gC (.int 18)) (gCons (gC (.int 11)) (gCons (gC (.int 22)) (gCons (gC (.int 13)) (gCons (gC (.int 6)) (gCons (gC (.int 15)) (gCons (gC (.int 24)) (gCons (gC (.int 17)) (gCons (gC (.int 19)) (gCons (gC (.int 21)) (gCons (gC (.int 23)) (gCons (gC (.int 5)) (gCons (gC (.int 2)) (gCons (gC (.int 1)) gNil)))))))))))))))))))))))))) (gOp dMod (gCall fInt (gCons (gOp oIx (gV 3) (gC (.int 0))) gNil)) (gC (.int 24)))))
  (gSeq (gSet 4 (gCall fMin2 (gCons (gV 4) (gCons (gOp dFdiv (gV 2) (gC (.int 2))) gNil))))
  (gSeq (gSetOw 5 (gLen1 gNil))
  (gSeq (gIfS (gB (gOp dGt (gV 4) (gC (.int 1))))
  (gSeq (gFor (gRange1 (gCall fMin2 (gCons (gV 2) (gCons (gOp dAdd (gOp dSub (gV 4) (gC (.int 1))) (gOp dMod (gCall fInt (gCons (gOp oIx (gV 3) (gC (.int 1))) gNil)) (gC (.int 49)))) gNil)))) (gtName 6)
  (gSeq (gSet 7 (gOp dMod (gCall fInt (gCons (gOp oIx (gV 3) (gOp dAdd (gC (.int 3)) (gOp dMulT (gC (.int 2)) (gV 6)))) gNil)) (gV 4)))
  (gSeq (gSet 8 (gOp dMod (gCall fInt (gCons (gOp dAdd (gOp dAdd (gV 7) (gC (.int 1))) (gOp dMod (gCall fInt (gCons (gOp oIx (gV 3) (gOp dAdd (gC (.int 4)) (gOp dMulT (gC (.int 2)) (gV 6)))) gNil)) (gOp dSub (gV 4) (gC (.int 1))))) gNil)) (gV 4)))
  (gSeq (gIfS (gB (gOp oEq (gOp oIx (gV 3) (gC (.int 2))) (gC (.int 1))))
  (gSeq (gSet 8 (gOp dMod (gCall fInt (gCons (gOp dAdd (gOp dAdd (gV 7) (gC (.int 1))) (gOp dMod (gCall fInt (gCons (gOp oIx (gV 3) (gOp dAdd (gC (.int 4)) (gOp dMulT (gC (.int 2)) (gV 6)))) gNil)) (gCall fMin2 (gCons (gC (.int 3)) (gCons (gOp dSub (gV 4) (gC (.int 1))) gNil))))) gNil)) (gV 4)))
  gNext)
  gNext)
  (gSeq (gIfS (gAndT (gB (gOp oEq (gOp oIx (gV 3) (gC (.int 2))) (gC (.int 2)))) (gB (gOp dLt (gV 6) (gV 4))))
  (gSeq (gSet 7 (gV 6))
  (gSeq (gSet 8 (gOp dMod (gCall fInt (gCons (gOp dAdd (gV 6) (gC (.int 1))) gNil)) (gV 4)))
  gNext))
  gNext)
  (gSeq (gIfS (gAndT (gB (gOp oEq (gOp oIx (gV 3) (gC (.int 2))) (gC (.int 3)))) (gB (gOp oEq (gOp dMod (gCall fInt (gCons (gV 6) gNil)) (gC (.int 5))) (gC (.int 4)))))
  (gSeq (gSet 7 (gOp oIx (gOp oIx (gBor 5) (gOp dSub (gV 6) (gC (.int 1)))) (gC (.int 1))))
  (gSeq (gSet 8 (gOp oIx (gOp oIx (gBor 5) (gOp dSub (gV 6) (gC (.int 1)))) (gC (.int 0))))
  gNext))
  gNext)
  (gSeq (gApp 5 (gTup (gCons (gV 7) (gCons (gV 8) gNil))))
  gNext)))))))
  gNext)
  gNext)
  (gSeq (gSet 3 (gCall g_law_digits (gCons (gCall g_law_cell (gCons (gV 0) (gCons (gOp dAdd (gV 1) (gC (.int 1))) gNil))) (gCons (gOp dAdd (gOp dAdd (gOp dAdd (gOfL (gLen1 (gCons (gC (.int 8)) gNil))) (gOp dMulT (gOfL (gLen1 (gCons (gC (.int 2)) gNil))) (gC (.int 48)))) (gOp dMulT (gOfL (gLen1 (gCons (gC (.int 8)) (gCons (gC (.int 8)) gNil)))) (gC (.int 24)))) (gOp dMulT (gOfL (gLen1 (gCons (gC (.int 24)) gNil))) (gC (.int 48)))) gNil))))
  (gSeq (gSet 9 (gUn oTupOf (gOfL (gComp (gRange1 (gUn oLen (gBor 5))) (gtName 6) gYes (gOp dMod (gCall fInt (gCons (gOp oIx (gV 3) (gOp dAdd (gC (.int 1)) (gV 6))) gNil)) (gC (.int 2))) [6]))))
  (gSeq (gFreeze 5 (gSet 10 (gCall g_law_fed (gCons (gV 4) (gCons (gV 5) (gCons (gV 9) gNil))))))
  (gSeq (gSetOw 11 (gLen1 gNil))
  (gSeq (gSetOw 12 (gLen1 gNil))
  (gSeq (gFor (gRange1 (gV 4)) (gtName 13)
  (gSeq (gSet 14 (gOp oIx (gOfL (gLen1 (gCons (gC (.int 0)) (gCons (gC (.int 0)) (gCons (gC (.int 1)) (gCons (gC (.int 0)) (gCons (gC (.int 0)) (gCons (gC (.int 2)) (gCons (gC (.int 0)) (gCons (gC (.int 1)) gNil)))))))))) (gOp dMod (gCall fInt (gCons (gOp oIx (gV 3) (gOp dAdd (gC (.int 49)) (gOp dMulT (gC (.int 2)) (gV 13)))) gNil)) (gC (.int 8)))))
  (gSeq (gSet 15 (gOp oIx (gOfL (gLen1 (gCons (gC .non) (gCons (gC (.int 0)) (gCons (gC (.int 1)) (gCons (gC (.int 0)) (gCons (gC .non) (gCons (gC (.int 2)) (gCons (gC (.int 0)) (gCons (gC (.int 1)) gNil)))))))))) (gOp dMod (gCall fInt (gCons (gOp oIx (gV 3) (gOp dAdd (gC (.int 50)) (gOp dMulT (gC (.int 2)) (gV 13)))) gNil)) (gC (.int 8)))))
  (gSeq (gIfS (gB (gOp dLe (gOp oIx (gV 3) (gC (.int 0))) (gC (.int 2))))
  (gSeq (gSet 15 (gC .non))
  gNext)
  gNext)
  (gSeq (gIfS (gB (gOp oEq (gOp oIx (gV 3) (gC (.int 0))) (gC (.int 1))))
  (gSeq (gSet 14 (gC (.int 0)))
  gNext)
  gNext)
  (gSeq (gIfS (gB (gOp oEq (gOp oIx (gV 3) (gC (.int 0))) (gC (.int 4))))
  (gSeq (gSet 15 (gC (.int 0)))
  gNext)
  gNext)
  (gSeq (gApp 11 (gCall fMax2 (gCons (gC (.int 0)) (gCons (gOp dSub (gOp oIx (gV 10) (gV 13)) (gV 14)) gNil))))
  (gSeq (gIfS (gB (gOp oEq (gOp oIx (gV 3) (gC (.int 0))) (gC (.int 3))))
  (gSeq (gSetIx 11 (gV 13) (gC (.int 0)))
  gNext)
  gNext)
  (gSeq (gIfS (gB (gOp (oIs true) (gV 15) (gC .non)))
  (gSeq (gSet 15 (gOp dAdd (gOp oIx (gV 10) (gV 13)) (gV 15)))
  gNext)
  gNext)
  (gSeq (gApp 12 (gV 15))
  gNext))))))))))
  (gSeq (gSetOw 16 (gComp (gRange1 (gUn oLen (gBor 5))) (gtName 6) gYes (gOp oIx (gOfL (gLen1 (gCons (gTup (gCons (gC (.int 0)) (gCons (gC (.int 1)) gNil))) (gCons (gTup (gCons (gOp oIx (gV 9) (gV 6)) gNil)) gNil)))) (gCall fInt (gCons (gOp oEq (gOp oIx (gV 3) (gOp dAdd (gC (.int 97)) (gV 6))) (gC (.int 5))) gNil))) [6]))
  (gFreeze 16 (gSeq (gFreeze 12 (gFreeze 11 (gFreeze 5 (gRet (gOfL (gLen1 (gCons (gV 4) (gCons (gV 5) (gCons (gV 11) (gCons (gV 12) (gCons (gV 16) (gCons (gV 9) gNil))))))))))))
  gNext))))))))))))))
def g_law_spoilt : List D → Option D := gDef 2 13
  (gSeq (gSet 2 (gOp oIx (gV 0) (gC (.int 0))))
  (gSeq (gSet 3 (gOp oIx (gV 0) (gC (.int 1))))
  (gSeq (gSetOw 4 (glListOf (gOp oIx (gV 0) (gC (.int 2)))))
  (gSeq (gSetOw 5 (glListOf (gOp oIx (gV 0) (gC (.int 3)))))
  (gSeq (gSetOw 6 (glListOf (gOp oIx (gV 0) (gC (.int 4)))))
  (gSeq (gFor (gRange1 (gOp oIx (gOfL (gLen1 (gCons (gC (.int 1)) (gCons (gC (.int 0)) (gCons (gC (.int 2)) (gCons (gC (.int 1)) (gCons (gC (.int 0)) (gCons (gC (.int 3)) (gCons (gC (.int 1)) (gCons (gC (.int 2)) gNil)))))))))) (gOp dMod (gCall fInt (gCons (gOp oIx (gV 1) (gC (.int 0))) gNil)) (gC (.int 8))))) (gtName 7)
  (gSeq (gSet 8 (gOp dMod (gCall fInt (gCons (gOp oIx (gV 1) (gOp dAdd (gC (.int 1)) (gOp dMulT (gC (.int 3)) (gV 7)))) gNil)) (gC (.int 12))))
  (gSeq (gSet 9 (gOp dMod (gCall fInt (gCons (gOp oIx (gV 1) (gOp dAdd (gC (.int 2)) (gOp dMulT (gC (.int 3)) (gV 7)))) gNil)) (gV 2)))
  (gSeq (gSet 10 (gOp dMod (gCall fInt (gCons (gOp oIx (gV 1) (gOp dAdd (gC (.int 3)) (gOp dMulT (gC (.int 3)) (gV 7)))) gNil)) (gC (.int 6))))
  (gSeq (gSet 11 (gUn oLen (gOfL (gComp (gRange1 (gUn oLen (gV 3))) (gtName 12) (gB (gOp (dIn false) (gV 9) (gOp oIx (gV 3) (gV 12)))) (gV 12) [12]))))
  (gSeq (gIfS (gB (gOp dLe (gV 8) (gC (.int 2))))
  (gSeq (gSetIx 4 (gV 9) (gOp dAdd (gOp dAdd (gOp oIx (gBor 4) (gV 9)) (gC (.int 1))) (gOp dFdiv (gV 10) (gC (.int 4)))))
  gNext)
  gNext)
  (gSeq (gIfS (gB (gOp oEq (gV 8) (gC (.int 2))))
  (gSeq (gSetIx 4 (gOp dMod (gCall fInt (gCons (gOp dAdd (gV 9) (gC (.int 1))) gNil)) (gV 2)) (gOp dAdd (gOp oIx (gBor 4) (gOp dMod (gCall fInt (gCons (gOp dAdd (gV 9) (gC (.int 1))) gNil)) (gV 2))) (gC (.int 1))))
  gNext)
  gNext)
  (gSeq (gIfS (gB (gOp oEq (gV 8) (gC (.int 3))))
  (gSeq (gSetIx 5 (gV 9) (gOp oIx (gBor 4) (gV 9)))
  gNext)
  gNext)
  (gSeq (gIfS (gB (gOp oEq (gV 8) (gC (.int 4))))
  (gSeq (gSetIx 5 (gV 9) (gCall fMax2 (gCons (gC (.int 0)) (gCons (gOp dSub (gOp oIx (gBor 4) (gV 9)) (gC (.int 1))) gNil))))
  gNext)
  gNext)
  (gSeq (gIfS (gB (gOp oEq (gV 8) (gC (.int 5))))
  (gSeq (gSetIx 5 (gV 9) (gOp oIx (gOfL (gLen1 (gCons (gC (.int 0)) (gCons (gC (.int 0)) (gCons (gC (.int 1)) (gCons (gC (.int 1)) (gCons (gC (.int 2)) (gCons (gOp dPow (gC (.int 10)) (gC (.int 30))) gNil)))))))) (gV 10)))
  gNext)
  gNext)
  (gSeq (gIfS (gB (gOp oEq (gV 8) (gC (.int 6))))
  (gSeq (gSetIx 4 (gV 9) (gOp oIx (gOfL (gLen1 (gCons (gV 11) (gCons (gV 11) (gCons (gOp dAdd (gV 11) (gC (.int 1))) (gCons (gV 11) (gCons (gOp dAdd (gOp dPow (gC (.int 10)) (gC (.int 30))) (gV 11)) (gCons (gOp dAdd (gV 11) (gC (.int 2))) gNil)))))))) (gV 10)))
  gNext)
  gNext)
  (gSeq (gIfS (gB (gOp oEq (gV 8) (gC (.int 7))))
  (gSeq (gSetOw 5 (gComp (gRange1 (gV 2)) (gtName 12) gYes (gOp dAdd (gOp oIx (gBor 4) (gV 12)) (gOp dMod (gCall fInt (gCons (gOp dAdd (gV 12) (gV 10)) gNil)) (gC (.int 2)))) [12]))
  gNext)
  gNext)
  (gSeq (gIfS (gAndT (gB (gOp dGe (gV 8) (gC (.int 8)))) (gB (gOp dGt (gUn oLen (gV 3)) (gC (.int 0)))))
  (gSeq (gSetIx 6 (gOp dMod (gCall fInt (gCons (gOp oIx (gV 1) (gOp dAdd (gC (.int 2)) (gOp dMulT (gC (.int 3)) (gV 7)))) gNil)) (gUn oLen (gV 3))) (gOp oIx (gOfL (gLen1 (gCons (gTup (gCons (gC (.int 0)) gNil)) (gCons (gTup (gCons (gC (.int 1)) gNil)) (gCons (gTup gNil) (gCons (gTup (gCons (gC (.int 0)) gNil)) (gCons (gTup (gCons (gC (.int 1)) gNil)) (gCons (gTup (gCons (gC (.int 0)) (gCons (gC (.int 1)) gNil))) gNil)))))))) (gV 10)))
  gNext)
  gNext)
  gNext)))))))))))))
  (gSeq (gFreeze 6 (gFreeze 5 (gFreeze 4 (gRet (gOfL (gLen1 (gCons (gV 2) (gCons (gV 3) (gCons (gV 4) (gCons (gV 5) (gCons (gV 6) gNil)))))))))))
  gNext)))))))
def g_law_numbers : List D → Option D := gDef 2 11
  (gSeq (gSet 2 (gC (.int 0)))
  (gSeq (gSet 3 (gC (.int 0)))
  (gSeq (gFor (gRange1 (gUn oLen (gOp oIx (gV 0) (gC (.int 1))))) (gtName 4)
  (gSeq (gSetOw 5 (gComp (gSeqOf (gOp oIx (gOp oIx (gV 0) (gC (.int 4))) (gV 4))) (gtName 10) gYes (gOp oIx (gOp oIx (gOp oIx (gV 0) (gC (.int 1))) (gV 4)) (gV 10)) [10]))
  (gFreeze 5 (gSeq (gSet 6 (gUn oLen (gOfL (gComp (gSeqOf (gV 5)) (gtName 9) (gB (gOp (dIn false) (gV 9) (gV 1))) (gV 9) [9]))))
  (gSeq (gIfS (gB (gOp dGt (gV 6) (gC (.int 0))))
  (gSeq (gSet 2 (gOp dAdd (gV 2) (gC (.int 1))))
  gNext)
  gNext)
  (gSeq (gIfS (gAndT (gB (gOp dGt (gV 6) (gC (.int 0)))) (gB (gOp oEq (gV 6) (gUn oLen (gV 5)))))
  (gSeq (gSet 3 (gOp dAdd (gV 3) (gC (.int 1))))
  gNext)
  gNext)
  gNext))))))
  (gSeq (gSet 7 (gC (.int 0)))
  (gSeq (gSet 8 (gC (.int 0)))
  (gSeq (gFor (gRange1 (gOp oIx (gV 0) (gC (.int 0)))) (gtName 9)
  (gSeq (gIfS (gB (gOp (dIn false) (gV 9) (gV 1)))
  (gSeq (gSet 7 (gOp dAdd (gV 7) (gOp oIx (gOp oIx (gV 0) (gC (.int 2))) (gV 9))))
  (gSeq (gIfS (gB (gOp (oIs true) (gV 8) (gC .non)))
  (gSeq (gSet 8 (gIf (gB (gOp (oIs false) (gOp oIx (gOp oIx (gV 0) (gC (.int 3))) (gV 9)) (gC .non))) (gC .non) (gOp dAdd (gV 8) (gOp oIx (gOp oIx (gV 0) (gC (.int 3))) (gV 9)))))
  gNext)
  gNext)
  gNext))
  gNext)
  gNext))
  (gSeq (gRet (gOfL (gLen1 (gCons (gV 2) (gCons (gV 3) (gCons (gV 7) (gCons (gV 8) gNil)))))))
  gNext)))))))
def gL_law_numbers : List D → Option (List D) := gDefL 2 11
  (gSeq (gSet 2 (gC (.int 0)))
  (gSeq (gSet 3 (gC (.int 0)))
  (gSeq (gFor (gRange1 (gUn oLen (gOp oIx (gV 0) (gC (.int 1))))) (gtName 4)
  (gSeq (gSetOw 5 (gComp (gSeqOf (gOp oIx (gOp oIx (gV 0) (gC (.int 4))) (gV 4))) (gtName 10) gYes (gOp oIx (gOp oIx (gOp oIx (gV 0) (gC (.int 1))) (gV 4)) (gV 10)) [10]))
  (gFreeze 5 (gSeq (gSet 6 (gUn oLen (gOfL (gComp (gSeqOf (gV 5)) (gtName 9) (gB (gOp (dIn false) (gV 9) (gV 1))) (gV 9) [9]))))
  (gSeq (gIfS (gB (gOp dGt (gV 6) (gC (.int 0))))
  (gSeq (gSet 2 (gOp dAdd (gV 2) (gC (.int 1))))
  gNext)
  gNext)
  (gSeq (gIfS (gAndT (gB (gOp dGt (gV 6) (gC (.int 0)))) (gB (gOp oEq (gV 6) (gUn oLen (gV 5)))))
  (gSeq (gSet 3 (gOp dAdd (gV 3) (gC (.int 1))))
  gNext)
  gNext)
  gNext))))))
  (gSeq (gSet 7 (gC (.int 0)))
  (gSeq (gSet 8 (gC (.int 0)))
  (gSeq (gFor (gRange1 (gOp oIx (gV 0) (gC (.int 0)))) (gtName 9)
  (gSeq (gIfS (gB (gOp (dIn false) (gV 9) (gV 1)))
  (gSeq (gSet 7 (gOp dAdd (gV 7) (gOp oIx (gOp oIx (gV 0) (gC (.int 2))) (gV 9))))
  (gSeq (gIfS (gB (gOp (oIs true) (gV 8) (gC .non)))
  (gSeq (gSet 8 (gIf (gB (gOp (oIs false) (gOp oIx (gOp oIx (gV 0) (gC (.int 3))) (gV 9)) (gC .non))) (gC .non) (gOp dAdd (gV 8) (gOp oIx (gOp oIx (gV 0) (gC (.int 3))) (gV 9)))))
  gNext)
  gNext)
  gNext))
  gNext)
  gNext))
  gNext))))))
  (gLen1 (gCons (gV 2) (gCons (gV 3) (gCons (gV 7) (gCons (gV 8) gNil)))))
def g_law_kept : List D → Option D := gDef 2 2
  (gSeq (gIfS (gOrT (gB (gOp oNe (gFld "Valley" "mills" (gFld "Season" "valley" (gV 0))) (gOp oIx (gV 1) (gC (.int 0))))) (gB (gOp oNe (gFld "Valley" "sluices" (gFld "Season" "valley" (gV 0))) (gUn oTupOf (gOp oIx (gV 1) (gC (.int 1)))))))
  (gSeq (gRet (gC (.bl false)))
  gNext)
  gNext)
  (gSeq (gRet (gAnd (gOp oEq (gFld "Season" "needs" (gV 0)) (gUn oTupOf (gOp oIx (gV 1) (gC (.int 2))))) (gAnd (gOp oEq (gFld "Season" "limits" (gV 0)) (gUn oTupOf (gOp oIx (gV 1) (gC (.int 3))))) (gOp oEq (gFld "Season" "sides" (gV 0)) (gUn oTupOf (gOp oIx (gV 1) (gC (.int 4))))))))
  gNext))
def g_law_shown : List D → Option D := gDef 2 3
  (gSeq (gIfS (gB (gOp oEq (gOp dMod (gCall fInt (gCons (gV 1) gNil)) (gC (.int 4))) (gC (.int 1))))
  (gSeq (gRet (gOfL (gComp (gRange1 (gUn oLen (gV 0))) (gtName 2) gYes (gOp oIx (gV 0) (gOp dSub (gOp dSub (gUn oLen (gV 0)) (gC (.int 1))) (gV 2))) [2])))
  gNext)
  gNext)
  (gSeq (gIfS (gB (gOp oEq (gOp dMod (gCall fInt (gCons (gV 1) gNil)) (gC (.int 4))) (gC (.int 2))))
  (gSeq (gRet (gOp dAdd (gOfL (glListOf (gV 0))) (gOfL (glListOf (gV 0)))))
  gNext)
  gNext)
  (gSeq (gIfS (gB (gOp oEq (gOp dMod (gCall fInt (gCons (gV 1) gNil)) (gC (.int 4))) (gC (.int 3))))
  (gSeq (gRet (gOp dAdd (gSl (gV 0) (gPart (gC (.int 1))) gNoPart) (gSl (gV 0) gNoPart (gPart (gC (.int 2))))))
  gNext)
  gNext)
  (gSeq (gRet (gV 0))
  gNext))))
def g_law_subsets : List D → Option D := gDef 2 8
  (gSeq (gSet 2 (gOfL (gLen1 (gCons (gTup gNil) gNil))))
  (gSeq (gSet 3 (gOfL (gLen1 (gCons (gTup gNil) gNil))))
  (gSeq (gFor (gRange1 (gCall fMin2 (gCons (gV 1) (gCons (gUn oLen (gV 0)) gNil)))) (gtName 4)
  (gSeq (gSetOw 5 (gLen1 gNil))
  (gSeq (gFor (gSeqOf (gV 2)) (gtName 6)
  (gSeq (gFor (gSeqOf (gV 0)) (gtName 7)
  (gSeq (gIfS (gOrT (gB (gOp oEq (gUn oLen (gV 6)) (gC (.int 0)))) (gB (gOp dGt (gV 7) (gOp oIx (gV 6) (gUn (fun d => (asI d).bind fun i => some (.int (-i))) (gC (.int 1)))))))
  (gSeq (gApp 5 (gOp dAdd (gV 6) (gTup (gCons (gV 7) gNil))))
  gNext)
  gNext)
  gNext))
  gNext))
  (gSeq (gSet 2 (gOfL (glListOf (gBor 5))))
  (gSeq (gSet 3 (gOp dAdd (gV 3) (gV 2)))
  gNext)))))
  (gSeq (gRet (gV 3))
  gNext))))
def g_law_lots : List D → Option D := gDef 2 6
  (gSeq (gSet 2 (gUn oTupOf (gOfL (gComp (gRange1 (gV 0)) (gtName 4) gYes (gV 4) [4]))))
  (gSeq (gIfS (gB (gOp dLe (gV 0) (gC (.int 5))))
  (gSeq (gRet (gCall g_law_subsets (gCons (gOfL (glListOf (gV 2))) (gCons (gV 0) gNil))))
  gNext)
  gNext)
  (gSeq (gSetOw 3 (gLen1 (gCons (gTup gNil) (gCons (gV 2) gNil))))
  (gSeq (gFor (gRange1 (gV 0)) (gtName 4)
  (gSeq (gApp 3 (gTup (gCons (gV 4) gNil)))
  (gSeq (gApp 3 (gOp dAdd (gSl (gV 2) gNoPart (gPart (gV 4))) (gSl (gV 2) (gPart (gOp dAdd (gV 4) (gC (.int 1)))) gNoPart)))
  gNext)))
  (gSeq (gFor (gRange1 (gC (.int 6))) (gtName 5)
  (gSeq (gApp 3 (gUn oTupOf (gOfL (gComp (gRange1 (gV 0)) (gtName 4) (gB (gOp oEq (gOp oIx (gV 1) (gOp dAdd (gOp dMulT (gC (.int 24)) (gV 5)) (gV 4))) (gC (.int 1)))) (gV 4) [4]))))
  gNext))
  (gSeq (gFreeze 3 (gRet (gV 3)))
  gNext))))))
def g_law_levelled : List D → Option D := gDef 5 9
  (gSeq (gSetOw 5 (glListOf (gOp oIx (gV 0) (gC (.int 2)))))
  (gSeq (gSetOw 6 (glListOf (gOp oIx (gV 0) (gC (.int 3)))))
  (gSeq (gIfS (gB (gOp dGt (gUn oLen (gV 1)) (gC (.int 0))))
  (gSeq (gSet 7 (gCall g_law_numbers (gCons (gV 0) (gCons (gV 1) gNil))))
  (gSeq (gSetIx 5 (gOp oIx (gV 1) (gC (.int 0))) (gCall fMax2 (gCons (gC (.int 0)) (gCons (gOp dSub (gOp dAdd (gOp dAdd (gOp oIx (gBor 5) (gOp oIx (gV 1) (gC (.int 0)))) (gOp oIx (gV 7) (gC (.int 0)))) (gV 3)) (gOp oIx (gV 7) (gC (.int 2)))) gNil))))
  gNext))
  gNext)
  (gSeq (gIfS (gB (gOp dGt (gUn oLen (gV 2)) (gC (.int 0))))
  (gSeq (gSetOw 6 (gComp (gRange1 (gOp oIx (gV 0) (gC (.int 0)))) (gtName 8) gYes (gIf (gAndT (gB (gOp (dIn false) (gV 8) (gV 2))) (gB (gOp (oIs false) (gOp oIx (gBor 6) (gV 8)) (gC .non)))) (gUn oLen (gOp oIx (gV 0) (gC (.int 1)))) (gOp oIx (gBor 6) (gV 8))) [8]))
  (gSeq (gSetLend 7 [5, 6] gL_law_numbers (gCons (gOfL (gLen1 (gCons (gOp oIx (gV 0) (gC (.int 0))) (gCons (gOp oIx (gV 0) (gC (.int 1))) (gCons (gV 5) (gCons (gV 6) (gCons (gOp oIx (gV 0) (gC (.int 4))) gNil))))))) (gCons (gV 2) gNil)))
  (gSeq (gSetIx 6 (gOp oIx (gV 2) (gUn (fun d => (asI d).bind fun i => some (.int (-i))) (gC (.int 1)))) (gCall fMax2 (gCons (gC (.int 0)) (gCons (gOp dSub (gOp dSub (gOp dAdd (gOp oIx (gBor 6) (gOp oIx (gV 2) (gUn (fun d => (asI d).bind fun i => some (.int (-i))) (gC (.int 1))))) (gOp oIx (gV 7) (gC (.int 1)))) (gV 4)) (gOp oIx (gV 7) (gC (.int 3)))) gNil))))
  gNext)))
  gNext)
  (gSeq (gFreeze 6 (gFreeze 5 (gRet (gOfL (gLen1 (gCons (gOp oIx (gV 0) (gC (.int 0))) (gCons (gOp oIx (gV 0) (gC (.int 1))) (gCons (gV 5) (gCons (gV 6) (gCons (gOp oIx (gV 0) (gC (.int 4))) gNil))))))))))
  gNext)))))
def g_feeding_sides : List D → Option D := gDef 3 5
  (gSeq (gSet 3 (gOp oIx (gFld "Valley" "sluices" (gFld "Season" "valley" (gV 0))) (gV 1)))
  (gSeq (gRet (gOfL (gComp (gSeqOf (gOp oIx (gFld "Season" "sides" (gV 0)) (gV 1))) (gtName 4) (gB (gOp (dIn false) (gOp oIx (gV 3) (gV 4)) (gV 2))) (gV 4) [4])))
  gNext))
def g_gain : List D → Option D := gDef 2 3
  (gSeq (gRet (gUn oLen (gOfL (gComp (gRange1 (gUn oLen (gFld "Season" "sides" (gV 0)))) (gtName 2) (gB (gOp dGt (gUn oLen (gCall g_feeding_sides (gCons (gV 0) (gCons (gV 2) (gCons (gV 1) gNil))))) (gC (.int 0)))) (gV 2) [2]))))
  gNext)
def g_distinct : List D → Option D := gDef 1 1
  (gSeq (gRet (gUn oTupOf (gOfL (glSortSet (gV 0)))))
  gNext)
def g_want : List D → Option D := gDef 2 3
  (gSeq (gRet (gCall fSum (gCons (gOfL (gComp (gSeqOf (gCall g_distinct (gCons (gV 1) gNil))) (gtName 2) gYes (gOp oIx (gFld "Season" "needs" (gV 0)) (gV 2)) [2])) gNil)))
  gNext)
def g_load : List D → Option D := gDef 2 4
  (gSeq (gRet (gUn oLen (gOfL (gComp (gEnum (gFld "Season" "sides" (gV 0))) (gtTup (gtCons (gtName 2) (gtCons (gtName 3) gtNil))) (gAndT (gB (gOp dGt (gUn oLen (gV 3)) (gC (.int 0)))) (gB (gOp oEq (gUn oLen (gCall g_feeding_sides (gCons (gV 0) (gCons (gV 2) (gCons (gV 1) gNil))))) (gUn oLen (gV 3))))) (gV 2) [2, 3]))))
  gNext)
def g_bear : List D → Option D := gDef 2 4
  (gSeq (gSetOw 2 (gComp (gSeqOf (gCall g_distinct (gCons (gV 1) gNil))) (gtName 3) gYes (gOp oIx (gFld "Season" "limits" (gV 0)) (gV 3)) [3]))
  (gFreeze 2 (gSeq (gRet (gIf (gB (gOp (dIn false) (gC .non) (gV 2))) (gC .non) (gCall fSum (gCons (gV 2) gNil))))
  gNext)))
def g_bears_too_little : List D → Option D := gDef 2 3
  (gSeq (gSet 2 (gCall g_bear (gCons (gV 0) (gCons (gV 1) gNil))))
  (gSeq (gRet (gAnd (gOp (oIs true) (gV 2) (gC .non)) (gOp dGt (gCall g_load (gCons (gV 0) (gCons (gV 1) gNil))) (gV 2))))
  gNext))
def g_bears_less_than_need : List D → Option D := gDef 2 3
  (gSeq (gSet 2 (gOp oIx (gFld "Season" "limits" (gV 0)) (gV 1)))
  (gSeq (gRet (gAnd (gOp (oIs true) (gV 2) (gC .non)) (gOp dLt (gV 2) (gOp oIx (gFld "Season" "needs" (gV 0)) (gV 1)))))
  gNext))
def g_is_obstacle : List D → Option D := gDef 2 4
  (gSeq (gAsg (gV 1) (gtSeq (gtCons (gtName 2) (gtCons (gtName 3) gtNil))))
  (gSeq (gIfS (gB (gOp oEq (gV 2) (gC (.str "sluice"))))
  (gSeq (gRet (gOp oEq (gUn oLen (gOp oIx (gFld "Season" "sides" (gV 0)) (gV 3))) (gC (.int 0))))
  gNext)
  gNext)
  (gSeq (gIfS (gB (gOp oEq (gV 2) (gC (.str "mill"))))
  (gSeq (gRet (gCall g_bears_less_than_need (gCons (gV 0) (gCons (gV 3) gNil))))
  gNext)
  gNext)
  (gSeq (gIfS (gB (gOp oEq (gV 2) (gC (.str "wants"))))
  (gSeq (gRet (gOp dGt (gCall g_want (gCons (gV 0) (gCons (gV 3) gNil))) (gCall g_gain (gCons (gV 0) (gCons (gV 3) gNil)))))
  gNext)
  gNext)
  (gSeq (gRet (gCall g_bears_too_little (gCons (gV 0) (gCons (gV 3) gNil))))
  gNext)))))
def g_law_single : List D → Option D := gDef 4 7
  (gSeq (gSet 4 (gOfL (gLen1 (gCons (gV 1) (gCons (gV 2) gNil)))))
  (gSeq (gSet 5 (gCall g_is_obstacle (gCons (gV 0) (gCons (gV 4) gNil))))
  (gSeq (gSet 6 (gCall g_is_obstacle (gAppP [1, 0] gNil (gCons (gTup (gCons (gV 1) (gCons (gV 2) gNil))) (gCons (gV 0) gNil)))))
  (gSeq (gIfS (gOrT (gNotT (gB (gCall fIsi (gCons (gV 5) (gCons (gC (.ty "bool")) gNil))))) (gOrT (gNotT (gB (gCall fIsi (gCons (gV 6) (gCons (gC (.ty "bool")) gNil))))) (gB (gOp oNe (gV 4) (gOfL (gLen1 (gCons (gV 1) (gCons (gV 2) gNil))))))))
  (gSeq (gRet (gC (.bl false)))
  gNext)
  gNext)
  (gSeq (gRet (gAnd (gOp oEq (gV 5) (gV 3)) (gOp oEq (gV 6) (gV 3))))
  gNext)))))
def g_law_singles : List D → Option D := gDef 2 5
  (gSeq (gFor (gRange1 (gUn oLen (gOp oIx (gV 1) (gC (.int 1))))) (gtName 2)
  (gSeq (gIfS (gNotT (gB (gCall g_law_single (gCons (gV 0) (gCons (gC (.str "sluice")) (gCons (gV 2) (gCons (gOp oEq (gUn oLen (gOp oIx (gOp oIx (gV 1) (gC (.int 4))) (gV 2))) (gC (.int 0))) gNil)))))))
  (gSeq (gRet (gC (.bl false)))
  gNext)
  gNext)
  gNext))
  (gSeq (gFor (gRange1 (gOp oIx (gV 1) (gC (.int 0)))) (gtName 3)
  (gSeq (gSet 4 (gAnd (gOp (oIs true) (gOp oIx (gOp oIx (gV 1) (gC (.int 3))) (gV 3)) (gC .non)) (gOp dLt (gOp oIx (gOp oIx (gV 1) (gC (.int 3))) (gV 3)) (gOp oIx (gOp oIx (gV 1) (gC (.int 2))) (gV 3)))))
  (gSeq (gIfS (gNotT (gB (gCall g_law_single (gCons (gV 0) (gCons (gC (.str "mill")) (gCons (gV 3) (gCons (gV 4) gNil)))))))
  (gSeq (gRet (gC (.bl false)))
  gNext)
  gNext)
  gNext)))
  (gSeq (gRet (gC (.bl true)))
  gNext)))
def g_law_whole : List D → Option D := gDef 1 1
  (gSeq (gRet (gAnd (gCall fIsi (gCons (gV 0) (gCons (gC (.ty "int")) gNil))) (gNot (gCall fIsi (gCons (gV 0) (gCons (gC (.ty "bool")) gNil))))))
  gNext)
def g_law_right : List D → Option D := gDef 4 7
  (gSeq (gSet 4 (gOfL (glListOf (gV 2))))
  (gSeq (gIfS (gB (gV 3))
  (gSeq (gSet 5 (gOfL (gLen1 (gCons (gCall g_gain (gAppP [1, 0] gNil (gCons (gV 2) (gCons (gV 0) gNil)))) (gCons (gCall g_load (gAppP [0, 1] gNil (gCons (gV 0) (gCons (gV 2) gNil)))) gNil)))))
  (gSeq (gSet 5 (gOp dAdd (gV 5) (gOfL (gLen1 (gCons (gCall g_want (gAppP [1, 0] gNil (gCons (gV 2) (gCons (gV 0) gNil)))) (gCons (gCall g_bear (gAppP [0, 1] gNil (gCons (gV 0) (gCons (gV 2) gNil)))) gNil))))))
  gNext))
  (gSeq (gSet 5 (gOfL (gLen1 (gCons (gCall g_gain (gCons (gV 0) (gCons (gV 2) gNil))) (gCons (gCall g_load (gCons (gV 0) (gCons (gV 2) gNil))) (gCons (gCall g_want (gCons (gV 0) (gCons (gV 2) gNil))) (gCons (gCall g_bear (gCons (gV 0) (gCons (gV 2) gNil))) gNil)))))))
  gNext))
  (gSeq (gIfS (gB (gOp oNe (gOfL (glListOf (gV 2))) (gV 4)))
  (gSeq (gRet (gC (.bl false)))
  gNext)
  gNext)
  (gSeq (gIfS (gAndT (gB (gOp (oIs false) (gOp oIx (gV 1) (gC (.int 3))) (gC .non))) (gB (gOp (oIs true) (gOp oIx (gV 5) (gC (.int 3))) (gC .non))))
  (gSeq (gRet (gC (.bl false)))
  gNext)
  gNext)
  (gSeq (gFor (gRange1 (gC (.int 4))) (gtName 6)
  (gSeq (gIfS (gAndT (gB (gOp (oIs true) (gOp oIx (gV 1) (gV 6)) (gC .non))) (gOrT (gNotT (gB (gCall g_law_whole (gCons (gOp oIx (gV 5) (gV 6)) gNil)))) (gB (gOp oNe (gOp oIx (gV 5) (gV 6)) (gOp oIx (gV 1) (gV 6))))))
  (gSeq (gRet (gC (.bl false)))
  gNext)
  gNext)
  gNext))
  (gSeq (gRet (gC (.bl true)))
  gNext))))))
def g_law_both : List D → Option D := gDef 4 9
  (gSeq (gSet 4 (gOfL (glListOf (gV 2))))
  (gSeq (gSet 5 (gOp oIx (gOfL (gLen1 (gCons (gC (.str "bears")) (gCons (gC (.str "wants")) gNil)))) (gV 3)))
  (gSeq (gSet 6 (gOfL (gLen1 (gCons (gV 5) (gCons (gV 2) gNil)))))
  (gSeq (gIfS (gB (gOp oEq (gV 3) (gC (.int 0))))
  (gSeq (gSet 7 (gCall g_is_obstacle (gCons (gV 0) (gCons (gTup (gCons (gC (.str "wants")) (gCons (gV 2) gNil))) gNil))))
  (gSeq (gSet 8 (gCall g_is_obstacle (gAppP [0, 1] gNil (gCons (gV 0) (gCons (gV 6) gNil)))))
  gNext))
  (gSeq (gSet 7 (gCall g_is_obstacle (gAppP [1, 0] gNil (gCons (gV 6) (gCons (gV 0) gNil)))))
  (gSeq (gSet 8 (gCall g_is_obstacle (gCons (gV 0) (gCons (gTup (gCons (gC (.str "bears")) (gCons (gV 2) gNil))) gNil))))
  gNext)))
  (gSeq (gIfS (gOrT (gNotT (gB (gCall fIsi (gCons (gV 7) (gCons (gC (.ty "bool")) gNil))))) (gOrT (gNotT (gB (gCall fIsi (gCons (gV 8) (gCons (gC (.ty "bool")) gNil))))) (gOrT (gB (gOp oNe (gV 6) (gOfL (gLen1 (gCons (gV 5) (gCons (gV 2) gNil)))))) (gB (gOp oNe (gOfL (glListOf (gV 2))) (gV 4))))))
  (gSeq (gRet (gC (.bl false)))
  gNext)
  gNext)
  (gSeq (gIfS (gB (gOp oNe (gV 7) (gOp dGt (gOp oIx (gV 1) (gC (.int 2))) (gOp oIx (gV 1) (gC (.int 0))))))
  (gSeq (gRet (gC (.bl false)))
  gNext)
  gNext)
  (gSeq (gRet (gOp oEq (gV 8) (gAnd (gOp (oIs true) (gOp oIx (gV 1) (gC (.int 3))) (gC .non)) (gOp dGt (gOp oIx (gV 1) (gC (.int 1))) (gOp oIx (gV 1) (gC (.int 3)))))))
  gNext)))))))
def g_law : List D → Option D := gDef 1 17
  (gSeq (gSet 1 (gCall fInt (gCons (gCall g_law_cell (gCons (gV 0) (gCons (gC (.int 3)) gNil))) gNil)))
  (gSeq (gIfS (gB (gOp oEq (gOp dMod (gCall fInt (gCons (gV 1) gNil)) (gC (.int 8))) (gC (.int 1))))
  (gSeq (gSet 2 (gCall g_law_wide (gCons (gV 0) (gCons (gC (.int 0)) (gCons (gC (.int 48)) gNil)))))
  gNext)
  (gSeq (gSet 2 (gCall g_law_small_world (gCons (gV 0) (gCons (gV 1) gNil))))
  gNext))
  (gSeq (gSet 3 (gCall g_law_spoilt (gCons (gV 2) (gCons (gCall g_law_digits (gCons (gCall g_law_cell (gCons (gV 0) (gCons (gC (.int 2)) gNil))) (gCons (gOp dAdd (gOfL (gLen1 (gCons (gC (.int 8)) gNil))) (gOp dMulT (gOfL (gLen1 (gCons (gC (.int 12)) (gCons (gC (.int 24)) (gCons (gC (.int 6)) gNil))))) (gC (.int 3)))) gNil))) gNil))))
  (gSeq (gSet 4 (gCall g_law_digits (gCons (gCall g_law_cell (gCons (gV 0) (gCons (gC (.int 4)) gNil))) (gCons (gOp dAdd (gOp dMulT (gOfL (gLen1 (gCons (gC (.int 2)) gNil))) (gC (.int 144))) (gOfL (gLen1 (gCons (gC (.int 3)) (gCons (gC (.int 4)) (gCons (gC (.int 4)) gNil)))))) gNil))))
  (gSeq (gIfS (gB (gOp dGt (gOp oIx (gV 4) (gC (.int 144))) (gC (.int 0))))
  (gSeq (gSet 5 (gUn oTupOf (gOfL (gComp (gRange1 (gOp oIx (gV 3) (gC (.int 0)))) (gtName 16) (gB (gOp oEq (gOp oIx (gV 4) (gV 16)) (gC (.int 1)))) (gV 16) [16]))))
  (gSeq (gSet 6 (gUn oTupOf (gOfL (gComp (gRange1 (gOp oIx (gV 3) (gC (.int 0)))) (gtName 16) (gB (gOp oEq (gOp oIx (gV 4) (gOp dAdd (gC (.int 24)) (gV 16))) (gC (.int 1)))) (gV 16) [16]))))
  (gSeq (gSet 3 (gCall g_law_levelled (gCons (gV 3) (gCons (gV 5) (gCons (gV 6) (gCons (gOp oIx (gOfL (gLen1 (gCons (gC (.int 1)) (gCons (gC (.int 0)) (gCons (gC (.int 1)) (gCons (gUn (fun d => (asI d).bind fun i => some (.int (-i))) (gC (.int 1))) gNil)))))) (gOp oIx (gV 4) (gC (.int 145)))) (gCons (gOp oIx (gOfL (gLen1 (gCons (gC (.int 1)) (gCons (gC (.int 0)) (gCons (gC (.int 1)) (gCons (gUn (fun d => (asI d).bind fun i => some (.int (-i))) (gC (.int 1))) gNil)))))) (gOp oIx (gV 4) (gC (.int 146)))) gNil)))))))
  gNext)))
  gNext)
  (gSeq (gSet 7 (gCall fInt (gCons (gCall g_law_cell (gCons (gV 0) (gCons (gC (.int 5)) gNil))) gNil)))
  (gSeq (gSet 8 (gCall g_law_season (gCons (gV 2) gNil)))
  (gSeq (gSet 9 (gCall g_law_sharing (gCons (gV 8) (gCons (gV 3) (gCons (gOp oEq (gOp dMod (gCall fInt (gCons (gOp dFdiv (gV 7) (gC (.int 160))) gNil)) (gC (.int 2))) (gC (.int 1))) gNil)))))
  (gSeq (gIfS (gOrT (gNotT (gB (gCall g_law_singles (gCons (gV 9) (gCons (gV 3) gNil))))) (gNotT (gB (gCall g_law_singles (gCons (gV 8) (gCons (gV 2) gNil))))))
  (gSeq (gRet (gC (.bl false)))
  gNext)
  gNext)
  (gSeq (gSet 10 (gCall g_law_lots (gCons (gOp oIx (gV 3) (gC (.int 0))) (gCons (gV 4) gNil))))
  (gSeq (gSet 11 (gOp dFdiv (gV 1) (gC (.int 8))))
  (gSeq (gFor (gRange1 (gUn oLen (gV 10))) (gtName 12)
  (gSeq (gSet 13 (gCall g_law_numbers (gCons (gV 2) (gCons (gOp oIx (gV 10) (gV 12)) gNil))))
  (gSeq (gSet 14 (gCall g_law_numbers (gCons (gV 3) (gCons (gOp oIx (gV 10) (gV 12)) gNil))))
  (gSeq (gSet 15 (gOp dMod (gCall fInt (gCons (gOp dAdd (gOp dFdiv (gV 7) (gC (.int 16))) (gV 12)) gNil)) (gC (.int 2))))
  (gSeq (gIfS (gNotT (gB (gCall g_law_right (gCons (gV 8) (gCons (gV 13) (gCons (gCall g_law_shown (gCons (gOp oIx (gV 10) (gV 12)) (gCons (gOp dAdd (gV 11) (gV 12)) gNil))) (gCons (gC (.bl false)) gNil)))))))
  (gSeq (gRet (gC (.bl false)))
  gNext)
  gNext)
  (gSeq (gIfS (gNotT (gB (gCall g_law_both (gCons (gV 9) (gCons (gV 14) (gCons (gCall g_law_shown (gCons (gOp oIx (gV 10) (gV 12)) (gCons (gOp dAdd (gV 7) (gV 12)) gNil))) (gCons (gV 15) gNil)))))))
  (gSeq (gRet (gC (.bl false)))
  gNext)
  gNext)
  (gSeq (gIfS (gNotT (gB (gCall g_law_right (gCons (gV 9) (gCons (gV 14) (gCons (gCall g_law_shown (gCons (gOp oIx (gV 10) (gV 12)) (gCons (gOp dAdd (gOp dFdiv (gV 11) (gC (.int 4))) (gOp dFdiv (gV 12) (gC (.int 2)))) gNil))) (gCons (gOp oEq (gOp dMod (gCall fInt (gCons (gV 12) gNil)) (gC (.int 2))) (gC (.int 1))) gNil)))))))
  (gSeq (gRet (gC (.bl false)))
  gNext)
  gNext)
  (gSeq (gIfS (gNotT (gB (gCall g_law_both (gCons (gV 8) (gCons (gV 13) (gCons (gCall g_law_shown (gCons (gOp oIx (gV 10) (gV 12)) (gCons (gOp dAdd (gOp dFdiv (gV 7) (gC (.int 4))) (gOp dFdiv (gV 12) (gC (.int 3)))) gNil))) (gCons (gOp dSub (gC (.int 1)) (gV 15)) gNil)))))))
  (gSeq (gRet (gC (.bl false)))
  gNext)
  gNext)
  gNext))))))))
  (gSeq (gFor (gRange1 (gUn oLen (gV 10))) (gtName 12)
  (gSeq (gIfS (gOrT (gB (gOp oEq (gOp dMod (gCall fInt (gCons (gOp dAdd (gOp dFdiv (gV 7) (gC (.int 32))) (gV 12)) gNil)) (gC (.int 5))) (gC (.int 0)))) (gB (gOp oEq (gV 12) (gOp dSub (gUn oLen (gV 10)) (gC (.int 1))))))
  (gSeq (gIfS (gNotT (gB (gCall g_law_right (gCons (gV 8) (gCons (gCall g_law_numbers (gCons (gV 2) (gCons (gOp oIx (gV 10) (gV 12)) gNil))) (gCons (gOp oIx (gV 10) (gV 12)) (gCons (gC (.bl true)) gNil)))))))
  (gSeq (gRet (gC (.bl false)))
  gNext)
  gNext)
  gNext)
  gNext)
  gNext))
  (gSeq (gRet (gAnd (gCall g_law_singles (gCons (gV 9) (gCons (gV 3) gNil))) (gAnd (gCall g_law_kept (gCons (gV 9) (gCons (gV 3) gNil))) (gCall g_law_kept (gCons (gV 8) (gCons (gV 2) gNil))))))
  gNext))))))))))))))
structure Ad where
  a_law_cell : Addr
  d_law_cell : FuncData
  a_law_digits : Addr
  d_law_digits : FuncData
  a_is_whole : Addr
  d_is_whole : FuncData
  a_is_count : Addr
  d_is_count : FuncData
  a_first_fault : Addr
  d_first_fault : FuncData
  a_checked_needs : Addr
  d_checked_needs : FuncData
  a_checked_limits : Addr
  d_checked_limits : FuncData
  a_are_sides : Addr
  d_are_sides : FuncData
  a_Valley_len : Addr
  d_Valley_len : FuncData
  a_checked_sides : Addr
  d_checked_sides : FuncData
  a_Season_init : Addr
  d_Season_init : FuncData
  a_joins_mills : Addr
  d_joins_mills : FuncData
  a_Valley_init : Addr
  d_Valley_init : FuncData
  a_law_season : Addr
  d_law_season : FuncData
  a_law_sharing : Addr
  d_law_sharing : FuncData
  a_law_valley : Addr
  d_law_valley : FuncData
  a_law_fed : Addr
  d_law_fed : FuncData
  a_law_world : Addr
  d_law_world : FuncData
  a_law_drawn : Addr
  d_law_drawn : FuncData
  a_law_free : Addr
  d_law_free : FuncData
  a_law_small_world : Addr
  d_law_small_world : FuncData
  a_law_wide : Addr
  d_law_wide : FuncData
  a_law_spoilt : Addr
  d_law_spoilt : FuncData
  a_law_numbers : Addr
  d_law_numbers : FuncData
  a_law_kept : Addr
  d_law_kept : FuncData
  a_law_shown : Addr
  d_law_shown : FuncData
  a_law_subsets : Addr
  d_law_subsets : FuncData
  a_law_lots : Addr
  d_law_lots : FuncData
  a_law_levelled : Addr
  d_law_levelled : FuncData
  a_feeding_sides : Addr
  d_feeding_sides : FuncData
  a_gain : Addr
  d_gain : FuncData
  a_distinct : Addr
  d_distinct : FuncData
  a_want : Addr
  d_want : FuncData
  a_load : Addr
  d_load : FuncData
  a_bear : Addr
  d_bear : FuncData
  a_bears_too_little : Addr
  d_bears_too_little : FuncData
  a_bears_less_than_need : Addr
  d_bears_less_than_need : FuncData
  a_is_obstacle : Addr
  d_is_obstacle : FuncData
  a_law_single : Addr
  d_law_single : FuncData
  a_law_singles : Addr
  d_law_singles : FuncData
  a_law_whole : Addr
  d_law_whole : FuncData
  a_law_right : Addr
  d_law_right : FuncData
  a_law_both : Addr
  d_law_both : FuncData
  a_law : Addr
  d_law : FuncData
  c_Season : Addr
  c_Valley : Addr
  k_BOTH : Addr
  v_Season_init : List V
  w_Season_init : List (Str × V)
  v_Valley_init : List V
  w_Valley_init : List (Str × V)
structure Tx (K : PySem.W.Frag) (mg : Str → Option Value) (ad : Ad) : Prop where
  F_law_cell : Fun K "_law_cell" "_law_cell" s_law_cell ad.a_law_cell ad.d_law_cell
  m_law_cell : mg "_law_cell" = some (.ref ad.a_law_cell)
  b_law_cell : Binds K ad.d_law_cell ["script", "k"] []
  F_law_digits : Fun K "_law_digits" "_law_digits" s_law_digits ad.a_law_digits ad.d_law_digits
  m_law_digits : mg "_law_digits" = some (.ref ad.a_law_digits)
  b_law_digits : Binds K ad.d_law_digits ["cell", "sizes"] []
  F_is_whole : Fun K "is_whole" "is_whole" s_is_whole ad.a_is_whole ad.d_is_whole
  m_is_whole : mg "is_whole" = some (.ref ad.a_is_whole)
  b_is_whole : Binds K ad.d_is_whole ["value"] []
  F_is_count : Fun K "is_count" "is_count" s_is_count ad.a_is_count ad.d_is_count
  m_is_count : mg "is_count" = some (.ref ad.a_is_count)
  b_is_count : Binds K ad.d_is_count ["value"] []
  F_first_fault : Fun K "first_fault" "first_fault" s_first_fault ad.a_first_fault ad.d_first_fault
  m_first_fault : mg "first_fault" = some (.ref ad.a_first_fault)
  b_first_fault : Binds K ad.d_first_fault ["size", "good"] []
  F_checked_needs : Fun K "checked_needs" "checked_needs" s_checked_needs ad.a_checked_needs ad.d_checked_needs
  m_checked_needs : mg "checked_needs" = some (.ref ad.a_checked_needs)
  b_checked_needs : Binds K ad.d_checked_needs ["valley", "needs"] []
  F_checked_limits : Fun K "checked_limits" "checked_limits" s_checked_limits ad.a_checked_limits ad.d_checked_limits
  m_checked_limits : mg "checked_limits" = some (.ref ad.a_checked_limits)
  b_checked_limits : Binds K ad.d_checked_limits ["valley", "limits"] []
  F_are_sides : Fun K "are_sides" "are_sides" s_are_sides ad.a_are_sides ad.d_are_sides
  m_are_sides : mg "are_sides" = some (.ref ad.a_are_sides)
  b_are_sides : Binds K ad.d_are_sides ["sides"] []
  F_Valley_len : Fun K "__len__" "Valley.__len__" s_Valley_len ad.a_Valley_len ad.d_Valley_len
  b_Valley_len : Binds K ad.d_Valley_len ["self"] []
  ln_Valley : PySem.W.findIn K (.ref ad.c_Valley) "__len__" = some (some (.ref ad.a_Valley_len))
  lf_Valley : PySem.W.isFn K (.ref ad.a_Valley_len) = true
  F_checked_sides : Fun K "checked_sides" "checked_sides" s_checked_sides ad.a_checked_sides ad.d_checked_sides
  m_checked_sides : mg "checked_sides" = some (.ref ad.a_checked_sides)
  b_checked_sides : Binds K ad.d_checked_sides ["valley", "sides"] []
  F_Season_init : FunD K "__init__" "Season.__init__" (defArgs s_Season_init) (defBody s_Season_init) (defScope s_Season_init) ad.v_Season_init ad.w_Season_init ad.a_Season_init ad.d_Season_init
  kb_Season_init : KBn K ad.d_Season_init ["self", "valley", "needs", "limits", "sides"] 2 ["needs", "limits", "sides"] app2 app2
  mk_Season : Mk K ad.c_Season ad.a_Season_init
  F_joins_mills : Fun K "joins_mills" "joins_mills" s_joins_mills ad.a_joins_mills ad.d_joins_mills
  m_joins_mills : mg "joins_mills" = some (.ref ad.a_joins_mills)
  b_joins_mills : Binds K ad.d_joins_mills ["mills", "pair"] []
  F_Valley_init : FunD K "__init__" "Valley.__init__" (defArgs s_Valley_init) (defBody s_Valley_init) (defScope s_Valley_init) ad.v_Valley_init ad.w_Valley_init ad.a_Valley_init ad.d_Valley_init
  b_Valley_init : Binds K ad.d_Valley_init ["self", "mills", "sluices"] []
  mk_Valley : Mk K ad.c_Valley ad.a_Valley_init
  F_law_season : Fun K "_law_season" "_law_season" s_law_season ad.a_law_season ad.d_law_season
  m_law_season : mg "_law_season" = some (.ref ad.a_law_season)
  b_law_season : Binds K ad.d_law_season ["world"] []
  F_law_sharing : Fun K "_law_sharing" "_law_sharing" s_law_sharing ad.a_law_sharing ad.d_law_sharing
  m_law_sharing : mg "_law_sharing" = some (.ref ad.a_law_sharing)
  b_law_sharing : Binds K ad.d_law_sharing ["rule", "world", "sharing"] []
  F_law_valley : Fun K "_law_valley" "_law_valley" s_law_valley ad.a_law_valley ad.d_law_valley
  m_law_valley : mg "_law_valley" = some (.ref ad.a_law_valley)
  b_law_valley : Binds K ad.d_law_valley ["row", "upto"] []
  F_law_fed : Fun K "_law_fed" "_law_fed" s_law_fed ad.a_law_fed ad.d_law_fed
  m_law_fed : mg "_law_fed" = some (.ref ad.a_law_fed)
  b_law_fed : Binds K ad.d_law_fed ["mills", "pairs", "setting"] []
  F_law_world : Fun K "_law_world" "_law_world" s_law_world ad.a_law_world ad.d_law_world
  m_law_world : mg "_law_world" = some (.ref ad.a_law_world)
  b_law_world : Binds K ad.d_law_world ["valley", "row"] []
  F_law_drawn : Fun K "_law_drawn" "_law_drawn" s_law_drawn ad.a_law_drawn ad.d_law_drawn
  m_law_drawn : mg "_law_drawn" = some (.ref ad.a_law_drawn)
  b_law_drawn : Binds K ad.d_law_drawn ["script", "at", "upto"] []
  F_law_free : Fun K "_law_free" "_law_free" s_law_free ad.a_law_free ad.d_law_free
  m_law_free : mg "_law_free" = some (.ref ad.a_law_free)
  b_law_free : Binds K ad.d_law_free ["script"] []
  F_law_small_world : Fun K "_law_small_world" "_law_small_world" s_law_small_world ad.a_law_small_world ad.d_law_small_world
  m_law_small_world : mg "_law_small_world" = some (.ref ad.a_law_small_world)
  b_law_small_world : Binds K ad.d_law_small_world ["script", "choice"] []
  F_law_wide : Fun K "_law_wide" "_law_wide" s_law_wide ad.a_law_wide ad.d_law_wide
  m_law_wide : mg "_law_wide" = some (.ref ad.a_law_wide)
  b_law_wide : Binds K ad.d_law_wide ["script", "at", "upto"] []
  F_law_spoilt : Fun K "_law_spoilt" "_law_spoilt" s_law_spoilt ad.a_law_spoilt ad.d_law_spoilt
  m_law_spoilt : mg "_law_spoilt" = some (.ref ad.a_law_spoilt)
  b_law_spoilt : Binds K ad.d_law_spoilt ["world", "row"] []
  F_law_numbers : Fun K "_law_numbers" "_law_numbers" s_law_numbers ad.a_law_numbers ad.d_law_numbers
  m_law_numbers : mg "_law_numbers" = some (.ref ad.a_law_numbers)
  b_law_numbers : Binds K ad.d_law_numbers ["world", "group"] []
  F_law_kept : Fun K "_law_kept" "_law_kept" s_law_kept ad.a_law_kept ad.d_law_kept
  m_law_kept : mg "_law_kept" = some (.ref ad.a_law_kept)
  b_law_kept : Binds K ad.d_law_kept ["rule", "world"] []
  F_law_shown : Fun K "_law_shown" "_law_shown" s_law_shown ad.a_law_shown ad.d_law_shown
  m_law_shown : mg "_law_shown" = some (.ref ad.a_law_shown)
  b_law_shown : Binds K ad.d_law_shown ["group", "k"] []
  F_law_subsets : Fun K "_law_subsets" "_law_subsets" s_law_subsets ad.a_law_subsets ad.d_law_subsets
  m_law_subsets : mg "_law_subsets" = some (.ref ad.a_law_subsets)
  b_law_subsets : Binds K ad.d_law_subsets ["numbers", "upto"] []
  F_law_lots : Fun K "_law_lots" "_law_lots" s_law_lots ad.a_law_lots ad.d_law_lots
  m_law_lots : mg "_law_lots" = some (.ref ad.a_law_lots)
  b_law_lots : Binds K ad.d_law_lots ["mills", "row"] []
  F_law_levelled : Fun K "_law_levelled" "_law_levelled" s_law_levelled ad.a_law_levelled ad.d_law_levelled
  m_law_levelled : mg "_law_levelled" = some (.ref ad.a_law_levelled)
  b_law_levelled : Binds K ad.d_law_levelled ["world", "one", "two", "above", "below"] []
  F_feeding_sides : Fun K "feeding_sides" "feeding_sides" s_feeding_sides ad.a_feeding_sides ad.d_feeding_sides
  m_feeding_sides : mg "feeding_sides" = some (.ref ad.a_feeding_sides)
  b_feeding_sides : Binds K ad.d_feeding_sides ["season", "sluice", "lot"] []
  F_gain : Fun K "gain" "gain" s_gain ad.a_gain ad.d_gain
  m_gain : mg "gain" = some (.ref ad.a_gain)
  b_gain : Binds K ad.d_gain ["season", "lot"] []
  F_distinct : Fun K "distinct" "distinct" s_distinct ad.a_distinct ad.d_distinct
  m_distinct : mg "distinct" = some (.ref ad.a_distinct)
  b_distinct : Binds K ad.d_distinct ["numbers"] []
  F_want : Fun K "want" "want" s_want ad.a_want ad.d_want
  m_want : mg "want" = some (.ref ad.a_want)
  b_want : Binds K ad.d_want ["season", "lot"] []
  F_load : Fun K "load" "load" s_load ad.a_load ad.d_load
  m_load : mg "load" = some (.ref ad.a_load)
  b_load : Binds K ad.d_load ["season", "lot"] []
  F_bear : Fun K "bear" "bear" s_bear ad.a_bear ad.d_bear
  m_bear : mg "bear" = some (.ref ad.a_bear)
  b_bear : Binds K ad.d_bear ["season", "lot"] []
  F_bears_too_little : Fun K "bears_too_little" "bears_too_little" s_bears_too_little ad.a_bears_too_little ad.d_bears_too_little
  m_bears_too_little : mg "bears_too_little" = some (.ref ad.a_bears_too_little)
  b_bears_too_little : Binds K ad.d_bears_too_little ["season", "lot"] []
  F_bears_less_than_need : Fun K "bears_less_than_need" "bears_less_than_need" s_bears_less_than_need ad.a_bears_less_than_need ad.d_bears_less_than_need
  m_bears_less_than_need : mg "bears_less_than_need" = some (.ref ad.a_bears_less_than_need)
  b_bears_less_than_need : Binds K ad.d_bears_less_than_need ["season", "mill"] []
  F_is_obstacle : Fun K "is_obstacle" "is_obstacle" s_is_obstacle ad.a_is_obstacle ad.d_is_obstacle
  m_is_obstacle : mg "is_obstacle" = some (.ref ad.a_is_obstacle)
  b_is_obstacle : Binds K ad.d_is_obstacle ["season", "value"] []
  F_law_single : Fun K "_law_single" "_law_single" s_law_single ad.a_law_single ad.d_law_single
  m_law_single : mg "_law_single" = some (.ref ad.a_law_single)
  b_law_single : Binds K ad.d_law_single ["rule", "word", "number", "due"] []
  F_law_singles : Fun K "_law_singles" "_law_singles" s_law_singles ad.a_law_singles ad.d_law_singles
  m_law_singles : mg "_law_singles" = some (.ref ad.a_law_singles)
  b_law_singles : Binds K ad.d_law_singles ["rule", "world"] []
  F_law_whole : Fun K "_law_whole" "_law_whole" s_law_whole ad.a_law_whole ad.d_law_whole
  m_law_whole : mg "_law_whole" = some (.ref ad.a_law_whole)
  b_law_whole : Binds K ad.d_law_whole ["item"] []
  F_law_right : Fun K "_law_right" "_law_right" s_law_right ad.a_law_right ad.d_law_right
  m_law_right : mg "_law_right" = some (.ref ad.a_law_right)
  b_law_right : Binds K ad.d_law_right ["rule", "due", "shown", "named"] []
  F_law_both : Fun K "_law_both" "_law_both" s_law_both ad.a_law_both ad.d_law_both
  m_law_both : mg "_law_both" = some (.ref ad.a_law_both)
  b_law_both : Binds K ad.d_law_both ["rule", "due", "shown", "form"] []
  F_law : Fun K "law" "law" s_law ad.a_law ad.d_law
  m_law : mg "law" = some (.ref ad.a_law)
  kp_bear_0_season_lot : KBn K ad.d_bear ["season", "lot"] 0 ["season", "lot"] (appP [0, 1]) (appP [0, 1])
  kp_gain_0_lot_season : KBn K ad.d_gain ["season", "lot"] 0 ["lot", "season"] (appP [1, 0]) (appP [1, 0])
  kp_is_obstacle_0_season_value : KBn K ad.d_is_obstacle ["season", "value"] 0 ["season", "value"] (appP [0, 1]) (appP [0, 1])
  kp_is_obstacle_0_value_season : KBn K ad.d_is_obstacle ["season", "value"] 0 ["value", "season"] (appP [1, 0]) (appP [1, 0])
  kp_load_0_season_lot : KBn K ad.d_load ["season", "lot"] 0 ["season", "lot"] (appP [0, 1]) (appP [0, 1])
  kp_want_0_lot_season : KBn K ad.d_want ["season", "lot"] 0 ["lot", "season"] (appP [1, 0]) (appP [1, 0])
  oc_Season : OwnC K mg "Season" ad.c_Season ["Season", "Valley"]
  oc_Valley : OwnC K mg "Valley" ad.c_Valley ["Season", "Valley"]
  fo_Season_limits : FldOk K mg "Season" "limits"
  fo_Season_needs : FldOk K mg "Season" "needs"
  fo_Season_sides : FldOk K mg "Season" "sides"
  fo_Season_valley : FldOk K mg "Season" "valley"
  fo_Valley_mills : FldOk K mg "Valley" "mills"
  fo_Valley_sluices : FldOk K mg "Valley" "sluices"
  m_BOTH : mg "BOTH" = some (.ref ad.k_BOTH)
  r_BOTH : ∀ F, Rp K mg F c_BOTH (.ref ad.k_BOTH)
  z_all : mg "all" = none
  z_bool : mg "bool" = none
  z_enumerate : mg "enumerate" = none
  z_int : mg "int" = none
  z_isinstance : mg "isinstance" = none
  z_len : mg "len" = none
  z_list : mg "list" = none
  z_max : mg "max" = none
  z_min : mg "min" = none
  z_range : mg "range" = none
  z_set : mg "set" = none
  z_sorted : mg "sorted" = none
  z_sum : mg "sum" = none
  z_tuple : mg "tuple" = none
section
variable {P : Program} {w : World} {K : PySem.W.Frag} {mg : Str → Option Value} {base : Heap} {ad : Ad}
theorem ok_law_cell (T : Tx K mg ad) : FnOk P w K mg base CX0 1 ad.a_law_cell ad.d_law_cell ["script", "k"] (spP K mg 2 g_law_cell) := ok_def T.F_law_cell sc_law_cell fun cdv A outer s H E hr =>
    (puss_cons (pus_if (put_cmp op_lt rel_lt (nomark _) (pu_var (pv 1)) (pub_len (by rfl) T.z_len (pub_of (pu_var (pv 0)))))
    (puss_cons (pus_ret (pub_ix (pub_of (pu_var (pv 0))) (pu_var (pv 1))))
    puss_nil)
    puss_nil)
    (puss_cons (pus_set (i := 2) sc_law_cell.nd rfl (.inl rfl) pu_int)
    (puss_cons (pus_for PassesOwn.never rfl (pui_seq (pu_var (pv 0))) (pug_name (i := 3) sc_law_cell.nd rfl (.inl rfl))
    (puss_cons (pus_set (i := 2) sc_law_cell.nd rfl (.inl rfl) (pu_op op_mod rel_mod (pu_callTy call_int1 relc_int (by rfl) T.z_int (by decide +kernel) (pua_cons (pu_op opAdd rel_add (pu_op opMulT rel_mulT (pu_var (pv 2)) pu_int) (pu_op op_mod rel_mod (pu_callTy call_int1 relc_int (by rfl) T.z_int (by decide +kernel) (pua_cons (pu_var (pv 3)) pua_nil)) pu_int)) pua_nil)) pu_int))
    puss_nil))
    (puss_cons (pus_ret (pu_op op_mod rel_mod (pu_callTy call_int1 relc_int (by rfl) T.z_int (by decide +kernel) (pua_cons (pu_op opMulT rel_mulT (pu_op opMulT rel_mulT (pu_op opAdd rel_add (pu_var (pv 2)) pu_int) (pu_op opAdd rel_add (pu_var (pv 1)) pu_int)) pu_int) pua_nil)) pu_int))
    puss_nil))))
theorem ok_law_digits (T : Tx K mg ad) : FnOk P w K mg base CX0 1 ad.a_law_digits ad.d_law_digits ["cell", "sizes"] (spP K mg 2 g_law_digits) := ok_def T.F_law_digits sc_law_digits fun cdv A outer s H E hr =>
    (puss_cons (pus_setOw (i := 2) sc_law_digits.nd rfl (.inl rfl) (pul_lst pua_nil))
    (puss_cons (pus_set (i := 3) sc_law_digits.nd rfl (.inl rfl) (pu_callTy call_int1 relc_int (by rfl) T.z_int (by decide +kernel) (pua_cons (pu_var (pv 0)) pua_nil)))
    (puss_cons (pus_if (put_cmp op_ge rel_ge (nomark _) (pu_var (pv 3)) (pu_op op_pow rel_pow pu_int pu_int))
    (puss_cons (pus_set (i := 3) sc_law_digits.nd rfl (.inl rfl) (pu_op op_sub rel_sub (pu_var (pv 3)) (pu_op op_pow rel_pow pu_int pu_int)))
    (puss_cons (pus_for PassesOwn.never rfl (pui_seq (pu_var (pv 1))) (pug_name (i := 4) sc_law_digits.nd rfl (.inl rfl))
    (puss_cons (pus_app (i := 2) (pv 2) (pu_op op_mod rel_mod (pu_callTy call_int1 relc_int (by rfl) T.z_int (by decide +kernel) (pua_cons (pu_var (pv 3)) pua_nil)) (pu_var (pv 4))))
    (puss_cons (pus_set (i := 3) sc_law_digits.nd rfl (.inl rfl) (pu_op op_fdiv rel_fdiv (pu_callTy call_int1 relc_int (by rfl) T.z_int (by decide +kernel) (pua_cons (pu_var (pv 3)) pua_nil)) (pu_var (pv 4))))
    puss_nil)))
    (puss_cons (pus_freeze 2 (pus_ret (pu_var (pv 2))))
    puss_nil)))
    puss_nil)
    (puss_cons (pus_set (i := 5) sc_law_digits.nd rfl (.inl rfl) (pu_op op_mod rel_mod (pu_callTy call_int1 relc_int (by rfl) T.z_int (by decide +kernel) (pua_cons (pu_var (pv 3)) pua_nil)) pu_int))
    (puss_cons (pus_for PassesOwn.never rfl (pui_range1 (by rfl) T.z_range (pub_len (by rfl) T.z_len (pub_of (pu_var (pv 1))))) (pug_name (i := 6) sc_law_digits.nd rfl (.inl rfl))
    (puss_cons (pus_set (i := 5) sc_law_digits.nd rfl (.inl rfl) (pu_op op_mod rel_mod (pu_callTy call_int1 relc_int (by rfl) T.z_int (by decide +kernel) (pua_cons (pu_op opAdd rel_add (pu_op opAdd rel_add (pu_op opMulT rel_mulT (pu_var (pv 5)) pu_int) (pu_op opMulT rel_mulT pu_int (pu_var (pv 6)))) pu_int) pua_nil)) pu_int))
    (puss_cons (pus_set (i := 7) sc_law_digits.nd rfl (.inl rfl) (pu_op op_mod rel_mod (pu_callTy call_int1 relc_int (by rfl) T.z_int (by decide +kernel) (pua_cons (pu_op opMulT rel_mulT (pu_var (pv 5)) (pu_op opAdd rel_add (pu_op op_fdiv rel_fdiv (pu_var (pv 5)) pu_int) pu_int)) pua_nil)) pu_int))
    (puss_cons (pus_app (i := 2) (pv 2) (pu_op op_mod rel_mod (pu_callTy call_int1 relc_int (by rfl) T.z_int (by decide +kernel) (pua_cons (pu_op op_fdiv rel_fdiv (pu_var (pv 7)) pu_int) pua_nil)) (pub_ix (pub_of (pu_var (pv 1))) (pu_var (pv 6)))))
    puss_nil))))
    (puss_cons (pus_freeze 2 (pus_ret (pu_var (pv 2))))
    puss_nil))))))
theorem ok_is_whole (T : Tx K mg ad) : FnOk P w K mg base CX0 1 ad.a_is_whole ad.d_is_whole ["value"] (spP K mg 1 g_is_whole) := ok_def T.F_is_whole sc_is_whole fun cdv A outer s H E hr =>
    (puss_cons (pus_ret (pu_and (pu_callB call_isi relc_isi (by rfl) T.z_isinstance (by decide +kernel) (pua_cons (pu_var (pv 0)) (pua_cons (pu_ty (by rfl) T.z_int (by decide +kernel)) pua_nil))) (pu_one (pu_not (pu_callB call_isi relc_isi (by rfl) T.z_isinstance (by decide +kernel) (pua_cons (pu_var (pv 0)) (pua_cons (pu_ty (by rfl) T.z_bool (by decide +kernel)) pua_nil)))))))
    puss_nil)
theorem ok_is_count (T : Tx K mg ad) : FnOk P w K mg base CX0 2 ad.a_is_count ad.d_is_count ["value"] (spP K mg 1 g_is_count) := ok_def T.F_is_count sc_is_count fun cdv A outer s H E hr =>
    (puss_cons (pus_ret (pu_and (pu_call (ok_is_whole T) (hr.mono (by decide)) (by rfl) T.m_is_whole T.F_is_whole.kp T.b_is_whole (fun _ _ => gDef_len) (pua_cons (pu_var (pv 0)) pua_nil)) (pu_one (pu_cmp op_ge rel_ge (nomark _) (pu_var (pv 0)) pu_int))))
    puss_nil)
theorem ok_first_fault (T : Tx K mg ad) : FnOk P w K mg base CX0 1 ad.a_first_fault ad.d_first_fault ["size", "good"] (spP K mg 2 g_first_fault) := ok_def T.F_first_fault sc_first_fault fun cdv A outer s H E hr =>
    (puss_cons (pus_for PassesOwn.never rfl (pui_range1 (by rfl) T.z_range (pu_callB (call_max2 rfl) relc_max2 (by rfl) T.z_max (by decide +kernel) (pua_cons (pu_var (pv 0)) (pua_cons (pub_len (by rfl) T.z_len (pub_of (pu_var (pv 1)))) pua_nil)))) (pug_name (i := 2) sc_first_fault.nd rfl (.inl rfl))
    (puss_cons (pus_if (puw_or (put_cmp op_ge rel_ge (nomark _) (pu_var (pv 2)) (pu_var (pv 0))) (puw_or (put_cmp op_ge rel_ge (nomark _) (pu_var (pv 2)) (pub_len (by rfl) T.z_len (pub_of (pu_var (pv 1))))) (puw_or1 (put_not (put_val (pub_ix (pub_of (pu_var (pv 1))) (pu_var (pv 2)))))))).pt
    (puss_cons (pus_ret (pu_var (pv 2)))
    puss_nil)
    puss_nil)
    puss_nil))
    (puss_cons (pus_ret pu_non)
    puss_nil))
theorem ok_checked_needs (T : Tx K mg ad) : FnOk P w K mg base CX0 3 ad.a_checked_needs ad.d_checked_needs ["valley", "needs"] (spP K mg 2 g_checked_needs) := ok_def T.F_checked_needs sc_checked_needs fun cdv A outer s H E hr =>
    (puss_cons (pus_if (put_cmp op_isN rel_isN (nomark _) (pu_var (pv 1)) pu_non)
    (puss_cons (pus_ret (pu_op opMulT rel_mulT (pu_tup (pua_cons pu_int pua_nil)) (pu_fld T.fo_Valley_mills (pu_var (pv 0)))))
    puss_nil)
    puss_nil)
    (puss_cons (pus_set (i := 2) sc_checked_needs.nd rfl (.inl rfl) (pu_call (ok_first_fault T) (hr.mono (by decide)) (by rfl) T.m_first_fault T.F_first_fault.kp T.b_first_fault (fun _ _ => gDef_len) (pua_cons (pu_fld T.fo_Valley_mills (pu_var (pv 0))) (pua_cons (pu_ofL (pul_lc (own := [("need", 3)]) rfl sc_checked_needs.nd (pui_seq (pu_var (pv 1))) (blkOk_by (N := N_checked_needs) (sc := defScope s_checked_needs) (by decide +kernel)) (by decide) (fun _ _ _ _ _ => (pug_name (i := 3) sc_checked_needs.nd rfl (.inl rfl))) (fun _ _ _ _ _ => puts_nil) (fun _ _ _ _ _ => (pu_call (ok_is_count T) (hr.mono (by decide)) (by rfl) T.m_is_count T.F_is_count.kp T.b_is_count (fun _ _ => gDef_len) (pua_cons (pu_var (pv 3)) pua_nil))))) pua_nil))))
    (puss_cons (pus_if (put_cmp op_notN rel_isnotN (nomark _) (pu_var (pv 2)) pu_non)
    (puss_cons pus_stuck
    puss_nil)
    puss_nil)
    (puss_cons (pus_ret (pub_tupleOf (by rfl) T.z_tuple (pub_of (pu_var (pv 1)))))
    puss_nil))))
theorem ok_checked_limits (T : Tx K mg ad) : FnOk P w K mg base CX0 3 ad.a_checked_limits ad.d_checked_limits ["valley", "limits"] (spP K mg 2 g_checked_limits) := ok_def T.F_checked_limits sc_checked_limits fun cdv A outer s H E hr =>
    (puss_cons (pus_if (put_cmp op_isN rel_isN (nomark _) (pu_var (pv 1)) pu_non)
    (puss_cons (pus_ret (pu_op opMulT rel_mulT (pu_tup (pua_cons pu_non pua_nil)) (pu_fld T.fo_Valley_mills (pu_var (pv 0)))))
    puss_nil)
    puss_nil)
    (puss_cons (pus_set (i := 2) sc_checked_limits.nd rfl (.inl rfl) (pu_call (ok_first_fault T) (hr.mono (by decide)) (by rfl) T.m_first_fault T.F_first_fault.kp T.b_first_fault (fun _ _ => gDef_len) (pua_cons (pu_fld T.fo_Valley_mills (pu_var (pv 0))) (pua_cons (pu_ofL (pul_lc (own := [("limit", 3)]) rfl sc_checked_limits.nd (pui_seq (pu_var (pv 1))) (blkOk_by (N := N_checked_limits) (sc := defScope s_checked_limits) (by decide +kernel)) (by decide) (fun _ _ _ _ _ => (pug_name (i := 3) sc_checked_limits.nd rfl (.inl rfl))) (fun _ _ _ _ _ => puts_nil) (fun _ _ _ _ _ => (pu_or (pu_cmp op_isN rel_isN (nomark _) (pu_var (pv 3)) pu_non) (pu_one (pu_call (ok_is_count T) (hr.mono (by decide)) (by rfl) T.m_is_count T.F_is_count.kp T.b_is_count (fun _ _ => gDef_len) (pua_cons (pu_var (pv 3)) pua_nil))))))) pua_nil))))
    (puss_cons (pus_if (put_cmp op_notN rel_isnotN (nomark _) (pu_var (pv 2)) pu_non)
    (puss_cons pus_stuck
    puss_nil)
    puss_nil)
    (puss_cons (pus_ret (pub_tupleOf (by rfl) T.z_tuple (pub_of (pu_var (pv 1)))))
    puss_nil))))
theorem ok_are_sides (T : Tx K mg ad) : FnOk P w K mg base CX0 2 ad.a_are_sides ad.d_are_sides ["sides"] (spP K mg 1 g_are_sides) := ok_def T.F_are_sides sc_are_sides fun cdv A outer s H E hr =>
    (puss_cons (pus_ret (pu_and (pu_callB (cr_all rfl) relc_all (by rfl) T.z_all (by decide +kernel) (pua_cons (pu_ofL (pul_lc (own := [("side", 1)]) rfl sc_are_sides.nd (pui_seq (pu_var (pv 0))) (blkOk_by (N := N_are_sides) (sc := defScope s_are_sides) (by decide +kernel)) (by decide) (fun _ _ _ _ _ => (pug_name (i := 1) sc_are_sides.nd rfl (.inl rfl))) (fun _ _ _ _ _ => puts_nil) (fun _ _ _ _ _ => (pu_call (ok_is_whole T) (hr.mono (by decide)) (by rfl) T.m_is_whole T.F_is_whole.kp T.b_is_whole (fun _ _ => gDef_len) (pua_cons (pu_var (pv 1)) pua_nil))))) pua_nil)) (pu_one (pu_cmp (opIn (hu65 hr)) rel_inA (by rfl) (pu_var (pv 0)) (pu_tup (pua_cons (pu_glob (v := .ref ad.k_BOTH) (by rfl) T.m_BOTH rfl T.r_BOTH) (pua_cons (pu_tup (pua_cons pu_int pua_nil)) (pua_cons (pu_tup (pua_cons pu_int pua_nil)) (pua_cons (pu_tup pua_nil) pua_nil)))))))))
    puss_nil)
theorem ok_Valley_len (T : Tx K mg ad) : FnOk P w K mg base CX0 1 ad.a_Valley_len ad.d_Valley_len ["self"] (spP K mg 1 g_Valley_len) := ok_def T.F_Valley_len sc_Valley_len fun cdv A outer s H E hr =>
    (puss_cons (pus_ret (pub_len (by rfl) T.z_len (pub_of (pu_fld T.fo_Valley_sluices (pu_var (pv 0))))))
    puss_nil)
theorem ok_checked_sides (T : Tx K mg ad) : FnOk P w K mg base CX0 3 ad.a_checked_sides ad.d_checked_sides ["valley", "sides"] (spP K mg 2 g_checked_sides) := ok_def T.F_checked_sides sc_checked_sides fun cdv A outer s H E hr =>
    (puss_cons (pus_if (put_cmp op_isN rel_isN (nomark _) (pu_var (pv 1)) pu_non)
    (puss_cons (pus_ret (pu_op opMulT rel_mulT (pu_tup (pua_cons (pu_glob (v := .ref ad.k_BOTH) (by rfl) T.m_BOTH rfl T.r_BOTH) pua_nil)) (pu_lenOwn T.oc_Valley.at_ T.ln_Valley T.lf_Valley (ok_Valley_len T) T.b_Valley_len (hr.mono (by decide)) (by rfl) T.z_len (pu_var (pv 0)))))
    puss_nil)
    puss_nil)
    (puss_cons (pus_set (i := 2) sc_checked_sides.nd rfl (.inl rfl) (pub_tupleOf (by rfl) T.z_tuple (pub_of (pu_ofL (pul_lc (own := [("let", 4)]) rfl sc_checked_sides.nd (pui_seq (pu_var (pv 1))) (blkOk_by (N := N_checked_sides) (sc := defScope s_checked_sides) (by decide +kernel)) (by decide) (fun _ _ _ _ _ => (pug_name (i := 4) sc_checked_sides.nd rfl (.inl rfl))) (fun _ _ _ _ _ => puts_nil) (fun _ _ _ _ _ => (pub_tupleOf (by rfl) T.z_tuple (pub_of (pu_var (pv 4))))))))))
    (puss_cons (pus_set (i := 3) sc_checked_sides.nd rfl (.inl rfl) (pu_call (ok_first_fault T) (hr.mono (by decide)) (by rfl) T.m_first_fault T.F_first_fault.kp T.b_first_fault (fun _ _ => gDef_len) (pua_cons (pu_lenOwn T.oc_Valley.at_ T.ln_Valley T.lf_Valley (ok_Valley_len T) T.b_Valley_len (hr.mono (by decide)) (by rfl) T.z_len (pu_var (pv 0))) (pua_cons (pu_ofL (pul_lc (own := [("let", 4)]) rfl sc_checked_sides.nd (pui_seq (pu_var (pv 2))) (blkOk_by (N := N_checked_sides) (sc := defScope s_checked_sides) (by decide +kernel)) (by decide) (fun _ _ _ _ _ => (pug_name (i := 4) sc_checked_sides.nd rfl (.inl rfl))) (fun _ _ _ _ _ => puts_nil) (fun _ _ _ _ _ => (pu_call (ok_are_sides T) (hr.mono (by decide)) (by rfl) T.m_are_sides T.F_are_sides.kp T.b_are_sides (fun _ _ => gDef_len) (pua_cons (pu_var (pv 4)) pua_nil))))) pua_nil))))
    (puss_cons (pus_if (put_cmp op_notN rel_isnotN (nomark _) (pu_var (pv 3)) pu_non)
    (puss_cons pus_stuck
    puss_nil)
    puss_nil)
    (puss_cons (pus_ret (pu_var (pv 2)))
    puss_nil)))))
theorem ok_Season_init (T : Tx K mg ad) : FnOk P w K mg base CX0 4 ad.a_Season_init ad.d_Season_init ["self", "valley", "needs", "limits", "sides"] (spI K mg 4 "Season" g_Season_init) := ok_initD T.F_Season_init sc_Season_init rfl fun cdv A outer s H E hr =>
    (puss_cons (pus_setFld T.fo_Season_valley (pv 0) (pu_var (pv 1)))
    (puss_cons (pus_setFld T.fo_Season_needs (pv 0) (pu_call (ok_checked_needs T) (hr.mono (by decide)) (by rfl) T.m_checked_needs T.F_checked_needs.kp T.b_checked_needs (fun _ _ => gDef_len) (pua_cons (pu_var (pv 1)) (pua_cons (pu_var (pv 2)) pua_nil))))
    (puss_cons (pus_setFld T.fo_Season_limits (pv 0) (pu_call (ok_checked_limits T) (hr.mono (by decide)) (by rfl) T.m_checked_limits T.F_checked_limits.kp T.b_checked_limits (fun _ _ => gDef_len) (pua_cons (pu_var (pv 1)) (pua_cons (pu_var (pv 3)) pua_nil))))
    (puss_cons (pus_setFld T.fo_Season_sides (pv 0) (pu_call (ok_checked_sides T) (hr.mono (by decide)) (by rfl) T.m_checked_sides T.F_checked_sides.kp T.b_checked_sides (fun _ _ => gDef_len) (pua_cons (pu_var (pv 1)) (pua_cons (pu_var (pv 4)) pua_nil))))
    puss_nil))))
theorem ok_joins_mills (T : Tx K mg ad) : FnOk P w K mg base CX0 2 ad.a_joins_mills ad.d_joins_mills ["mills", "pair"] (spP K mg 2 g_joins_mills) := ok_def T.F_joins_mills sc_joins_mills fun cdv A outer s H E hr =>
    (puss_cons (pus_setLc (i := 2) (own := [("mill", 3)]) rfl sc_joins_mills.nd rfl rfl (sw_true rfl rfl rfl (by decide +kernel)) (pui_seq (pu_var (pv 1))) (blkOk_by (N := N_joins_mills) (sc := defScope s_joins_mills) (by decide +kernel)) (by decide) (fun _ _ _ _ _ => (pug_name (i := 3) sc_joins_mills.nd rfl (.inl rfl))) (fun _ _ _ _ _ => puts_nil) (fun _ _ _ _ _ => (pu_and (pu_call (ok_is_whole T) (hr.mono (by decide)) (by rfl) T.m_is_whole T.F_is_whole.kp T.b_is_whole (fun _ _ => gDef_len) (pua_cons (pu_var (pv 3)) pua_nil)) (pu_one (pu_chain op_le rel_le op_lt rel_lt pu_int (pu_var (pv 3)) (pu_var (pv 0)))))))
    (puss_freeze 2 (puss_cons (pus_ret (pu_and (pu_cmp (op_eqD (hu64 hr)) rel_eq (nomark _) (pu_var (pv 2)) (pu_ofL (pul_lst (pua_cons pu_bl (pua_cons pu_bl pua_nil))))) (pu_one (pu_cmp (op_neD (hu64 hr)) rel_ne (nomark _) (pub_ix (pub_of (pu_var (pv 1))) pu_int) (pub_ix (pub_of (pu_var (pv 1))) pu_int)))))
    puss_nil)))
theorem ok_Valley_init (T : Tx K mg ad) : FnOk P w K mg base CX0 3 ad.a_Valley_init ad.d_Valley_init ["self", "mills", "sluices"] (spI K mg 2 "Valley" g_Valley_init) := ok_initD T.F_Valley_init sc_Valley_init rfl fun cdv A outer s H E hr =>
    (puss_cons (pus_set (i := 3) sc_Valley_init.nd rfl (.inl rfl) (pub_tupleOf (by rfl) T.z_tuple (pub_of (pu_ofL (pul_lc (own := [("item", 6)]) rfl sc_Valley_init.nd (pui_seq (pu_var (pv 2))) (blkOk_by (N := N_Valley_init) (sc := defScope s_Valley_init) (by decide +kernel)) (by decide) (fun _ _ _ _ _ => (pug_name (i := 6) sc_Valley_init.nd rfl (.inl rfl))) (fun _ _ _ _ _ => puts_nil) (fun _ _ _ _ _ => (pub_tupleOf (by rfl) T.z_tuple (pub_of (pu_var (pv 6))))))))))
    (puss_cons (pus_for PassesOwn.never rfl (pui_enum (by rfl) T.z_enumerate (pu_var (pv 3))) (pug_tup rfl (pugs_cons (pug_name (i := 4) sc_Valley_init.nd rfl (.inl rfl)) (pugs_cons (pug_name (i := 5) sc_Valley_init.nd rfl (.inl rfl)) pugs_nil)) rfl rfl (gt_len (gt_len gt_len0)))
    (puss_cons (pus_if (put_not (put_val (pu_call (ok_joins_mills T) (hr.mono (by decide)) (by rfl) T.m_joins_mills T.F_joins_mills.kp T.b_joins_mills (fun _ _ => gDef_len) (pua_cons (pu_var (pv 1)) (pua_cons (pu_var (pv 5)) pua_nil)))))
    (puss_cons pus_stuck
    puss_nil)
    puss_nil)
    puss_nil))
    (puss_cons (pus_setFld T.fo_Valley_mills (pv 0) (pu_var (pv 1)))
    (puss_cons (pus_setFld T.fo_Valley_sluices (pv 0) (pu_var (pv 3)))
    puss_nil))))
theorem ok_law_season (T : Tx K mg ad) : FnOk P w K mg base CX0 6 ad.a_law_season ad.d_law_season ["world"] (spP K mg 1 g_law_season) := ok_def T.F_law_season sc_law_season fun cdv A outer s H E hr =>
    (puss_cons (pus_ret (pu_makeK (i := 1) (ks := ["needs", "limits", "sides"]) T.mk_Season (ok_Season_init T) (hr.mono (by decide)) (by rfl) T.oc_Season.at_ T.kb_Season_init (by decide) (gl_cons gl_nil) (gl_cons (gl_cons (gl_cons gl_nil))) (pua_cons (pu_make T.mk_Valley (ok_Valley_init T) (hr.mono (by decide)) (by rfl) T.oc_Valley.at_ T.b_Valley_init (fun _ _ _ => gInit_len) (pua_cons (pub_ix (pub_of (pu_var (pv 0))) pu_int) (pua_cons (pu_ofL (pul_listOf (by rfl) T.z_list (pub_of (pub_ix (pub_of (pu_var (pv 0))) pu_int)))) pua_nil))) pua_nil) (puk_cons (pu_ofL (pul_listOf (by rfl) T.z_list (pub_of (pub_ix (pub_of (pu_var (pv 0))) pu_int)))) (puk_cons (pu_ofL (pul_listOf (by rfl) T.z_list (pub_of (pub_ix (pub_of (pu_var (pv 0))) pu_int)))) (puk_cons (pu_ofL (pul_listOf (by rfl) T.z_list (pub_of (pub_ix (pub_of (pu_var (pv 0))) pu_int)))) puk_nil)))))
    puss_nil)
theorem ok_law_sharing (T : Tx K mg ad) : FnOk P w K mg base CX0 6 ad.a_law_sharing ad.d_law_sharing ["rule", "world", "sharing"] (spP K mg 3 g_law_sharing) := ok_def T.F_law_sharing sc_law_sharing fun cdv A outer s H E hr =>
    (puss_cons (pus_set (i := 3) sc_law_sharing.nd rfl (.inl rfl) (pu_if (put_val (pu_var (pv 2))) (pu_fld T.fo_Season_valley (pu_var (pv 0))) (pu_make T.mk_Valley (ok_Valley_init T) (hr.mono (by decide)) (by rfl) T.oc_Valley.at_ T.b_Valley_init (fun _ _ _ => gInit_len) (pua_cons (pub_ix (pub_of (pu_var (pv 1))) pu_int) (pua_cons (pu_ofL (pul_listOf (by rfl) T.z_list (pub_of (pub_ix (pub_of (pu_var (pv 1))) pu_int)))) pua_nil)))))
    (puss_cons (pus_ret (pu_makeK (i := 1) (ks := ["needs", "limits", "sides"]) T.mk_Season (ok_Season_init T) (hr.mono (by decide)) (by rfl) T.oc_Season.at_ T.kb_Season_init (by decide) (gl_cons gl_nil) (gl_cons (gl_cons (gl_cons gl_nil))) (pua_cons (pu_var (pv 3)) pua_nil) (puk_cons (pu_ofL (pul_listOf (by rfl) T.z_list (pub_of (pub_ix (pub_of (pu_var (pv 1))) pu_int)))) (puk_cons (pu_ofL (pul_listOf (by rfl) T.z_list (pub_of (pub_ix (pub_of (pu_var (pv 1))) pu_int)))) (puk_cons (pu_ofL (pul_listOf (by rfl) T.z_list (pub_of (pub_ix (pub_of (pu_var (pv 1))) pu_int)))) puk_nil)))))
    puss_nil))
theorem ok_law_valley (T : Tx K mg ad) : FnOk P w K mg base CX0 1 ad.a_law_valley ad.d_law_valley ["row", "upto"] (spP K mg 2 g_law_valley) := ok_def T.F_law_valley sc_law_valley fun cdv A outer s H E hr =>
    (puss_cons (pus_set (i := 2) sc_law_valley.nd rfl (.inl rfl) (pub_ix (pub_of (pu_op opMulT rel_mulT (pu_ofL (pul_lst (pua_cons pu_int (pua_cons pu_int (pua_cons pu_int (pua_cons pu_int (pua_cons pu_int (pua_cons pu_int (pua_cons pu_int (pua_cons pu_int (pua_cons pu_int (pua_cons pu_int (pua_cons pu_int (pua_cons pu_int pua_nil)))))))))))))) pu_int)) (pu_op op_mod rel_mod (pu_callTy call_int1 relc_int (by rfl) T.z_int (by decide +kernel) (pua_cons (pub_ix (pub_of (pu_var (pv 0))) pu_int) pua_nil)) pu_int)))
    (puss_cons (pus_if (put_cmp (op_eqD (hu64 hr)) rel_eq (nomark _) (pub_ix (pub_of (pu_var (pv 0))) pu_int) pu_int)
    (puss_cons (pus_set (i := 2) sc_law_valley.nd rfl (.inl rfl) pu_int)
    puss_nil)
    puss_nil)
    (puss_cons (pus_set (i := 3) sc_law_valley.nd rfl (.inl rfl) (pub_ix (pub_of (pu_op opMulT rel_mulT (pu_ofL (pul_lst (pua_cons pu_int (pua_cons pu_int (pua_cons pu_int (pua_cons pu_int (pua_cons pu_int (pua_cons pu_int (pua_cons pu_int (pua_cons pu_int (pua_cons pu_int (pua_cons pu_int (pua_cons pu_int (pua_cons pu_int pua_nil)))))))))))))) pu_int)) (pu_op op_mod rel_mod (pu_callTy call_int1 relc_int (by rfl) T.z_int (by decide +kernel) (pua_cons (pub_ix (pub_of (pu_var (pv 0))) pu_int) pua_nil)) pu_int)))
    (puss_cons (pus_if (put_cmp op_ge rel_ge (nomark _) (pub_ix (pub_of (pu_var (pv 0))) pu_int) pu_int)
    (puss_cons (pus_set (i := 3) sc_law_valley.nd rfl (.inl rfl) (pu_op op_sub rel_sub pu_int (pub_ix (pub_of (pu_var (pv 0))) pu_int)))
    puss_nil)
    puss_nil)
    (puss_cons (pus_setOw (i := 4) sc_law_valley.nd rfl (.inl rfl) (pul_lst pua_nil))
    (puss_cons (pus_if (put_cmp op_gt rel_gt (nomark _) (pu_var (pv 2)) pu_int)
    (puss_cons (pus_for PassesOwn.never rfl (pui_range1 (by rfl) T.z_range (pu_callB (call_min2 rfl) relc_min2 (by rfl) T.z_min (by decide +kernel) (pua_cons (pu_var (pv 3)) (pua_cons (pu_var (pv 1)) pua_nil)))) (pug_name (i := 5) sc_law_valley.nd rfl (.inl rfl))
    (puss_cons (pus_set (i := 6) sc_law_valley.nd rfl (.inl rfl) (pu_op op_mod rel_mod (pu_callTy call_int1 relc_int (by rfl) T.z_int (by decide +kernel) (pua_cons (pub_ix (pub_of (pu_var (pv 0))) (pu_op opAdd rel_add pu_int (pu_op opMulT rel_mulT pu_int (pu_var (pv 5))))) pua_nil)) (pu_var (pv 2))))
    (puss_cons (pus_set (i := 7) sc_law_valley.nd rfl (.inl rfl) (pu_op op_mod rel_mod (pu_callTy call_int1 relc_int (by rfl) T.z_int (by decide +kernel) (pua_cons (pu_op opAdd rel_add (pu_op opAdd rel_add (pu_var (pv 6)) pu_int) (pu_op op_mod rel_mod (pu_callTy call_int1 relc_int (by rfl) T.z_int (by decide +kernel) (pua_cons (pub_ix (pub_of (pu_var (pv 0))) (pu_op opAdd rel_add pu_int (pu_op opMulT rel_mulT pu_int (pu_var (pv 5))))) pua_nil)) (pu_op op_sub rel_sub (pu_var (pv 2)) pu_int))) pua_nil)) (pu_var (pv 2))))
    (puss_cons (pus_if (puw_and (puw_or (put_cmp (op_eqD (hu64 hr)) rel_eq (nomark _) (pub_ix (pub_of (pu_var (pv 0))) pu_int) pu_int) (puw_or1 (put_cmp (op_eqD (hu64 hr)) rel_eq (nomark _) (pub_ix (pub_of (pu_var (pv 0))) pu_int) pu_int))).pt (puw_and1 (put_cmp op_lt rel_lt (nomark _) (pu_var (pv 5)) (pu_var (pv 2))))).pt
    (puss_cons (pus_set (i := 6) sc_law_valley.nd rfl (.inl rfl) (pu_var (pv 5)))
    (puss_cons (pus_set (i := 7) sc_law_valley.nd rfl (.inl rfl) (pu_op op_mod rel_mod (pu_callTy call_int1 relc_int (by rfl) T.z_int (by decide +kernel) (pua_cons (pu_op opAdd rel_add (pu_var (pv 5)) pu_int) pua_nil)) (pu_var (pv 2))))
    puss_nil))
    puss_nil)
    (puss_cons (pus_if (puw_or (puw_and (put_cmp op_ge rel_ge (nomark _) (pub_ix (pub_of (pu_var (pv 0))) pu_int) pu_int) (puw_and1 (put_cmp (op_eqD (hu64 hr)) rel_eq (nomark _) (pu_var (pv 5)) pu_int))).pt (puw_or1 (puw_and (put_cmp (op_eqD (hu64 hr)) rel_eq (nomark _) (pub_ix (pub_of (pu_var (pv 0))) pu_int) pu_int) (puw_and1 (put_cmp (op_eqD (hu64 hr)) rel_eq (nomark _) (pu_var (pv 5)) pu_int))).pt)).pt
    (puss_cons (pus_set (i := 6) sc_law_valley.nd rfl (.inl rfl) (pub_ix (pub_of (pub_ix (pub_var (pv 4)) (pu_op op_sub rel_sub (pu_var (pv 5)) pu_int))) pu_int))
    (puss_cons (pus_set (i := 7) sc_law_valley.nd rfl (.inl rfl) (pub_ix (pub_of (pub_ix (pub_var (pv 4)) (pu_op op_sub rel_sub (pu_var (pv 5)) pu_int))) pu_int))
    puss_nil))
    puss_nil)
    (puss_cons (pus_app (i := 4) (pv 4) (pu_tup (pua_cons (pu_var (pv 6)) (pua_cons (pu_var (pv 7)) pua_nil))))
    puss_nil))))))
    puss_nil)
    puss_nil)
    (puss_cons (pus_freeze 4 (pus_ret (pu_ofL (pul_lst (pua_cons (pu_var (pv 2)) (pua_cons (pu_var (pv 4)) (pua_cons (pub_ix (pub_of (pu_var (pv 0))) pu_int) pua_nil)))))))
    puss_nil)))))))
theorem ok_law_fed (T : Tx K mg ad) : FnOk P w K mg base CX0 1 ad.a_law_fed ad.d_law_fed ["mills", "pairs", "setting"] (spP K mg 3 g_law_fed) := ok_def T.F_law_fed sc_law_fed fun cdv A outer s H E hr =>
    (puss_cons (pus_setLc (i := 3) (own := [("mill", 5)]) rfl sc_law_fed.nd rfl rfl (sw_true rfl rfl rfl (by decide +kernel)) (pui_range1 (by rfl) T.z_range (pu_var (pv 0))) (blkOk_by (N := N_law_fed) (sc := defScope s_law_fed) (by decide +kernel)) (by decide) (fun _ _ _ _ _ => (pug_name (i := 5) sc_law_fed.nd rfl (.inl rfl))) (fun _ _ _ _ _ => puts_nil) (fun _ _ _ _ _ => pu_int))
    (puss_cons (pus_for PassesOwn.never rfl (pui_range1 (by rfl) T.z_range (pub_len (by rfl) T.z_len (pub_of (pu_var (pv 1))))) (pug_name (i := 4) sc_law_fed.nd rfl (.inl rfl))
    (puss_cons (pus_set (i := 5) sc_law_fed.nd rfl (.inl rfl) (pub_ix (pub_of (pub_ix (pub_of (pu_var (pv 1))) (pu_var (pv 4)))) (pub_ix (pub_of (pu_var (pv 2))) (pu_var (pv 4)))))
    (puss_cons (pus_setIx (i := 3) (pv 3) (pu_var (pv 5)) (pu_op opAdd rel_add (pub_ix (pub_var (pv 3)) (pu_var (pv 5))) pu_int))
    puss_nil)))
    (puss_cons (pus_freeze 3 (pus_ret (pu_var (pv 3))))
    puss_nil)))
theorem ok_law_world (T : Tx K mg ad) : FnOk P w K mg base CX0 2 ad.a_law_world ad.d_law_world ["valley", "row"] (spP K mg 2 g_law_world) := ok_def T.F_law_world sc_law_world fun cdv A outer s H E hr =>
    (puss_cons (pus_set (i := 2) sc_law_world.nd rfl (.inl rfl) (pub_ix (pub_of (pu_var (pv 0))) pu_int))
    (puss_cons (pus_set (i := 3) sc_law_world.nd rfl (.inl rfl) (pub_ix (pub_of (pu_var (pv 0))) pu_int))
    (puss_cons (pus_setLc (i := 4) (own := [("k", 5)]) rfl sc_law_world.nd rfl rfl (sw_true rfl rfl rfl (by decide +kernel)) (pui_range1 (by rfl) T.z_range (pub_len (by rfl) T.z_len (pub_of (pu_var (pv 3))))) (blkOk_by (N := N_law_world) (sc := defScope s_law_world) (by decide +kernel)) (by decide) (fun _ _ _ _ _ => (pug_name (i := 5) sc_law_world.nd rfl (.inl rfl))) (fun _ _ _ _ _ => puts_nil) (fun _ _ _ _ _ => (pu_op op_mod rel_mod (pu_callTy call_int1 relc_int (by rfl) T.z_int (by decide +kernel) (pua_cons (pub_ix (pub_of (pu_var (pv 1))) (pu_op opAdd rel_add pu_int (pu_var (pv 5)))) pua_nil)) pu_int)))
    (puss_cons (pus_for PassesOwn.never rfl (pui_range1 (by rfl) T.z_range (pub_len (by rfl) T.z_len (pub_of (pu_var (pv 3))))) (pug_name (i := 5) sc_law_world.nd rfl (.inl rfl))
    (puss_cons (pus_if (puw_and (puw_or (put_cmp (op_eqD (hu64 hr)) rel_eq (nomark _) (pub_ix (pub_of (pu_var (pv 0))) pu_int) pu_int) (puw_or1 (put_cmp (op_eqD (hu64 hr)) rel_eq (nomark _) (pub_ix (pub_of (pu_var (pv 0))) pu_int) pu_int))).pt (puw_and1 (put_cmp op_lt rel_lt (nomark _) (pu_var (pv 5)) (pu_var (pv 2))))).pt
    (puss_cons (pus_setIx (i := 4) (pv 4) (pu_var (pv 5)) (pub_ix (pub_var (pv 4)) pu_int))
    puss_nil)
    puss_nil)
    (puss_cons (pus_if (puw_or (puw_and (put_cmp op_ge rel_ge (nomark _) (pub_ix (pub_of (pu_var (pv 0))) pu_int) pu_int) (puw_and1 (put_cmp (op_eqD (hu64 hr)) rel_eq (nomark _) (pu_var (pv 5)) pu_int))).pt (puw_or1 (puw_and (put_cmp (op_eqD (hu64 hr)) rel_eq (nomark _) (pub_ix (pub_of (pu_var (pv 0))) pu_int) pu_int) (puw_and1 (put_cmp (op_eqD (hu64 hr)) rel_eq (nomark _) (pu_var (pv 5)) pu_int))).pt)).pt
    (puss_cons (pus_setIx (i := 4) (pv 4) (pu_var (pv 5)) (pub_ix (pub_var (pv 4)) (pu_op op_sub rel_sub (pu_var (pv 5)) pu_int)))
    puss_nil)
    puss_nil)
    puss_nil)))
    (puss_cons (pus_freeze 4 (pus_set (i := 6) sc_law_world.nd rfl (.inl rfl) (pu_call (ok_law_fed T) (hr.mono (by decide)) (by rfl) T.m_law_fed T.F_law_fed.kp T.b_law_fed (fun _ _ => gDef_len) (pua_cons (pu_var (pv 2)) (pua_cons (pu_var (pv 3)) (pua_cons (pu_var (pv 4)) pua_nil))))))
    (puss_cons (pus_setOw (i := 7) sc_law_world.nd rfl (.inl rfl) (pul_lst pua_nil))
    (puss_cons (pus_setOw (i := 8) sc_law_world.nd rfl (.inl rfl) (pul_lst pua_nil))
    (puss_cons (pus_for PassesOwn.never rfl (pui_range1 (by rfl) T.z_range (pu_var (pv 2))) (pug_name (i := 9) sc_law_world.nd rfl (.inl rfl))
    (puss_cons (pus_set (i := 10) sc_law_world.nd rfl (.inl rfl) (pub_ix (pub_of (pu_ofL (pul_lst (pua_cons pu_int (pua_cons pu_int (pua_cons pu_int (pua_cons pu_int (pua_cons pu_int (pua_cons pu_int (pua_cons pu_int (pua_cons pu_int pua_nil))))))))))) (pu_op op_mod rel_mod (pu_callTy call_int1 relc_int (by rfl) T.z_int (by decide +kernel) (pua_cons (pub_ix (pub_of (pu_var (pv 1))) (pu_op opAdd rel_add pu_int (pu_op opMulT rel_mulT pu_int (pu_var (pv 9))))) pua_nil)) pu_int)))
    (puss_cons (pus_set (i := 11) sc_law_world.nd rfl (.inl rfl) (pub_ix (pub_of (pu_ofL (pul_lst (pua_cons pu_non (pua_cons pu_int (pua_cons pu_non (pua_cons pu_int (pua_cons pu_int (pua_cons pu_int (pua_cons pu_int (pua_cons pu_non pua_nil))))))))))) (pu_op op_mod rel_mod (pu_callTy call_int1 relc_int (by rfl) T.z_int (by decide +kernel) (pua_cons (pub_ix (pub_of (pu_var (pv 1))) (pu_op opAdd rel_add pu_int (pu_op opMulT rel_mulT pu_int (pu_var (pv 9))))) pua_nil)) pu_int)))
    (puss_cons (pus_if (puw_or (put_cmp (op_eqD (hu64 hr)) rel_eq (nomark _) (pub_ix (pub_of (pu_var (pv 1))) pu_int) pu_int) (puw_or (put_cmp (op_eqD (hu64 hr)) rel_eq (nomark _) (pub_ix (pub_of (pu_var (pv 1))) pu_int) pu_int) (puw_or1 (puw_and (put_cmp (op_eqD (hu64 hr)) rel_eq (nomark _) (pub_ix (pub_of (pu_var (pv 1))) pu_int) pu_int) (puw_and1 (put_cmp op_gt rel_gt (nomark _) (pu_var (pv 9)) pu_int))).pt))).pt
    (puss_cons (pus_set (i := 10) sc_law_world.nd rfl (.inl rfl) pu_int)
    puss_nil)
    puss_nil)
    (puss_cons (pus_if (put_cmp (op_eqD (hu64 hr)) rel_eq (nomark _) (pub_ix (pub_of (pu_var (pv 1))) pu_int) pu_int)
    (puss_cons (pus_set (i := 11) sc_law_world.nd rfl (.inl rfl) pu_int)
    puss_nil)
    puss_nil)
    (puss_cons (pus_if (puw_or (put_cmp op_le rel_le (nomark _) (pub_ix (pub_of (pu_var (pv 1))) pu_int) pu_int) (puw_or1 (put_cmp (op_eqD (hu64 hr)) rel_eq (nomark _) (pub_ix (pub_of (pu_var (pv 1))) pu_int) pu_int))).pt
    (puss_cons (pus_set (i := 11) sc_law_world.nd rfl (.inl rfl) pu_non)
    puss_nil)
    puss_nil)
    (puss_cons (pus_app (i := 7) (pv 7) (pu_callB (call_max2 rfl) relc_max2 (by rfl) T.z_max (by decide +kernel) (pua_cons pu_int (pua_cons (pu_op op_sub rel_sub (pub_ix (pub_of (pu_var (pv 6))) (pu_var (pv 9))) (pu_var (pv 10))) pua_nil))))
    (puss_cons (pus_if (put_cmp (op_eqD (hu64 hr)) rel_eq (nomark _) (pub_ix (pub_of (pu_var (pv 1))) pu_int) pu_int)
    (puss_cons (pus_setIx (i := 7) (pv 7) (pu_var (pv 9)) pu_int)
    (puss_cons (pus_set (i := 11) sc_law_world.nd rfl (.inl rfl) (pub_ix (pub_of (pu_ofL (pul_lst (pua_cons pu_int (pua_cons pu_int (pua_cons pu_int (pua_cons pu_int pua_nil))))))) (pu_op op_mod rel_mod (pu_callTy call_int1 relc_int (by rfl) T.z_int (by decide +kernel) (pua_cons (pub_ix (pub_of (pu_var (pv 1))) (pu_op opAdd rel_add pu_int (pu_op opMulT rel_mulT pu_int (pu_var (pv 9))))) pua_nil)) pu_int)))
    puss_nil))
    puss_nil)
    (puss_cons (pus_if (put_cmp op_notN rel_isnotN (nomark _) (pu_var (pv 11)) pu_non)
    (puss_cons (pus_set (i := 11) sc_law_world.nd rfl (.inl rfl) (pu_op opAdd rel_add (pub_ix (pub_of (pu_var (pv 6))) (pu_var (pv 9))) (pu_var (pv 11))))
    puss_nil)
    puss_nil)
    (puss_cons (pus_app (i := 8) (pv 8) (pu_var (pv 11)))
    puss_nil))))))))))
    (puss_cons (pus_setOw (i := 12) sc_law_world.nd rfl (.inl rfl) (pul_lst pua_nil))
    (puss_cons (pus_for PassesOwn.never rfl (pui_range1 (by rfl) T.z_range (pub_len (by rfl) T.z_len (pub_of (pu_var (pv 3))))) (pug_name (i := 5) sc_law_world.nd rfl (.inl rfl))
    (puss_cons (pus_app (i := 12) (pv 12) (pub_ix (pub_of (pu_ofL (pul_lst (pua_cons (pu_tup (pua_cons pu_int (pua_cons pu_int pua_nil))) (pua_cons (pu_tup (pua_cons (pub_ix (pub_var (pv 4)) (pu_var (pv 5))) pua_nil)) pua_nil))))) (pu_callTy call_int1 relc_int (by rfl) T.z_int (by decide +kernel) (pua_cons (pu_cmp (op_eqD (hu64 hr)) rel_eq (nomark _) (pub_ix (pub_of (pu_var (pv 1))) (pu_op opAdd rel_add pu_int (pu_var (pv 5)))) pu_int) pua_nil))))
    puss_nil))
    (puss_cons (pus_freeze 12 (pus_freeze 8 (pus_freeze 7 (pus_ret (pu_ofL (pul_lst (pua_cons (pu_var (pv 2)) (pua_cons (pu_var (pv 3)) (pua_cons (pu_var (pv 7)) (pua_cons (pu_var (pv 8)) (pua_cons (pu_var (pv 12)) pua_nil)))))))))))
    puss_nil)))))))))))
theorem ok_law_drawn (T : Tx K mg ad) : FnOk P w K mg base CX0 3 ad.a_law_drawn ad.d_law_drawn ["script", "at", "upto"] (spP K mg 3 g_law_drawn) := ok_def T.F_law_drawn sc_law_drawn fun cdv A outer s H E hr =>
    (puss_cons (pus_set (i := 3) sc_law_drawn.nd rfl (.inl rfl) (pu_call (ok_law_valley T) (hr.mono (by decide)) (by rfl) T.m_law_valley T.F_law_valley.kp T.b_law_valley (fun _ _ => gDef_len) (pua_cons (pu_call (ok_law_digits T) (hr.mono (by decide)) (by rfl) T.m_law_digits T.F_law_digits.kp T.b_law_digits (fun _ _ => gDef_len) (pua_cons (pu_call (ok_law_cell T) (hr.mono (by decide)) (by rfl) T.m_law_cell T.F_law_cell.kp T.b_law_cell (fun _ _ => gDef_len) (pua_cons (pu_var (pv 0)) (pua_cons (pu_var (pv 1)) pua_nil))) (pua_cons (pu_op opAdd rel_add (pu_ofL (pul_lst (pua_cons pu_int (pua_cons pu_int (pua_cons pu_int pua_nil))))) (pu_op opMulT rel_mulT (pu_ofL (pul_lst (pua_cons pu_int (pua_cons pu_int pua_nil)))) pu_int)) pua_nil))) (pua_cons (pu_var (pv 2)) pua_nil))))
    (puss_cons (pus_ret (pu_call (ok_law_world T) (hr.mono (by decide)) (by rfl) T.m_law_world T.F_law_world.kp T.b_law_world (fun _ _ => gDef_len) (pua_cons (pu_var (pv 3)) (pua_cons (pu_call (ok_law_digits T) (hr.mono (by decide)) (by rfl) T.m_law_digits T.F_law_digits.kp T.b_law_digits (fun _ _ => gDef_len) (pua_cons (pu_call (ok_law_cell T) (hr.mono (by decide)) (by rfl) T.m_law_cell T.F_law_cell.kp T.b_law_cell (fun _ _ => gDef_len) (pua_cons (pu_var (pv 0)) (pua_cons (pu_op opAdd rel_add (pu_var (pv 1)) pu_int) pua_nil))) (pua_cons (pu_op opAdd rel_add (pu_op opAdd rel_add (pu_op opAdd rel_add (pu_ofL (pul_lst (pua_cons pu_int pua_nil))) (pu_op opMulT rel_mulT (pu_ofL (pul_lst (pua_cons pu_int (pua_cons pu_int pua_nil)))) pu_int)) (pu_op opMulT rel_mulT (pu_ofL (pul_lst (pua_cons pu_int pua_nil))) pu_int)) (pu_op opMulT rel_mulT (pu_ofL (pul_lst (pua_cons pu_int pua_nil))) pu_int)) pua_nil))) pua_nil))))
    puss_nil))
theorem ok_law_free (T : Tx K mg ad) : FnOk P w K mg base CX0 2 ad.a_law_free ad.d_law_free ["script"] (spP K mg 1 g_law_free) := ok_def T.F_law_free sc_law_free fun cdv A outer s H E hr =>
    (puss_cons (pus_set (i := 1) sc_law_free.nd rfl (.inl rfl) (pu_call (ok_law_valley T) (hr.mono (by decide)) (by rfl) T.m_law_valley T.F_law_valley.kp T.b_law_valley (fun _ _ => gDef_len) (pua_cons (pu_call (ok_law_digits T) (hr.mono (by decide)) (by rfl) T.m_law_digits T.F_law_digits.kp T.b_law_digits (fun _ _ => gDef_len) (pua_cons (pu_call (ok_law_cell T) (hr.mono (by decide)) (by rfl) T.m_law_cell T.F_law_cell.kp T.b_law_cell (fun _ _ => gDef_len) (pua_cons (pu_var (pv 0)) (pua_cons pu_int pua_nil))) (pua_cons (pu_op opAdd rel_add (pu_ofL (pul_lst (pua_cons pu_int (pua_cons pu_int (pua_cons pu_int pua_nil))))) (pu_op opMulT rel_mulT (pu_ofL (pul_lst (pua_cons pu_int (pua_cons pu_int pua_nil)))) pu_int)) pua_nil))) (pua_cons pu_int pua_nil))))
    (puss_cons (pus_set (i := 2) sc_law_free.nd rfl (.inl rfl) (pu_call (ok_law_digits T) (hr.mono (by decide)) (by rfl) T.m_law_digits T.F_law_digits.kp T.b_law_digits (fun _ _ => gDef_len) (pua_cons (pu_call (ok_law_cell T) (hr.mono (by decide)) (by rfl) T.m_law_cell T.F_law_cell.kp T.b_law_cell (fun _ _ => gDef_len) (pua_cons (pu_var (pv 0)) (pua_cons pu_int pua_nil))) (pua_cons (pu_op opAdd rel_add (pu_op opAdd rel_add (pu_ofL (pul_lst (pua_cons pu_int pua_nil))) (pu_op opMulT rel_mulT (pu_ofL (pul_lst (pua_cons pu_int (pua_cons pu_int pua_nil)))) pu_int)) (pu_op opMulT rel_mulT (pu_ofL (pul_lst (pua_cons pu_int pua_nil))) pu_int)) pua_nil))))
    (puss_cons (pus_setOw (i := 3) sc_law_free.nd rfl (.inl rfl) (pul_lst pua_nil))
    (puss_cons (pus_setOw (i := 4) sc_law_free.nd rfl (.inl rfl) (pul_lst pua_nil))
    (puss_cons (pus_for PassesOwn.never rfl (pui_range1 (by rfl) T.z_range (pub_ix (pub_of (pu_var (pv 1))) pu_int)) (pug_name (i := 5) sc_law_free.nd rfl (.inl rfl))
    (puss_cons (pus_set (i := 6) sc_law_free.nd rfl (.inl rfl) (pu_callTy call_int1 relc_int (by rfl) T.z_int (by decide +kernel) (pua_cons (pub_ix (pub_of (pu_var (pv 2))) (pu_op opAdd rel_add pu_int (pu_op opMulT rel_mulT pu_int (pu_var (pv 5))))) pua_nil)))
    (puss_cons (pus_app (i := 3) (pv 3) (pub_ix (pub_of (pu_ofL (pul_lst (pua_cons pu_int (pua_cons pu_int (pua_cons pu_int (pua_cons pu_int (pua_cons pu_int (pua_cons pu_int (pua_cons pu_int (pua_cons pu_int (pua_cons pu_int (pua_cons pu_int (pua_cons pu_int (pua_cons pu_int (pua_cons pu_int (pua_cons pu_int (pua_cons pu_int (pua_cons pu_int (pua_cons pu_int (pua_cons pu_int (pua_cons pu_int (pua_cons pu_int (pua_cons pu_int (pua_cons pu_int (pua_cons pu_int (pua_cons pu_int pua_nil))))))))))))))))))))))))))) (pu_var (pv 6))))
    (puss_cons (pus_set (i := 7) sc_law_free.nd rfl (.inl rfl) (pu_callTy call_int1 relc_int (by rfl) T.z_int (by decide +kernel) (pua_cons (pub_ix (pub_of (pu_var (pv 2))) (pu_op opAdd rel_add pu_int (pu_op opMulT rel_mulT pu_int (pu_var (pv 5))))) pua_nil)))
    (puss_cons (pus_app (i := 4) (pv 4) (pub_ix (pub_of (pu_ofL (pul_lst (pua_cons pu_non (pua_cons pu_int (pua_cons pu_int (pua_cons pu_non (pua_cons pu_int (pua_cons pu_int (pua_cons pu_non (pua_cons pu_int (pua_cons pu_int (pua_cons pu_int (pua_cons pu_non (pua_cons pu_int (pua_cons pu_int (pua_cons pu_int (pua_cons pu_int (pua_cons pu_int (pua_cons pu_int (pua_cons pu_non (pua_cons pu_int (pua_cons pu_int (pua_cons pu_int (pua_cons pu_non (pua_cons pu_int (pua_cons pu_non pua_nil))))))))))))))))))))))))))) (pu_var (pv 7))))
    (puss_cons (pus_if (put_cmp op_le rel_le (nomark _) (pub_ix (pub_of (pu_var (pv 2))) pu_int) pu_int)
    (puss_cons (pus_setIx (i := 3) (pv 3) (pu_var (pv 5)) (pu_callB (call_min2 rfl) relc_min2 (by rfl) T.z_min (by decide +kernel) (pua_cons (pub_ix (pub_var (pv 3)) (pu_var (pv 5))) (pua_cons (pu_op opAdd rel_add pu_int (pu_op op_mod rel_mod (pu_callTy call_int1 relc_int (by rfl) T.z_int (by decide +kernel) (pua_cons (pu_var (pv 5)) pua_nil)) pu_int)) pua_nil))))
    puss_nil)
    puss_nil)
    (puss_cons (pus_if (puw_or (put_cmp (op_eqD (hu64 hr)) rel_eq (nomark _) (pub_ix (pub_of (pu_var (pv 2))) pu_int) pu_int) (puw_or1 (puw_and (put_cmp (op_eqD (hu64 hr)) rel_eq (nomark _) (pub_ix (pub_of (pu_var (pv 2))) pu_int) pu_int) (puw_and1 (put_cmp op_gt rel_gt (nomark _) (pu_var (pv 5)) pu_int))).pt)).pt
    (puss_cons (pus_setIx (i := 4) (pv 4) (pu_var (pv 5)) pu_non)
    puss_nil)
    puss_nil)
    puss_nil)))))))
    (puss_cons (pus_setOw (i := 8) sc_law_free.nd rfl (.inl rfl) (pul_lst pua_nil))
    (puss_cons (pus_for PassesOwn.never rfl (pui_range1 (by rfl) T.z_range (pub_len (by rfl) T.z_len (pub_of (pub_ix (pub_of (pu_var (pv 1))) pu_int)))) (pug_name (i := 9) sc_law_free.nd rfl (.inl rfl))
    (puss_cons (pus_set (i := 10) sc_law_free.nd rfl (.inl rfl) (pu_callTy call_int1 relc_int (by rfl) T.z_int (by decide +kernel) (pua_cons (pub_ix (pub_of (pu_var (pv 2))) (pu_op opAdd rel_add pu_int (pu_var (pv 9)))) pua_nil)))
    (puss_cons (pus_app (i := 8) (pv 8) (pub_ix (pub_of (pu_ofL (pul_lst (pua_cons (pu_tup (pua_cons pu_int (pua_cons pu_int pua_nil))) (pua_cons (pu_tup (pua_cons pu_int pua_nil)) (pua_cons (pu_tup (pua_cons pu_int pua_nil)) (pua_cons (pu_tup pua_nil) pua_nil))))))) (pu_if (put_cmp op_gt rel_gt (nomark _) (pu_var (pv 10)) pu_int) pu_int (pub_ix (pub_of (pu_ofL (pul_lst (pua_cons pu_int (pua_cons pu_int (pua_cons pu_int (pua_cons pu_int (pua_cons pu_int pua_nil)))))))) (pu_var (pv 10))))))
    puss_nil)))
    (puss_cons (pus_freeze 8 (pus_freeze 4 (pus_freeze 3 (pus_ret (pu_ofL (pul_lst (pua_cons (pub_ix (pub_of (pu_var (pv 1))) pu_int) (pua_cons (pub_ix (pub_of (pu_var (pv 1))) pu_int) (pua_cons (pu_var (pv 3)) (pua_cons (pu_var (pv 4)) (pua_cons (pu_var (pv 8)) pua_nil)))))))))))
    puss_nil))))))))
theorem ok_law_small_world (T : Tx K mg ad) : FnOk P w K mg base CX0 4 ad.a_law_small_world ad.d_law_small_world ["script", "choice"] (spP K mg 2 g_law_small_world) := ok_def T.F_law_small_world sc_law_small_world fun cdv A outer s H E hr =>
    (puss_cons (pus_if (put_cmp (op_eqD (hu64 hr)) rel_eq (nomark _) (pu_op op_mod rel_mod (pu_callTy call_int1 relc_int (by rfl) T.z_int (by decide +kernel) (pua_cons (pu_var (pv 1)) pua_nil)) pu_int) pu_int)
    (puss_cons (pus_ret (pu_call (ok_law_free T) (hr.mono (by decide)) (by rfl) T.m_law_free T.F_law_free.kp T.b_law_free (fun _ _ => gDef_len) (pua_cons (pu_var (pv 0)) pua_nil)))
    puss_nil)
    puss_nil)
    (puss_cons (pus_ret (pu_call (ok_law_drawn T) (hr.mono (by decide)) (by rfl) T.m_law_drawn T.F_law_drawn.kp T.b_law_drawn (fun _ _ => gDef_len) (pua_cons (pu_var (pv 0)) (pua_cons pu_int (pua_cons (pub_ix (pub_of (pu_ofL (pul_lst (pua_cons pu_int (pua_cons pu_int pua_nil))))) (pu_callTy call_int1 relc_int (by rfl) T.z_int (by decide +kernel) (pua_cons (pu_cmp (op_eqD (hu64 hr)) rel_eq (nomark _) (pu_op op_mod rel_mod (pu_callTy call_int1 relc_int (by rfl) T.z_int (by decide +kernel) (pua_cons (pu_var (pv 1)) pua_nil)) pu_int) pu_int) pua_nil))) pua_nil)))))
    puss_nil))
theorem ok_law_wide (T : Tx K mg ad) : FnOk P w K mg base CX0 2 ad.a_law_wide ad.d_law_wide ["script", "at", "upto"] (spP K mg 3 g_law_wide) := ok_def T.F_law_wide sc_law_wide fun cdv A outer s H E hr =>
    (puss_cons (pus_set (i := 3) sc_law_wide.nd rfl (.inr rfl) (pu_call (ok_law_digits T) (hr.mono (by decide)) (by rfl) T.m_law_digits T.F_law_digits.kp T.b_law_digits (fun _ _ => gDef_len) (pua_cons (pu_call (ok_law_cell T) (hr.mono (by decide)) (by rfl) T.m_law_cell T.F_law_cell.kp T.b_law_cell (fun _ _ => gDef_len) (pua_cons (pu_var (pv 0)) (pua_cons (pu_var (pv 1)) pua_nil))) (pua_cons (pu_op opAdd rel_add (pu_ofL (pul_lst (pua_cons pu_int (pua_cons pu_int (pua_cons pu_int pua_nil))))) (pu_op opMulT rel_mulT (pu_ofL (pul_lst (pua_cons pu_int (pua_cons pu_int pua_nil)))) pu_int)) pua_nil))))
    (puss_cons (pus_set (i := 4) sc_law_wide.nd rfl (.inl rfl) (pub_ix (pub_of (pu_ofL (pul_lst (pua_cons pu_int (pua_cons pu_int (pua_cons pu_int (pua_cons pu_int (pua_cons pu_int (pua_cons pu_int (pua_cons pu_int (pua_cons pu_int (pua_cons pu_int (pua_cons pu_int (pua_cons pu_int (pua_cons pu_int (pua_cons pu_int (pua_cons pu_int (pua_cons pu_int (pua_cons pu_int (pua_cons pu_int (pua_cons pu_int (pua_cons pu_int (pua_cons pu_int (pua_cons pu_int (pua_cons pu_int (pua_cons pu_int (pua_cons pu_int pua_nil))))))))))))))))))))))))))) (pu_op op_mod rel_mod (pu_callTy call_int1 relc_int (by rfl) T.z_int (by decide +kernel) (pua_cons (pub_ix (pub_of (pu_var (pv 3))) pu_int) pua_nil)) pu_int)))
    (puss_cons (pus_set (i := 4) sc_law_wide.nd rfl (.inl rfl) (pu_callB (call_min2 rfl) relc_min2 (by rfl) T.z_min (by decide +kernel) (pua_cons (pu_var (pv 4)) (pua_cons (pu_op op_fdiv rel_fdiv (pu_var (pv 2)) pu_int) pua_nil))))
    (puss_cons (pus_setOw (i := 5) sc_law_wide.nd rfl (.inl rfl) (pul_lst pua_nil))
    (puss_cons (pus_if (put_cmp op_gt rel_gt (nomark _) (pu_var (pv 4)) pu_int)
    (puss_cons (pus_for PassesOwn.never rfl (pui_range1 (by rfl) T.z_range (pu_callB (call_min2 rfl) relc_min2 (by rfl) T.z_min (by decide +kernel) (pua_cons (pu_var (pv 2)) (pua_cons (pu_op opAdd rel_add (pu_op op_sub rel_sub (pu_var (pv 4)) pu_int) (pu_op op_mod rel_mod (pu_callTy call_int1 relc_int (by rfl) T.z_int (by decide +kernel) (pua_cons (pub_ix (pub_of (pu_var (pv 3))) pu_int) pua_nil)) pu_int)) pua_nil)))) (pug_name (i := 6) sc_law_wide.nd rfl (.inl rfl))
    (puss_cons (pus_set (i := 7) sc_law_wide.nd rfl (.inl rfl) (pu_op op_mod rel_mod (pu_callTy call_int1 relc_int (by rfl) T.z_int (by decide +kernel) (pua_cons (pub_ix (pub_of (pu_var (pv 3))) (pu_op opAdd rel_add pu_int (pu_op opMulT rel_mulT pu_int (pu_var (pv 6))))) pua_nil)) (pu_var (pv 4))))
    (puss_cons (pus_set (i := 8) sc_law_wide.nd rfl (.inl rfl) (pu_op op_mod rel_mod (pu_callTy call_int1 relc_int (by rfl) T.z_int (by decide +kernel) (pua_cons (pu_op opAdd rel_add (pu_op opAdd rel_add (pu_var (pv 7)) pu_int) (pu_op op_mod rel_mod (pu_callTy call_int1 relc_int (by rfl) T.z_int (by decide +kernel) (pua_cons (pub_ix (pub_of (pu_var (pv 3))) (pu_op opAdd rel_add pu_int (pu_op opMulT rel_mulT pu_int (pu_var (pv 6))))) pua_nil)) (pu_op op_sub rel_sub (pu_var (pv 4)) pu_int))) pua_nil)) (pu_var (pv 4))))
    (puss_cons (pus_if (put_cmp (op_eqD (hu64 hr)) rel_eq (nomark _) (pub_ix (pub_of (pu_var (pv 3))) pu_int) pu_int)
    (puss_cons (pus_set (i := 8) sc_law_wide.nd rfl (.inl rfl) (pu_op op_mod rel_mod (pu_callTy call_int1 relc_int (by rfl) T.z_int (by decide +kernel) (pua_cons (pu_op opAdd rel_add (pu_op opAdd rel_add (pu_var (pv 7)) pu_int) (pu_op op_mod rel_mod (pu_callTy call_int1 relc_int (by rfl) T.z_int (by decide +kernel) (pua_cons (pub_ix (pub_of (pu_var (pv 3))) (pu_op opAdd rel_add pu_int (pu_op opMulT rel_mulT pu_int (pu_var (pv 6))))) pua_nil)) (pu_callB (call_min2 rfl) relc_min2 (by rfl) T.z_min (by decide +kernel) (pua_cons pu_int (pua_cons (pu_op op_sub rel_sub (pu_var (pv 4)) pu_int) pua_nil))))) pua_nil)) (pu_var (pv 4))))
    puss_nil)
    puss_nil)
    (puss_cons (pus_if (puw_and (put_cmp (op_eqD (hu64 hr)) rel_eq (nomark _) (pub_ix (pub_of (pu_var (pv 3))) pu_int) pu_int) (puw_and1 (put_cmp op_lt rel_lt (nomark _) (pu_var (pv 6)) (pu_var (pv 4))))).pt
    (puss_cons (pus_set (i := 7) sc_law_wide.nd rfl (.inl rfl) (pu_var (pv 6)))
    (puss_cons (pus_set (i := 8) sc_law_wide.nd rfl (.inl rfl) (pu_op op_mod rel_mod (pu_callTy call_int1 relc_int (by rfl) T.z_int (by decide +kernel) (pua_cons (pu_op opAdd rel_add (pu_var (pv 6)) pu_int) pua_nil)) (pu_var (pv 4))))
    puss_nil))
    puss_nil)
    (puss_cons (pus_if (puw_and (put_cmp (op_eqD (hu64 hr)) rel_eq (nomark _) (pub_ix (pub_of (pu_var (pv 3))) pu_int) pu_int) (puw_and1 (put_cmp (op_eqD (hu64 hr)) rel_eq (nomark _) (pu_op op_mod rel_mod (pu_callTy call_int1 relc_int (by rfl) T.z_int (by decide +kernel) (pua_cons (pu_var (pv 6)) pua_nil)) pu_int) pu_int))).pt
    (puss_cons (pus_set (i := 7) sc_law_wide.nd rfl (.inl rfl) (pub_ix (pub_of (pub_ix (pub_var (pv 5)) (pu_op op_sub rel_sub (pu_var (pv 6)) pu_int))) pu_int))
    (puss_cons (pus_set (i := 8) sc_law_wide.nd rfl (.inl rfl) (pub_ix (pub_of (pub_ix (pub_var (pv 5)) (pu_op op_sub rel_sub (pu_var (pv 6)) pu_int))) pu_int))
    puss_nil))
    puss_nil)
    (puss_cons (pus_app (i := 5) (pv 5) (pu_tup (pua_cons (pu_var (pv 7)) (pua_cons (pu_var (pv 8)) pua_nil))))
    puss_nil)))))))
    puss_nil)
    puss_nil)
    (puss_cons (pus_set (i := 3) sc_law_wide.nd rfl (.inr rfl) (pu_call (ok_law_digits T) (hr.mono (by decide)) (by rfl) T.m_law_digits T.F_law_digits.kp T.b_law_digits (fun _ _ => gDef_len) (pua_cons (pu_call (ok_law_cell T) (hr.mono (by decide)) (by rfl) T.m_law_cell T.F_law_cell.kp T.b_law_cell (fun _ _ => gDef_len) (pua_cons (pu_var (pv 0)) (pua_cons (pu_op opAdd rel_add (pu_var (pv 1)) pu_int) pua_nil))) (pua_cons (pu_op opAdd rel_add (pu_op opAdd rel_add (pu_op opAdd rel_add (pu_ofL (pul_lst (pua_cons pu_int pua_nil))) (pu_op opMulT rel_mulT (pu_ofL (pul_lst (pua_cons pu_int pua_nil))) pu_int)) (pu_op opMulT rel_mulT (pu_ofL (pul_lst (pua_cons pu_int (pua_cons pu_int pua_nil)))) pu_int)) (pu_op opMulT rel_mulT (pu_ofL (pul_lst (pua_cons pu_int pua_nil))) pu_int)) pua_nil))))
    (puss_cons (pus_set (i := 9) sc_law_wide.nd rfl (.inr rfl) (pub_tupleOf (by rfl) T.z_tuple (pub_of (pu_ofL (pul_lc (own := [("k", 6)]) rfl sc_law_wide.nd (pui_range1 (by rfl) T.z_range (pub_len (by rfl) T.z_len (pub_var (pv 5)))) (blkOk_by (N := N_law_wide) (sc := defScope s_law_wide) (by decide +kernel)) (by decide) (fun _ _ _ _ _ => (pug_name (i := 6) sc_law_wide.nd rfl (.inl rfl))) (fun _ _ _ _ _ => puts_nil) (fun _ _ _ _ _ => (pu_op op_mod rel_mod (pu_callTy call_int1 relc_int (by rfl) T.z_int (by decide +kernel) (pua_cons (pub_ix (pub_of (pu_var (pv 3))) (pu_op opAdd rel_add pu_int (pu_var (pv 6)))) pua_nil)) pu_int)))))))
    (puss_cons (pus_freeze 5 (pus_set (i := 10) sc_law_wide.nd rfl (.inl rfl) (pu_call (ok_law_fed T) (hr.mono (by decide)) (by rfl) T.m_law_fed T.F_law_fed.kp T.b_law_fed (fun _ _ => gDef_len) (pua_cons (pu_var (pv 4)) (pua_cons (pu_var (pv 5)) (pua_cons (pu_var (pv 9)) pua_nil))))))
    (puss_cons (pus_setOw (i := 11) sc_law_wide.nd rfl (.inl rfl) (pul_lst pua_nil))
    (puss_cons (pus_setOw (i := 12) sc_law_wide.nd rfl (.inl rfl) (pul_lst pua_nil))
    (puss_cons (pus_for PassesOwn.never rfl (pui_range1 (by rfl) T.z_range (pu_var (pv 4))) (pug_name (i := 13) sc_law_wide.nd rfl (.inl rfl))
    (puss_cons (pus_set (i := 14) sc_law_wide.nd rfl (.inl rfl) (pub_ix (pub_of (pu_ofL (pul_lst (pua_cons pu_int (pua_cons pu_int (pua_cons pu_int (pua_cons pu_int (pua_cons pu_int (pua_cons pu_int (pua_cons pu_int (pua_cons pu_int pua_nil))))))))))) (pu_op op_mod rel_mod (pu_callTy call_int1 relc_int (by rfl) T.z_int (by decide +kernel) (pua_cons (pub_ix (pub_of (pu_var (pv 3))) (pu_op opAdd rel_add pu_int (pu_op opMulT rel_mulT pu_int (pu_var (pv 13))))) pua_nil)) pu_int)))
    (puss_cons (pus_set (i := 15) sc_law_wide.nd rfl (.inl rfl) (pub_ix (pub_of (pu_ofL (pul_lst (pua_cons pu_non (pua_cons pu_int (pua_cons pu_int (pua_cons pu_int (pua_cons pu_non (pua_cons pu_int (pua_cons pu_int (pua_cons pu_int pua_nil))))))))))) (pu_op op_mod rel_mod (pu_callTy call_int1 relc_int (by rfl) T.z_int (by decide +kernel) (pua_cons (pub_ix (pub_of (pu_var (pv 3))) (pu_op opAdd rel_add pu_int (pu_op opMulT rel_mulT pu_int (pu_var (pv 13))))) pua_nil)) pu_int)))
    (puss_cons (pus_if (put_cmp op_le rel_le (nomark _) (pub_ix (pub_of (pu_var (pv 3))) pu_int) pu_int)
    (puss_cons (pus_set (i := 15) sc_law_wide.nd rfl (.inl rfl) pu_non)
    puss_nil)
    puss_nil)
    (puss_cons (pus_if (put_cmp (op_eqD (hu64 hr)) rel_eq (nomark _) (pub_ix (pub_of (pu_var (pv 3))) pu_int) pu_int)
    (puss_cons (pus_set (i := 14) sc_law_wide.nd rfl (.inl rfl) pu_int)
    puss_nil)
    puss_nil)
    (puss_cons (pus_if (put_cmp (op_eqD (hu64 hr)) rel_eq (nomark _) (pub_ix (pub_of (pu_var (pv 3))) pu_int) pu_int)
    (puss_cons (pus_set (i := 15) sc_law_wide.nd rfl (.inl rfl) pu_int)
    puss_nil)
    puss_nil)
    (puss_cons (pus_app (i := 11) (pv 11) (pu_callB (call_max2 rfl) relc_max2 (by rfl) T.z_max (by decide +kernel) (pua_cons pu_int (pua_cons (pu_op op_sub rel_sub (pub_ix (pub_of (pu_var (pv 10))) (pu_var (pv 13))) (pu_var (pv 14))) pua_nil))))
    (puss_cons (pus_if (put_cmp (op_eqD (hu64 hr)) rel_eq (nomark _) (pub_ix (pub_of (pu_var (pv 3))) pu_int) pu_int)
    (puss_cons (pus_setIx (i := 11) (pv 11) (pu_var (pv 13)) pu_int)
    puss_nil)
    puss_nil)
    (puss_cons (pus_if (put_cmp op_notN rel_isnotN (nomark _) (pu_var (pv 15)) pu_non)
    (puss_cons (pus_set (i := 15) sc_law_wide.nd rfl (.inl rfl) (pu_op opAdd rel_add (pub_ix (pub_of (pu_var (pv 10))) (pu_var (pv 13))) (pu_var (pv 15))))
    puss_nil)
    puss_nil)
    (puss_cons (pus_app (i := 12) (pv 12) (pu_var (pv 15)))
    puss_nil))))))))))
    (puss_cons (pus_setLc (i := 16) (own := [("k", 6)]) rfl sc_law_wide.nd rfl rfl (sw_true rfl rfl rfl (by decide +kernel)) (pui_range1 (by rfl) T.z_range (pub_len (by rfl) T.z_len (pub_var (pv 5)))) (blkOk_by (N := N_law_wide) (sc := defScope s_law_wide) (by decide +kernel)) (by decide) (fun _ _ _ _ _ => (pug_name (i := 6) sc_law_wide.nd rfl (.inl rfl))) (fun _ _ _ _ _ => puts_nil) (fun _ _ _ _ _ => (pub_ix (pub_of (pu_ofL (pul_lst (pua_cons (pu_tup (pua_cons pu_int (pua_cons pu_int pua_nil))) (pua_cons (pu_tup (pua_cons (pub_ix (pub_of (pu_var (pv 9))) (pu_var (pv 6))) pua_nil)) pua_nil))))) (pu_callTy call_int1 relc_int (by rfl) T.z_int (by decide +kernel) (pua_cons (pu_cmp (op_eqD (hu64 hr)) rel_eq (nomark _) (pub_ix (pub_of (pu_var (pv 3))) (pu_op opAdd rel_add pu_int (pu_var (pv 6)))) pu_int) pua_nil)))))
    (puss_freeze 16 (puss_cons (pus_freeze 12 (pus_freeze 11 (pus_freeze 5 (pus_ret (pu_ofL (pul_lst (pua_cons (pu_var (pv 4)) (pua_cons (pu_var (pv 5)) (pua_cons (pu_var (pv 11)) (pua_cons (pu_var (pv 12)) (pua_cons (pu_var (pv 16)) (pua_cons (pu_var (pv 9)) pua_nil))))))))))))
    puss_nil))))))))))))))
theorem ok_law_spoilt (T : Tx K mg ad) : FnOk P w K mg base CX0 1 ad.a_law_spoilt ad.d_law_spoilt ["world", "row"] (spP K mg 2 g_law_spoilt) := ok_def T.F_law_spoilt sc_law_spoilt fun cdv A outer s H E hr =>
    (puss_cons (pus_set (i := 2) sc_law_spoilt.nd rfl (.inl rfl) (pub_ix (pub_of (pu_var (pv 0))) pu_int))
    (puss_cons (pus_set (i := 3) sc_law_spoilt.nd rfl (.inr rfl) (pub_ix (pub_of (pu_var (pv 0))) pu_int))
    (puss_cons (pus_setOw (i := 4) sc_law_spoilt.nd rfl (.inr rfl) (pul_listOf (by rfl) T.z_list (pub_of (pub_ix (pub_of (pu_var (pv 0))) pu_int))))
    (puss_cons (pus_setOw (i := 5) sc_law_spoilt.nd rfl (.inl rfl) (pul_listOf (by rfl) T.z_list (pub_of (pub_ix (pub_of (pu_var (pv 0))) pu_int))))
    (puss_cons (pus_setOw (i := 6) sc_law_spoilt.nd rfl (.inl rfl) (pul_listOf (by rfl) T.z_list (pub_of (pub_ix (pub_of (pu_var (pv 0))) pu_int))))
    (puss_cons (pus_for PassesOwn.never rfl (pui_range1 (by rfl) T.z_range (pub_ix (pub_of (pu_ofL (pul_lst (pua_cons pu_int (pua_cons pu_int (pua_cons pu_int (pua_cons pu_int (pua_cons pu_int (pua_cons pu_int (pua_cons pu_int (pua_cons pu_int pua_nil))))))))))) (pu_op op_mod rel_mod (pu_callTy call_int1 relc_int (by rfl) T.z_int (by decide +kernel) (pua_cons (pub_ix (pub_of (pu_var (pv 1))) pu_int) pua_nil)) pu_int))) (pug_name (i := 7) sc_law_spoilt.nd rfl (.inl rfl))
    (puss_cons (pus_set (i := 8) sc_law_spoilt.nd rfl (.inl rfl) (pu_op op_mod rel_mod (pu_callTy call_int1 relc_int (by rfl) T.z_int (by decide +kernel) (pua_cons (pub_ix (pub_of (pu_var (pv 1))) (pu_op opAdd rel_add pu_int (pu_op opMulT rel_mulT pu_int (pu_var (pv 7))))) pua_nil)) pu_int))
    (puss_cons (pus_set (i := 9) sc_law_spoilt.nd rfl (.inr rfl) (pu_op op_mod rel_mod (pu_callTy call_int1 relc_int (by rfl) T.z_int (by decide +kernel) (pua_cons (pub_ix (pub_of (pu_var (pv 1))) (pu_op opAdd rel_add pu_int (pu_op opMulT rel_mulT pu_int (pu_var (pv 7))))) pua_nil)) (pu_var (pv 2))))
    (puss_cons (pus_set (i := 10) sc_law_spoilt.nd rfl (.inr rfl) (pu_op op_mod rel_mod (pu_callTy call_int1 relc_int (by rfl) T.z_int (by decide +kernel) (pua_cons (pub_ix (pub_of (pu_var (pv 1))) (pu_op opAdd rel_add pu_int (pu_op opMulT rel_mulT pu_int (pu_var (pv 7))))) pua_nil)) pu_int))
    (puss_cons (pus_set (i := 11) sc_law_spoilt.nd rfl (.inl rfl) (pub_len (by rfl) T.z_len (pub_of (pu_ofL (pul_lc (own := [("k", 12)]) rfl sc_law_spoilt.nd (pui_range1 (by rfl) T.z_range (pub_len (by rfl) T.z_len (pub_of (pu_var (pv 3))))) (blkOk_by (N := N_law_spoilt) (sc := defScope s_law_spoilt) (by decide +kernel)) (by decide) (fun _ _ _ _ _ => (pug_name (i := 12) sc_law_spoilt.nd rfl (.inl rfl))) (fun _ _ _ _ _ => (puts_one (put_cmp (opIn (hu65 hr)) rel_inA (by rfl) (pu_var (pv 9)) (pub_ix (pub_of (pu_var (pv 3))) (pu_var (pv 12)))))) (fun _ _ _ _ _ => (pu_var (pv 12))))))))
    (puss_cons (pus_if (put_cmp op_le rel_le (nomark _) (pu_var (pv 8)) pu_int)
    (puss_cons (pus_setIx (i := 4) (pv 4) (pu_var (pv 9)) (pu_op opAdd rel_add (pu_op opAdd rel_add (pub_ix (pub_var (pv 4)) (pu_var (pv 9))) pu_int) (pu_op op_fdiv rel_fdiv (pu_var (pv 10)) pu_int)))
    puss_nil)
    puss_nil)
    (puss_cons (pus_if (put_cmp (op_eqD (hu64 hr)) rel_eq (nomark _) (pu_var (pv 8)) pu_int)
    (puss_cons (pus_setIx (i := 4) (pv 4) (pu_op op_mod rel_mod (pu_callTy call_int1 relc_int (by rfl) T.z_int (by decide +kernel) (pua_cons (pu_op opAdd rel_add (pu_var (pv 9)) pu_int) pua_nil)) (pu_var (pv 2))) (pu_op opAdd rel_add (pub_ix (pub_var (pv 4)) (pu_op op_mod rel_mod (pu_callTy call_int1 relc_int (by rfl) T.z_int (by decide +kernel) (pua_cons (pu_op opAdd rel_add (pu_var (pv 9)) pu_int) pua_nil)) (pu_var (pv 2)))) pu_int))
    puss_nil)
    puss_nil)
    (puss_cons (pus_if (put_cmp (op_eqD (hu64 hr)) rel_eq (nomark _) (pu_var (pv 8)) pu_int)
    (puss_cons (pus_setIx (i := 5) (pv 5) (pu_var (pv 9)) (pub_ix (pub_var (pv 4)) (pu_var (pv 9))))
    puss_nil)
    puss_nil)
    (puss_cons (pus_if (put_cmp (op_eqD (hu64 hr)) rel_eq (nomark _) (pu_var (pv 8)) pu_int)
    (puss_cons (pus_setIx (i := 5) (pv 5) (pu_var (pv 9)) (pu_callB (call_max2 rfl) relc_max2 (by rfl) T.z_max (by decide +kernel) (pua_cons pu_int (pua_cons (pu_op op_sub rel_sub (pub_ix (pub_var (pv 4)) (pu_var (pv 9))) pu_int) pua_nil))))
    puss_nil)
    puss_nil)
    (puss_cons (pus_if (put_cmp (op_eqD (hu64 hr)) rel_eq (nomark _) (pu_var (pv 8)) pu_int)
    (puss_cons (pus_setIx (i := 5) (pv 5) (pu_var (pv 9)) (pub_ix (pub_of (pu_ofL (pul_lst (pua_cons pu_int (pua_cons pu_int (pua_cons pu_int (pua_cons pu_int (pua_cons pu_int (pua_cons (pu_op op_pow rel_pow pu_int pu_int) pua_nil))))))))) (pu_var (pv 10))))
    puss_nil)
    puss_nil)
    (puss_cons (pus_if (put_cmp (op_eqD (hu64 hr)) rel_eq (nomark _) (pu_var (pv 8)) pu_int)
    (puss_cons (pus_setIx (i := 4) (pv 4) (pu_var (pv 9)) (pub_ix (pub_of (pu_ofL (pul_lst (pua_cons (pu_var (pv 11)) (pua_cons (pu_var (pv 11)) (pua_cons (pu_op opAdd rel_add (pu_var (pv 11)) pu_int) (pua_cons (pu_var (pv 11)) (pua_cons (pu_op opAdd rel_add (pu_op op_pow rel_pow pu_int pu_int) (pu_var (pv 11))) (pua_cons (pu_op opAdd rel_add (pu_var (pv 11)) pu_int) pua_nil))))))))) (pu_var (pv 10))))
    puss_nil)
    puss_nil)
    (puss_cons (pus_if (put_cmp (op_eqD (hu64 hr)) rel_eq (nomark _) (pu_var (pv 8)) pu_int)
    (puss_cons (pus_setLc (i := 5) (own := [("k", 12)]) rfl sc_law_spoilt.nd rfl rfl (sw_true rfl rfl rfl (by decide +kernel)) (pui_range1 (by rfl) T.z_range (pu_var (pv 2))) (blkOk_by (N := N_law_spoilt) (sc := defScope s_law_spoilt) (by decide +kernel)) (by decide) (fun _ _ _ _ _ => (pug_name (i := 12) sc_law_spoilt.nd rfl (.inl rfl))) (fun _ _ _ _ _ => puts_nil) (fun _ _ _ _ _ => (pu_op opAdd rel_add (pub_ix (pub_var (pv 4)) (pu_var (pv 12))) (pu_op op_mod rel_mod (pu_callTy call_int1 relc_int (by rfl) T.z_int (by decide +kernel) (pua_cons (pu_op opAdd rel_add (pu_var (pv 12)) (pu_var (pv 10))) pua_nil)) pu_int))))
    puss_nil)
    puss_nil)
    (puss_cons (pus_if (puw_and (put_cmp op_ge rel_ge (nomark _) (pu_var (pv 8)) pu_int) (puw_and1 (put_cmp op_gt rel_gt (nomark _) (pub_len (by rfl) T.z_len (pub_of (pu_var (pv 3)))) pu_int))).pt
    (puss_cons (pus_setIx (i := 6) (pv 6) (pu_op op_mod rel_mod (pu_callTy call_int1 relc_int (by rfl) T.z_int (by decide +kernel) (pua_cons (pub_ix (pub_of (pu_var (pv 1))) (pu_op opAdd rel_add pu_int (pu_op opMulT rel_mulT pu_int (pu_var (pv 7))))) pua_nil)) (pub_len (by rfl) T.z_len (pub_of (pu_var (pv 3))))) (pub_ix (pub_of (pu_ofL (pul_lst (pua_cons (pu_tup (pua_cons pu_int pua_nil)) (pua_cons (pu_tup (pua_cons pu_int pua_nil)) (pua_cons (pu_tup pua_nil) (pua_cons (pu_tup (pua_cons pu_int pua_nil)) (pua_cons (pu_tup (pua_cons pu_int pua_nil)) (pua_cons (pu_tup (pua_cons pu_int (pua_cons pu_int pua_nil))) pua_nil))))))))) (pu_var (pv 10))))
    puss_nil)
    puss_nil)
    puss_nil)))))))))))))
    (puss_cons (pus_freeze 6 (pus_freeze 5 (pus_freeze 4 (pus_ret (pu_ofL (pul_lst (pua_cons (pu_var (pv 2)) (pua_cons (pu_var (pv 3)) (pua_cons (pu_var (pv 4)) (pua_cons (pu_var (pv 5)) (pua_cons (pu_var (pv 6)) pua_nil)))))))))))
    puss_nil)))))))
theorem ok_law_numbers (T : Tx K mg ad) : FnOk P w K mg base CX0 1 ad.a_law_numbers ad.d_law_numbers ["world", "group"] (spP K mg 2 g_law_numbers) := ok_def T.F_law_numbers sc_law_numbers fun cdv A outer s H E hr =>
    (puss_cons (pus_set (i := 2) sc_law_numbers.nd rfl (.inl rfl) pu_int)
    (puss_cons (pus_set (i := 3) sc_law_numbers.nd rfl (.inl rfl) pu_int)
    (puss_cons (pus_for PassesOwn.never rfl (pui_range1 (by rfl) T.z_range (pub_len (by rfl) T.z_len (pub_of (pub_ix (pub_of (pu_var (pv 0))) pu_int)))) (pug_name (i := 4) sc_law_numbers.nd rfl (.inr rfl))
    (puss_cons (pus_setLc (i := 5) (own := [("side", 10)]) rfl sc_law_numbers.nd rfl rfl (sw_true rfl rfl rfl (by decide +kernel)) (pui_seq (pub_ix (pub_of (pub_ix (pub_of (pu_var (pv 0))) pu_int)) (pu_var (pv 4)))) (blkOk_by (N := N_law_numbers) (sc := defScope s_law_numbers) (by decide +kernel)) (by decide) (fun _ _ _ _ _ => (pug_name (i := 10) sc_law_numbers.nd rfl (.inl rfl))) (fun _ _ _ _ _ => puts_nil) (fun _ _ _ _ _ => (pub_ix (pub_of (pub_ix (pub_of (pub_ix (pub_of (pu_var (pv 0))) pu_int)) (pu_var (pv 4)))) (pu_var (pv 10)))))
    (puss_freeze 5 (puss_cons (pus_set (i := 6) sc_law_numbers.nd rfl (.inl rfl) (pub_len (by rfl) T.z_len (pub_of (pu_ofL (pul_lc (own := [("mill", 9)]) rfl sc_law_numbers.nd (pui_seq (pu_var (pv 5))) (blkOk_by (N := N_law_numbers) (sc := defScope s_law_numbers) (by decide +kernel)) (by decide) (fun _ _ _ _ _ => (pug_name (i := 9) sc_law_numbers.nd rfl (.inl rfl))) (fun _ _ _ _ _ => (puts_one (put_cmp (opIn (hu65 hr)) rel_inA (by rfl) (pu_var (pv 9)) (pu_var (pv 1))))) (fun _ _ _ _ _ => (pu_var (pv 9))))))))
    (puss_cons (pus_if (put_cmp op_gt rel_gt (nomark _) (pu_var (pv 6)) pu_int)
    (puss_cons (pus_set (i := 2) sc_law_numbers.nd rfl (.inl rfl) (pu_op opAdd rel_add (pu_var (pv 2)) pu_int))
    puss_nil)
    puss_nil)
    (puss_cons (pus_if (puw_and (put_cmp op_gt rel_gt (nomark _) (pu_var (pv 6)) pu_int) (puw_and1 (put_cmp (op_eqD (hu64 hr)) rel_eq (nomark _) (pu_var (pv 6)) (pub_len (by rfl) T.z_len (pub_of (pu_var (pv 5))))))).pt
    (puss_cons (pus_set (i := 3) sc_law_numbers.nd rfl (.inl rfl) (pu_op opAdd rel_add (pu_var (pv 3)) pu_int))
    puss_nil)
    puss_nil)
    puss_nil))))))
    (puss_cons (pus_set (i := 7) sc_law_numbers.nd rfl (.inl rfl) pu_int)
    (puss_cons (pus_set (i := 8) sc_law_numbers.nd rfl (.inl rfl) pu_int)
    (puss_cons (pus_for PassesOwn.never rfl (pui_range1 (by rfl) T.z_range (pub_ix (pub_of (pu_var (pv 0))) pu_int)) (pug_name (i := 9) sc_law_numbers.nd rfl (.inl rfl))
    (puss_cons (pus_if (put_cmp (opIn (hu65 hr)) rel_inA (by rfl) (pu_var (pv 9)) (pu_var (pv 1)))
    (puss_cons (pus_set (i := 7) sc_law_numbers.nd rfl (.inl rfl) (pu_op opAdd rel_add (pu_var (pv 7)) (pub_ix (pub_of (pub_ix (pub_of (pu_var (pv 0))) pu_int)) (pu_var (pv 9)))))
    (puss_cons (pus_if (put_cmp op_notN rel_isnotN (nomark _) (pu_var (pv 8)) pu_non)
    (puss_cons (pus_set (i := 8) sc_law_numbers.nd rfl (.inl rfl) (pu_if (put_cmp op_isN rel_isN (nomark _) (pub_ix (pub_of (pub_ix (pub_of (pu_var (pv 0))) pu_int)) (pu_var (pv 9))) pu_non) pu_non (pu_op opAdd rel_add (pu_var (pv 8)) (pub_ix (pub_of (pub_ix (pub_of (pu_var (pv 0))) pu_int)) (pu_var (pv 9))))))
    puss_nil)
    puss_nil)
    puss_nil))
    puss_nil)
    puss_nil))
    (puss_cons (pus_ret (pu_ofL (pul_lst (pua_cons (pu_var (pv 2)) (pua_cons (pu_var (pv 3)) (pua_cons (pu_var (pv 7)) (pua_cons (pu_var (pv 8)) pua_nil)))))))
    puss_nil)))))))
theorem okL_law_numbers (T : Tx K mg ad) : FnOk P w K mg base CX0 1 ad.a_law_numbers ad.d_law_numbers ["world", "group"] (spN K mg 2 gL_law_numbers) := ok_defL T.F_law_numbers sc_law_numbers fun cdv A outer s H E hr =>
    (pul2_cons (pus_set (i := 2) sc_law_numbers.nd rfl (.inl rfl) pu_int)
    (pul2_cons (pus_set (i := 3) sc_law_numbers.nd rfl (.inl rfl) pu_int)
    (pul2_cons (pus_for PassesOwn.never rfl (pui_range1 (by rfl) T.z_range (pub_len (by rfl) T.z_len (pub_of (pub_ix (pub_of (pu_var (pv 0))) pu_int)))) (pug_name (i := 4) sc_law_numbers.nd rfl (.inr rfl))
    (puss_cons (pus_setLc (i := 5) (own := [("side", 10)]) rfl sc_law_numbers.nd rfl rfl (sw_true rfl rfl rfl (by decide +kernel)) (pui_seq (pub_ix (pub_of (pub_ix (pub_of (pu_var (pv 0))) pu_int)) (pu_var (pv 4)))) (blkOk_by (N := N_law_numbers) (sc := defScope s_law_numbers) (by decide +kernel)) (by decide) (fun _ _ _ _ _ => (pug_name (i := 10) sc_law_numbers.nd rfl (.inl rfl))) (fun _ _ _ _ _ => puts_nil) (fun _ _ _ _ _ => (pub_ix (pub_of (pub_ix (pub_of (pub_ix (pub_of (pu_var (pv 0))) pu_int)) (pu_var (pv 4)))) (pu_var (pv 10)))))
    (puss_freeze 5 (puss_cons (pus_set (i := 6) sc_law_numbers.nd rfl (.inl rfl) (pub_len (by rfl) T.z_len (pub_of (pu_ofL (pul_lc (own := [("mill", 9)]) rfl sc_law_numbers.nd (pui_seq (pu_var (pv 5))) (blkOk_by (N := N_law_numbers) (sc := defScope s_law_numbers) (by decide +kernel)) (by decide) (fun _ _ _ _ _ => (pug_name (i := 9) sc_law_numbers.nd rfl (.inl rfl))) (fun _ _ _ _ _ => (puts_one (put_cmp (opIn (hu65 hr)) rel_inA (by rfl) (pu_var (pv 9)) (pu_var (pv 1))))) (fun _ _ _ _ _ => (pu_var (pv 9))))))))
    (puss_cons (pus_if (put_cmp op_gt rel_gt (nomark _) (pu_var (pv 6)) pu_int)
    (puss_cons (pus_set (i := 2) sc_law_numbers.nd rfl (.inl rfl) (pu_op opAdd rel_add (pu_var (pv 2)) pu_int))
    puss_nil)
    puss_nil)
    (puss_cons (pus_if (puw_and (put_cmp op_gt rel_gt (nomark _) (pu_var (pv 6)) pu_int) (puw_and1 (put_cmp (op_eqD (hu64 hr)) rel_eq (nomark _) (pu_var (pv 6)) (pub_len (by rfl) T.z_len (pub_of (pu_var (pv 5))))))).pt
    (puss_cons (pus_set (i := 3) sc_law_numbers.nd rfl (.inl rfl) (pu_op opAdd rel_add (pu_var (pv 3)) pu_int))
    puss_nil)
    puss_nil)
    puss_nil))))))
    (pul2_cons (pus_set (i := 7) sc_law_numbers.nd rfl (.inl rfl) pu_int)
    (pul2_cons (pus_set (i := 8) sc_law_numbers.nd rfl (.inl rfl) pu_int)
    (pul2_cons (pus_for PassesOwn.never rfl (pui_range1 (by rfl) T.z_range (pub_ix (pub_of (pu_var (pv 0))) pu_int)) (pug_name (i := 9) sc_law_numbers.nd rfl (.inl rfl))
    (puss_cons (pus_if (put_cmp (opIn (hu65 hr)) rel_inA (by rfl) (pu_var (pv 9)) (pu_var (pv 1)))
    (puss_cons (pus_set (i := 7) sc_law_numbers.nd rfl (.inl rfl) (pu_op opAdd rel_add (pu_var (pv 7)) (pub_ix (pub_of (pub_ix (pub_of (pu_var (pv 0))) pu_int)) (pu_var (pv 9)))))
    (puss_cons (pus_if (put_cmp op_notN rel_isnotN (nomark _) (pu_var (pv 8)) pu_non)
    (puss_cons (pus_set (i := 8) sc_law_numbers.nd rfl (.inl rfl) (pu_if (put_cmp op_isN rel_isN (nomark _) (pub_ix (pub_of (pub_ix (pub_of (pu_var (pv 0))) pu_int)) (pu_var (pv 9))) pu_non) pu_non (pu_op opAdd rel_add (pu_var (pv 8)) (pub_ix (pub_of (pub_ix (pub_of (pu_var (pv 0))) pu_int)) (pu_var (pv 9))))))
    puss_nil)
    puss_nil)
    puss_nil))
    puss_nil)
    puss_nil))
    (pul2_ret (pul_lst (pua_cons (pu_var (pv 2)) (pua_cons (pu_var (pv 3)) (pua_cons (pu_var (pv 7)) (pua_cons (pu_var (pv 8)) pua_nil))))))))))))
theorem ok_law_kept (T : Tx K mg ad) : FnOk P w K mg base CX0 1 ad.a_law_kept ad.d_law_kept ["rule", "world"] (spP K mg 2 g_law_kept) := ok_def T.F_law_kept sc_law_kept fun cdv A outer s H E hr =>
    (puss_cons (pus_if (puw_or (put_cmp (op_neD (hu64 hr)) rel_ne (nomark _) (pu_fld T.fo_Valley_mills (pu_fld T.fo_Season_valley (pu_var (pv 0)))) (pub_ix (pub_of (pu_var (pv 1))) pu_int)) (puw_or1 (put_cmp (op_neD (hu64 hr)) rel_ne (nomark _) (pu_fld T.fo_Valley_sluices (pu_fld T.fo_Season_valley (pu_var (pv 0)))) (pub_tupleOf (by rfl) T.z_tuple (pub_of (pub_ix (pub_of (pu_var (pv 1))) pu_int)))))).pt
    (puss_cons (pus_ret pu_bl)
    puss_nil)
    puss_nil)
    (puss_cons (pus_ret (pu_and (pu_cmp (op_eqD (hu64 hr)) rel_eq (nomark _) (pu_fld T.fo_Season_needs (pu_var (pv 0))) (pub_tupleOf (by rfl) T.z_tuple (pub_of (pub_ix (pub_of (pu_var (pv 1))) pu_int)))) (pu_and (pu_cmp (op_eqD (hu64 hr)) rel_eq (nomark _) (pu_fld T.fo_Season_limits (pu_var (pv 0))) (pub_tupleOf (by rfl) T.z_tuple (pub_of (pub_ix (pub_of (pu_var (pv 1))) pu_int)))) (pu_one (pu_cmp (op_eqD (hu64 hr)) rel_eq (nomark _) (pu_fld T.fo_Season_sides (pu_var (pv 0))) (pub_tupleOf (by rfl) T.z_tuple (pub_of (pub_ix (pub_of (pu_var (pv 1))) pu_int))))))))
    puss_nil))
theorem ok_law_shown (T : Tx K mg ad) : FnOk P w K mg base CX0 1 ad.a_law_shown ad.d_law_shown ["group", "k"] (spP K mg 2 g_law_shown) := ok_def T.F_law_shown sc_law_shown fun cdv A outer s H E hr =>
    (puss_cons (pus_if (put_cmp (op_eqD (hu64 hr)) rel_eq (nomark _) (pu_op op_mod rel_mod (pu_callTy call_int1 relc_int (by rfl) T.z_int (by decide +kernel) (pua_cons (pu_var (pv 1)) pua_nil)) pu_int) pu_int)
    (puss_cons (pus_ret (pu_ofL (pul_lc (own := [("j", 2)]) rfl sc_law_shown.nd (pui_range1 (by rfl) T.z_range (pub_len (by rfl) T.z_len (pub_of (pu_var (pv 0))))) (blkOk_by (N := N_law_shown) (sc := defScope s_law_shown) (by decide +kernel)) (by decide) (fun _ _ _ _ _ => (pug_name (i := 2) sc_law_shown.nd rfl (.inl rfl))) (fun _ _ _ _ _ => puts_nil) (fun _ _ _ _ _ => (pub_ix (pub_of (pu_var (pv 0))) (pu_op op_sub rel_sub (pu_op op_sub rel_sub (pub_len (by rfl) T.z_len (pub_of (pu_var (pv 0)))) pu_int) (pu_var (pv 2))))))))
    puss_nil)
    puss_nil)
    (puss_cons (pus_if (put_cmp (op_eqD (hu64 hr)) rel_eq (nomark _) (pu_op op_mod rel_mod (pu_callTy call_int1 relc_int (by rfl) T.z_int (by decide +kernel) (pua_cons (pu_var (pv 1)) pua_nil)) pu_int) pu_int)
    (puss_cons (pus_ret (pu_op opAdd rel_add (pu_ofL (pul_listOf (by rfl) T.z_list (pub_of (pu_var (pv 0))))) (pu_ofL (pul_listOf (by rfl) T.z_list (pub_of (pu_var (pv 0)))))))
    puss_nil)
    puss_nil)
    (puss_cons (pus_if (put_cmp (op_eqD (hu64 hr)) rel_eq (nomark _) (pu_op op_mod rel_mod (pu_callTy call_int1 relc_int (by rfl) T.z_int (by decide +kernel) (pua_cons (pu_var (pv 1)) pua_nil)) pu_int) pu_int)
    (puss_cons (pus_ret (pu_op opAdd rel_add (pu_sl (pu_var (pv 0)) (puo_some pu_int) puo_none) (pu_sl (pu_var (pv 0)) puo_none (puo_some pu_int))))
    puss_nil)
    puss_nil)
    (puss_cons (pus_ret (pu_var (pv 0)))
    puss_nil))))
theorem ok_law_subsets (T : Tx K mg ad) : FnOk P w K mg base CX0 1 ad.a_law_subsets ad.d_law_subsets ["numbers", "upto"] (spP K mg 2 g_law_subsets) := ok_def T.F_law_subsets sc_law_subsets fun cdv A outer s H E hr =>
    (puss_cons (pus_set (i := 2) sc_law_subsets.nd rfl (.inl rfl) (pu_ofL (pul_lst (pua_cons (pu_tup pua_nil) pua_nil))))
    (puss_cons (pus_set (i := 3) sc_law_subsets.nd rfl (.inl rfl) (pu_ofL (pul_lst (pua_cons (pu_tup pua_nil) pua_nil))))
    (puss_cons (pus_for PassesOwn.never rfl (pui_range1 (by rfl) T.z_range (pu_callB (call_min2 rfl) relc_min2 (by rfl) T.z_min (by decide +kernel) (pua_cons (pu_var (pv 1)) (pua_cons (pub_len (by rfl) T.z_len (pub_of (pu_var (pv 0)))) pua_nil)))) (pug_name (i := 4) sc_law_subsets.nd rfl (.inl rfl))
    (puss_cons (pus_setOw (i := 5) sc_law_subsets.nd rfl (.inl rfl) (pul_lst pua_nil))
    (puss_cons (pus_for PassesOwn.never rfl (pui_seq (pu_var (pv 2))) (pug_name (i := 6) sc_law_subsets.nd rfl (.inl rfl))
    (puss_cons (pus_for PassesOwn.never rfl (pui_seq (pu_var (pv 0))) (pug_name (i := 7) sc_law_subsets.nd rfl (.inl rfl))
    (puss_cons (pus_if (puw_or (put_cmp (op_eqD (hu64 hr)) rel_eq (nomark _) (pub_len (by rfl) T.z_len (pub_of (pu_var (pv 6)))) pu_int) (puw_or1 (put_cmp op_gt rel_gt (nomark _) (pu_var (pv 7)) (pub_ix (pub_of (pu_var (pv 6))) (pu_neg pu_int))))).pt
    (puss_cons (pus_app (i := 5) (pv 5) (pu_op opAdd rel_add (pu_var (pv 6)) (pu_tup (pua_cons (pu_var (pv 7)) pua_nil))))
    puss_nil)
    puss_nil)
    puss_nil))
    puss_nil))
    (puss_cons (pus_set (i := 2) sc_law_subsets.nd rfl (.inl rfl) (pu_ofL (pul_listOf (by rfl) T.z_list (pub_var (pv 5)))))
    (puss_cons (pus_set (i := 3) sc_law_subsets.nd rfl (.inl rfl) (pu_op opAdd rel_add (pu_var (pv 3)) (pu_var (pv 2))))
    puss_nil)))))
    (puss_cons (pus_ret (pu_var (pv 3)))
    puss_nil))))
theorem ok_law_lots (T : Tx K mg ad) : FnOk P w K mg base CX0 2 ad.a_law_lots ad.d_law_lots ["mills", "row"] (spP K mg 2 g_law_lots) := ok_def T.F_law_lots sc_law_lots fun cdv A outer s H E hr =>
    (puss_cons (pus_set (i := 2) sc_law_lots.nd rfl (.inl rfl) (pub_tupleOf (by rfl) T.z_tuple (pub_of (pu_ofL (pul_lc (own := [("mill", 4)]) rfl sc_law_lots.nd (pui_range1 (by rfl) T.z_range (pu_var (pv 0))) (blkOk_by (N := N_law_lots) (sc := defScope s_law_lots) (by decide +kernel)) (by decide) (fun _ _ _ _ _ => (pug_name (i := 4) sc_law_lots.nd rfl (.inl rfl))) (fun _ _ _ _ _ => puts_nil) (fun _ _ _ _ _ => (pu_var (pv 4))))))))
    (puss_cons (pus_if (put_cmp op_le rel_le (nomark _) (pu_var (pv 0)) pu_int)
    (puss_cons (pus_ret (pu_call (ok_law_subsets T) (hr.mono (by decide)) (by rfl) T.m_law_subsets T.F_law_subsets.kp T.b_law_subsets (fun _ _ => gDef_len) (pua_cons (pu_ofL (pul_listOf (by rfl) T.z_list (pub_of (pu_var (pv 2))))) (pua_cons (pu_var (pv 0)) pua_nil))))
    puss_nil)
    puss_nil)
    (puss_cons (pus_setOw (i := 3) sc_law_lots.nd rfl (.inl rfl) (pul_lst (pua_cons (pu_tup pua_nil) (pua_cons (pu_var (pv 2)) pua_nil))))
    (puss_cons (pus_for PassesOwn.never rfl (pui_range1 (by rfl) T.z_range (pu_var (pv 0))) (pug_name (i := 4) sc_law_lots.nd rfl (.inl rfl))
    (puss_cons (pus_app (i := 3) (pv 3) (pu_tup (pua_cons (pu_var (pv 4)) pua_nil)))
    (puss_cons (pus_app (i := 3) (pv 3) (pu_op opAdd rel_add (pu_sl (pu_var (pv 2)) puo_none (puo_some (pu_var (pv 4)))) (pu_sl (pu_var (pv 2)) (puo_some (pu_op opAdd rel_add (pu_var (pv 4)) pu_int)) puo_none)))
    puss_nil)))
    (puss_cons (pus_for PassesOwn.never rfl (pui_range1 (by rfl) T.z_range pu_int) (pug_name (i := 5) sc_law_lots.nd rfl (.inr rfl))
    (puss_cons (pus_app (i := 3) (pv 3) (pub_tupleOf (by rfl) T.z_tuple (pub_of (pu_ofL (pul_lc (own := [("mill", 4)]) rfl sc_law_lots.nd (pui_range1 (by rfl) T.z_range (pu_var (pv 0))) (blkOk_by (N := N_law_lots) (sc := defScope s_law_lots) (by decide +kernel)) (by decide) (fun _ _ _ _ _ => (pug_name (i := 4) sc_law_lots.nd rfl (.inl rfl))) (fun _ _ _ _ _ => (puts_one (put_cmp (op_eqD (hu64 hr)) rel_eq (nomark _) (pub_ix (pub_of (pu_var (pv 1))) (pu_op opAdd rel_add (pu_op opMulT rel_mulT pu_int (pu_var (pv 5))) (pu_var (pv 4)))) pu_int))) (fun _ _ _ _ _ => (pu_var (pv 4))))))))
    puss_nil))
    (puss_cons (pus_freeze 3 (pus_ret (pu_var (pv 3))))
    puss_nil))))))
theorem ok_law_levelled (T : Tx K mg ad) : FnOk P w K mg base CX0 2 ad.a_law_levelled ad.d_law_levelled ["world", "one", "two", "above", "below"] (spP K mg 5 g_law_levelled) := ok_def T.F_law_levelled sc_law_levelled fun cdv A outer s H E hr =>
    (puss_cons (pus_setOw (i := 5) sc_law_levelled.nd rfl (.inl rfl) (pul_listOf (by rfl) T.z_list (pub_of (pub_ix (pub_of (pu_var (pv 0))) pu_int))))
    (puss_cons (pus_setOw (i := 6) sc_law_levelled.nd rfl (.inr rfl) (pul_listOf (by rfl) T.z_list (pub_of (pub_ix (pub_of (pu_var (pv 0))) pu_int))))
    (puss_cons (pus_if (put_cmp op_gt rel_gt (nomark _) (pub_len (by rfl) T.z_len (pub_of (pu_var (pv 1)))) pu_int)
    (puss_cons (pus_set (i := 7) sc_law_levelled.nd rfl (.inl rfl) (pu_call (ok_law_numbers T) (hr.mono (by decide)) (by rfl) T.m_law_numbers T.F_law_numbers.kp T.b_law_numbers (fun _ _ => gDef_len) (pua_cons (pu_var (pv 0)) (pua_cons (pu_var (pv 1)) pua_nil))))
    (puss_cons (pus_setIx (i := 5) (pv 5) (pub_ix (pub_of (pu_var (pv 1))) pu_int) (pu_callB (call_max2 rfl) relc_max2 (by rfl) T.z_max (by decide +kernel) (pua_cons pu_int (pua_cons (pu_op op_sub rel_sub (pu_op opAdd rel_add (pu_op opAdd rel_add (pub_ix (pub_var (pv 5)) (pub_ix (pub_of (pu_var (pv 1))) pu_int)) (pub_ix (pub_of (pu_var (pv 7))) pu_int)) (pu_var (pv 3))) (pub_ix (pub_of (pu_var (pv 7))) pu_int)) pua_nil))))
    puss_nil))
    puss_nil)
    (puss_cons (pus_if (put_cmp op_gt rel_gt (nomark _) (pub_len (by rfl) T.z_len (pub_of (pu_var (pv 2)))) pu_int)
    (puss_cons (pus_setOw (i := 6) sc_law_levelled.nd rfl (.inr rfl) (pul_lc (own := [("mill", 8)]) rfl sc_law_levelled.nd (pui_range1 (by rfl) T.z_range (pub_ix (pub_of (pu_var (pv 0))) pu_int)) (blkOk_by (N := N_law_levelled) (sc := defScope s_law_levelled) (by decide +kernel)) (by decide) (fun _ _ _ _ _ => (pug_name (i := 8) sc_law_levelled.nd rfl (.inl rfl))) (fun _ _ _ _ _ => puts_nil) (fun _ _ _ _ _ => (pu_if (puw_and (put_cmp (opIn (hu65 hr)) rel_inA (by rfl) (pu_var (pv 8)) (pu_var (pv 2))) (puw_and1 (put_cmp op_isN rel_isN (nomark _) (pub_ix (pub_var (pv 6)) (pu_var (pv 8))) pu_non))).pt (pub_len (by rfl) T.z_len (pub_of (pub_ix (pub_of (pu_var (pv 0))) pu_int))) (pub_ix (pub_var (pv 6)) (pu_var (pv 8)))))))
    (puss_cons (pus_setLend (i := 7) (js := [5, 6]) sc_law_levelled.nd rfl (.inl rfl) (okL_law_numbers T) (hr.mono (by decide)) (by rfl) T.m_law_numbers T.F_law_numbers.kp T.b_law_numbers (fun _ _ => gDefL_len) (pua_cons (pu_ofL (pul_lst (pua_cons (pub_ix (pub_of (pu_var (pv 0))) pu_int) (pua_cons (pub_ix (pub_of (pu_var (pv 0))) pu_int) (pua_cons (pu_var (pv 5)) (pua_cons (pu_var (pv 6)) (pua_cons (pub_ix (pub_of (pu_var (pv 0))) pu_int) pua_nil))))))) (pua_cons (pu_var (pv 2)) pua_nil)))
    (puss_cons (pus_setIx (i := 6) (pv 6) (pub_ix (pub_of (pu_var (pv 2))) (pu_neg pu_int)) (pu_callB (call_max2 rfl) relc_max2 (by rfl) T.z_max (by decide +kernel) (pua_cons pu_int (pua_cons (pu_op op_sub rel_sub (pu_op op_sub rel_sub (pu_op opAdd rel_add (pub_ix (pub_var (pv 6)) (pub_ix (pub_of (pu_var (pv 2))) (pu_neg pu_int))) (pub_ix (pub_of (pu_var (pv 7))) pu_int)) (pu_var (pv 4))) (pub_ix (pub_of (pu_var (pv 7))) pu_int)) pua_nil))))
    puss_nil)))
    puss_nil)
    (puss_cons (pus_freeze 6 (pus_freeze 5 (pus_ret (pu_ofL (pul_lst (pua_cons (pub_ix (pub_of (pu_var (pv 0))) pu_int) (pua_cons (pub_ix (pub_of (pu_var (pv 0))) pu_int) (pua_cons (pu_var (pv 5)) (pua_cons (pu_var (pv 6)) (pua_cons (pub_ix (pub_of (pu_var (pv 0))) pu_int) pua_nil))))))))))
    puss_nil)))))
theorem ok_feeding_sides (T : Tx K mg ad) : FnOk P w K mg base CX0 1 ad.a_feeding_sides ad.d_feeding_sides ["season", "sluice", "lot"] (spP K mg 3 g_feeding_sides) := ok_def T.F_feeding_sides sc_feeding_sides fun cdv A outer s H E hr =>
    (puss_cons (pus_set (i := 3) sc_feeding_sides.nd rfl (.inr rfl) (pub_ix (pub_of (pu_fld T.fo_Valley_sluices (pu_fld T.fo_Season_valley (pu_var (pv 0))))) (pu_var (pv 1))))
    (puss_cons (pus_ret (pu_ofL (pul_lc (own := [("side", 4)]) rfl sc_feeding_sides.nd (pui_seq (pub_ix (pub_of (pu_fld T.fo_Season_sides (pu_var (pv 0)))) (pu_var (pv 1)))) (blkOk_by (N := N_feeding_sides) (sc := defScope s_feeding_sides) (by decide +kernel)) (by decide) (fun _ _ _ _ _ => (pug_name (i := 4) sc_feeding_sides.nd rfl (.inl rfl))) (fun _ _ _ _ _ => (puts_one (put_cmp (opIn (hu65 hr)) rel_inA (by rfl) (pub_ix (pub_of (pu_var (pv 3))) (pu_var (pv 4))) (pu_var (pv 2))))) (fun _ _ _ _ _ => (pu_var (pv 4))))))
    puss_nil))
theorem ok_gain (T : Tx K mg ad) : FnOk P w K mg base CX0 2 ad.a_gain ad.d_gain ["season", "lot"] (spP K mg 2 g_gain) := ok_def T.F_gain sc_gain fun cdv A outer s H E hr =>
    (puss_cons (pus_ret (pub_len (by rfl) T.z_len (pub_of (pu_ofL (pul_lc (own := [("sluice", 2)]) rfl sc_gain.nd (pui_range1 (by rfl) T.z_range (pub_len (by rfl) T.z_len (pub_of (pu_fld T.fo_Season_sides (pu_var (pv 0)))))) (blkOk_by (N := N_gain) (sc := defScope s_gain) (by decide +kernel)) (by decide) (fun _ _ _ _ _ => (pug_name (i := 2) sc_gain.nd rfl (.inl rfl))) (fun _ _ _ _ _ => (puts_one (put_cmp op_gt rel_gt (nomark _) (pub_len (by rfl) T.z_len (pub_of (pu_call (ok_feeding_sides T) (hr.mono (by decide)) (by rfl) T.m_feeding_sides T.F_feeding_sides.kp T.b_feeding_sides (fun _ _ => gDef_len) (pua_cons (pu_var (pv 0)) (pua_cons (pu_var (pv 2)) (pua_cons (pu_var (pv 1)) pua_nil)))))) pu_int))) (fun _ _ _ _ _ => (pu_var (pv 2))))))))
    puss_nil)
theorem ok_distinct (T : Tx K mg ad) : FnOk P w K mg base CX0 1 ad.a_distinct ad.d_distinct ["numbers"] (spP K mg 1 g_distinct) := ok_def T.F_distinct sc_distinct fun cdv A outer s H E hr =>
    (puss_cons (pus_ret (pub_tupleOf (by rfl) T.z_tuple (pub_of (pu_ofL (pul_sortSet rfl (by rfl) T.z_sorted (by rfl) T.z_set (pu_var (pv 0)))))))
    puss_nil)
theorem ok_want (T : Tx K mg ad) : FnOk P w K mg base CX0 2 ad.a_want ad.d_want ["season", "lot"] (spP K mg 2 g_want) := ok_def T.F_want sc_want fun cdv A outer s H E hr =>
    (puss_cons (pus_ret (pu_callB (cr_sum rfl) relc_sum (by rfl) T.z_sum (by decide +kernel) (pua_cons (pu_ofL (pul_lc (own := [("mill", 2)]) rfl sc_want.nd (pui_seq (pu_call (ok_distinct T) (hr.mono (by decide)) (by rfl) T.m_distinct T.F_distinct.kp T.b_distinct (fun _ _ => gDef_len) (pua_cons (pu_var (pv 1)) pua_nil))) (blkOk_by (N := N_want) (sc := defScope s_want) (by decide +kernel)) (by decide) (fun _ _ _ _ _ => (pug_name (i := 2) sc_want.nd rfl (.inl rfl))) (fun _ _ _ _ _ => puts_nil) (fun _ _ _ _ _ => (pub_ix (pub_of (pu_fld T.fo_Season_needs (pu_var (pv 0)))) (pu_var (pv 2)))))) pua_nil)))
    puss_nil)
theorem ok_load (T : Tx K mg ad) : FnOk P w K mg base CX0 2 ad.a_load ad.d_load ["season", "lot"] (spP K mg 2 g_load) := ok_def T.F_load sc_load fun cdv A outer s H E hr =>
    (puss_cons (pus_ret (pub_len (by rfl) T.z_len (pub_of (pu_ofL (pul_lc (own := [("sluice", 2), ("let", 3)]) rfl sc_load.nd (pui_enum (by rfl) T.z_enumerate (pu_fld T.fo_Season_sides (pu_var (pv 0)))) (blkOk_by (N := N_load) (sc := defScope s_load) (by decide +kernel)) (by decide) (fun _ _ _ _ _ => (pug_tup rfl (pugs_cons (pug_name (i := 2) sc_load.nd rfl (.inl rfl)) (pugs_cons (pug_name (i := 3) sc_load.nd rfl (.inl rfl)) pugs_nil)) rfl rfl (gt_len (gt_len gt_len0)))) (fun _ _ _ _ _ => (puts_one (puw_and (put_cmp op_gt rel_gt (nomark _) (pub_len (by rfl) T.z_len (pub_of (pu_var (pv 3)))) pu_int) (puw_and1 (put_cmp (op_eqD (hu64 hr)) rel_eq (nomark _) (pub_len (by rfl) T.z_len (pub_of (pu_call (ok_feeding_sides T) (hr.mono (by decide)) (by rfl) T.m_feeding_sides T.F_feeding_sides.kp T.b_feeding_sides (fun _ _ => gDef_len) (pua_cons (pu_var (pv 0)) (pua_cons (pu_var (pv 2)) (pua_cons (pu_var (pv 1)) pua_nil)))))) (pub_len (by rfl) T.z_len (pub_of (pu_var (pv 3))))))).pt)) (fun _ _ _ _ _ => (pu_var (pv 2))))))))
    puss_nil)
theorem ok_bear (T : Tx K mg ad) : FnOk P w K mg base CX0 2 ad.a_bear ad.d_bear ["season", "lot"] (spP K mg 2 g_bear) := ok_def T.F_bear sc_bear fun cdv A outer s H E hr =>
    (puss_cons (pus_setLc (i := 2) (own := [("mill", 3)]) rfl sc_bear.nd rfl rfl (sw_true rfl rfl rfl (by decide +kernel)) (pui_seq (pu_call (ok_distinct T) (hr.mono (by decide)) (by rfl) T.m_distinct T.F_distinct.kp T.b_distinct (fun _ _ => gDef_len) (pua_cons (pu_var (pv 1)) pua_nil))) (blkOk_by (N := N_bear) (sc := defScope s_bear) (by decide +kernel)) (by decide) (fun _ _ _ _ _ => (pug_name (i := 3) sc_bear.nd rfl (.inl rfl))) (fun _ _ _ _ _ => puts_nil) (fun _ _ _ _ _ => (pub_ix (pub_of (pu_fld T.fo_Season_limits (pu_var (pv 0)))) (pu_var (pv 3)))))
    (puss_freeze 2 (puss_cons (pus_ret (pu_if (put_cmp (opIn (hu65 hr)) rel_inA (by rfl) pu_non (pu_var (pv 2))) pu_non (pu_callB (cr_sum rfl) relc_sum (by rfl) T.z_sum (by decide +kernel) (pua_cons (pu_var (pv 2)) pua_nil))))
    puss_nil)))
theorem ok_bears_too_little (T : Tx K mg ad) : FnOk P w K mg base CX0 3 ad.a_bears_too_little ad.d_bears_too_little ["season", "lot"] (spP K mg 2 g_bears_too_little) := ok_def T.F_bears_too_little sc_bears_too_little fun cdv A outer s H E hr =>
    (puss_cons (pus_set (i := 2) sc_bears_too_little.nd rfl (.inl rfl) (pu_call (ok_bear T) (hr.mono (by decide)) (by rfl) T.m_bear T.F_bear.kp T.b_bear (fun _ _ => gDef_len) (pua_cons (pu_var (pv 0)) (pua_cons (pu_var (pv 1)) pua_nil))))
    (puss_cons (pus_ret (pu_and (pu_cmp op_notN rel_isnotN (nomark _) (pu_var (pv 2)) pu_non) (pu_one (pu_cmp op_gt rel_gt (nomark _) (pu_call (ok_load T) (hr.mono (by decide)) (by rfl) T.m_load T.F_load.kp T.b_load (fun _ _ => gDef_len) (pua_cons (pu_var (pv 0)) (pua_cons (pu_var (pv 1)) pua_nil))) (pu_var (pv 2))))))
    puss_nil))
theorem ok_bears_less_than_need (T : Tx K mg ad) : FnOk P w K mg base CX0 1 ad.a_bears_less_than_need ad.d_bears_less_than_need ["season", "mill"] (spP K mg 2 g_bears_less_than_need) := ok_def T.F_bears_less_than_need sc_bears_less_than_need fun cdv A outer s H E hr =>
    (puss_cons (pus_set (i := 2) sc_bears_less_than_need.nd rfl (.inl rfl) (pub_ix (pub_of (pu_fld T.fo_Season_limits (pu_var (pv 0)))) (pu_var (pv 1))))
    (puss_cons (pus_ret (pu_and (pu_cmp op_notN rel_isnotN (nomark _) (pu_var (pv 2)) pu_non) (pu_one (pu_cmp op_lt rel_lt (nomark _) (pu_var (pv 2)) (pub_ix (pub_of (pu_fld T.fo_Season_needs (pu_var (pv 0)))) (pu_var (pv 1)))))))
    puss_nil))
theorem ok_is_obstacle (T : Tx K mg ad) : FnOk P w K mg base CX0 4 ad.a_is_obstacle ad.d_is_obstacle ["season", "value"] (spP K mg 2 g_is_obstacle) := ok_def T.F_is_obstacle sc_is_obstacle fun cdv A outer s H E hr =>
    (puss_cons (pus_asg (pu_var (pv 1)) (pug_seq rfl (pugs_cons (pug_name (i := 2) sc_is_obstacle.nd rfl (.inl rfl)) (pugs_cons (pug_name (i := 3) sc_is_obstacle.nd rfl (.inl rfl)) pugs_nil)) rfl rfl (gt_len (gt_len gt_len0))))
    (puss_cons (pus_if (put_cmp (op_eqD (hu64 hr)) rel_eq (nomark _) (pu_var (pv 2)) pu_str)
    (puss_cons (pus_ret (pu_cmp (op_eqD (hu64 hr)) rel_eq (nomark _) (pub_len (by rfl) T.z_len (pub_of (pub_ix (pub_of (pu_fld T.fo_Season_sides (pu_var (pv 0)))) (pu_var (pv 3))))) pu_int))
    puss_nil)
    puss_nil)
    (puss_cons (pus_if (put_cmp (op_eqD (hu64 hr)) rel_eq (nomark _) (pu_var (pv 2)) pu_str)
    (puss_cons (pus_ret (pu_call (ok_bears_less_than_need T) (hr.mono (by decide)) (by rfl) T.m_bears_less_than_need T.F_bears_less_than_need.kp T.b_bears_less_than_need (fun _ _ => gDef_len) (pua_cons (pu_var (pv 0)) (pua_cons (pu_var (pv 3)) pua_nil))))
    puss_nil)
    puss_nil)
    (puss_cons (pus_if (put_cmp (op_eqD (hu64 hr)) rel_eq (nomark _) (pu_var (pv 2)) pu_str)
    (puss_cons (pus_ret (pu_cmp op_gt rel_gt (nomark _) (pu_call (ok_want T) (hr.mono (by decide)) (by rfl) T.m_want T.F_want.kp T.b_want (fun _ _ => gDef_len) (pua_cons (pu_var (pv 0)) (pua_cons (pu_var (pv 3)) pua_nil))) (pu_call (ok_gain T) (hr.mono (by decide)) (by rfl) T.m_gain T.F_gain.kp T.b_gain (fun _ _ => gDef_len) (pua_cons (pu_var (pv 0)) (pua_cons (pu_var (pv 3)) pua_nil)))))
    puss_nil)
    puss_nil)
    (puss_cons (pus_ret (pu_call (ok_bears_too_little T) (hr.mono (by decide)) (by rfl) T.m_bears_too_little T.F_bears_too_little.kp T.b_bears_too_little (fun _ _ => gDef_len) (pua_cons (pu_var (pv 0)) (pua_cons (pu_var (pv 3)) pua_nil))))
    puss_nil)))))
theorem ok_law_single (T : Tx K mg ad) : FnOk P w K mg base CX0 5 ad.a_law_single ad.d_law_single ["rule", "word", "number", "due"] (spP K mg 4 g_law_single) := ok_def T.F_law_single sc_law_single fun cdv A outer s H E hr =>
    (puss_cons (pus_set (i := 4) sc_law_single.nd rfl (.inl rfl) (pu_ofL (pul_lst (pua_cons (pu_var (pv 1)) (pua_cons (pu_var (pv 2)) pua_nil)))))
    (puss_cons (pus_set (i := 5) sc_law_single.nd rfl (.inl rfl) (pu_call (ok_is_obstacle T) (hr.mono (by decide)) (by rfl) T.m_is_obstacle T.F_is_obstacle.kp T.b_is_obstacle (fun _ _ => gDef_len) (pua_cons (pu_var (pv 0)) (pua_cons (pu_var (pv 4)) pua_nil))))
    (puss_cons (pus_set (i := 6) sc_law_single.nd rfl (.inl rfl) (pu_callK0 (idx := [1, 0]) (ks := ["value", "season"]) (ok_is_obstacle T) (hr.mono (by decide)) (by rfl) T.m_is_obstacle T.F_is_obstacle.kp T.kp_is_obstacle_0_value_season (gl_cons (gl_cons gl_nil)) (fun _ _ => gDef_len) (puk_cons (pu_tup (pua_cons (pu_var (pv 1)) (pua_cons (pu_var (pv 2)) pua_nil))) (puk_cons (pu_var (pv 0)) puk_nil))))
    (puss_cons (pus_if (puw_or (put_not (put_val (pu_callB call_isi relc_isi (by rfl) T.z_isinstance (by decide +kernel) (pua_cons (pu_var (pv 5)) (pua_cons (pu_ty (by rfl) T.z_bool (by decide +kernel)) pua_nil))))) (puw_or (put_not (put_val (pu_callB call_isi relc_isi (by rfl) T.z_isinstance (by decide +kernel) (pua_cons (pu_var (pv 6)) (pua_cons (pu_ty (by rfl) T.z_bool (by decide +kernel)) pua_nil))))) (puw_or1 (put_cmp (op_neD (hu64 hr)) rel_ne (nomark _) (pu_var (pv 4)) (pu_ofL (pul_lst (pua_cons (pu_var (pv 1)) (pua_cons (pu_var (pv 2)) pua_nil)))))))).pt
    (puss_cons (pus_ret pu_bl)
    puss_nil)
    puss_nil)
    (puss_cons (pus_ret (pu_and (pu_cmp (op_eqD (hu64 hr)) rel_eq (nomark _) (pu_var (pv 5)) (pu_var (pv 3))) (pu_one (pu_cmp (op_eqD (hu64 hr)) rel_eq (nomark _) (pu_var (pv 6)) (pu_var (pv 3))))))
    puss_nil)))))
theorem ok_law_singles (T : Tx K mg ad) : FnOk P w K mg base CX0 6 ad.a_law_singles ad.d_law_singles ["rule", "world"] (spP K mg 2 g_law_singles) := ok_def T.F_law_singles sc_law_singles fun cdv A outer s H E hr =>
    (puss_cons (pus_for PassesOwn.never rfl (pui_range1 (by rfl) T.z_range (pub_len (by rfl) T.z_len (pub_of (pub_ix (pub_of (pu_var (pv 1))) pu_int)))) (pug_name (i := 2) sc_law_singles.nd rfl (.inl rfl))
    (puss_cons (pus_if (put_not (put_val (pu_call (ok_law_single T) (hr.mono (by decide)) (by rfl) T.m_law_single T.F_law_single.kp T.b_law_single (fun _ _ => gDef_len) (pua_cons (pu_var (pv 0)) (pua_cons pu_str (pua_cons (pu_var (pv 2)) (pua_cons (pu_cmp (op_eqD (hu64 hr)) rel_eq (nomark _) (pub_len (by rfl) T.z_len (pub_of (pub_ix (pub_of (pub_ix (pub_of (pu_var (pv 1))) pu_int)) (pu_var (pv 2))))) pu_int) pua_nil)))))))
    (puss_cons (pus_ret pu_bl)
    puss_nil)
    puss_nil)
    puss_nil))
    (puss_cons (pus_for PassesOwn.never rfl (pui_range1 (by rfl) T.z_range (pub_ix (pub_of (pu_var (pv 1))) pu_int)) (pug_name (i := 3) sc_law_singles.nd rfl (.inl rfl))
    (puss_cons (pus_set (i := 4) sc_law_singles.nd rfl (.inl rfl) (pu_and (pu_cmp op_notN rel_isnotN (nomark _) (pub_ix (pub_of (pub_ix (pub_of (pu_var (pv 1))) pu_int)) (pu_var (pv 3))) pu_non) (pu_one (pu_cmp op_lt rel_lt (nomark _) (pub_ix (pub_of (pub_ix (pub_of (pu_var (pv 1))) pu_int)) (pu_var (pv 3))) (pub_ix (pub_of (pub_ix (pub_of (pu_var (pv 1))) pu_int)) (pu_var (pv 3)))))))
    (puss_cons (pus_if (put_not (put_val (pu_call (ok_law_single T) (hr.mono (by decide)) (by rfl) T.m_law_single T.F_law_single.kp T.b_law_single (fun _ _ => gDef_len) (pua_cons (pu_var (pv 0)) (pua_cons pu_str (pua_cons (pu_var (pv 3)) (pua_cons (pu_var (pv 4)) pua_nil)))))))
    (puss_cons (pus_ret pu_bl)
    puss_nil)
    puss_nil)
    puss_nil)))
    (puss_cons (pus_ret pu_bl)
    puss_nil)))
theorem ok_law_whole (T : Tx K mg ad) : FnOk P w K mg base CX0 1 ad.a_law_whole ad.d_law_whole ["item"] (spP K mg 1 g_law_whole) := ok_def T.F_law_whole sc_law_whole fun cdv A outer s H E hr =>
    (puss_cons (pus_ret (pu_and (pu_callB call_isi relc_isi (by rfl) T.z_isinstance (by decide +kernel) (pua_cons (pu_var (pv 0)) (pua_cons (pu_ty (by rfl) T.z_int (by decide +kernel)) pua_nil))) (pu_one (pu_not (pu_callB call_isi relc_isi (by rfl) T.z_isinstance (by decide +kernel) (pua_cons (pu_var (pv 0)) (pua_cons (pu_ty (by rfl) T.z_bool (by decide +kernel)) pua_nil)))))))
    puss_nil)
theorem ok_law_right (T : Tx K mg ad) : FnOk P w K mg base CX0 3 ad.a_law_right ad.d_law_right ["rule", "due", "shown", "named"] (spP K mg 4 g_law_right) := ok_def T.F_law_right sc_law_right fun cdv A outer s H E hr =>
    (puss_cons (pus_set (i := 4) sc_law_right.nd rfl (.inl rfl) (pu_ofL (pul_listOf (by rfl) T.z_list (pub_of (pu_var (pv 2))))))
    (puss_cons (pus_if (put_val (pu_var (pv 3)))
    (puss_cons (pus_set (i := 5) sc_law_right.nd rfl (.inl rfl) (pu_ofL (pul_lst (pua_cons (pu_callK0 (idx := [1, 0]) (ks := ["lot", "season"]) (ok_gain T) (hr.mono (by decide)) (by rfl) T.m_gain T.F_gain.kp T.kp_gain_0_lot_season (gl_cons (gl_cons gl_nil)) (fun _ _ => gDef_len) (puk_cons (pu_var (pv 2)) (puk_cons (pu_var (pv 0)) puk_nil))) (pua_cons (pu_callK0 (idx := [0, 1]) (ks := ["season", "lot"]) (ok_load T) (hr.mono (by decide)) (by rfl) T.m_load T.F_load.kp T.kp_load_0_season_lot (gl_cons (gl_cons gl_nil)) (fun _ _ => gDef_len) (puk_cons (pu_var (pv 0)) (puk_cons (pu_var (pv 2)) puk_nil))) pua_nil)))))
    (puss_cons (pus_set (i := 5) sc_law_right.nd rfl (.inl rfl) (pu_op opAdd rel_add (pu_var (pv 5)) (pu_ofL (pul_lst (pua_cons (pu_callK0 (idx := [1, 0]) (ks := ["lot", "season"]) (ok_want T) (hr.mono (by decide)) (by rfl) T.m_want T.F_want.kp T.kp_want_0_lot_season (gl_cons (gl_cons gl_nil)) (fun _ _ => gDef_len) (puk_cons (pu_var (pv 2)) (puk_cons (pu_var (pv 0)) puk_nil))) (pua_cons (pu_callK0 (idx := [0, 1]) (ks := ["season", "lot"]) (ok_bear T) (hr.mono (by decide)) (by rfl) T.m_bear T.F_bear.kp T.kp_bear_0_season_lot (gl_cons (gl_cons gl_nil)) (fun _ _ => gDef_len) (puk_cons (pu_var (pv 0)) (puk_cons (pu_var (pv 2)) puk_nil))) pua_nil))))))
    puss_nil))
    (puss_cons (pus_set (i := 5) sc_law_right.nd rfl (.inl rfl) (pu_ofL (pul_lst (pua_cons (pu_call (ok_gain T) (hr.mono (by decide)) (by rfl) T.m_gain T.F_gain.kp T.b_gain (fun _ _ => gDef_len) (pua_cons (pu_var (pv 0)) (pua_cons (pu_var (pv 2)) pua_nil))) (pua_cons (pu_call (ok_load T) (hr.mono (by decide)) (by rfl) T.m_load T.F_load.kp T.b_load (fun _ _ => gDef_len) (pua_cons (pu_var (pv 0)) (pua_cons (pu_var (pv 2)) pua_nil))) (pua_cons (pu_call (ok_want T) (hr.mono (by decide)) (by rfl) T.m_want T.F_want.kp T.b_want (fun _ _ => gDef_len) (pua_cons (pu_var (pv 0)) (pua_cons (pu_var (pv 2)) pua_nil))) (pua_cons (pu_call (ok_bear T) (hr.mono (by decide)) (by rfl) T.m_bear T.F_bear.kp T.b_bear (fun _ _ => gDef_len) (pua_cons (pu_var (pv 0)) (pua_cons (pu_var (pv 2)) pua_nil))) pua_nil)))))))
    puss_nil))
    (puss_cons (pus_if (put_cmp (op_neD (hu64 hr)) rel_ne (nomark _) (pu_ofL (pul_listOf (by rfl) T.z_list (pub_of (pu_var (pv 2))))) (pu_var (pv 4)))
    (puss_cons (pus_ret pu_bl)
    puss_nil)
    puss_nil)
    (puss_cons (pus_if (puw_and (put_cmp op_isN rel_isN (nomark _) (pub_ix (pub_of (pu_var (pv 1))) pu_int) pu_non) (puw_and1 (put_cmp op_notN rel_isnotN (nomark _) (pub_ix (pub_of (pu_var (pv 5))) pu_int) pu_non))).pt
    (puss_cons (pus_ret pu_bl)
    puss_nil)
    puss_nil)
    (puss_cons (pus_for PassesOwn.never rfl (pui_range1 (by rfl) T.z_range pu_int) (pug_name (i := 6) sc_law_right.nd rfl (.inl rfl))
    (puss_cons (pus_if (puw_and (put_cmp op_notN rel_isnotN (nomark _) (pub_ix (pub_of (pu_var (pv 1))) (pu_var (pv 6))) pu_non) (puw_and1 (puw_or (put_not (put_val (pu_call (ok_law_whole T) (hr.mono (by decide)) (by rfl) T.m_law_whole T.F_law_whole.kp T.b_law_whole (fun _ _ => gDef_len) (pua_cons (pub_ix (pub_of (pu_var (pv 5))) (pu_var (pv 6))) pua_nil)))) (puw_or1 (put_cmp (op_neD (hu64 hr)) rel_ne (nomark _) (pub_ix (pub_of (pu_var (pv 5))) (pu_var (pv 6))) (pub_ix (pub_of (pu_var (pv 1))) (pu_var (pv 6)))))).pt)).pt
    (puss_cons (pus_ret pu_bl)
    puss_nil)
    puss_nil)
    puss_nil))
    (puss_cons (pus_ret pu_bl)
    puss_nil))))))
theorem ok_law_both (T : Tx K mg ad) : FnOk P w K mg base CX0 5 ad.a_law_both ad.d_law_both ["rule", "due", "shown", "form"] (spP K mg 4 g_law_both) := ok_def T.F_law_both sc_law_both fun cdv A outer s H E hr =>
    (puss_cons (pus_set (i := 4) sc_law_both.nd rfl (.inl rfl) (pu_ofL (pul_listOf (by rfl) T.z_list (pub_of (pu_var (pv 2))))))
    (puss_cons (pus_set (i := 5) sc_law_both.nd rfl (.inl rfl) (pub_ix (pub_of (pu_ofL (pul_lst (pua_cons pu_str (pua_cons pu_str pua_nil))))) (pu_var (pv 3))))
    (puss_cons (pus_set (i := 6) sc_law_both.nd rfl (.inl rfl) (pu_ofL (pul_lst (pua_cons (pu_var (pv 5)) (pua_cons (pu_var (pv 2)) pua_nil)))))
    (puss_cons (pus_if (put_cmp (op_eqD (hu64 hr)) rel_eq (nomark _) (pu_var (pv 3)) pu_int)
    (puss_cons (pus_set (i := 7) sc_law_both.nd rfl (.inl rfl) (pu_call (ok_is_obstacle T) (hr.mono (by decide)) (by rfl) T.m_is_obstacle T.F_is_obstacle.kp T.b_is_obstacle (fun _ _ => gDef_len) (pua_cons (pu_var (pv 0)) (pua_cons (pu_tup (pua_cons pu_str (pua_cons (pu_var (pv 2)) pua_nil))) pua_nil))))
    (puss_cons (pus_set (i := 8) sc_law_both.nd rfl (.inl rfl) (pu_callK0 (idx := [0, 1]) (ks := ["season", "value"]) (ok_is_obstacle T) (hr.mono (by decide)) (by rfl) T.m_is_obstacle T.F_is_obstacle.kp T.kp_is_obstacle_0_season_value (gl_cons (gl_cons gl_nil)) (fun _ _ => gDef_len) (puk_cons (pu_var (pv 0)) (puk_cons (pu_var (pv 6)) puk_nil))))
    puss_nil))
    (puss_cons (pus_set (i := 7) sc_law_both.nd rfl (.inl rfl) (pu_callK0 (idx := [1, 0]) (ks := ["value", "season"]) (ok_is_obstacle T) (hr.mono (by decide)) (by rfl) T.m_is_obstacle T.F_is_obstacle.kp T.kp_is_obstacle_0_value_season (gl_cons (gl_cons gl_nil)) (fun _ _ => gDef_len) (puk_cons (pu_var (pv 6)) (puk_cons (pu_var (pv 0)) puk_nil))))
    (puss_cons (pus_set (i := 8) sc_law_both.nd rfl (.inl rfl) (pu_call (ok_is_obstacle T) (hr.mono (by decide)) (by rfl) T.m_is_obstacle T.F_is_obstacle.kp T.b_is_obstacle (fun _ _ => gDef_len) (pua_cons (pu_var (pv 0)) (pua_cons (pu_tup (pua_cons pu_str (pua_cons (pu_var (pv 2)) pua_nil))) pua_nil))))
    puss_nil)))
    (puss_cons (pus_if (puw_or (put_not (put_val (pu_callB call_isi relc_isi (by rfl) T.z_isinstance (by decide +kernel) (pua_cons (pu_var (pv 7)) (pua_cons (pu_ty (by rfl) T.z_bool (by decide +kernel)) pua_nil))))) (puw_or (put_not (put_val (pu_callB call_isi relc_isi (by rfl) T.z_isinstance (by decide +kernel) (pua_cons (pu_var (pv 8)) (pua_cons (pu_ty (by rfl) T.z_bool (by decide +kernel)) pua_nil))))) (puw_or (put_cmp (op_neD (hu64 hr)) rel_ne (nomark _) (pu_var (pv 6)) (pu_ofL (pul_lst (pua_cons (pu_var (pv 5)) (pua_cons (pu_var (pv 2)) pua_nil))))) (puw_or1 (put_cmp (op_neD (hu64 hr)) rel_ne (nomark _) (pu_ofL (pul_listOf (by rfl) T.z_list (pub_of (pu_var (pv 2))))) (pu_var (pv 4))))))).pt
    (puss_cons (pus_ret pu_bl)
    puss_nil)
    puss_nil)
    (puss_cons (pus_if (put_cmp (op_neD (hu64 hr)) rel_ne (nomark _) (pu_var (pv 7)) (pu_cmp op_gt rel_gt (nomark _) (pub_ix (pub_of (pu_var (pv 1))) pu_int) (pub_ix (pub_of (pu_var (pv 1))) pu_int)))
    (puss_cons (pus_ret pu_bl)
    puss_nil)
    puss_nil)
    (puss_cons (pus_ret (pu_cmp (op_eqD (hu64 hr)) rel_eq (nomark _) (pu_var (pv 8)) (pu_and (pu_cmp op_notN rel_isnotN (nomark _) (pub_ix (pub_of (pu_var (pv 1))) pu_int) pu_non) (pu_one (pu_cmp op_gt rel_gt (nomark _) (pub_ix (pub_of (pu_var (pv 1))) pu_int) (pub_ix (pub_of (pu_var (pv 1))) pu_int))))))
    puss_nil)))))))
theorem ok_law (T : Tx K mg ad) : FnOk P w K mg base CX0 7 ad.a_law ad.d_law ["script"] (spP K mg 1 g_law) := ok_def T.F_law sc_law fun cdv A outer s H E hr =>
    (puss_cons (pus_set (i := 1) sc_law.nd rfl (.inl rfl) (pu_callTy call_int1 relc_int (by rfl) T.z_int (by decide +kernel) (pua_cons (pu_call (ok_law_cell T) (hr.mono (by decide)) (by rfl) T.m_law_cell T.F_law_cell.kp T.b_law_cell (fun _ _ => gDef_len) (pua_cons (pu_var (pv 0)) (pua_cons pu_int pua_nil))) pua_nil)))
    (puss_cons (pus_if (put_cmp (op_eqD (hu64 hr)) rel_eq (nomark _) (pu_op op_mod rel_mod (pu_callTy call_int1 relc_int (by rfl) T.z_int (by decide +kernel) (pua_cons (pu_var (pv 1)) pua_nil)) pu_int) pu_int)
    (puss_cons (pus_set (i := 2) sc_law.nd rfl (.inl rfl) (pu_call (ok_law_wide T) (hr.mono (by decide)) (by rfl) T.m_law_wide T.F_law_wide.kp T.b_law_wide (fun _ _ => gDef_len) (pua_cons (pu_var (pv 0)) (pua_cons pu_int (pua_cons pu_int pua_nil)))))
    puss_nil)
    (puss_cons (pus_set (i := 2) sc_law.nd rfl (.inl rfl) (pu_call (ok_law_small_world T) (hr.mono (by decide)) (by rfl) T.m_law_small_world T.F_law_small_world.kp T.b_law_small_world (fun _ _ => gDef_len) (pua_cons (pu_var (pv 0)) (pua_cons (pu_var (pv 1)) pua_nil))))
    puss_nil))
    (puss_cons (pus_set (i := 3) sc_law.nd rfl (.inl rfl) (pu_call (ok_law_spoilt T) (hr.mono (by decide)) (by rfl) T.m_law_spoilt T.F_law_spoilt.kp T.b_law_spoilt (fun _ _ => gDef_len) (pua_cons (pu_var (pv 2)) (pua_cons (pu_call (ok_law_digits T) (hr.mono (by decide)) (by rfl) T.m_law_digits T.F_law_digits.kp T.b_law_digits (fun _ _ => gDef_len) (pua_cons (pu_call (ok_law_cell T) (hr.mono (by decide)) (by rfl) T.m_law_cell T.F_law_cell.kp T.b_law_cell (fun _ _ => gDef_len) (pua_cons (pu_var (pv 0)) (pua_cons pu_int pua_nil))) (pua_cons (pu_op opAdd rel_add (pu_ofL (pul_lst (pua_cons pu_int pua_nil))) (pu_op opMulT rel_mulT (pu_ofL (pul_lst (pua_cons pu_int (pua_cons pu_int (pua_cons pu_int pua_nil))))) pu_int)) pua_nil))) pua_nil))))
    (puss_cons (pus_set (i := 4) sc_law.nd rfl (.inr rfl) (pu_call (ok_law_digits T) (hr.mono (by decide)) (by rfl) T.m_law_digits T.F_law_digits.kp T.b_law_digits (fun _ _ => gDef_len) (pua_cons (pu_call (ok_law_cell T) (hr.mono (by decide)) (by rfl) T.m_law_cell T.F_law_cell.kp T.b_law_cell (fun _ _ => gDef_len) (pua_cons (pu_var (pv 0)) (pua_cons pu_int pua_nil))) (pua_cons (pu_op opAdd rel_add (pu_op opMulT rel_mulT (pu_ofL (pul_lst (pua_cons pu_int pua_nil))) pu_int) (pu_ofL (pul_lst (pua_cons pu_int (pua_cons pu_int (pua_cons pu_int pua_nil)))))) pua_nil))))
    (puss_cons (pus_if (put_cmp op_gt rel_gt (nomark _) (pub_ix (pub_of (pu_var (pv 4))) pu_int) pu_int)
    (puss_cons (pus_set (i := 5) sc_law.nd rfl (.inl rfl) (pub_tupleOf (by rfl) T.z_tuple (pub_of (pu_ofL (pul_lc (own := [("mill", 16)]) rfl sc_law.nd (pui_range1 (by rfl) T.z_range (pub_ix (pub_of (pu_var (pv 3))) pu_int)) (blkOk_by (N := N_law) (sc := defScope s_law) (by decide +kernel)) (by decide) (fun _ _ _ _ _ => (pug_name (i := 16) sc_law.nd rfl (.inl rfl))) (fun _ _ _ _ _ => (puts_one (put_cmp (op_eqD (hu64 hr)) rel_eq (nomark _) (pub_ix (pub_of (pu_var (pv 4))) (pu_var (pv 16))) pu_int))) (fun _ _ _ _ _ => (pu_var (pv 16))))))))
    (puss_cons (pus_set (i := 6) sc_law.nd rfl (.inl rfl) (pub_tupleOf (by rfl) T.z_tuple (pub_of (pu_ofL (pul_lc (own := [("mill", 16)]) rfl sc_law.nd (pui_range1 (by rfl) T.z_range (pub_ix (pub_of (pu_var (pv 3))) pu_int)) (blkOk_by (N := N_law) (sc := defScope s_law) (by decide +kernel)) (by decide) (fun _ _ _ _ _ => (pug_name (i := 16) sc_law.nd rfl (.inl rfl))) (fun _ _ _ _ _ => (puts_one (put_cmp (op_eqD (hu64 hr)) rel_eq (nomark _) (pub_ix (pub_of (pu_var (pv 4))) (pu_op opAdd rel_add pu_int (pu_var (pv 16)))) pu_int))) (fun _ _ _ _ _ => (pu_var (pv 16))))))))
    (puss_cons (pus_set (i := 3) sc_law.nd rfl (.inl rfl) (pu_call (ok_law_levelled T) (hr.mono (by decide)) (by rfl) T.m_law_levelled T.F_law_levelled.kp T.b_law_levelled (fun _ _ => gDef_len) (pua_cons (pu_var (pv 3)) (pua_cons (pu_var (pv 5)) (pua_cons (pu_var (pv 6)) (pua_cons (pub_ix (pub_of (pu_ofL (pul_lst (pua_cons pu_int (pua_cons pu_int (pua_cons pu_int (pua_cons (pu_neg pu_int) pua_nil))))))) (pub_ix (pub_of (pu_var (pv 4))) pu_int)) (pua_cons (pub_ix (pub_of (pu_ofL (pul_lst (pua_cons pu_int (pua_cons pu_int (pua_cons pu_int (pua_cons (pu_neg pu_int) pua_nil))))))) (pub_ix (pub_of (pu_var (pv 4))) pu_int)) pua_nil)))))))
    puss_nil)))
    puss_nil)
    (puss_cons (pus_set (i := 7) sc_law.nd rfl (.inl rfl) (pu_callTy call_int1 relc_int (by rfl) T.z_int (by decide +kernel) (pua_cons (pu_call (ok_law_cell T) (hr.mono (by decide)) (by rfl) T.m_law_cell T.F_law_cell.kp T.b_law_cell (fun _ _ => gDef_len) (pua_cons (pu_var (pv 0)) (pua_cons pu_int pua_nil))) pua_nil)))
    (puss_cons (pus_set (i := 8) sc_law.nd rfl (.inl rfl) (pu_call (ok_law_season T) (hr.mono (by decide)) (by rfl) T.m_law_season T.F_law_season.kp T.b_law_season (fun _ _ => gDef_len) (pua_cons (pu_var (pv 2)) pua_nil)))
    (puss_cons (pus_set (i := 9) sc_law.nd rfl (.inl rfl) (pu_call (ok_law_sharing T) (hr.mono (by decide)) (by rfl) T.m_law_sharing T.F_law_sharing.kp T.b_law_sharing (fun _ _ => gDef_len) (pua_cons (pu_var (pv 8)) (pua_cons (pu_var (pv 3)) (pua_cons (pu_cmp (op_eqD (hu64 hr)) rel_eq (nomark _) (pu_op op_mod rel_mod (pu_callTy call_int1 relc_int (by rfl) T.z_int (by decide +kernel) (pua_cons (pu_op op_fdiv rel_fdiv (pu_var (pv 7)) pu_int) pua_nil)) pu_int) pu_int) pua_nil)))))
    (puss_cons (pus_if (puw_or (put_not (put_val (pu_call (ok_law_singles T) (hr.mono (by decide)) (by rfl) T.m_law_singles T.F_law_singles.kp T.b_law_singles (fun _ _ => gDef_len) (pua_cons (pu_var (pv 9)) (pua_cons (pu_var (pv 3)) pua_nil))))) (puw_or1 (put_not (put_val (pu_call (ok_law_singles T) (hr.mono (by decide)) (by rfl) T.m_law_singles T.F_law_singles.kp T.b_law_singles (fun _ _ => gDef_len) (pua_cons (pu_var (pv 8)) (pua_cons (pu_var (pv 2)) pua_nil))))))).pt
    (puss_cons (pus_ret pu_bl)
    puss_nil)
    puss_nil)
    (puss_cons (pus_set (i := 10) sc_law.nd rfl (.inl rfl) (pu_call (ok_law_lots T) (hr.mono (by decide)) (by rfl) T.m_law_lots T.F_law_lots.kp T.b_law_lots (fun _ _ => gDef_len) (pua_cons (pub_ix (pub_of (pu_var (pv 3))) pu_int) (pua_cons (pu_var (pv 4)) pua_nil))))
    (puss_cons (pus_set (i := 11) sc_law.nd rfl (.inl rfl) (pu_op op_fdiv rel_fdiv (pu_var (pv 1)) pu_int))
    (puss_cons (pus_for PassesOwn.never rfl (pui_range1 (by rfl) T.z_range (pub_len (by rfl) T.z_len (pub_of (pu_var (pv 10))))) (pug_name (i := 12) sc_law.nd rfl (.inl rfl))
    (puss_cons (pus_set (i := 13) sc_law.nd rfl (.inl rfl) (pu_call (ok_law_numbers T) (hr.mono (by decide)) (by rfl) T.m_law_numbers T.F_law_numbers.kp T.b_law_numbers (fun _ _ => gDef_len) (pua_cons (pu_var (pv 2)) (pua_cons (pub_ix (pub_of (pu_var (pv 10))) (pu_var (pv 12))) pua_nil))))
    (puss_cons (pus_set (i := 14) sc_law.nd rfl (.inl rfl) (pu_call (ok_law_numbers T) (hr.mono (by decide)) (by rfl) T.m_law_numbers T.F_law_numbers.kp T.b_law_numbers (fun _ _ => gDef_len) (pua_cons (pu_var (pv 3)) (pua_cons (pub_ix (pub_of (pu_var (pv 10))) (pu_var (pv 12))) pua_nil))))
    (puss_cons (pus_set (i := 15) sc_law.nd rfl (.inl rfl) (pu_op op_mod rel_mod (pu_callTy call_int1 relc_int (by rfl) T.z_int (by decide +kernel) (pua_cons (pu_op opAdd rel_add (pu_op op_fdiv rel_fdiv (pu_var (pv 7)) pu_int) (pu_var (pv 12))) pua_nil)) pu_int))
    (puss_cons (pus_if (put_not (put_val (pu_call (ok_law_right T) (hr.mono (by decide)) (by rfl) T.m_law_right T.F_law_right.kp T.b_law_right (fun _ _ => gDef_len) (pua_cons (pu_var (pv 8)) (pua_cons (pu_var (pv 13)) (pua_cons (pu_call (ok_law_shown T) (hr.mono (by decide)) (by rfl) T.m_law_shown T.F_law_shown.kp T.b_law_shown (fun _ _ => gDef_len) (pua_cons (pub_ix (pub_of (pu_var (pv 10))) (pu_var (pv 12))) (pua_cons (pu_op opAdd rel_add (pu_var (pv 11)) (pu_var (pv 12))) pua_nil))) (pua_cons pu_bl pua_nil)))))))
    (puss_cons (pus_ret pu_bl)
    puss_nil)
    puss_nil)
    (puss_cons (pus_if (put_not (put_val (pu_call (ok_law_both T) (hr.mono (by decide)) (by rfl) T.m_law_both T.F_law_both.kp T.b_law_both (fun _ _ => gDef_len) (pua_cons (pu_var (pv 9)) (pua_cons (pu_var (pv 14)) (pua_cons (pu_call (ok_law_shown T) (hr.mono (by decide)) (by rfl) T.m_law_shown T.F_law_shown.kp T.b_law_shown (fun _ _ => gDef_len) (pua_cons (pub_ix (pub_of (pu_var (pv 10))) (pu_var (pv 12))) (pua_cons (pu_op opAdd rel_add (pu_var (pv 7)) (pu_var (pv 12))) pua_nil))) (pua_cons (pu_var (pv 15)) pua_nil)))))))
    (puss_cons (pus_ret pu_bl)
    puss_nil)
    puss_nil)
    (puss_cons (pus_if (put_not (put_val (pu_call (ok_law_right T) (hr.mono (by decide)) (by rfl) T.m_law_right T.F_law_right.kp T.b_law_right (fun _ _ => gDef_len) (pua_cons (pu_var (pv 9)) (pua_cons (pu_var (pv 14)) (pua_cons (pu_call (ok_law_shown T) (hr.mono (by decide)) (by rfl) T.m_law_shown T.F_law_shown.kp T.b_law_shown (fun _ _ => gDef_len) (pua_cons (pub_ix (pub_of (pu_var (pv 10))) (pu_var (pv 12))) (pua_cons (pu_op opAdd rel_add (pu_op op_fdiv rel_fdiv (pu_var (pv 11)) pu_int) (pu_op op_fdiv rel_fdiv (pu_var (pv 12)) pu_int)) pua_nil))) (pua_cons (pu_cmp (op_eqD (hu64 hr)) rel_eq (nomark _) (pu_op op_mod rel_mod (pu_callTy call_int1 relc_int (by rfl) T.z_int (by decide +kernel) (pua_cons (pu_var (pv 12)) pua_nil)) pu_int) pu_int) pua_nil)))))))
    (puss_cons (pus_ret pu_bl)
    puss_nil)
    puss_nil)
    (puss_cons (pus_if (put_not (put_val (pu_call (ok_law_both T) (hr.mono (by decide)) (by rfl) T.m_law_both T.F_law_both.kp T.b_law_both (fun _ _ => gDef_len) (pua_cons (pu_var (pv 8)) (pua_cons (pu_var (pv 13)) (pua_cons (pu_call (ok_law_shown T) (hr.mono (by decide)) (by rfl) T.m_law_shown T.F_law_shown.kp T.b_law_shown (fun _ _ => gDef_len) (pua_cons (pub_ix (pub_of (pu_var (pv 10))) (pu_var (pv 12))) (pua_cons (pu_op opAdd rel_add (pu_op op_fdiv rel_fdiv (pu_var (pv 7)) pu_int) (pu_op op_fdiv rel_fdiv (pu_var (pv 12)) pu_int)) pua_nil))) (pua_cons (pu_op op_sub rel_sub pu_int (pu_var (pv 15))) pua_nil)))))))
    (puss_cons (pus_ret pu_bl)
    puss_nil)
    puss_nil)
    puss_nil))))))))
    (puss_cons (pus_for PassesOwn.never rfl (pui_range1 (by rfl) T.z_range (pub_len (by rfl) T.z_len (pub_of (pu_var (pv 10))))) (pug_name (i := 12) sc_law.nd rfl (.inl rfl))
    (puss_cons (pus_if (puw_or (put_cmp (op_eqD (hu64 hr)) rel_eq (nomark _) (pu_op op_mod rel_mod (pu_callTy call_int1 relc_int (by rfl) T.z_int (by decide +kernel) (pua_cons (pu_op opAdd rel_add (pu_op op_fdiv rel_fdiv (pu_var (pv 7)) pu_int) (pu_var (pv 12))) pua_nil)) pu_int) pu_int) (puw_or1 (put_cmp (op_eqD (hu64 hr)) rel_eq (nomark _) (pu_var (pv 12)) (pu_op op_sub rel_sub (pub_len (by rfl) T.z_len (pub_of (pu_var (pv 10)))) pu_int)))).pt
    (puss_cons (pus_if (put_not (put_val (pu_call (ok_law_right T) (hr.mono (by decide)) (by rfl) T.m_law_right T.F_law_right.kp T.b_law_right (fun _ _ => gDef_len) (pua_cons (pu_var (pv 8)) (pua_cons (pu_call (ok_law_numbers T) (hr.mono (by decide)) (by rfl) T.m_law_numbers T.F_law_numbers.kp T.b_law_numbers (fun _ _ => gDef_len) (pua_cons (pu_var (pv 2)) (pua_cons (pub_ix (pub_of (pu_var (pv 10))) (pu_var (pv 12))) pua_nil))) (pua_cons (pub_ix (pub_of (pu_var (pv 10))) (pu_var (pv 12))) (pua_cons pu_bl pua_nil)))))))
    (puss_cons (pus_ret pu_bl)
    puss_nil)
    puss_nil)
    puss_nil)
    puss_nil)
    puss_nil))
    (puss_cons (pus_ret (pu_and (pu_call (ok_law_singles T) (hr.mono (by decide)) (by rfl) T.m_law_singles T.F_law_singles.kp T.b_law_singles (fun _ _ => gDef_len) (pua_cons (pu_var (pv 9)) (pua_cons (pu_var (pv 3)) pua_nil))) (pu_and (pu_call (ok_law_kept T) (hr.mono (by decide)) (by rfl) T.m_law_kept T.F_law_kept.kp T.b_law_kept (fun _ _ => gDef_len) (pua_cons (pu_var (pv 9)) (pua_cons (pu_var (pv 3)) pua_nil))) (pu_one (pu_call (ok_law_kept T) (hr.mono (by decide)) (by rfl) T.m_law_kept T.F_law_kept.kp T.b_law_kept (fun _ _ => gDef_len) (pua_cons (pu_var (pv 8)) (pua_cons (pu_var (pv 2)) pua_nil)))))))
    puss_nil))))))))))))))
end
end
end Lw

/-! part M0 -/
set_option Elab.async false
set_option linter.all false
set_option maxRecDepth 100000
set_option maxHeartbeats 1000000
namespace DL
open PySem PySem.Spec PyProof.Rows L2

/-! ### steps -/
section
variable {a b : SG} {c : Rho → Option Bool} {g g1 g2 : Rho → Option D} {gs : Rho → Option (List D)} {ρ ρ1 : Rho} {r : Res} {d : D} {i : Nat}
theorem seq_nx (h : a ρ = some (.nx ρ1)) (h2 : b ρ1 = some r) : gSeq a b ρ = some r := by
  unfold gSeq gThen
  rw [h]
  exact h2
theorem seq_rt (h : a ρ = some (.rt d)) : gSeq a b ρ = some (.rt d) := by
  unfold gSeq gThen
  rw [h]
  rfl
theorem set_ok (h : g ρ = some d) : gSet i g ρ = some (.nx (ρ.set i (.sh d))) := by
  unfold gSet
  rw [h]
  rfl
theorem setOw_ok {ds : List D} (h : gs ρ = some ds) : gSetOw i gs ρ = some (.nx (ρ.set i (.ow (.lst ds)))) := by
  unfold gSetOw
  rw [h]
  rfl
theorem ret_ok (h : g ρ = some d) : gRet g ρ = some (.rt d) := by
  unfold gRet
  rw [h]
  rfl
theorem if_t (h : c ρ = some true) (h2 : a ρ = some r) : gIfS c a b ρ = some r := by
  unfold gIfS
  rw [h]
  exact h2
theorem if_f (h : c ρ = some false) (h2 : b ρ = some r) : gIfS c a b ρ = some r := by
  unfold gIfS
  rw [h]
  exact h2
theorem op_ok {f : D → D → Option D} {x y z : D} (h1 : g1 ρ = some x) (h2 : g2 ρ = some y) (h : f x y = some z) : gOp f g1 g2 ρ = some z := by
  unfold gOp
  rw [h1, Option.bind_some, h2]
  exact h
theorem un_ok {f : D → Option D} {x z : D} (h1 : g1 ρ = some x) (h : f x = some z) : gUn f g1 ρ = some z := by
  unfold gUn
  rw [h1]
  exact h
theorem call_ok {f : List D → Option D} {ds : List D} (h1 : gs ρ = some ds) (h : f ds = some d) : gCall f gs ρ = some d := by
  unfold gCall
  rw [h1]
  exact h
theorem cons_ok {x : D} {xs : List D} (h1 : g ρ = some x) (h : gs ρ = some xs) : gCons g gs ρ = some (x :: xs) := by
  unfold gCons
  rw [h1, Option.bind_some, h]
  rfl
theorem def_rt {n N : Nat} {ds : List D} (ρ0 : Rho) (hl : ds.length = n) (hr : ds.map B.sh ++ List.replicate (N - n) .un = ρ0) (h : b ρ0 = some (.rt d)) : gDef n N b ds = some d := by
  unfold gDef
  rw [if_pos hl, hr, h]
  rfl
theorem gB_ok {x : Bool} (h : g ρ = some (.bl x)) : gB g ρ = some x := by
  unfold gB
  rw [h]
  rfl
/-! ### loops -/
theorem loop_inv {t : D → Rho → Option Rho} (I : Nat → Rho → Prop) : ∀ (ds : List D) (j : Nat) (ρ : Rho), I j ρ →
    (∀ i d ρ, ds[i]? = some d → I (j + i) ρ → ∃ ρ1 ρ2, t d ρ = some ρ1 ∧ b ρ1 = some (.nx ρ2) ∧ I (j + i + 1) ρ2) → ∃ ρ', gLoop t b ds ρ = some (.nx ρ') ∧ I (j + ds.length) ρ'
  | [], j, ρ, h0, hs => ⟨ρ, rfl, h0⟩
  | d :: ds, j, ρ, h0, hs => by
    obtain ⟨ρ1, ρ2, e1, e2, h1⟩ := hs 0 d ρ rfl h0
    obtain ⟨ρ', e3, h3⟩ := loop_inv I ds (j + 1) ρ2 h1 fun i d' ρ hd hi => by
      have := hs (i + 1) d' ρ (by rw [List.getElem?_cons_succ]; exact hd) (by rw [show j + (i + 1) = j + 1 + i by omega]; exact hi)
      rw [show j + (i + 1) + 1 = j + 1 + i + 1 by omega] at this
      exact this
    refine ⟨ρ', ?_, ?_⟩
    · show (t d ρ).bind _ = _
      rw [e1, Option.bind_some, e2]
      exact e3
    · rw [List.length_cons, show j + (ds.length + 1) = j + 1 + ds.length by omega]
      exact h3
theorem for_inv {it : Rho → Option (List D)} {t : D → Rho → Option Rho} {ds : List D} (I : Nat → Rho → Prop) (hi : it ρ = some ds) (h0 : I 0 ρ)
    (hs : ∀ i d ρ, i < ds.length → ds[i]? = some d → I i ρ → ∃ ρ1 ρ2, t d ρ = some ρ1 ∧ b ρ1 = some (.nx ρ2) ∧ I (i + 1) ρ2) : ∃ ρ', gFor it t b ρ = some (.nx ρ') ∧ I ds.length ρ' := by
  obtain ⟨ρ', e, h⟩ := loop_inv (b := b) (t := t) I ds 0 ρ h0 fun i d ρ hd hI => by
    rw [Nat.zero_add] at hI ⊢
    exact hs i d ρ (List.getElem?_eq_some_iff.mp hd).1 hd hI
  refine ⟨ρ', ?_, by rw [Nat.zero_add] at h; exact h⟩
  unfold gFor
  rw [hi]
  exact e
/-- each turn leaves the frame as the fold says -/
theorem for_fold {α : Type} {it : Rho → Option (List D)} {t : D → Rho → Option Rho} {ds : List D} (R : Nat → α → Rho → Prop) (f : Nat → α → α) (a0 : α) (hi : it ρ = some ds) (h0 : R 0 a0 ρ)
    (hs : ∀ i d ρ a, i < ds.length → ds[i]? = some d → R i a ρ → ∃ ρ1 ρ2, t d ρ = some ρ1 ∧ b ρ1 = some (.nx ρ2) ∧ R (i + 1) (f i a) ρ2) :
    ∃ ρ', gFor it t b ρ = some (.nx ρ') ∧ R ds.length ((List.range ds.length).foldl (fun a i => f i a) a0) ρ' := by
  refine for_inv (fun i ρ => R i ((List.range i).foldl (fun a i => f i a) a0) ρ) hi h0 fun i d ρ hl hd hR => ?_
  obtain ⟨ρ1, ρ2, e1, e2, h2⟩ := hs i d ρ _ hl hd hR
  refine ⟨ρ1, ρ2, e1, e2, ?_⟩
  rw [List.range_succ, List.foldl_append]
  exact h2
theorem compL_of {t : D → Rho → Option Rho} {k : Rho → Option Bool} {c : Nat → Bool} {f : Nat → D} : ∀ (ds : List D) (j : Nat), (∀ i d, ds[i]? = some d → ∃ ρ1, t d ρ = some ρ1 ∧ k ρ1 = some (c (j + i)) ∧ (c (j + i) = true → g ρ1 = some (f (j + i)))) →
    gCompL t k g ρ ds = some (((List.range' j ds.length).filter c).map f)
  | [], j, h => rfl
  | d :: ds, j, h => by
    obtain ⟨ρ1, e1, e2, e3⟩ := h 0 d rfl
    have ih := compL_of (c := c) (f := f) ds (j + 1) fun i d' hd => by
      have := h (i + 1) d' (by rw [List.getElem?_cons_succ]; exact hd)
      rw [show j + (i + 1) = j + 1 + i by omega] at this
      exact this
    show (t d ρ).bind _ = _
    rw [e1, Option.bind_some, e2, Option.bind_some, List.length_cons, List.range'_succ, List.filter_cons]
    cases hc : c (j + 0) with
    | true =>
      have hc' : c j = true := hc
      rw [if_pos rfl, e3 hc, Option.bind_some, ih, if_pos rfl]
      rfl
    | false =>
      have hc' : ¬ c j = true := by rw [show c j = false from hc]; exact Bool.false_ne_true
      rw [if_neg Bool.false_ne_true, ih, if_neg Bool.false_ne_true]
theorem comp_of {it : Rho → Option (List D)} {t : D → Rho → Option Rho} {k : Rho → Option Bool} {vs : List Nat} {ds : List D} (c : Nat → Bool) (f : Nat → D) (hi : it ρ = some ds) (hl : ds.length ≤ big)
    (h : ∀ i d, i < ds.length → ds[i]? = some d → ∃ ρ1, t d (wipeR ρ vs) = some ρ1 ∧ k ρ1 = some (c i) ∧ (c i = true → g ρ1 = some (f i))) :
    gComp it t k g vs ρ = some (((List.range ds.length).filter c).map f) := by
  unfold gComp
  rw [hi, Option.bind_some, if_pos hl, compL_of (c := c) (f := f) ds 0 (fun i d hd => by rw [Nat.zero_add]; exact h i d (List.getElem?_eq_some_iff.mp hd).1 hd), List.range_eq_range']
theorem comp_map {it : Rho → Option (List D)} {t : D → Rho → Option Rho} {vs : List Nat} {ds : List D} (f : Nat → D) (hi : it ρ = some ds) (hl : ds.length ≤ big)
    (h : ∀ i d, i < ds.length → ds[i]? = some d → ∃ ρ1, t d (wipeR ρ vs) = some ρ1 ∧ g ρ1 = some (f i)) : gComp it t gYes g vs ρ = some ((List.range ds.length).map f) := by
  rw [comp_of (fun _ => true) f hi hl fun i d hl hd => by
    obtain ⟨ρ1, e1, e2⟩ := h i d hl hd
    exact ⟨ρ1, e1, rfl, fun _ => e2⟩]
  rw [List.filter_eq_self.mpr fun _ _ => rfl]
end
/-! ### what is walked -/
def rangeD (n : Nat) : List D := (List.range n).map fun k => .int (k : Nat)
theorem rangeD_len (n : Nat) : (rangeD n).length = n := by
  unfold rangeD
  rw [List.length_map, List.length_range]
theorem rangeD_get {n i : Nat} {d : D} (h : (rangeD n)[i]? = some d) : d = .int (i : Nat) := by
  unfold rangeD at h
  rw [List.getElem?_map] at h
  obtain ⟨j, e1, e2⟩ := Option.map_eq_some_iff.mp h
  obtain ⟨hl, e⟩ := List.getElem?_eq_some_iff.mp e1
  rw [List.getElem_range] at e
  subst e
  exact e2.symm
theorem range_ok {g : Rho → Option D} {ρ : Rho} {n : Nat} (h : g ρ = some (.int (n : Nat))) (hn : n ≤ 1000000) : gRange1 g ρ = some (rangeD n) := by
  unfold gRange1
  rw [h]
  show (if (-1000000 : Int) ≤ (n : Int) ∧ (n : Int) ≤ 1000000 then _ else none) = _
  rw [if_pos (by omega)]
  rfl
theorem seqOf_ok {g : Rho → Option D} {ρ : Rho} {d : D} {ds : List D} (h : g ρ = some d) (hi : items d = some ds) : gSeqOf g ρ = some ds := by
  unfold gSeqOf
  rw [h]
  exact hi
theorem enum_ok {g : Rho → Option D} {ρ : Rho} {d : D} {ds : List D} (h : g ρ = some d) (hi : items d = some ds) : gEnum g ρ = some (enumD 0 ds) := by
  unfold gEnum
  rw [h, Option.bind_some, hi]
  rfl
theorem enum_get {ds : List D} {i : Nat} {d : D} (h : (enumD 0 ds)[i]? = some d) : ∃ e, ds[i]? = some e ∧ d = .tup [.int (i : Nat), e] := by
  rw [enumD_get] at h
  obtain ⟨e, e1, e2⟩ := Option.map_eq_some_iff.mp h
  refine ⟨e, e1, ?_⟩
  rw [Nat.zero_add] at e2
  exact e2.symm
theorem ix_nat {c d : D} {ds : List D} {i : Nat} (hi : items c = some ds) (h : ds[i]? = some d) : oIx c (.int (i : Nat)) = some d := by
  have hl := (List.getElem?_eq_some_iff.mp h).1
  have e : ixN ds.length (i : Int) = some i := by
    unfold ixN
    rw [if_pos (by omega), if_pos (by omega)]
    simp
  show (items c).bind (fun ds => atI ds i) = _
  rw [hi]
  show atI ds i = _
  unfold atI
  rw [e]
  exact h
theorem ix_int {c d : D} {ds : List D} {i : Int} (hi : items c = some ds) (h0 : 0 ≤ i) (h : ds[i.toNat]? = some d) : oIx c (.int i) = some d := by
  have e : i = ((i.toNat : Nat) : Int) := by omega
  rw [e]
  exact ix_nat hi h
/-! ### == over encoded values -/
structure Pd (k : Nat) (d : D) (p : PyData) : Prop where
  py : pyd d = some p
  cl : p.canLay0 = true
  dp : p.depth ≤ k
structure Enc (α : Type) [DecidableEq α] where
  e : α → D
  p : α → PyData
  k : Nat
  h : ∀ a, Pd k (e a) (p a)
  q : ∀ a b, PyData.eqv (p a) (p b) = decide (a = b)
section
variable {α : Type} [DecidableEq α] (E : Enc α)
theorem Enc.pyds : ∀ l : List α, DL.pyds (l.map E.e) = some (l.map E.p)
  | [] => by simp only [List.map_nil, DL.pyds]
  | a :: l => by
    simp only [List.map_cons, DL.pyds]
    rw [(E.h a).py, Option.bind_some, Enc.pyds l]
    rfl
theorem Enc.cls : ∀ l : List α, PyData.canLayAll0 (l.map E.p) = true
  | [] => by simp only [List.map_nil, PyData.canLayAll0]
  | a :: l => by
    simp only [List.map_cons, PyData.canLayAll0]
    rw [(E.h a).cl, Enc.cls l]
    rfl
theorem Enc.dps : ∀ l : List α, PyData.depthAll (l.map E.p) ≤ E.k
  | [] => by simp only [List.map_nil, PyData.depthAll]; omega
  | a :: l => by
    simp only [List.map_cons, PyData.depthAll]
    have h1 := (E.h a).dp
    have h2 := Enc.dps l
    omega
theorem Enc.qs : ∀ l m : List α, PyData.eqvAll (l.map E.p) (m.map E.p) = decide (l = m)
  | [], [] => by simp [PyData.eqvAll]
  | [], _ :: _ => by simp [PyData.eqvAll]
  | _ :: _, [] => by simp [PyData.eqvAll]
  | a :: l, b :: m => by
    simp only [List.map_cons, PyData.eqvAll]
    rw [E.q, Enc.qs l m]
    simp
def Enc.tup : Enc (List α) where
  e l := .tup (l.map E.e)
  p l := .tuple (l.map E.p)
  k := E.k + 1
  h l := ⟨by simp only [pyd]; rw [E.pyds]; rfl, by simp only [PyData.canLay0]; exact E.cls l, by simp only [PyData.depth]; have := E.dps l; omega⟩
  q a b := by simp only [PyData.eqv]; exact E.qs a b
def Enc.lst : Enc (List α) where
  e l := .lst (l.map E.e)
  p l := .list (l.map E.p)
  k := E.k + 1
  h l := ⟨by simp only [pyd]; rw [E.pyds]; rfl, by simp only [PyData.canLay0]; exact E.cls l, by simp only [PyData.depth]; have := E.dps l; omega⟩
  q a b := by simp only [PyData.eqv]; exact E.qs a b
def eInt : Enc Int where
  e i := .int i
  p i := .int i
  k := 0
  h i := ⟨by simp only [pyd], by simp only [PyData.canLay0], by simp only [PyData.depth]; omega⟩
  q a b := by simp only [PyData.eqv]; by_cases h : a = b <;> simp [h]
def eOpt : Enc (Option Int) where
  e o := match o with
    | none => .non
    | some i => .int i
  p o := match o with
    | none => .none
    | some i => .int i
  k := 0
  h o := by cases o <;> exact ⟨by simp only [pyd], by simp only [PyData.canLay0], by simp only [PyData.depth]; omega⟩
  q a b := by
    cases a <;> cases b <;> simp only [PyData.eqv] <;> simp
    rename_i x y
    by_cases h : x = y <;> simp [h]
def ePair : Enc (Int × Int) where
  e x := .tup [.int x.1, .int x.2]
  p x := .tuple [.int x.1, .int x.2]
  k := 1
  h x := ⟨by simp [pyd, pyds], by simp [PyData.canLay0, PyData.canLayAll0], by simp [PyData.depth, PyData.depthAll]⟩
  q a b := by
    obtain ⟨a1, a2⟩ := a
    obtain ⟨b1, b2⟩ := b
    simp only [PyData.eqv, PyData.eqvAll, Bool.and_true]
    by_cases h1 : a1 = b1 <;> by_cases h2 : a2 = b2 <;> simp [h1, h2]
theorem shaped_of {k : Nat} {d : D} {p : PyData} (h : Pd k d p) (hk : k ≤ 64) : SeqAt.shaped p = true := by
  unfold SeqAt.shaped
  rw [h.cl, Bool.true_and]
  exact decide_eq_true (Nat.le_trans h.dp hk)
theorem oEq_pd {k k' : Nat} {d d' : D} {p p' : PyData} (h : Pd k d p) (h' : Pd k' d' p') (hk : k ≤ 64) (hk' : k' ≤ 64) : oEq d d' = some (.bl (PyData.eqv p p')) := by
  unfold oEq
  rw [h.py, Option.bind_some, h'.py, Option.bind_some, if_pos ⟨shaped_of h hk, shaped_of h' hk'⟩]
theorem oNe_pd {k k' : Nat} {d d' : D} {p p' : PyData} (h : Pd k d p) (h' : Pd k' d' p') (hk : k ≤ 64) (hk' : k' ≤ 64) : oNe d d' = some (.bl (!PyData.eqv p p')) := by
  unfold oNe
  rw [h.py, Option.bind_some, h'.py, Option.bind_some, if_pos ⟨shaped_of h hk, shaped_of h' hk'⟩]
theorem Enc.eq (hk : E.k ≤ 64) (a b : α) : oEq (E.e a) (E.e b) = some (.bl (decide (a = b))) := by rw [oEq_pd (E.h a) (E.h b) hk hk, E.q]
theorem Enc.ne (hk : E.k ≤ 64) (a b : α) : oNe (E.e a) (E.e b) = some (.bl (!decide (a = b))) := by rw [oNe_pd (E.h a) (E.h b) hk hk, E.q]
end
theorem oEq_int (i j : Int) : oEq (.int i) (.int j) = some (.bl (decide (i = j))) := eInt.eq (by decide) i j
theorem oNe_int (i j : Int) : oNe (.int i) (.int j) = some (.bl (!decide (i = j))) := eInt.ne (by decide) i j
theorem oEq_bl (i j : Bool) : oEq (.bl i) (.bl j) = some (.bl (i == j)) := by
  have h : ∀ b : Bool, Pd 0 (.bl b) (.bool b) := fun b => ⟨by simp only [pyd], by simp only [PyData.canLay0], by simp only [PyData.depth]; omega⟩
  rw [oEq_pd (h i) (h j) (by decide) (by decide)]
  simp only [PyData.eqv]
theorem oNe_bl (i j : Bool) : oNe (.bl i) (.bl j) = some (.bl (!(i == j))) := by
  have h : ∀ b : Bool, Pd 0 (.bl b) (.bool b) := fun b => ⟨by simp only [pyd], by simp only [PyData.canLay0], by simp only [PyData.depth]; omega⟩
  rw [oNe_pd (h i) (h j) (by decide) (by decide)]
  simp only [PyData.eqv]
theorem mod_ok {i j : Int} (h : 0 < j) : dMod (.int i) (.int j) = some (.int (i % j)) := by
  show (if 0 < j then some (D.int (i % j)) else none) = _
  rw [if_pos h]
theorem fdiv_ok {i j : Int} (h : 0 < j ∧ j < 1073741824) : dFdiv (.int i) (.int j) = some (.int (i / j)) := by
  show (if CDiv i j then some (D.int (i / j)) else none) = _
  rw [if_pos (show CDiv i j from h)]
theorem mul_ok {i j : Int} (h : CMul i j) : dMulT (.int i) (.int j) = some (.int (i * j)) := by
  unfold dMulT dMul
  dsimp only
  rw [if_pos h]
  rfl
theorem mulL_ok {xs : List D} {k : Nat} (h : k ≤ 1000) (hl : xs.length * k ≤ big) : dMulT (.lst xs) (.int (k : Nat)) = some (.lst (List.replicate k xs).flatten) := by
  unfold dMulT dMul
  dsimp only
  rw [if_pos ⟨by omega, by omega, by simpa using hl⟩]
  simp
theorem isi_int {i : Int} : fIsi [.int i, .ty "int"] = some (.bl true) := by
  have e : kitB "int" "int" = some true := by decide +kernel
  show (some "int").bind (fun t => (kitB t "int").bind fun b => some (D.bl b)) = _
  rw [Option.bind_some, e]
  rfl
theorem isi_int_bool {i : Int} : fIsi [.int i, .ty "bool"] = some (.bl false) := by
  have e : kitB "int" "bool" = some false := by decide +kernel
  show (some "int").bind (fun t => (kitB t "bool").bind fun b => some (D.bl b)) = _
  rw [Option.bind_some, e]
  rfl
theorem isi_tup {xs : List D} : fIsi [.tup xs, .ty "tuple"] = some (.bl true) := by
  have e : kitB "tuple" "tuple" = some true := by decide +kernel
  show (some "tuple").bind (fun t => (kitB t "tuple").bind fun b => some (D.bl b)) = _
  rw [Option.bind_some, e]
  rfl
end DL
namespace DL
open PySem PySem.Spec PyProof.Rows L2
section
variable {a b : SG} {c c2 : Rho → Option Bool} {g g1 g2 : Rho → Option D} {gs : Rho → Option (List D)} {ρ ρ1 : Rho} {r : Res} {d : D} {i : Nat}
theorem v_ok (h : ρ[i]? = some (.sh d)) : gV i ρ = some d := by
  unfold gV
  rw [h]
theorem bor_ok {ds : List D} (h : ρ[i]? = some (.ow (.lst ds))) : gBor i ρ = some (.lst ds) := by
  unfold gBor
  rw [h]
theorem c_ok : gC d ρ = some d := rfl
theorem nil_ok : gNil ρ = some [] := rfl
theorem next_ok : gNext ρ = some (.nx ρ) := rfl
theorem and_t (h1 : g1 ρ = some (.bl true)) (h2 : g2 ρ = some d) : gAnd g1 g2 ρ = some d := by
  unfold gAnd
  rw [gB_ok h1]
  exact h2
theorem and_f (h1 : g1 ρ = some (.bl false)) : gAnd g1 g2 ρ = some (.bl false) := by
  unfold gAnd
  rw [gB_ok h1]
  rfl
theorem or_t (h1 : g1 ρ = some (.bl true)) : gOr g1 g2 ρ = some (.bl true) := by
  unfold gOr
  rw [gB_ok h1]
  rfl
theorem or_f (h1 : g1 ρ = some (.bl false)) (h2 : g2 ρ = some d) : gOr g1 g2 ρ = some d := by
  unfold gOr
  rw [gB_ok h1]
  exact h2
theorem and_ok {x y : Bool} (h1 : g1 ρ = some (.bl x)) (h2 : g2 ρ = some (.bl y)) : gAnd g1 g2 ρ = some (.bl (x && y)) := by
  cases x
  · exact and_f h1
  · exact and_t h1 h2
theorem or_ok {x y : Bool} (h1 : g1 ρ = some (.bl x)) (h2 : g2 ρ = some (.bl y)) : gOr g1 g2 ρ = some (.bl (x || y)) := by
  cases x
  · exact or_f h1 h2
  · exact or_t h1
theorem not_ok {x : Bool} (h1 : g ρ = some (.bl x)) : gNot g ρ = some (.bl (!x)) := by
  unfold gNot
  rw [gB_ok h1]
  rfl
theorem andT_ok {x y : Bool} (h1 : c ρ = some x) (h2 : c2 ρ = some y) : gAndT c c2 ρ = some (x && y) := by
  unfold gAndT
  rw [h1, Option.bind_some, h2]
  cases x <;> rfl
theorem orT_ok {x y : Bool} (h1 : c ρ = some x) (h2 : c2 ρ = some y) : gOrT c c2 ρ = some (x || y) := by
  unfold gOrT
  rw [h1, Option.bind_some, h2]
  cases x <;> rfl
theorem andT_f (h1 : c ρ = some false) : gAndT c c2 ρ = some false := by
  unfold gAndT
  rw [h1]
  rfl
theorem andT_t {y : Bool} (h1 : c ρ = some true) (h2 : c2 ρ = some y) : gAndT c c2 ρ = some y := by
  unfold gAndT
  rw [h1]
  exact h2
theorem orT_t (h1 : c ρ = some true) : gOrT c c2 ρ = some true := by
  unfold gOrT
  rw [h1]
  rfl
theorem notT_ok {x : Bool} (h1 : c ρ = some x) : gNotT c ρ = some (!x) := by
  unfold gNotT
  rw [h1]
  rfl
theorem if_ok {x : Bool} (h : c ρ = some x) (h1 : x = true → g1 ρ = some d) (h2 : x = false → g2 ρ = some d) : gIf c g1 g2 ρ = some d := by
  unfold gIf
  rw [h, Option.bind_some]
  cases x
  · exact h2 rfl
  · exact h1 rfl
theorem ofL_ok {ds : List D} (h : gs ρ = some ds) : gOfL gs ρ = some (.lst ds) := by
  unfold gOfL
  rw [h]
  rfl
theorem len1_ok {ds : List D} (h : gs ρ = some ds) (hl : ds.length ≤ big) : gLen1 gs ρ = some ds := by
  unfold gLen1
  rw [h]
  exact if_pos hl
theorem tup_ok {ds : List D} (h : gs ρ = some ds) (hl : ds.length ≤ big) : gTup gs ρ = some (.tup ds) := by
  unfold gTup
  rw [h]
  exact if_pos hl
theorem listOf_ok {ds : List D} (h : g ρ = some d) (hi : items d = some ds) : glListOf g ρ = some ds := by
  unfold glListOf
  rw [h]
  exact hi
theorem tupOf_ok {ds : List D} (h : g ρ = some d) (hi : items d = some ds) : gUn oTupOf g ρ = some (.tup ds) := by
  refine un_ok h ?_
  unfold oTupOf
  rw [hi]
  rfl
theorem len_ok {ds : List D} (h : g ρ = some d) (hi : items d = some ds) : gUn oLen g ρ = some (.int (ds.length : Nat)) := by
  refine un_ok h ?_
  unfold oLen
  rw [hi]
  rfl
theorem freeze_ow {s : SG} {cn : Cn} (h : ρ[i]? = some (.ow cn)) (h2 : s (ρ.set i (.sh cn.data)) = some r) : gFreeze i s ρ = some r := by
  unfold gFreeze
  rw [h]
  exact h2
theorem app_ok {ds : List D} (h : ρ[i]? = some (.ow (.lst ds))) (hl : ds.length < big) (hg : g ρ = some d) : gApp i g ρ = some (.nx (ρ.set i (.ow (.lst (ds ++ [d]))))) := by
  unfold gApp
  rw [h]
  dsimp only
  simp only [hl, hg, if_true, Option.bind_some]
theorem fldC {n f : Str} {fs : List (Str × D)} (h : g ρ = some (.ins n fs)) (hl : fs.lookup f = some d) : gFld n f g ρ = some d := by
  unfold gFld
  rw [h]
  show (if n = n then fs.lookup f else none) = some d
  rw [if_pos rfl]
  exact hl
end
theorem getD_get {ns : List Int} {k : Nat} (h : k < ns.length) : (ns.map D.int)[k]? = some (.int (ns.getD k 0)) := by
  rw [List.getElem?_map, List.getElem?_eq_getElem h, List.getD_eq_getElem?_getD, List.getElem?_eq_getElem h]
  rfl
theorem ixL {ns : List Int} {k : Nat} (h : k < ns.length) : oIx (.lst (ns.map D.int)) (.int (k : Nat)) = some (.int (ns.getD k 0)) := ix_nat rfl (getD_get h)
theorem ixT {ns : List Int} {k : Nat} (h : k < ns.length) : oIx (.tup (ns.map D.int)) (.int (k : Nat)) = some (.int (ns.getD k 0)) := ix_nat rfl (getD_get h)
theorem ixS {ns : List Int} {k : Nat} (h : k < ns.length) : oIx (.scr (ns.map D.int)) (.int (k : Nat)) = some (.int (ns.getD k 0)) := ix_nat rfl (getD_get h)
end DL

/-! part M0b -/
set_option Elab.async false
set_option linter.all false
set_option maxRecDepth 100000
set_option maxHeartbeats 1000000
namespace DL
open L2
/-! ### the same as words about what holds behind -/
def Ok (s : SG) (ρ : Rho) (P : Res → Prop) : Prop := ∃ r, s ρ = some r ∧ P r
def Kn (s : SG) (P : Res → Prop) : Res → Prop
  | .nx ρ => Ok s ρ P
  | r => P r
def Dn (o : Option D) (P : D → Prop) : Prop := ∃ d, o = some d ∧ P d
section
variable {a b c s : SG} {k : Rho → Option Bool} {g g1 g2 : Rho → Option D} {gs : Rho → Option (List D)} {ρ ρ1 : Rho} {r : Res} {d : D} {i : Nat} {P : Res → Prop}
theorem ok_seq (h : Ok a ρ (Kn b P)) : Ok (gSeq a b) ρ P := by
  obtain ⟨r, e, q⟩ := h
  unfold Ok gSeq gThen
  rw [e]
  cases r with
  | nx ρ1 => exact q
  | rt d => exact ⟨_, rfl, q⟩
  | bk d => exact ⟨_, rfl, q⟩
  | ct d => exact ⟨_, rfl, q⟩
theorem ok_mono {Q : Res → Prop} (h : Ok s ρ P) (w : ∀ r, P r → Q r) : Ok s ρ Q := let ⟨r, e, q⟩ := h; ⟨r, e, w r q⟩
theorem ok_set (h : g ρ = some d) (q : Ok c (ρ.set i (.sh d)) P) : Ok (gSeq (gSet i g) c) ρ P := ok_seq ⟨_, set_ok h, q⟩
theorem ok_setOw {ds : List D} (h : gs ρ = some ds) (q : Ok c (ρ.set i (.ow (.lst ds))) P) : Ok (gSeq (gSetOw i gs) c) ρ P := ok_seq ⟨_, setOw_ok h, q⟩
theorem ok_ret (h : g ρ = some d) (q : P (.rt d)) : Ok (gSeq (gRet g) c) ρ P := ok_seq ⟨_, ret_ok h, q⟩
theorem ok_next (q : P (.nx ρ)) : Ok gNext ρ P := ⟨_, rfl, q⟩
theorem ok_if (x : Bool) (h : k ρ = some x) (h1 : x = true → Ok a ρ (Kn c P)) (h2 : x = false → Ok b ρ (Kn c P)) : Ok (gSeq (gIfS k a b) c) ρ P := by
  refine ok_seq ?_
  unfold Ok gIfS
  rw [h, Option.bind_some]
  cases x
  · exact h2 rfl
  · exact h1 rfl
theorem ok_join (Q : Rho → Prop) (h : Ok a ρ (fun r => ∃ ρ1, r = .nx ρ1 ∧ Q ρ1)) (hk : ∀ ρ1, Q ρ1 → Ok b ρ1 P) : Ok (gSeq a b) ρ P := by
  obtain ⟨r, e, ρ1, rfl, q⟩ := h
  exact ok_seq ⟨_, e, hk ρ1 q⟩
theorem ok_ifS (x : Bool) (h : k ρ = some x) (h1 : x = true → Ok a ρ P) (h2 : x = false → Ok b ρ P) : Ok (gIfS k a b) ρ P := by
  unfold Ok gIfS
  rw [h, Option.bind_some]
  cases x
  · exact h2 rfl
  · exact h1 rfl
theorem ok_app {ds : List D} (h : ρ[i]? = some (.ow (.lst ds))) (hg : g ρ = some d) (hl : ds.length < big) (q : Ok c (ρ.set i (.ow (.lst (ds ++ [d])))) P) : Ok (gSeq (gApp i g) c) ρ P := ok_seq ⟨_, app_ok h hl hg, q⟩
theorem ok_freeze {cn : Cn} (h : ρ[i]? = some (.ow cn)) (q : Ok s (ρ.set i (.sh cn.data)) P) : Ok (gFreeze i s) ρ P := by
  obtain ⟨r, e, q⟩ := q
  exact ⟨r, freeze_ow h e, q⟩
theorem ok_freezeS {cn : Cn} (h : ρ[i]? = some (.ow cn)) (q : Ok (gSeq s c) (ρ.set i (.sh cn.data)) P) : Ok (gSeq (gFreeze i s) c) ρ P := by
  obtain ⟨r, e, q⟩ := q
  refine ⟨r, ?_, q⟩
  unfold gSeq gFreeze
  rw [h]
  exact e
theorem setIx_ok {ds : List D} {j : Nat} (h : ρ[i]? = some (.ow (.lst ds))) (hg : g1 ρ = some (.int (j : Nat))) (he : g2 ρ = some d) (hl : j < ds.length) : gSetIx i g1 g2 ρ = some (.nx (ρ.set i (.ow (.lst (ds.set j d))))) := by
  have e : ixN ds.length ((j : Nat) : Int) = some j := by
    unfold ixN
    rw [if_pos (by omega), if_pos (by omega)]
    simp
  unfold gSetIx
  rw [h]
  dsimp only
  rw [he, Option.bind_some, hg, Option.bind_some]
  show ((some ((j : Nat) : Int)).bind fun z => (ixN ds.length z).bind fun k => some (Res.nx (ρ.set i (.ow (.lst (ds.set k d)))))) = _
  rw [Option.bind_some, e]
  rfl
theorem ok_setIx {ds : List D} {j : Nat} (h : ρ[i]? = some (.ow (.lst ds))) (hg : g1 ρ = some (.int (j : Nat))) (he : g2 ρ = some d) (hl : j < ds.length) (q : Ok c (ρ.set i (.ow (.lst (ds.set j d)))) P) : Ok (gSeq (gSetIx i g1 g2) c) ρ P :=
  ok_seq ⟨_, setIx_ok h hg he hl, q⟩
theorem ok_for {it : Rho → Option (List D)} {t : D → Rho → Option Rho} {ds : List D} (I : Nat → Rho → Prop) (hi : it ρ = some ds) (h0 : I 0 ρ)
    (hs : ∀ i d ρ, i < ds.length → ds[i]? = some d → I i ρ → ∃ ρ1, t d ρ = some ρ1 ∧ Ok b ρ1 (fun r => ∃ ρ2, r = .nx ρ2 ∧ I (i + 1) ρ2)) (hk : ∀ ρ', I ds.length ρ' → Ok c ρ' P) : Ok (gSeq (gFor it t b) c) ρ P := by
  obtain ⟨ρ', e, h⟩ := for_inv (b := b) I hi h0 fun i d ρ hl hd hI => by
    obtain ⟨ρ1, e1, r, e2, ρ2, rfl, h2⟩ := hs i d ρ hl hd hI
    exact ⟨ρ1, ρ2, e1, e2, h2⟩
  exact ok_seq ⟨_, e, hk ρ' h⟩
theorem ok_dn {n N : Nat} {ds : List D} {Q : D → Prop} (hl : ds.length = n) (h : Ok b (ds.map B.sh ++ List.replicate (N - n) .un) (fun r => ∃ d, r = .rt d ∧ Q d)) : Dn (gDef n N b ds) Q := by
  obtain ⟨r, e, d, rfl, q⟩ := h
  exact ⟨d, def_rt _ hl rfl e, q⟩
theorem Dn.eq {o : Option D} {d : D} (h : Dn o fun x => x = d) : o = some d := by
  obtain ⟨x, e, rfl⟩ := h
  exact e
theorem call_dn {f : List D → Option D} {ds : List D} {Q : D → Prop} (h1 : gs ρ = some ds) (h : Dn (f ds) Q) : ∃ d, gCall f gs ρ = some d ∧ Q d := by
  obtain ⟨d, e, q⟩ := h
  exact ⟨d, call_ok h1 e, q⟩
end
theorem add_int {i j : Int} : dAdd (.int i) (.int j) = some (.int (i + j)) := rfl
theorem sub_int {i j : Int} : dSub (.int i) (.int j) = some (.int (i - j)) := rfl
theorem lt_int {i j : Int} : dLt (.int i) (.int j) = some (.bl (decide (i < j))) := rfl
theorem le_int {i j : Int} : dLe (.int i) (.int j) = some (.bl (decide (i ≤ j))) := rfl
theorem gt_int {i j : Int} : dGt (.int i) (.int j) = some (.bl (decide (j < i))) := rfl
theorem ge_int {i j : Int} : dGe (.int i) (.int j) = some (.bl (decide (j ≤ i))) := rfl
theorem int1 {i : Int} : fInt [.int i] = some (.int i) := rfl
theorem intb {b : Bool} : fInt [.bl b] = some (.int (if b then 1 else 0)) := rfl
theorem abs1 {i : Int} : fAbs [.int i] = some (.int (if i < 0 then -i else i)) := rfl
theorem min2 {i j : Int} : fMin2 [.int i, .int j] = some (.int (if j < i then j else i)) := rfl
theorem max2 {i j : Int} : fMax2 [.int i, .int j] = some (.int (if j > i then j else i)) := rfl
theorem len_lst {ds : List D} : oLen (.lst ds) = some (.int (ds.length : Nat)) := rfl
theorem len_tup {ds : List D} : oLen (.tup ds) = some (.int (ds.length : Nat)) := rfl
theorem len_scr {ds : List D} : oLen (.scr ds) = some (.int (ds.length : Nat)) := rfl
theorem pow1018 : dPow (.int 10) (.int 18) = some (.int 1000000000000000000) := by
  show (if CPow 10 18 then some (D.int (10 ^ (18 : Int).toNat)) else none) = _
  rw [if_pos (by unfold CPow; omega)]
  rfl
theorem pow1020 : dPow (.int 10) (.int 20) = some (.int 100000000000000000000) := by
  show (if CPow 10 20 then some (D.int (10 ^ (20 : Int).toNat)) else none) = _
  rw [if_pos (by unfold CPow; omega)]
  rfl
theorem len1_okI {gs : Rho → Option (List D)} {ρ : Rho} {ds : List D} (h : gs ρ = some ds) (hl : ds.length ≤ big) : gLen1 gs ρ = some ds := len1_ok h hl

end DL

/-! part N0 -/
set_option Elab.async false
set_option linter.all false
set_option maxRecDepth 100000
set_option maxHeartbeats 2000000
namespace Lw
open PySem PySem.Spec PyProof.Rows L2 DL
theorem is_whole_int (i : Int) : g_is_whole [.int i] = some (.bl true) :=
  def_rt [.sh (.int i)] rfl rfl (seq_rt (ret_ok (and_t (call_ok (cons_ok rfl (cons_ok rfl rfl)) isi_int) (not_ok (call_ok (cons_ok rfl (cons_ok rfl rfl)) isi_int_bool)))))
theorem law_whole_int (i : Int) : g_law_whole [.int i] = some (.bl true) :=
  def_rt [.sh (.int i)] rfl rfl (seq_rt (ret_ok (and_t (call_ok (cons_ok rfl (cons_ok rfl rfl)) isi_int) (not_ok (call_ok (cons_ok rfl (cons_ok rfl rfl)) isi_int_bool)))))
theorem is_count_int (i : Int) (h : 0 ≤ i) : g_is_count [.int i] = some (.bl true) := by
  refine def_rt [.sh (.int i)] rfl rfl (seq_rt (ret_ok (and_t (call_ok (cons_ok rfl rfl) (is_whole_int i)) ?_)))
  rw [show (true : Bool) = decide (0 ≤ i) by simp [h]]
  (repeat' (first | with_reducible exact c_ok | with_reducible exact nil_ok | exact v_ok rfl | exact bor_ok rfl | with_reducible apply op_ok | with_reducible apply un_ok | with_reducible apply call_ok | with_reducible apply cons_ok | with_reducible apply gB_ok | with_reducible apply ofL_ok | with_reducible apply len1_okI | with_reducible apply tup_ok | (show List.length (List.cons _ _) ≤ big; simp only [List.length_cons, List.length_nil]; decide) | (show List.length List.nil ≤ big; simp only [List.length_nil]; decide) | with_reducible exact DL.add_int | with_reducible exact DL.sub_int | with_reducible exact DL.lt_int | with_reducible exact DL.le_int | with_reducible exact DL.gt_int | with_reducible exact DL.ge_int | with_reducible exact oEq_int _ _ | with_reducible exact oNe_int _ _ | with_reducible exact int1 | with_reducible exact intb | with_reducible exact abs1 | with_reducible exact min2 | with_reducible exact max2 | with_reducible exact len_lst | with_reducible exact len_tup | with_reducible exact len_scr | with_reducible exact pow1018 | with_reducible exact pow1020 | with_reducible exact mod_ok (by omega) | with_reducible exact fdiv_ok (by omega) | with_reducible exact mul_ok (by unfold CMul; omega) | with_reducible assumption))
theorem cell_ok (ns : List Int) (k : Nat) (hk : k ≤ 1000) : Dn (g_law_cell [.scr (ns.map D.int), .int (k : Nat)]) fun d => ∃ c : Int, d = .int c := by
  refine ok_dn rfl ?_
  refine ok_if (decide ((k : Int) < ((ns.map D.int).length : Nat))) (by (repeat' (first | with_reducible exact c_ok | with_reducible exact nil_ok | exact v_ok rfl | exact bor_ok rfl | with_reducible apply op_ok | with_reducible apply un_ok | with_reducible apply call_ok | with_reducible apply cons_ok | with_reducible apply gB_ok | with_reducible apply ofL_ok | with_reducible apply len1_okI | with_reducible apply tup_ok | (show List.length (List.cons _ _) ≤ big; simp only [List.length_cons, List.length_nil]; decide) | (show List.length List.nil ≤ big; simp only [List.length_nil]; decide) | with_reducible exact DL.add_int | with_reducible exact DL.sub_int | with_reducible exact DL.lt_int | with_reducible exact DL.le_int | with_reducible exact DL.gt_int | with_reducible exact DL.ge_int | with_reducible exact oEq_int _ _ | with_reducible exact oNe_int _ _ | with_reducible exact int1 | with_reducible exact intb | with_reducible exact abs1 | with_reducible exact min2 | with_reducible exact max2 | with_reducible exact len_lst | with_reducible exact len_tup | with_reducible exact len_scr | with_reducible exact pow1018 | with_reducible exact pow1020 | with_reducible exact mod_ok (by omega) | with_reducible exact fdiv_ok (by omega) | with_reducible exact mul_ok (by unfold CMul; omega) | with_reducible assumption))) (fun h => ?_) fun h => ok_next ?_
  · have h := of_decide_eq_true h
    rw [List.length_map] at h
    exact ok_ret (op_ok rfl rfl (ixS (by omega))) ⟨_, rfl, _, rfl⟩
  · refine ok_set c_ok ?_
    refine ok_for (ds := ns.map D.int) (fun _ ρ => ∃ (x : B) (s : Int), 0 ≤ s ∧ s < 1000003 ∧ ρ = [.sh (.scr (ns.map D.int)), .sh (.int (k : Nat)), .sh (.int s), x]) rfl ⟨.un, 17, by omega, by omega, rfl⟩ (fun i d ρ hi hd => ?_) fun ρ => ?_
    · rintro ⟨x, s, h0, h1, rfl⟩
      rw [getD_get (by simpa using hi)] at hd
      cases hd
      refine ⟨_, rfl, ok_set (d := .int ((s * 31 + ns.getD i 0 % 1000003) % 1000003)) (by (repeat' (first | with_reducible exact c_ok | with_reducible exact nil_ok | exact v_ok rfl | exact bor_ok rfl | with_reducible apply op_ok | with_reducible apply un_ok | with_reducible apply call_ok | with_reducible apply cons_ok | with_reducible apply gB_ok | with_reducible apply ofL_ok | with_reducible apply len1_okI | with_reducible apply tup_ok | (show List.length (List.cons _ _) ≤ big; simp only [List.length_cons, List.length_nil]; decide) | (show List.length List.nil ≤ big; simp only [List.length_nil]; decide) | with_reducible exact DL.add_int | with_reducible exact DL.sub_int | with_reducible exact DL.lt_int | with_reducible exact DL.le_int | with_reducible exact DL.gt_int | with_reducible exact DL.ge_int | with_reducible exact oEq_int _ _ | with_reducible exact oNe_int _ _ | with_reducible exact int1 | with_reducible exact intb | with_reducible exact abs1 | with_reducible exact min2 | with_reducible exact max2 | with_reducible exact len_lst | with_reducible exact len_tup | with_reducible exact len_scr | with_reducible exact pow1018 | with_reducible exact pow1020 | with_reducible exact mod_ok (by omega) | with_reducible exact fdiv_ok (by omega) | with_reducible exact mul_ok (by unfold CMul; omega) | with_reducible assumption))) (ok_next ⟨_, rfl, _, _, ?_, ?_, rfl⟩)⟩ <;> omega
    · rintro ⟨x, s, h0, h1, rfl⟩
      exact ok_ret (d := .int (((s + 7) * (k + 3) * 69621) % 2147483647)) (by (repeat' (first | with_reducible exact c_ok | with_reducible exact nil_ok | exact v_ok rfl | exact bor_ok rfl | with_reducible apply op_ok | with_reducible apply un_ok | with_reducible apply call_ok | with_reducible apply cons_ok | with_reducible apply gB_ok | with_reducible apply ofL_ok | with_reducible apply len1_okI | with_reducible apply tup_ok | (show List.length (List.cons _ _) ≤ big; simp only [List.length_cons, List.length_nil]; decide) | (show List.length List.nil ≤ big; simp only [List.length_nil]; decide) | with_reducible exact DL.add_int | with_reducible exact DL.sub_int | with_reducible exact DL.lt_int | with_reducible exact DL.le_int | with_reducible exact DL.gt_int | with_reducible exact DL.ge_int | with_reducible exact oEq_int _ _ | with_reducible exact oNe_int _ _ | with_reducible exact int1 | with_reducible exact intb | with_reducible exact abs1 | with_reducible exact min2 | with_reducible exact max2 | with_reducible exact len_lst | with_reducible exact len_tup | with_reducible exact len_scr | with_reducible exact pow1018 | with_reducible exact pow1020 | with_reducible exact mod_ok (by omega) | with_reducible exact fdiv_ok (by omega) | with_reducible exact mul_ok (by unfold CMul; omega) | with_reducible assumption))) ⟨_, rfl, _, rfl⟩

theorem getD_snoc {row : List Int} {x : Int} {k : Nat} : (row ++ [x]).getD k 0 = if k = row.length then x else row.getD k 0 := by
  rw [List.getD_eq_getElem?_getD, List.getD_eq_getElem?_getD]
  by_cases h : k < row.length
  · rw [List.getElem?_append_left h, if_neg (by omega)]
  · by_cases h2 : k = row.length
    · subst h2
      rw [if_pos rfl, List.getElem?_append_right (Nat.le_refl _), Nat.sub_self]
      rfl
    · rw [if_neg h2, List.getElem?_append_right (by omega), List.getElem?_eq_none (by simp; omega), List.getElem?_eq_none (by omega)]
def RowP (sz row : List Int) (i : Nat) : Prop := row.length = i ∧ ∀ k, k < i → 0 ≤ row.getD k 0 ∧ row.getD k 0 < sz.getD k 0
theorem RowP.snoc {sz row : List Int} {i : Nat} {x : Int} (h : RowP sz row i) (h0 : 0 ≤ x) (h1 : x < sz.getD i 0) : RowP sz (row ++ [x]) (i + 1) := by
  refine ⟨by rw [List.length_append, h.1]; rfl, fun k hk => ?_⟩
  rw [getD_snoc, h.1]
  by_cases e : k = i
  · rw [if_pos e, e]
    exact ⟨h0, h1⟩
  · rw [if_neg e]
    exact h.2 k (by omega)
theorem getD_mem {sz : List Int} {k : Nat} (h : k < sz.length) : sz.getD k 0 ∈ sz := by
  rw [List.getD_eq_getElem?_getD, List.getElem?_eq_getElem h]
  exact List.getElem_mem h
theorem map_snoc (row : List Int) (x : Int) : row.map D.int ++ [D.int x] = (row ++ [x]).map D.int := by rw [List.map_append]; rfl
theorem digits_ok (c : Int) (sz : List Int) (hs : ∀ s ∈ sz, 0 < s ∧ s < 1073741824) (hl : sz.length ≤ 1000) : Dn (g_law_digits [.int c, .lst (sz.map D.int)]) fun d => ∃ row, d = .lst (row.map D.int) ∧ RowP sz row sz.length := by
  refine ok_dn rfl ?_
  refine ok_setOw (ds := []) rfl (ok_set (d := .int c) (by (repeat' (first | with_reducible exact c_ok | with_reducible exact nil_ok | exact v_ok rfl | exact bor_ok rfl | with_reducible apply op_ok | with_reducible apply un_ok | with_reducible apply call_ok | with_reducible apply cons_ok | with_reducible apply gB_ok | with_reducible apply ofL_ok | with_reducible apply len1_okI | with_reducible apply tup_ok | (show List.length (List.cons _ _) ≤ big; simp only [List.length_cons, List.length_nil]; decide) | (show List.length List.nil ≤ big; simp only [List.length_nil]; decide) | with_reducible exact DL.add_int | with_reducible exact DL.sub_int | with_reducible exact DL.lt_int | with_reducible exact DL.le_int | with_reducible exact DL.gt_int | with_reducible exact DL.ge_int | with_reducible exact oEq_int _ _ | with_reducible exact oNe_int _ _ | with_reducible exact int1 | with_reducible exact intb | with_reducible exact abs1 | with_reducible exact min2 | with_reducible exact max2 | with_reducible exact len_lst | with_reducible exact len_tup | with_reducible exact len_scr | with_reducible exact pow1018 | with_reducible exact pow1020 | with_reducible exact mod_ok (by omega) | with_reducible exact fdiv_ok (by omega) | with_reducible exact mul_ok (by unfold CMul; omega) | with_reducible assumption))) ?_)
  refine ok_if (decide ((1000000000000000000 : Int) ≤ c)) (by (repeat' (first | with_reducible exact c_ok | with_reducible exact nil_ok | exact v_ok rfl | exact bor_ok rfl | with_reducible apply op_ok | with_reducible apply un_ok | with_reducible apply call_ok | with_reducible apply cons_ok | with_reducible apply gB_ok | with_reducible apply ofL_ok | with_reducible apply len1_okI | with_reducible apply tup_ok | (show List.length (List.cons _ _) ≤ big; simp only [List.length_cons, List.length_nil]; decide) | (show List.length List.nil ≤ big; simp only [List.length_nil]; decide) | with_reducible exact DL.add_int | with_reducible exact DL.sub_int | with_reducible exact DL.lt_int | with_reducible exact DL.le_int | with_reducible exact DL.gt_int | with_reducible exact DL.ge_int | with_reducible exact oEq_int _ _ | with_reducible exact oNe_int _ _ | with_reducible exact int1 | with_reducible exact intb | with_reducible exact abs1 | with_reducible exact min2 | with_reducible exact max2 | with_reducible exact len_lst | with_reducible exact len_tup | with_reducible exact len_scr | with_reducible exact pow1018 | with_reducible exact pow1020 | with_reducible exact mod_ok (by omega) | with_reducible exact fdiv_ok (by omega) | with_reducible exact mul_ok (by unfold CMul; omega) | with_reducible assumption))) (fun h => ?_) fun h => ok_next ?_
  · refine ok_set (d := .int (c - 1000000000000000000)) (by (repeat' (first | with_reducible exact c_ok | with_reducible exact nil_ok | exact v_ok rfl | exact bor_ok rfl | with_reducible apply op_ok | with_reducible apply un_ok | with_reducible apply call_ok | with_reducible apply cons_ok | with_reducible apply gB_ok | with_reducible apply ofL_ok | with_reducible apply len1_okI | with_reducible apply tup_ok | (show List.length (List.cons _ _) ≤ big; simp only [List.length_cons, List.length_nil]; decide) | (show List.length List.nil ≤ big; simp only [List.length_nil]; decide) | with_reducible exact DL.add_int | with_reducible exact DL.sub_int | with_reducible exact DL.lt_int | with_reducible exact DL.le_int | with_reducible exact DL.gt_int | with_reducible exact DL.ge_int | with_reducible exact oEq_int _ _ | with_reducible exact oNe_int _ _ | with_reducible exact int1 | with_reducible exact intb | with_reducible exact abs1 | with_reducible exact min2 | with_reducible exact max2 | with_reducible exact len_lst | with_reducible exact len_tup | with_reducible exact len_scr | with_reducible exact pow1018 | with_reducible exact pow1020 | with_reducible exact mod_ok (by omega) | with_reducible exact fdiv_ok (by omega) | with_reducible exact mul_ok (by unfold CMul; omega) | with_reducible assumption))) ?_
    refine ok_for (ds := sz.map D.int) (fun i ρ => ∃ (x : B) (row : List Int) (r : Int), RowP sz row i ∧ ρ = [.sh (.int c), .sh (.lst (sz.map D.int)), .ow (.lst (row.map D.int)), .sh (.int r), x, .un, .un, .un]) rfl
      ⟨.un, [], _, ⟨rfl, fun k h => by omega⟩, rfl⟩ (fun i d ρ hi hd => ?_) fun ρ => ?_
    · rintro ⟨x, row, r, hrow, rfl⟩
      rw [List.length_map] at hi
      rw [getD_get hi] at hd
      cases hd
      have hz := hs _ (getD_mem hi)
      refine ⟨_, rfl, ok_app rfl (d := .int (r % sz.getD i 0)) (by (repeat' (first | with_reducible exact c_ok | with_reducible exact nil_ok | exact v_ok rfl | exact bor_ok rfl | with_reducible apply op_ok | with_reducible apply un_ok | with_reducible apply call_ok | with_reducible apply cons_ok | with_reducible apply gB_ok | with_reducible apply ofL_ok | with_reducible apply len1_okI | with_reducible apply tup_ok | (show List.length (List.cons _ _) ≤ big; simp only [List.length_cons, List.length_nil]; decide) | (show List.length List.nil ≤ big; simp only [List.length_nil]; decide) | with_reducible exact DL.add_int | with_reducible exact DL.sub_int | with_reducible exact DL.lt_int | with_reducible exact DL.le_int | with_reducible exact DL.gt_int | with_reducible exact DL.ge_int | with_reducible exact oEq_int _ _ | with_reducible exact oNe_int _ _ | with_reducible exact int1 | with_reducible exact intb | with_reducible exact abs1 | with_reducible exact min2 | with_reducible exact max2 | with_reducible exact len_lst | with_reducible exact len_tup | with_reducible exact len_scr | with_reducible exact pow1018 | with_reducible exact pow1020 | with_reducible exact mod_ok (by omega) | with_reducible exact fdiv_ok (by omega) | with_reducible exact mul_ok (by unfold CMul; omega) | with_reducible assumption))) (by rw [List.length_map, hrow.1]; exact Nat.lt_of_lt_of_le hi (Nat.le_trans hl (by decide))) ?_⟩
      refine ok_set (d := .int (r / sz.getD i 0)) (by (repeat' (first | with_reducible exact c_ok | with_reducible exact nil_ok | exact v_ok rfl | exact bor_ok rfl | with_reducible apply op_ok | with_reducible apply un_ok | with_reducible apply call_ok | with_reducible apply cons_ok | with_reducible apply gB_ok | with_reducible apply ofL_ok | with_reducible apply len1_okI | with_reducible apply tup_ok | (show List.length (List.cons _ _) ≤ big; simp only [List.length_cons, List.length_nil]; decide) | (show List.length List.nil ≤ big; simp only [List.length_nil]; decide) | with_reducible exact DL.add_int | with_reducible exact DL.sub_int | with_reducible exact DL.lt_int | with_reducible exact DL.le_int | with_reducible exact DL.gt_int | with_reducible exact DL.ge_int | with_reducible exact oEq_int _ _ | with_reducible exact oNe_int _ _ | with_reducible exact int1 | with_reducible exact intb | with_reducible exact abs1 | with_reducible exact min2 | with_reducible exact max2 | with_reducible exact len_lst | with_reducible exact len_tup | with_reducible exact len_scr | with_reducible exact pow1018 | with_reducible exact pow1020 | with_reducible exact mod_ok (by omega) | with_reducible exact fdiv_ok (by omega) | with_reducible exact mul_ok (by unfold CMul; omega) | with_reducible assumption))) (ok_next ⟨_, rfl, _, row ++ [r % sz.getD i 0], _, hrow.snoc (Int.emod_nonneg _ (by omega)) (Int.emod_lt_of_pos _ hz.1), by rw [map_snoc]; rfl⟩)
    · rintro ⟨x, row, r, hrow, rfl⟩
      rw [List.length_map] at hrow
      exact ok_freezeS rfl (ok_ret rfl ⟨_, rfl, row, rfl, hrow⟩)
  · refine ok_set (d := .int (c % 2147483629)) (by (repeat' (first | with_reducible exact c_ok | with_reducible exact nil_ok | exact v_ok rfl | exact bor_ok rfl | with_reducible apply op_ok | with_reducible apply un_ok | with_reducible apply call_ok | with_reducible apply cons_ok | with_reducible apply gB_ok | with_reducible apply ofL_ok | with_reducible apply len1_okI | with_reducible apply tup_ok | (show List.length (List.cons _ _) ≤ big; simp only [List.length_cons, List.length_nil]; decide) | (show List.length List.nil ≤ big; simp only [List.length_nil]; decide) | with_reducible exact DL.add_int | with_reducible exact DL.sub_int | with_reducible exact DL.lt_int | with_reducible exact DL.le_int | with_reducible exact DL.gt_int | with_reducible exact DL.ge_int | with_reducible exact oEq_int _ _ | with_reducible exact oNe_int _ _ | with_reducible exact int1 | with_reducible exact intb | with_reducible exact abs1 | with_reducible exact min2 | with_reducible exact max2 | with_reducible exact len_lst | with_reducible exact len_tup | with_reducible exact len_scr | with_reducible exact pow1018 | with_reducible exact pow1020 | with_reducible exact mod_ok (by omega) | with_reducible exact fdiv_ok (by omega) | with_reducible exact mul_ok (by unfold CMul; omega) | with_reducible assumption))) ?_
    refine ok_for (ds := rangeD sz.length) (fun i ρ => ∃ (x y : B) (row : List Int) (r : Int), RowP sz row i ∧ 0 ≤ r ∧ r < 2147483647 ∧ ρ = [.sh (.int c), .sh (.lst (sz.map D.int)), .ow (.lst (row.map D.int)), .sh (.int c), .un, .sh (.int r), x, y])
      (range_ok (by rw [len_ok (v_ok rfl) rfl, List.length_map]) (by omega))
      ⟨.un, .un, [], _, ⟨rfl, fun k h => by omega⟩, by omega, by omega, rfl⟩ (fun i d ρ hi hd => ?_) fun ρ => ?_
    · rintro ⟨x, y, row, r, hrow, h0, h1, rfl⟩
      rw [rangeD_len] at hi
      cases rangeD_get hd
      have hz := hs _ (getD_mem hi)
      refine ⟨_, rfl, ok_set (d := .int ((r * 48271 + 974711 * i + 12345) % 2147483647)) (by (repeat' (first | with_reducible exact c_ok | with_reducible exact nil_ok | exact v_ok rfl | exact bor_ok rfl | with_reducible apply op_ok | with_reducible apply un_ok | with_reducible apply call_ok | with_reducible apply cons_ok | with_reducible apply gB_ok | with_reducible apply ofL_ok | with_reducible apply len1_okI | with_reducible apply tup_ok | (show List.length (List.cons _ _) ≤ big; simp only [List.length_cons, List.length_nil]; decide) | (show List.length List.nil ≤ big; simp only [List.length_nil]; decide) | with_reducible exact DL.add_int | with_reducible exact DL.sub_int | with_reducible exact DL.lt_int | with_reducible exact DL.le_int | with_reducible exact DL.gt_int | with_reducible exact DL.ge_int | with_reducible exact oEq_int _ _ | with_reducible exact oNe_int _ _ | with_reducible exact int1 | with_reducible exact intb | with_reducible exact abs1 | with_reducible exact min2 | with_reducible exact max2 | with_reducible exact len_lst | with_reducible exact len_tup | with_reducible exact len_scr | with_reducible exact pow1018 | with_reducible exact pow1020 | with_reducible exact mod_ok (by omega) | with_reducible exact fdiv_ok (by omega) | with_reducible exact mul_ok (by unfold CMul; omega) | with_reducible assumption))) ?_⟩
      generalize hr2 : (r * 48271 + 974711 * (i : Int) + 12345) % 2147483647 = r2
      have h20 : 0 ≤ r2 := by omega
      have h21 : r2 < 2147483647 := by omega
      refine ok_set (d := .int ((r2 * (r2 / 65537 + 3)) % 2147483629)) (by (repeat' (first | with_reducible exact c_ok | with_reducible exact nil_ok | exact v_ok rfl | exact bor_ok rfl | with_reducible apply op_ok | with_reducible apply un_ok | with_reducible apply call_ok | with_reducible apply cons_ok | with_reducible apply gB_ok | with_reducible apply ofL_ok | with_reducible apply len1_okI | with_reducible apply tup_ok | (show List.length (List.cons _ _) ≤ big; simp only [List.length_cons, List.length_nil]; decide) | (show List.length List.nil ≤ big; simp only [List.length_nil]; decide) | with_reducible exact DL.add_int | with_reducible exact DL.sub_int | with_reducible exact DL.lt_int | with_reducible exact DL.le_int | with_reducible exact DL.gt_int | with_reducible exact DL.ge_int | with_reducible exact oEq_int _ _ | with_reducible exact oNe_int _ _ | with_reducible exact int1 | with_reducible exact intb | with_reducible exact abs1 | with_reducible exact min2 | with_reducible exact max2 | with_reducible exact len_lst | with_reducible exact len_tup | with_reducible exact len_scr | with_reducible exact pow1018 | with_reducible exact pow1020 | with_reducible exact mod_ok (by omega) | with_reducible exact fdiv_ok (by omega) | with_reducible exact mul_ok (by unfold CMul; omega) | with_reducible assumption))) ?_
      generalize hr3 : (r2 * (r2 / 65537 + 3)) % 2147483629 = r3
      have hix := ixL hi
      refine ok_app rfl (d := .int ((r3 / 19) % sz.getD i 0)) (by (repeat' (first | with_reducible exact c_ok | with_reducible exact nil_ok | exact v_ok rfl | exact bor_ok rfl | with_reducible apply op_ok | with_reducible apply un_ok | with_reducible apply call_ok | with_reducible apply cons_ok | with_reducible apply gB_ok | with_reducible apply ofL_ok | with_reducible apply len1_okI | with_reducible apply tup_ok | (show List.length (List.cons _ _) ≤ big; simp only [List.length_cons, List.length_nil]; decide) | (show List.length List.nil ≤ big; simp only [List.length_nil]; decide) | with_reducible exact DL.add_int | with_reducible exact DL.sub_int | with_reducible exact DL.lt_int | with_reducible exact DL.le_int | with_reducible exact DL.gt_int | with_reducible exact DL.ge_int | with_reducible exact oEq_int _ _ | with_reducible exact oNe_int _ _ | with_reducible exact int1 | with_reducible exact intb | with_reducible exact abs1 | with_reducible exact min2 | with_reducible exact max2 | with_reducible exact len_lst | with_reducible exact len_tup | with_reducible exact len_scr | with_reducible exact pow1018 | with_reducible exact pow1020 | with_reducible exact mod_ok (by omega) | with_reducible exact fdiv_ok (by omega) | with_reducible exact mul_ok (by unfold CMul; omega) | with_reducible assumption))) (by rw [List.length_map, hrow.1]; exact Nat.lt_of_lt_of_le hi (Nat.le_trans hl (by decide))) ?_
      refine ok_next ⟨_, rfl, _, _, row ++ [(r3 / 19) % sz.getD i 0], r2, hrow.snoc (Int.emod_nonneg _ (by omega)) (Int.emod_lt_of_pos _ hz.1), h20, h21, by rw [map_snoc]; rfl⟩
    · rintro ⟨x, y, row, r, hrow, _, _, rfl⟩
      rw [rangeD_len] at hrow
      exact ok_freezeS rfl (ok_ret rfl ⟨_, rfl, row, rfl, hrow⟩)
/-- digits of a cell of the script -/
theorem draw_ok {ρ : Rho} {ga gb gz : Rho → Option D} {ns sz : List Int} {k : Nat} (h1 : ga ρ = some (.scr (ns.map D.int))) (h2 : gb ρ = some (.int (k : Nat))) (h3 : gz ρ = some (.lst (sz.map D.int))) (hk : k ≤ 1000) (hs : ∀ s ∈ sz, 0 < s ∧ s < 1073741824) (hl : sz.length ≤ 1000) :
    ∃ row, gCall g_law_digits (gCons (gCall g_law_cell (gCons ga (gCons gb gNil))) (gCons gz gNil)) ρ = some (.lst (row.map D.int)) ∧ RowP sz row sz.length := by
  obtain ⟨d, e, c, rfl⟩ := cell_ok ns k hk
  obtain ⟨d, e2, row, rfl, hr⟩ := digits_ok c sz hs hl
  exact ⟨row, call_ok (cons_ok (call_ok (cons_ok h1 (cons_ok h2 rfl)) e) (cons_ok h3 rfl)) e2, hr⟩
end Lw

namespace Lw
open PySem PySem.Spec PyProof.Rows L2 DL
theorem wrap {x m : Int} (h0 : 0 ≤ x) (h1 : x < 2 * m) : x % m = if x < m then x else x - m := by
  by_cases h : x < m
  · rw [if_pos h, Int.emod_eq_of_lt h0 h]
  · rw [if_neg h]
    have e : x = (x - m) + m := by omega
    have e2 : x % m = (x - m) % m := by
      conv => lhs; rw [e]
      simp
    rw [e2, Int.emod_eq_of_lt (by omega) (by omega)]
/-- two different mills -/
def Gd (m a b : Int) : Prop := 0 ≤ a ∧ a < m ∧ 0 ≤ b ∧ b < m ∧ a ≠ b
def VP (m : Int) (ps : List (Int × Int)) : Prop := ∀ p ∈ ps, Gd m p.1 p.2
theorem gd_draw {m f t : Int} (hm : 1 < m) (hf : 0 ≤ f ∧ f < m) (ht : 0 ≤ t ∧ t < m - 1) : Gd m f ((f + 1 + t) % m) := by
  rw [wrap (by omega) (by omega)]
  unfold Gd
  split <;> omega
theorem gd_next {m k : Int} (hm : 1 < m) (h0 : 0 ≤ k) (h1 : k < m) : Gd m k ((k + 1) % m) := by
  rw [wrap (by omega) (by omega)]
  unfold Gd
  split <;> omega
theorem VP.snoc {m a b : Int} {ps : List (Int × Int)} (h : VP m ps) (g : Gd m a b) : VP m (ps ++ [(a, b)]) := fun p hp => by
  rcases List.mem_append.mp hp with hp | hp
  · exact h p hp
  · rw [List.mem_singleton] at hp
    subst hp
    exact g
theorem vp_nil {m : Int} : VP m [] := fun p hp => by cases hp
theorem pairs_snoc (ps : List (Int × Int)) (a b : Int) : ps.map ePair.e ++ [D.tup [.int a, .int b]] = (ps ++ [(a, b)]).map ePair.e := by rw [List.map_append]; rfl
theorem pair_get {ps : List (Int × Int)} {k : Nat} (h : k < ps.length) : (ps.map ePair.e)[k]? = some (.tup [.int (ps[k]).1, .int (ps[k]).2]) := by
  rw [List.getElem?_map, List.getElem?_eq_getElem h]
  rfl
abbrev szS : List Int := [24, 24, 6, 12, 12, 12, 12, 12, 12, 12, 12, 12, 12, 12, 12, 12, 12]
theorem tab_get {T : List Int} {j lo hi : Int} (hT : ∀ s ∈ T, lo ≤ s ∧ s ≤ hi) (h0 : 0 ≤ j) (h1 : j < T.length) : ∃ v, oIx (.lst (T.map D.int)) (.int j) = some (.int v) ∧ lo ≤ v ∧ v ≤ hi := by
  have e : j = ((j.toNat : Nat) : Int) := by omega
  have h2 : j.toNat < T.length := by omega
  refine ⟨T.getD j.toNat 0, ?_, hT _ (getD_mem h2)⟩
  rw [e]
  exact ixL h2
theorem ixL' {ns : List Int} {j : Int} (h0 : 0 ≤ j) (h : j < ns.length) : oIx (.lst (ns.map D.int)) (.int j) = some (.int (ns.getD j.toNat 0)) := by
  have e : j = ((j.toNat : Nat) : Int) := by omega
  rw [e]
  exact ixL (by omega)
theorem tabm : dMulT (.lst [.int 3, .int 3, .int 4, .int 2, .int 4, .int 3, .int 5, .int 3, .int 4, .int 3, .int 2, .int 4]) (.int 2) = some (.lst (([3, 3, 4, 2, 4, 3, 5, 3, 4, 3, 2, 4, 3, 3, 4, 2, 4, 3, 5, 3, 4, 3, 2, 4] : List Int).map D.int)) := mulL_ok (k := 2) (by omega) (by decide)
theorem tabn : dMulT (.lst [.int 4, .int 5, .int 3, .int 6, .int 5, .int 4, .int 7, .int 5, .int 4, .int 6, .int 5, .int 2]) (.int 2) = some (.lst (([4, 5, 3, 6, 5, 4, 7, 5, 4, 6, 5, 2, 4, 5, 3, 6, 5, 4, 7, 5, 4, 6, 5, 2] : List Int).map D.int)) := mulL_ok (k := 2) (by omega) (by decide)
theorem addk {k : Nat} : dAdd (.int (k : Nat)) (.int 1) = some (.int ((k + 1 : Nat) : Int)) := rfl
theorem tab24 : dMulT (.lst [.int 24, .int 23]) (.int 24) = some (.lst ((List.replicate 24 ([24, 23] : List Int)).flatten.map D.int)) := mulL_ok (k := 24) (by omega) (by decide)
theorem dAdd_lst {a b : List Int} (h : a.length + b.length ≤ big) : dAdd (.lst (a.map D.int)) (.lst (b.map D.int)) = some (.lst ((a ++ b).map D.int)) := by
  show (if (a.map D.int).length + (b.map D.int).length ≤ big then some (D.lst (a.map D.int ++ b.map D.int)) else none) = _
  rw [if_pos (by rw [List.length_map, List.length_map]; exact h), List.map_append]
theorem tab12 : dMulT (.lst [.int 12, .int 12]) (.int 7) = some (.lst (([12, 12, 12, 12, 12, 12, 12, 12, 12, 12, 12, 12, 12, 12] : List Int).map D.int)) := mulL_ok (k := 7) (by omega) (by decide)
end Lw

namespace Lw
open PySem PySem.Spec PyProof.Rows L2 DL
def side (p : Int × Int) (s : Int) : Int := if s = 0 then p.1 else p.2
def bump (cs : List Int) (j : Int) : List Int := cs.set j.toNat (cs.getD j.toNat 0 + 1)
def fedn (m : Nat) (ps : List (Int × Int)) (st : List Int) (i : Nat) : List Int := (List.range i).foldl (fun cs k => bump cs (side (ps.getD k (0, 0)) (st.getD k 0))) (List.replicate m 0)
abbrev feds (m : Nat) (ps : List (Int × Int)) (st : List Int) : List Int := fedn m ps st ps.length
theorem fedn_succ (m : Nat) (ps : List (Int × Int)) (st : List Int) (i : Nat) : fedn m ps st (i + 1) = bump (fedn m ps st i) (side (ps.getD i (0, 0)) (st.getD i 0)) := by
  unfold fedn
  rw [List.range_succ, List.foldl_append]
  rfl
theorem fedn_len (m : Nat) (ps : List (Int × Int)) (st : List Int) : ∀ i : Nat, (fedn m ps st i).length = m
  | 0 => by unfold fedn; simp
  | i + 1 => by rw [fedn_succ]; unfold bump; rw [List.length_set, fedn_len m ps st i]
theorem getD_set {cs : List Int} {j k : Nat} {x : Int} : (cs.set j x).getD k 0 = if k = j ∧ j < cs.length then x else cs.getD k 0 := by
  rw [List.getD_eq_getElem?_getD, List.getD_eq_getElem?_getD, List.getElem?_set]
  by_cases h : j = k
  · subst h
    by_cases hl : j < cs.length
    · rw [if_pos rfl, if_pos hl, if_pos ⟨rfl, hl⟩]
      rfl
    · rw [if_pos rfl, if_neg hl, if_neg (fun z => hl z.2), List.getElem?_eq_none (by omega)]
  · rw [if_neg h, if_neg (fun z => h z.1.symm)]
theorem fedn_nonneg (m : Nat) (ps : List (Int × Int)) (st : List Int) : ∀ (i k : Nat), 0 ≤ (fedn m ps st i).getD k 0
  | 0, k => by
    unfold fedn
    rw [List.getD_eq_getElem?_getD]
    show 0 ≤ ((List.replicate m (0 : Int))[k]?).getD 0
    by_cases h : k < m
    · rw [List.getElem?_replicate, if_pos h]
      simp
    · rw [List.getElem?_replicate, if_neg h]
      simp
  | i + 1, k => by
    rw [fedn_succ]
    unfold bump
    rw [getD_set]
    have h1 := fedn_nonneg m ps st i k
    have h2 := fedn_nonneg m ps st i (side (ps.getD i (0, 0)) (st.getD i 0)).toNat
    split <;> omega
/-- a setting's sides -/
def Bits (st : List Int) (n : Nat) : Prop := st.length = n ∧ ∀ k, k < n → st.getD k 0 = 0 ∨ st.getD k 0 = 1
theorem pgetD {ps : List (Int × Int)} {k : Nat} (h : k < ps.length) : ps.getD k (0, 0) = ps[k] := by
  rw [List.getD_eq_getElem?_getD, List.getElem?_eq_getElem h]
  rfl
theorem side_ix {p : Int × Int} {s : Int} (h : s = 0 ∨ s = 1) : oIx (.tup [.int p.1, .int p.2]) (.int s) = some (.int (side p s)) := by
  rcases h with rfl | rfl <;> rfl
theorem side_gd {m : Int} {p : Int × Int} {s : Int} (g : Gd m p.1 p.2) : 0 ≤ side p s ∧ side p s < m := by
  unfold Gd at g
  unfold side
  split <;> omega
theorem zeros (m : Nat) : (List.range m).map (fun _ => D.int 0) = (List.replicate m (0 : Int)).map D.int := by
  induction m with
  | zero => rfl
  | succ n ih => rw [List.range_succ, List.map_append, ih, List.replicate_succ', List.map_append]; rfl
theorem flat0 (m : Nat) : (List.replicate m [D.int 0]).flatten = (List.replicate m (0 : Int)).map D.int := by
  induction m with
  | zero => rfl
  | succ n ih => rw [List.replicate_succ, List.replicate_succ, List.flatten_cons, ih]; rfl
theorem map_set {cs : List Int} {j : Nat} {x : Int} : (cs.map D.int).set j (.int x) = (cs.set j x).map D.int := by rw [List.map_set]
theorem law_fed_ok {m : Nat} {ps : List (Int × Int)} {st : List Int} {ds : D} (hm : m ≤ 24) (hp : ps.length ≤ 48) (vp : VP m ps) (hs : items ds = some (st.map D.int)) (hb : Bits st ps.length) :
    g_law_fed [.int (m : Nat), .lst (ps.map ePair.e), ds] = some (.lst ((feds m ps st).map D.int)) := by
  refine Dn.eq (ok_dn rfl ?_)
  refine ok_setOw (ds := (List.replicate m (0 : Int)).map D.int) ?_ ?_
  · refine Eq.trans (comp_map (ds := rangeD m) (fun _ => .int 0) (range_ok rfl (by omega)) (by rw [rangeD_len]; exact Nat.le_trans hm (by decide)) fun i d hi hd => ⟨_, rfl, rfl⟩) ?_
    rw [rangeD_len, zeros]
  refine ok_for (ds := rangeD ps.length) (fun i ρ => ∃ x y : B, ρ = [.sh (.int (m : Nat)), .sh (.lst (ps.map ePair.e)), .sh ds, .ow (.lst ((fedn m ps st i).map D.int)), x, y]) (range_ok (by rw [len_ok (v_ok rfl) rfl, List.length_map]) (by omega))
    ⟨.un, .un, rfl⟩ (fun i d ρ hi hd => ?_) fun ρ => ?_
  · rintro ⟨x, y, rfl⟩
    rw [rangeD_len] at hi
    cases rangeD_get hd
    have x1 := ix_nat (c := .lst (ps.map ePair.e)) rfl (pair_get hi)
    have x2 := ix_nat hs (getD_get (by rw [hb.1]; exact hi))
    have x3 := side_ix (p := ps[i]) (hb.2 i hi)
    have g := side_gd (s := st.getD i 0) (vp _ (List.getElem_mem hi))
    generalize hj : side ps[i] (st.getD i 0) = j at x3 g
    refine ⟨_, rfl, ok_set (d := .int j) (by (repeat' (first | with_reducible exact c_ok | with_reducible exact nil_ok | exact v_ok rfl | exact bor_ok rfl | with_reducible apply op_ok | with_reducible apply un_ok | with_reducible apply call_ok | with_reducible apply cons_ok | with_reducible apply gB_ok | with_reducible apply ofL_ok | with_reducible apply len1_okI | with_reducible apply tup_ok | (show List.length (List.cons _ _) ≤ big; simp only [List.length_cons, List.length_nil]; decide) | (show List.length List.nil ≤ big; simp only [List.length_nil]; decide) | with_reducible exact DL.add_int | with_reducible exact DL.sub_int | with_reducible exact DL.lt_int | with_reducible exact DL.le_int | with_reducible exact DL.gt_int | with_reducible exact DL.ge_int | with_reducible exact oEq_int _ _ | with_reducible exact oNe_int _ _ | with_reducible exact int1 | with_reducible exact intb | with_reducible exact abs1 | with_reducible exact min2 | with_reducible exact max2 | with_reducible exact len_lst | with_reducible exact len_tup | with_reducible exact len_scr | with_reducible exact pow1018 | with_reducible exact pow1020 | with_reducible exact mod_ok (by omega) | with_reducible exact fdiv_ok (by omega) | with_reducible exact mul_ok (by unfold CMul; omega) | with_reducible assumption))) ?_⟩
    have hjl : j.toNat < (fedn m ps st i).length := by rw [fedn_len]; omega
    have x4 : oIx (.lst ((fedn m ps st i).map D.int)) (.int j) = some (.int ((fedn m ps st i).getD j.toNat 0)) := ixL' g.1 (by omega)
    refine ok_setIx (j := j.toNat) rfl (v_ok (by rw [show ((j.toNat : Nat) : Int) = j by omega]; rfl)) (show gOp dAdd (gOp oIx (gBor 3) (gV 5)) (gC (.int 1)) _ = some (.int ((fedn m ps st i).getD j.toNat 0 + 1)) by (repeat' (first | with_reducible exact c_ok | with_reducible exact nil_ok | exact v_ok rfl | exact bor_ok rfl | with_reducible apply op_ok | with_reducible apply un_ok | with_reducible apply call_ok | with_reducible apply cons_ok | with_reducible apply gB_ok | with_reducible apply ofL_ok | with_reducible apply len1_okI | with_reducible apply tup_ok | (show List.length (List.cons _ _) ≤ big; simp only [List.length_cons, List.length_nil]; decide) | (show List.length List.nil ≤ big; simp only [List.length_nil]; decide) | with_reducible exact DL.add_int | with_reducible exact DL.sub_int | with_reducible exact DL.lt_int | with_reducible exact DL.le_int | with_reducible exact DL.gt_int | with_reducible exact DL.ge_int | with_reducible exact oEq_int _ _ | with_reducible exact oNe_int _ _ | with_reducible exact int1 | with_reducible exact intb | with_reducible exact abs1 | with_reducible exact min2 | with_reducible exact max2 | with_reducible exact len_lst | with_reducible exact len_tup | with_reducible exact len_scr | with_reducible exact pow1018 | with_reducible exact pow1020 | with_reducible exact mod_ok (by omega) | with_reducible exact fdiv_ok (by omega) | with_reducible exact mul_ok (by unfold CMul; omega) | with_reducible assumption))) (by rw [List.length_map]; exact hjl) ?_
    exact ok_next ⟨_, rfl, _, _, by rw [fedn_succ, pgetD hi, hj, map_set]; rfl⟩
  · rintro ⟨x, y, rfl⟩
    rw [rangeD_len]
    exact ok_freezeS rfl (ok_ret rfl ⟨_, rfl, rfl⟩)
/-- a valley -/
def dV (m : Nat) (ps : List (Int × Int)) : D := .ins "Valley" [("mills", .int (m : Nat)), ("sluices", .tup (ps.map ePair.e))]
theorem lk_mills {a b : D} : ([(("mills" : Str), a), (("sluices" : Str), b)] : List (Str × D)).lookup ("mills" : Str) = some a := by
  rw [List.lookup_cons]
  rfl
theorem lk_sluices {a b : D} : ([(("mills" : Str), a), (("sluices" : Str), b)] : List (Str × D)).lookup ("sluices" : Str) = some b := by
  have e : (("sluices" : Str) == "mills") = false := by decide +kernel
  rw [List.lookup_cons, e]
  rfl
end Lw

namespace Lw
open PySem PySem.Spec PyProof.Rows L2 DL
abbrev eRow : Enc (List Int) := eInt.tup
/-- the four tuples of sides -/
def Ch (l : List Int) : Prop := l = [0, 1] ∨ l = [0] ∨ l = [1] ∨ l = []
def NN (l : List Int) : Prop := ∀ x ∈ l, 0 ≤ x
def BN (l : List (Option Int)) : Prop := ∀ o ∈ l, ∀ x, o = some x → 0 ≤ x
structure Bd (m n : Nat) (lo : List Int) (hi : List (Option Int)) (sd : List (List Int)) : Prop where
  l1 : lo.length = m
  n1 : NN lo
  l2 : hi.length = m
  n2 : BN hi
  l3 : sd.length = n
  n3 : ∀ l ∈ sd, Ch l
def dB (lo : List Int) (hi : List (Option Int)) (sd : List (List Int)) : D := .lst [.lst (lo.map D.int), .lst (hi.map eOpt.e), .lst (sd.map eRow.e)]
section
variable {α : Type} [DecidableEq α] (E : Enc α)
theorem encGet {T : List α} {j : Nat} (d0 : α) (h : j < T.length) : (T.map E.e)[j]? = some (E.e (T.getD j d0)) := by
  rw [List.getElem?_map, List.getElem?_eq_getElem h, List.getD_eq_getElem?_getD, List.getElem?_eq_getElem h]
  rfl
theorem tabE {c : D} {T : List α} {j : Int} (d0 : α) (hc : items c = some (T.map E.e)) (h0 : 0 ≤ j) (h : j < T.length) : oIx c (.int j) = some (E.e (T.getD j.toNat d0)) := by
  have e : j = ((j.toNat : Nat) : Int) := by omega
  rw [e]
  exact ix_nat hc (encGet E d0 (by omega))
theorem gD_mem {T : List α} {j : Nat} {d0 : α} (h : j < T.length) : T.getD j d0 ∈ T := by
  rw [List.getD_eq_getElem?_getD, List.getElem?_eq_getElem h]
  exact List.getElem_mem h
theorem comp_mapE {it : Rho → Option (List D)} {t : D → Rho → Option Rho} {vs : List Nat} {n : Nat} {g : Rho → Option D} {ρ : Rho} (f : Nat → α) (hi : it ρ = some (rangeD n)) (hl : n ≤ 1000)
    (h : ∀ i, i < n → ∃ ρ1, t (.int (i : Nat)) (wipeR ρ vs) = some ρ1 ∧ g ρ1 = some (E.e (f i))) : gComp it t gYes g vs ρ = some (((List.range n).map f).map E.e) := by
  refine (comp_map (fun i => E.e (f i)) hi (by rw [rangeD_len]; exact Nat.le_trans hl (by decide)) fun i d hi hd => ?_).trans ?_
  · rw [rangeD_len] at hi
    cases rangeD_get hd
    exact h i hi
  · rw [rangeD_len, List.map_map]
    rfl
end
theorem mem_range_map {α : Type} {n : Nat} {f : Nat → α} {P : α → Prop} (h : ∀ i, i < n → P (f i)) : ∀ x ∈ (List.range n).map f, P x := fun x hx => by
  obtain ⟨i, hi, rfl⟩ := List.mem_map.mp hx
  exact h i (List.mem_range.mp hi)
theorem oIs_opt {o : Option Int} : oIs true (eOpt.e o) .non = some (.bl o.isSome) := by cases o <;> rfl
theorem oIs_opt0 {o : Option Int} : oIs false (eOpt.e o) .non = some (.bl o.isNone) := by cases o <;> rfl
theorem tab8 {n : Nat} (h : n ≤ 1000) : dMulT (.lst [.int 8]) (.int (n : Nat)) = some (.lst ((List.replicate n (8 : Int)).map D.int)) := by
  refine (mulL_ok h (by simp; exact Nat.le_trans h (by decide))).trans ?_
  congr 2
  induction n with
  | zero => rfl
  | succ n ih => rw [List.replicate_succ, List.replicate_succ, List.flatten_cons, ih (by omega)]; rfl
theorem draw8 {ρ : Rho} {ga gb : Rho → Option D} {ns : List Int} {k n : Nat} {gz : Rho → Option D} (h1 : ga ρ = some (.scr (ns.map D.int))) (h2 : gb ρ = some (.int (k : Nat))) (h3 : gz ρ = some (.lst ((List.replicate n (8 : Int)).map D.int))) (hk : k ≤ 1000) (hn : n ≤ 1000) :
    ∃ row : List Int, gCall g_law_digits (gCons (gCall g_law_cell (gCons ga (gCons gb gNil))) (gCons gz gNil)) ρ = some (.lst (row.map D.int)) ∧ row.length = n ∧ ∀ j, j < n → 0 ≤ row.getD j 0 ∧ row.getD j 0 < 8 := by
  obtain ⟨row, e, h⟩ := draw_ok h1 h2 h3 hk (fun s hs => by rw [(List.mem_replicate.mp hs).2]; omega) (by rw [List.length_replicate]; exact hn)
  rw [List.length_replicate] at h
  refine ⟨row, e, h.1, fun j hj => ?_⟩
  have := h.2 j hj
  rw [show (List.replicate n (8 : Int)).getD j 0 = 8 by rw [List.getD_eq_getElem?_getD, List.getElem?_replicate, if_pos hj]; rfl] at this
  exact this
theorem NN.set {l : List Int} {j : Nat} {x : Int} (h : NN l) (hx : 0 ≤ x) : NN (l.set j x) := fun y hy => by
  rcases List.mem_or_eq_of_mem_set hy with z | z
  · exact h y z
  · rw [z]; exact hx
theorem BN.set {l : List (Option Int)} {j : Nat} {o : Option Int} (h : BN l) (hx : ∀ x, o = some x → 0 ≤ x) : BN (l.set j o) := fun y hy => by
  rcases List.mem_or_eq_of_mem_set hy with z | z
  · exact h y z
  · rw [z]; exact hx
theorem opt_set {l : List (Option Int)} {j : Nat} {o : Option Int} : (l.map eOpt.e).set j (eOpt.e o) = (l.set j o).map eOpt.e := by rw [List.map_set]
end Lw

namespace DL
open PySem L2
def eBool : Enc Bool where
  e b := .bl b
  p b := .bool b
  k := 0
  h b := ⟨by simp only [pyd], by simp only [PyData.canLay0], by simp only [PyData.depth]; omega⟩
  q a b := by simp only [PyData.eqv]; cases a <;> cases b <;> rfl
theorem isNon_items {d : D} {xs : List D} (h : items d = some xs) : isNon d = false := by cases d <;> first | rfl | cases h
theorem oIs_items {d : D} {xs : List D} (h : items d = some xs) : oIs false d .non = some (.bl false) := by
  show some (D.bl (if false = true then !isNon d else isNon d)) = _
  rw [isNon_items h]
  rfl
section
variable {α : Type} [DecidableEq α] (E : Enc α)
theorem inD_enc {neg : Bool} {a : α} {c : D} {T : List α} (hc : items c = some (T.map E.e)) (hk : E.k ≤ 60) : oInD neg (E.e a) c = some (.bl (if neg = true then !(T.any fun b => decide (b = a)) else T.any fun b => decide (b = a))) := by
  unfold oInD
  rw [(E.h a).py, Option.bind_some, hc, Option.bind_some, E.pyds, Option.bind_some, if_pos ⟨shaped_of (E.h a) (by omega), shaped_of (E.lst.h T) (by show E.k + 1 ≤ 64; omega)⟩]
  have e : ((T.map E.p).any fun z => PyData.eqv z (E.p a)) = T.any fun b => decide (b = a) := by
    rw [List.any_map]
    congr 1
    funext b
    exact E.q b a
  rw [e]
theorem in_tup {neg : Bool} {a : List α} {c : D} {T : List (List α)} (hc : items c = some (T.map E.tup.e)) (hk : E.k ≤ 50) : dIn neg (E.tup.e a) c = some (.bl (if neg = true then !(T.any fun b => decide (b = a)) else T.any fun b => decide (b = a))) := by
  unfold dIn
  have e : oIn neg (E.tup.e a) c = none := rfl
  rw [e]
  exact inD_enc E.tup hc (by show E.k + 1 ≤ 60; omega)
end
theorem flats_int : ∀ T : List Int, flats (T.map D.int) = some (T.map V.int)
  | [] => rfl
  | a :: T => by
    show (some (V.int a)).bind (fun y => (flats (T.map D.int)).map fun ys => y :: ys) = _
    rw [Option.bind_some, flats_int T]
    rfl
theorem in_int {neg : Bool} {a : Int} {c : D} {T : List Int} (hc : items c = some (T.map D.int)) : dIn neg (.int a) c = some (.bl (if neg = true then !(T.any fun b => b == a) else T.any fun b => b == a)) := by
  unfold dIn oIn
  show (((some (V.int a)).bind fun v => (items c).bind fun ds => (flats ds).bind fun vs => some (D.bl (if neg then !inV v vs else inV v vs))).or _) = _
  rw [Option.bind_some, hc, Option.bind_some, flats_int, Option.bind_some]
  have e : inV (V.int a) (T.map V.int) = T.any fun b => b == a := by
    unfold inV
    rw [List.any_map]
    rfl
  rw [e]
  rfl
section
variable {a b c : SG} {g g1 g2 g3 : Rho → Option D} {gs : Rho → Option (List D)} {ρ : Rho} {P : Res → Prop} {f f' : D → D → Option D}
theorem chain_t {x y z w : D} (h1 : g1 ρ = some x) (h2 : g2 ρ = some y) (h3 : f x y = some (.bl true)) (h4 : g3 ρ = some w) (h5 : f' y w = some z) : gChain f f' g1 g2 g3 ρ = some z := by
  unfold gChain
  rw [h1, Option.bind_some, h2, Option.bind_some, h3]
  show (g3 ρ).bind _ = _
  rw [h4]
  exact h5
theorem ok_setFld {n fn : Str} {i : Nat} {x : Addr} {fs : List (Str × D)} {d : D} (h : ρ[i]? = some (.ow (.ins x n fs))) (hl : fs.length < 900) (hg : g ρ = some d) (q : Ok c (ρ.set i (.ow (.ins x n (putD fn d fs)))) P) : Ok (gSeq (gSetFld n fn i g) c) ρ P := by
  refine ok_seq ⟨.nx (ρ.set i (.ow (.ins x n (putD fn d fs)))), ?_, q⟩
  unfold gSetFld
  rw [h]
  dsimp only
  rw [if_pos ⟨rfl, hl⟩, hg]
  rfl
theorem init_dn {name : Str} {n N : Nat} {x : Addr} {ds : List D} {F : List (Str × D)} (hl : ds.length = n) (h : Ok b (.ow (.ins x name []) :: (ds.map B.sh ++ List.replicate (N - (n + 1)) .un)) (fun r => ∃ ρ, r = .nx (.ow (.ins x name F) :: ρ))) : gInit name n N b x ds = some F := by
  obtain ⟨r, e, ρ, rfl⟩ := h
  unfold gInit
  rw [if_pos hl, e]
  show (if name = name ∧ x = x then some F else none) = _
  rw [if_pos ⟨rfl, rfl⟩]
theorem make_ok {name : Str} {gi : Addr → List D → Option (List (Str × D))} {ds : List D} {F : List (Str × D)} (h1 : gs ρ = some ds) (h2 : ∀ x, gi x ds = some F) : gMake name (gUni gi) gs ρ = some (.ins name F) := by
  unfold gMake
  rw [h1, Option.bind_some, gUni_of h2]
  rfl
theorem app2_ok {gk : Rho → Option (List D)} {xs ys : List D} (h1 : gs ρ = some xs) (h2 : gk ρ = some ys) : gApp2 gs gk ρ = some (xs ++ ys) := by
  unfold gApp2
  rw [h1, Option.bind_some, h2]
  rfl
end
theorem comp_to {g : Rho → Option D} {ρ : Rho} {it : Rho → Option (List D)} {t : D → Rho → Option Rho} {vs : List Nat} {ds out : List D} (f : Nat → D) (hi : it ρ = some ds) (hl : ds.length ≤ big) (ho : (List.range ds.length).map f = out)
    (h : ∀ i d, i < ds.length → ds[i]? = some d → ∃ ρ1, t d (wipeR ρ vs) = some ρ1 ∧ g ρ1 = some (f i)) : gComp it t gYes g vs ρ = some out := by
  rw [comp_map f hi hl h, ho]
theorem rgetD {α β : Type} (l : List α) (d0 : α) (f : α → β) : (List.range l.length).map (fun i => f (l.getD i d0)) = l.map f := by
  refine List.ext_getElem (by simp) fun i h1 h2 => ?_
  rw [List.getElem_map, List.getElem_map, List.getElem_range]
  have hl : i < l.length := by simpa using h2
  rw [List.getD_eq_getElem?_getD, List.getElem?_eq_getElem hl]
  rfl
end DL
namespace Lw
open PySem PySem.Spec PyProof.Rows L2 DL
def Hd {α : Type} (R : List D) (l : List α) (f : α → List D) : Prop := R.length = l.length ∧ ∀ (k : Nat) (a : α), l[k]? = some a → ∃ r, R[k]? = some r ∧ items r = some (f a)
theorem joins_ok {m a b : Int} (g : Gd m a b) : g_joins_mills [.int m, .tup [.int a, .int b]] = some (.bl true) := by
  refine Dn.eq (ok_dn rfl ?_)
  have one : ∀ z : Int, 0 ≤ z → z < m → ∀ ρ : Rho, ρ[0]? = some (.sh (.int m)) → ρ[3]? = some (.sh (.int z)) → gAnd (gCall g_is_whole (gCons (gV 3) gNil)) (gChain dLe dLt (gC (.int 0)) (gV 3) (gV 0)) ρ = some (.bl true) := fun z h0 h1 ρ e0 e3 =>
    and_t (call_ok (cons_ok (v_ok e3) rfl) (is_whole_int z)) (chain_t c_ok (v_ok e3) (by rw [show dLe (.int 0) (.int z) = some (.bl (decide (0 ≤ z))) from rfl, decide_eq_true h0]) (v_ok e0) (by rw [show dLt (.int z) (.int m) = some (.bl (decide (z < m))) from rfl, decide_eq_true h1]))
  refine ok_setOw (ds := [.bl true, .bl true]) (comp_to (ds := [.int a, .int b]) (fun _ => .bl true) (seqOf_ok (v_ok rfl) rfl) (by show 2 ≤ big; decide) rfl fun i d hi hd => ⟨_, rfl, ?_⟩) ?_
  · have hi2 : i < 2 := hi
    rcases (show i = 0 ∨ i = 1 by omega) with rfl | rfl
    · cases hd
      exact one a g.1 g.2.1 _ rfl rfl
    · cases hd
      exact one b g.2.2.1 g.2.2.2.1 _ rfl rfl
  refine ok_freeze rfl (ok_ret (and_t (op_ok (v_ok rfl) (ofL_ok (len1_ok (cons_ok rfl (cons_ok rfl rfl)) (by show 2 ≤ big; decide))) (eBool.lst.eq (by decide) [true, true] [true, true])) (op_ok (op_ok rfl rfl rfl) (op_ok rfl rfl rfl) (oNe_int a b))) ⟨_, rfl, ?_⟩)
  rw [decide_eq_false g.2.2.2.2]
  rfl
abbrev pD (p : Int × Int) : List D := [.int p.1, .int p.2]
theorem put_sluices {a b : D} : putD "sluices" b [(("mills" : Str), a)] = [(("mills" : Str), a), (("sluices" : Str), b)] := by
  unfold putD
  rw [if_neg (by decide +kernel)]
  rfl
theorem valley_ok {m : Nat} {ps : List (Int × Int)} {d : D} {R : List D} (hp : ps.length ≤ 48) (vp : VP m ps) (hi : items d = some R) (hR : Hd R ps pD) (x : Addr) : g_Valley_init x [.int (m : Nat), d] = some [(("mills" : Str), .int (m : Nat)), (("sluices" : Str), .tup (ps.map ePair.e))] := by
  refine init_dn rfl ?_
  refine ok_set (d := .tup (ps.map ePair.e)) (tupOf_ok (ofL_ok (comp_to (ds := R) (fun i => ePair.e (ps.getD i (0, 0))) (seqOf_ok (v_ok rfl) hi) (by rw [hR.1]; exact Nat.le_trans hp (by decide)) (by rw [hR.1, rgetD]) fun i e hi he => ⟨_, rfl, ?_⟩)) rfl) ?_
  · rw [hR.1] at hi
    obtain ⟨r, h1, h2⟩ := hR.2 i _ (List.getElem?_eq_getElem hi)
    rw [he] at h1
    cases h1
    rw [pgetD hi]
    exact tupOf_ok (v_ok rfl) h2
  refine ok_for (ds := enumD 0 (ps.map ePair.e)) (fun i ρ => ∃ y z w : B, ρ = [.ow (.ins x "Valley" []), .sh (.int (m : Nat)), .sh d, .sh (.tup (ps.map ePair.e)), y, z, w]) (enum_ok (v_ok rfl) rfl) ⟨.un, .un, .un, rfl⟩ (fun i e ρ hi he => ?_) fun ρ => ?_
  · rintro ⟨y, z, w, rfl⟩
    rw [enumD_len, List.length_map] at hi
    obtain ⟨e, he', rfl⟩ := enum_get he
    rw [pair_get hi] at he'
    cases he'
    refine ⟨_, rfl, ok_if _ (notT_ok (gB_ok (call_ok (cons_ok rfl (cons_ok rfl rfl)) (joins_ok (vp _ (List.getElem_mem hi)))))) (fun h => by cases h) fun _ => ok_next (ok_next ⟨_, rfl, _, _, _, rfl⟩)⟩
  · rintro ⟨y, z, w, rfl⟩
    exact ok_setFld rfl (by decide) rfl (ok_setFld rfl (by show 1 < 900; decide) rfl (ok_next ⟨_, by rw [show putD "mills" (D.int (m : Nat)) [] = [(("mills" : Str), D.int (m : Nat))] from rfl, put_sluices]; rfl⟩))
theorem fault_ok (n : Nat) (hn : n ≤ 100) : g_first_fault [.int (n : Nat), .lst (List.replicate n (.bl true))] = some .non := by
  refine Dn.eq (ok_dn rfl ?_)
  refine ok_for (ds := rangeD n) (fun i ρ => ∃ x : B, ρ = [.sh (.int (n : Nat)), .sh (.lst (List.replicate n (.bl true))), x]) (range_ok (call_ok (cons_ok rfl (cons_ok (len_ok (v_ok rfl) rfl) rfl)) (max2.trans (by rw [List.length_replicate]; simp))) (by omega)) ⟨.un, rfl⟩ (fun i d ρ hi hd => ?_) fun ρ => ?_
  · rintro ⟨x, rfl⟩
    rw [rangeD_len] at hi
    cases rangeD_get hd
    have hx : oIx (.lst (List.replicate n (.bl true))) (.int (i : Nat)) = some (.bl true) := ix_nat rfl (by rw [List.getElem?_replicate, if_pos hi])
    refine ⟨_, rfl, ok_if _ (orT_ok (by (repeat' (first | with_reducible exact c_ok | with_reducible exact nil_ok | exact v_ok rfl | exact bor_ok rfl | with_reducible apply op_ok | with_reducible apply un_ok | with_reducible apply call_ok | with_reducible apply cons_ok | with_reducible apply gB_ok | with_reducible apply ofL_ok | with_reducible apply len1_okI | with_reducible apply tup_ok | (show List.length (List.cons _ _) ≤ big; simp only [List.length_cons, List.length_nil]; decide) | (show List.length List.nil ≤ big; simp only [List.length_nil]; decide) | with_reducible exact DL.add_int | with_reducible exact DL.sub_int | with_reducible exact DL.lt_int | with_reducible exact DL.le_int | with_reducible exact DL.gt_int | with_reducible exact DL.ge_int | with_reducible exact oEq_int _ _ | with_reducible exact oNe_int _ _ | with_reducible exact int1 | with_reducible exact intb | with_reducible exact abs1 | with_reducible exact min2 | with_reducible exact max2 | with_reducible exact len_lst | with_reducible exact len_tup | with_reducible exact len_scr | with_reducible exact pow1018 | with_reducible exact pow1020 | with_reducible exact mod_ok (by omega) | with_reducible exact fdiv_ok (by omega) | with_reducible exact mul_ok (by unfold CMul; omega) | with_reducible assumption))) (orT_ok (gB_ok (op_ok rfl (len_ok (v_ok rfl) rfl) ge_int)) (notT_ok (gB_ok (op_ok rfl rfl hx))))) (fun h => ?_) fun _ => ok_next (ok_next ⟨_, rfl, _, rfl⟩)⟩
    rw [List.length_replicate] at h
    simp at h
    omega
  · rintro ⟨x, rfl⟩
    exact ok_ret rfl ⟨_, rfl, rfl⟩
theorem rep_true (n : Nat) : (List.range n).map (fun _ => D.bl true) = List.replicate n (.bl true) := by
  induction n with
  | zero => rfl
  | succ n ih => rw [List.range_succ, List.map_append, ih, List.replicate_succ']; rfl
theorem needs_ok {m : Nat} {ps : List (Int × Int)} {lo : List Int} {d : D} (hm : m ≤ 24) (hi : items d = some (lo.map D.int)) (hl : lo.length = m) (hn : NN lo) : g_checked_needs [dV m ps, d] = some (.tup (lo.map D.int)) := by
  refine Dn.eq (ok_dn rfl ?_)
  refine ok_if _ (gB_ok (op_ok (v_ok rfl) rfl (oIs_items hi))) (fun h => by cases h) fun _ => ok_next ?_
  refine ok_set (d := .non) (call_ok (cons_ok (fldC (v_ok rfl) lk_mills) (cons_ok (ofL_ok (comp_to (ds := lo.map D.int) (fun _ => .bl true) (seqOf_ok (v_ok rfl) hi) (by rw [List.length_map, hl]; exact Nat.le_trans hm (by decide)) (by rw [List.length_map, hl, rep_true]) fun i e hi he => ⟨_, rfl, ?_⟩)) rfl)) (fault_ok m (by omega))) ?_
  · rw [List.length_map] at hi
    rw [getD_get hi] at he
    cases he
    exact call_ok (cons_ok (v_ok rfl) rfl) (is_count_int _ (hn _ (getD_mem hi)))
  exact ok_if _ (gB_ok (op_ok (v_ok rfl) rfl rfl)) (fun h => by cases h) fun _ => ok_next (ok_ret (tupOf_ok (v_ok rfl) hi) ⟨_, rfl, rfl⟩)
theorem limits_ok {m : Nat} {ps : List (Int × Int)} {hs : List (Option Int)} {d : D} (hm : m ≤ 24) (hi : items d = some (hs.map eOpt.e)) (hl : hs.length = m) (hn : BN hs) : g_checked_limits [dV m ps, d] = some (.tup (hs.map eOpt.e)) := by
  refine Dn.eq (ok_dn rfl ?_)
  refine ok_if _ (gB_ok (op_ok (v_ok rfl) rfl (oIs_items hi))) (fun h => by cases h) fun _ => ok_next ?_
  refine ok_set (d := .non) (call_ok (cons_ok (fldC (v_ok rfl) lk_mills) (cons_ok (ofL_ok (comp_to (ds := hs.map eOpt.e) (fun _ => .bl true) (seqOf_ok (v_ok rfl) hi) (by rw [List.length_map, hl]; exact Nat.le_trans hm (by decide)) (by rw [List.length_map, hl, rep_true]) fun i e hi he => ⟨_, rfl, ?_⟩)) rfl)) (fault_ok m (by omega))) ?_
  · rw [List.length_map] at hi
    rw [encGet eOpt none hi] at he
    have hmem := gD_mem (d0 := none) hi
    generalize hs.getD i none = o at he hmem
    cases o with
    | none =>
      cases he
      exact or_t (op_ok (v_ok rfl) rfl rfl)
    | some z =>
      cases he
      exact or_f (op_ok (v_ok rfl) rfl rfl) (call_ok (cons_ok (v_ok rfl) rfl) (is_count_int _ (hn _ hmem z rfl)))
  exact ok_if _ (gB_ok (op_ok (v_ok rfl) rfl rfl)) (fun h => by cases h) fun _ => ok_next (ok_ret (tupOf_ok (v_ok rfl) hi) ⟨_, rfl, rfl⟩)
theorem bools_rep : ∀ n : Nat, bools (List.replicate n (.bl true)) = some (List.replicate n true)
  | 0 => rfl
  | n + 1 => by
    rw [List.replicate_succ]
    show (bools (List.replicate n (.bl true))).bind _ = _
    rw [bools_rep n]
    rfl
theorem are_sides_ok {l : List Int} (h : Ch l) : g_are_sides [eRow.e l] = some (.bl true) := by
  refine Dn.eq (ok_dn rfl ?_)
  have hl : l.length ≤ 2 := by rcases h with rfl | rfl | rfl | rfl <;> decide
  refine ok_ret (and_t (call_ok (cons_ok (ofL_ok (comp_to (ds := l.map D.int) (fun _ => .bl true) (seqOf_ok (v_ok rfl) rfl) (by rw [List.length_map]; exact Nat.le_trans hl (by decide)) (by rw [List.length_map, rep_true]) fun i e hi he => ⟨_, rfl, ?_⟩)) rfl) ?_)
    (op_ok (v_ok rfl) (tup_ok (cons_ok c_ok (cons_ok (tup_ok rfl (by decide)) (cons_ok (tup_ok rfl (by decide)) (cons_ok (tup_ok rfl (by decide)) rfl)))) (by show 4 ≤ big; decide)) (in_tup eInt (T := [[0, 1], [0], [1], []]) rfl (by decide)))) ⟨_, rfl, ?_⟩
  · rw [List.length_map] at hi
    rw [getD_get hi] at he
    cases he
    exact call_ok (cons_ok (v_ok rfl) rfl) (is_whole_int _)
  · show (bools _).bind _ = _
    rw [bools_rep]
    show some (D.bl ((List.replicate l.length true).all id)) = _
    simp
  · rcases h with rfl | rfl | rfl | rfl <;> rfl
theorem vlen_ok {m : Nat} {ps : List (Int × Int)} {ρ : Rho} {g : Rho → Option D} (hp : ps.length ≤ 48) (h : g ρ = some (dV m ps)) : gUn (oLenOwn "Valley" g_Valley_len) g ρ = some (.int (ps.length : Nat)) := by
  have e : g_Valley_len [dV m ps] = some (.int (ps.length : Nat)) := by
    refine Dn.eq (ok_dn rfl (ok_ret (len_ok (fldC (v_ok rfl) lk_sluices) rfl) ⟨_, rfl, ?_⟩))
    rw [List.length_map]
  refine un_ok h ?_
  unfold oLenOwn dV
  unfold dV at e
  dsimp only
  rw [if_pos rfl, e]
  show (if (0 : Int) ≤ (ps.length : Int) ∧ (ps.length : Int) ≤ 1000000 then some (D.int (ps.length : Int)) else none) = _
  rw [if_pos ⟨by omega, by omega⟩]
theorem sides_ok {m : Nat} {ps : List (Int × Int)} {sd : List (List Int)} {d : D} {R : List D} (hp : ps.length ≤ 48) (hi : items d = some R) (hR : Hd R sd (fun l => l.map D.int)) (hl : sd.length = ps.length) (hn : ∀ l ∈ sd, Ch l) : g_checked_sides [dV m ps, d] = some (.tup (sd.map eRow.e)) := by
  refine Dn.eq (ok_dn rfl ?_)
  refine ok_if _ (gB_ok (op_ok (v_ok rfl) rfl (oIs_items hi))) (fun h => by cases h) fun _ => ok_next ?_
  refine ok_set (d := .tup (sd.map eRow.e)) (tupOf_ok (ofL_ok (comp_to (ds := R) (fun i => eRow.e (sd.getD i [])) (seqOf_ok (v_ok rfl) hi) (by rw [hR.1, hl]; exact Nat.le_trans hp (by decide)) (by rw [hR.1, rgetD]) fun i e hi he => ⟨_, rfl, ?_⟩)) rfl) ?_
  · rw [hR.1] at hi
    obtain ⟨r, h1, h2⟩ := hR.2 i _ (List.getElem?_eq_getElem hi)
    rw [he] at h1
    cases h1
    have e : sd.getD i [] = sd[i] := by rw [List.getD_eq_getElem?_getD, List.getElem?_eq_getElem hi]; rfl
    rw [e]
    exact tupOf_ok (v_ok rfl) h2
  refine ok_set (d := .non) (call_ok (cons_ok (vlen_ok hp (v_ok rfl)) (cons_ok (ofL_ok (comp_to (ds := sd.map eRow.e) (fun _ => .bl true) (seqOf_ok (v_ok rfl) rfl) (by rw [List.length_map, hl]; exact Nat.le_trans hp (by decide)) (by rw [List.length_map, hl, rep_true]) fun i e hi he => ⟨_, rfl, ?_⟩)) rfl)) (fault_ok ps.length (by omega))) ?_
  · rw [List.length_map] at hi
    rw [encGet eRow [] hi] at he
    cases he
    exact call_ok (cons_ok (v_ok rfl) rfl) (are_sides_ok (hn _ (gD_mem hi)))
  exact ok_if _ (gB_ok (op_ok (v_ok rfl) rfl rfl)) (fun h => by cases h) fun _ => ok_next (ok_ret rfl ⟨_, rfl, rfl⟩)
end Lw

namespace Lw
open PySem PySem.Spec PyProof.Rows L2 DL
/-- a season -/
def dS (m : Nat) (ps : List (Int × Int)) (lo : List Int) (hs : List (Option Int)) (sd : List (List Int)) : D :=
  .ins "Season" [(("valley" : Str), dV m ps), (("needs" : Str), .tup (lo.map D.int)), (("limits" : Str), .tup (hs.map eOpt.e)), (("sides" : Str), .tup (sd.map eRow.e))]
section
variable {a b c d : D}
theorem nV : (("needs" : Str) == "valley") = false := by decide +kernel
theorem lV : (("limits" : Str) == "valley") = false := by decide +kernel
theorem lN : (("limits" : Str) == "needs") = false := by decide +kernel
theorem sV : (("sides" : Str) == "valley") = false := by decide +kernel
theorem sN : (("sides" : Str) == "needs") = false := by decide +kernel
theorem sL : (("sides" : Str) == "limits") = false := by decide +kernel
abbrev fS (a b c d : D) : List (Str × D) := [(("valley" : Str), a), (("needs" : Str), b), (("limits" : Str), c), (("sides" : Str), d)]
theorem lk_valley : (fS a b c d).lookup ("valley" : Str) = some a := by rw [List.lookup_cons]; rfl
theorem lk_needs : (fS a b c d).lookup ("needs" : Str) = some b := by rw [List.lookup_cons, nV]; dsimp only; rw [List.lookup_cons]; rfl
theorem lk_limits : (fS a b c d).lookup ("limits" : Str) = some c := by rw [List.lookup_cons, lV]; dsimp only; rw [List.lookup_cons, lN]; dsimp only; rw [List.lookup_cons]; rfl
theorem lk_sides : (fS a b c d).lookup ("sides" : Str) = some d := by rw [List.lookup_cons, sV]; dsimp only; rw [List.lookup_cons, sN]; dsimp only; rw [List.lookup_cons, sL]; dsimp only; rw [List.lookup_cons]; rfl
theorem neq {x y : Str} (h : (y == x) = false) : ¬ x = y := fun e => by
  subst e
  simp at h
theorem putS : putD "sides" d (putD "limits" c (putD "needs" b (putD "valley" a []))) = fS a b c d := by
  have e1 : putD "valley" a [] = [(("valley" : Str), a)] := rfl
  have e2 : putD "needs" b [(("valley" : Str), a)] = [(("valley" : Str), a), (("needs" : Str), b)] := by
    unfold putD
    rw [if_neg (neq nV)]
    rfl
  have e3 : putD "limits" c [(("valley" : Str), a), (("needs" : Str), b)] = [(("valley" : Str), a), (("needs" : Str), b), (("limits" : Str), c)] := by
    unfold putD
    rw [if_neg (neq lV)]
    unfold putD
    rw [if_neg (neq lN)]
    rfl
  have e4 : putD "sides" d [(("valley" : Str), a), (("needs" : Str), b), (("limits" : Str), c)] = fS a b c d := by
    unfold putD
    rw [if_neg (neq sV)]
    unfold putD
    rw [if_neg (neq sN)]
    unfold putD
    rw [if_neg (neq sL)]
    rfl
  rw [e1, e2, e3, e4]
end
theorem putLen (f : Str) (d : D) (l : List (Str × D)) : (putD f d l).length ≤ l.length + 1 := by
  induction l with
  | nil => exact Nat.le_refl _
  | cons q l ih =>
    unfold putD
    split
    · simp
    · rw [List.length_cons, List.length_cons]; omega
theorem sinit_ok {m : Nat} {ps : List (Int × Int)} {lo : List Int} {hs : List (Option Int)} {sd : List (List Int)} {d1 d2 d3 : D} {R : List D} (hm : m ≤ 24) (hp : ps.length ≤ 48) (bd : Bd m ps.length lo hs sd)
    (h1 : items d1 = some (lo.map D.int)) (h2 : items d2 = some (hs.map eOpt.e)) (h3 : items d3 = some R) (hR : Hd R sd (fun l => l.map D.int)) (x : Addr) :
    g_Season_init x [dV m ps, d1, d2, d3] = some (fS (dV m ps) (.tup (lo.map D.int)) (.tup (hs.map eOpt.e)) (.tup (sd.map eRow.e))) := by
  refine init_dn rfl ?_
  refine ok_setFld rfl (by decide) rfl ?_
  refine ok_setFld rfl (by show 1 < 900; decide) (call_ok (cons_ok rfl (cons_ok rfl rfl)) (needs_ok hm h1 bd.l1 bd.n1)) ?_
  refine ok_setFld rfl (by have h1 := putLen "needs" (.tup (lo.map D.int)) (putD "valley" (dV m ps) []); have h2 := putLen "valley" (dV m ps) []; simp only [List.length_nil] at h2; omega) (call_ok (cons_ok rfl (cons_ok rfl rfl)) (limits_ok hm h2 bd.l2 bd.n2)) ?_
  refine ok_setFld rfl ?_ (call_ok (cons_ok rfl (cons_ok rfl rfl)) (sides_ok hp h3 hR bd.l3 bd.n3)) (ok_next ⟨_, by rw [putS]; rfl⟩)
  have := putLen "limits" (.tup (hs.map eOpt.e)) (putD "needs" (.tup (lo.map D.int)) (putD "valley" (dV m ps) []))
  have h2 := putLen "needs" (.tup (lo.map D.int)) (putD "valley" (dV m ps) [])
  have h3 := putLen "valley" (dV m ps) []
  simp only [List.length_nil] at h3
  omega
/-! ### == -/
theorem okR_dV {n : Str} {m : Nat} {ps : List (Int × Int)} : okR n ["Season", "Valley"] (dV m ps) = true := by
  show (("Valley" : Str) == n || (["Season", "Valley"] : List Str).contains "Valley") = true
  simp
theorem okR_dS {n : Str} {m : Nat} {ps : List (Int × Int)} {lo : List Int} {hs : List (Option Int)} {sd : List (List Int)} : okR n ["Season", "Valley"] (dS m ps lo hs sd) = true := by
  show (("Season" : Str) == n || (["Season", "Valley"] : List Str).contains "Season") = true
  simp
theorem isi_dV {m : Nat} {ps : List (Int × Int)} : oIsiC "Valley" ["Season", "Valley"] (dV m ps) = some (.bl true) := by
  unfold oIsiC
  rw [if_pos okR_dV]
  show some (D.bl (("Valley" : Str) == "Valley")) = _
  simp
theorem isi_dS {m : Nat} {ps : List (Int × Int)} {lo : List Int} {hs : List (Option Int)} {sd : List (List Int)} : oIsiC "Season" ["Season", "Valley"] (dS m ps lo hs sd) = some (.bl true) := by
  unfold oIsiC
  rw [if_pos okR_dS]
  show some (D.bl (("Season" : Str) == "Season")) = _
  simp
/-! ### the same values -/
end Lw

namespace DL
open L2
theorem meth_ok {n m : PySem.Str} {gf : List D → Option D} {g : Rho → Option D} {gs : Rho → Option (List D)} {ρ : Rho} {fs : List (PySem.Str × D)} {ds : List D} {d : D} (h : g ρ = some (.ins n fs)) (hl : fs.lookup m = none) (hs : gs ρ = some ds) (hf : gf (.ins n fs :: ds) = some d) : gMeth n m gf g gs ρ = some d := by
  unfold gMeth
  rw [h]
  show (if n = n ∧ (fs.lookup m).isNone = true then (gs ρ).bind fun ds => gf (.ins n fs :: ds) else none) = _
  rw [if_pos ⟨rfl, by rw [hl]; rfl⟩, hs]
  exact hf
theorem prop_ok {n : PySem.Str} {gf : List D → Option D} {g : Rho → Option D} {ρ : Rho} {fs : List (PySem.Str × D)} {d : D} (h : g ρ = some (.ins n fs)) (hf : gf [.ins n fs] = some d) : gProp n gf g ρ = some d := by
  unfold gProp
  rw [h]
  show (if n = n then gf [.ins n fs] else none) = _
  rw [if_pos rfl]
  exact hf
/-- the places that c lets -/
def fl (n : Nat) (c : Nat → Bool) : List Int := ((List.range n).filter c).map fun i => ((i : Nat) : Int)
theorem fl_len (n : Nat) (c : Nat → Bool) : (fl n c).length ≤ n := by
  unfold fl
  rw [List.length_map]
  exact Nat.le_trans (List.length_filter_le _ _) (by rw [List.length_range]; exact Nat.le_refl _)
theorem fl_succ (n : Nat) (c : Nat → Bool) : fl (n + 1) c = if c n = true then fl n c ++ [((n : Nat) : Int)] else fl n c := by
  unfold fl
  rw [List.range_succ, List.filter_append, List.map_append]
  cases h : c n with
  | true => simp [h]
  | false => simp [h]
theorem fl_cong {n : Nat} {c c' : Nat → Bool} (h : ∀ i, i < n → c i = c' i) : fl n c = fl n c' := by
  unfold fl
  rw [List.filter_congr fun i hi => h i (List.mem_range.mp hi)]
theorem comp_fl {it : Rho → Option (List D)} {t : D → Rho → Option Rho} {k : Rho → Option Bool} {g : Rho → Option D} {ρ : Rho} {vs : List Nat} {ds : List D} {n : Nat} (c : Nat → Bool) (hi : it ρ = some ds) (hn : ds.length = n) (hl : n ≤ 1000)
    (h : ∀ i d, i < n → ds[i]? = some d → ∃ ρ1, t d (wipeR ρ vs) = some ρ1 ∧ k ρ1 = some (c i) ∧ g ρ1 = some (.int (i : Nat))) : gComp it t k g vs ρ = some ((fl n c).map D.int) := by
  rw [comp_of c (fun i => D.int (i : Nat)) hi (by rw [hn]; exact Nat.le_trans hl (by decide)) fun i d hi hd => by
    obtain ⟨ρ1, h1, h2, h3⟩ := h i d (by omega) hd
    exact ⟨ρ1, h1, h2, fun _ => h3⟩]
  unfold fl
  rw [hn, List.map_map]
  rfl
end DL
namespace Lw
open PySem PySem.Spec PyProof.Rows L2 DL
theorem lk_none {a b c d : D} {x : Str} (h1 : (x == ("valley" : Str)) = false) (h2 : (x == ("needs" : Str)) = false) (h3 : (x == ("limits" : Str)) = false) (h4 : (x == ("sides" : Str)) = false) : (fS a b c d).lookup x = none := by
  rw [List.lookup_cons, h1]; dsimp only; rw [List.lookup_cons, h2]; dsimp only; rw [List.lookup_cons, h3]; dsimp only; rw [List.lookup_cons, h4]; rfl
section
variable {m : Nat} {ps : List (Int × Int)} {lo : List Int} {hs : List (Option Int)} {sd : List (List Int)} {st : List Int} {n : Nat}
theorem pairs_rows : ps.map ePair.e = (ps.map fun p => [p.1, p.2]).map eRow.e := by
  rw [List.map_map]
  rfl
theorem ch_len {l : List Int} (h : Ch l) : l.length ≤ 1000 := by rcases h with rfl | rfl | rfl | rfl <;> decide
/-! ### out, strayed -/
def limB (o : Option Int) (c : Int) : Bool := match o with
  | none => false
  | some x => decide (x < c)
theorem lim_ok {gl gc : Rho → Option D} {ρ : Rho} {o : Option Int} {c : Int} (h1 : gl ρ = some (eOpt.e o)) (h2 : gc ρ = some (.int c)) : gAndT (gB (gOp (oIs true) gl (gC .non))) (gB (gOp dGt gc gl)) ρ = some (limB o c) := by
  cases o with
  | none => exact andT_f (gB_ok (op_ok h1 rfl rfl))
  | some x => exact andT_t (gB_ok (op_ok h1 rfl rfl)) (gB_ok (op_ok h2 h1 gt_int))
theorem len0 {ns : List Int} {ρ : Rho} {g : Rho → Option D} (h : g ρ = some (.tup (ns.map D.int)) ∨ g ρ = some (.lst (ns.map D.int))) : gOp oEq (gUn oLen g) (gC (.int 0)) ρ = some (.bl (decide (ns.length = 0))) := by
  have e : decide (((ns.map D.int).length : Nat) = (0 : Int)) = decide (ns.length = 0) := by
    rw [List.length_map]
    by_cases h : ns.length = 0 <;> simp [h]
  rcases h with h | h
  · exact op_ok (len_ok h rfl) rfl ((oEq_int _ _).trans (by rw [e]))
  · exact op_ok (len_ok h rfl) rfl ((oEq_int _ _).trans (by rw [e]))
end
end Lw

namespace DL
open L2
theorem cut_from (xs : List D) (k : Nat) : cutD xs (some (k : Int)) none = xs.drop k := by
  unfold cutD
  rw [HT.sIx_nat, HT.sIx_none]
  by_cases h : k ≤ xs.length
  · rw [Nat.min_eq_left h, List.take_of_length_le (by rw [List.length_drop]; exact Nat.le_refl _)]
  · rw [Nat.min_eq_right (by omega), List.drop_of_length_le (Nat.le_refl _), List.drop_of_length_le (by omega)]
    simp
theorem cut_to (xs : List D) (k : Nat) : cutD xs none (some (k : Int)) = xs.take k := by
  unfold cutD
  rw [HT.sIx_nat, HT.sIx_none]
  simp only [List.drop_zero, Nat.sub_zero]
  by_cases h : k ≤ xs.length
  · rw [Nat.min_eq_left h]
  · rw [Nat.min_eq_right (by omega), List.take_of_length_le (Nat.le_refl _), List.take_of_length_le (by omega)]
section
variable {a g : Rho → Option D} {ρ : Rho} {xs : List D} {k : Nat}
theorem part_ok {i : Int} (h : g ρ = some (.int i)) : gPart g ρ = some (some i) := by
  unfold gPart
  rw [h]
  rfl
theorem slT_from (h : a ρ = some (.tup xs)) (hg : g ρ = some (.int (k : Nat))) : gSl a (gPart g) gNoPart ρ = some (.tup (xs.drop k)) := by
  unfold gSl
  rw [h, Option.bind_some, part_ok hg, Option.bind_some]
  show some (D.tup (cutD xs (some (k : Int)) none)) = _
  rw [cut_from]
theorem slT_to (h : a ρ = some (.tup xs)) (hg : g ρ = some (.int (k : Nat))) : gSl a gNoPart (gPart g) ρ = some (.tup (xs.take k)) := by
  unfold gSl
  rw [h, Option.bind_some]
  show (gPart g ρ).bind _ = _
  rw [part_ok hg]
  show some (D.tup (cutD xs none (some (k : Int)))) = _
  rw [cut_to]
theorem slL_from (h : a ρ = some (.lst xs)) (hg : g ρ = some (.int (k : Nat))) : gSl a (gPart g) gNoPart ρ = some (.lst (xs.drop k)) := by
  unfold gSl
  rw [h, Option.bind_some, part_ok hg, Option.bind_some]
  show some (D.lst (cutD xs (some (k : Int)) none)) = _
  rw [cut_from]
theorem slL_to (h : a ρ = some (.lst xs)) (hg : g ρ = some (.int (k : Nat))) : gSl a gNoPart (gPart g) ρ = some (.lst (xs.take k)) := by
  unfold gSl
  rw [h, Option.bind_some]
  show (gPart g ρ).bind _ = _
  rw [part_ok hg]
  show some (D.lst (cutD xs none (some (k : Int)))) = _
  rw [cut_to]
end
theorem addT {a b : List D} (h : a.length + b.length ≤ 10000) : dAdd (.tup a) (.tup b) = some (.tup (a ++ b)) := by
  show (if a.length + b.length ≤ big then some (D.tup (a ++ b)) else none) = _
  rw [if_pos (Nat.le_trans h (by decide))]
theorem addL {a b : List D} (h : a.length + b.length ≤ 10000) : dAdd (.lst a) (.lst b) = some (.lst (a ++ b)) := by
  show (if a.length + b.length ≤ big then some (D.lst (a ++ b)) else none) = _
  rw [if_pos (Nat.le_trans h (by decide))]
theorem set_cut {α : Type} (l : List α) (k : Nat) (x : α) (h : k < l.length) : l.take k ++ [x] ++ l.drop (k + 1) = l.set k x := by
  rw [List.set_eq_take_append_cons_drop, if_pos h, List.append_assoc]
  rfl
theorem repT {x : D} {n : Nat} (h : 2 ≤ n) (h2 : n ≤ 1000) : dMulT (.tup [x]) (.int (n : Nat)) = some (.tup (List.replicate n x)) := by
  unfold dMulT
  show (none : Option D).or (if (2 : Int) ≤ (n : Int) ∧ (n : Int) ≤ 1000 ∧ [x].length ≤ 1000 ∧ [x] ≠ [] then some (D.tup (List.replicate (n : Int).toNat [x]).flatten) else none) = _
  rw [if_pos ⟨by omega, by omega, by simp, by simp⟩, Int.toNat_natCast]
  have e : ∀ n : Nat, (List.replicate n [x]).flatten = List.replicate n x := fun n => by
    induction n with
    | zero => rfl
    | succ n ih => rw [List.replicate_succ, List.flatten_cons, ih, List.replicate_succ]; rfl
  rw [e]
  rfl
end DL
namespace Lw
open PySem PySem.Spec PyProof.Rows L2 DL
theorem Bits.snoc {st : List Int} {n : Nat} {b : Int} (h : Bits st n) (hb : b = 0 ∨ b = 1) : Bits (st ++ [b]) (n + 1) := by
  refine ⟨by rw [List.length_append, h.1]; rfl, fun k hk => ?_⟩
  rw [getD_snoc, h.1]
  by_cases e : k = n
  · rw [if_pos e]
    exact hb
  · rw [if_neg e]
    exact h.2 k (by omega)
theorem Bits.set {st : List Int} {n s : Nat} {b : Int} (h : Bits st n) (hb : b = 0 ∨ b = 1) : Bits (st.set s b) n := by
  refine ⟨by rw [List.length_set, h.1], fun k hk => ?_⟩
  rw [getD_set]
  split
  · exact hb
  · exact h.2 k hk
theorem rows_snoc (T : List (List Int)) (l : List Int) : T.map eRow.e ++ [D.tup (l.map D.int)] = (T ++ [l]).map eRow.e := by
  rw [List.map_append]
  rfl
theorem all_snoc {T : List (List Int)} {l : List Int} {P : List Int → Prop} (h : ∀ x ∈ T, P x) (hl : P l) : ∀ x ∈ T ++ [l], P x := fun x hx => by
  rcases List.mem_append.mp hx with z | z
  · exact h x z
  · rw [List.mem_singleton] at z
    rw [z]
    exact hl
end Lw

namespace Lw
open PySem PySem.Spec PyProof.Rows L2 DL
theorem set_ne {α : Type} {l : List α} {j : Nat} {x d0 : α} (h : j < l.length) (hx : x ≠ l.getD j d0) : l.set j x ≠ l := fun e => by
  have e2 : (l.set j x)[j]? = l[j]? := by rw [e]
  rw [List.getElem?_set_self h] at e2
  apply hx
  rw [List.getD_eq_getElem?_getD, ← e2]
  rfl
abbrev T4 : List (List Int) := [[0, 1], [0], [1], []]
theorem ch_others {cur : List Int} (h : Ch cur) : (((List.range 4).filter fun i => !decide (T4.getD i [] = cur)).map fun i => T4.getD i []).length = 3 ∧ ∀ l ∈ (((List.range 4).filter fun i => !decide (T4.getD i [] = cur)).map fun i => T4.getD i []), Ch l ∧ l ≠ cur := by
  unfold Ch
  rcases h with rfl | rfl | rfl | rfl <;> decide
theorem ch_T4 (i : Nat) (h : i < 4) : Ch (T4.getD i []) := by
  unfold Ch
  rcases (show i = 0 ∨ i = 1 ∨ i = 2 ∨ i = 3 by omega) with rfl | rfl | rfl | rfl <;> decide
theorem BN.tail {l : List (Option Int)} (h : BN l) (j : Nat) : ∀ x, l.getD j none = some x → 0 ≤ x := fun x hx => by
  by_cases hj : j < l.length
  · exact h _ (gD_mem (d0 := none) hj) x hx
  · rw [List.getD_eq_getElem?_getD, List.getElem?_eq_none (by omega)] at hx
    cases hx
section
variable {m : Nat} {ps : List (Int × Int)} {lo : List Int} {hs : List (Option Int)} {sd : List (List Int)} {fr : List Int}
end
end Lw


/-! part N1 -/
set_option Elab.async false
set_option linter.all false
set_option maxRecDepth 100000
set_option maxHeartbeats 2000000
namespace DL
open L2
theorem filt_getD {β : Type} (l : List Int) (c : Int → Bool) (f : Int → β) : ((List.range l.length).filter fun i => c (l.getD i 0)).map (fun i => f (l.getD i 0)) = (l.filter c).map f := by
  have e : (List.range l.length).map (fun i => l.getD i 0) = l := by
    have := rgetD l 0 id
    simpa using this
  have e2 : l.filter c = ((List.range l.length).filter fun i => c (l.getD i 0)).map fun i => l.getD i 0 := by
    conv => lhs; rw [← e]
    rw [List.filter_map]
    rfl
  rw [e2, List.map_map]
  rfl
/-- the sum, or None where a part is missing -/
def bsum (l : List (Option Int)) : Option Int := l.foldl (fun a o => a.bind fun x => o.map fun y => x + y) (some 0)
theorem bsum_snoc (l : List (Option Int)) (o : Option Int) : bsum (l ++ [o]) = (bsum l).bind fun x => o.map fun y => x + y := by
  unfold bsum
  rw [List.foldl_append]
  rfl
theorem bsum_go : ∀ (l : List (Option Int)) (a : Int), l.foldl (fun a o => a.bind fun x => o.map fun y => x + y) (some a) = if none ∈ l then none else some (a + (l.map fun o => o.getD 0).sum)
  | [], a => by simp
  | none :: l, a => by
    have e : ∀ l : List (Option Int), l.foldl (fun a o => a.bind fun x => o.map fun y => x + y) (none : Option Int) = none := fun l => by
      induction l with
      | nil => rfl
      | cons o l ih => exact ih
    show l.foldl _ ((some a).bind fun x => (none : Option Int).map fun y => x + y) = _
    rw [show ((some a).bind fun x => (none : Option Int).map fun y => x + y) = none from rfl, e]
    simp
  | some y :: l, a => by
    show l.foldl _ (some (a + y)) = _
    rw [bsum_go l (a + y)]
    simp [Int.add_assoc]
theorem bsum_eq (l : List (Option Int)) : bsum l = if none ∈ l then none else some (l.map fun o => o.getD 0).sum := by
  unfold bsum
  rw [bsum_go l 0]
  simp
end DL
namespace Lw
open PySem PySem.Spec PyProof.Rows L2 DL
/-! ### what a lot gains, and so on -/
section
variable (m : Nat) (ps : List (Int × Int)) (lo : List Int) (hs : List (Option Int)) (sd : List (List Int)) (mg : Int → Bool)
def fsd (k : Nat) : List Int := (sd.getD k []).filter fun s => mg (side (ps.getD k (0, 0)) s)
def cGain (k : Nat) : Bool := decide (0 < (fsd ps sd mg k).length)
def cLoad (k : Nat) : Bool := decide (0 < (sd.getD k []).length) && decide ((fsd ps sd mg k).length = (sd.getD k []).length)
def nGain : Int := ((fl ps.length (cGain ps sd mg)).length : Nat)
def nLoad : Int := ((fl ps.length (cLoad ps sd mg)).length : Nat)
def memb (i : Nat) : List Int := fl i fun j => mg (j : Nat)
def nWant (i : Nat) : Int := ((memb mg i).map fun j => lo.getD j.toNat 0).sum
def nBear (i : Nat) : Option Int := bsum ((memb mg i).map fun j => hs.getD j.toNat none)
end
/-- g's members are mg's, all of them mills -/
structure Grp (m : Nat) (mg : Int → Bool) (d : D) (g : List Int) : Prop where
  it : items d = some (g.map D.int)
  me : ∀ i, (g.any fun b => b == i) = mg i
  rg : ∀ i, mg i = true → 0 ≤ i ∧ i < m
  ln : g.length < 64
section
variable {m : Nat} {ps : List (Int × Int)} {lo : List Int} {hs : List (Option Int)} {sd : List (List Int)} {mg : Int → Bool} {d : D} {g : List Int}
theorem Grp.mem (G : Grp m mg d g) {i : Int} : i ∈ g ↔ mg i = true := by
  rw [← G.me i, List.any_eq_true]
  constructor
  · exact fun h => ⟨i, h, by simp⟩
  · rintro ⟨b, h, e⟩
    have : b = i := by simpa using e
    rw [← this]
    exact h
theorem fl_mem {n : Nat} {c : Nat → Bool} {k : Int} : k ∈ fl n c ↔ 0 ≤ k ∧ k < n ∧ c k.toNat = true := by
  unfold fl
  rw [List.mem_map]
  constructor
  · rintro ⟨i, h, rfl⟩
    have := List.mem_filter.mp h
    have h2 := List.mem_range.mp this.1
    exact ⟨by omega, by omega, by simpa using this.2⟩
  · rintro ⟨h0, h1, h2⟩
    exact ⟨k.toNat, List.mem_filter.mpr ⟨List.mem_range.mpr (by omega), h2⟩, by omega⟩
theorem fl_pw (n : Nat) (c : Nat → Bool) : (fl n c).Pairwise (· < ·) := by
  unfold fl
  rw [List.pairwise_map]
  exact ((List.pairwise_lt_range).filter c).imp fun h => by omega
theorem sset_memb (G : Grp m mg d g) : sset g = memb mg m := asc_eq (sset_pw g) (fl_pw m _) fun k => by
  rw [sset_mem, G.mem]
  unfold memb
  rw [fl_mem]
  constructor
  · intro h
    have r := G.rg k h
    refine ⟨r.1, r.2, ?_⟩
    rw [show ((k.toNat : Nat) : Int) = k by omega]
    exact h
  · rintro ⟨h0, h1, h2⟩
    rw [show ((k.toNat : Nat) : Int) = k by omega] at h2
    exact h2
theorem in_grp {ρ : Rho} {a b : Rho → Option D} {i : Int} (G : Grp m mg d g) (h1 : a ρ = some (.int i)) (h2 : b ρ = some d) : gB (gOp (dIn false) a b) ρ = some (mg i) := by
  refine gB_ok (op_ok h1 h2 ((in_int (neg := false) G.it).trans ?_))
  rw [← G.me i]
  rfl
theorem ch_bits {l : List Int} (h : Ch l) : ∀ i, i < l.length → l.getD i 0 = 0 ∨ l.getD i 0 = 1 := by
  intro i hi
  have hm := getD_mem hi
  generalize l.getD i 0 = x at hm
  rcases h with rfl | rfl | rfl | rfl <;> simp only [List.mem_cons, List.not_mem_nil, or_false] at hm <;> omega
theorem feeding_ok {n : Nat} (bd : Bd m ps.length lo hs sd) (G : Grp n mg d g) {k : Nat} (hk : k < ps.length) : g_feeding_sides [dS m ps lo hs sd, .int (k : Nat), d] = some (.lst ((fsd ps sd mg k).map D.int)) := by
  have ks : k < sd.length := by rw [bd.l3]; exact hk
  have hch := bd.n3 _ (gD_mem (d0 := []) ks)
  have hl2 : (sd.getD k []).length ≤ 2 := by rcases hch with e | e | e | e <;> rw [e] <;> decide
  refine Dn.eq (ok_dn rfl ?_)
  refine ok_set (op_ok (fldC (fldC rfl lk_valley) lk_sluices) rfl (ix_nat rfl (pair_get hk))) ?_
  refine ok_ret (ofL_ok (comp_of (ds := (sd.getD k []).map D.int) (fun i => mg (side (ps.getD k (0, 0)) ((sd.getD k []).getD i 0))) (fun i => D.int ((sd.getD k []).getD i 0)) (seqOf_ok (op_ok (fldC rfl lk_sides) rfl (ix_nat rfl (encGet eRow [] ks))) rfl) (by rw [List.length_map]; exact Nat.le_trans hl2 (by decide)) fun i e hi he => ?_)) ⟨_, rfl, ?_⟩
  · rw [List.length_map] at hi
    rw [getD_get hi] at he
    cases he
    have b := ch_bits hch i hi
    rw [pgetD hk]
    exact ⟨_, rfl, in_grp G (op_ok rfl rfl (side_ix b)) rfl, fun _ => rfl⟩
  · rw [List.length_map, filt_getD (sd.getD k []) (fun s => mg (side (ps.getD k (0, 0)) s)) D.int]
    rfl
theorem gain_ok {n : Nat} (hp : ps.length ≤ 48) (bd : Bd m ps.length lo hs sd) (G : Grp n mg d g) : g_gain [dS m ps lo hs sd, d] = some (.int (nGain ps sd mg)) := by
  refine Dn.eq (ok_dn rfl (ok_ret (len_ok (ofL_ok (comp_fl (cGain ps sd mg) (range_ok (len_ok (fldC rfl lk_sides) rfl) (by rw [List.length_map, bd.l3]; omega)) (by rw [rangeD_len, List.length_map, bd.l3]) (by omega) fun i e hi he => ?_)) rfl) ⟨_, rfl, ?_⟩))
  · cases rangeD_get he
    refine ⟨_, rfl, gB_ok (op_ok (len_ok (call_ok (cons_ok rfl (cons_ok rfl (cons_ok rfl rfl))) (feeding_ok bd G hi)) rfl) rfl gt_int |>.trans ?_), rfl⟩
    unfold cGain
    rw [List.length_map]
    congr 2
    by_cases h : 0 < (fsd ps sd mg i).length <;> simp [h]
  · unfold nGain
    rw [List.length_map]
theorem load_ok {n : Nat} (hp : ps.length ≤ 48) (bd : Bd m ps.length lo hs sd) (G : Grp n mg d g) : g_load [dS m ps lo hs sd, d] = some (.int (nLoad ps sd mg)) := by
  refine Dn.eq (ok_dn rfl (ok_ret (len_ok (ofL_ok (comp_fl (cLoad ps sd mg) (enum_ok (fldC rfl lk_sides) rfl) (by rw [enumD_len, List.length_map, bd.l3]) (by omega) fun i e hi he => ?_)) rfl) ⟨_, rfl, ?_⟩))
  · obtain ⟨e, he', rfl⟩ := enum_get he
    have ks : i < sd.length := by rw [bd.l3]; exact hi
    rw [encGet eRow [] ks] at he'
    cases he'
    refine ⟨_, rfl, (andT_ok (gB_ok (op_ok (len_ok rfl rfl) rfl gt_int)) (gB_ok (op_ok (len_ok (call_ok (cons_ok rfl (cons_ok rfl (cons_ok rfl rfl))) (feeding_ok bd G hi)) rfl) (len_ok rfl rfl) (oEq_int _ _)))).trans ?_, rfl⟩
    unfold cLoad
    congr 2
    · rw [show (List.map eInt.e (sd.getD i [])).length = (sd.getD i []).length from List.length_map ..]
      by_cases h : 0 < (sd.getD i []).length <;> simp [h]
    · rw [List.length_map, show (List.map eInt.e (sd.getD i [])).length = (sd.getD i []).length from List.length_map ..]
      exact decide_eq_decide.mpr ⟨fun h => by omega, fun h => by omega⟩
  · unfold nLoad
    rw [List.length_map]
theorem distinct_ok (G : Grp m mg d g) : g_distinct [d] = some (.tup ((memb mg m).map D.int)) := by
  refine Dn.eq (ok_dn rfl (ok_ret (tupOf_ok (ofL_ok ?_) rfl) ⟨_, rfl, rfl⟩))
  show (gV 0 _).bind _ = _
  rw [v_ok (i := 0) (d := d) rfl, Option.bind_some, G.it, Option.bind_some, asInts_map, Option.bind_some, if_pos G.ln, sset_memb G]
theorem memb_rg {n : Nat} {i : Nat} (h : i < (memb mg n).length) : 0 ≤ (memb mg n).getD i 0 ∧ (memb mg n).getD i 0 < n := by
  have := getD_mem h
  unfold memb at this ⊢
  have h2 := fl_mem.mp this
  exact ⟨h2.1, h2.2.1⟩
theorem sum_ok {gs : Rho → Option (List D)} {ρ : Rho} {ns : List Int} (h : gs ρ = some [.lst (ns.map D.int)]) : gCall fSum gs ρ = some (.int ns.sum) := by
  refine call_ok h ?_
  show (asInts _).bind _ = _
  rw [asInts_map]
  rfl
theorem want_ok (hm : m ≤ 24) (bd : Bd m ps.length lo hs sd) (G : Grp m mg d g) : g_want [dS m ps lo hs sd, d] = some (.int (nWant lo mg m)) := by
  refine Dn.eq (ok_dn rfl (ok_ret (sum_ok (ns := (memb mg m).map fun j => lo.getD j.toNat 0) (cons_ok (ofL_ok (comp_to (ds := (memb mg m).map D.int) (fun i => D.int (lo.getD ((memb mg m).getD i 0).toNat 0)) (seqOf_ok (call_ok (cons_ok rfl rfl) (distinct_ok G)) rfl) ?_ ?_ fun i e hi he => ?_)) rfl)) ⟨_, rfl, rfl⟩))
  · rw [List.length_map]
    exact Nat.le_trans (fl_len _ _) (Nat.le_trans hm (by decide))
  · rw [List.length_map, List.map_map, ← rgetD (memb mg m) 0 (D.int ∘ fun j => lo.getD j.toNat 0)]
    rfl
  · rw [List.length_map] at hi
    rw [getD_get hi] at he
    cases he
    have r := memb_rg (mg := mg) hi
    exact ⟨_, rfl, op_ok (fldC rfl lk_needs) rfl (ix_int rfl r.1 (getD_get (by rw [bd.l1]; omega)))⟩
theorem none_in {l : List (Option Int)} {ρ : Rho} {b : Rho → Option D} (h : b ρ = some (.lst (l.map eOpt.e))) : gB (gOp (dIn false) (gC .non) b) ρ = some (decide (none ∈ l)) := by
  have f : ∀ l : List (Option Int), flats (l.map eOpt.e) = some (l.map fun o => match o with | none => V.non | some i => V.int i) := fun l => by
    induction l with
    | nil => rfl
    | cons o l ih =>
      show (flat (eOpt.e o)).bind (fun y => (flats (l.map eOpt.e)).map fun ys => y :: ys) = _
      rw [ih]
      cases o <;> rfl
  refine gB_ok (op_ok rfl h ?_)
  show ((((some V.non).bind fun v => (some (l.map eOpt.e)).bind fun ds => (flats ds).bind fun vs => some (D.bl (if false = true then !inV v vs else inV v vs)))).or _) = _
  rw [Option.bind_some, Option.bind_some, f, Option.bind_some]
  have e : ∀ l : List (Option Int), inV V.non (l.map fun o => match o with | none => V.non | some i => V.int i) = decide (none ∈ l) := fun l => by
    induction l with
    | nil => rfl
    | cons o l ih =>
      unfold inV at ih ⊢
      rw [List.map_cons, List.any_cons, ih]
      cases o with
      | none => simp [eqV]
      | some i => simp [eqV]
  rw [e]
  rfl
end
end Lw

/-! part N2 -/
set_option Elab.async false
set_option linter.all false
set_option maxRecDepth 100000
set_option maxHeartbeats 2000000
namespace DL
open PySem L2
theorem oEq_str {a b : Str} (ha : (PyData.str a).canLay0 = true) (hb : (PyData.str b).canLay0 = true) : oEq (.str a) (.str b) = some (.bl (a == b)) := by
  have h : ∀ x : Str, (PyData.str x).canLay0 = true → Pd 0 (.str x) (.str x) := fun x hx => ⟨by simp only [pyd], hx, by simp only [PyData.depth]; omega⟩
  rw [oEq_pd (h a ha) (h b hb) (by decide) (by decide)]
  simp only [PyData.eqv]
theorem isi_bool {b : Bool} : fIsi [.bl b, .ty "bool"] = some (.bl true) := by
  have e : kitB "bool" "bool" = some true := by decide +kernel
  show (some "bool").bind (fun t => (kitB t "bool").bind fun b => some (D.bl b)) = _
  rw [Option.bind_some, e]
  rfl
end DL
namespace Lw
open PySem PySem.Spec PyProof.Rows L2 DL
def limLt (o : Option Int) (c : Int) : Bool := match o with
  | none => false
  | some x => decide (x < c)
section
variable {m : Nat} {ps : List (Int × Int)} {lo : List Int} {hs : List (Option Int)} {sd : List (List Int)} {mg : Int → Bool} {d : D} {g : List Int}
theorem nonone : ∀ {l : List (Option Int)}, none ∉ l → l.map eOpt.e = (l.map fun o => o.getD 0).map D.int
  | [], _ => rfl
  | none :: l, h => absurd List.mem_cons_self h
  | some i :: l, h => by
    rw [List.map_cons, nonone fun z => h (List.mem_cons_of_mem _ z)]
    rfl
theorem bear_ok (hm : m ≤ 24) (bd : Bd m ps.length lo hs sd) (G : Grp m mg d g) : g_bear [dS m ps lo hs sd, d] = some (eOpt.e (nBear hs mg m)) := by
  refine Dn.eq (ok_dn rfl ?_)
  refine ok_setOw (ds := ((memb mg m).map fun j => hs.getD j.toNat none).map eOpt.e) (comp_to (ds := (memb mg m).map D.int) (fun i => eOpt.e (hs.getD ((memb mg m).getD i 0).toNat none)) (seqOf_ok (call_ok (cons_ok rfl rfl) (distinct_ok G)) rfl) ?_ ?_ fun i e hi he => ?_) ?_
  · rw [List.length_map]
    exact Nat.le_trans (fl_len _ _) (Nat.le_trans hm (by decide))
  · rw [List.length_map, List.map_map, ← rgetD (memb mg m) 0 (eOpt.e ∘ fun j => hs.getD j.toNat none)]
    rfl
  · rw [List.length_map] at hi
    rw [getD_get hi] at he
    cases he
    have r := memb_rg (mg := mg) hi
    exact ⟨_, rfl, op_ok (fldC rfl lk_limits) rfl (ix_int rfl r.1 (encGet eOpt none (by rw [bd.l2]; omega)))⟩
  refine ok_freeze rfl (ok_ret (if_ok (none_in rfl) (fun h => ?_) fun h => ?_) ⟨_, rfl, rfl⟩)
  · unfold nBear
    rw [bsum_eq, if_pos (of_decide_eq_true h)]
    rfl
  · have hn := of_decide_eq_false h
    unfold nBear
    rw [bsum_eq, if_neg hn]
    refine sum_ok (cons_ok ((v_ok rfl).trans ?_) rfl)
    show some (D.lst (((memb mg m).map fun j => hs.getD j.toNat none).map eOpt.e)) = _
    rw [nonone hn]
theorem little_ok (hm : m ≤ 24) (hp : ps.length ≤ 48) (bd : Bd m ps.length lo hs sd) (G : Grp m mg d g) : g_bears_too_little [dS m ps lo hs sd, d] = some (.bl (limLt (nBear hs mg m) (nLoad ps sd mg))) := by
  refine Dn.eq (ok_dn rfl ?_)
  refine ok_set (call_ok (cons_ok rfl (cons_ok rfl rfl)) (bear_ok hm bd G)) ?_
  cases h : nBear hs mg m with
  | none => exact ok_ret (and_f (op_ok rfl rfl rfl)) ⟨_, rfl, rfl⟩
  | some x => exact ok_ret (and_t (op_ok rfl rfl rfl) (op_ok (call_ok (cons_ok rfl (cons_ok rfl rfl)) (load_ok hp bd G)) rfl gt_int)) ⟨_, rfl, rfl⟩
theorem less_ok {k : Nat} (hk : k < m) (bd : Bd m ps.length lo hs sd) : g_bears_less_than_need [dS m ps lo hs sd, .int (k : Nat)] = some (.bl (limLt (hs.getD k none) (lo.getD k 0))) := by
  refine Dn.eq (ok_dn rfl ?_)
  refine ok_set (op_ok (fldC rfl lk_limits) rfl (ix_nat rfl (encGet eOpt none (by rw [bd.l2]; exact hk)))) ?_
  have xn : oIx (.tup (lo.map D.int)) (.int (k : Nat)) = some (.int (lo.getD k 0)) := ixT (by rw [bd.l1]; exact hk)
  cases h : hs.getD k none with
  | none => exact ok_ret (and_f (op_ok rfl rfl rfl)) ⟨_, rfl, rfl⟩
  | some x => exact ok_ret (and_t (op_ok rfl rfl rfl) (op_ok rfl (op_ok (fldC rfl lk_needs) rfl xn) lt_int)) ⟨_, rfl, rfl⟩
theorem ob_sluice {v : D} {k : Nat} (bd : Bd m ps.length lo hs sd) (hk : k < ps.length) (hv : items v = some [.str "sluice", .int (k : Nat)]) : g_is_obstacle [dS m ps lo hs sd, v] = some (.bl (decide ((sd.getD k []).length = 0))) := by
  have ks : k < sd.length := by rw [bd.l3]; exact hk
  refine Dn.eq (ok_dn rfl ?_)
  refine ok_seq (ok_mono (P := fun r => r = .nx [.sh (dS m ps lo hs sd), .sh v, .sh (.str "sluice"), .sh (.int (k : Nat))]) ⟨_, ?_, rfl⟩ fun r e => ?_)
  · show ((some v).bind fun d => ((items d).bind fun ds => _).bind _) = _
    rw [Option.bind_some, hv]
    rfl
  subst e
  refine ok_if _ (gB_ok (op_ok rfl rfl (oEq_str (by decide +kernel) (by decide +kernel)))) (fun _ => ?_) fun h => absurd h (by decide +kernel)
  refine ok_ret (op_ok (len_ok (op_ok (fldC rfl lk_sides) rfl (ix_nat rfl (encGet eRow [] ks))) rfl) rfl (oEq_int _ _)) ⟨_, rfl, ?_⟩
  rw [show (List.map eInt.e (sd.getD k [])).length = (sd.getD k []).length from List.length_map ..]
  congr 1
  exact decide_eq_decide.mpr ⟨fun h => by omega, fun h => by omega⟩
theorem ob_mill {v : D} {k : Nat} (bd : Bd m ps.length lo hs sd) (hk : k < m) (hv : items v = some [.str "mill", .int (k : Nat)]) : g_is_obstacle [dS m ps lo hs sd, v] = some (.bl (limLt (hs.getD k none) (lo.getD k 0))) := by
  refine Dn.eq (ok_dn rfl ?_)
  refine ok_seq (ok_mono (P := fun r => r = .nx [.sh (dS m ps lo hs sd), .sh v, .sh (.str "mill"), .sh (.int (k : Nat))]) ⟨_, ?_, rfl⟩ fun r e => ?_)
  · show ((some v).bind fun d => ((items d).bind fun ds => _).bind _) = _
    rw [Option.bind_some, hv]
    rfl
  subst e
  refine ok_if _ (gB_ok (op_ok rfl rfl (oEq_str (by decide +kernel) (by decide +kernel)))) (fun h => absurd h (by decide +kernel)) fun _ => ok_next ?_
  refine ok_if _ (gB_ok (op_ok rfl rfl (oEq_str (by decide +kernel) (by decide +kernel)))) (fun _ => ?_) fun h => absurd h (by decide +kernel)
  exact ok_ret (call_ok (cons_ok rfl (cons_ok rfl rfl)) (less_ok hk bd)) ⟨_, rfl, rfl⟩
theorem ob_wants {v : D} (hm : m ≤ 24) (hp : ps.length ≤ 48) (bd : Bd m ps.length lo hs sd) (G : Grp m mg d g) (hv : items v = some [.str "wants", d]) : g_is_obstacle [dS m ps lo hs sd, v] = some (.bl (decide (nGain ps sd mg < nWant lo mg m))) := by
  refine Dn.eq (ok_dn rfl ?_)
  refine ok_seq (ok_mono (P := fun r => r = .nx [.sh (dS m ps lo hs sd), .sh v, .sh (.str "wants"), .sh d]) ⟨_, ?_, rfl⟩ fun r e => ?_)
  · show ((some v).bind fun d => ((items d).bind fun ds => _).bind _) = _
    rw [Option.bind_some, hv]
    rfl
  subst e
  refine ok_if _ (gB_ok (op_ok rfl rfl (oEq_str (by decide +kernel) (by decide +kernel)))) (fun h => absurd h (by decide +kernel)) fun _ => ok_next ?_
  refine ok_if _ (gB_ok (op_ok rfl rfl (oEq_str (by decide +kernel) (by decide +kernel)))) (fun h => absurd h (by decide +kernel)) fun _ => ok_next ?_
  refine ok_if _ (gB_ok (op_ok rfl rfl (oEq_str (by decide +kernel) (by decide +kernel)))) (fun _ => ?_) fun h => absurd h (by decide +kernel)
  exact ok_ret (op_ok (call_ok (cons_ok rfl (cons_ok rfl rfl)) (want_ok hm bd G)) (call_ok (cons_ok rfl (cons_ok rfl rfl)) (gain_ok hp bd G)) gt_int) ⟨_, rfl, rfl⟩
theorem ob_bears {v : D} (hm : m ≤ 24) (hp : ps.length ≤ 48) (bd : Bd m ps.length lo hs sd) (G : Grp m mg d g) (hv : items v = some [.str "bears", d]) : g_is_obstacle [dS m ps lo hs sd, v] = some (.bl (limLt (nBear hs mg m) (nLoad ps sd mg))) := by
  refine Dn.eq (ok_dn rfl ?_)
  refine ok_seq (ok_mono (P := fun r => r = .nx [.sh (dS m ps lo hs sd), .sh v, .sh (.str "bears"), .sh d]) ⟨_, ?_, rfl⟩ fun r e => ?_)
  · show ((some v).bind fun d => ((items d).bind fun ds => _).bind _) = _
    rw [Option.bind_some, hv]
    rfl
  subst e
  refine ok_if _ (gB_ok (op_ok rfl rfl (oEq_str (by decide +kernel) (by decide +kernel)))) (fun h => absurd h (by decide +kernel)) fun _ => ok_next ?_
  refine ok_if _ (gB_ok (op_ok rfl rfl (oEq_str (by decide +kernel) (by decide +kernel)))) (fun h => absurd h (by decide +kernel)) fun _ => ok_next ?_
  refine ok_if _ (gB_ok (op_ok rfl rfl (oEq_str (by decide +kernel) (by decide +kernel)))) (fun h => absurd h (by decide +kernel)) fun _ => ok_next ?_
  exact ok_ret (call_ok (cons_ok rfl (cons_ok rfl rfl)) (little_ok hm hp bd G)) ⟨_, rfl, rfl⟩
/-! ### the law's own counts -/
/-- a world -/
def dW (m : Nat) (ps : List (Int × Int)) (lo : List Int) (hs : List (Option Int)) (sd : List (List Int)) (x : List D) : D := .lst (.int (m : Nat) :: .lst (ps.map ePair.e) :: .lst (lo.map D.int) :: .lst (hs.map eOpt.e) :: .lst (sd.map eRow.e) :: x)
theorem memb_succ (i : Nat) : memb mg (i + 1) = if mg (i : Nat) = true then memb mg i ++ [((i : Nat) : Int)] else memb mg i := by
  unfold memb
  rw [fl_succ]
theorem wix {x : List D} : oIx (dW m ps lo hs sd x) (.int 0) = some (.int (m : Nat)) ∧ oIx (dW m ps lo hs sd x) (.int 1) = some (.lst (ps.map ePair.e)) ∧ oIx (dW m ps lo hs sd x) (.int 2) = some (.lst (lo.map D.int)) ∧ oIx (dW m ps lo hs sd x) (.int 3) = some (.lst (hs.map eOpt.e)) ∧ oIx (dW m ps lo hs sd x) (.int 4) = some (.lst (sd.map eRow.e)) :=
  ⟨ix_nat (i := 0) rfl rfl, ix_nat (i := 1) rfl rfl, ix_nat (i := 2) rfl rfl, ix_nat (i := 3) rfl rfl, ix_nat (i := 4) rfl rfl⟩
/-- gain, load, want, what is borne -/
def dN (ps : List (Int × Int)) (lo : List Int) (hs : List (Option Int)) (sd : List (List Int)) (mg : Int → Bool) (m : Nat) : D := .lst [.int (nGain ps sd mg), .int (nLoad ps sd mg), .int (nWant lo mg m), eOpt.e (nBear hs mg m)]
theorem numbers_ok {x : List D} (hm : m ≤ 24) (hp : ps.length ≤ 48) (bd : Bd m ps.length lo hs sd) (G : Grp m mg d g) : g_law_numbers [dW m ps lo hs sd x, d] = some (dN ps lo hs sd mg m) := by
  refine Dn.eq (ok_dn rfl ?_)
  obtain ⟨w0, w1, w2, w3, w4⟩ := wix (m := m) (ps := ps) (lo := lo) (hs := hs) (sd := sd) (x := x)
  refine ok_set (d := .int 0) rfl (ok_set (d := .int 0) rfl ?_)
  refine ok_for (ds := rangeD ps.length) (fun i ρ => ∃ a b c : B, ρ = [.sh (dW m ps lo hs sd x), .sh d, .sh (.int ((fl i (cGain ps sd mg)).length : Nat)), .sh (.int ((fl i (cLoad ps sd mg)).length : Nat)), a, b, c, .un, .un, .un, .un]) (range_ok (by rw [len_ok (op_ok rfl rfl w1) rfl, List.length_map]) (by omega)) ⟨.un, .un, .un, rfl⟩ (fun i e ρ hi he => ?_) fun ρ => ?_
  · rintro ⟨a, b, c, rfl⟩
    rw [rangeD_len] at hi
    cases rangeD_get he
    have ks : i < sd.length := by rw [bd.l3]; exact hi
    have hch := bd.n3 _ (gD_mem (d0 := []) ks)
    have hl2 : (sd.getD i []).length ≤ 2 := by rcases hch with e | e | e | e <;> rw [e] <;> decide
    have xs : oIx (.lst (sd.map eRow.e)) (.int (i : Nat)) = some (eRow.e (sd.getD i [])) := ix_nat rfl (encGet eRow [] ks)
    have xp : oIx (.lst (ps.map ePair.e)) (.int (i : Nat)) = some (.tup [.int (ps[i]).1, .int (ps[i]).2]) := ix_nat rfl (pair_get hi)
    refine ⟨_, rfl, ok_setOw (ds := ((sd.getD i []).map fun s => side (ps.getD i (0, 0)) s).map D.int) (comp_to (ds := (sd.getD i []).map D.int) (fun j => D.int (side (ps.getD i (0, 0)) ((sd.getD i []).getD j 0))) (seqOf_ok (op_ok (op_ok rfl rfl w4) rfl xs) rfl) (by rw [List.length_map]; exact Nat.le_trans hl2 (by decide)) ?_ fun j e hj he => ?_) ?_⟩
    · rw [List.length_map, List.map_map, ← rgetD (sd.getD i []) 0 (D.int ∘ fun s => side (ps.getD i (0, 0)) s)]
      rfl
    · rw [List.length_map] at hj
      rw [getD_get hj] at he
      cases he
      rw [pgetD hi]
      exact ⟨_, rfl, op_ok (op_ok (op_ok rfl rfl w1) rfl xp) rfl (side_ix (ch_bits hch j hj))⟩
    refine ok_freeze rfl ?_
    have hlen : (((sd.getD i []).map fun s => side (ps.getD i (0, 0)) s).filter mg).length = (fsd ps sd mg i).length := by
      rw [List.filter_map, List.length_map]
      rfl
    refine ok_set (d := .int ((fsd ps sd mg i).length : Nat)) ((len_ok (ofL_ok (comp_of (ds := ((sd.getD i []).map fun s => side (ps.getD i (0, 0)) s).map D.int) (fun j => mg (((sd.getD i []).map fun s => side (ps.getD i (0, 0)) s).getD j 0)) (fun j => D.int (((sd.getD i []).map fun s => side (ps.getD i (0, 0)) s).getD j 0)) (seqOf_ok (v_ok rfl) rfl) (by rw [List.length_map, List.length_map]; exact Nat.le_trans hl2 (by decide)) fun j e hj he => ?_)) rfl).trans ?_) ?_
    · rw [List.length_map] at hj
      rw [getD_get hj] at he
      cases he
      exact ⟨_, rfl, in_grp G rfl rfl, fun _ => rfl⟩
    · rw [show ((sd.getD i []).map fun s => side (ps.getD i (0, 0)) s).map D.int = (((sd.getD i []).map fun s => side (ps.getD i (0, 0)) s)).map D.int from rfl, List.length_map (f := D.int), filt_getD ((sd.getD i []).map fun s => side (ps.getD i (0, 0)) s) mg D.int, List.length_map, hlen]
    refine ok_join (fun ρ => ∃ a b c : B, ρ = [.sh (dW m ps lo hs sd x), .sh d, .sh (.int ((fl (i + 1) (cGain ps sd mg)).length : Nat)), .sh (.int ((fl i (cLoad ps sd mg)).length : Nat)), a, .sh (.lst (((sd.getD i []).map fun s => side (ps.getD i (0, 0)) s).map D.int)), .sh (.int ((fsd ps sd mg i).length : Nat)), .un, .un, .un, .un])
      (ok_ifS (cGain ps sd mg i) (gB_ok ((op_ok rfl rfl gt_int).trans ?_)) (fun h => ?_) fun h => ok_next ⟨_, rfl, _, .un, .un, by rw [fl_succ, h, if_neg Bool.false_ne_true]; rfl⟩) ?_
    · unfold cGain
      congr 2
      exact decide_eq_decide.mpr ⟨fun h => by omega, fun h => by omega⟩
    · exact ok_set (d := .int (((fl (i + 1) (cGain ps sd mg)).length : Nat))) ((op_ok rfl rfl addk).trans (by rw [fl_succ, h, if_pos rfl, List.length_append]; rfl)) (ok_next ⟨_, rfl, _, .un, .un, rfl⟩)
    rintro _ ⟨a, b, c, rfl⟩
    refine ok_if (cLoad ps sd mg i) ((andT_ok (gB_ok (op_ok rfl rfl gt_int)) (gB_ok (op_ok rfl (len_ok rfl rfl) (oEq_int _ _)))).trans ?_) (fun h => ?_) fun h => ok_next (ok_next ⟨_, rfl, _, _, _, by rw [fl_succ (c := cLoad ps sd mg), h, if_neg Bool.false_ne_true]⟩)
    · unfold cLoad
      rw [List.length_map, List.length_map]
      have hle : (fsd ps sd mg i).length ≤ (sd.getD i []).length := List.length_filter_le _ _
      congr 1
      by_cases h1 : (fsd ps sd mg i).length = (sd.getD i []).length
      · by_cases h2 : 0 < (sd.getD i []).length
        · rw [decide_eq_true h1, decide_eq_true h2, decide_eq_true (show (0 : Int) < ((fsd ps sd mg i).length : Nat) by omega), decide_eq_true (show (((fsd ps sd mg i).length : Nat) : Int) = ((sd.getD i []).length : Nat) by omega)]
        · rw [decide_eq_false h2, decide_eq_false (show ¬ (0 : Int) < ((fsd ps sd mg i).length : Nat) by omega)]
          rfl
      · rw [decide_eq_false h1, decide_eq_false (show ¬ (((fsd ps sd mg i).length : Nat) : Int) = ((sd.getD i []).length : Nat) by omega), Bool.and_false, Bool.and_false]
    · exact ok_set (d := .int (((fl (i + 1) (cLoad ps sd mg)).length : Nat))) ((op_ok rfl rfl addk).trans (by rw [fl_succ (c := cLoad ps sd mg), h, if_pos rfl, List.length_append]; rfl)) (ok_next (ok_next ⟨_, rfl, _, _, _, rfl⟩))
  rintro ⟨a, b, c, rfl⟩
  rw [rangeD_len]
  refine ok_set (d := .int 0) rfl (ok_set (d := .int 0) rfl ?_)
  refine ok_for (ds := rangeD m) (fun i ρ => ∃ e : B, ρ = [.sh (dW m ps lo hs sd x), .sh d, .sh (.int (nGain ps sd mg)), .sh (.int (nLoad ps sd mg)), a, b, c, .sh (.int (nWant lo mg i)), .sh (eOpt.e (nBear hs mg i)), e, .un]) (range_ok (op_ok rfl rfl w0) (by omega)) ⟨.un, rfl⟩ (fun i e ρ hi he => ?_) fun ρ => ?_
  · rintro ⟨e, rfl⟩
    rw [rangeD_len] at hi
    cases rangeD_get he
    have xl : oIx (.lst (lo.map D.int)) (.int (i : Nat)) = some (.int (lo.getD i 0)) := ixL (by rw [bd.l1]; exact hi)
    have xh : oIx (.lst (hs.map eOpt.e)) (.int (i : Nat)) = some (eOpt.e (hs.getD i none)) := ix_nat rfl (encGet eOpt none (by rw [bd.l2]; exact hi))
    refine ⟨_, rfl, ok_if (mg (i : Nat)) (in_grp G rfl rfl) (fun h => ?_) fun h => ok_next (ok_next ⟨_, rfl, _, by unfold nWant nBear; rw [memb_succ, h, if_neg Bool.false_ne_true]; rfl⟩)⟩
    have e1 : nWant lo mg (i + 1) = nWant lo mg i + lo.getD i 0 := by
      unfold nWant
      rw [memb_succ, h, if_pos rfl, List.map_append, List.sum_append]
      simp
    have e2 : nBear hs mg (i + 1) = (nBear hs mg i).bind fun x => (hs.getD i none).map fun y => x + y := by
      unfold nBear
      rw [memb_succ, h, if_pos rfl, List.map_append]
      show bsum (_ ++ [hs.getD (((i : Nat) : Int).toNat) none]) = _
      rw [bsum_snoc, Int.toNat_natCast]
    refine ok_set (d := .int (nWant lo mg (i + 1))) ((op_ok rfl (op_ok (op_ok rfl rfl w2) rfl xl) add_int).trans (by rw [e1])) ?_
    cases hB : nBear hs mg i with
    | none =>
      rw [hB] at e2
      exact ok_if _ (gB_ok (op_ok rfl rfl oIs_opt)) (fun h => by cases h) fun _ => ok_next (ok_next (ok_next ⟨_, rfl, _, by rw [e2]; rfl⟩))
    | some z =>
      rw [hB] at e2
      refine ok_if _ (gB_ok (op_ok rfl rfl oIs_opt)) (fun _ => ?_) fun h => by cases h
      refine ok_set (d := eOpt.e (nBear hs mg (i + 1))) (if_ok (gB_ok (op_ok (op_ok (op_ok rfl rfl w3) rfl xh) rfl oIs_opt0)) (fun h => ?_) fun h => ?_) (ok_next (ok_next (ok_next ⟨_, rfl, _, rfl⟩)))
      · have : hs.getD i none = none := by
          cases hq : hs.getD i none with
          | none => rfl
          | some y => rw [hq] at h; cases h
        rw [e2, this]
        rfl
      · obtain ⟨y, hy⟩ : ∃ y, hs.getD i none = some y := by
          cases hq : hs.getD i none with
          | none => rw [hq] at h; cases h
          | some y => exact ⟨y, rfl⟩
        rw [hy] at xh e2
        have xh' : oIx (.lst (hs.map eOpt.e)) (.int (i : Nat)) = some (.int y) := xh
        exact (op_ok rfl (op_ok (op_ok rfl rfl w3) rfl xh') add_int).trans (by rw [e2]; rfl)
  · rintro ⟨e, rfl⟩
    rw [rangeD_len]
    exact ok_ret (ofL_ok (len1_ok (cons_ok rfl (cons_ok rfl (cons_ok rfl (cons_ok rfl rfl)))) (by show 4 ≤ big; decide))) ⟨_, rfl, rfl⟩
end
end Lw

/-! part N3 -/
set_option Elab.async false
set_option linter.all false
set_option maxRecDepth 100000
set_option maxHeartbeats 2000000
namespace DL
open PySem L2
theorem appP_ok {idx : List Nat} {gk : Rho → Option (List D)} {ρ : Rho} {ys : List D} (h : gk ρ = some ys) : gAppP idx gNil gk ρ = some (perm idx ys) := by
  unfold gAppP
  rw [show gNil ρ = some [] from rfl, Option.bind_some, h]
  rfl
theorem ne_self {k : Nat} {d : D} {p : PyData} (h : Pd k d p) (hk : k ≤ 64) (hq : PyData.eqv p p = true) : oNe d d = some (.bl false) := by
  rw [oNe_pd h h hk hk, hq]
  rfl
theorem pd_pair {k : Nat} {w : Str} {d : D} {p : PyData} (hw : (PyData.str w).canLay0 = true) (h : Pd k d p) : Pd (k + 1) (.lst [.str w, d]) (.list [.str w, p]) where
  py := by simp only [pyd, pyds, h.py]; rfl
  cl := by simp only [PyData.canLay0, PyData.canLayAll0, h.cl, Bool.and_true]; simpa only [PyData.canLay0] using hw
  dp := by
    have := h.dp
    simp only [PyData.depth, PyData.depthAll]
    omega
theorem eqv_pair {w : Str} {p : PyData} (h : PyData.eqv p p = true) : PyData.eqv (.list [.str w, p]) (.list [.str w, p]) = true := by
  simp only [PyData.eqv, PyData.eqvAll, h]
  simp
end DL
namespace Lw
open PySem PySem.Spec PyProof.Rows L2 DL
section
variable {m : Nat} {ps : List (Int × Int)} {lo : List Int} {hs : List (Option Int)} {sd : List (List Int)} {mg : Int → Bool} {d : D} {g : List Int}
theorem single_ok {s : D} {word : Str} {k : Nat} {due : Bool} (hw : (PyData.str word).canLay0 = true) (ob : ∀ v, items v = some [.str word, .int (k : Nat)] → g_is_obstacle [s, v] = some (.bl due)) : g_law_single [s, .str word, .int (k : Nat), .bl due] = some (.bl true) := by
  refine Dn.eq (ok_dn rfl ?_)
  refine ok_set (ofL_ok (len1_ok (cons_ok rfl (cons_ok rfl rfl)) (by show 2 ≤ big; decide))) ?_
  refine ok_set (call_ok (cons_ok rfl (cons_ok rfl rfl)) (ob _ rfl)) ?_
  refine ok_set (call_ok (appP_ok (cons_ok (tup_ok (cons_ok rfl (cons_ok rfl rfl)) (by show 2 ≤ big; decide)) (cons_ok rfl rfl))) (ob _ rfl)) ?_
  have pd := pd_pair (w := word) (d := .int (k : Nat)) hw (eInt.h (k : Nat))
  refine ok_if _ (orT_ok (notT_ok (gB_ok (call_ok (cons_ok rfl (cons_ok rfl rfl)) isi_bool))) (orT_ok (notT_ok (gB_ok (call_ok (cons_ok rfl (cons_ok rfl rfl)) isi_bool))) (gB_ok (op_ok rfl (ofL_ok (len1_ok (cons_ok rfl (cons_ok rfl rfl)) (by show 2 ≤ big; decide))) (ne_self pd (by decide) (eqv_pair (by rw [eInt.q]; simp))))))) (fun h => by cases h) fun _ => ok_next ?_
  refine ok_ret (and_ok (op_ok rfl rfl (oEq_bl due due)) (op_ok rfl rfl (oEq_bl due due))) ⟨_, rfl, ?_⟩
  simp
theorem singles_ok {x : List D} (hm : m ≤ 24) (hp : ps.length ≤ 48) (bd : Bd m ps.length lo hs sd) : g_law_singles [dS m ps lo hs sd, dW m ps lo hs sd x] = some (.bl true) := by
  refine Dn.eq (ok_dn rfl ?_)
  obtain ⟨w0, w1, w2, w3, w4⟩ := wix (m := m) (ps := ps) (lo := lo) (hs := hs) (sd := sd) (x := x)
  refine ok_for (ds := rangeD ps.length) (fun i ρ => ∃ a : B, ρ = [.sh (dS m ps lo hs sd), .sh (dW m ps lo hs sd x), a, .un, .un]) (range_ok (by rw [len_ok (op_ok rfl rfl w1) rfl, List.length_map]) (by omega)) ⟨.un, rfl⟩ (fun i e ρ hi he => ?_) fun ρ => ?_
  · rintro ⟨a, rfl⟩
    rw [rangeD_len] at hi
    cases rangeD_get he
    have ks : i < sd.length := by rw [bd.l3]; exact hi
    have xs : oIx (.lst (sd.map eRow.e)) (.int (i : Nat)) = some (eRow.e (sd.getD i [])) := ix_nat rfl (encGet eRow [] ks)
    refine ⟨_, rfl, ok_if _ (notT_ok (gB_ok (call_ok (cons_ok rfl (cons_ok rfl (cons_ok rfl (cons_ok ((op_ok (len_ok (op_ok (op_ok rfl rfl w4) rfl xs) rfl) rfl (oEq_int _ _)).trans (?_ : _ = some (.bl (decide ((sd.getD i []).length = 0))))) rfl)))) (single_ok (by decide +kernel) fun v hv => ob_sluice bd hi hv)))) (fun h => by cases h) fun _ => ok_next (ok_next ⟨_, rfl, _, rfl⟩)⟩
    rw [show (List.map eInt.e (sd.getD i [])).length = (sd.getD i []).length from List.length_map ..]
    congr 2
    exact decide_eq_decide.mpr ⟨fun h => by omega, fun h => by omega⟩
  rintro ⟨a, rfl⟩
  refine ok_for (ds := rangeD m) (fun i ρ => ∃ b c : B, ρ = [.sh (dS m ps lo hs sd), .sh (dW m ps lo hs sd x), a, b, c]) (range_ok (op_ok rfl rfl w0) (by omega)) ⟨.un, .un, rfl⟩ (fun i e ρ hi he => ?_) fun ρ => ?_
  · rintro ⟨b, c, rfl⟩
    rw [rangeD_len] at hi
    cases rangeD_get he
    have xl : oIx (.lst (lo.map D.int)) (.int (i : Nat)) = some (.int (lo.getD i 0)) := ixL (by rw [bd.l1]; exact hi)
    have xh : oIx (.lst (hs.map eOpt.e)) (.int (i : Nat)) = some (eOpt.e (hs.getD i none)) := ix_nat rfl (encGet eOpt none (by rw [bd.l2]; exact hi))
    refine ⟨_, rfl, ok_set (d := .bl (limLt (hs.getD i none) (lo.getD i 0))) ?_ ?_⟩
    · cases hq : hs.getD i none with
      | none =>
        rw [hq] at xh
        exact and_f (op_ok (op_ok (op_ok rfl rfl w3) rfl xh) rfl rfl)
      | some y =>
        rw [hq] at xh
        have xh' : oIx (.lst (hs.map eOpt.e)) (.int (i : Nat)) = some (.int y) := xh
        exact and_t (op_ok (op_ok (op_ok rfl rfl w3) rfl xh') rfl rfl) (op_ok (op_ok (op_ok rfl rfl w3) rfl xh') (op_ok (op_ok rfl rfl w2) rfl xl) lt_int)
    · exact ok_if _ (notT_ok (gB_ok (call_ok (cons_ok rfl (cons_ok rfl (cons_ok rfl (cons_ok rfl rfl)))) (single_ok (by decide +kernel) fun v hv => ob_mill bd hi hv)))) (fun h => by cases h) fun _ => ok_next (ok_next ⟨_, rfl, _, _, rfl⟩)
  · rintro ⟨b, c, rfl⟩
    exact ok_ret rfl ⟨_, rfl, rfl⟩
theorem dN_eq : dN ps lo hs sd mg m = .lst (([some (nGain ps sd mg), some (nLoad ps sd mg), some (nWant lo mg m), nBear hs mg m] : List (Option Int)).map eOpt.e) := rfl
theorem right_ok {named : Bool} (hm : m ≤ 24) (hp : ps.length ≤ 48) (bd : Bd m ps.length lo hs sd) (G : Grp m mg d g) : g_law_right [dS m ps lo hs sd, dN ps lo hs sd mg m, d, .bl named] = some (.bl true) := by
  refine Dn.eq (ok_dn rfl ?_)
  have c1 := gain_ok hp bd G
  have c2 := load_ok hp bd G
  have c3 := want_ok hm bd G
  have c4 := bear_ok hm bd G
  refine ok_set (d := .lst (g.map D.int)) (ofL_ok (listOf_ok rfl G.it)) ?_
  refine ok_join (fun ρ => ρ = [.sh (dS m ps lo hs sd), .sh (dN ps lo hs sd mg m), .sh d, .sh (.bl named), .sh (.lst (g.map D.int)), .sh (dN ps lo hs sd mg m), .un]) (ok_ifS named (gB_ok rfl) (fun _ => ?_) fun _ => ?_) ?_
  · refine ok_set (d := .lst [.int (nGain ps sd mg), .int (nLoad ps sd mg)]) (ofL_ok (len1_ok (cons_ok (call_ok (appP_ok (cons_ok rfl (cons_ok rfl rfl))) c1) (cons_ok (call_ok (appP_ok (cons_ok rfl (cons_ok rfl rfl))) c2) rfl)) (by show 2 ≤ big; decide))) ?_
    exact ok_set (d := dN ps lo hs sd mg m) (op_ok rfl (ofL_ok (len1_ok (cons_ok (call_ok (appP_ok (cons_ok rfl (cons_ok rfl rfl))) c3) (cons_ok (call_ok (appP_ok (cons_ok rfl (cons_ok rfl rfl))) c4) rfl)) (by show 2 ≤ big; decide))) (addL (by show 2 + 2 ≤ 10000; omega))) (ok_next ⟨_, rfl, rfl⟩)
  · exact ok_set (d := dN ps lo hs sd mg m) (ofL_ok (len1_ok (cons_ok (call_ok (cons_ok rfl (cons_ok rfl rfl)) c1) (cons_ok (call_ok (cons_ok rfl (cons_ok rfl rfl)) c2) (cons_ok (call_ok (cons_ok rfl (cons_ok rfl rfl)) c3) (cons_ok (call_ok (cons_ok rfl (cons_ok rfl rfl)) c4) rfl)))) (by show 4 ≤ big; decide))) (ok_next ⟨_, rfl, rfl⟩)
  rintro _ rfl
  refine ok_if _ (gB_ok (op_ok (ofL_ok (listOf_ok rfl G.it)) rfl (eInt.lst.ne (by decide) g g))) (fun h => by simp at h) fun _ => ok_next ?_
  have x3 : oIx (dN ps lo hs sd mg m) (.int 3) = some (eOpt.e (nBear hs mg m)) := rfl
  refine ok_if _ (andT_ok (gB_ok (op_ok (op_ok rfl rfl x3) rfl oIs_opt0)) (gB_ok (op_ok (op_ok rfl rfl x3) rfl oIs_opt))) (fun h => by cases hq : nBear hs mg m <;> rw [hq] at h <;> cases h) fun _ => ok_next ?_
  refine ok_for (ds := rangeD 4) (fun i ρ => ∃ a : B, ρ = [.sh (dS m ps lo hs sd), .sh (dN ps lo hs sd mg m), .sh d, .sh (.bl named), .sh (.lst (g.map D.int)), .sh (dN ps lo hs sd mg m), a]) (range_ok rfl (by omega)) ⟨.un, rfl⟩ (fun i e ρ hi he => ?_) fun ρ => ?_
  · rintro ⟨a, rfl⟩
    rw [rangeD_len] at hi
    cases rangeD_get he
    have xi : oIx (dN ps lo hs sd mg m) (.int (i : Nat)) = some (eOpt.e (([some (nGain ps sd mg), some (nLoad ps sd mg), some (nWant lo mg m), nBear hs mg m] : List (Option Int)).getD i none)) := ix_nat rfl (encGet eOpt (T := [some (nGain ps sd mg), some (nLoad ps sd mg), some (nWant lo mg m), nBear hs mg m]) none hi)
    generalize ([some (nGain ps sd mg), some (nLoad ps sd mg), some (nWant lo mg m), nBear hs mg m] : List (Option Int)).getD i none = o at xi
    refine ⟨_, rfl, ?_⟩
    cases o with
    | none => exact ok_if _ (andT_f (gB_ok (op_ok (op_ok rfl rfl xi) rfl oIs_opt))) (fun h => by cases h) fun _ => ok_next (ok_next ⟨_, rfl, _, rfl⟩)
    | some z =>
      refine ok_if _ (andT_t (gB_ok (op_ok (op_ok rfl rfl xi) rfl oIs_opt)) (orT_ok (notT_ok (gB_ok (call_ok (cons_ok (op_ok rfl rfl xi) rfl) (law_whole_int z)))) (gB_ok (op_ok (op_ok rfl rfl xi) (op_ok rfl rfl xi) (oNe_int z z))))) (fun h => ?_) fun _ => ok_next (ok_next ⟨_, rfl, _, rfl⟩)
      simp at h
  · rintro ⟨a, rfl⟩
    exact ok_ret rfl ⟨_, rfl, rfl⟩
theorem pd_shown (h : d = .lst (g.map D.int) ∨ d = .tup (g.map D.int)) : ∃ p, Pd 1 d p ∧ PyData.eqv p p = true := by
  rcases h with rfl | rfl
  · exact ⟨_, eInt.lst.h g, by rw [eInt.lst.q]; simp⟩
  · exact ⟨_, eInt.tup.h g, by rw [eInt.tup.q]; simp⟩
theorem both_ok {form : Int} (hf : form = 0 ∨ form = 1) (hm : m ≤ 24) (hp : ps.length ≤ 48) (bd : Bd m ps.length lo hs sd) (G : Grp m mg d g) (hd : d = .lst (g.map D.int) ∨ d = .tup (g.map D.int)) : g_law_both [dS m ps lo hs sd, dN ps lo hs sd mg m, d, .int form] = some (.bl true) := by
  refine Dn.eq (ok_dn rfl ?_)
  obtain ⟨p, pd, pq⟩ := pd_shown hd
  obtain ⟨w, hw1, hw2, hw3⟩ : ∃ w : Str, oIx (.lst [.str "bears", .str "wants"]) (.int form) = some (.str w) ∧ (PyData.str w).canLay0 = true ∧ (form = 0 → w = "bears") ∧ (form = 1 → w = "wants") := by
    rcases hf with rfl | rfl
    · exact ⟨"bears", rfl, (by decide +kernel), fun _ => rfl, fun h => absurd h (by decide)⟩
    · exact ⟨"wants", rfl, (by decide +kernel), fun h => absurd h (by decide), fun _ => rfl⟩
  have t2 : ∀ v, items v = some [.str "wants", d] → g_is_obstacle [dS m ps lo hs sd, v] = some (.bl (decide (nGain ps sd mg < nWant lo mg m))) := fun v hv => ob_wants hm hp bd G hv
  have t1 : ∀ v, items v = some [.str "bears", d] → g_is_obstacle [dS m ps lo hs sd, v] = some (.bl (limLt (nBear hs mg m) (nLoad ps sd mg))) := fun v hv => ob_bears hm hp bd G hv
  refine ok_set (d := .lst (g.map D.int)) (ofL_ok (listOf_ok rfl G.it)) ?_
  refine ok_set (op_ok (ofL_ok (len1_ok (cons_ok rfl (cons_ok rfl rfl)) (by show 2 ≤ big; decide))) rfl hw1) ?_
  refine ok_set (d := .lst [.str w, d]) (ofL_ok (len1_ok (cons_ok rfl (cons_ok rfl rfl)) (by show 2 ≤ big; decide))) ?_
  refine ok_join (fun ρ => ρ = [.sh (dS m ps lo hs sd), .sh (dN ps lo hs sd mg m), .sh d, .sh (.int form), .sh (.lst (g.map D.int)), .sh (.str w), .sh (.lst [.str w, d]), .sh (.bl (decide (nGain ps sd mg < nWant lo mg m))), .sh (.bl (limLt (nBear hs mg m) (nLoad ps sd mg)))]) (ok_ifS _ (gB_ok (op_ok rfl rfl (oEq_int _ _))) (fun h => ?_) fun h => ?_) ?_
  · have e := hw3.1 (of_decide_eq_true h)
    subst e
    exact ok_set (call_ok (cons_ok rfl (cons_ok (tup_ok (cons_ok rfl (cons_ok rfl rfl)) (by show 2 ≤ big; decide)) rfl)) (t2 _ rfl)) (ok_set (call_ok (appP_ok (cons_ok rfl (cons_ok rfl rfl))) (t1 _ rfl)) (ok_next ⟨_, rfl, rfl⟩))
  · have e := hw3.2 (by have := of_decide_eq_false h; omega)
    subst e
    exact ok_set (call_ok (appP_ok (cons_ok rfl (cons_ok rfl rfl))) (t2 _ rfl)) (ok_set (call_ok (cons_ok rfl (cons_ok (tup_ok (cons_ok rfl (cons_ok rfl rfl)) (by show 2 ≤ big; decide)) rfl)) (t1 _ rfl)) (ok_next ⟨_, rfl, rfl⟩))
  rintro _ rfl
  refine ok_if _ (orT_ok (notT_ok (gB_ok (call_ok (cons_ok rfl (cons_ok rfl rfl)) isi_bool))) (orT_ok (notT_ok (gB_ok (call_ok (cons_ok rfl (cons_ok rfl rfl)) isi_bool))) (orT_ok (gB_ok (op_ok rfl (ofL_ok (len1_ok (cons_ok rfl (cons_ok rfl rfl)) (by show 2 ≤ big; decide))) (ne_self (pd_pair hw2 pd) (by decide) (eqv_pair pq)))) (gB_ok (op_ok (ofL_ok (listOf_ok rfl G.it)) rfl (eInt.lst.ne (by decide) g g)))))) (fun h => by simp at h) fun _ => ok_next ?_
  refine ok_if _ (gB_ok (op_ok rfl (op_ok (op_ok rfl rfl rfl) (op_ok rfl rfl rfl) gt_int) (oNe_bl _ _))) (fun h => by simp at h) fun _ => ok_next ?_
  have e3 : gAnd (gOp (oIs true) (gOp oIx (gV 1) (gC (.int 3))) (gC .non)) (gOp dGt (gOp oIx (gV 1) (gC (.int 1))) (gOp oIx (gV 1) (gC (.int 3)))) [.sh (dS m ps lo hs sd), .sh (dN ps lo hs sd mg m), .sh d, .sh (.int form), .sh (.lst (g.map D.int)), .sh (.str w), .sh (.lst [.str w, d]), .sh (.bl (decide (nGain ps sd mg < nWant lo mg m))), .sh (.bl (limLt (nBear hs mg m) (nLoad ps sd mg)))] = some (.bl (limLt (nBear hs mg m) (nLoad ps sd mg))) := by
    have x3 : oIx (dN ps lo hs sd mg m) (.int 3) = some (eOpt.e (nBear hs mg m)) := rfl
    cases hq : nBear hs mg m with
    | none =>
      rw [hq] at x3
      exact and_f (op_ok (op_ok rfl rfl x3) rfl rfl)
    | some y =>
      rw [hq] at x3
      have x3' : oIx (dN ps lo hs sd mg m) (.int 3) = some (.int y) := x3
      exact and_t (op_ok (op_ok rfl rfl x3') rfl rfl) (op_ok (op_ok rfl rfl rfl) (op_ok rfl rfl x3') gt_int)
  exact ok_ret (op_ok rfl e3 (oEq_bl _ _)) ⟨_, rfl, by simp⟩
theorem kept_ok {x : List D} (bd : Bd m ps.length lo hs sd) : g_law_kept [dS m ps lo hs sd, dW m ps lo hs sd x] = some (.bl true) := by
  refine Dn.eq (ok_dn rfl ?_)
  obtain ⟨w0, w1, w2, w3, w4⟩ := wix (m := m) (ps := ps) (lo := lo) (hs := hs) (sd := sd) (x := x)
  refine ok_if _ (orT_ok (gB_ok (op_ok (fldC (fldC rfl lk_valley) lk_mills) (op_ok rfl rfl w0) (oNe_int _ _))) (gB_ok (op_ok (fldC (fldC rfl lk_valley) lk_sluices) (tupOf_ok (op_ok rfl rfl w1) rfl) (ePair.tup.ne (by decide) ps ps)))) (fun h => by simp at h) fun _ => ok_next ?_
  refine ok_ret (and_ok (op_ok (fldC rfl lk_needs) (tupOf_ok (op_ok rfl rfl w2) rfl) (eInt.tup.eq (by decide) lo lo)) (and_ok (op_ok (fldC rfl lk_limits) (tupOf_ok (op_ok rfl rfl w3) rfl) (eOpt.tup.eq (by decide) hs hs)) (op_ok (fldC rfl lk_sides) (tupOf_ok (op_ok rfl rfl w4) rfl) (eRow.tup.eq (by decide) sd sd)))) ⟨_, rfl, ?_⟩
  simp
theorem hd_rows (sd : List (List Int)) : Hd (sd.map eRow.e) sd (fun l => l.map D.int) := ⟨by rw [List.length_map], fun k a h => ⟨eRow.e a, by rw [List.getElem?_map, h]; rfl, rfl⟩⟩
theorem hd_pairs (ps : List (Int × Int)) : Hd (ps.map ePair.e) ps pD := ⟨by rw [List.length_map], fun k a h => ⟨ePair.e a, by rw [List.getElem?_map, h]; rfl, rfl⟩⟩
theorem season_ok {x : List D} (hm : m ≤ 24) (hp : ps.length ≤ 48) (vp : VP m ps) (bd : Bd m ps.length lo hs sd) : g_law_season [dW m ps lo hs sd x] = some (dS m ps lo hs sd) := by
  refine Dn.eq (ok_dn rfl ?_)
  obtain ⟨w0, w1, w2, w3, w4⟩ := wix (m := m) (ps := ps) (lo := lo) (hs := hs) (sd := sd) (x := x)
  refine ok_ret (make_ok (app2_ok (cons_ok (make_ok (cons_ok (op_ok rfl rfl w0) (cons_ok (ofL_ok (listOf_ok (op_ok rfl rfl w1) rfl)) rfl)) fun y => valley_ok hp vp rfl (hd_pairs ps) y) rfl) (cons_ok (ofL_ok (listOf_ok (op_ok rfl rfl w2) rfl)) (cons_ok (ofL_ok (listOf_ok (op_ok rfl rfl w3) rfl)) (cons_ok (ofL_ok (listOf_ok (op_ok rfl rfl w4) rfl)) rfl)))) fun y => sinit_ok hm hp bd rfl rfl rfl (hd_rows sd) y) ⟨_, rfl, rfl⟩
theorem sharing_ok {x : List D} {b : Bool} {lo' : List Int} {hs' : List (Option Int)} {sd' : List (List Int)} (hm : m ≤ 24) (hp : ps.length ≤ 48) (vp : VP m ps) (bd : Bd m ps.length lo hs sd) : g_law_sharing [dS m ps lo' hs' sd', dW m ps lo hs sd x, .bl b] = some (dS m ps lo hs sd) := by
  refine Dn.eq (ok_dn rfl ?_)
  obtain ⟨w0, w1, w2, w3, w4⟩ := wix (m := m) (ps := ps) (lo := lo) (hs := hs) (sd := sd) (x := x)
  refine ok_set (d := dV m ps) (if_ok (gB_ok rfl) (fun _ => fldC rfl lk_valley) fun _ => make_ok (cons_ok (op_ok rfl rfl w0) (cons_ok (ofL_ok (listOf_ok (op_ok rfl rfl w1) rfl)) rfl)) fun y => valley_ok hp vp rfl (hd_pairs ps) y) ?_
  refine ok_ret (make_ok (app2_ok (cons_ok rfl rfl) (cons_ok (ofL_ok (listOf_ok (op_ok rfl rfl w2) rfl)) (cons_ok (ofL_ok (listOf_ok (op_ok rfl rfl w3) rfl)) (cons_ok (ofL_ok (listOf_ok (op_ok rfl rfl w4) rfl)) rfl)))) fun y => sinit_ok hm hp bd rfl rfl rfl (hd_rows sd) y) ⟨_, rfl, rfl⟩
/-! ### lots as they are shown -/
theorem any_cong {g g' : List Int} (h : ∀ x, x ∈ g' ↔ x ∈ g) (i : Int) : (g'.any fun b => b == i) = (g.any fun b => b == i) := by
  rw [Bool.eq_iff_iff, List.any_eq_true, List.any_eq_true]
  constructor
  · rintro ⟨b, h1, h2⟩
    exact ⟨b, (h b).mp h1, h2⟩
  · rintro ⟨b, h1, h2⟩
    exact ⟨b, (h b).mpr h1, h2⟩
/-- a lot: mills, at most 24 -/
def Lot (m : Nat) (g : List Int) : Prop := (∀ x ∈ g, 0 ≤ x ∧ x < m) ∧ g.length ≤ 24
abbrev mOf (g : List Int) : Int → Bool := fun i => g.any fun b => b == i
theorem grp_of {g g' : List Int} {d : D} (L : Lot m g) (hi : items d = some (g'.map D.int)) (h : ∀ x, x ∈ g' ↔ x ∈ g) (hl : g'.length ≤ 48) : Grp m (mOf g) d g' := ⟨hi, any_cong h, fun i hq => by
  obtain ⟨b, h1, h2⟩ := List.any_eq_true.mp hq
  have e : b = i := by simpa using h2
  rw [← e]
  exact L.1 b h1, by omega⟩
theorem shown_ok {k : Int} (L : Lot m g) : Dn (g_law_shown [.tup (g.map D.int), .int k]) fun d => ∃ g', (d = .lst (g'.map D.int) ∨ d = .tup (g'.map D.int)) ∧ Grp m (mOf g) d g' := by
  have ll := L.2
  have q : ∀ (d : D) (g' : List Int), (d = .lst (g'.map D.int) ∨ d = .tup (g'.map D.int)) → (∀ x, x ∈ g' ↔ x ∈ g) → g'.length ≤ 48 → ∃ g', (d = .lst (g'.map D.int) ∨ d = .tup (g'.map D.int)) ∧ Grp m (mOf g) d g' := fun d g' hd hx hl => ⟨g', hd, grp_of L (by rcases hd with rfl | rfl <;> rfl) hx hl⟩
  refine ok_dn rfl ?_
  refine ok_if _ (gB_ok (op_ok (op_ok (call_ok (cons_ok rfl rfl) int1) rfl (mod_ok (by omega))) rfl (oEq_int _ _))) (fun _ => ?_) fun _ => ok_next ?_
  · refine ok_ret (ofL_ok (comp_mapE eInt (fun j => g.getD (g.length - 1 - j) 0) (range_ok (len_ok rfl rfl) (by rw [List.length_map]; omega)) (by rw [List.length_map]; omega) fun j hj => ?_)) ⟨_, rfl, q _ _ (.inl rfl) (fun x => ?_) (by simp; omega)⟩
    · rw [List.length_map] at hj
      refine ⟨_, rfl, op_ok rfl (op_ok (op_ok (len_ok rfl rfl) rfl sub_int) rfl sub_int) ?_⟩
      rw [List.length_map, show (g.length : Int) - 1 - (j : Int) = ((g.length - 1 - j : Nat) : Int) by omega]
      exact ixT (by omega)
    · rw [List.length_map, List.mem_map]
      constructor
      · rintro ⟨j, hj, rfl⟩
        have := List.mem_range.mp hj
        exact getD_mem (by omega)
      · intro hx
        obtain ⟨i, hi, e⟩ := List.getElem_of_mem hx
        refine ⟨g.length - 1 - i, List.mem_range.mpr (by omega), ?_⟩
        rw [show g.length - 1 - (g.length - 1 - i) = i by omega, List.getD_eq_getElem?_getD, List.getElem?_eq_getElem hi]
        exact e
  refine ok_if _ (gB_ok (op_ok (op_ok (call_ok (cons_ok rfl rfl) int1) rfl (mod_ok (by omega))) rfl (oEq_int _ _))) (fun _ => ?_) fun _ => ok_next ?_
  · refine ok_ret ((op_ok (ofL_ok (listOf_ok rfl rfl)) (ofL_ok (listOf_ok rfl rfl)) (addL (by rw [List.length_map]; omega))).trans (by rw [← List.map_append])) ⟨_, rfl, q _ (g ++ g) (.inl rfl) (fun x => by simp) (by rw [List.length_append]; omega)⟩
  refine ok_if _ (gB_ok (op_ok (op_ok (call_ok (cons_ok rfl rfl) int1) rfl (mod_ok (by omega))) rfl (oEq_int _ _))) (fun _ => ?_) fun _ => ok_next ?_
  · refine ok_ret ((op_ok (slT_from (k := 1) rfl rfl) (slT_to (k := 2) rfl rfl) (addT (by rw [List.length_drop, List.length_take, List.length_map]; omega))).trans (by rw [← List.map_drop, ← List.map_take, ← List.map_append])) ⟨_, rfl, q _ (g.drop 1 ++ g.take 2) (.inr rfl) (fun x => ?_) (by rw [List.length_append, List.length_drop, List.length_take]; omega)⟩
    cases g with
    | nil => simp
    | cons a t =>
      rw [List.mem_append]
      constructor
      · rintro (h | h)
        · exact List.mem_of_mem_drop h
        · exact List.mem_of_mem_take h
      · intro h
        rcases List.mem_cons.mp h with e | e
        · exact .inr (by rw [e]; simp)
        · exact .inl (by simpa using e)
  · exact ok_ret rfl ⟨_, rfl, q _ g (.inr rfl) (fun x => Iff.rfl) (by omega)⟩
end
end Lw

/-! part N4 -/
set_option Elab.async false
set_option linter.all false
set_option maxRecDepth 100000
set_option maxHeartbeats 2000000
namespace Lw
open PySem PySem.Spec PyProof.Rows L2 DL
theorem fl_lot {m n : Nat} {c : Nat → Bool} (h : n ≤ m) (hm : m ≤ 24) : Lot m (fl n c) := ⟨fun x hx => by
  have := fl_mem.mp hx
  omega, Nat.le_trans (fl_len _ _) (by omega)⟩
theorem lot_nil {m : Nat} : Lot m [] := ⟨fun x h => absurd h (by simp), by simp⟩
theorem rows_app (T S : List (List Int)) : T.map eRow.e ++ S.map eRow.e = (T ++ S).map eRow.e := by rw [List.map_append]
/-- the subsets that the layers grow: all of them lots, not too many -/
theorem subsets_ok {m : Nat} {every : List Int} (hm : m ≤ 5) (he : Lot m every) (hl : every.length ≤ 5) : Dn (g_law_subsets [.lst (every.map D.int), .int (m : Nat)]) fun d => ∃ T : List (List Int), d = .lst (T.map eRow.e) ∧ T.length ≤ 7000 ∧ ∀ g ∈ T, Lot m g := by
  refine ok_dn rfl ?_
  refine ok_set (d := .lst (([[]] : List (List Int)).map eRow.e)) (ofL_ok (len1_ok (cons_ok (tup_ok rfl (by decide)) rfl) (by show 1 ≤ big; decide))) ?_
  refine ok_set (d := .lst (([[]] : List (List Int)).map eRow.e)) (ofL_ok (len1_ok (cons_ok (tup_ok rfl (by decide)) rfl) (by show 1 ≤ big; decide))) ?_
  have pw : ∀ i, i ≤ 5 → 0 < 5 ^ i ∧ 5 ^ i ≤ 3125 := fun i hi => ⟨Nat.pow_pos (by omega), Nat.pow_le_pow_right (n := 5) (by omega) hi⟩
  obtain ⟨n, hn, hn5⟩ : ∃ n : Nat, (if (every.length : Int) < (m : Int) then (every.length : Int) else (m : Int)) = (n : Int) ∧ n ≤ 5 := by
    by_cases h : (every.length : Int) < (m : Int)
    · exact ⟨every.length, by rw [if_pos h], hl⟩
    · exact ⟨m, by rw [if_neg h], hm⟩
  refine ok_for (ds := rangeD n) (fun i ρ => ∃ (x y z w : B) (T S : List (List Int)), T.length ≤ 5 ^ i ∧ (∀ g ∈ T, g.length ≤ i ∧ ∀ x ∈ g, 0 ≤ x ∧ x < m) ∧ S.length ≤ 2 * 5 ^ i ∧ (∀ g ∈ S, Lot m g) ∧ ρ = [.sh (.lst (every.map D.int)), .sh (.int (m : Nat)), .sh (.lst (T.map eRow.e)), .sh (.lst (S.map eRow.e)), x, y, z, w])
    (range_ok ((call_ok (cons_ok rfl (cons_ok (len_ok rfl rfl) rfl)) min2).trans (by rw [List.length_map, hn])) (by omega)) ⟨.un, .un, .un, .un, [[]], [[]], by simp, fun g h => by rw [List.mem_singleton] at h; subst h; exact ⟨Nat.le_refl _, fun x h => by cases h⟩, by simp, fun g h => by rw [List.mem_singleton] at h; subst h; exact lot_nil, rfl⟩ (fun i e ρ hi he' => ?_) fun ρ => ?_
  · rintro ⟨x, y, z, w, T, S, hT, hg, hS, hLs, rfl⟩
    rw [rangeD_len] at hi
    cases rangeD_get he'
    have p := pw i (by omega)
    have p2 := pw (i + 1) (by omega)
    have p3 : 5 ^ (i + 1) = 5 * 5 ^ i := by rw [Nat.pow_succ]; omega
    refine ⟨_, rfl, ok_setOw (ds := []) rfl ?_⟩
    refine ok_for (ds := T.map eRow.e) (fun j ρ => ∃ (z w : B) (L : List (List Int)), L.length ≤ 5 * j ∧ (∀ g ∈ L, g.length ≤ i + 1 ∧ ∀ x ∈ g, 0 ≤ x ∧ x < m) ∧ ρ = [.sh (.lst (every.map D.int)), .sh (.int (m : Nat)), .sh (.lst (T.map eRow.e)), .sh (.lst (S.map eRow.e)), .sh (.int (i : Nat)), .ow (.lst (L.map eRow.e)), z, w]) (seqOf_ok (v_ok rfl) rfl) ⟨_, _, [], by simp, (fun g h => by cases h), rfl⟩ (fun j e ρ hj he' => ?_) fun ρ => ?_
    · rintro ⟨z, w, L, hL, hgL, rfl⟩
      rw [List.length_map] at hj
      rw [encGet eRow [] hj] at he'
      cases he'
      have hp := hg _ (gD_mem (d0 := []) hj)
      generalize T.getD j [] = part at hp
      refine ⟨_, rfl, ok_for (ds := every.map D.int) (fun t ρ => ∃ (w : B) (L : List (List Int)), L.length ≤ 5 * j + t ∧ (∀ g ∈ L, g.length ≤ i + 1 ∧ ∀ x ∈ g, 0 ≤ x ∧ x < m) ∧ ρ = [.sh (.lst (every.map D.int)), .sh (.int (m : Nat)), .sh (.lst (T.map eRow.e)), .sh (.lst (S.map eRow.e)), .sh (.int (i : Nat)), .ow (.lst (L.map eRow.e)), .sh (eRow.e part), w]) (seqOf_ok (v_ok rfl) rfl) ⟨_, L, hL, hgL, rfl⟩ (fun t e ρ ht he' => ?_) fun ρ => ?_⟩
      · rintro ⟨w, L, hL, hgL, rfl⟩
        rw [List.length_map] at ht
        rw [getD_get ht] at he'
        cases he'
        have hx := he.1 _ (getD_mem ht)
        generalize every.getD t 0 = v at hx
        obtain ⟨b, hb⟩ : ∃ b : Bool, gOrT (gB (gOp oEq (gUn oLen (gV 6)) (gC (.int 0)))) (gB (gOp dGt (gV 7) (gOp oIx (gV 6) (gUn (fun d => (asI d).bind fun i => some (.int (-i))) (gC (.int 1)))))) [.sh (.lst (every.map D.int)), .sh (.int (m : Nat)), .sh (.lst (T.map eRow.e)), .sh (.lst (S.map eRow.e)), .sh (.int (i : Nat)), .ow (.lst (L.map eRow.e)), .sh (eRow.e part), .sh (.int v)] = some b := by
          by_cases h0 : part.length = 0
          · refine ⟨true, orT_t ((gB_ok (op_ok (len_ok rfl rfl) rfl (oEq_int _ _))).trans ?_)⟩
            rw [List.length_map]
            simp [h0]
          · have hlast : oIx (eRow.e part) (.int (-1)) = some (.int (part.getD (part.length - 1) 0)) := by
              show (some (part.map D.int)).bind (fun ds => atI ds (-1)) = _
              rw [Option.bind_some]
              unfold atI ixN
              rw [if_neg (by omega), List.length_map, if_pos (by omega)]
              show (part.map D.int)[((-1 : Int) + (part.length : Int)).toNat]? = _
              rw [show ((-1 : Int) + (part.length : Int)).toNat = part.length - 1 by omega]
              exact getD_get (by omega)
            exact ⟨_, orT_ok (gB_ok (op_ok (len_ok rfl rfl) rfl (oEq_int _ _))) (gB_ok (op_ok rfl (op_ok rfl rfl hlast) gt_int))⟩
        refine ⟨_, rfl, ok_if b hb (fun _ => ?_) fun _ => ok_next (ok_next ⟨_, rfl, _, L, by omega, hgL, rfl⟩)⟩
        refine ok_app rfl (d := .tup ((part ++ [v]).map D.int)) ((op_ok rfl (tup_ok (cons_ok rfl rfl) (by show 1 ≤ big; decide)) (addT (by show (part.map D.int).length + 1 ≤ 10000; rw [List.length_map]; omega))).trans (by rw [List.map_append]; rfl)) (by rw [List.length_map]; exact Nat.lt_of_le_of_lt hL (Nat.lt_of_lt_of_le (show 5 * j + t < 20000 by omega) (by decide))) ?_
        refine ok_next (ok_next ⟨_, rfl, _, L ++ [part ++ [v]], by rw [List.length_append]; simp; omega, all_snoc hgL ⟨by rw [List.length_append]; simp; omega, fun x hx' => ?_⟩, by rw [← rows_snoc]; rfl⟩)
        rcases List.mem_append.mp hx' with q | q
        · exact hp.2 x q
        · rw [List.mem_singleton] at q
          rw [q]
          exact hx
      · rintro ⟨w, L, hL, hgL, rfl⟩
        rw [List.length_map] at hL
        exact ok_next ⟨_, rfl, _, _, L, by omega, hgL, rfl⟩
    · rintro ⟨z, w, L, hL, hgL, rfl⟩
      rw [List.length_map] at hL
      refine ok_set (ofL_ok (listOf_ok (bor_ok rfl) rfl)) (ok_set (d := .lst ((S ++ L).map eRow.e)) ((op_ok rfl rfl (addL (by rw [List.length_map, List.length_map]; omega))).trans (by rw [rows_app])) (ok_next ⟨_, rfl, _, _, _, _, L, S ++ L, by omega, hgL, by rw [List.length_append]; omega, fun g hg' => ?_, rfl⟩))
      rcases List.mem_append.mp hg' with q | q
      · exact hLs g q
      · exact ⟨(hgL g q).2, by have := (hgL g q).1; omega⟩
  · rintro ⟨x, y, z, w, T, S, hT, hg, hS, hLs, rfl⟩
    rw [rangeD_len] at hS
    have p := pw n hn5
    exact ok_ret rfl ⟨_, rfl, S, rfl, by omega, hLs⟩
theorem every_eq (m : Nat) : (List.range m).map (fun i => D.int (i : Nat)) = (fl m fun _ => true).map D.int := by
  unfold fl
  rw [List.filter_eq_self.mpr fun _ _ => rfl, List.map_map]
  rfl
theorem fl_true_len (m : Nat) : (fl m fun _ => true).length = m := by
  unfold fl
  rw [List.filter_eq_self.mpr fun _ _ => rfl, List.length_map, List.length_range]
theorem lots_ok {m : Nat} {row : List Int} (hm0 : 1 ≤ m) (hm : m ≤ 24) (hr : 144 ≤ row.length) : Dn (g_law_lots [.int (m : Nat), .lst (row.map D.int)]) fun d => ∃ T : List (List Int), d = .lst (T.map eRow.e) ∧ T.length ≤ 7000 ∧ ∀ g ∈ T, Lot m g := by
  refine ok_dn rfl ?_
  have le := fl_lot (c := fun _ => true) (Nat.le_refl m) hm
  have ll := fl_true_len m
  refine ok_set (d := .tup ((fl m fun _ => true).map D.int)) (tupOf_ok (ofL_ok (comp_to (ds := rangeD m) (fun i => D.int (i : Nat)) (range_ok rfl (by omega)) (by rw [rangeD_len]; exact Nat.le_trans hm (by decide)) (by rw [rangeD_len, every_eq]) fun i e hi he => ⟨_, rfl, by cases rangeD_get he; rfl⟩)) rfl) ?_
  generalize (fl m fun _ => true) = every at le ll
  refine ok_if _ (gB_ok (op_ok rfl rfl le_int)) (fun h => ?_) fun _ => ok_next ?_
  · have h5 : m ≤ 5 := by have := of_decide_eq_true h; omega
    obtain ⟨d, e, T, rfl, h1, h2⟩ := subsets_ok h5 le (by omega)
    exact ok_ret (call_ok (cons_ok (ofL_ok (listOf_ok rfl rfl)) (cons_ok rfl rfl)) e) ⟨_, rfl, T, rfl, h1, h2⟩
  refine ok_setOw (ds := ([[], every] : List (List Int)).map eRow.e) (len1_ok (cons_ok (tup_ok rfl (by decide)) (cons_ok rfl rfl)) (by show 2 ≤ big; decide)) ?_
  refine ok_for (ds := rangeD m) (fun i ρ => ∃ (x : B) (T : List (List Int)), T.length = 2 + 2 * i ∧ (∀ g ∈ T, Lot m g) ∧ ρ = [.sh (.int (m : Nat)), .sh (.lst (row.map D.int)), .sh (.tup (every.map D.int)), .ow (.lst (T.map eRow.e)), x, .un]) (range_ok rfl (by omega)) ⟨.un, _, rfl, fun g hg => by
      simp only [List.mem_cons, List.not_mem_nil, or_false] at hg
      rcases hg with rfl | rfl
      · exact lot_nil
      · exact le, rfl⟩ (fun i e ρ hi he => ?_) fun ρ => ?_
  · rintro ⟨x, T, hT, hL, rfl⟩
    rw [rangeD_len] at hi
    cases rangeD_get he
    refine ⟨_, rfl, ok_app rfl (d := .tup (([(i : Int)] : List Int).map D.int)) (tup_ok (cons_ok rfl rfl) (by show 1 ≤ big; decide)) (by rw [List.length_map, hT]; exact Nat.lt_of_lt_of_le (show 2 + 2 * i < 1000 by omega) (by decide)) ?_⟩
    refine ok_app (ds := (T ++ [[(i : Int)]]).map eRow.e) (by rw [← rows_snoc]; rfl) (d := .tup ((every.take i ++ every.drop (i + 1)).map D.int)) ((op_ok (slT_to rfl rfl) (slT_from rfl (op_ok rfl rfl addk)) (addT (by rw [List.length_take, List.length_drop, List.length_map]; omega))).trans (by rw [List.map_append, List.map_take, List.map_drop])) (by rw [List.length_map, List.length_append, hT]; exact Nat.lt_of_lt_of_le (show 2 + 2 * i + 1 < 1000 by omega) (by decide)) ?_
    refine ok_next ⟨_, rfl, _, T ++ [[(i : Int)]] ++ [every.take i ++ every.drop (i + 1)], by simp [hT]; omega, all_snoc (all_snoc hL ⟨fun x hx => by rw [List.mem_singleton] at hx; omega, by simp⟩) ⟨fun x hx => ?_, by rw [List.length_append, List.length_take, List.length_drop]; omega⟩, by rw [rows_snoc, rows_snoc]; rfl⟩
    rcases List.mem_append.mp hx with q | q
    · exact le.1 x (List.mem_of_mem_take q)
    · exact le.1 x (List.mem_of_mem_drop q)
  rintro ⟨x, T, hT, hL, rfl⟩
  rw [rangeD_len] at hT
  refine ok_for (ds := rangeD 6) (fun i ρ => ∃ (x y : B) (T : List (List Int)), T.length ≤ 100 + i ∧ (∀ g ∈ T, Lot m g) ∧ ρ = [.sh (.int (m : Nat)), .sh (.lst (row.map D.int)), .sh (.tup (every.map D.int)), .ow (.lst (T.map eRow.e)), x, y]) (range_ok rfl (by omega)) ⟨_, _, T, by omega, hL, rfl⟩ (fun i e ρ hi he => ?_) fun ρ => ?_
  · rintro ⟨x, y, T, hT, hL, rfl⟩
    rw [rangeD_len] at hi
    cases rangeD_get he
    refine ⟨_, rfl, ok_app rfl (d := .tup ((fl m fun j => decide (row.getD (24 * i + j) 0 = 1)).map D.int)) (tupOf_ok (ofL_ok (comp_fl (fun j => decide (row.getD (24 * i + j) 0 = 1)) (range_ok rfl (by omega)) (rangeD_len _) (by omega) fun j e hj he => ?_)) rfl) (by rw [List.length_map]; exact Nat.lt_of_le_of_lt hT (Nat.lt_of_lt_of_le (show 100 + i < 1000 by omega) (by decide))) ?_⟩
    · cases rangeD_get he
      have hx : oIx (.lst (row.map D.int)) (.int (24 * (i : Int) + (j : Int))) = some (.int (row.getD (24 * i + j) 0)) := by
        rw [show 24 * (i : Int) + (j : Int) = ((24 * i + j : Nat) : Int) by omega]
        exact ixL (by omega)
      exact ⟨_, rfl, gB_ok (op_ok (op_ok rfl (op_ok (op_ok rfl rfl (mul_ok (.inl (by omega)))) rfl add_int) hx) rfl (oEq_int _ _)), rfl⟩
    · exact ok_next ⟨_, rfl, _, _, T ++ [fl m fun j => decide (row.getD (24 * i + j) 0 = 1)], by rw [List.length_append]; simp; omega, all_snoc hL (fl_lot (Nat.le_refl _) hm), by rw [← rows_snoc]; rfl⟩
  · rintro ⟨x, y, T, hT, hL, rfl⟩
    rw [rangeD_len] at hT
    exact ok_freezeS rfl (ok_ret rfl ⟨_, rfl, T, rfl, by omega, hL⟩)
end Lw

/-! part N5 -/
set_option Elab.async false
set_option linter.all false
set_option maxRecDepth 100000
set_option maxHeartbeats 2000000
namespace DL
open L2
theorem bor_sh {i : Nat} {ρ : Rho} {d : D} (h : ρ[i]? = some (.sh d)) : gBor i ρ = some d := by
  unfold gBor
  rw [h]
theorem min_nat {a b : Nat} : (if (b : Int) < (a : Int) then (b : Int) else (a : Int)) = ((min a b : Nat) : Int) := by split <;> omega
end DL
namespace Lw
open PySem PySem.Spec PyProof.Rows L2 DL
/-- a world's drawing -/
def Wd (d : D) : Prop := ∃ m ps lo hs sd x, d = dW m ps lo hs sd x ∧ 1 ≤ m ∧ m ≤ 24 ∧ ps.length ≤ 48 ∧ VP m ps ∧ Bd m ps.length lo hs sd
theorem row_ix {row : List Int} {n : Nat} (hl : row.length = n) : ∀ j : Int, 0 ≤ j → j < n → oIx (.lst (row.map D.int)) (.int j) = some (.int (row.getD j.toNat 0)) := fun j h0 h1 => ixL' h0 (by rw [hl]; exact h1)
theorem valley6_ok (row : List Int) (u : Nat) (hr : RowP szS row 17) (hu : u ≤ 7) : Dn (g_law_valley [.lst (row.map D.int), .int (u : Nat)]) fun d => ∃ (m : Nat) (ps : List (Int × Int)) (r2 : Int), d = .lst [.int (m : Nat), .lst (ps.map ePair.e), .int r2] ∧ 1 ≤ m ∧ m ≤ 5 ∧ ps.length ≤ 7 ∧ VP m ps := by
  have hl : row.length = 17 := hr.1
  have hx := row_ix hl
  have h0 := hx 0 (by omega) (by omega)
  have h1 := hx 1 (by omega) (by omega)
  have h2 := hx 2 (by omega) (by omega)
  generalize hr0 : row.getD (Int.toNat 0) 0 = r0 at h0
  generalize hr1 : row.getD (Int.toNat 1) 0 = r1 at h1
  generalize hr2 : row.getD (Int.toNat 2) 0 = r2 at h2
  have b1 : 0 ≤ r1 ∧ r1 < 24 := by
    have := hr.2 1 (by omega)
    rw [← hr1]
    exact this
  obtain ⟨m0, e0, hm0, hm1⟩ := tab_get (T := [3, 3, 4, 2, 4, 3, 5, 3, 4, 3, 2, 4, 3, 3, 4, 2, 4, 3, 5, 3, 4, 3, 2, 4]) (lo := 2) (hi := 5) (j := r0 % 24) (by decide) (by omega) (by simp only [List.length_cons, List.length_nil]; omega)
  obtain ⟨n0, e1, hn0, hn1⟩ := tab_get (T := [4, 5, 3, 6, 5, 4, 7, 5, 4, 6, 5, 2, 4, 5, 3, 6, 5, 4, 7, 5, 4, 6, 5, 2]) (lo := 2) (hi := 7) (j := r1 % 24) (by decide) (by omega) (by simp only [List.length_cons, List.length_nil]; omega)
  refine ok_dn rfl ?_
  have tm := tabm
  have tn := tabn
  refine ok_set (d := .int m0) (by (repeat' (first | with_reducible exact c_ok | with_reducible exact nil_ok | exact v_ok rfl | exact bor_ok rfl | with_reducible apply op_ok | with_reducible apply un_ok | with_reducible apply call_ok | with_reducible apply cons_ok | with_reducible apply gB_ok | with_reducible apply ofL_ok | with_reducible apply len1_okI | with_reducible apply tup_ok | (show List.length (List.cons _ _) ≤ big; simp only [List.length_cons, List.length_nil]; decide) | (show List.length List.nil ≤ big; simp only [List.length_nil]; decide) | with_reducible exact DL.add_int | with_reducible exact DL.sub_int | with_reducible exact DL.lt_int | with_reducible exact DL.le_int | with_reducible exact DL.gt_int | with_reducible exact DL.ge_int | with_reducible exact oEq_int _ _ | with_reducible exact oNe_int _ _ | with_reducible exact int1 | with_reducible exact intb | with_reducible exact abs1 | with_reducible exact min2 | with_reducible exact max2 | with_reducible exact len_lst | with_reducible exact len_tup | with_reducible exact len_scr | with_reducible exact pow1018 | with_reducible exact pow1020 | with_reducible exact mod_ok (by omega) | with_reducible exact fdiv_ok (by omega) | with_reducible exact mul_ok (by unfold CMul; omega) | with_reducible assumption))) ?_
  refine ok_join (fun ρ => ∃ m : Nat, 1 ≤ m ∧ m ≤ 5 ∧ ρ = [.sh (.lst (row.map D.int)), .sh (.int (u : Nat)), .sh (.int (m : Nat)), .un, .un, .un, .un, .un]) (ok_ifS _ (by (repeat' (first | with_reducible exact c_ok | with_reducible exact nil_ok | exact v_ok rfl | exact bor_ok rfl | with_reducible apply op_ok | with_reducible apply un_ok | with_reducible apply call_ok | with_reducible apply cons_ok | with_reducible apply gB_ok | with_reducible apply ofL_ok | with_reducible apply len1_okI | with_reducible apply tup_ok | (show List.length (List.cons _ _) ≤ big; simp only [List.length_cons, List.length_nil]; decide) | (show List.length List.nil ≤ big; simp only [List.length_nil]; decide) | with_reducible exact DL.add_int | with_reducible exact DL.sub_int | with_reducible exact DL.lt_int | with_reducible exact DL.le_int | with_reducible exact DL.gt_int | with_reducible exact DL.ge_int | with_reducible exact oEq_int _ _ | with_reducible exact oNe_int _ _ | with_reducible exact int1 | with_reducible exact intb | with_reducible exact abs1 | with_reducible exact min2 | with_reducible exact max2 | with_reducible exact len_lst | with_reducible exact len_tup | with_reducible exact len_scr | with_reducible exact pow1018 | with_reducible exact pow1020 | with_reducible exact mod_ok (by omega) | with_reducible exact fdiv_ok (by omega) | with_reducible exact mul_ok (by unfold CMul; omega) | with_reducible assumption))) (fun _ => ok_set c_ok (ok_next ⟨_, rfl, 1, by omega, by omega, rfl⟩)) fun _ => ok_next ⟨_, rfl, m0.toNat, by omega, by omega, by rw [show ((m0.toNat : Nat) : Int) = m0 by omega]; rfl⟩) ?_
  rintro _ ⟨m, hm, hm5, rfl⟩
  refine ok_set (d := .int n0) (by (repeat' (first | with_reducible exact c_ok | with_reducible exact nil_ok | exact v_ok rfl | exact bor_ok rfl | with_reducible apply op_ok | with_reducible apply un_ok | with_reducible apply call_ok | with_reducible apply cons_ok | with_reducible apply gB_ok | with_reducible apply ofL_ok | with_reducible apply len1_okI | with_reducible apply tup_ok | (show List.length (List.cons _ _) ≤ big; simp only [List.length_cons, List.length_nil]; decide) | (show List.length List.nil ≤ big; simp only [List.length_nil]; decide) | with_reducible exact DL.add_int | with_reducible exact DL.sub_int | with_reducible exact DL.lt_int | with_reducible exact DL.le_int | with_reducible exact DL.gt_int | with_reducible exact DL.ge_int | with_reducible exact oEq_int _ _ | with_reducible exact oNe_int _ _ | with_reducible exact int1 | with_reducible exact intb | with_reducible exact abs1 | with_reducible exact min2 | with_reducible exact max2 | with_reducible exact len_lst | with_reducible exact len_tup | with_reducible exact len_scr | with_reducible exact pow1018 | with_reducible exact pow1020 | with_reducible exact mod_ok (by omega) | with_reducible exact fdiv_ok (by omega) | with_reducible exact mul_ok (by unfold CMul; omega) | with_reducible assumption))) ?_
  refine ok_join (fun ρ => ∃ n : Nat, n ≤ 7 ∧ ρ = [.sh (.lst (row.map D.int)), .sh (.int (u : Nat)), .sh (.int (m : Nat)), .sh (.int n), .un, .un, .un, .un])
    (ok_ifS _ (by (repeat' (first | with_reducible exact c_ok | with_reducible exact nil_ok | exact v_ok rfl | exact bor_ok rfl | with_reducible apply op_ok | with_reducible apply un_ok | with_reducible apply call_ok | with_reducible apply cons_ok | with_reducible apply gB_ok | with_reducible apply ofL_ok | with_reducible apply len1_okI | with_reducible apply tup_ok | (show List.length (List.cons _ _) ≤ big; simp only [List.length_cons, List.length_nil]; decide) | (show List.length List.nil ≤ big; simp only [List.length_nil]; decide) | with_reducible exact DL.add_int | with_reducible exact DL.sub_int | with_reducible exact DL.lt_int | with_reducible exact DL.le_int | with_reducible exact DL.gt_int | with_reducible exact DL.ge_int | with_reducible exact oEq_int _ _ | with_reducible exact oNe_int _ _ | with_reducible exact int1 | with_reducible exact intb | with_reducible exact abs1 | with_reducible exact min2 | with_reducible exact max2 | with_reducible exact len_lst | with_reducible exact len_tup | with_reducible exact len_scr | with_reducible exact pow1018 | with_reducible exact pow1020 | with_reducible exact mod_ok (by omega) | with_reducible exact fdiv_ok (by omega) | with_reducible exact mul_ok (by unfold CMul; omega) | with_reducible assumption))) (fun h => ok_set (d := .int (23 - r1)) (by (repeat' (first | with_reducible exact c_ok | with_reducible exact nil_ok | exact v_ok rfl | exact bor_ok rfl | with_reducible apply op_ok | with_reducible apply un_ok | with_reducible apply call_ok | with_reducible apply cons_ok | with_reducible apply gB_ok | with_reducible apply ofL_ok | with_reducible apply len1_okI | with_reducible apply tup_ok | (show List.length (List.cons _ _) ≤ big; simp only [List.length_cons, List.length_nil]; decide) | (show List.length List.nil ≤ big; simp only [List.length_nil]; decide) | with_reducible exact DL.add_int | with_reducible exact DL.sub_int | with_reducible exact DL.lt_int | with_reducible exact DL.le_int | with_reducible exact DL.gt_int | with_reducible exact DL.ge_int | with_reducible exact oEq_int _ _ | with_reducible exact oNe_int _ _ | with_reducible exact int1 | with_reducible exact intb | with_reducible exact abs1 | with_reducible exact min2 | with_reducible exact max2 | with_reducible exact len_lst | with_reducible exact len_tup | with_reducible exact len_scr | with_reducible exact pow1018 | with_reducible exact pow1020 | with_reducible exact mod_ok (by omega) | with_reducible exact fdiv_ok (by omega) | with_reducible exact mul_ok (by unfold CMul; omega) | with_reducible assumption))) (ok_next ⟨_, rfl, (23 - r1).toNat, by have := of_decide_eq_true h; omega, by rw [show (((23 - r1).toNat : Nat) : Int) = 23 - r1 by omega]; rfl⟩)) fun _ => ok_next ⟨_, rfl, n0.toNat, by omega, by rw [show ((n0.toNat : Nat) : Int) = n0 by omega]; rfl⟩) ?_
  rintro _ ⟨n, hn, rfl⟩
  refine ok_setOw (ds := []) rfl ?_
  refine ok_join (fun ρ => ∃ (ps : List (Int × Int)) (x y z : B), ps.length ≤ 7 ∧ VP m ps ∧ ρ = [.sh (.lst (row.map D.int)), .sh (.int (u : Nat)), .sh (.int (m : Nat)), .sh (.int n), .ow (.lst (ps.map ePair.e)), x, y, z])
    (ok_ifS _ (by (repeat' (first | with_reducible exact c_ok | with_reducible exact nil_ok | exact v_ok rfl | exact bor_ok rfl | with_reducible apply op_ok | with_reducible apply un_ok | with_reducible apply call_ok | with_reducible apply cons_ok | with_reducible apply gB_ok | with_reducible apply ofL_ok | with_reducible apply len1_okI | with_reducible apply tup_ok | (show List.length (List.cons _ _) ≤ big; simp only [List.length_cons, List.length_nil]; decide) | (show List.length List.nil ≤ big; simp only [List.length_nil]; decide) | with_reducible exact DL.add_int | with_reducible exact DL.sub_int | with_reducible exact DL.lt_int | with_reducible exact DL.le_int | with_reducible exact DL.gt_int | with_reducible exact DL.ge_int | with_reducible exact oEq_int _ _ | with_reducible exact oNe_int _ _ | with_reducible exact int1 | with_reducible exact intb | with_reducible exact abs1 | with_reducible exact min2 | with_reducible exact max2 | with_reducible exact len_lst | with_reducible exact len_tup | with_reducible exact len_scr | with_reducible exact pow1018 | with_reducible exact pow1020 | with_reducible exact mod_ok (by omega) | with_reducible exact fdiv_ok (by omega) | with_reducible exact mul_ok (by unfold CMul; omega) | with_reducible assumption))) (fun h => ?_) fun _ => ok_next ⟨_, rfl, [], .un, .un, .un, by simp, vp_nil, rfl⟩) ?_
  · have hm1 : 1 < (m : Int) := of_decide_eq_true h
    refine ok_for (ds := rangeD (min n u)) (fun i ρ => ∃ (ps : List (Int × Int)) (x y z : B), ps.length = i ∧ VP m ps ∧ ρ = [.sh (.lst (row.map D.int)), .sh (.int (u : Nat)), .sh (.int (m : Nat)), .sh (.int n), .ow (.lst (ps.map ePair.e)), x, y, z]) (range_ok ((call_ok (cons_ok rfl (cons_ok rfl rfl)) min2).trans (by rw [min_nat])) (by omega))
      ⟨[], .un, .un, .un, rfl, vp_nil, rfl⟩ (fun i d ρ hi hd => ?_) fun ρ => ?_
    · rintro ⟨ps, x, y, z, hps, vp, rfl⟩
      rw [rangeD_len] at hi
      cases rangeD_get hd
      have x1 := hx (3 + 2 * i) (by omega) (by omega)
      have x2 := hx (4 + 2 * i) (by omega) (by omega)
      generalize row.getD (Int.toNat (3 + 2 * (i : Int))) 0 = q1 at x1
      generalize row.getD (Int.toNat (4 + 2 * (i : Int))) 0 = q2 at x2
      have f0 : 0 ≤ q1 % (m : Int) ∧ q1 % (m : Int) < m := ⟨Int.emod_nonneg _ (by omega), Int.emod_lt_of_pos _ (by omega)⟩
      have t0 : 0 ≤ q2 % ((m : Int) - 1) ∧ q2 % ((m : Int) - 1) < m - 1 := ⟨Int.emod_nonneg _ (by omega), Int.emod_lt_of_pos _ (by omega)⟩
      have gd0 := gd_draw hm1 f0 t0
      refine ⟨_, rfl, ok_set (d := .int (q1 % m)) (by (repeat' (first | with_reducible exact c_ok | with_reducible exact nil_ok | exact v_ok rfl | exact bor_ok rfl | with_reducible apply op_ok | with_reducible apply un_ok | with_reducible apply call_ok | with_reducible apply cons_ok | with_reducible apply gB_ok | with_reducible apply ofL_ok | with_reducible apply len1_okI | with_reducible apply tup_ok | (show List.length (List.cons _ _) ≤ big; simp only [List.length_cons, List.length_nil]; decide) | (show List.length List.nil ≤ big; simp only [List.length_nil]; decide) | with_reducible exact DL.add_int | with_reducible exact DL.sub_int | with_reducible exact DL.lt_int | with_reducible exact DL.le_int | with_reducible exact DL.gt_int | with_reducible exact DL.ge_int | with_reducible exact oEq_int _ _ | with_reducible exact oNe_int _ _ | with_reducible exact int1 | with_reducible exact intb | with_reducible exact abs1 | with_reducible exact min2 | with_reducible exact max2 | with_reducible exact len_lst | with_reducible exact len_tup | with_reducible exact len_scr | with_reducible exact pow1018 | with_reducible exact pow1020 | with_reducible exact mod_ok (by omega) | with_reducible exact fdiv_ok (by omega) | with_reducible exact mul_ok (by unfold CMul; omega) | with_reducible assumption))) (ok_set (d := .int ((q1 % m + 1 + q2 % (m - 1)) % m)) (by (repeat' (first | with_reducible exact c_ok | with_reducible exact nil_ok | exact v_ok rfl | exact bor_ok rfl | with_reducible apply op_ok | with_reducible apply un_ok | with_reducible apply call_ok | with_reducible apply cons_ok | with_reducible apply gB_ok | with_reducible apply ofL_ok | with_reducible apply len1_okI | with_reducible apply tup_ok | (show List.length (List.cons _ _) ≤ big; simp only [List.length_cons, List.length_nil]; decide) | (show List.length List.nil ≤ big; simp only [List.length_nil]; decide) | with_reducible exact DL.add_int | with_reducible exact DL.sub_int | with_reducible exact DL.lt_int | with_reducible exact DL.le_int | with_reducible exact DL.gt_int | with_reducible exact DL.ge_int | with_reducible exact oEq_int _ _ | with_reducible exact oNe_int _ _ | with_reducible exact int1 | with_reducible exact intb | with_reducible exact abs1 | with_reducible exact min2 | with_reducible exact max2 | with_reducible exact len_lst | with_reducible exact len_tup | with_reducible exact len_scr | with_reducible exact pow1018 | with_reducible exact pow1020 | with_reducible exact mod_ok (by omega) | with_reducible exact fdiv_ok (by omega) | with_reducible exact mul_ok (by unfold CMul; omega) | with_reducible assumption))) ?_)⟩
      refine ok_join (fun ρ => ∃ a b : Int, Gd m a b ∧ ρ = [.sh (.lst (row.map D.int)), .sh (.int (u : Nat)), .sh (.int (m : Nat)), .sh (.int n), .ow (.lst (ps.map ePair.e)), .sh (.int i), .sh (.int a), .sh (.int b)])
        (ok_ifS _ (andT_ok (orT_ok (by (repeat' (first | with_reducible exact c_ok | with_reducible exact nil_ok | exact v_ok rfl | exact bor_ok rfl | with_reducible apply op_ok | with_reducible apply un_ok | with_reducible apply call_ok | with_reducible apply cons_ok | with_reducible apply gB_ok | with_reducible apply ofL_ok | with_reducible apply len1_okI | with_reducible apply tup_ok | (show List.length (List.cons _ _) ≤ big; simp only [List.length_cons, List.length_nil]; decide) | (show List.length List.nil ≤ big; simp only [List.length_nil]; decide) | with_reducible exact DL.add_int | with_reducible exact DL.sub_int | with_reducible exact DL.lt_int | with_reducible exact DL.le_int | with_reducible exact DL.gt_int | with_reducible exact DL.ge_int | with_reducible exact oEq_int _ _ | with_reducible exact oNe_int _ _ | with_reducible exact int1 | with_reducible exact intb | with_reducible exact abs1 | with_reducible exact min2 | with_reducible exact max2 | with_reducible exact len_lst | with_reducible exact len_tup | with_reducible exact len_scr | with_reducible exact pow1018 | with_reducible exact pow1020 | with_reducible exact mod_ok (by omega) | with_reducible exact fdiv_ok (by omega) | with_reducible exact mul_ok (by unfold CMul; omega) | with_reducible assumption))) (by (repeat' (first | with_reducible exact c_ok | with_reducible exact nil_ok | exact v_ok rfl | exact bor_ok rfl | with_reducible apply op_ok | with_reducible apply un_ok | with_reducible apply call_ok | with_reducible apply cons_ok | with_reducible apply gB_ok | with_reducible apply ofL_ok | with_reducible apply len1_okI | with_reducible apply tup_ok | (show List.length (List.cons _ _) ≤ big; simp only [List.length_cons, List.length_nil]; decide) | (show List.length List.nil ≤ big; simp only [List.length_nil]; decide) | with_reducible exact DL.add_int | with_reducible exact DL.sub_int | with_reducible exact DL.lt_int | with_reducible exact DL.le_int | with_reducible exact DL.gt_int | with_reducible exact DL.ge_int | with_reducible exact oEq_int _ _ | with_reducible exact oNe_int _ _ | with_reducible exact int1 | with_reducible exact intb | with_reducible exact abs1 | with_reducible exact min2 | with_reducible exact max2 | with_reducible exact len_lst | with_reducible exact len_tup | with_reducible exact len_scr | with_reducible exact pow1018 | with_reducible exact pow1020 | with_reducible exact mod_ok (by omega) | with_reducible exact fdiv_ok (by omega) | with_reducible exact mul_ok (by unfold CMul; omega) | with_reducible assumption)))) (by (repeat' (first | with_reducible exact c_ok | with_reducible exact nil_ok | exact v_ok rfl | exact bor_ok rfl | with_reducible apply op_ok | with_reducible apply un_ok | with_reducible apply call_ok | with_reducible apply cons_ok | with_reducible apply gB_ok | with_reducible apply ofL_ok | with_reducible apply len1_okI | with_reducible apply tup_ok | (show List.length (List.cons _ _) ≤ big; simp only [List.length_cons, List.length_nil]; decide) | (show List.length List.nil ≤ big; simp only [List.length_nil]; decide) | with_reducible exact DL.add_int | with_reducible exact DL.sub_int | with_reducible exact DL.lt_int | with_reducible exact DL.le_int | with_reducible exact DL.gt_int | with_reducible exact DL.ge_int | with_reducible exact oEq_int _ _ | with_reducible exact oNe_int _ _ | with_reducible exact int1 | with_reducible exact intb | with_reducible exact abs1 | with_reducible exact min2 | with_reducible exact max2 | with_reducible exact len_lst | with_reducible exact len_tup | with_reducible exact len_scr | with_reducible exact pow1018 | with_reducible exact pow1020 | with_reducible exact mod_ok (by omega) | with_reducible exact fdiv_ok (by omega) | with_reducible exact mul_ok (by unfold CMul; omega) | with_reducible assumption)))) (fun h => ?_) fun _ => ok_next ⟨_, rfl, _, _, gd0, rfl⟩) ?_
      · have hi2 : (i : Int) < m := of_decide_eq_true (Bool.and_eq_true_iff.mp h).2
        exact ok_set (v_ok rfl) (ok_set (d := .int ((i + 1) % m)) (by (repeat' (first | with_reducible exact c_ok | with_reducible exact nil_ok | exact v_ok rfl | exact bor_ok rfl | with_reducible apply op_ok | with_reducible apply un_ok | with_reducible apply call_ok | with_reducible apply cons_ok | with_reducible apply gB_ok | with_reducible apply ofL_ok | with_reducible apply len1_okI | with_reducible apply tup_ok | (show List.length (List.cons _ _) ≤ big; simp only [List.length_cons, List.length_nil]; decide) | (show List.length List.nil ≤ big; simp only [List.length_nil]; decide) | with_reducible exact DL.add_int | with_reducible exact DL.sub_int | with_reducible exact DL.lt_int | with_reducible exact DL.le_int | with_reducible exact DL.gt_int | with_reducible exact DL.ge_int | with_reducible exact oEq_int _ _ | with_reducible exact oNe_int _ _ | with_reducible exact int1 | with_reducible exact intb | with_reducible exact abs1 | with_reducible exact min2 | with_reducible exact max2 | with_reducible exact len_lst | with_reducible exact len_tup | with_reducible exact len_scr | with_reducible exact pow1018 | with_reducible exact pow1020 | with_reducible exact mod_ok (by omega) | with_reducible exact fdiv_ok (by omega) | with_reducible exact mul_ok (by unfold CMul; omega) | with_reducible assumption))) (ok_next ⟨_, rfl, _, _, gd_next hm1 (by omega) hi2, rfl⟩))
      rintro _ ⟨a, b, gd, rfl⟩
      refine ok_join (fun ρ => ∃ a b : Int, Gd m a b ∧ ρ = [.sh (.lst (row.map D.int)), .sh (.int (u : Nat)), .sh (.int (m : Nat)), .sh (.int n), .ow (.lst (ps.map ePair.e)), .sh (.int i), .sh (.int a), .sh (.int b)])
        (ok_ifS _ (orT_ok (andT_ok (by (repeat' (first | with_reducible exact c_ok | with_reducible exact nil_ok | exact v_ok rfl | exact bor_ok rfl | with_reducible apply op_ok | with_reducible apply un_ok | with_reducible apply call_ok | with_reducible apply cons_ok | with_reducible apply gB_ok | with_reducible apply ofL_ok | with_reducible apply len1_okI | with_reducible apply tup_ok | (show List.length (List.cons _ _) ≤ big; simp only [List.length_cons, List.length_nil]; decide) | (show List.length List.nil ≤ big; simp only [List.length_nil]; decide) | with_reducible exact DL.add_int | with_reducible exact DL.sub_int | with_reducible exact DL.lt_int | with_reducible exact DL.le_int | with_reducible exact DL.gt_int | with_reducible exact DL.ge_int | with_reducible exact oEq_int _ _ | with_reducible exact oNe_int _ _ | with_reducible exact int1 | with_reducible exact intb | with_reducible exact abs1 | with_reducible exact min2 | with_reducible exact max2 | with_reducible exact len_lst | with_reducible exact len_tup | with_reducible exact len_scr | with_reducible exact pow1018 | with_reducible exact pow1020 | with_reducible exact mod_ok (by omega) | with_reducible exact fdiv_ok (by omega) | with_reducible exact mul_ok (by unfold CMul; omega) | with_reducible assumption))) (by (repeat' (first | with_reducible exact c_ok | with_reducible exact nil_ok | exact v_ok rfl | exact bor_ok rfl | with_reducible apply op_ok | with_reducible apply un_ok | with_reducible apply call_ok | with_reducible apply cons_ok | with_reducible apply gB_ok | with_reducible apply ofL_ok | with_reducible apply len1_okI | with_reducible apply tup_ok | (show List.length (List.cons _ _) ≤ big; simp only [List.length_cons, List.length_nil]; decide) | (show List.length List.nil ≤ big; simp only [List.length_nil]; decide) | with_reducible exact DL.add_int | with_reducible exact DL.sub_int | with_reducible exact DL.lt_int | with_reducible exact DL.le_int | with_reducible exact DL.gt_int | with_reducible exact DL.ge_int | with_reducible exact oEq_int _ _ | with_reducible exact oNe_int _ _ | with_reducible exact int1 | with_reducible exact intb | with_reducible exact abs1 | with_reducible exact min2 | with_reducible exact max2 | with_reducible exact len_lst | with_reducible exact len_tup | with_reducible exact len_scr | with_reducible exact pow1018 | with_reducible exact pow1020 | with_reducible exact mod_ok (by omega) | with_reducible exact fdiv_ok (by omega) | with_reducible exact mul_ok (by unfold CMul; omega) | with_reducible assumption)))) (andT_ok (by (repeat' (first | with_reducible exact c_ok | with_reducible exact nil_ok | exact v_ok rfl | exact bor_ok rfl | with_reducible apply op_ok | with_reducible apply un_ok | with_reducible apply call_ok | with_reducible apply cons_ok | with_reducible apply gB_ok | with_reducible apply ofL_ok | with_reducible apply len1_okI | with_reducible apply tup_ok | (show List.length (List.cons _ _) ≤ big; simp only [List.length_cons, List.length_nil]; decide) | (show List.length List.nil ≤ big; simp only [List.length_nil]; decide) | with_reducible exact DL.add_int | with_reducible exact DL.sub_int | with_reducible exact DL.lt_int | with_reducible exact DL.le_int | with_reducible exact DL.gt_int | with_reducible exact DL.ge_int | with_reducible exact oEq_int _ _ | with_reducible exact oNe_int _ _ | with_reducible exact int1 | with_reducible exact intb | with_reducible exact abs1 | with_reducible exact min2 | with_reducible exact max2 | with_reducible exact len_lst | with_reducible exact len_tup | with_reducible exact len_scr | with_reducible exact pow1018 | with_reducible exact pow1020 | with_reducible exact mod_ok (by omega) | with_reducible exact fdiv_ok (by omega) | with_reducible exact mul_ok (by unfold CMul; omega) | with_reducible assumption))) (by (repeat' (first | with_reducible exact c_ok | with_reducible exact nil_ok | exact v_ok rfl | exact bor_ok rfl | with_reducible apply op_ok | with_reducible apply un_ok | with_reducible apply call_ok | with_reducible apply cons_ok | with_reducible apply gB_ok | with_reducible apply ofL_ok | with_reducible apply len1_okI | with_reducible apply tup_ok | (show List.length (List.cons _ _) ≤ big; simp only [List.length_cons, List.length_nil]; decide) | (show List.length List.nil ≤ big; simp only [List.length_nil]; decide) | with_reducible exact DL.add_int | with_reducible exact DL.sub_int | with_reducible exact DL.lt_int | with_reducible exact DL.le_int | with_reducible exact DL.gt_int | with_reducible exact DL.ge_int | with_reducible exact oEq_int _ _ | with_reducible exact oNe_int _ _ | with_reducible exact int1 | with_reducible exact intb | with_reducible exact abs1 | with_reducible exact min2 | with_reducible exact max2 | with_reducible exact len_lst | with_reducible exact len_tup | with_reducible exact len_scr | with_reducible exact pow1018 | with_reducible exact pow1020 | with_reducible exact mod_ok (by omega) | with_reducible exact fdiv_ok (by omega) | with_reducible exact mul_ok (by unfold CMul; omega) | with_reducible assumption))))) (fun h => ?_) fun _ => ok_next ⟨_, rfl, _, _, gd, rfl⟩) ?_
      · have hi2 : 1 ≤ i := by
          simp at h
          omega
        have hk : i - 1 < ps.length := by omega
        have x3 : oIx (.lst (ps.map ePair.e)) (.int ((i : Int) - 1)) = some (.tup [.int (ps[i - 1]).1, .int (ps[i - 1]).2]) := by
          rw [show (i : Int) - 1 = ((i - 1 : Nat) : Int) by omega]
          exact ix_nat rfl (pair_get hk)
        have g3 := vp _ (List.getElem_mem hk)
        have p1 : oIx (.tup [.int (ps[i - 1]).1, .int (ps[i - 1]).2]) (.int 1) = some (.int (ps[i - 1]).2) := rfl
        have p0 : oIx (.tup [.int (ps[i - 1]).1, .int (ps[i - 1]).2]) (.int 0) = some (.int (ps[i - 1]).1) := rfl
        exact ok_set (d := .int (ps[i - 1]).2) (by (repeat' (first | with_reducible exact c_ok | with_reducible exact nil_ok | exact v_ok rfl | exact bor_ok rfl | with_reducible apply op_ok | with_reducible apply un_ok | with_reducible apply call_ok | with_reducible apply cons_ok | with_reducible apply gB_ok | with_reducible apply ofL_ok | with_reducible apply len1_okI | with_reducible apply tup_ok | (show List.length (List.cons _ _) ≤ big; simp only [List.length_cons, List.length_nil]; decide) | (show List.length List.nil ≤ big; simp only [List.length_nil]; decide) | with_reducible exact DL.add_int | with_reducible exact DL.sub_int | with_reducible exact DL.lt_int | with_reducible exact DL.le_int | with_reducible exact DL.gt_int | with_reducible exact DL.ge_int | with_reducible exact oEq_int _ _ | with_reducible exact oNe_int _ _ | with_reducible exact int1 | with_reducible exact intb | with_reducible exact abs1 | with_reducible exact min2 | with_reducible exact max2 | with_reducible exact len_lst | with_reducible exact len_tup | with_reducible exact len_scr | with_reducible exact pow1018 | with_reducible exact pow1020 | with_reducible exact mod_ok (by omega) | with_reducible exact fdiv_ok (by omega) | with_reducible exact mul_ok (by unfold CMul; omega) | with_reducible assumption))) (ok_set (d := .int (ps[i - 1]).1) (by (repeat' (first | with_reducible exact c_ok | with_reducible exact nil_ok | exact v_ok rfl | exact bor_ok rfl | with_reducible apply op_ok | with_reducible apply un_ok | with_reducible apply call_ok | with_reducible apply cons_ok | with_reducible apply gB_ok | with_reducible apply ofL_ok | with_reducible apply len1_okI | with_reducible apply tup_ok | (show List.length (List.cons _ _) ≤ big; simp only [List.length_cons, List.length_nil]; decide) | (show List.length List.nil ≤ big; simp only [List.length_nil]; decide) | with_reducible exact DL.add_int | with_reducible exact DL.sub_int | with_reducible exact DL.lt_int | with_reducible exact DL.le_int | with_reducible exact DL.gt_int | with_reducible exact DL.ge_int | with_reducible exact oEq_int _ _ | with_reducible exact oNe_int _ _ | with_reducible exact int1 | with_reducible exact intb | with_reducible exact abs1 | with_reducible exact min2 | with_reducible exact max2 | with_reducible exact len_lst | with_reducible exact len_tup | with_reducible exact len_scr | with_reducible exact pow1018 | with_reducible exact pow1020 | with_reducible exact mod_ok (by omega) | with_reducible exact fdiv_ok (by omega) | with_reducible exact mul_ok (by unfold CMul; omega) | with_reducible assumption))) (ok_next ⟨_, rfl, _, _, ⟨g3.2.2.1, g3.2.2.2.1, g3.1, g3.2.1, g3.2.2.2.2.symm⟩, rfl⟩))
      rintro _ ⟨a, b, gd, rfl⟩
      exact ok_app rfl (d := .tup [.int a, .int b]) (by (repeat' (first | with_reducible exact c_ok | with_reducible exact nil_ok | exact v_ok rfl | exact bor_ok rfl | with_reducible apply op_ok | with_reducible apply un_ok | with_reducible apply call_ok | with_reducible apply cons_ok | with_reducible apply gB_ok | with_reducible apply ofL_ok | with_reducible apply len1_okI | with_reducible apply tup_ok | (show List.length (List.cons _ _) ≤ big; simp only [List.length_cons, List.length_nil]; decide) | (show List.length List.nil ≤ big; simp only [List.length_nil]; decide) | with_reducible exact DL.add_int | with_reducible exact DL.sub_int | with_reducible exact DL.lt_int | with_reducible exact DL.le_int | with_reducible exact DL.gt_int | with_reducible exact DL.ge_int | with_reducible exact oEq_int _ _ | with_reducible exact oNe_int _ _ | with_reducible exact int1 | with_reducible exact intb | with_reducible exact abs1 | with_reducible exact min2 | with_reducible exact max2 | with_reducible exact len_lst | with_reducible exact len_tup | with_reducible exact len_scr | with_reducible exact pow1018 | with_reducible exact pow1020 | with_reducible exact mod_ok (by omega) | with_reducible exact fdiv_ok (by omega) | with_reducible exact mul_ok (by unfold CMul; omega) | with_reducible assumption))) (by rw [List.length_map, hps]; exact Nat.lt_of_lt_of_le (show i < 8 by omega) (by decide)) (ok_next ⟨_, rfl, ps ++ [(a, b)], _, _, _, by rw [List.length_append, hps]; rfl, vp.snoc gd, by rw [← pairs_snoc]; rfl⟩)
    · rintro ⟨ps, x, y, z, hps, vp, rfl⟩
      rw [rangeD_len] at hps
      exact ok_next ⟨_, rfl, ps, x, y, z, by omega, vp, rfl⟩
  rintro _ ⟨ps, x, y, z, hps, vp, rfl⟩
  exact ok_freezeS rfl (ok_ret (d := .lst [.int (m : Nat), .lst (ps.map ePair.e), .int r2]) (ofL_ok (len1_ok (cons_ok rfl (cons_ok rfl (cons_ok (op_ok rfl rfl h2) rfl))) (by show 3 ≤ big; decide))) ⟨_, rfl, m, ps, r2, rfl, hm, hm5, hps, vp⟩)
/-- a world round a setting -/
theorem world6_ok {m : Nat} {ps : List (Int × Int)} {r2 : Int} {row : List Int} (hm0 : 1 ≤ m) (hm : m ≤ 5) (hp : ps.length ≤ 7) (vp : VP m ps) (hl : row.length = 25) : Dn (g_law_world [.lst [.int (m : Nat), .lst (ps.map ePair.e), .int r2], .lst (row.map D.int)]) Wd := by
  have hx := row_ix hl
  refine ok_dn rfl ?_
  refine ok_set (d := .int (m : Nat)) (op_ok rfl rfl rfl) ?_
  refine ok_set (d := .lst (ps.map ePair.e)) (op_ok rfl rfl rfl) ?_
  have v2 : oIx (.lst [.int (m : Nat), .lst (ps.map ePair.e), .int r2]) (.int 2) = some (.int r2) := rfl
  have h0 := hx 0 (by omega) (by omega)
  generalize row.getD (Int.toNat 0) 0 = r0 at h0
  refine ok_setOw (ds := ((List.range ps.length).map fun k => row.getD (18 + k) 0 % 2).map eInt.e) (comp_mapE eInt (fun k => row.getD (18 + k) 0 % 2) (range_ok ((len_ok rfl rfl).trans (by rw [List.length_map])) (by omega)) (by omega) fun k hk => ⟨_, rfl, ?_⟩) ?_
  · have x1 := hx (18 + k) (by omega) (by omega)
    rw [show (18 + (k : Int)).toNat = 18 + k by omega] at x1
    exact op_ok (call_ok (cons_ok (op_ok rfl (op_ok rfl rfl add_int) x1) rfl) int1) rfl (mod_ok (by omega))
  have hb0 : Bits ((List.range ps.length).map fun k => row.getD (18 + k) 0 % 2) ps.length := by
    refine ⟨by simp, fun k hk => ?_⟩
    have e : ((List.range ps.length).map fun k => row.getD (18 + k) 0 % 2).getD k 0 = row.getD (18 + k) 0 % 2 := by
      rw [List.getD_eq_getElem?_getD, List.getElem?_map, List.getElem?_range hk]
      rfl
    rw [e]
    omega
  generalize ((List.range ps.length).map fun k => row.getD (18 + k) 0 % 2) = base0 at hb0
  refine ok_for (ds := rangeD ps.length) (fun i ρ => ∃ (x : B) (st : List Int), Bits st ps.length ∧ ρ = [.sh (.lst [.int (m : Nat), .lst (ps.map ePair.e), .int r2]), .sh (.lst (row.map D.int)), .sh (.int (m : Nat)), .sh (.lst (ps.map ePair.e)), .ow (.lst (st.map D.int)), x, .un, .un, .un, .un, .un, .un, .un]) (range_ok ((len_ok rfl rfl).trans (by rw [List.length_map])) (by omega)) ⟨.un, base0, hb0, rfl⟩ (fun i d ρ hi hd => ?_) fun ρ => ?_
  · rintro ⟨x, st, hb, rfl⟩
    rw [rangeD_len] at hi
    cases rangeD_get hd
    have hsl := hb.1
    refine ⟨_, rfl, ok_join (fun ρ => ∃ (st : List Int), Bits st ps.length ∧ ρ = [.sh (.lst [.int (m : Nat), .lst (ps.map ePair.e), .int r2]), .sh (.lst (row.map D.int)), .sh (.int (m : Nat)), .sh (.lst (ps.map ePair.e)), .ow (.lst (st.map D.int)), .sh (.int (i : Nat)), .un, .un, .un, .un, .un, .un, .un]) (ok_ifS _ (andT_ok (orT_ok (by (repeat' (first | with_reducible exact c_ok | with_reducible exact nil_ok | exact v_ok rfl | exact bor_ok rfl | with_reducible apply op_ok | with_reducible apply un_ok | with_reducible apply call_ok | with_reducible apply cons_ok | with_reducible apply gB_ok | with_reducible apply ofL_ok | with_reducible apply len1_okI | with_reducible apply tup_ok | (show List.length (List.cons _ _) ≤ big; simp only [List.length_cons, List.length_nil]; decide) | (show List.length List.nil ≤ big; simp only [List.length_nil]; decide) | with_reducible exact DL.add_int | with_reducible exact DL.sub_int | with_reducible exact DL.lt_int | with_reducible exact DL.le_int | with_reducible exact DL.gt_int | with_reducible exact DL.ge_int | with_reducible exact oEq_int _ _ | with_reducible exact oNe_int _ _ | with_reducible exact int1 | with_reducible exact intb | with_reducible exact abs1 | with_reducible exact min2 | with_reducible exact max2 | with_reducible exact len_lst | with_reducible exact len_tup | with_reducible exact len_scr | with_reducible exact pow1018 | with_reducible exact pow1020 | with_reducible exact mod_ok (by omega) | with_reducible exact fdiv_ok (by omega) | with_reducible exact mul_ok (by unfold CMul; omega) | with_reducible assumption))) (by (repeat' (first | with_reducible exact c_ok | with_reducible exact nil_ok | exact v_ok rfl | exact bor_ok rfl | with_reducible apply op_ok | with_reducible apply un_ok | with_reducible apply call_ok | with_reducible apply cons_ok | with_reducible apply gB_ok | with_reducible apply ofL_ok | with_reducible apply len1_okI | with_reducible apply tup_ok | (show List.length (List.cons _ _) ≤ big; simp only [List.length_cons, List.length_nil]; decide) | (show List.length List.nil ≤ big; simp only [List.length_nil]; decide) | with_reducible exact DL.add_int | with_reducible exact DL.sub_int | with_reducible exact DL.lt_int | with_reducible exact DL.le_int | with_reducible exact DL.gt_int | with_reducible exact DL.ge_int | with_reducible exact oEq_int _ _ | with_reducible exact oNe_int _ _ | with_reducible exact int1 | with_reducible exact intb | with_reducible exact abs1 | with_reducible exact min2 | with_reducible exact max2 | with_reducible exact len_lst | with_reducible exact len_tup | with_reducible exact len_scr | with_reducible exact pow1018 | with_reducible exact pow1020 | with_reducible exact mod_ok (by omega) | with_reducible exact fdiv_ok (by omega) | with_reducible exact mul_ok (by unfold CMul; omega) | with_reducible assumption)))) (by (repeat' (first | with_reducible exact c_ok | with_reducible exact nil_ok | exact v_ok rfl | exact bor_ok rfl | with_reducible apply op_ok | with_reducible apply un_ok | with_reducible apply call_ok | with_reducible apply cons_ok | with_reducible apply gB_ok | with_reducible apply ofL_ok | with_reducible apply len1_okI | with_reducible apply tup_ok | (show List.length (List.cons _ _) ≤ big; simp only [List.length_cons, List.length_nil]; decide) | (show List.length List.nil ≤ big; simp only [List.length_nil]; decide) | with_reducible exact DL.add_int | with_reducible exact DL.sub_int | with_reducible exact DL.lt_int | with_reducible exact DL.le_int | with_reducible exact DL.gt_int | with_reducible exact DL.ge_int | with_reducible exact oEq_int _ _ | with_reducible exact oNe_int _ _ | with_reducible exact int1 | with_reducible exact intb | with_reducible exact abs1 | with_reducible exact min2 | with_reducible exact max2 | with_reducible exact len_lst | with_reducible exact len_tup | with_reducible exact len_scr | with_reducible exact pow1018 | with_reducible exact pow1020 | with_reducible exact mod_ok (by omega) | with_reducible exact fdiv_ok (by omega) | with_reducible exact mul_ok (by unfold CMul; omega) | with_reducible assumption)))) (fun _ => ?_) fun _ => ok_next ⟨_, rfl, st, hb, rfl⟩) ?_⟩
    · exact ok_setIx (d := .int (st.getD 0 0)) rfl rfl (op_ok (bor_ok rfl) rfl (ixL (k := 0) (by omega))) (by rw [List.length_map]; omega) (ok_next ⟨_, rfl, st.set i (st.getD 0 0), hb.set (hb.2 0 (by omega)), by rw [map_set]; rfl⟩)
    rintro _ ⟨st, hb, rfl⟩
    have hsl := hb.1
    refine ok_join (fun ρ => ∃ (st : List Int), Bits st ps.length ∧ ρ = [.sh (.lst [.int (m : Nat), .lst (ps.map ePair.e), .int r2]), .sh (.lst (row.map D.int)), .sh (.int (m : Nat)), .sh (.lst (ps.map ePair.e)), .ow (.lst (st.map D.int)), .sh (.int (i : Nat)), .un, .un, .un, .un, .un, .un, .un]) (ok_ifS _ (orT_ok (andT_ok (by (repeat' (first | with_reducible exact c_ok | with_reducible exact nil_ok | exact v_ok rfl | exact bor_ok rfl | with_reducible apply op_ok | with_reducible apply un_ok | with_reducible apply call_ok | with_reducible apply cons_ok | with_reducible apply gB_ok | with_reducible apply ofL_ok | with_reducible apply len1_okI | with_reducible apply tup_ok | (show List.length (List.cons _ _) ≤ big; simp only [List.length_cons, List.length_nil]; decide) | (show List.length List.nil ≤ big; simp only [List.length_nil]; decide) | with_reducible exact DL.add_int | with_reducible exact DL.sub_int | with_reducible exact DL.lt_int | with_reducible exact DL.le_int | with_reducible exact DL.gt_int | with_reducible exact DL.ge_int | with_reducible exact oEq_int _ _ | with_reducible exact oNe_int _ _ | with_reducible exact int1 | with_reducible exact intb | with_reducible exact abs1 | with_reducible exact min2 | with_reducible exact max2 | with_reducible exact len_lst | with_reducible exact len_tup | with_reducible exact len_scr | with_reducible exact pow1018 | with_reducible exact pow1020 | with_reducible exact mod_ok (by omega) | with_reducible exact fdiv_ok (by omega) | with_reducible exact mul_ok (by unfold CMul; omega) | with_reducible assumption))) (by (repeat' (first | with_reducible exact c_ok | with_reducible exact nil_ok | exact v_ok rfl | exact bor_ok rfl | with_reducible apply op_ok | with_reducible apply un_ok | with_reducible apply call_ok | with_reducible apply cons_ok | with_reducible apply gB_ok | with_reducible apply ofL_ok | with_reducible apply len1_okI | with_reducible apply tup_ok | (show List.length (List.cons _ _) ≤ big; simp only [List.length_cons, List.length_nil]; decide) | (show List.length List.nil ≤ big; simp only [List.length_nil]; decide) | with_reducible exact DL.add_int | with_reducible exact DL.sub_int | with_reducible exact DL.lt_int | with_reducible exact DL.le_int | with_reducible exact DL.gt_int | with_reducible exact DL.ge_int | with_reducible exact oEq_int _ _ | with_reducible exact oNe_int _ _ | with_reducible exact int1 | with_reducible exact intb | with_reducible exact abs1 | with_reducible exact min2 | with_reducible exact max2 | with_reducible exact len_lst | with_reducible exact len_tup | with_reducible exact len_scr | with_reducible exact pow1018 | with_reducible exact pow1020 | with_reducible exact mod_ok (by omega) | with_reducible exact fdiv_ok (by omega) | with_reducible exact mul_ok (by unfold CMul; omega) | with_reducible assumption)))) (andT_ok (by (repeat' (first | with_reducible exact c_ok | with_reducible exact nil_ok | exact v_ok rfl | exact bor_ok rfl | with_reducible apply op_ok | with_reducible apply un_ok | with_reducible apply call_ok | with_reducible apply cons_ok | with_reducible apply gB_ok | with_reducible apply ofL_ok | with_reducible apply len1_okI | with_reducible apply tup_ok | (show List.length (List.cons _ _) ≤ big; simp only [List.length_cons, List.length_nil]; decide) | (show List.length List.nil ≤ big; simp only [List.length_nil]; decide) | with_reducible exact DL.add_int | with_reducible exact DL.sub_int | with_reducible exact DL.lt_int | with_reducible exact DL.le_int | with_reducible exact DL.gt_int | with_reducible exact DL.ge_int | with_reducible exact oEq_int _ _ | with_reducible exact oNe_int _ _ | with_reducible exact int1 | with_reducible exact intb | with_reducible exact abs1 | with_reducible exact min2 | with_reducible exact max2 | with_reducible exact len_lst | with_reducible exact len_tup | with_reducible exact len_scr | with_reducible exact pow1018 | with_reducible exact pow1020 | with_reducible exact mod_ok (by omega) | with_reducible exact fdiv_ok (by omega) | with_reducible exact mul_ok (by unfold CMul; omega) | with_reducible assumption))) (by (repeat' (first | with_reducible exact c_ok | with_reducible exact nil_ok | exact v_ok rfl | exact bor_ok rfl | with_reducible apply op_ok | with_reducible apply un_ok | with_reducible apply call_ok | with_reducible apply cons_ok | with_reducible apply gB_ok | with_reducible apply ofL_ok | with_reducible apply len1_okI | with_reducible apply tup_ok | (show List.length (List.cons _ _) ≤ big; simp only [List.length_cons, List.length_nil]; decide) | (show List.length List.nil ≤ big; simp only [List.length_nil]; decide) | with_reducible exact DL.add_int | with_reducible exact DL.sub_int | with_reducible exact DL.lt_int | with_reducible exact DL.le_int | with_reducible exact DL.gt_int | with_reducible exact DL.ge_int | with_reducible exact oEq_int _ _ | with_reducible exact oNe_int _ _ | with_reducible exact int1 | with_reducible exact intb | with_reducible exact abs1 | with_reducible exact min2 | with_reducible exact max2 | with_reducible exact len_lst | with_reducible exact len_tup | with_reducible exact len_scr | with_reducible exact pow1018 | with_reducible exact pow1020 | with_reducible exact mod_ok (by omega) | with_reducible exact fdiv_ok (by omega) | with_reducible exact mul_ok (by unfold CMul; omega) | with_reducible assumption))))) (fun h => ?_) fun _ => ok_next ⟨_, rfl, st, hb, rfl⟩) ?_
    · have hi2 : 1 ≤ i := by
        simp at h
        omega
      have x3 : oIx (.lst (st.map D.int)) (.int ((i : Int) - 1)) = some (.int (st.getD (i - 1) 0)) := by
        rw [show (i : Int) - 1 = ((i - 1 : Nat) : Int) by omega]
        exact ixL (by omega)
      exact ok_setIx (d := .int (st.getD (i - 1) 0)) rfl rfl (op_ok (bor_ok rfl) (op_ok rfl rfl sub_int) x3) (by rw [List.length_map]; omega) (ok_next ⟨_, rfl, st.set i (st.getD (i - 1) 0), hb.set (hb.2 (i - 1) (by omega)), by rw [map_set]; rfl⟩)
    rintro _ ⟨st, hb, rfl⟩
    exact ok_next ⟨_, rfl, _, st, hb, rfl⟩
  rintro ⟨x, st, hb, rfl⟩
  refine ok_freezeS rfl ?_
  refine ok_set (d := .lst ((feds m ps st).map D.int)) (call_ok (cons_ok rfl (cons_ok rfl (cons_ok rfl rfl))) (law_fed_ok (by omega) (by omega) vp rfl hb)) ?_
  have lf : (feds m ps st).length = m := fedn_len m ps st _
  have nf : ∀ j, 0 ≤ (feds m ps st).getD j 0 := fedn_nonneg m ps st _
  generalize feds m ps st = cs at lf nf
  refine ok_setOw (ds := []) rfl (ok_setOw (ds := []) rfl ?_)
  let fr : B → B → B → List Int → List (Option Int) → Rho := fun a b c nl bl => [.sh (.lst [.int (m : Nat), .lst (ps.map ePair.e), .int r2]), .sh (.lst (row.map D.int)), .sh (.int (m : Nat)), .sh (.lst (ps.map ePair.e)), .sh (.lst (st.map D.int)), x, .sh (.lst (cs.map D.int)), .ow (.lst (nl.map D.int)), .ow (.lst (bl.map eOpt.e)), a, b, c, .un]
  refine ok_for (ds := rangeD m) (fun i ρ => ∃ (a b c : B) (nl : List Int) (bl : List (Option Int)), nl.length = i ∧ NN nl ∧ bl.length = i ∧ BN bl ∧ ρ = fr a b c nl bl) (range_ok rfl (by omega)) ⟨.un, .un, .un, [], [], rfl, fun x h => absurd h (by simp), rfl, fun x h => absurd h (by simp), rfl⟩ (fun i d ρ hi hd => ?_) fun ρ => ?_
  · rintro ⟨a, b, c, nl, bl, a1, a2, a3, a4, rfl⟩
    rw [rangeD_len] at hi
    cases rangeD_get hd
    have x1 := hx (1 + 2 * i) (by omega) (by omega)
    have x2 := hx (2 + 2 * i) (by omega) (by omega)
    have xc : oIx (.lst (cs.map D.int)) (.int (i : Nat)) = some (.int (cs.getD i 0)) := ixL (by omega)
    have c0 := nf i
    generalize row.getD (Int.toNat (1 + 2 * (i : Int))) 0 = q1 at x1
    generalize row.getD (Int.toNat (2 + 2 * (i : Int))) 0 = q2 at x2
    generalize cs.getD i 0 = cv at xc c0
    have bb : nl.length < big ∧ bl.length < big := by rw [a1, a3]; exact ⟨Nat.lt_of_lt_of_le (show i < 5 by omega) (by decide), Nat.lt_of_lt_of_le (show i < 5 by omega) (by decide)⟩
    have i1 : gOp oIx (gV 1) (gOp dAdd (gC (.int 1)) (gOp dMulT (gC (.int 2)) (gV 9))) (fr (.sh (.int (i : Nat))) b c nl bl) = some (.int q1) := op_ok rfl (op_ok rfl (op_ok rfl rfl (mul_ok (.inl (by omega)))) add_int) x1
    have tt : ∀ (T : List Int) (q : Int), T.length = 8 → 0 ≤ q % 8 ∧ q % 8 < T.length := fun T q h => by omega
    refine ⟨_, rfl, ok_set (d := .int (([0, 0, 1, 0, 1, 2, 0, 1] : List Int).getD (q1 % 8).toNat 0)) (op_ok (ofL_ok (len1_ok rfl (by show 8 ≤ big; decide))) (op_ok (call_ok (cons_ok i1 rfl) int1) rfl (mod_ok (by omega))) (tabE eInt (T := [0, 0, 1, 0, 1, 2, 0, 1]) 0 rfl (by omega) (by show _ < ((8 : Nat) : Int); omega))) ?_⟩
    generalize ([0, 0, 1, 0, 1, 2, 0, 1] : List Int).getD (q1 % 8).toNat 0 = slack
    refine ok_set (d := eOpt.e (([none, some 1, none, some 0, some 1, some 2, some 1, none] : List (Option Int)).getD (q2 % 8).toNat none)) (op_ok (ofL_ok (len1_ok rfl (by show 8 ≤ big; decide))) (op_ok (call_ok (cons_ok (op_ok rfl (op_ok rfl (op_ok rfl rfl (mul_ok (.inl (by omega)))) add_int) x2) rfl) int1) rfl (mod_ok (by omega))) (tabE eOpt (T := [none, some 1, none, some 0, some 1, some 2, some 1, none]) none rfl (by omega) (by show _ < ((8 : Nat) : Int); omega))) ?_
    have ht0 : ∀ y, ([none, some 1, none, some 0, some 1, some 2, some 1, none] : List (Option Int)).getD (q2 % 8).toNat none = some y → 0 ≤ y := fun y hy => by
      have hmem := gD_mem (T := ([none, some 1, none, some 0, some 1, some 2, some 1, none] : List (Option Int))) (j := (q2 % 8).toNat) (d0 := none) (by show _ < 8; omega)
      rw [hy] at hmem
      simp only [List.mem_cons, List.not_mem_nil, or_false, Option.some.injEq, reduceCtorEq, false_or] at hmem
      omega
    generalize ([none, some 1, none, some 0, some 1, some 2, some 1, none] : List (Option Int)).getD (q2 % 8).toNat none = top at ht0
    refine ok_join (fun ρ => ∃ slack : Int, ρ = fr (.sh (.int (i : Nat))) (.sh (.int slack)) (.sh (eOpt.e top)) nl bl) (ok_ifS _ (orT_ok (by (repeat' (first | with_reducible exact c_ok | with_reducible exact nil_ok | exact v_ok rfl | exact bor_ok rfl | with_reducible apply op_ok | with_reducible apply un_ok | with_reducible apply call_ok | with_reducible apply cons_ok | with_reducible apply gB_ok | with_reducible apply ofL_ok | with_reducible apply len1_okI | with_reducible apply tup_ok | (show List.length (List.cons _ _) ≤ big; simp only [List.length_cons, List.length_nil]; decide) | (show List.length List.nil ≤ big; simp only [List.length_nil]; decide) | with_reducible exact DL.add_int | with_reducible exact DL.sub_int | with_reducible exact DL.lt_int | with_reducible exact DL.le_int | with_reducible exact DL.gt_int | with_reducible exact DL.ge_int | with_reducible exact oEq_int _ _ | with_reducible exact oNe_int _ _ | with_reducible exact int1 | with_reducible exact intb | with_reducible exact abs1 | with_reducible exact min2 | with_reducible exact max2 | with_reducible exact len_lst | with_reducible exact len_tup | with_reducible exact len_scr | with_reducible exact pow1018 | with_reducible exact pow1020 | with_reducible exact mod_ok (by omega) | with_reducible exact fdiv_ok (by omega) | with_reducible exact mul_ok (by unfold CMul; omega) | with_reducible assumption))) (orT_ok (by (repeat' (first | with_reducible exact c_ok | with_reducible exact nil_ok | exact v_ok rfl | exact bor_ok rfl | with_reducible apply op_ok | with_reducible apply un_ok | with_reducible apply call_ok | with_reducible apply cons_ok | with_reducible apply gB_ok | with_reducible apply ofL_ok | with_reducible apply len1_okI | with_reducible apply tup_ok | (show List.length (List.cons _ _) ≤ big; simp only [List.length_cons, List.length_nil]; decide) | (show List.length List.nil ≤ big; simp only [List.length_nil]; decide) | with_reducible exact DL.add_int | with_reducible exact DL.sub_int | with_reducible exact DL.lt_int | with_reducible exact DL.le_int | with_reducible exact DL.gt_int | with_reducible exact DL.ge_int | with_reducible exact oEq_int _ _ | with_reducible exact oNe_int _ _ | with_reducible exact int1 | with_reducible exact intb | with_reducible exact abs1 | with_reducible exact min2 | with_reducible exact max2 | with_reducible exact len_lst | with_reducible exact len_tup | with_reducible exact len_scr | with_reducible exact pow1018 | with_reducible exact pow1020 | with_reducible exact mod_ok (by omega) | with_reducible exact fdiv_ok (by omega) | with_reducible exact mul_ok (by unfold CMul; omega) | with_reducible assumption))) (andT_ok (by (repeat' (first | with_reducible exact c_ok | with_reducible exact nil_ok | exact v_ok rfl | exact bor_ok rfl | with_reducible apply op_ok | with_reducible apply un_ok | with_reducible apply call_ok | with_reducible apply cons_ok | with_reducible apply gB_ok | with_reducible apply ofL_ok | with_reducible apply len1_okI | with_reducible apply tup_ok | (show List.length (List.cons _ _) ≤ big; simp only [List.length_cons, List.length_nil]; decide) | (show List.length List.nil ≤ big; simp only [List.length_nil]; decide) | with_reducible exact DL.add_int | with_reducible exact DL.sub_int | with_reducible exact DL.lt_int | with_reducible exact DL.le_int | with_reducible exact DL.gt_int | with_reducible exact DL.ge_int | with_reducible exact oEq_int _ _ | with_reducible exact oNe_int _ _ | with_reducible exact int1 | with_reducible exact intb | with_reducible exact abs1 | with_reducible exact min2 | with_reducible exact max2 | with_reducible exact len_lst | with_reducible exact len_tup | with_reducible exact len_scr | with_reducible exact pow1018 | with_reducible exact pow1020 | with_reducible exact mod_ok (by omega) | with_reducible exact fdiv_ok (by omega) | with_reducible exact mul_ok (by unfold CMul; omega) | with_reducible assumption))) (by (repeat' (first | with_reducible exact c_ok | with_reducible exact nil_ok | exact v_ok rfl | exact bor_ok rfl | with_reducible apply op_ok | with_reducible apply un_ok | with_reducible apply call_ok | with_reducible apply cons_ok | with_reducible apply gB_ok | with_reducible apply ofL_ok | with_reducible apply len1_okI | with_reducible apply tup_ok | (show List.length (List.cons _ _) ≤ big; simp only [List.length_cons, List.length_nil]; decide) | (show List.length List.nil ≤ big; simp only [List.length_nil]; decide) | with_reducible exact DL.add_int | with_reducible exact DL.sub_int | with_reducible exact DL.lt_int | with_reducible exact DL.le_int | with_reducible exact DL.gt_int | with_reducible exact DL.ge_int | with_reducible exact oEq_int _ _ | with_reducible exact oNe_int _ _ | with_reducible exact int1 | with_reducible exact intb | with_reducible exact abs1 | with_reducible exact min2 | with_reducible exact max2 | with_reducible exact len_lst | with_reducible exact len_tup | with_reducible exact len_scr | with_reducible exact pow1018 | with_reducible exact pow1020 | with_reducible exact mod_ok (by omega) | with_reducible exact fdiv_ok (by omega) | with_reducible exact mul_ok (by unfold CMul; omega) | with_reducible assumption)))))) (fun _ => ok_set rfl (ok_next ⟨_, rfl, 0, rfl⟩)) fun _ => ok_next ⟨_, rfl, slack, rfl⟩) ?_
    rintro _ ⟨slack, rfl⟩
    refine ok_join (fun ρ => ∃ top : Option Int, (∀ y, top = some y → 0 ≤ y) ∧ ρ = fr (.sh (.int (i : Nat))) (.sh (.int slack)) (.sh (eOpt.e top)) nl bl) (ok_ifS _ (by (repeat' (first | with_reducible exact c_ok | with_reducible exact nil_ok | exact v_ok rfl | exact bor_ok rfl | with_reducible apply op_ok | with_reducible apply un_ok | with_reducible apply call_ok | with_reducible apply cons_ok | with_reducible apply gB_ok | with_reducible apply ofL_ok | with_reducible apply len1_okI | with_reducible apply tup_ok | (show List.length (List.cons _ _) ≤ big; simp only [List.length_cons, List.length_nil]; decide) | (show List.length List.nil ≤ big; simp only [List.length_nil]; decide) | with_reducible exact DL.add_int | with_reducible exact DL.sub_int | with_reducible exact DL.lt_int | with_reducible exact DL.le_int | with_reducible exact DL.gt_int | with_reducible exact DL.ge_int | with_reducible exact oEq_int _ _ | with_reducible exact oNe_int _ _ | with_reducible exact int1 | with_reducible exact intb | with_reducible exact abs1 | with_reducible exact min2 | with_reducible exact max2 | with_reducible exact len_lst | with_reducible exact len_tup | with_reducible exact len_scr | with_reducible exact pow1018 | with_reducible exact pow1020 | with_reducible exact mod_ok (by omega) | with_reducible exact fdiv_ok (by omega) | with_reducible exact mul_ok (by unfold CMul; omega) | with_reducible assumption))) (fun _ => ok_set (d := .int 1) rfl (ok_next ⟨_, rfl, some 1, fun y h => by cases h; omega, rfl⟩)) fun _ => ok_next ⟨_, rfl, top, ht0, rfl⟩) ?_
    rintro _ ⟨top, ht0, rfl⟩
    refine ok_join (fun ρ => ∃ top : Option Int, (∀ y, top = some y → 0 ≤ y) ∧ ρ = fr (.sh (.int (i : Nat))) (.sh (.int slack)) (.sh (eOpt.e top)) nl bl) (ok_ifS _ (orT_ok (by (repeat' (first | with_reducible exact c_ok | with_reducible exact nil_ok | exact v_ok rfl | exact bor_ok rfl | with_reducible apply op_ok | with_reducible apply un_ok | with_reducible apply call_ok | with_reducible apply cons_ok | with_reducible apply gB_ok | with_reducible apply ofL_ok | with_reducible apply len1_okI | with_reducible apply tup_ok | (show List.length (List.cons _ _) ≤ big; simp only [List.length_cons, List.length_nil]; decide) | (show List.length List.nil ≤ big; simp only [List.length_nil]; decide) | with_reducible exact DL.add_int | with_reducible exact DL.sub_int | with_reducible exact DL.lt_int | with_reducible exact DL.le_int | with_reducible exact DL.gt_int | with_reducible exact DL.ge_int | with_reducible exact oEq_int _ _ | with_reducible exact oNe_int _ _ | with_reducible exact int1 | with_reducible exact intb | with_reducible exact abs1 | with_reducible exact min2 | with_reducible exact max2 | with_reducible exact len_lst | with_reducible exact len_tup | with_reducible exact len_scr | with_reducible exact pow1018 | with_reducible exact pow1020 | with_reducible exact mod_ok (by omega) | with_reducible exact fdiv_ok (by omega) | with_reducible exact mul_ok (by unfold CMul; omega) | with_reducible assumption))) (by (repeat' (first | with_reducible exact c_ok | with_reducible exact nil_ok | exact v_ok rfl | exact bor_ok rfl | with_reducible apply op_ok | with_reducible apply un_ok | with_reducible apply call_ok | with_reducible apply cons_ok | with_reducible apply gB_ok | with_reducible apply ofL_ok | with_reducible apply len1_okI | with_reducible apply tup_ok | (show List.length (List.cons _ _) ≤ big; simp only [List.length_cons, List.length_nil]; decide) | (show List.length List.nil ≤ big; simp only [List.length_nil]; decide) | with_reducible exact DL.add_int | with_reducible exact DL.sub_int | with_reducible exact DL.lt_int | with_reducible exact DL.le_int | with_reducible exact DL.gt_int | with_reducible exact DL.ge_int | with_reducible exact oEq_int _ _ | with_reducible exact oNe_int _ _ | with_reducible exact int1 | with_reducible exact intb | with_reducible exact abs1 | with_reducible exact min2 | with_reducible exact max2 | with_reducible exact len_lst | with_reducible exact len_tup | with_reducible exact len_scr | with_reducible exact pow1018 | with_reducible exact pow1020 | with_reducible exact mod_ok (by omega) | with_reducible exact fdiv_ok (by omega) | with_reducible exact mul_ok (by unfold CMul; omega) | with_reducible assumption)))) (fun _ => ok_set (d := .non) rfl (ok_next ⟨_, rfl, none, (fun y h => by cases h), rfl⟩)) fun _ => ok_next ⟨_, rfl, top, ht0, rfl⟩) ?_
    rintro _ ⟨top, ht0, rfl⟩
    refine ok_app rfl (d := .int (if cv - slack > 0 then cv - slack else 0)) (call_ok (cons_ok rfl (cons_ok (op_ok (op_ok rfl rfl xc) rfl sub_int) rfl)) max2) (by rw [List.length_map]; exact bb.1) ?_
    have n1 : 0 ≤ (if cv - slack > 0 then cv - slack else 0) := by split <;> omega
    generalize (if cv - slack > 0 then cv - slack else 0) = nv at n1
    refine ok_join (fun ρ => ∃ (top : Option Int) (nv : Int), (∀ y, top = some y → 0 ≤ y) ∧ 0 ≤ nv ∧ ρ = fr (.sh (.int (i : Nat))) (.sh (.int slack)) (.sh (eOpt.e top)) (nl ++ [nv]) bl) (ok_ifS _ (by (repeat' (first | with_reducible exact c_ok | with_reducible exact nil_ok | exact v_ok rfl | exact bor_ok rfl | with_reducible apply op_ok | with_reducible apply un_ok | with_reducible apply call_ok | with_reducible apply cons_ok | with_reducible apply gB_ok | with_reducible apply ofL_ok | with_reducible apply len1_okI | with_reducible apply tup_ok | (show List.length (List.cons _ _) ≤ big; simp only [List.length_cons, List.length_nil]; decide) | (show List.length List.nil ≤ big; simp only [List.length_nil]; decide) | with_reducible exact DL.add_int | with_reducible exact DL.sub_int | with_reducible exact DL.lt_int | with_reducible exact DL.le_int | with_reducible exact DL.gt_int | with_reducible exact DL.ge_int | with_reducible exact oEq_int _ _ | with_reducible exact oNe_int _ _ | with_reducible exact int1 | with_reducible exact intb | with_reducible exact abs1 | with_reducible exact min2 | with_reducible exact max2 | with_reducible exact len_lst | with_reducible exact len_tup | with_reducible exact len_scr | with_reducible exact pow1018 | with_reducible exact pow1020 | with_reducible exact mod_ok (by omega) | with_reducible exact fdiv_ok (by omega) | with_reducible exact mul_ok (by unfold CMul; omega) | with_reducible assumption))) (fun _ => ?_) fun _ => ok_next ⟨_, rfl, top, nv, ht0, n1, by rw [map_snoc]; rfl⟩) ?_
    · refine ok_setIx (ds := (nl ++ [nv]).map D.int) (j := i) (d := .int 0) (by rw [← map_snoc]; rfl) rfl rfl (by rw [List.length_map, List.length_append, a1]; simp) ?_
      refine ok_set (d := eOpt.e (([some 0, some 0, some 0, some 1] : List (Option Int)).getD (q2 % 4).toNat none)) (op_ok (ofL_ok (len1_ok rfl (by show 4 ≤ big; decide))) (op_ok (call_ok (cons_ok (op_ok rfl (op_ok rfl (op_ok rfl rfl (mul_ok (.inl (by omega)))) add_int) x2) rfl) int1) rfl (mod_ok (by omega))) (tabE eOpt (T := [some 0, some 0, some 0, some 1]) none rfl (by omega) (by show _ < ((4 : Nat) : Int); omega))) (ok_next ⟨_, rfl, ([some 0, some 0, some 0, some 1] : List (Option Int)).getD (q2 % 4).toNat none, 0, fun y hy => ?_, by omega, ?_⟩)
      · have hmem := gD_mem (T := ([some 0, some 0, some 0, some 1] : List (Option Int))) (j := (q2 % 4).toNat) (d0 := none) (by show _ < 4; omega)
        rw [hy] at hmem
        simp only [List.mem_cons, List.not_mem_nil, or_false, Option.some.injEq, reduceCtorEq, false_or] at hmem
        omega
      · rw [map_set, show (nl ++ [nv]).set i 0 = nl ++ [0] by rw [List.set_append_right _ _ (by omega), a1, Nat.sub_self]; rfl]
        rfl
    rintro _ ⟨top, nv, ht0, n1, rfl⟩
    refine ok_join (fun ρ => ∃ (top : Option Int), (∀ y, top = some y → 0 ≤ y) ∧ ρ = fr (.sh (.int (i : Nat))) (.sh (.int slack)) (.sh (eOpt.e top)) (nl ++ [nv]) bl) (ok_ifS _ (gB_ok (op_ok rfl rfl oIs_opt)) (fun h => ?_) fun _ => ok_next ⟨_, rfl, top, ht0, rfl⟩) ?_
    · obtain ⟨y, rfl⟩ := Option.isSome_iff_exists.mp h
      have := ht0 y rfl
      exact ok_set (d := .int (cv + y)) (op_ok (op_ok rfl rfl xc) rfl add_int) (ok_next ⟨_, rfl, some (cv + y), fun z hz => by cases hz; omega, rfl⟩)
    rintro _ ⟨top, ht0, rfl⟩
    refine ok_app rfl rfl (by rw [List.length_map]; exact bb.2) (ok_next ⟨_, rfl, _, _, _, nl ++ [nv], bl ++ [top], by rw [List.length_append, a1]; rfl, fun z hz => ?_, by rw [List.length_append, a3]; rfl, fun o ho => ?_, by rw [show bl.map eOpt.e ++ [eOpt.e top] = (bl ++ [top]).map eOpt.e by rw [List.map_append]; rfl]; rfl⟩)
    · rcases List.mem_append.mp hz with q | q
      · exact a2 z q
      · rw [List.mem_singleton] at q; omega
    · rcases List.mem_append.mp ho with q | q
      · exact a4 o q
      · rw [List.mem_singleton] at q; rw [q]; exact ht0
  rintro ⟨a, b, c, nl, bl, a1, a2, a3, a4, rfl⟩
  rw [rangeD_len] at a1 a3
  refine ok_setOw (ds := []) rfl ?_
  refine ok_for (ds := rangeD ps.length) (fun i ρ => ∃ (x : B) (sd : List (List Int)), sd.length = i ∧ (∀ l ∈ sd, Ch l) ∧ ρ = [.sh (.lst [.int (m : Nat), .lst (ps.map ePair.e), .int r2]), .sh (.lst (row.map D.int)), .sh (.int (m : Nat)), .sh (.lst (ps.map ePair.e)), .sh (.lst (st.map D.int)), x, .sh (.lst (cs.map D.int)), .ow (.lst (nl.map D.int)), .ow (.lst (bl.map eOpt.e)), a, b, c, .ow (.lst (sd.map eRow.e))]) (range_ok ((len_ok rfl rfl).trans (by rw [List.length_map])) (by omega)) ⟨_, [], rfl, fun l h => absurd h (by simp), rfl⟩ (fun i d ρ hi hd => ?_) fun ρ => ?_
  · rintro ⟨x, sd, hs1, hs2, rfl⟩
    rw [rangeD_len] at hi
    cases rangeD_get hd
    have x1 := hx (11 + i) (by omega) (by omega)
    generalize row.getD (Int.toNat (11 + (i : Int))) 0 = q at x1
    have xs : oIx (.lst (st.map D.int)) (.int (i : Nat)) = some (.int (st.getD i 0)) := ixL (by rw [hb.1]; exact hi)
    have bs := hb.2 i hi
    obtain ⟨l, hl', hc⟩ : ∃ l, oIx (.lst [.tup [.int 0, .int 1], .tup [.int (st.getD i 0)]]) (.int (if decide (q = 5) = true then 1 else 0)) = some (eRow.e l) ∧ Ch l := by
      cases decide (q = 5)
      · exact ⟨[0, 1], rfl, .inl rfl⟩
      · refine ⟨[st.getD i 0], rfl, ?_⟩
        rcases bs with e | e
        · rw [e]; exact .inr (.inl rfl)
        · rw [e]; exact .inr (.inr (.inl rfl))
    refine ⟨_, rfl, ok_app rfl (op_ok (ofL_ok (len1_ok (cons_ok (tup_ok rfl (by decide)) (cons_ok (tup_ok (cons_ok (op_ok (bor_sh rfl) rfl xs) rfl) (by show 1 ≤ big; decide)) rfl)) (by show 2 ≤ big; decide))) (call_ok (cons_ok (op_ok (op_ok rfl (op_ok rfl rfl add_int) x1) rfl (oEq_int _ _)) rfl) intb) hl') (by rw [List.length_map, hs1]; exact Nat.lt_of_lt_of_le (show i < 8 by omega) (by decide)) (ok_next ⟨_, rfl, _, sd ++ [l], by rw [List.length_append, hs1]; rfl, all_snoc hs2 hc, by rw [← rows_snoc]; rfl⟩)⟩
  rintro ⟨x, sd, hs1, hs2, rfl⟩
  rw [rangeD_len] at hs1
  refine ok_freezeS rfl ?_
  refine ok_seq (ok_mono (ok_freeze rfl (ok_freeze rfl ⟨_, ret_ok (d := dW m ps nl bl sd []) (ofL_ok (len1_ok (cons_ok rfl (cons_ok rfl (cons_ok rfl (cons_ok rfl (cons_ok rfl rfl))))) (by show 5 ≤ big; decide))), rfl⟩)) fun r e => ?_)
  subst e
  exact ⟨_, rfl, m, ps, nl, bl, sd, [], rfl, hm0, by omega, by omega, vp, ⟨a1, a2, a3, a4, hs1, hs2⟩⟩
end Lw

/-! part N6 -/
set_option Elab.async false
set_option linter.all false
set_option maxRecDepth 100000
set_option maxHeartbeats 2000000
namespace Lw
open PySem PySem.Spec PyProof.Rows L2 DL
abbrev sz25 : List Int := [8, 8, 8, 8, 8, 8, 8, 8, 8, 8, 8, 24, 24, 24, 24, 24, 24, 24, 2, 2, 2, 2, 2, 2, 2]
abbrev sz18 : List Int := [4, 24, 24, 24, 24, 24, 24, 24, 24, 24, 24, 24, 24, 24, 24, 24, 24, 24]
theorem szS_ok (ρ : Rho) : gOp dAdd (gOfL (gLen1 (gCons (gC (.int 24)) (gCons (gC (.int 24)) (gCons (gC (.int 6)) gNil))))) (gOp dMulT (gOfL (gLen1 (gCons (gC (.int 12)) (gCons (gC (.int 12)) gNil)))) (gC (.int 7))) ρ = some (.lst (szS.map D.int)) :=
  op_ok (ofL_ok (len1_ok rfl (by show 3 ≤ big; decide))) (op_ok (ofL_ok (len1_ok rfl (by show 2 ≤ big; decide))) rfl tab12) rfl
theorem sz25_ok (ρ : Rho) : gOp dAdd (gOp dAdd (gOp dAdd (gOfL (gLen1 (gCons (gC (.int 8)) gNil))) (gOp dMulT (gOfL (gLen1 (gCons (gC (.int 8)) (gCons (gC (.int 8)) gNil)))) (gC (.int 5)))) (gOp dMulT (gOfL (gLen1 (gCons (gC (.int 24)) gNil))) (gC (.int 7)))) (gOp dMulT (gOfL (gLen1 (gCons (gC (.int 2)) gNil))) (gC (.int 7))) ρ = some (.lst (sz25.map D.int)) :=
  op_ok (op_ok (op_ok (ofL_ok (len1_ok rfl (by show 1 ≤ big; decide))) (op_ok (ofL_ok (len1_ok rfl (by show 2 ≤ big; decide))) rfl (mulL_ok (k := 5) (by omega) (by decide))) rfl) (op_ok (ofL_ok (len1_ok rfl (by show 1 ≤ big; decide))) rfl (mulL_ok (k := 7) (by omega) (by decide))) rfl) (op_ok (ofL_ok (len1_ok rfl (by show 1 ≤ big; decide))) rfl (mulL_ok (k := 7) (by omega) (by decide))) rfl
theorem sz18_ok (ρ : Rho) : gOp dAdd (gOp dAdd (gOfL (gLen1 (gCons (gC (.int 4)) gNil))) (gOp dMulT (gOfL (gLen1 (gCons (gC (.int 24)) (gCons (gC (.int 24)) gNil)))) (gC (.int 5)))) (gOp dMulT (gOfL (gLen1 (gCons (gC (.int 24)) gNil))) (gC (.int 7))) ρ = some (.lst (sz18.map D.int)) :=
  op_ok (op_ok (ofL_ok (len1_ok rfl (by show 1 ≤ big; decide))) (op_ok (ofL_ok (len1_ok rfl (by show 2 ≤ big; decide))) rfl (mulL_ok (k := 5) (by omega) (by decide))) rfl) (op_ok (ofL_ok (len1_ok rfl (by show 1 ≤ big; decide))) rfl (mulL_ok (k := 7) (by omega) (by decide))) rfl
theorem drawn_ok (ns : List Int) (k u : Nat) (hk : k ≤ 800) (hu : u ≤ 7) : Dn (g_law_drawn [.scr (ns.map D.int), .int (k : Nat), .int (u : Nat)]) Wd := by
  refine ok_dn rfl ?_
  obtain ⟨row, e1, hr⟩ := draw_ok (ns := ns) (k := k) (sz := szS) (ρ := [B.sh (.scr (ns.map D.int)), .sh (.int (k : Nat)), .sh (.int (u : Nat)), .un]) (v_ok (i := 0) rfl) (v_ok (i := 1) rfl) (szS_ok _) (by omega) (by decide) (by decide)
  obtain ⟨_, e2, m, ps, r2, rfl, hm0, hm, hp, vp⟩ := valley6_ok row u hr hu
  refine ok_set (call_ok (cons_ok e1 (cons_ok rfl rfl)) e2) ?_
  obtain ⟨row2, e3, hr2⟩ := draw_ok (ns := ns) (k := k + 1) (sz := sz25) (ρ := [B.sh (.scr (ns.map D.int)), .sh (.int (k : Nat)), .sh (.int (u : Nat)), .sh (.lst [.int (m : Nat), .lst (ps.map ePair.e), .int r2])]) (v_ok (i := 0) rfl) (show gOp dAdd (gV 1) (gC (.int 1)) _ = _ from op_ok rfl rfl addk) (sz25_ok _) (by omega) (by decide) (by decide)
  obtain ⟨d, e4, hd⟩ := world6_ok (r2 := r2) hm0 hm hp vp (row := row2) hr2.1
  exact ok_ret (call_ok (cons_ok rfl (cons_ok e3 rfl)) e4) ⟨_, rfl, hd⟩
theorem free_ok6 (ns : List Int) : Dn (g_law_free [.scr (ns.map D.int)]) Wd := by
  refine ok_dn rfl ?_
  obtain ⟨row0, e1, hr0⟩ := draw_ok (ns := ns) (k := 0) (sz := szS) (ga := gV 0) (gb := gC (.int 0)) (ρ := [B.sh (.scr (ns.map D.int)), .un, .un, .un, .un, .un, .un, .un, .un, .un, .un]) (v_ok (i := 0) rfl) rfl (szS_ok _) (by omega) (by decide) (by decide)
  obtain ⟨_, e2, m, ps, r2, rfl, hm0, hm, hp, vp⟩ := valley6_ok row0 7 hr0 (by omega)
  refine ok_set (call_ok (cons_ok e1 (cons_ok rfl rfl)) e2) ?_
  obtain ⟨row, e3, hr⟩ := draw_ok (ns := ns) (k := 1) (sz := sz18) (ga := gV 0) (gb := gC (.int 1)) (ρ := [B.sh (.scr (ns.map D.int)), .sh (.lst [.int (m : Nat), .lst (ps.map ePair.e), .int r2]), .un, .un, .un, .un, .un, .un, .un, .un, .un]) (v_ok (i := 0) rfl) rfl (sz18_ok _) (by omega) (by decide) (by decide)
  refine ok_set e3 ?_
  have hl : row.length = 18 := hr.1
  have hx := row_ix hl
  have s24 : ∀ j, j < 18 → sz18.getD j 0 ≤ 24 := by decide
  have hb : ∀ j : Nat, j < 18 → 0 ≤ row.getD j 0 ∧ row.getD j 0 < 24 := fun j hj => by
    have h1 := hr.2 j hj
    have h2 := s24 j hj
    omega
  have h0 := hx 0 (by omega) (by omega)
  generalize row.getD (Int.toNat 0) 0 = r0 at h0
  refine ok_setOw (ds := []) rfl (ok_setOw (ds := []) rfl ?_)
  let fr : B → B → B → List Int → List (Option Int) → Rho := fun a b c nl bl => [.sh (.scr (ns.map D.int)), .sh (.lst [.int (m : Nat), .lst (ps.map ePair.e), .int r2]), .sh (.lst (row.map D.int)), .ow (.lst (nl.map D.int)), .ow (.lst (bl.map eOpt.e)), a, b, c, .un, .un, .un]
  refine ok_for (ds := rangeD m) (fun i ρ => ∃ (a b c : B) (nl : List Int) (bl : List (Option Int)), nl.length = i ∧ NN nl ∧ bl.length = i ∧ BN bl ∧ ρ = fr a b c nl bl) (range_ok (op_ok rfl rfl rfl) (by omega)) ⟨.un, .un, .un, [], [], rfl, fun x h => absurd h (by simp), rfl, fun x h => absurd h (by simp), rfl⟩ (fun i d ρ hi hd => ?_) fun ρ => ?_
  · rintro ⟨a, b, c, nl, bl, a1, a2, a3, a4, rfl⟩
    rw [rangeD_len] at hi
    cases rangeD_get hd
    have x1 := hx (1 + 2 * i) (by omega) (by omega)
    have x2 := hx (2 + 2 * i) (by omega) (by omega)
    have b1 := hb (1 + 2 * i) (by omega)
    have b2 := hb (2 + 2 * i) (by omega)
    rw [show (1 + 2 * (i : Int)).toNat = 1 + 2 * i by omega] at x1
    rw [show (2 + 2 * (i : Int)).toNat = 2 + 2 * i by omega] at x2
    generalize row.getD (1 + 2 * i) 0 = q1 at x1 b1
    generalize row.getD (2 + 2 * i) 0 = q2 at x2 b2
    have bb : nl.length < big ∧ bl.length < big := by rw [a1, a3]; exact ⟨Nat.lt_of_lt_of_le (show i < 5 by omega) (by decide), Nat.lt_of_lt_of_le (show i < 5 by omega) (by decide)⟩
    refine ⟨_, rfl, ok_set (d := .int q1) (call_ok (cons_ok (op_ok rfl (op_ok rfl (op_ok rfl rfl (mul_ok (.inl (by omega)))) add_int) x1) rfl) int1) ?_⟩
    obtain ⟨v, ev1, hv0, hv1⟩ := tab_get (T := [0, 1, 0, 2, 0, 0, 1, 0, 3, 0, 1, 0, 0, 1, 0, 1, 2, 0, 4, 5, 6, 7, 8, 1]) (lo := 0) (hi := 8) (j := q1) (by decide) b1.1 (by show _ < ((24 : Nat) : Int); omega)
    refine ok_app rfl (op_ok (ofL_ok (len1_ok rfl (by show 24 ≤ big; decide))) rfl ev1) (by rw [List.length_map]; exact bb.1) ?_
    refine ok_set (d := .int q2) (call_ok (cons_ok (op_ok rfl (op_ok rfl (op_ok rfl rfl (mul_ok (.inl (by omega)))) add_int) x2) rfl) int1) ?_
    have et := tabE eOpt (T := [none, some 2, some 3, none, some 4, some 2, none, some 5, some 3, some 4, none, some 1, some 3, some 6, some 0, some 7, some 8, none, some 1, some 2, some 3, none, some 2, none]) (c := .lst (([none, some 2, some 3, none, some 4, some 2, none, some 5, some 3, some 4, none, some 1, some 3, some 6, some 0, some 7, some 8, none, some 1, some 2, some 3, none, some 2, none] : List (Option Int)).map eOpt.e)) none rfl b2.1 (by show _ < ((24 : Nat) : Int); omega)
    have ht0 : ∀ y, ([none, some 2, some 3, none, some 4, some 2, none, some 5, some 3, some 4, none, some 1, some 3, some 6, some 0, some 7, some 8, none, some 1, some 2, some 3, none, some 2, none] : List (Option Int)).getD q2.toNat none = some y → 0 ≤ y := fun y hy => by
      have hmem := gD_mem (T := ([none, some 2, some 3, none, some 4, some 2, none, some 5, some 3, some 4, none, some 1, some 3, some 6, some 0, some 7, some 8, none, some 1, some 2, some 3, none, some 2, none] : List (Option Int))) (j := q2.toNat) (d0 := none) (by show _ < 24; omega)
      rw [hy] at hmem
      simp only [List.mem_cons, List.not_mem_nil, or_false, Option.some.injEq, reduceCtorEq, false_or] at hmem
      omega
    generalize ([none, some 2, some 3, none, some 4, some 2, none, some 5, some 3, some 4, none, some 1, some 3, some 6, some 0, some 7, some 8, none, some 1, some 2, some 3, none, some 2, none] : List (Option Int)).getD q2.toNat none = top at et ht0
    refine ok_app rfl (op_ok (ofL_ok (len1_ok rfl (by show 24 ≤ big; decide))) rfl et) (by rw [List.length_map]; exact bb.2) ?_
    have c1 : (nl ++ [v]).length = i + 1 := by rw [List.length_append, a1]; rfl
    have c3 : (bl ++ [top]).length = i + 1 := by rw [List.length_append, a3]; rfl
    have c2 : NN (nl ++ [v]) := fun z hz => by
      rcases List.mem_append.mp hz with q | q
      · exact a2 z q
      · rw [List.mem_singleton] at q; omega
    have c4 : BN (bl ++ [top]) := fun o ho => by
      rcases List.mem_append.mp ho with q | q
      · exact a4 o q
      · rw [List.mem_singleton] at q; rw [q]; exact ht0
    have e6 : bl.map eOpt.e ++ [eOpt.e top] = (bl ++ [top]).map eOpt.e := by rw [List.map_append]; rfl
    rw [e6, map_snoc]
    clear e6
    generalize nl ++ [v] = nl' at c1 c2 ⊢
    generalize bl ++ [top] = bl' at c3 c4 ⊢
    refine ok_join (fun ρ => ∃ nl : List Int, nl.length = i + 1 ∧ NN nl ∧ ρ = fr (.sh (.int (i : Nat))) (.sh (.int q1)) (.sh (.int q2)) nl bl') (ok_ifS _ (by (repeat' (first | with_reducible exact c_ok | with_reducible exact nil_ok | exact v_ok rfl | exact bor_ok rfl | with_reducible apply op_ok | with_reducible apply un_ok | with_reducible apply call_ok | with_reducible apply cons_ok | with_reducible apply gB_ok | with_reducible apply ofL_ok | with_reducible apply len1_okI | with_reducible apply tup_ok | (show List.length (List.cons _ _) ≤ big; simp only [List.length_cons, List.length_nil]; decide) | (show List.length List.nil ≤ big; simp only [List.length_nil]; decide) | with_reducible exact DL.add_int | with_reducible exact DL.sub_int | with_reducible exact DL.lt_int | with_reducible exact DL.le_int | with_reducible exact DL.gt_int | with_reducible exact DL.ge_int | with_reducible exact oEq_int _ _ | with_reducible exact oNe_int _ _ | with_reducible exact int1 | with_reducible exact intb | with_reducible exact abs1 | with_reducible exact min2 | with_reducible exact max2 | with_reducible exact len_lst | with_reducible exact len_tup | with_reducible exact len_scr | with_reducible exact pow1018 | with_reducible exact pow1020 | with_reducible exact mod_ok (by omega) | with_reducible exact fdiv_ok (by omega) | with_reducible exact mul_ok (by unfold CMul; omega) | with_reducible assumption))) (fun _ => ?_) fun _ => ok_next ⟨_, rfl, nl', c1, c2, rfl⟩) ?_
    · have g0 : 0 ≤ nl'.getD i 0 := c2 _ (gD_mem (by omega))
      exact ok_setIx (ds := nl'.map D.int) (j := i) (d := .int (if 1 + (i : Int) % 2 < nl'.getD i 0 then 1 + (i : Int) % 2 else nl'.getD i 0)) rfl rfl (call_ok (cons_ok (op_ok rfl rfl (ixL (by omega))) (cons_ok (op_ok rfl (op_ok (call_ok (cons_ok rfl rfl) int1) rfl (mod_ok (by omega))) add_int) rfl)) min2) (by rw [List.length_map]; omega) (ok_next ⟨_, rfl, nl'.set i (if 1 + (i : Int) % 2 < nl'.getD i 0 then 1 + (i : Int) % 2 else nl'.getD i 0), by rw [List.length_set]; exact c1, c2.set (by split <;> omega), by rw [map_set]; rfl⟩)
    rintro _ ⟨nl, d1, d2, rfl⟩
    refine ok_join (fun ρ => ∃ bl : List (Option Int), bl.length = i + 1 ∧ BN bl ∧ ρ = fr (.sh (.int (i : Nat))) (.sh (.int q1)) (.sh (.int q2)) nl bl) (ok_ifS _ (orT_ok (by (repeat' (first | with_reducible exact c_ok | with_reducible exact nil_ok | exact v_ok rfl | exact bor_ok rfl | with_reducible apply op_ok | with_reducible apply un_ok | with_reducible apply call_ok | with_reducible apply cons_ok | with_reducible apply gB_ok | with_reducible apply ofL_ok | with_reducible apply len1_okI | with_reducible apply tup_ok | (show List.length (List.cons _ _) ≤ big; simp only [List.length_cons, List.length_nil]; decide) | (show List.length List.nil ≤ big; simp only [List.length_nil]; decide) | with_reducible exact DL.add_int | with_reducible exact DL.sub_int | with_reducible exact DL.lt_int | with_reducible exact DL.le_int | with_reducible exact DL.gt_int | with_reducible exact DL.ge_int | with_reducible exact oEq_int _ _ | with_reducible exact oNe_int _ _ | with_reducible exact int1 | with_reducible exact intb | with_reducible exact abs1 | with_reducible exact min2 | with_reducible exact max2 | with_reducible exact len_lst | with_reducible exact len_tup | with_reducible exact len_scr | with_reducible exact pow1018 | with_reducible exact pow1020 | with_reducible exact mod_ok (by omega) | with_reducible exact fdiv_ok (by omega) | with_reducible exact mul_ok (by unfold CMul; omega) | with_reducible assumption))) (andT_ok (by (repeat' (first | with_reducible exact c_ok | with_reducible exact nil_ok | exact v_ok rfl | exact bor_ok rfl | with_reducible apply op_ok | with_reducible apply un_ok | with_reducible apply call_ok | with_reducible apply cons_ok | with_reducible apply gB_ok | with_reducible apply ofL_ok | with_reducible apply len1_okI | with_reducible apply tup_ok | (show List.length (List.cons _ _) ≤ big; simp only [List.length_cons, List.length_nil]; decide) | (show List.length List.nil ≤ big; simp only [List.length_nil]; decide) | with_reducible exact DL.add_int | with_reducible exact DL.sub_int | with_reducible exact DL.lt_int | with_reducible exact DL.le_int | with_reducible exact DL.gt_int | with_reducible exact DL.ge_int | with_reducible exact oEq_int _ _ | with_reducible exact oNe_int _ _ | with_reducible exact int1 | with_reducible exact intb | with_reducible exact abs1 | with_reducible exact min2 | with_reducible exact max2 | with_reducible exact len_lst | with_reducible exact len_tup | with_reducible exact len_scr | with_reducible exact pow1018 | with_reducible exact pow1020 | with_reducible exact mod_ok (by omega) | with_reducible exact fdiv_ok (by omega) | with_reducible exact mul_ok (by unfold CMul; omega) | with_reducible assumption))) (by (repeat' (first | with_reducible exact c_ok | with_reducible exact nil_ok | exact v_ok rfl | exact bor_ok rfl | with_reducible apply op_ok | with_reducible apply un_ok | with_reducible apply call_ok | with_reducible apply cons_ok | with_reducible apply gB_ok | with_reducible apply ofL_ok | with_reducible apply len1_okI | with_reducible apply tup_ok | (show List.length (List.cons _ _) ≤ big; simp only [List.length_cons, List.length_nil]; decide) | (show List.length List.nil ≤ big; simp only [List.length_nil]; decide) | with_reducible exact DL.add_int | with_reducible exact DL.sub_int | with_reducible exact DL.lt_int | with_reducible exact DL.le_int | with_reducible exact DL.gt_int | with_reducible exact DL.ge_int | with_reducible exact oEq_int _ _ | with_reducible exact oNe_int _ _ | with_reducible exact int1 | with_reducible exact intb | with_reducible exact abs1 | with_reducible exact min2 | with_reducible exact max2 | with_reducible exact len_lst | with_reducible exact len_tup | with_reducible exact len_scr | with_reducible exact pow1018 | with_reducible exact pow1020 | with_reducible exact mod_ok (by omega) | with_reducible exact fdiv_ok (by omega) | with_reducible exact mul_ok (by unfold CMul; omega) | with_reducible assumption))))) (fun _ => ?_) fun _ => ok_next ⟨_, rfl, bl', c3, c4, rfl⟩) ?_
    · exact ok_setIx (ds := bl'.map eOpt.e) (j := i) (d := eOpt.e none) rfl rfl rfl (by rw [List.length_map]; omega) (ok_next ⟨_, rfl, bl'.set i none, by rw [List.length_set]; exact c3, c4.set (fun x h => by cases h), by rw [opt_set]; rfl⟩)
    rintro _ ⟨bl, d3, d4, rfl⟩
    exact ok_next ⟨_, rfl, _, _, _, nl, bl, d1, d2, d3, d4, rfl⟩
  rintro ⟨a, b, c, nl, bl, a1, a2, a3, a4, rfl⟩
  rw [rangeD_len] at a1 a3
  refine ok_setOw (ds := []) rfl ?_
  refine ok_for (ds := rangeD ps.length) (fun i ρ => ∃ (x y : B) (sd : List (List Int)), sd.length = i ∧ (∀ l ∈ sd, Ch l) ∧ ρ = [.sh (.scr (ns.map D.int)), .sh (.lst [.int (m : Nat), .lst (ps.map ePair.e), .int r2]), .sh (.lst (row.map D.int)), .ow (.lst (nl.map D.int)), .ow (.lst (bl.map eOpt.e)), a, b, c, .ow (.lst (sd.map eRow.e)), x, y]) (range_ok ((len_ok (op_ok rfl rfl rfl) rfl).trans (by rw [List.length_map])) (by omega)) ⟨_, _, [], rfl, fun l h => absurd h (by simp), rfl⟩ (fun i d ρ hi hd => ?_) fun ρ => ?_
  · rintro ⟨x, y, sd, hs1, hs2, rfl⟩
    rw [rangeD_len] at hi
    cases rangeD_get hd
    have x1 := hx (11 + i) (by omega) (by omega)
    have b1 := hb (11 + i) (by omega)
    rw [show (11 + (i : Int)).toNat = 11 + i by omega] at x1
    generalize row.getD (11 + i) 0 = q at x1 b1
    refine ⟨_, rfl, ok_set (d := .int q) (call_ok (cons_ok (op_ok rfl (op_ok rfl rfl add_int) x1) rfl) int1) ?_⟩
    obtain ⟨l, j, hj, hl', hc⟩ : ∃ (l : List Int) (j : Int), (q ≤ 4 → oIx (.lst [.int 1, .int 2, .int 1, .int 2, .int 3]) (.int q) = some (.int j)) ∧ oIx (.lst [.tup [.int 0, .int 1], .tup [.int 0], .tup [.int 1], .tup []]) (.int (if decide (q > 4) = true then 0 else j)) = some (eRow.e l) ∧ Ch l := by
      by_cases h : q > 4
      · exact ⟨[0, 1], 0, fun h2 => absurd h2 (by omega), by rw [decide_eq_true h]; rfl, .inl rfl⟩
      · rw [decide_eq_false h]
        rcases (by omega : q = 0 ∨ q = 1 ∨ q = 2 ∨ q = 3 ∨ q = 4) with e | e | e | e | e <;> subst e
        · exact ⟨[0], 1, fun _ => rfl, rfl, .inr (.inl rfl)⟩
        · exact ⟨[1], 2, fun _ => rfl, rfl, .inr (.inr (.inl rfl))⟩
        · exact ⟨[0], 1, fun _ => rfl, rfl, .inr (.inl rfl)⟩
        · exact ⟨[1], 2, fun _ => rfl, rfl, .inr (.inr (.inl rfl))⟩
        · exact ⟨[], 3, fun _ => rfl, rfl, .inr (.inr (.inr rfl))⟩
    refine ok_app rfl (op_ok (ofL_ok (len1_ok (cons_ok (tup_ok rfl (by decide)) (cons_ok (tup_ok rfl (by decide)) (cons_ok (tup_ok rfl (by decide)) (cons_ok (tup_ok rfl (by decide)) rfl)))) (by show 4 ≤ big; decide))) (if_ok (x := decide (q > 4)) (by (repeat' (first | with_reducible exact c_ok | with_reducible exact nil_ok | exact v_ok rfl | exact bor_ok rfl | with_reducible apply op_ok | with_reducible apply un_ok | with_reducible apply call_ok | with_reducible apply cons_ok | with_reducible apply gB_ok | with_reducible apply ofL_ok | with_reducible apply len1_okI | with_reducible apply tup_ok | (show List.length (List.cons _ _) ≤ big; simp only [List.length_cons, List.length_nil]; decide) | (show List.length List.nil ≤ big; simp only [List.length_nil]; decide) | with_reducible exact DL.add_int | with_reducible exact DL.sub_int | with_reducible exact DL.lt_int | with_reducible exact DL.le_int | with_reducible exact DL.gt_int | with_reducible exact DL.ge_int | with_reducible exact oEq_int _ _ | with_reducible exact oNe_int _ _ | with_reducible exact int1 | with_reducible exact intb | with_reducible exact abs1 | with_reducible exact min2 | with_reducible exact max2 | with_reducible exact len_lst | with_reducible exact len_tup | with_reducible exact len_scr | with_reducible exact pow1018 | with_reducible exact pow1020 | with_reducible exact mod_ok (by omega) | with_reducible exact fdiv_ok (by omega) | with_reducible exact mul_ok (by unfold CMul; omega) | with_reducible assumption))) (fun h => ?_) fun h => ?_) hl') (by rw [List.length_map, hs1]; exact Nat.lt_of_lt_of_le (show i < 8 by omega) (by decide)) (ok_next ⟨_, rfl, _, _, sd ++ [l], by rw [List.length_append, hs1]; rfl, all_snoc hs2 hc, by rw [← rows_snoc]; rfl⟩)
    · rw [if_pos h]; rfl
    · rw [if_neg (by rw [h]; decide)]
      exact op_ok (ofL_ok (len1_ok rfl (by show 5 ≤ big; decide))) rfl (hj (by have := of_decide_eq_false h; omega))
  rintro ⟨x, y, sd, hs1, hs2, rfl⟩
  rw [rangeD_len] at hs1
  refine ok_seq (ok_mono (ok_freeze rfl (ok_freeze rfl (ok_freeze rfl ⟨_, ret_ok (d := dW m ps nl bl sd []) (ofL_ok (len1_ok (cons_ok (op_ok rfl rfl rfl) (cons_ok (op_ok rfl rfl rfl) (cons_ok rfl (cons_ok rfl (cons_ok rfl rfl))))) (by show 5 ≤ big; decide))), rfl⟩))) fun r e => ?_)
  subst e
  exact ⟨_, rfl, m, ps, nl, bl, sd, [], rfl, hm0, by omega, by omega, vp, ⟨a1, a2, a3, a4, hs1, hs2⟩⟩
theorem small6_ok (ns : List Int) (c : Int) : Dn (g_law_small_world [.scr (ns.map D.int), .int c]) Wd := by
  refine ok_dn rfl ?_
  obtain ⟨d1, e1, w1⟩ := free_ok6 ns
  refine ok_if _ (by (repeat' (first | with_reducible exact c_ok | with_reducible exact nil_ok | exact v_ok rfl | exact bor_ok rfl | with_reducible apply op_ok | with_reducible apply un_ok | with_reducible apply call_ok | with_reducible apply cons_ok | with_reducible apply gB_ok | with_reducible apply ofL_ok | with_reducible apply len1_okI | with_reducible apply tup_ok | (show List.length (List.cons _ _) ≤ big; simp only [List.length_cons, List.length_nil]; decide) | (show List.length List.nil ≤ big; simp only [List.length_nil]; decide) | with_reducible exact DL.add_int | with_reducible exact DL.sub_int | with_reducible exact DL.lt_int | with_reducible exact DL.le_int | with_reducible exact DL.gt_int | with_reducible exact DL.ge_int | with_reducible exact oEq_int _ _ | with_reducible exact oNe_int _ _ | with_reducible exact int1 | with_reducible exact intb | with_reducible exact abs1 | with_reducible exact min2 | with_reducible exact max2 | with_reducible exact len_lst | with_reducible exact len_tup | with_reducible exact len_scr | with_reducible exact pow1018 | with_reducible exact pow1020 | with_reducible exact mod_ok (by omega) | with_reducible exact fdiv_ok (by omega) | with_reducible exact mul_ok (by unfold CMul; omega) | with_reducible assumption))) (fun h => ok_ret (call_ok (cons_ok rfl rfl) e1) ⟨_, rfl, w1⟩) fun _ => ok_next ?_
  obtain ⟨u, hu, eu⟩ : ∃ u : Nat, u ≤ 7 ∧ oIx (.lst [.int 7, .int 1]) (.int (if decide (c % 16 = 15) = true then 1 else 0)) = some (.int (u : Nat)) := by
    cases decide (c % 16 = 15)
    · exact ⟨7, by omega, rfl⟩
    · exact ⟨1, by omega, rfl⟩
  obtain ⟨d2, e2, w2⟩ := drawn_ok ns 0 u (by omega) hu
  exact ok_ret (call_ok (cons_ok rfl (cons_ok rfl (cons_ok (op_ok (ofL_ok (len1_ok rfl (by show 2 ≤ big; decide))) (call_ok (cons_ok (op_ok (op_ok (call_ok (cons_ok rfl rfl) int1) rfl (mod_ok (by omega))) rfl (oEq_int _ _)) rfl) intb) eu) rfl))) e2) ⟨_, rfl, w2⟩
end Lw

/-! part N7 -/
set_option Elab.async false
set_option linter.all false
set_option maxRecDepth 100000
set_option maxHeartbeats 2000000
namespace DL
open L2
theorem pow1030 : dPow (.int 10) (.int 30) = some (.int 1000000000000000000000000000000) := by
  show (if CPow 10 30 then some (D.int (10 ^ (30 : Int).toNat)) else none) = _
  rw [if_pos (by unfold CPow; omega)]
  rfl
theorem mod_nat (x : Int) {m : Nat} (h : 0 < m) : ∃ j : Nat, j < m ∧ x % (m : Int) = (j : Nat) := by
  have h1 := Int.emod_nonneg x (b := (m : Int)) (by omega)
  have h2 := Int.emod_lt_of_pos x (b := (m : Int)) (by omega)
  exact ⟨(x % (m : Int)).toNat, by omega, by omega⟩
end DL
namespace Lw
open PySem PySem.Spec PyProof.Rows L2 DL
section
variable {m n : Nat} {lo : List Int} {hs : List (Option Int)} {sd : List (List Int)}
theorem Bd.slo (b : Bd m n lo hs sd) {j : Nat} {x : Int} (h : 0 ≤ x) : Bd m n (lo.set j x) hs sd := ⟨by rw [List.length_set]; exact b.l1, b.n1.set h, b.l2, b.n2, b.l3, b.n3⟩
theorem Bd.shi (b : Bd m n lo hs sd) {j : Nat} {x : Option Int} (h : ∀ y, x = some y → 0 ≤ y) : Bd m n lo (hs.set j x) sd := ⟨b.l1, b.n1, by rw [List.length_set]; exact b.l2, b.n2.set h, b.l3, b.n3⟩
theorem Bd.ssd (b : Bd m n lo hs sd) {j : Nat} {x : List Int} (h : Ch x) : Bd m n lo hs (sd.set j x) := ⟨b.l1, b.n1, b.l2, b.n2, by rw [List.length_set]; exact b.l3, fun y hy => by
  rcases List.mem_or_eq_of_mem_set hy with q | q
  · exact b.n3 y q
  · rw [q]; exact h⟩
theorem Bd.gl (b : Bd m n lo hs sd) {j : Nat} (h : j < m) : 0 ≤ lo.getD j 0 := b.n1 _ (gD_mem (by rw [b.l1]; exact h))
end
abbrev T6s : List (List Int) := [[0], [1], [], [0], [1], [0, 1]]
theorem T6s_ch : ∀ l ∈ T6s, Ch l := fun l hl => by
  simp only [List.mem_cons, List.not_mem_nil, or_false] at hl
  rcases hl with e | e | e | e | e | e <;> subst e
  · exact .inr (.inl rfl)
  · exact .inr (.inr (.inl rfl))
  · exact .inr (.inr (.inr rfl))
  · exact .inr (.inl rfl)
  · exact .inr (.inr (.inl rfl))
  · exact .inl rfl
theorem row_set {l : List (List Int)} {j : Nat} {x : List Int} : (l.map eRow.e).set j (eRow.e x) = (l.set j x).map eRow.e := by rw [List.map_set]
theorem spoilt_ok {m : Nat} {ps : List (Int × Int)} {lo : List Int} {hs : List (Option Int)} {sd : List (List Int)} {x : List D} {row : List Int} (hm0 : 1 ≤ m) (hm : m ≤ 24) (hp : ps.length ≤ 48) (bd : Bd m ps.length lo hs sd) (hl : row.length = 10) : Dn (g_law_spoilt [dW m ps lo hs sd x, .lst (row.map D.int)]) fun d => ∃ lo hs sd, d = dW m ps lo hs sd [] ∧ Bd m ps.length lo hs sd := by
  refine ok_dn rfl ?_
  obtain ⟨w0, w1, w2, w3, w4⟩ := wix (m := m) (ps := ps) (lo := lo) (hs := hs) (sd := sd) (x := x)
  have hx := row_ix hl
  have h0 := hx 0 (by omega) (by omega)
  generalize row.getD (Int.toNat 0) 0 = r0 at h0
  refine ok_set (op_ok rfl rfl w0) (ok_set (op_ok rfl rfl w1) ?_)
  refine ok_setOw (listOf_ok (op_ok rfl rfl w2) rfl) (ok_setOw (listOf_ok (op_ok rfl rfl w3) rfl) (ok_setOw (listOf_ok (op_ok rfl rfl w4) rfl) ?_))
  obtain ⟨tn, et, htn⟩ : ∃ n : Nat, oIx (.lst [.int 1, .int 0, .int 2, .int 1, .int 0, .int 3, .int 1, .int 2]) (.int (r0 % 8)) = some (.int (n : Nat)) ∧ n ≤ 3 := by
    obtain ⟨v, e, v0, v1⟩ := tab_get (T := [1, 0, 2, 1, 0, 3, 1, 2]) (lo := 0) (hi := 3) (j := r0 % 8) (by decide) (by omega) (by show _ < ((8 : Nat) : Int); omega)
    exact ⟨v.toNat, by rw [show ((v.toNat : Nat) : Int) = v by omega]; exact e, by omega⟩
  let fr : B → B → B → B → B → List Int → List (Option Int) → List (List Int) → Rho := fun a b c d e nl bl sl => [.sh (dW m ps lo hs sd x), .sh (.lst (row.map D.int)), .sh (.int (m : Nat)), .sh (.lst (ps.map ePair.e)), .ow (.lst (nl.map D.int)), .ow (.lst (bl.map eOpt.e)), .ow (.lst (sl.map eRow.e)), a, b, c, d, e, .un]
  refine ok_for (ds := rangeD tn) (fun i ρ => ∃ (a b c d e : B) (nl : List Int) (bl : List (Option Int)) (sl : List (List Int)), Bd m ps.length nl bl sl ∧ ρ = fr a b c d e nl bl sl) (range_ok (op_ok (ofL_ok (len1_ok rfl (by show 8 ≤ big; decide))) (op_ok (call_ok (cons_ok (op_ok rfl rfl h0) rfl) int1) rfl (mod_ok (by omega))) et) (by omega)) ⟨.un, .un, .un, .un, .un, lo, hs, sd, bd, rfl⟩ (fun i d ρ hi hd => ?_) fun ρ => ?_
  · rintro ⟨a, b, c, dd, e, nl, bl, sl, bd, rfl⟩
    rw [rangeD_len] at hi
    cases rangeD_get hd
    have x1 := hx (1 + 3 * i) (by omega) (by omega)
    have x2 := hx (2 + 3 * i) (by omega) (by omega)
    have x3 := hx (3 + 3 * i) (by omega) (by omega)
    generalize row.getD (Int.toNat (1 + 3 * (i : Int))) 0 = q1 at x1
    generalize row.getD (Int.toNat (2 + 3 * (i : Int))) 0 = q2 at x2
    generalize row.getD (Int.toNat (3 + 3 * (i : Int))) 0 = q3 at x3
    refine ⟨_, rfl, ok_set (d := .int (q1 % 12)) (op_ok (call_ok (cons_ok (op_ok rfl (op_ok rfl (op_ok rfl rfl (mul_ok (.inl (by omega)))) add_int) x1) rfl) int1) rfl (mod_ok (by omega))) ?_⟩
    have hk : 0 ≤ q1 % 12 ∧ q1 % 12 < 12 := by omega
    generalize q1 % 12 = κ at hk
    obtain ⟨μ, hμ, eμ⟩ := mod_nat q2 (m := m) (by omega)
    refine ok_set (d := .int (μ : Nat)) ((op_ok (call_ok (cons_ok (op_ok rfl (op_ok rfl (op_ok rfl rfl (mul_ok (.inl (by omega)))) add_int) x2) rfl) int1) rfl (mod_ok (by omega))).trans (by rw [eμ])) ?_
    refine ok_set (d := .int (q3 % 6)) (op_ok (call_ok (cons_ok (op_ok rfl (op_ok rfl (op_ok rfl rfl (mul_ok (.inl (by omega)))) add_int) x3) rfl) int1) rfl (mod_ok (by omega))) ?_
    have hσ : 0 ≤ q3 % 6 ∧ q3 % 6 < 6 := by omega
    generalize q3 % 6 = σ at hσ
    refine ok_set (len_ok (ofL_ok (comp_of (ds := rangeD ps.length) (fun k => ([(ps.getD k (0, 0)).1, (ps.getD k (0, 0)).2] : List Int).any fun b => b == (μ : Int)) (fun k => D.int (k : Nat)) (range_ok ((len_ok rfl rfl).trans (by rw [List.length_map])) (by omega)) (by rw [rangeD_len]; exact Nat.le_trans hp (by decide)) fun k e hk he => ?_)) rfl) ?_
    · rw [rangeD_len] at hk
      cases rangeD_get he
      have xp : oIx (.lst (ps.map ePair.e)) (.int (k : Nat)) = some (.tup [.int (ps[k]).1, .int (ps[k]).2]) := ix_nat rfl (pair_get hk)
      refine ⟨_, rfl, gB_ok ((op_ok rfl (op_ok rfl rfl xp) (in_int (neg := false) (T := [(ps[k]).1, (ps[k]).2]) rfl)).trans (by rw [if_neg Bool.false_ne_true, pgetD hk])), fun _ => rfl⟩
    generalize (List.map (fun k => D.int (k : Nat)) _).length = N
    let S : List Int → List (Option Int) → List (List Int) → Rho := fun nl bl sl => fr (.sh (.int (i : Nat))) (.sh (.int κ)) (.sh (.int (μ : Nat))) (.sh (.int σ)) (.sh (.int (N : Nat))) nl bl sl
    let J : Rho → Prop := fun ρ => ∃ nl bl sl, Bd m ps.length nl bl sl ∧ ρ = S nl bl sl
    have lm : ∀ {nl : List Int} {bl sl}, Bd m ps.length nl bl sl → oIx (.lst (nl.map D.int)) (.int (μ : Nat)) = some (.int (nl.getD μ 0)) := fun b => ixL (by rw [b.l1]; exact hμ)
    refine ok_join J (ok_ifS _ (by (repeat' (first | with_reducible exact c_ok | with_reducible exact nil_ok | exact v_ok rfl | exact bor_ok rfl | with_reducible apply op_ok | with_reducible apply un_ok | with_reducible apply call_ok | with_reducible apply cons_ok | with_reducible apply gB_ok | with_reducible apply ofL_ok | with_reducible apply len1_okI | with_reducible apply tup_ok | (show List.length (List.cons _ _) ≤ big; simp only [List.length_cons, List.length_nil]; decide) | (show List.length List.nil ≤ big; simp only [List.length_nil]; decide) | with_reducible exact DL.add_int | with_reducible exact DL.sub_int | with_reducible exact DL.lt_int | with_reducible exact DL.le_int | with_reducible exact DL.gt_int | with_reducible exact DL.ge_int | with_reducible exact oEq_int _ _ | with_reducible exact oNe_int _ _ | with_reducible exact int1 | with_reducible exact intb | with_reducible exact abs1 | with_reducible exact min2 | with_reducible exact max2 | with_reducible exact len_lst | with_reducible exact len_tup | with_reducible exact len_scr | with_reducible exact pow1018 | with_reducible exact pow1020 | with_reducible exact mod_ok (by omega) | with_reducible exact fdiv_ok (by omega) | with_reducible exact mul_ok (by unfold CMul; omega) | with_reducible assumption))) (fun _ => ?_) fun _ => ok_next ⟨_, rfl, nl, bl, sl, bd, rfl⟩) ?_
    · have g := bd.gl hμ
      exact ok_setIx (ds := nl.map D.int) (j := μ) (d := .int (nl.getD μ 0 + 1 + σ / 4)) rfl rfl (op_ok (op_ok (op_ok (bor_ok rfl) rfl (lm bd)) rfl add_int) (op_ok rfl rfl (fdiv_ok (by omega))) add_int) (by rw [List.length_map, bd.l1]; exact hμ) (ok_next ⟨_, rfl, nl.set μ (nl.getD μ 0 + 1 + σ / 4), bl, sl, bd.slo (by omega), by rw [map_set]; rfl⟩)
    rintro _ ⟨nl, bl, sl, bd, rfl⟩
    refine ok_join J (ok_ifS _ (by (repeat' (first | with_reducible exact c_ok | with_reducible exact nil_ok | exact v_ok rfl | exact bor_ok rfl | with_reducible apply op_ok | with_reducible apply un_ok | with_reducible apply call_ok | with_reducible apply cons_ok | with_reducible apply gB_ok | with_reducible apply ofL_ok | with_reducible apply len1_okI | with_reducible apply tup_ok | (show List.length (List.cons _ _) ≤ big; simp only [List.length_cons, List.length_nil]; decide) | (show List.length List.nil ≤ big; simp only [List.length_nil]; decide) | with_reducible exact DL.add_int | with_reducible exact DL.sub_int | with_reducible exact DL.lt_int | with_reducible exact DL.le_int | with_reducible exact DL.gt_int | with_reducible exact DL.ge_int | with_reducible exact oEq_int _ _ | with_reducible exact oNe_int _ _ | with_reducible exact int1 | with_reducible exact intb | with_reducible exact abs1 | with_reducible exact min2 | with_reducible exact max2 | with_reducible exact len_lst | with_reducible exact len_tup | with_reducible exact len_scr | with_reducible exact pow1018 | with_reducible exact pow1020 | with_reducible exact mod_ok (by omega) | with_reducible exact fdiv_ok (by omega) | with_reducible exact mul_ok (by unfold CMul; omega) | with_reducible assumption))) (fun _ => ?_) fun _ => ok_next ⟨_, rfl, nl, bl, sl, bd, rfl⟩) ?_
    · obtain ⟨j, hj, ej⟩ := mod_nat ((μ : Int) + 1) (m := m) (by omega)
      have g := bd.gl hj
      have em : gOp dMod (gCall fInt (gCons (gOp dAdd (gV 9) (gC (.int 1))) gNil)) (gV 2) (S nl bl sl) = some (.int (j : Nat)) := (op_ok (call_ok (cons_ok (op_ok rfl rfl add_int) rfl) int1) rfl (mod_ok (by omega))).trans (by rw [ej])
      exact ok_setIx (ds := nl.map D.int) (j := j) (d := .int (nl.getD j 0 + 1)) rfl em (op_ok (op_ok (bor_ok rfl) em (ixL (by rw [bd.l1]; exact hj))) rfl add_int) (by rw [List.length_map, bd.l1]; exact hj) (ok_next ⟨_, rfl, nl.set j (nl.getD j 0 + 1), bl, sl, bd.slo (by omega), by rw [map_set]; rfl⟩)
    rintro _ ⟨nl, bl, sl, bd, rfl⟩
    refine ok_join J (ok_ifS _ (by (repeat' (first | with_reducible exact c_ok | with_reducible exact nil_ok | exact v_ok rfl | exact bor_ok rfl | with_reducible apply op_ok | with_reducible apply un_ok | with_reducible apply call_ok | with_reducible apply cons_ok | with_reducible apply gB_ok | with_reducible apply ofL_ok | with_reducible apply len1_okI | with_reducible apply tup_ok | (show List.length (List.cons _ _) ≤ big; simp only [List.length_cons, List.length_nil]; decide) | (show List.length List.nil ≤ big; simp only [List.length_nil]; decide) | with_reducible exact DL.add_int | with_reducible exact DL.sub_int | with_reducible exact DL.lt_int | with_reducible exact DL.le_int | with_reducible exact DL.gt_int | with_reducible exact DL.ge_int | with_reducible exact oEq_int _ _ | with_reducible exact oNe_int _ _ | with_reducible exact int1 | with_reducible exact intb | with_reducible exact abs1 | with_reducible exact min2 | with_reducible exact max2 | with_reducible exact len_lst | with_reducible exact len_tup | with_reducible exact len_scr | with_reducible exact pow1018 | with_reducible exact pow1020 | with_reducible exact mod_ok (by omega) | with_reducible exact fdiv_ok (by omega) | with_reducible exact mul_ok (by unfold CMul; omega) | with_reducible assumption))) (fun _ => ?_) fun _ => ok_next ⟨_, rfl, nl, bl, sl, bd, rfl⟩) ?_
    · have g := bd.gl hμ
      exact ok_setIx (ds := bl.map eOpt.e) (j := μ) (d := eOpt.e (some (nl.getD μ 0))) rfl rfl (op_ok (bor_ok rfl) rfl (lm bd)) (by rw [List.length_map, bd.l2]; exact hμ) (ok_next ⟨_, rfl, nl, bl.set μ (some (nl.getD μ 0)), sl, bd.shi (fun y h => by cases h; exact g), by rw [opt_set]; rfl⟩)
    rintro _ ⟨nl, bl, sl, bd, rfl⟩
    refine ok_join J (ok_ifS _ (by (repeat' (first | with_reducible exact c_ok | with_reducible exact nil_ok | exact v_ok rfl | exact bor_ok rfl | with_reducible apply op_ok | with_reducible apply un_ok | with_reducible apply call_ok | with_reducible apply cons_ok | with_reducible apply gB_ok | with_reducible apply ofL_ok | with_reducible apply len1_okI | with_reducible apply tup_ok | (show List.length (List.cons _ _) ≤ big; simp only [List.length_cons, List.length_nil]; decide) | (show List.length List.nil ≤ big; simp only [List.length_nil]; decide) | with_reducible exact DL.add_int | with_reducible exact DL.sub_int | with_reducible exact DL.lt_int | with_reducible exact DL.le_int | with_reducible exact DL.gt_int | with_reducible exact DL.ge_int | with_reducible exact oEq_int _ _ | with_reducible exact oNe_int _ _ | with_reducible exact int1 | with_reducible exact intb | with_reducible exact abs1 | with_reducible exact min2 | with_reducible exact max2 | with_reducible exact len_lst | with_reducible exact len_tup | with_reducible exact len_scr | with_reducible exact pow1018 | with_reducible exact pow1020 | with_reducible exact mod_ok (by omega) | with_reducible exact fdiv_ok (by omega) | with_reducible exact mul_ok (by unfold CMul; omega) | with_reducible assumption))) (fun _ => ?_) fun _ => ok_next ⟨_, rfl, nl, bl, sl, bd, rfl⟩) ?_
    · exact ok_setIx (ds := bl.map eOpt.e) (j := μ) (d := eOpt.e (some (if nl.getD μ 0 - 1 > 0 then nl.getD μ 0 - 1 else 0))) rfl rfl (call_ok (cons_ok rfl (cons_ok (op_ok (op_ok (bor_ok rfl) rfl (lm bd)) rfl sub_int) rfl)) max2) (by rw [List.length_map, bd.l2]; exact hμ) (ok_next ⟨_, rfl, nl, bl.set μ (some (if nl.getD μ 0 - 1 > 0 then nl.getD μ 0 - 1 else 0)), sl, bd.shi (fun y h => by cases h; split <;> omega), by rw [opt_set]; rfl⟩)
    rintro _ ⟨nl, bl, sl, bd, rfl⟩
    refine ok_join J (ok_ifS _ (by (repeat' (first | with_reducible exact c_ok | with_reducible exact nil_ok | exact v_ok rfl | exact bor_ok rfl | with_reducible apply op_ok | with_reducible apply un_ok | with_reducible apply call_ok | with_reducible apply cons_ok | with_reducible apply gB_ok | with_reducible apply ofL_ok | with_reducible apply len1_okI | with_reducible apply tup_ok | (show List.length (List.cons _ _) ≤ big; simp only [List.length_cons, List.length_nil]; decide) | (show List.length List.nil ≤ big; simp only [List.length_nil]; decide) | with_reducible exact DL.add_int | with_reducible exact DL.sub_int | with_reducible exact DL.lt_int | with_reducible exact DL.le_int | with_reducible exact DL.gt_int | with_reducible exact DL.ge_int | with_reducible exact oEq_int _ _ | with_reducible exact oNe_int _ _ | with_reducible exact int1 | with_reducible exact intb | with_reducible exact abs1 | with_reducible exact min2 | with_reducible exact max2 | with_reducible exact len_lst | with_reducible exact len_tup | with_reducible exact len_scr | with_reducible exact pow1018 | with_reducible exact pow1020 | with_reducible exact mod_ok (by omega) | with_reducible exact fdiv_ok (by omega) | with_reducible exact mul_ok (by unfold CMul; omega) | with_reducible assumption))) (fun _ => ?_) fun _ => ok_next ⟨_, rfl, nl, bl, sl, bd, rfl⟩) ?_
    · obtain ⟨v, ev1, hv0, _⟩ := tab_get (T := [0, 0, 1, 1, 2, 1000000000000000000000000000000]) (lo := 0) (hi := 1000000000000000000000000000000) (j := σ) (fun s hs => by simp only [List.mem_cons, List.not_mem_nil, or_false] at hs; omega) hσ.1 (by show _ < ((6 : Nat) : Int); omega)
      exact ok_setIx (ds := bl.map eOpt.e) (j := μ) (d := eOpt.e (some v)) rfl rfl (op_ok (ofL_ok (len1_ok (cons_ok rfl (cons_ok rfl (cons_ok rfl (cons_ok rfl (cons_ok rfl (cons_ok (op_ok rfl rfl pow1030) rfl)))))) (by show 6 ≤ big; decide))) rfl ev1) (by rw [List.length_map, bd.l2]; exact hμ) (ok_next ⟨_, rfl, nl, bl.set μ (some v), sl, bd.shi (fun y h => by cases h; exact hv0), by rw [opt_set]; rfl⟩)
    rintro _ ⟨nl, bl, sl, bd, rfl⟩
    refine ok_join J (ok_ifS _ (by (repeat' (first | with_reducible exact c_ok | with_reducible exact nil_ok | exact v_ok rfl | exact bor_ok rfl | with_reducible apply op_ok | with_reducible apply un_ok | with_reducible apply call_ok | with_reducible apply cons_ok | with_reducible apply gB_ok | with_reducible apply ofL_ok | with_reducible apply len1_okI | with_reducible apply tup_ok | (show List.length (List.cons _ _) ≤ big; simp only [List.length_cons, List.length_nil]; decide) | (show List.length List.nil ≤ big; simp only [List.length_nil]; decide) | with_reducible exact DL.add_int | with_reducible exact DL.sub_int | with_reducible exact DL.lt_int | with_reducible exact DL.le_int | with_reducible exact DL.gt_int | with_reducible exact DL.ge_int | with_reducible exact oEq_int _ _ | with_reducible exact oNe_int _ _ | with_reducible exact int1 | with_reducible exact intb | with_reducible exact abs1 | with_reducible exact min2 | with_reducible exact max2 | with_reducible exact len_lst | with_reducible exact len_tup | with_reducible exact len_scr | with_reducible exact pow1018 | with_reducible exact pow1020 | with_reducible exact mod_ok (by omega) | with_reducible exact fdiv_ok (by omega) | with_reducible exact mul_ok (by unfold CMul; omega) | with_reducible assumption))) (fun _ => ?_) fun _ => ok_next ⟨_, rfl, nl, bl, sl, bd, rfl⟩) ?_
    · obtain ⟨v, ev1, hv0, _⟩ := tab_get (T := [(N : Int), N, (N : Int) + 1, N, 1000000000000000000000000000000 + (N : Int), (N : Int) + 2]) (lo := 0) (hi := 1000000000000000000000000000000 + N) (j := σ) (fun s hs => by simp only [List.mem_cons, List.not_mem_nil, or_false] at hs; omega) hσ.1 (by show _ < ((6 : Nat) : Int); omega)
      exact ok_setIx (ds := nl.map D.int) (j := μ) (d := .int v) rfl rfl (op_ok (ofL_ok (len1_ok (cons_ok rfl (cons_ok rfl (cons_ok (op_ok rfl rfl add_int) (cons_ok rfl (cons_ok (op_ok (op_ok rfl rfl pow1030) rfl add_int) (cons_ok (op_ok rfl rfl add_int) rfl)))))) (by show 6 ≤ big; decide))) rfl ev1) (by rw [List.length_map, bd.l1]; exact hμ) (ok_next ⟨_, rfl, nl.set μ v, bl, sl, bd.slo hv0, by rw [map_set]; rfl⟩)
    rintro _ ⟨nl, bl, sl, bd, rfl⟩
    refine ok_join J (ok_ifS _ (by (repeat' (first | with_reducible exact c_ok | with_reducible exact nil_ok | exact v_ok rfl | exact bor_ok rfl | with_reducible apply op_ok | with_reducible apply un_ok | with_reducible apply call_ok | with_reducible apply cons_ok | with_reducible apply gB_ok | with_reducible apply ofL_ok | with_reducible apply len1_okI | with_reducible apply tup_ok | (show List.length (List.cons _ _) ≤ big; simp only [List.length_cons, List.length_nil]; decide) | (show List.length List.nil ≤ big; simp only [List.length_nil]; decide) | with_reducible exact DL.add_int | with_reducible exact DL.sub_int | with_reducible exact DL.lt_int | with_reducible exact DL.le_int | with_reducible exact DL.gt_int | with_reducible exact DL.ge_int | with_reducible exact oEq_int _ _ | with_reducible exact oNe_int _ _ | with_reducible exact int1 | with_reducible exact intb | with_reducible exact abs1 | with_reducible exact min2 | with_reducible exact max2 | with_reducible exact len_lst | with_reducible exact len_tup | with_reducible exact len_scr | with_reducible exact pow1018 | with_reducible exact pow1020 | with_reducible exact mod_ok (by omega) | with_reducible exact fdiv_ok (by omega) | with_reducible exact mul_ok (by unfold CMul; omega) | with_reducible assumption))) (fun _ => ?_) fun _ => ok_next ⟨_, rfl, nl, bl, sl, bd, rfl⟩) ?_
    · refine ok_setOw (ds := ((List.range m).map fun k => some (nl.getD k 0 + ((k : Int) + σ) % 2)).map eOpt.e) (comp_mapE eOpt (fun k => some (nl.getD k 0 + ((k : Int) + σ) % 2)) (range_ok rfl (by omega)) (by omega) fun k hk => ⟨_, rfl, op_ok (op_ok (bor_ok rfl) rfl (ixL (by rw [bd.l1]; exact hk))) (op_ok (call_ok (cons_ok (op_ok rfl rfl add_int) rfl) int1) rfl (mod_ok (by omega))) add_int⟩) (ok_next ⟨_, rfl, nl, _, sl, ⟨bd.l1, bd.n1, by rw [List.length_map, List.length_range], mem_range_map fun k hk y hy => ?_, bd.l3, bd.n3⟩, rfl⟩)
      have g := bd.gl hk
      cases hy
      omega
    rintro _ ⟨nl, bl, sl, bd, rfl⟩
    refine ok_join J (ok_ifS _ (andT_ok (by (repeat' (first | with_reducible exact c_ok | with_reducible exact nil_ok | exact v_ok rfl | exact bor_ok rfl | with_reducible apply op_ok | with_reducible apply un_ok | with_reducible apply call_ok | with_reducible apply cons_ok | with_reducible apply gB_ok | with_reducible apply ofL_ok | with_reducible apply len1_okI | with_reducible apply tup_ok | (show List.length (List.cons _ _) ≤ big; simp only [List.length_cons, List.length_nil]; decide) | (show List.length List.nil ≤ big; simp only [List.length_nil]; decide) | with_reducible exact DL.add_int | with_reducible exact DL.sub_int | with_reducible exact DL.lt_int | with_reducible exact DL.le_int | with_reducible exact DL.gt_int | with_reducible exact DL.ge_int | with_reducible exact oEq_int _ _ | with_reducible exact oNe_int _ _ | with_reducible exact int1 | with_reducible exact intb | with_reducible exact abs1 | with_reducible exact min2 | with_reducible exact max2 | with_reducible exact len_lst | with_reducible exact len_tup | with_reducible exact len_scr | with_reducible exact pow1018 | with_reducible exact pow1020 | with_reducible exact mod_ok (by omega) | with_reducible exact fdiv_ok (by omega) | with_reducible exact mul_ok (by unfold CMul; omega) | with_reducible assumption))) (gB_ok (op_ok (len_ok rfl rfl) rfl gt_int))) (fun h => ?_) fun _ => ok_next ⟨_, rfl, nl, bl, sl, bd, rfl⟩) ?_
    · have hpos : 0 < ps.length := by
        have h2 := of_decide_eq_true (Bool.and_eq_true_iff.mp h).2
        rw [List.length_map] at h2
        omega
      obtain ⟨j, hj, ej⟩ := mod_nat q2 hpos
      exact ok_setIx (ds := sl.map eRow.e) (j := j) (d := eRow.e (T6s.getD σ.toNat [])) rfl ((op_ok (call_ok (cons_ok (op_ok rfl (op_ok rfl (op_ok rfl rfl (mul_ok (.inl (by omega)))) add_int) x2) rfl) int1) (len_ok rfl rfl) (mod_ok (by rw [List.length_map]; omega))).trans (by rw [List.length_map, ej])) (op_ok (ofL_ok (len1_ok (cons_ok (tup_ok rfl (by decide)) (cons_ok (tup_ok rfl (by decide)) (cons_ok (tup_ok rfl (by decide)) (cons_ok (tup_ok rfl (by decide)) (cons_ok (tup_ok rfl (by decide)) (cons_ok (tup_ok rfl (by decide)) rfl)))))) (by show 6 ≤ big; decide))) rfl (tabE eRow (T := T6s) [] rfl hσ.1 (by show _ < ((6 : Nat) : Int); omega))) (by rw [List.length_map, bd.l3]; exact hj) (ok_next ⟨_, rfl, nl, bl, sl.set j (T6s.getD σ.toNat []), bd.ssd (T6s_ch _ (gD_mem (by show _ < 6; omega))), by rw [row_set]; rfl⟩)
    rintro _ ⟨nl, bl, sl, bd, rfl⟩
    exact ok_next ⟨_, rfl, _, _, _, _, _, nl, bl, sl, bd, rfl⟩
  rintro ⟨a, b, c, dd, e, nl, bl, sl, bd, rfl⟩
  refine ok_seq (ok_mono (ok_freeze rfl (ok_freeze rfl (ok_freeze rfl ⟨_, ret_ok (d := dW m ps nl bl sl []) (ofL_ok (len1_ok (cons_ok rfl (cons_ok rfl (cons_ok rfl (cons_ok rfl (cons_ok rfl rfl))))) (by show 5 ≤ big; decide))), rfl⟩))) fun r e => ?_)
  subst e
  exact ⟨_, rfl, nl, bl, sl, rfl, bd⟩
end Lw

/-! part N8 -/
set_option Elab.async false
set_option linter.all false
set_option maxRecDepth 100000
set_option maxHeartbeats 2000000
namespace DL
open L2
theorem dnL {n N : Nat} {b : SG} {gl : Rho → Option (List D)} {ds out : List D} (hl : ds.length = n) (h : Ok b (ds.map B.sh ++ List.replicate (N - n) .un) (fun r => ∃ ρ, r = .nx ρ ∧ gl ρ = some out)) : gDefL n N b gl ds = some out := by
  obtain ⟨r, e, ρ, rfl, q⟩ := h
  unfold gDefL
  rw [if_pos hl, e]
  exact q
theorem lend_ok {c : SG} {ρ : Rho} {P : Res → Prop} {i : Nat} {js : List Nat} {gf : List D → Option (List D)} {gs : Rho → Option (List D)} {ds out : List D} (h1 : gs (lend js ρ) = some ds) (h2 : gf ds = some out) (h3 : (flats out).isSome = true) (q : Ok c (ρ.set i (.sh (.lst out))) P) : Ok (gSeq (gSetLend i js gf gs) c) ρ P := ok_seq ⟨.nx (ρ.set i (.sh (.lst out))), by
  unfold gSetLend
  rw [h1, Option.bind_some, h2, Option.bind_some, if_pos h3], q⟩
theorem tlast {g : List Int} (h : 0 < g.length) : oIx (.tup (g.map D.int)) (.int (-1)) = some (.int (g.getD (g.length - 1) 0)) := by
  show (some (g.map D.int)).bind (fun ds => atI ds (-1)) = _
  rw [Option.bind_some]
  unfold atI ixN
  rw [if_neg (by omega), List.length_map, if_pos (by omega)]
  show (g.map D.int)[((-1 : Int) + (g.length : Int)).toNat]? = _
  rw [show ((-1 : Int) + (g.length : Int)).toNat = g.length - 1 by omega]
  exact getD_get (by omega)
end DL
namespace Lw
open PySem PySem.Spec PyProof.Rows L2 DL
section
variable {m : Nat} {ps : List (Int × Int)} {lo : List Int} {hs : List (Option Int)} {sd : List (List Int)} {mg : Int → Bool} {d : D} {g : List Int}
theorem numbersL_ok {x : List D} (hm : m ≤ 24) (hp : ps.length ≤ 48) (bd : Bd m ps.length lo hs sd) (G : Grp m mg d g) : gL_law_numbers [dW m ps lo hs sd x, d] = some [.int (nGain ps sd mg), .int (nLoad ps sd mg), .int (nWant lo mg m), eOpt.e (nBear hs mg m)] := by
  refine dnL rfl ?_
  obtain ⟨w0, w1, w2, w3, w4⟩ := wix (m := m) (ps := ps) (lo := lo) (hs := hs) (sd := sd) (x := x)
  refine ok_set (d := .int 0) rfl (ok_set (d := .int 0) rfl ?_)
  refine ok_for (ds := rangeD ps.length) (fun i ρ => ∃ a b c : B, ρ = [.sh (dW m ps lo hs sd x), .sh d, .sh (.int ((fl i (cGain ps sd mg)).length : Nat)), .sh (.int ((fl i (cLoad ps sd mg)).length : Nat)), a, b, c, .un, .un, .un, .un]) (range_ok (by rw [len_ok (op_ok rfl rfl w1) rfl, List.length_map]) (by omega)) ⟨.un, .un, .un, rfl⟩ (fun i e ρ hi he => ?_) fun ρ => ?_
  · rintro ⟨a, b, c, rfl⟩
    rw [rangeD_len] at hi
    cases rangeD_get he
    have ks : i < sd.length := by rw [bd.l3]; exact hi
    have hch := bd.n3 _ (gD_mem (d0 := []) ks)
    have hl2 : (sd.getD i []).length ≤ 2 := by rcases hch with e | e | e | e <;> rw [e] <;> decide
    have xs : oIx (.lst (sd.map eRow.e)) (.int (i : Nat)) = some (eRow.e (sd.getD i [])) := ix_nat rfl (encGet eRow [] ks)
    have xp : oIx (.lst (ps.map ePair.e)) (.int (i : Nat)) = some (.tup [.int (ps[i]).1, .int (ps[i]).2]) := ix_nat rfl (pair_get hi)
    refine ⟨_, rfl, ok_setOw (ds := ((sd.getD i []).map fun s => side (ps.getD i (0, 0)) s).map D.int) (comp_to (ds := (sd.getD i []).map D.int) (fun j => D.int (side (ps.getD i (0, 0)) ((sd.getD i []).getD j 0))) (seqOf_ok (op_ok (op_ok rfl rfl w4) rfl xs) rfl) (by rw [List.length_map]; exact Nat.le_trans hl2 (by decide)) ?_ fun j e hj he => ?_) ?_⟩
    · rw [List.length_map, List.map_map, ← rgetD (sd.getD i []) 0 (D.int ∘ fun s => side (ps.getD i (0, 0)) s)]
      rfl
    · rw [List.length_map] at hj
      rw [getD_get hj] at he
      cases he
      rw [pgetD hi]
      exact ⟨_, rfl, op_ok (op_ok (op_ok rfl rfl w1) rfl xp) rfl (side_ix (ch_bits hch j hj))⟩
    refine ok_freeze rfl ?_
    have hlen : (((sd.getD i []).map fun s => side (ps.getD i (0, 0)) s).filter mg).length = (fsd ps sd mg i).length := by
      rw [List.filter_map, List.length_map]
      rfl
    refine ok_set (d := .int ((fsd ps sd mg i).length : Nat)) ((len_ok (ofL_ok (comp_of (ds := ((sd.getD i []).map fun s => side (ps.getD i (0, 0)) s).map D.int) (fun j => mg (((sd.getD i []).map fun s => side (ps.getD i (0, 0)) s).getD j 0)) (fun j => D.int (((sd.getD i []).map fun s => side (ps.getD i (0, 0)) s).getD j 0)) (seqOf_ok (v_ok rfl) rfl) (by rw [List.length_map, List.length_map]; exact Nat.le_trans hl2 (by decide)) fun j e hj he => ?_)) rfl).trans ?_) ?_
    · rw [List.length_map] at hj
      rw [getD_get hj] at he
      cases he
      exact ⟨_, rfl, in_grp G rfl rfl, fun _ => rfl⟩
    · rw [show ((sd.getD i []).map fun s => side (ps.getD i (0, 0)) s).map D.int = (((sd.getD i []).map fun s => side (ps.getD i (0, 0)) s)).map D.int from rfl, List.length_map (f := D.int), filt_getD ((sd.getD i []).map fun s => side (ps.getD i (0, 0)) s) mg D.int, List.length_map, hlen]
    refine ok_join (fun ρ => ∃ a b c : B, ρ = [.sh (dW m ps lo hs sd x), .sh d, .sh (.int ((fl (i + 1) (cGain ps sd mg)).length : Nat)), .sh (.int ((fl i (cLoad ps sd mg)).length : Nat)), a, .sh (.lst (((sd.getD i []).map fun s => side (ps.getD i (0, 0)) s).map D.int)), .sh (.int ((fsd ps sd mg i).length : Nat)), .un, .un, .un, .un])
      (ok_ifS (cGain ps sd mg i) (gB_ok ((op_ok rfl rfl gt_int).trans ?_)) (fun h => ?_) fun h => ok_next ⟨_, rfl, _, .un, .un, by rw [fl_succ, h, if_neg Bool.false_ne_true]; rfl⟩) ?_
    · unfold cGain
      congr 2
      exact decide_eq_decide.mpr ⟨fun h => by omega, fun h => by omega⟩
    · exact ok_set (d := .int (((fl (i + 1) (cGain ps sd mg)).length : Nat))) ((op_ok rfl rfl addk).trans (by rw [fl_succ, h, if_pos rfl, List.length_append]; rfl)) (ok_next ⟨_, rfl, _, .un, .un, rfl⟩)
    rintro _ ⟨a, b, c, rfl⟩
    refine ok_if (cLoad ps sd mg i) ((andT_ok (gB_ok (op_ok rfl rfl gt_int)) (gB_ok (op_ok rfl (len_ok rfl rfl) (oEq_int _ _)))).trans ?_) (fun h => ?_) fun h => ok_next (ok_next ⟨_, rfl, _, _, _, by rw [fl_succ (c := cLoad ps sd mg), h, if_neg Bool.false_ne_true]⟩)
    · unfold cLoad
      rw [List.length_map, List.length_map]
      have hle : (fsd ps sd mg i).length ≤ (sd.getD i []).length := List.length_filter_le _ _
      congr 1
      by_cases h1 : (fsd ps sd mg i).length = (sd.getD i []).length
      · by_cases h2 : 0 < (sd.getD i []).length
        · rw [decide_eq_true h1, decide_eq_true h2, decide_eq_true (show (0 : Int) < ((fsd ps sd mg i).length : Nat) by omega), decide_eq_true (show (((fsd ps sd mg i).length : Nat) : Int) = ((sd.getD i []).length : Nat) by omega)]
        · rw [decide_eq_false h2, decide_eq_false (show ¬ (0 : Int) < ((fsd ps sd mg i).length : Nat) by omega)]
          rfl
      · rw [decide_eq_false h1, decide_eq_false (show ¬ (((fsd ps sd mg i).length : Nat) : Int) = ((sd.getD i []).length : Nat) by omega), Bool.and_false, Bool.and_false]
    · exact ok_set (d := .int (((fl (i + 1) (cLoad ps sd mg)).length : Nat))) ((op_ok rfl rfl addk).trans (by rw [fl_succ (c := cLoad ps sd mg), h, if_pos rfl, List.length_append]; rfl)) (ok_next (ok_next ⟨_, rfl, _, _, _, rfl⟩))
  rintro ⟨a, b, c, rfl⟩
  rw [rangeD_len]
  refine ok_set (d := .int 0) rfl (ok_set (d := .int 0) rfl ?_)
  refine ok_for (ds := rangeD m) (fun i ρ => ∃ e : B, ρ = [.sh (dW m ps lo hs sd x), .sh d, .sh (.int (nGain ps sd mg)), .sh (.int (nLoad ps sd mg)), a, b, c, .sh (.int (nWant lo mg i)), .sh (eOpt.e (nBear hs mg i)), e, .un]) (range_ok (op_ok rfl rfl w0) (by omega)) ⟨.un, rfl⟩ (fun i e ρ hi he => ?_) fun ρ => ?_
  · rintro ⟨e, rfl⟩
    rw [rangeD_len] at hi
    cases rangeD_get he
    have xl : oIx (.lst (lo.map D.int)) (.int (i : Nat)) = some (.int (lo.getD i 0)) := ixL (by rw [bd.l1]; exact hi)
    have xh : oIx (.lst (hs.map eOpt.e)) (.int (i : Nat)) = some (eOpt.e (hs.getD i none)) := ix_nat rfl (encGet eOpt none (by rw [bd.l2]; exact hi))
    refine ⟨_, rfl, ok_if (mg (i : Nat)) (in_grp G rfl rfl) (fun h => ?_) fun h => ok_next (ok_next ⟨_, rfl, _, by unfold nWant nBear; rw [memb_succ, h, if_neg Bool.false_ne_true]; rfl⟩)⟩
    have e1 : nWant lo mg (i + 1) = nWant lo mg i + lo.getD i 0 := by
      unfold nWant
      rw [memb_succ, h, if_pos rfl, List.map_append, List.sum_append]
      simp
    have e2 : nBear hs mg (i + 1) = (nBear hs mg i).bind fun x => (hs.getD i none).map fun y => x + y := by
      unfold nBear
      rw [memb_succ, h, if_pos rfl, List.map_append]
      show bsum (_ ++ [hs.getD (((i : Nat) : Int).toNat) none]) = _
      rw [bsum_snoc, Int.toNat_natCast]
    refine ok_set (d := .int (nWant lo mg (i + 1))) ((op_ok rfl (op_ok (op_ok rfl rfl w2) rfl xl) add_int).trans (by rw [e1])) ?_
    cases hB : nBear hs mg i with
    | none =>
      rw [hB] at e2
      exact ok_if _ (gB_ok (op_ok rfl rfl oIs_opt)) (fun h => by cases h) fun _ => ok_next (ok_next (ok_next ⟨_, rfl, _, by rw [e2]; rfl⟩))
    | some z =>
      rw [hB] at e2
      refine ok_if _ (gB_ok (op_ok rfl rfl oIs_opt)) (fun _ => ?_) fun h => by cases h
      refine ok_set (d := eOpt.e (nBear hs mg (i + 1))) (if_ok (gB_ok (op_ok (op_ok (op_ok rfl rfl w3) rfl xh) rfl oIs_opt0)) (fun h => ?_) fun h => ?_) (ok_next (ok_next (ok_next ⟨_, rfl, _, rfl⟩)))
      · have : hs.getD i none = none := by
          cases hq : hs.getD i none with
          | none => rfl
          | some y => rw [hq] at h; cases h
        rw [e2, this]
        rfl
      · obtain ⟨y, hy⟩ : ∃ y, hs.getD i none = some y := by
          cases hq : hs.getD i none with
          | none => rw [hq] at h; cases h
          | some y => exact ⟨y, rfl⟩
        rw [hy] at xh e2
        have xh' : oIx (.lst (hs.map eOpt.e)) (.int (i : Nat)) = some (.int y) := xh
        exact (op_ok rfl (op_ok (op_ok rfl rfl w3) rfl xh') add_int).trans (by rw [e2]; rfl)
  · rintro ⟨e, rfl⟩
    rw [rangeD_len]
    exact ok_next ⟨_, rfl, len1_ok (cons_ok rfl (cons_ok rfl (cons_ok rfl (cons_ok rfl rfl)))) (by show 4 ≤ big; decide)⟩
end
theorem lot_grp {m : Nat} {g : List Int} (L : Lot m g) : Grp m (mOf g) (.tup (g.map D.int)) g := grp_of L rfl (fun x => Iff.rfl) (by have := L.2; omega)
theorem lot_ix {m : Nat} {g : List Int} (L : Lot m g) {k : Nat} (h : k < g.length) : ∃ j : Nat, j < m ∧ g.getD k 0 = (j : Nat) ∧ mOf g (j : Nat) = true := by
  have hm := gD_mem (d0 := 0) h
  have h1 := L.1 _ hm
  refine ⟨(g.getD k 0).toNat, by omega, by omega, ?_⟩
  rw [show (((g.getD k 0).toNat : Nat) : Int) = g.getD k 0 by omega]
  exact List.any_eq_true.mpr ⟨_, hm, by simp⟩
theorem levelled_ok {m : Nat} {ps : List (Int × Int)} {lo : List Int} {hs : List (Option Int)} {sd : List (List Int)} {x : List D} {one two : List Int} {a b : Int} (hm : m ≤ 24) (hp : ps.length ≤ 48) (bd : Bd m ps.length lo hs sd) (L1 : Lot m one) (L2 : Lot m two) : Dn (g_law_levelled [dW m ps lo hs sd x, .tup (one.map D.int), .tup (two.map D.int), .int a, .int b]) fun d => ∃ lo hs sd, d = dW m ps lo hs sd [] ∧ Bd m ps.length lo hs sd := by
  refine ok_dn rfl ?_
  obtain ⟨w0, w1, w2, w3, w4⟩ := wix (m := m) (ps := ps) (lo := lo) (hs := hs) (sd := sd) (x := x)
  have G1 := lot_grp L1
  have G2 := lot_grp L2
  refine ok_setOw (listOf_ok (op_ok rfl rfl w2) rfl) (ok_setOw (listOf_ok (op_ok rfl rfl w3) rfl) ?_)
  refine ok_join (fun ρ => ∃ (nl : List Int) (y : B), Bd m ps.length nl hs sd ∧ ρ = [.sh (dW m ps lo hs sd x), .sh (.tup (one.map D.int)), .sh (.tup (two.map D.int)), .sh (.int a), .sh (.int b), .ow (.lst (nl.map D.int)), .ow (.lst (hs.map eOpt.e)), y, .un]) (ok_ifS _ (gB_ok (op_ok (len_ok rfl rfl) rfl gt_int)) (fun h => ?_) fun _ => ok_next ⟨_, rfl, lo, _, bd, rfl⟩) ?_
  · have h2 := of_decide_eq_true h
    rw [List.length_map] at h2
    obtain ⟨j, hj, ej, _⟩ := lot_ix L1 (k := 0) (by omega)
    have x0 : oIx (.tup (one.map D.int)) (.int 0) = some (.int (j : Nat)) := (ixT (k := 0) (by omega)).trans (by rw [ej])
    refine ok_set (call_ok (cons_ok rfl (cons_ok rfl rfl)) (numbers_ok hm hp bd G1)) ?_
    have g := bd.gl hj
    let v : Int := if lo.getD j 0 + nGain ps sd (mOf one) + a - nWant lo (mOf one) m > 0 then lo.getD j 0 + nGain ps sd (mOf one) + a - nWant lo (mOf one) m else 0
    have hv : 0 ≤ v := by
      show 0 ≤ (if lo.getD j 0 + nGain ps sd (mOf one) + a - nWant lo (mOf one) m > 0 then lo.getD j 0 + nGain ps sd (mOf one) + a - nWant lo (mOf one) m else 0)
      split <;> omega
    exact ok_setIx (ds := lo.map D.int) (j := j) (d := .int v) rfl (op_ok rfl rfl x0) (call_ok (cons_ok rfl (cons_ok (op_ok (op_ok (op_ok (op_ok (bor_ok rfl) (op_ok rfl rfl x0) (ixL (by rw [bd.l1]; exact hj))) (op_ok rfl rfl rfl) add_int) rfl add_int) (op_ok rfl rfl rfl) sub_int) rfl)) max2) (by rw [List.length_map, bd.l1]; exact hj) (ok_next ⟨_, rfl, lo.set j v, _, bd.slo hv, by rw [map_set]; rfl⟩)
  rintro _ ⟨nl, y, bd, rfl⟩
  refine ok_join (fun ρ => ∃ (bl : List (Option Int)) (y : B), Bd m ps.length nl bl sd ∧ ρ = [.sh (dW m ps lo hs sd x), .sh (.tup (one.map D.int)), .sh (.tup (two.map D.int)), .sh (.int a), .sh (.int b), .ow (.lst (nl.map D.int)), .ow (.lst (bl.map eOpt.e)), y, .un]) (ok_ifS _ (gB_ok (op_ok (len_ok rfl rfl) rfl gt_int)) (fun h => ?_) fun _ => ok_next ⟨_, rfl, hs, _, bd, rfl⟩) ?_
  · have h2 := of_decide_eq_true h
    rw [List.length_map] at h2
    obtain ⟨j, hj, ej, mj⟩ := lot_ix L2 (k := two.length - 1) (by omega)
    have x0 : oIx (.tup (two.map D.int)) (.int (-1)) = some (.int (j : Nat)) := (tlast (by omega)).trans (by rw [ej])
    let f : Nat → Option Int := fun k => if (mOf two (k : Nat) && (hs.getD k none).isNone) = true then some (ps.length : Nat) else hs.getD k none
    refine ok_setOw (ds := ((List.range m).map f).map eOpt.e) (comp_mapE eOpt f (range_ok (op_ok rfl rfl w0) (by omega)) (by omega) fun k hk => ⟨_, rfl, ?_⟩) ?_
    · have xh : oIx (.lst (hs.map eOpt.e)) (.int (k : Nat)) = some (eOpt.e (hs.getD k none)) := ix_nat rfl (encGet eOpt none (by rw [bd.l2]; exact hk))
      refine if_ok (andT_ok (in_grp G2 rfl rfl) (gB_ok (op_ok (op_ok (bor_ok rfl) rfl xh) rfl oIs_opt0))) (fun h => ?_) fun h => ?_
      · show _ = some (eOpt.e (if _ then _ else _))
        rw [if_pos h]
        exact (len_ok (op_ok rfl rfl w1) rfl).trans (by rw [List.length_map]; rfl)
      · show _ = some (eOpt.e (if _ then _ else _))
        rw [if_neg (by rw [h]; decide)]
        exact op_ok (bor_ok rfl) rfl xh
    have bd2 : Bd m ps.length nl ((List.range m).map f) sd := ⟨bd.l1, bd.n1, by rw [List.length_map, List.length_range], mem_range_map fun k hk z hz => by
      have hz : (if (mOf two (k : Nat) && (hs.getD k none).isNone) = true then some ((ps.length : Nat) : Int) else hs.getD k none) = some z := hz
      split at hz
      · cases hz; omega
      · exact BN.tail bd.n2 k z hz, bd.l3, bd.n3⟩
    have fg : ∀ k, k < m → ((List.range m).map f).getD k none = f k := fun k hk => by
      rw [List.getD_eq_getElem?_getD, List.getElem?_map, List.getElem?_range hk]
      rfl
    have fs : ∀ k : Nat, mOf two (k : Nat) = true → f k ≠ none := fun k hk he => by
      have he : (if (mOf two (k : Nat) && (hs.getD k none).isNone) = true then some ((ps.length : Nat) : Int) else hs.getD k none) = none := he
      rw [hk, Bool.true_and] at he
      cases hq : hs.getD k none with
      | none => rw [hq] at he; cases he
      | some z => rw [hq] at he; cases he
    obtain ⟨z, hz⟩ : ∃ z, nBear ((List.range m).map f) (mOf two) m = some z := by
      unfold nBear
      rw [bsum_eq, if_neg]
      · exact ⟨_, rfl⟩
      · intro hn
        obtain ⟨t, ht, e⟩ := List.mem_map.mp hn
        obtain ⟨t0, t1, t2⟩ := fl_mem.mp ht
        rw [fg _ (by omega)] at e
        exact fs _ t2 e
    obtain ⟨u, hu⟩ : ∃ u, f j = some u := Option.ne_none_iff_exists'.mp (fs j mj)
    have xj : oIx (.lst (((List.range m).map f).map eOpt.e)) (.int (j : Nat)) = some (.int u) := (ix_nat rfl (encGet eOpt none (by rw [List.length_map, List.length_range]; exact hj))).trans (by rw [fg j hj, hu]; rfl)
    generalize (List.range m).map f = bl at bd2 hz xj
    refine lend_ok (ds := [dW m ps nl bl sd [], .tup (two.map D.int)]) (cons_ok (ofL_ok (len1_ok (cons_ok (op_ok rfl rfl w0) (cons_ok (op_ok rfl rfl w1) (cons_ok rfl (cons_ok rfl (cons_ok (op_ok rfl rfl w4) rfl))))) (by show 5 ≤ big; decide))) (cons_ok rfl rfl)) (numbersL_ok hm hp bd2 G2) (by rw [hz]; rfl) ?_
    rw [hz]
    let v : Int := if u + nLoad ps sd (mOf two) - b - z > 0 then u + nLoad ps sd (mOf two) - b - z else 0
    have hv : 0 ≤ v := by
      show 0 ≤ (if u + nLoad ps sd (mOf two) - b - z > 0 then u + nLoad ps sd (mOf two) - b - z else 0)
      split <;> omega
    exact ok_setIx (ds := bl.map eOpt.e) (j := j) (d := eOpt.e (some v)) rfl (op_ok rfl rfl x0) (call_ok (cons_ok rfl (cons_ok (op_ok (op_ok (op_ok (op_ok (bor_ok rfl) (op_ok rfl rfl x0) xj) (op_ok rfl rfl rfl) add_int) rfl sub_int) (op_ok rfl rfl rfl) sub_int) rfl)) max2) (by rw [List.length_map, bd2.l2]; exact hj) (ok_next ⟨_, rfl, bl.set j (some v), _, bd2.shi (fun y h => by cases h; exact hv), by rw [opt_set]; rfl⟩)
  rintro _ ⟨bl, y, bd, rfl⟩
  refine ok_seq (ok_mono (ok_freeze rfl (ok_freeze rfl ⟨_, ret_ok (d := dW m ps nl bl sd []) (ofL_ok (len1_ok (cons_ok (op_ok rfl rfl w0) (cons_ok (op_ok rfl rfl w1) (cons_ok rfl (cons_ok rfl (cons_ok (op_ok rfl rfl w4) rfl))))) (by show 5 ≤ big; decide))), rfl⟩)) fun r e => ?_)
  subst e
  exact ⟨_, rfl, nl, bl, sd, rfl, bd⟩
end Lw

/-! part N9 -/
set_option Elab.async false
set_option linter.all false
set_option maxRecDepth 100000
set_option maxHeartbeats 2000000
namespace DL
open L2
theorem ok_freezeSh {s : SG} {ρ : Rho} {P : Res → Prop} {i : Nat} {d : D} (h : ρ[i]? = some (.sh d)) (q : Ok s ρ P) : Ok (gFreeze i s) ρ P := by
  obtain ⟨r, e, q⟩ := q
  refine ⟨r, ?_, q⟩
  unfold gFreeze
  rw [h]
  exact e
end DL
namespace Lw
open PySem PySem.Spec PyProof.Rows L2 DL
abbrev sz99 : List Int := [24, 49, 4] ++ (List.replicate 48 ([24, 23] : List Int)).flatten
abbrev sz145 : List Int := ((([8] : List Int) ++ (List.replicate 48 ([2] : List Int)).flatten) ++ (List.replicate 24 ([8, 8] : List Int)).flatten) ++ (List.replicate 48 ([24] : List Int)).flatten
theorem rp_ok {T : List Int} {k : Nat} (h : k ≤ 1000) (hl : T.length * k ≤ big) : dMulT (.lst (T.map D.int)) (.int (k : Nat)) = some (.lst ((List.replicate k T).flatten.map D.int)) := by
  rw [mulL_ok h (by rw [List.length_map]; exact hl), List.map_flatten, List.map_replicate]
theorem sz99_ok (ρ : Rho) : gOp dAdd (gOfL (gLen1 (gCons (gC (.int 24)) (gCons (gC (.int 49)) (gCons (gC (.int 4)) gNil))))) (gOp dMulT (gOfL (gLen1 (gCons (gC (.int 24)) (gCons (gC (.int 23)) gNil)))) (gC (.int 48))) ρ = some (.lst (sz99.map D.int)) :=
  op_ok (ofL_ok (len1_ok rfl (by show 3 ≤ big; decide))) (op_ok (ofL_ok (len1_ok rfl (by show 2 ≤ big; decide))) rfl (rp_ok (T := [24, 23]) (k := 48) (by omega) (by decide))) (dAdd_lst (a := [24, 49, 4]) (b := (List.replicate 48 ([24, 23] : List Int)).flatten) (by decide))
theorem sz145_ok (ρ : Rho) : gOp dAdd (gOp dAdd (gOp dAdd (gOfL (gLen1 (gCons (gC (.int 8)) gNil))) (gOp dMulT (gOfL (gLen1 (gCons (gC (.int 2)) gNil))) (gC (.int 48)))) (gOp dMulT (gOfL (gLen1 (gCons (gC (.int 8)) (gCons (gC (.int 8)) gNil)))) (gC (.int 24)))) (gOp dMulT (gOfL (gLen1 (gCons (gC (.int 24)) gNil))) (gC (.int 48))) ρ = some (.lst (sz145.map D.int)) :=
  op_ok (op_ok (op_ok (ofL_ok (len1_ok rfl (by show 1 ≤ big; decide))) (op_ok (ofL_ok (len1_ok rfl (by show 1 ≤ big; decide))) rfl (rp_ok (T := [2]) (k := 48) (by omega) (by decide))) (dAdd_lst (a := [8]) (b := (List.replicate 48 ([2] : List Int)).flatten) (by decide)))
    (op_ok (ofL_ok (len1_ok rfl (by show 2 ≤ big; decide))) rfl (rp_ok (T := [8, 8]) (k := 24) (by omega) (by decide))) (dAdd_lst (a := [8] ++ (List.replicate 48 ([2] : List Int)).flatten) (b := (List.replicate 24 ([8, 8] : List Int)).flatten) (by decide)))
    (op_ok (ofL_ok (len1_ok rfl (by show 1 ≤ big; decide))) rfl (rp_ok (T := [24]) (k := 48) (by omega) (by decide))) (dAdd_lst (a := ([8] ++ (List.replicate 48 ([2] : List Int)).flatten) ++ (List.replicate 24 ([8, 8] : List Int)).flatten) (b := (List.replicate 48 ([24] : List Int)).flatten) (by decide))
theorem wide_ok (ns : List Int) : Dn (g_law_wide [.scr (ns.map D.int), .int 0, .int 48]) Wd := by
  refine ok_dn rfl ?_
  obtain ⟨row, e1, hr⟩ := draw_ok (ns := ns) (k := 0) (sz := sz99) (ga := gV 0) (gb := gV 1) (ρ := [B.sh (.scr (ns.map D.int)), .sh (.int 0), .sh (.int 48), .un, .un, .un, .un, .un, .un, .un, .un, .un, .un, .un, .un, .un, .un]) (v_ok (i := 0) rfl) rfl (sz99_ok _) (by omega) (by decide) (by decide)
  refine ok_set e1 ?_
  have hl : row.length = 99 := hr.1.trans (by decide)
  have hx := row_ix hl
  have h0 := hx 0 (by omega) (by omega)
  have h1 := hx 1 (by omega) (by omega)
  have h2 := hx 2 (by omega) (by omega)
  generalize row.getD (Int.toNat 0) 0 = r0 at h0
  generalize row.getD (Int.toNat 1) 0 = r1 at h1
  generalize row.getD (Int.toNat 2) 0 = r2 at h2
  obtain ⟨m0, e0, hm0, hm1⟩ := tab_get (T := [12, 9, 24, 16, 7, 20, 10, 24, 14, 8, 18, 11, 22, 13, 6, 15, 24, 17, 19, 21, 23, 5, 2, 1]) (lo := 1) (hi := 24) (j := r0 % 24) (by decide) (by omega) (by show _ < ((24 : Nat) : Int); omega)
  refine ok_set (d := .int m0) (op_ok (ofL_ok (len1_ok rfl (by show 24 ≤ big; decide))) (op_ok (call_ok (cons_ok (op_ok rfl rfl h0) rfl) int1) rfl (mod_ok (by omega))) e0) ?_
  obtain ⟨m, em, hm0, hm⟩ : ∃ m : Nat, m0 = (m : Nat) ∧ 1 ≤ m ∧ m ≤ 24 := ⟨m0.toNat, by omega, by omega, by omega⟩
  subst em
  refine ok_set (d := .int (m : Nat)) ((call_ok (cons_ok rfl (cons_ok (op_ok rfl rfl (fdiv_ok (by omega))) rfl)) min2).trans (by rw [if_neg (by omega)])) ?_
  refine ok_setOw (ds := []) rfl ?_
  let fr : List (Int × Int) → B → B → B → Rho := fun ps x y z => [.sh (.scr (ns.map D.int)), .sh (.int 0), .sh (.int 48), .sh (.lst (row.map D.int)), .sh (.int (m : Nat)), .ow (.lst (ps.map ePair.e)), x, y, z, .un, .un, .un, .un, .un, .un, .un, .un]
  refine ok_join (fun ρ => ∃ (ps : List (Int × Int)) (x y z : B), ps.length ≤ 48 ∧ VP m ps ∧ ρ = fr ps x y z)
    (ok_ifS _ (by (repeat' (first | with_reducible exact c_ok | with_reducible exact nil_ok | exact v_ok rfl | exact bor_ok rfl | with_reducible apply op_ok | with_reducible apply un_ok | with_reducible apply call_ok | with_reducible apply cons_ok | with_reducible apply gB_ok | with_reducible apply ofL_ok | with_reducible apply len1_okI | with_reducible apply tup_ok | (show List.length (List.cons _ _) ≤ big; simp only [List.length_cons, List.length_nil]; decide) | (show List.length List.nil ≤ big; simp only [List.length_nil]; decide) | with_reducible exact DL.add_int | with_reducible exact DL.sub_int | with_reducible exact DL.lt_int | with_reducible exact DL.le_int | with_reducible exact DL.gt_int | with_reducible exact DL.ge_int | with_reducible exact oEq_int _ _ | with_reducible exact oNe_int _ _ | with_reducible exact int1 | with_reducible exact intb | with_reducible exact abs1 | with_reducible exact min2 | with_reducible exact max2 | with_reducible exact len_lst | with_reducible exact len_tup | with_reducible exact len_scr | with_reducible exact pow1018 | with_reducible exact pow1020 | with_reducible exact mod_ok (by omega) | with_reducible exact fdiv_ok (by omega) | with_reducible exact mul_ok (by unfold CMul; omega) | with_reducible assumption))) (fun h => ?_) fun _ => ok_next ⟨_, rfl, [], .un, .un, .un, by simp, vp_nil, rfl⟩) ?_
  · have hm1 : 1 < (m : Int) := of_decide_eq_true h
    obtain ⟨n, hn, en⟩ : ∃ n : Nat, n ≤ 48 ∧ (if (m : Int) - 1 + r1 % 49 < 48 then (m : Int) - 1 + r1 % 49 else 48) = (n : Nat) := ⟨(if (m : Int) - 1 + r1 % 49 < 48 then (m : Int) - 1 + r1 % 49 else 48).toNat, by split <;> omega, by split <;> omega⟩
    refine ok_for (ds := rangeD n) (fun i ρ => ∃ (ps : List (Int × Int)) (x y z : B), ps.length = i ∧ VP m ps ∧ ρ = fr ps x y z) (range_ok ((call_ok (cons_ok rfl (cons_ok (op_ok (op_ok rfl rfl sub_int) (op_ok (call_ok (cons_ok (op_ok rfl rfl h1) rfl) int1) rfl (mod_ok (by omega))) add_int) rfl)) min2).trans (by rw [en])) (by omega))
      ⟨[], .un, .un, .un, rfl, vp_nil, rfl⟩ (fun i d ρ hi hd => ?_) fun ρ => ?_
    · rintro ⟨ps, x, y, z, hps, vp, rfl⟩
      rw [rangeD_len] at hi
      cases rangeD_get hd
      have x1 := hx (3 + 2 * i) (by omega) (by omega)
      have x2 := hx (4 + 2 * i) (by omega) (by omega)
      generalize row.getD (Int.toNat (3 + 2 * (i : Int))) 0 = q1 at x1
      generalize row.getD (Int.toNat (4 + 2 * (i : Int))) 0 = q2 at x2
      have f0 : 0 ≤ q1 % (m : Int) ∧ q1 % (m : Int) < m := ⟨Int.emod_nonneg _ (by omega), Int.emod_lt_of_pos _ (by omega)⟩
      have t0 : 0 ≤ q2 % ((m : Int) - 1) ∧ q2 % ((m : Int) - 1) < m - 1 := ⟨Int.emod_nonneg _ (by omega), Int.emod_lt_of_pos _ (by omega)⟩
      have gd0 := gd_draw hm1 f0 t0
      let J : Rho → Prop := fun ρ => ∃ a b : Int, Gd m a b ∧ ρ = fr ps (.sh (.int (i : Nat))) (.sh (.int a)) (.sh (.int b))
      refine ⟨_, rfl, ok_set (d := .int (q1 % m)) (by (repeat' (first | with_reducible exact c_ok | with_reducible exact nil_ok | exact v_ok rfl | exact bor_ok rfl | with_reducible apply op_ok | with_reducible apply un_ok | with_reducible apply call_ok | with_reducible apply cons_ok | with_reducible apply gB_ok | with_reducible apply ofL_ok | with_reducible apply len1_okI | with_reducible apply tup_ok | (show List.length (List.cons _ _) ≤ big; simp only [List.length_cons, List.length_nil]; decide) | (show List.length List.nil ≤ big; simp only [List.length_nil]; decide) | with_reducible exact DL.add_int | with_reducible exact DL.sub_int | with_reducible exact DL.lt_int | with_reducible exact DL.le_int | with_reducible exact DL.gt_int | with_reducible exact DL.ge_int | with_reducible exact oEq_int _ _ | with_reducible exact oNe_int _ _ | with_reducible exact int1 | with_reducible exact intb | with_reducible exact abs1 | with_reducible exact min2 | with_reducible exact max2 | with_reducible exact len_lst | with_reducible exact len_tup | with_reducible exact len_scr | with_reducible exact pow1018 | with_reducible exact pow1020 | with_reducible exact mod_ok (by omega) | with_reducible exact fdiv_ok (by omega) | with_reducible exact mul_ok (by unfold CMul; omega) | with_reducible assumption))) (ok_set (d := .int ((q1 % m + 1 + q2 % (m - 1)) % m)) (by (repeat' (first | with_reducible exact c_ok | with_reducible exact nil_ok | exact v_ok rfl | exact bor_ok rfl | with_reducible apply op_ok | with_reducible apply un_ok | with_reducible apply call_ok | with_reducible apply cons_ok | with_reducible apply gB_ok | with_reducible apply ofL_ok | with_reducible apply len1_okI | with_reducible apply tup_ok | (show List.length (List.cons _ _) ≤ big; simp only [List.length_cons, List.length_nil]; decide) | (show List.length List.nil ≤ big; simp only [List.length_nil]; decide) | with_reducible exact DL.add_int | with_reducible exact DL.sub_int | with_reducible exact DL.lt_int | with_reducible exact DL.le_int | with_reducible exact DL.gt_int | with_reducible exact DL.ge_int | with_reducible exact oEq_int _ _ | with_reducible exact oNe_int _ _ | with_reducible exact int1 | with_reducible exact intb | with_reducible exact abs1 | with_reducible exact min2 | with_reducible exact max2 | with_reducible exact len_lst | with_reducible exact len_tup | with_reducible exact len_scr | with_reducible exact pow1018 | with_reducible exact pow1020 | with_reducible exact mod_ok (by omega) | with_reducible exact fdiv_ok (by omega) | with_reducible exact mul_ok (by unfold CMul; omega) | with_reducible assumption))) ?_)⟩
      refine ok_join J (ok_ifS _ (by (repeat' (first | with_reducible exact c_ok | with_reducible exact nil_ok | exact v_ok rfl | exact bor_ok rfl | with_reducible apply op_ok | with_reducible apply un_ok | with_reducible apply call_ok | with_reducible apply cons_ok | with_reducible apply gB_ok | with_reducible apply ofL_ok | with_reducible apply len1_okI | with_reducible apply tup_ok | (show List.length (List.cons _ _) ≤ big; simp only [List.length_cons, List.length_nil]; decide) | (show List.length List.nil ≤ big; simp only [List.length_nil]; decide) | with_reducible exact DL.add_int | with_reducible exact DL.sub_int | with_reducible exact DL.lt_int | with_reducible exact DL.le_int | with_reducible exact DL.gt_int | with_reducible exact DL.ge_int | with_reducible exact oEq_int _ _ | with_reducible exact oNe_int _ _ | with_reducible exact int1 | with_reducible exact intb | with_reducible exact abs1 | with_reducible exact min2 | with_reducible exact max2 | with_reducible exact len_lst | with_reducible exact len_tup | with_reducible exact len_scr | with_reducible exact pow1018 | with_reducible exact pow1020 | with_reducible exact mod_ok (by omega) | with_reducible exact fdiv_ok (by omega) | with_reducible exact mul_ok (by unfold CMul; omega) | with_reducible assumption))) (fun h => ?_) fun _ => ok_next ⟨_, rfl, _, _, gd0, rfl⟩) ?_
      · have mn : ∃ w : Int, (if (m : Int) - 1 < 3 then (m : Int) - 1 else 3) = w ∧ 0 < w ∧ w ≤ m - 1 := ⟨_, rfl, by split <;> omega, by split <;> omega⟩
        obtain ⟨w, ew, w0, w1⟩ := mn
        have t0 : 0 ≤ q2 % w ∧ q2 % w < m - 1 := ⟨Int.emod_nonneg _ (by omega), Int.lt_of_lt_of_le (Int.emod_lt_of_pos _ w0) w1⟩
        exact ok_set (d := .int ((q1 % m + 1 + q2 % w) % m)) (op_ok (call_ok (cons_ok (op_ok (op_ok rfl rfl add_int) (op_ok (call_ok (cons_ok (op_ok rfl (op_ok rfl (op_ok rfl rfl (mul_ok (.inl (by omega)))) add_int) x2) rfl) int1) ((call_ok (cons_ok rfl (cons_ok (op_ok rfl rfl sub_int) rfl)) min2).trans (by rw [ew])) (mod_ok w0)) add_int) rfl) int1) rfl (mod_ok (by omega))) (ok_next ⟨_, rfl, _, _, gd_draw hm1 f0 t0, rfl⟩)
      rintro _ ⟨a, b, gd, rfl⟩
      refine ok_join J (ok_ifS _ (andT_ok (by (repeat' (first | with_reducible exact c_ok | with_reducible exact nil_ok | exact v_ok rfl | exact bor_ok rfl | with_reducible apply op_ok | with_reducible apply un_ok | with_reducible apply call_ok | with_reducible apply cons_ok | with_reducible apply gB_ok | with_reducible apply ofL_ok | with_reducible apply len1_okI | with_reducible apply tup_ok | (show List.length (List.cons _ _) ≤ big; simp only [List.length_cons, List.length_nil]; decide) | (show List.length List.nil ≤ big; simp only [List.length_nil]; decide) | with_reducible exact DL.add_int | with_reducible exact DL.sub_int | with_reducible exact DL.lt_int | with_reducible exact DL.le_int | with_reducible exact DL.gt_int | with_reducible exact DL.ge_int | with_reducible exact oEq_int _ _ | with_reducible exact oNe_int _ _ | with_reducible exact int1 | with_reducible exact intb | with_reducible exact abs1 | with_reducible exact min2 | with_reducible exact max2 | with_reducible exact len_lst | with_reducible exact len_tup | with_reducible exact len_scr | with_reducible exact pow1018 | with_reducible exact pow1020 | with_reducible exact mod_ok (by omega) | with_reducible exact fdiv_ok (by omega) | with_reducible exact mul_ok (by unfold CMul; omega) | with_reducible assumption))) (by (repeat' (first | with_reducible exact c_ok | with_reducible exact nil_ok | exact v_ok rfl | exact bor_ok rfl | with_reducible apply op_ok | with_reducible apply un_ok | with_reducible apply call_ok | with_reducible apply cons_ok | with_reducible apply gB_ok | with_reducible apply ofL_ok | with_reducible apply len1_okI | with_reducible apply tup_ok | (show List.length (List.cons _ _) ≤ big; simp only [List.length_cons, List.length_nil]; decide) | (show List.length List.nil ≤ big; simp only [List.length_nil]; decide) | with_reducible exact DL.add_int | with_reducible exact DL.sub_int | with_reducible exact DL.lt_int | with_reducible exact DL.le_int | with_reducible exact DL.gt_int | with_reducible exact DL.ge_int | with_reducible exact oEq_int _ _ | with_reducible exact oNe_int _ _ | with_reducible exact int1 | with_reducible exact intb | with_reducible exact abs1 | with_reducible exact min2 | with_reducible exact max2 | with_reducible exact len_lst | with_reducible exact len_tup | with_reducible exact len_scr | with_reducible exact pow1018 | with_reducible exact pow1020 | with_reducible exact mod_ok (by omega) | with_reducible exact fdiv_ok (by omega) | with_reducible exact mul_ok (by unfold CMul; omega) | with_reducible assumption)))) (fun h => ?_) fun _ => ok_next ⟨_, rfl, _, _, gd, rfl⟩) ?_
      · have hi2 : (i : Int) < m := of_decide_eq_true (Bool.and_eq_true_iff.mp h).2
        exact ok_set (v_ok rfl) (ok_set (d := .int ((i + 1) % m)) (by (repeat' (first | with_reducible exact c_ok | with_reducible exact nil_ok | exact v_ok rfl | exact bor_ok rfl | with_reducible apply op_ok | with_reducible apply un_ok | with_reducible apply call_ok | with_reducible apply cons_ok | with_reducible apply gB_ok | with_reducible apply ofL_ok | with_reducible apply len1_okI | with_reducible apply tup_ok | (show List.length (List.cons _ _) ≤ big; simp only [List.length_cons, List.length_nil]; decide) | (show List.length List.nil ≤ big; simp only [List.length_nil]; decide) | with_reducible exact DL.add_int | with_reducible exact DL.sub_int | with_reducible exact DL.lt_int | with_reducible exact DL.le_int | with_reducible exact DL.gt_int | with_reducible exact DL.ge_int | with_reducible exact oEq_int _ _ | with_reducible exact oNe_int _ _ | with_reducible exact int1 | with_reducible exact intb | with_reducible exact abs1 | with_reducible exact min2 | with_reducible exact max2 | with_reducible exact len_lst | with_reducible exact len_tup | with_reducible exact len_scr | with_reducible exact pow1018 | with_reducible exact pow1020 | with_reducible exact mod_ok (by omega) | with_reducible exact fdiv_ok (by omega) | with_reducible exact mul_ok (by unfold CMul; omega) | with_reducible assumption))) (ok_next ⟨_, rfl, _, _, gd_next hm1 (by omega) hi2, rfl⟩))
      rintro _ ⟨a, b, gd, rfl⟩
      refine ok_join J (ok_ifS _ (andT_ok (by (repeat' (first | with_reducible exact c_ok | with_reducible exact nil_ok | exact v_ok rfl | exact bor_ok rfl | with_reducible apply op_ok | with_reducible apply un_ok | with_reducible apply call_ok | with_reducible apply cons_ok | with_reducible apply gB_ok | with_reducible apply ofL_ok | with_reducible apply len1_okI | with_reducible apply tup_ok | (show List.length (List.cons _ _) ≤ big; simp only [List.length_cons, List.length_nil]; decide) | (show List.length List.nil ≤ big; simp only [List.length_nil]; decide) | with_reducible exact DL.add_int | with_reducible exact DL.sub_int | with_reducible exact DL.lt_int | with_reducible exact DL.le_int | with_reducible exact DL.gt_int | with_reducible exact DL.ge_int | with_reducible exact oEq_int _ _ | with_reducible exact oNe_int _ _ | with_reducible exact int1 | with_reducible exact intb | with_reducible exact abs1 | with_reducible exact min2 | with_reducible exact max2 | with_reducible exact len_lst | with_reducible exact len_tup | with_reducible exact len_scr | with_reducible exact pow1018 | with_reducible exact pow1020 | with_reducible exact mod_ok (by omega) | with_reducible exact fdiv_ok (by omega) | with_reducible exact mul_ok (by unfold CMul; omega) | with_reducible assumption))) (by (repeat' (first | with_reducible exact c_ok | with_reducible exact nil_ok | exact v_ok rfl | exact bor_ok rfl | with_reducible apply op_ok | with_reducible apply un_ok | with_reducible apply call_ok | with_reducible apply cons_ok | with_reducible apply gB_ok | with_reducible apply ofL_ok | with_reducible apply len1_okI | with_reducible apply tup_ok | (show List.length (List.cons _ _) ≤ big; simp only [List.length_cons, List.length_nil]; decide) | (show List.length List.nil ≤ big; simp only [List.length_nil]; decide) | with_reducible exact DL.add_int | with_reducible exact DL.sub_int | with_reducible exact DL.lt_int | with_reducible exact DL.le_int | with_reducible exact DL.gt_int | with_reducible exact DL.ge_int | with_reducible exact oEq_int _ _ | with_reducible exact oNe_int _ _ | with_reducible exact int1 | with_reducible exact intb | with_reducible exact abs1 | with_reducible exact min2 | with_reducible exact max2 | with_reducible exact len_lst | with_reducible exact len_tup | with_reducible exact len_scr | with_reducible exact pow1018 | with_reducible exact pow1020 | with_reducible exact mod_ok (by omega) | with_reducible exact fdiv_ok (by omega) | with_reducible exact mul_ok (by unfold CMul; omega) | with_reducible assumption)))) (fun h => ?_) fun _ => ok_next ⟨_, rfl, _, _, gd, rfl⟩) ?_
      · have hi2 : 1 ≤ i := by
          have := of_decide_eq_true (Bool.and_eq_true_iff.mp h).2
          omega
        have hk : i - 1 < ps.length := by omega
        have x3 : oIx (.lst (ps.map ePair.e)) (.int ((i : Int) - 1)) = some (.tup [.int (ps[i - 1]).1, .int (ps[i - 1]).2]) := by
          rw [show (i : Int) - 1 = ((i - 1 : Nat) : Int) by omega]
          exact ix_nat rfl (pair_get hk)
        have g3 := vp _ (List.getElem_mem hk)
        have p1 : oIx (.tup [.int (ps[i - 1]).1, .int (ps[i - 1]).2]) (.int 1) = some (.int (ps[i - 1]).2) := rfl
        have p0 : oIx (.tup [.int (ps[i - 1]).1, .int (ps[i - 1]).2]) (.int 0) = some (.int (ps[i - 1]).1) := rfl
        exact ok_set (d := .int (ps[i - 1]).2) (op_ok (op_ok (bor_ok rfl) (op_ok rfl rfl sub_int) x3) rfl p1) (ok_set (d := .int (ps[i - 1]).1) (op_ok (op_ok (bor_ok rfl) (op_ok rfl rfl sub_int) x3) rfl p0) (ok_next ⟨_, rfl, _, _, ⟨g3.2.2.1, g3.2.2.2.1, g3.1, g3.2.1, g3.2.2.2.2.symm⟩, rfl⟩))
      rintro _ ⟨a, b, gd, rfl⟩
      exact ok_app rfl (d := .tup [.int a, .int b]) (by (repeat' (first | with_reducible exact c_ok | with_reducible exact nil_ok | exact v_ok rfl | exact bor_ok rfl | with_reducible apply op_ok | with_reducible apply un_ok | with_reducible apply call_ok | with_reducible apply cons_ok | with_reducible apply gB_ok | with_reducible apply ofL_ok | with_reducible apply len1_okI | with_reducible apply tup_ok | (show List.length (List.cons _ _) ≤ big; simp only [List.length_cons, List.length_nil]; decide) | (show List.length List.nil ≤ big; simp only [List.length_nil]; decide) | with_reducible exact DL.add_int | with_reducible exact DL.sub_int | with_reducible exact DL.lt_int | with_reducible exact DL.le_int | with_reducible exact DL.gt_int | with_reducible exact DL.ge_int | with_reducible exact oEq_int _ _ | with_reducible exact oNe_int _ _ | with_reducible exact int1 | with_reducible exact intb | with_reducible exact abs1 | with_reducible exact min2 | with_reducible exact max2 | with_reducible exact len_lst | with_reducible exact len_tup | with_reducible exact len_scr | with_reducible exact pow1018 | with_reducible exact pow1020 | with_reducible exact mod_ok (by omega) | with_reducible exact fdiv_ok (by omega) | with_reducible exact mul_ok (by unfold CMul; omega) | with_reducible assumption))) (by rw [List.length_map, hps]; exact Nat.lt_of_lt_of_le (show i < 48 by omega) (by decide)) (ok_next ⟨_, rfl, ps ++ [(a, b)], _, _, _, by rw [List.length_append, hps]; rfl, vp.snoc gd, by rw [pairs_snoc]; rfl⟩)
    · rintro ⟨ps, x, y, z, hps, vp, rfl⟩
      rw [rangeD_len] at hps
      exact ok_next ⟨_, rfl, ps, x, y, z, by omega, vp, rfl⟩
  rintro _ ⟨ps, x, y, z, hp, vp, rfl⟩
  clear e1 hr hx h0 h1 h2 e0 hl
  obtain ⟨row2, e3, hr2⟩ := draw_ok (ns := ns) (k := 1) (sz := sz145) (ga := gV 0) (gb := gOp dAdd (gV 1) (gC (.int 1))) (ρ := fr ps x y z) (v_ok (i := 0) rfl) (op_ok rfl rfl rfl) (sz145_ok _) (by omega) (by decide) (by decide)
  refine ok_set e3 ?_
  have hl : row2.length = 145 := hr2.1.trans (by decide)
  have hx := row_ix hl
  have h0 := hx 0 (by omega) (by omega)
  generalize row2.getD (Int.toNat 0) 0 = r0 at h0
  refine ok_set (d := .tup (((List.range ps.length).map fun k => row2.getD (1 + k) 0 % 2).map eInt.e)) (tupOf_ok (ofL_ok (comp_mapE eInt (fun k => row2.getD (1 + k) 0 % 2) (range_ok ((len_ok (bor_ok rfl) rfl).trans (by rw [List.length_map])) (by omega)) (by omega) fun k hk => ⟨_, rfl, ?_⟩)) rfl) ?_
  · have x1 := hx (1 + k) (by omega) (by omega)
    rw [show (1 + (k : Int)).toNat = 1 + k by omega] at x1
    exact op_ok (call_ok (cons_ok (op_ok rfl (op_ok rfl rfl add_int) x1) rfl) int1) rfl (mod_ok (by omega))
  have hb : Bits ((List.range ps.length).map fun k => row2.getD (1 + k) 0 % 2) ps.length := by
    refine ⟨by simp, fun k hk => ?_⟩
    have e : ((List.range ps.length).map fun k => row2.getD (1 + k) 0 % 2).getD k 0 = row2.getD (1 + k) 0 % 2 := by
      rw [List.getD_eq_getElem?_getD, List.getElem?_map, List.getElem?_range hk]
      rfl
    rw [e]
    omega
  generalize ((List.range ps.length).map fun k => row2.getD (1 + k) 0 % 2) = st at hb ⊢
  refine ok_freezeS rfl ?_
  refine ok_set (d := .lst ((feds m ps st).map D.int)) (call_ok (cons_ok rfl (cons_ok rfl (cons_ok rfl rfl))) (law_fed_ok (by omega) (by omega) vp rfl hb)) ?_
  have lf : (feds m ps st).length = m := fedn_len m ps st _
  have nf : ∀ j, 0 ≤ (feds m ps st).getD j 0 := fedn_nonneg m ps st _
  generalize feds m ps st = cs at lf nf
  refine ok_setOw (ds := []) rfl (ok_setOw (ds := []) rfl ?_)
  let gr : B → B → B → List Int → List (Option Int) → Rho := fun a b c nl bl => [.sh (.scr (ns.map D.int)), .sh (.int 0), .sh (.int 48), .sh (.lst (row2.map D.int)), .sh (.int (m : Nat)), .sh (.lst (ps.map ePair.e)), x, y, z, .sh (.tup (st.map D.int)), .sh (.lst (cs.map D.int)), .ow (.lst (nl.map D.int)), .ow (.lst (bl.map eOpt.e)), a, b, c, .un]
  refine ok_for (ds := rangeD m) (fun i ρ => ∃ (a b c : B) (nl : List Int) (bl : List (Option Int)), nl.length = i ∧ NN nl ∧ bl.length = i ∧ BN bl ∧ ρ = gr a b c nl bl) (range_ok rfl (by omega)) ⟨_, _, _, [], [], rfl, fun x h => absurd h (by simp), rfl, fun x h => absurd h (by simp), rfl⟩ (fun i d ρ hi hd => ?_) fun ρ => ?_
  · rintro ⟨a, b, c, nl, bl, a1, a2, a3, a4, rfl⟩
    rw [rangeD_len] at hi
    cases rangeD_get hd
    have x1 := hx (49 + 2 * i) (by omega) (by omega)
    have x2 := hx (50 + 2 * i) (by omega) (by omega)
    have xc : oIx (.lst (cs.map D.int)) (.int (i : Nat)) = some (.int (cs.getD i 0)) := ixL (by omega)
    have c0 := nf i
    generalize row2.getD (Int.toNat (49 + 2 * (i : Int))) 0 = q1 at x1
    generalize row2.getD (Int.toNat (50 + 2 * (i : Int))) 0 = q2 at x2
    generalize cs.getD i 0 = cv at xc c0
    have bb : nl.length < big ∧ bl.length < big := by rw [a1, a3]; exact ⟨Nat.lt_of_lt_of_le (show i < 24 by omega) (by decide), Nat.lt_of_lt_of_le (show i < 24 by omega) (by decide)⟩
    refine ⟨_, rfl, ok_set (d := .int (([0, 0, 1, 0, 0, 2, 0, 1] : List Int).getD (q1 % 8).toNat 0)) (op_ok (ofL_ok (len1_ok rfl (by show 8 ≤ big; decide))) (op_ok (call_ok (cons_ok (op_ok rfl (op_ok rfl (op_ok rfl rfl (mul_ok (.inl (by omega)))) add_int) x1) rfl) int1) rfl (mod_ok (by omega))) (tabE eInt (T := [0, 0, 1, 0, 0, 2, 0, 1]) 0 rfl (by omega) (by show _ < ((8 : Nat) : Int); omega))) ?_⟩
    generalize ([0, 0, 1, 0, 0, 2, 0, 1] : List Int).getD (q1 % 8).toNat 0 = slack
    refine ok_set (d := eOpt.e (([none, some 0, some 1, some 0, none, some 2, some 0, some 1] : List (Option Int)).getD (q2 % 8).toNat none)) (op_ok (ofL_ok (len1_ok rfl (by show 8 ≤ big; decide))) (op_ok (call_ok (cons_ok (op_ok rfl (op_ok rfl (op_ok rfl rfl (mul_ok (.inl (by omega)))) add_int) x2) rfl) int1) rfl (mod_ok (by omega))) (tabE eOpt (T := [none, some 0, some 1, some 0, none, some 2, some 0, some 1]) none rfl (by omega) (by show _ < ((8 : Nat) : Int); omega))) ?_
    have ht0 : ∀ y, ([none, some 0, some 1, some 0, none, some 2, some 0, some 1] : List (Option Int)).getD (q2 % 8).toNat none = some y → 0 ≤ y := fun y hy => by
      have hmem := gD_mem (T := ([none, some 0, some 1, some 0, none, some 2, some 0, some 1] : List (Option Int))) (j := (q2 % 8).toNat) (d0 := none) (by show _ < 8; omega)
      rw [hy] at hmem
      simp only [List.mem_cons, List.not_mem_nil, or_false, Option.some.injEq, reduceCtorEq, false_or] at hmem
      omega
    generalize ([none, some 0, some 1, some 0, none, some 2, some 0, some 1] : List (Option Int)).getD (q2 % 8).toNat none = top at ht0
    refine ok_join (fun ρ => ∃ top : Option Int, (∀ y, top = some y → 0 ≤ y) ∧ ρ = gr (.sh (.int (i : Nat))) (.sh (.int slack)) (.sh (eOpt.e top)) nl bl) (ok_ifS _ (by (repeat' (first | with_reducible exact c_ok | with_reducible exact nil_ok | exact v_ok rfl | exact bor_ok rfl | with_reducible apply op_ok | with_reducible apply un_ok | with_reducible apply call_ok | with_reducible apply cons_ok | with_reducible apply gB_ok | with_reducible apply ofL_ok | with_reducible apply len1_okI | with_reducible apply tup_ok | (show List.length (List.cons _ _) ≤ big; simp only [List.length_cons, List.length_nil]; decide) | (show List.length List.nil ≤ big; simp only [List.length_nil]; decide) | with_reducible exact DL.add_int | with_reducible exact DL.sub_int | with_reducible exact DL.lt_int | with_reducible exact DL.le_int | with_reducible exact DL.gt_int | with_reducible exact DL.ge_int | with_reducible exact oEq_int _ _ | with_reducible exact oNe_int _ _ | with_reducible exact int1 | with_reducible exact intb | with_reducible exact abs1 | with_reducible exact min2 | with_reducible exact max2 | with_reducible exact len_lst | with_reducible exact len_tup | with_reducible exact len_scr | with_reducible exact pow1018 | with_reducible exact pow1020 | with_reducible exact mod_ok (by omega) | with_reducible exact fdiv_ok (by omega) | with_reducible exact mul_ok (by unfold CMul; omega) | with_reducible assumption))) (fun _ => ok_set (d := .non) rfl (ok_next ⟨_, rfl, none, (fun y h => by cases h), rfl⟩)) fun _ => ok_next ⟨_, rfl, top, ht0, rfl⟩) ?_
    rintro _ ⟨top, ht0, rfl⟩
    refine ok_join (fun ρ => ∃ slack : Int, ρ = gr (.sh (.int (i : Nat))) (.sh (.int slack)) (.sh (eOpt.e top)) nl bl) (ok_ifS _ (by (repeat' (first | with_reducible exact c_ok | with_reducible exact nil_ok | exact v_ok rfl | exact bor_ok rfl | with_reducible apply op_ok | with_reducible apply un_ok | with_reducible apply call_ok | with_reducible apply cons_ok | with_reducible apply gB_ok | with_reducible apply ofL_ok | with_reducible apply len1_okI | with_reducible apply tup_ok | (show List.length (List.cons _ _) ≤ big; simp only [List.length_cons, List.length_nil]; decide) | (show List.length List.nil ≤ big; simp only [List.length_nil]; decide) | with_reducible exact DL.add_int | with_reducible exact DL.sub_int | with_reducible exact DL.lt_int | with_reducible exact DL.le_int | with_reducible exact DL.gt_int | with_reducible exact DL.ge_int | with_reducible exact oEq_int _ _ | with_reducible exact oNe_int _ _ | with_reducible exact int1 | with_reducible exact intb | with_reducible exact abs1 | with_reducible exact min2 | with_reducible exact max2 | with_reducible exact len_lst | with_reducible exact len_tup | with_reducible exact len_scr | with_reducible exact pow1018 | with_reducible exact pow1020 | with_reducible exact mod_ok (by omega) | with_reducible exact fdiv_ok (by omega) | with_reducible exact mul_ok (by unfold CMul; omega) | with_reducible assumption))) (fun _ => ok_set rfl (ok_next ⟨_, rfl, 0, rfl⟩)) fun _ => ok_next ⟨_, rfl, slack, rfl⟩) ?_
    rintro _ ⟨slack, rfl⟩
    refine ok_join (fun ρ => ∃ top : Option Int, (∀ y, top = some y → 0 ≤ y) ∧ ρ = gr (.sh (.int (i : Nat))) (.sh (.int slack)) (.sh (eOpt.e top)) nl bl) (ok_ifS _ (by (repeat' (first | with_reducible exact c_ok | with_reducible exact nil_ok | exact v_ok rfl | exact bor_ok rfl | with_reducible apply op_ok | with_reducible apply un_ok | with_reducible apply call_ok | with_reducible apply cons_ok | with_reducible apply gB_ok | with_reducible apply ofL_ok | with_reducible apply len1_okI | with_reducible apply tup_ok | (show List.length (List.cons _ _) ≤ big; simp only [List.length_cons, List.length_nil]; decide) | (show List.length List.nil ≤ big; simp only [List.length_nil]; decide) | with_reducible exact DL.add_int | with_reducible exact DL.sub_int | with_reducible exact DL.lt_int | with_reducible exact DL.le_int | with_reducible exact DL.gt_int | with_reducible exact DL.ge_int | with_reducible exact oEq_int _ _ | with_reducible exact oNe_int _ _ | with_reducible exact int1 | with_reducible exact intb | with_reducible exact abs1 | with_reducible exact min2 | with_reducible exact max2 | with_reducible exact len_lst | with_reducible exact len_tup | with_reducible exact len_scr | with_reducible exact pow1018 | with_reducible exact pow1020 | with_reducible exact mod_ok (by omega) | with_reducible exact fdiv_ok (by omega) | with_reducible exact mul_ok (by unfold CMul; omega) | with_reducible assumption))) (fun _ => ok_set (d := .int 0) rfl (ok_next ⟨_, rfl, some 0, (fun y h => by cases h; omega), rfl⟩)) fun _ => ok_next ⟨_, rfl, top, ht0, rfl⟩) ?_
    rintro _ ⟨top, ht0, rfl⟩
    refine ok_app rfl (d := .int (if cv - slack > 0 then cv - slack else 0)) (call_ok (cons_ok rfl (cons_ok (op_ok (op_ok rfl rfl xc) rfl sub_int) rfl)) max2) (by rw [List.length_map]; exact bb.1) ?_
    have n1 : 0 ≤ (if cv - slack > 0 then cv - slack else 0) := by split <;> omega
    generalize (if cv - slack > 0 then cv - slack else 0) = nv at n1
    refine ok_join (fun ρ => ∃ (nv : Int), 0 ≤ nv ∧ ρ = gr (.sh (.int (i : Nat))) (.sh (.int slack)) (.sh (eOpt.e top)) (nl ++ [nv]) bl) (ok_ifS _ (by (repeat' (first | with_reducible exact c_ok | with_reducible exact nil_ok | exact v_ok rfl | exact bor_ok rfl | with_reducible apply op_ok | with_reducible apply un_ok | with_reducible apply call_ok | with_reducible apply cons_ok | with_reducible apply gB_ok | with_reducible apply ofL_ok | with_reducible apply len1_okI | with_reducible apply tup_ok | (show List.length (List.cons _ _) ≤ big; simp only [List.length_cons, List.length_nil]; decide) | (show List.length List.nil ≤ big; simp only [List.length_nil]; decide) | with_reducible exact DL.add_int | with_reducible exact DL.sub_int | with_reducible exact DL.lt_int | with_reducible exact DL.le_int | with_reducible exact DL.gt_int | with_reducible exact DL.ge_int | with_reducible exact oEq_int _ _ | with_reducible exact oNe_int _ _ | with_reducible exact int1 | with_reducible exact intb | with_reducible exact abs1 | with_reducible exact min2 | with_reducible exact max2 | with_reducible exact len_lst | with_reducible exact len_tup | with_reducible exact len_scr | with_reducible exact pow1018 | with_reducible exact pow1020 | with_reducible exact mod_ok (by omega) | with_reducible exact fdiv_ok (by omega) | with_reducible exact mul_ok (by unfold CMul; omega) | with_reducible assumption))) (fun _ => ?_) fun _ => ok_next ⟨_, rfl, nv, n1, by rw [map_snoc]; rfl⟩) ?_
    · refine ok_setIx (ds := (nl ++ [nv]).map D.int) (j := i) (d := .int 0) (by rw [← map_snoc]; rfl) rfl rfl (by rw [List.length_map, List.length_append, a1]; simp) (ok_next ⟨_, rfl, 0, by omega, ?_⟩)
      rw [map_set, show (nl ++ [nv]).set i 0 = nl ++ [0] by rw [List.set_append_right _ _ (by omega), a1, Nat.sub_self]; rfl]
      rfl
    rintro _ ⟨nv, n1, rfl⟩
    refine ok_join (fun ρ => ∃ (top : Option Int), (∀ y, top = some y → 0 ≤ y) ∧ ρ = gr (.sh (.int (i : Nat))) (.sh (.int slack)) (.sh (eOpt.e top)) (nl ++ [nv]) bl) (ok_ifS _ (gB_ok (op_ok rfl rfl oIs_opt)) (fun h => ?_) fun _ => ok_next ⟨_, rfl, top, ht0, rfl⟩) ?_
    · obtain ⟨y, rfl⟩ := Option.isSome_iff_exists.mp h
      have := ht0 y rfl
      exact ok_set (d := .int (cv + y)) (op_ok (op_ok rfl rfl xc) rfl add_int) (ok_next ⟨_, rfl, some (cv + y), (fun z hz => by cases hz; omega), rfl⟩)
    rintro _ ⟨top, ht0, rfl⟩
    refine ok_app rfl rfl (by rw [List.length_map]; exact bb.2) (ok_next ⟨_, rfl, _, _, _, nl ++ [nv], bl ++ [top], by rw [List.length_append, a1]; rfl, fun z hz => ?_, by rw [List.length_append, a3]; rfl, fun o ho => ?_, by rw [show bl.map eOpt.e ++ [eOpt.e top] = (bl ++ [top]).map eOpt.e by rw [List.map_append]; rfl]; rfl⟩)
    · rcases List.mem_append.mp hz with q | q
      · exact a2 z q
      · rw [List.mem_singleton] at q; omega
    · rcases List.mem_append.mp ho with q | q
      · exact a4 o q
      · rw [List.mem_singleton] at q; rw [q]; exact ht0
  rintro ⟨a, b, c, nl, bl, a1, a2, a3, a4, rfl⟩
  rw [rangeD_len] at a1 a3
  let f : Nat → List Int := fun k => if row2.getD (97 + k) 0 = 5 then [st.getD k 0] else [0, 1]
  refine ok_setOw (ds := ((List.range ps.length).map f).map eRow.e) (comp_mapE eRow f (range_ok ((len_ok (bor_sh rfl) rfl).trans (by rw [List.length_map])) (by omega)) (by omega) fun k hk => ⟨_, rfl, ?_⟩) ?_
  · have x1 := hx (97 + k) (by omega) (by omega)
    rw [show (97 + (k : Int)).toNat = 97 + k by omega] at x1
    have xs : oIx (.tup (st.map D.int)) (.int (k : Nat)) = some (.int (st.getD k 0)) := ixT (by rw [hb.1]; exact hk)
    refine op_ok (ofL_ok (len1_ok (cons_ok (tup_ok rfl (by decide)) (cons_ok (tup_ok (cons_ok (op_ok rfl rfl xs) rfl) (by show 1 ≤ big; decide)) rfl)) (by show 2 ≤ big; decide))) (call_ok (cons_ok (op_ok (op_ok rfl (op_ok rfl rfl add_int) x1) rfl (oEq_int _ _)) rfl) intb) ?_
    show _ = some (eRow.e (if _ then _ else _))
    by_cases h : row2.getD (97 + k) 0 = 5
    · rw [if_pos h, if_pos (decide_eq_true h)]; rfl
    · rw [if_neg h, if_neg (by rw [decide_eq_false h]; decide)]; rfl
  have hs1 : ((List.range ps.length).map f).length = ps.length := by simp
  have hs2 : ∀ l ∈ (List.range ps.length).map f, Ch l := mem_range_map fun k hk => by
    show Ch (if _ then _ else _)
    split
    · rcases hb.2 k hk with e | e
      · rw [e]; exact .inr (.inl rfl)
      · rw [e]; exact .inr (.inr (.inl rfl))
    · exact .inl rfl
  generalize (List.range ps.length).map f = sd at hs1 hs2 ⊢
  refine ok_freeze rfl ?_
  refine ok_seq (ok_mono (ok_freeze rfl (ok_freeze rfl (ok_freezeSh (d := .lst (ps.map ePair.e)) rfl ⟨_, ret_ok (d := dW m ps nl bl sd [.tup (st.map D.int)]) (ofL_ok (len1_ok (cons_ok rfl (cons_ok rfl (cons_ok rfl (cons_ok rfl (cons_ok rfl (cons_ok rfl rfl)))))) (by show 6 ≤ big; decide))), rfl⟩))) fun r e => ?_)
  subst e
  exact ⟨_, rfl, m, ps, nl, bl, sd, _, rfl, by omega, by omega, by omega, vp, ⟨a1, a2, a3, a4, hs1, hs2⟩⟩
end Lw

/-! part N10 -/
set_option Elab.async false
set_option linter.all false
set_option maxRecDepth 100000
set_option maxHeartbeats 2000000
namespace Lw
open PySem PySem.Spec PyProof.Rows L2 DL
abbrev sz10 : List Int := [8] ++ (List.replicate 3 ([12, 24, 6] : List Int)).flatten
abbrev sz147 : List Int := (List.replicate 144 ([2] : List Int)).flatten ++ [3, 4, 4]
theorem sz10_ok (ρ : Rho) : gOp dAdd (gOfL (gLen1 (gCons (gC (.int 8)) gNil))) (gOp dMulT (gOfL (gLen1 (gCons (gC (.int 12)) (gCons (gC (.int 24)) (gCons (gC (.int 6)) gNil))))) (gC (.int 3))) ρ = some (.lst (sz10.map D.int)) :=
  op_ok (ofL_ok (len1_ok rfl (by show 1 ≤ big; decide))) (op_ok (ofL_ok (len1_ok rfl (by show 3 ≤ big; decide))) rfl (rp_ok (T := [12, 24, 6]) (k := 3) (by omega) (by decide))) (dAdd_lst (a := [8]) (b := (List.replicate 3 ([12, 24, 6] : List Int)).flatten) (by decide))
theorem sz147_ok (ρ : Rho) : gOp dAdd (gOp dMulT (gOfL (gLen1 (gCons (gC (.int 2)) gNil))) (gC (.int 144))) (gOfL (gLen1 (gCons (gC (.int 3)) (gCons (gC (.int 4)) (gCons (gC (.int 4)) gNil))))) ρ = some (.lst (sz147.map D.int)) :=
  op_ok (op_ok (ofL_ok (len1_ok rfl (by show 1 ≤ big; decide))) rfl (rp_ok (T := [2]) (k := 144) (by omega) (by decide))) (ofL_ok (len1_ok rfl (by show 3 ≤ big; decide))) (dAdd_lst (a := (List.replicate 144 ([2] : List Int)).flatten) (b := [3, 4, 4]) (by decide))
theorem tab4 {ρ : Rho} {g : Rho → Option D} {q : Int} (hg : g ρ = some (.int q)) (h0 : 0 ≤ q) (h1 : q < 4) : ∃ v, gOp oIx (gOfL (gLen1 (gCons (gC (.int 1)) (gCons (gC (.int 0)) (gCons (gC (.int 1)) (gCons (gUn (fun d => (asI d).bind fun i => some (.int (-i))) (gC (.int 1))) gNil)))))) g ρ = some (.int v) := by
  obtain ⟨v, e, _⟩ := tab_get (T := [1, 0, 1, -1]) (lo := -1) (hi := 1) (j := q) (by decide) h0 (by show _ < ((4 : Nat) : Int); omega)
  exact ⟨v, op_ok (ofL_ok (len1_ok rfl (by show 4 ≤ big; decide))) hg e⟩
theorem law_true (ns : List Int) (hns : ns.length ≤ 63) : g_law [.scr (ns.map D.int)] = some (.bl true) := by
  refine Dn.eq (ok_dn rfl ?_)
  obtain ⟨_, ec, c, rfl⟩ := cell_ok ns 3 (by omega)
  refine ok_set (call_ok (cons_ok (call_ok (cons_ok rfl (cons_ok rfl rfl)) ec) rfl) int1) ?_
  obtain ⟨dw, ew, hw⟩ := wide_ok ns
  obtain ⟨dm, em, hsm⟩ := small6_ok ns c
  refine ok_join (fun ρ => ∃ d, Wd d ∧ ρ = [.sh (.scr (ns.map D.int)), .sh (.int c), .sh d, .un, .un, .un, .un, .un, .un, .un, .un, .un, .un, .un, .un, .un, .un]) (ok_ifS _ (by (repeat' (first | with_reducible exact c_ok | with_reducible exact nil_ok | exact v_ok rfl | exact bor_ok rfl | with_reducible apply op_ok | with_reducible apply un_ok | with_reducible apply call_ok | with_reducible apply cons_ok | with_reducible apply gB_ok | with_reducible apply ofL_ok | with_reducible apply len1_okI | with_reducible apply tup_ok | (show List.length (List.cons _ _) ≤ big; simp only [List.length_cons, List.length_nil]; decide) | (show List.length List.nil ≤ big; simp only [List.length_nil]; decide) | with_reducible exact DL.add_int | with_reducible exact DL.sub_int | with_reducible exact DL.lt_int | with_reducible exact DL.le_int | with_reducible exact DL.gt_int | with_reducible exact DL.ge_int | with_reducible exact oEq_int _ _ | with_reducible exact oNe_int _ _ | with_reducible exact int1 | with_reducible exact intb | with_reducible exact abs1 | with_reducible exact min2 | with_reducible exact max2 | with_reducible exact len_lst | with_reducible exact len_tup | with_reducible exact len_scr | with_reducible exact pow1018 | with_reducible exact pow1020 | with_reducible exact mod_ok (by omega) | with_reducible exact fdiv_ok (by omega) | with_reducible exact mul_ok (by unfold CMul; omega) | with_reducible assumption))) (fun _ => ok_set (call_ok (cons_ok rfl (cons_ok rfl (cons_ok rfl rfl))) ew) (ok_next ⟨_, rfl, dw, hw, rfl⟩)) fun _ => ok_set (call_ok (cons_ok rfl (cons_ok rfl rfl)) em) (ok_next ⟨_, rfl, dm, hsm, rfl⟩)) ?_
  rintro _ ⟨_, ⟨m, ps, lo, hs, sd, x, rfl, hm0, hm, hp, vp, bd⟩, rfl⟩
  clear ew em hw hsm
  obtain ⟨row0, e1, hr0⟩ := draw_ok (ns := ns) (k := 2) (sz := sz10) (ga := gV 0) (gb := gC (.int 2)) (ρ := [.sh (.scr (ns.map D.int)), .sh (.int c), .sh (dW m ps lo hs sd x), .un, .un, .un, .un, .un, .un, .un, .un, .un, .un, .un, .un, .un, .un]) (v_ok (i := 0) rfl) rfl (sz10_ok _) (by omega) (by decide) (by decide)
  obtain ⟨_, e2, lo1, hs1, sd1, rfl, bd1⟩ := spoilt_ok (x := x) (row := row0) hm0 hm hp bd (hr0.1.trans (by decide))
  refine ok_set (call_ok (cons_ok rfl (cons_ok e1 rfl)) e2) ?_
  obtain ⟨row, e3, hr⟩ := draw_ok (ns := ns) (k := 4) (sz := sz147) (ga := gV 0) (gb := gC (.int 4)) (ρ := [.sh (.scr (ns.map D.int)), .sh (.int c), .sh (dW m ps lo hs sd x), .sh (dW m ps lo1 hs1 sd1 []), .un, .un, .un, .un, .un, .un, .un, .un, .un, .un, .un, .un, .un]) (v_ok (i := 0) rfl) rfl (sz147_ok _) (by omega) (by decide) (by decide)
  refine ok_set e3 ?_
  have hl : row.length = 147 := hr.1.trans (by decide)
  have hx := row_ix hl
  have h144 := hx 144 (by omega) (by omega)
  have h145 := hx 145 (by omega) (by omega)
  have h146 := hx 146 (by omega) (by omega)
  have b145 : 0 ≤ row.getD 145 0 ∧ row.getD 145 0 < 4 := by
    have h := hr.2 145 (by decide)
    rw [show sz147.getD 145 0 = 4 by decide] at h
    exact h
  have b146 : 0 ≤ row.getD 146 0 ∧ row.getD 146 0 < 4 := by
    have h := hr.2 146 (by decide)
    rw [show sz147.getD 146 0 = 4 by decide] at h
    exact h
  refine ok_join (fun ρ => ∃ (y z : B) (lo1 : List Int) (hs1 : List (Option Int)) (sd1 : List (List Int)), Bd m ps.length lo1 hs1 sd1 ∧ ρ = [.sh (.scr (ns.map D.int)), .sh (.int c), .sh (dW m ps lo hs sd x), .sh (dW m ps lo1 hs1 sd1 []), .sh (.lst (row.map D.int)), y, z, .un, .un, .un, .un, .un, .un, .un, .un, .un, .un]) (ok_ifS _ (by (repeat' (first | with_reducible exact c_ok | with_reducible exact nil_ok | exact v_ok rfl | exact bor_ok rfl | with_reducible apply op_ok | with_reducible apply un_ok | with_reducible apply call_ok | with_reducible apply cons_ok | with_reducible apply gB_ok | with_reducible apply ofL_ok | with_reducible apply len1_okI | with_reducible apply tup_ok | (show List.length (List.cons _ _) ≤ big; simp only [List.length_cons, List.length_nil]; decide) | (show List.length List.nil ≤ big; simp only [List.length_nil]; decide) | with_reducible exact DL.add_int | with_reducible exact DL.sub_int | with_reducible exact DL.lt_int | with_reducible exact DL.le_int | with_reducible exact DL.gt_int | with_reducible exact DL.ge_int | with_reducible exact oEq_int _ _ | with_reducible exact oNe_int _ _ | with_reducible exact int1 | with_reducible exact intb | with_reducible exact abs1 | with_reducible exact min2 | with_reducible exact max2 | with_reducible exact len_lst | with_reducible exact len_tup | with_reducible exact len_scr | with_reducible exact pow1018 | with_reducible exact pow1020 | with_reducible exact mod_ok (by omega) | with_reducible exact fdiv_ok (by omega) | with_reducible exact mul_ok (by unfold CMul; omega) | with_reducible assumption))) (fun _ => ?_) fun _ => ok_next ⟨_, rfl, _, _, lo1, hs1, sd1, bd1, rfl⟩) ?_
  · obtain ⟨w0, w1, w2, w3, w4⟩ := wix (m := m) (ps := ps) (lo := lo1) (hs := hs1) (sd := sd1) (x := [])
    refine ok_set (d := .tup ((fl m fun j => decide (row.getD j 0 = 1)).map D.int)) (tupOf_ok (ofL_ok (comp_fl (fun j => decide (row.getD j 0 = 1)) (range_ok (op_ok rfl rfl w0) (by omega)) (rangeD_len _) (by omega) fun j e hj he => ?_)) rfl) ?_
    · cases rangeD_get he
      have xj := hx (j : Nat) (by omega) (by omega)
      rw [Int.toNat_natCast] at xj
      exact ⟨_, rfl, gB_ok (op_ok (op_ok rfl rfl xj) rfl (oEq_int _ _)), rfl⟩
    refine ok_set (d := .tup ((fl m fun j => decide (row.getD (24 + j) 0 = 1)).map D.int)) (tupOf_ok (ofL_ok (comp_fl (fun j => decide (row.getD (24 + j) 0 = 1)) (range_ok (op_ok rfl rfl w0) (by omega)) (rangeD_len _) (by omega) fun j e hj he => ?_)) rfl) ?_
    · cases rangeD_get he
      have xj := hx (24 + j) (by omega) (by omega)
      rw [show (24 + (j : Int)).toNat = 24 + j by omega] at xj
      exact ⟨_, rfl, gB_ok (op_ok (op_ok rfl (op_ok rfl rfl add_int) xj) rfl (oEq_int _ _)), rfl⟩
    have L1 : Lot m (fl m fun j => decide (row.getD j 0 = 1)) := fl_lot (Nat.le_refl _) hm
    have L2 : Lot m (fl m fun j => decide (row.getD (24 + j) 0 = 1)) := fl_lot (Nat.le_refl _) hm
    generalize (fl m fun j => decide (row.getD j 0 = 1)) = one at L1 ⊢
    generalize (fl m fun j => decide (row.getD (24 + j) 0 = 1)) = two at L2 ⊢
    obtain ⟨a, ea⟩ := tab4 (g := gOp oIx (gV 4) (gC (.int 145))) (ρ := [.sh (.scr (ns.map D.int)), .sh (.int c), .sh (dW m ps lo hs sd x), .sh (dW m ps lo1 hs1 sd1 []), .sh (.lst (row.map D.int)), .sh (.tup (one.map D.int)), .sh (.tup (two.map D.int)), .un, .un, .un, .un, .un, .un, .un, .un, .un, .un]) (op_ok rfl rfl h145) b145.1 b145.2
    obtain ⟨b, eb⟩ := tab4 (g := gOp oIx (gV 4) (gC (.int 146))) (ρ := [.sh (.scr (ns.map D.int)), .sh (.int c), .sh (dW m ps lo hs sd x), .sh (dW m ps lo1 hs1 sd1 []), .sh (.lst (row.map D.int)), .sh (.tup (one.map D.int)), .sh (.tup (two.map D.int)), .un, .un, .un, .un, .un, .un, .un, .un, .un, .un]) (op_ok rfl rfl h146) b146.1 b146.2
    obtain ⟨_, el, lo2, hs2, sd2, rfl, bd2⟩ := levelled_ok (x := []) (a := a) (b := b) hm hp bd1 L1 L2
    exact ok_set (call_ok (cons_ok rfl (cons_ok rfl (cons_ok rfl (cons_ok ea (cons_ok eb rfl))))) el) (ok_next ⟨_, rfl, _, _, lo2, hs2, sd2, bd2, rfl⟩)
  clear bd1 e1 e2 e3 hr0
  rintro _ ⟨y, z, lo1, hs1, sd1, bd1, rfl⟩
  obtain ⟨_, ey, w, rfl⟩ := cell_ok ns 5 (by omega)
  refine ok_set (call_ok (cons_ok (call_ok (cons_ok rfl (cons_ok rfl rfl)) ey) rfl) int1) ?_
  refine ok_set (call_ok (cons_ok rfl rfl) (season_ok hm hp vp bd)) ?_
  refine ok_set (call_ok (cons_ok rfl (cons_ok rfl (cons_ok (op_ok (op_ok (call_ok (cons_ok (op_ok rfl rfl (fdiv_ok (by omega))) rfl) int1) rfl (mod_ok (by omega))) rfl (oEq_int _ _)) rfl))) (sharing_ok (x := []) hm hp vp bd1)) ?_
  have s0 := singles_ok (x := x) hm hp bd
  have s1 := singles_ok (x := []) hm hp bd1
  refine ok_if _ (orT_ok (notT_ok (gB_ok (call_ok (cons_ok rfl (cons_ok rfl rfl)) s1))) (notT_ok (gB_ok (call_ok (cons_ok rfl (cons_ok rfl rfl)) s0)))) (fun h => by cases h) fun _ => ok_next ?_
  obtain ⟨_, eT, T, rfl, tl, tL⟩ := lots_ok (row := row) hm0 hm (by omega)
  have w0 := (wix (m := m) (ps := ps) (lo := lo1) (hs := hs1) (sd := sd1) (x := [])).1
  refine ok_set (call_ok (cons_ok (op_ok rfl rfl w0) (cons_ok rfl rfl)) eT) ?_
  refine ok_set (d := .int (c / 8)) (op_ok rfl rfl (fdiv_ok (by omega))) ?_
  let fr : B → B → B → B → Rho := fun a b d e => [.sh (.scr (ns.map D.int)), .sh (.int c), .sh (dW m ps lo hs sd x), .sh (dW m ps lo1 hs1 sd1 []), .sh (.lst (row.map D.int)), y, z, .sh (.int w), .sh (dS m ps lo hs sd), .sh (dS m ps lo1 hs1 sd1), .sh (.lst (T.map eRow.e)), .sh (.int (c / 8)), a, b, d, e, .un]
  refine ok_for (ds := rangeD T.length) (fun i ρ => ∃ a b d e : B, ρ = fr a b d e) (range_ok ((len_ok rfl rfl).trans (by rw [List.length_map])) (by omega)) ⟨_, _, _, _, rfl⟩ (fun i d ρ hi hd => ?_) fun ρ => ?_
  · rintro ⟨a, b, d, e, rfl⟩
    rw [rangeD_len] at hi
    cases rangeD_get hd
    have xt : oIx (.lst (T.map eRow.e)) (.int (i : Nat)) = some (.tup ((T.getD i []).map D.int)) := ix_nat rfl (encGet eRow [] hi)
    have L := tL _ (gD_mem (d0 := []) hi)
    generalize T.getD i [] = g at xt L
    have G := lot_grp L
    refine ⟨_, rfl, ok_set (call_ok (cons_ok rfl (cons_ok (op_ok rfl rfl xt) rfl)) (numbers_ok hm hp bd G)) (ok_set (call_ok (cons_ok rfl (cons_ok (op_ok rfl rfl xt) rfl)) (numbers_ok (x := []) hm hp bd1 G)) ?_)⟩
    refine ok_set (d := .int ((w / 16 + i) % 2)) (op_ok (call_ok (cons_ok (op_ok (op_ok rfl rfl (fdiv_ok (by omega))) rfl add_int) rfl) int1) rfl (mod_ok (by omega))) ?_
    have hf : (w / 16 + i) % 2 = 0 ∨ (w / 16 + i) % 2 = 1 := by omega
    generalize (w / 16 + i) % 2 = f at hf
    obtain ⟨_, e1, g1, k1, G1⟩ := shown_ok (k := c / 8 + i) L
    obtain ⟨_, e2, g2, k2, G2⟩ := shown_ok (k := w + i) L
    obtain ⟨_, e3, g3, k3, G3⟩ := shown_ok (k := c / 8 / 4 + (i : Int) / 2) L
    obtain ⟨_, e4, g4, k4, G4⟩ := shown_ok (k := w / 4 + (i : Int) / 3) L
    refine ok_if _ (notT_ok (gB_ok (call_ok (cons_ok rfl (cons_ok rfl (cons_ok (call_ok (cons_ok (op_ok rfl rfl xt) (cons_ok (op_ok rfl rfl add_int) rfl)) e1) (cons_ok rfl rfl)))) (right_ok hm hp bd G1)))) (fun h => by cases h) fun _ => ok_next ?_
    refine ok_if _ (notT_ok (gB_ok (call_ok (cons_ok rfl (cons_ok rfl (cons_ok (call_ok (cons_ok (op_ok rfl rfl xt) (cons_ok (op_ok rfl rfl add_int) rfl)) e2) (cons_ok rfl rfl)))) (both_ok hf hm hp bd1 G2 k2)))) (fun h => by cases h) fun _ => ok_next ?_
    refine ok_if _ (notT_ok (gB_ok (call_ok (cons_ok rfl (cons_ok rfl (cons_ok (call_ok (cons_ok (op_ok rfl rfl xt) (cons_ok (op_ok (op_ok rfl rfl (fdiv_ok (by omega))) (op_ok rfl rfl (fdiv_ok (by omega))) add_int) rfl)) e3) (cons_ok (op_ok (op_ok (call_ok (cons_ok rfl rfl) int1) rfl (mod_ok (by omega))) rfl (oEq_int _ _)) rfl)))) (right_ok hm hp bd1 G3)))) (fun h => by cases h) fun _ => ok_next ?_
    refine ok_if _ (notT_ok (gB_ok (call_ok (cons_ok rfl (cons_ok rfl (cons_ok (call_ok (cons_ok (op_ok rfl rfl xt) (cons_ok (op_ok (op_ok rfl rfl (fdiv_ok (by omega))) (op_ok rfl rfl (fdiv_ok (by omega))) add_int) rfl)) e4) (cons_ok (op_ok rfl rfl sub_int) rfl)))) (both_ok (form := 1 - f) (by omega) hm hp bd G4 k4)))) (fun h => by cases h) fun _ => ok_next ?_
    exact ok_next ⟨_, rfl, _, _, _, _, rfl⟩
  rintro ⟨a, b, d, e, rfl⟩
  refine ok_for (ds := rangeD T.length) (fun i ρ => ∃ a b d e : B, ρ = fr a b d e) (range_ok ((len_ok rfl rfl).trans (by rw [List.length_map])) (by omega)) ⟨_, _, _, _, rfl⟩ (fun i d ρ hi hd => ?_) fun ρ => ?_
  · rintro ⟨a, b, d, e, rfl⟩
    rw [rangeD_len] at hi
    cases rangeD_get hd
    have xt : oIx (.lst (T.map eRow.e)) (.int (i : Nat)) = some (.tup ((T.getD i []).map D.int)) := ix_nat rfl (encGet eRow [] hi)
    have L := tL _ (gD_mem (d0 := []) hi)
    generalize T.getD i [] = g at xt L
    have G := lot_grp L
    refine ⟨_, rfl, ok_join (fun ρ => ρ = fr (.sh (.int (i : Nat))) b d e) (ok_ifS _ (orT_ok (gB_ok (op_ok (op_ok (call_ok (cons_ok (op_ok (op_ok rfl rfl (fdiv_ok (by omega))) rfl add_int) rfl) int1) rfl (mod_ok (by omega))) rfl (oEq_int _ _))) (gB_ok (op_ok rfl (op_ok (len_ok rfl rfl) rfl sub_int) (oEq_int _ _)))) (fun _ => ?_) fun _ => ok_next ⟨_, rfl, rfl⟩) ?_⟩
    · exact ok_if _ (notT_ok (gB_ok (call_ok (cons_ok rfl (cons_ok (call_ok (cons_ok rfl (cons_ok (op_ok rfl rfl xt) rfl)) (numbers_ok hm hp bd G)) (cons_ok (op_ok rfl rfl xt) (cons_ok rfl rfl)))) (right_ok hm hp bd G)))) (fun h => by cases h) fun _ => ok_next (ok_next ⟨_, rfl, rfl⟩)
    · rintro _ rfl
      exact ok_next ⟨_, rfl, _, _, _, _, rfl⟩
  rintro ⟨a, b, d, e, rfl⟩
  exact ok_ret (and_ok (call_ok (cons_ok rfl (cons_ok rfl rfl)) s1) (and_ok (call_ok (cons_ok rfl (cons_ok rfl rfl)) (kept_ok (x := []) bd1)) (call_ok (cons_ok rfl (cons_ok rfl rfl)) (kept_ok (x := x) bd)))) ⟨_, rfl, rfl⟩
end Lw

/-! part HD6 -/
set_option Elab.async false
set_option linter.all false
set_option maxRecDepth 100000
set_option maxHeartbeats 4000000
namespace Lw
open PySem PySem.Spec PyProof.Rows L2 DL
open Evl (Ex)
theorem fld_of {K : PySem.W.Frag} {mg : Str → Option Value} {n f : Str} {C : Addr} (h : mg n = some (.ref C)) (c : Cls K C) (a : NoAttr K C f) : FldOk K mg n f :=
  ⟨fun C' h' => by rw [h] at h'; cases h'; exact c, fun C' h' => by rw [h] at h'; cases h'; exact a⟩
theorem kit_of_own {K : PySem.W.Frag} {C : Addr} (hi : PySem.W.isClsIn K C = true) (ht : PySem.W.typeIn K (.ref C) = some (.type "type")) {t : Value} {b : Bool} (hne : (t == Value.ref C) = false) (h : PySem.W.subIn K t (.ref C) = some b) : PySem.W.kitOne K t (.ref C) = some b := by
  unfold PySem.W.kitOne PySem.W.kitCls
  rw [hne, if_neg Bool.false_ne_true]
  dsimp only
  rw [show (PySem.W.clsIn K C).isSome = true from hi, ht, if_pos (by decide)]
  exact h
theorem sub_ty {K : PySem.W.Frag} {C : Addr} : ∀ T ∈ flatTys, PySem.W.subIn K (.type T) (.ref C) = some false := by
  intro T hT
  have aux : ∀ (T : String) (l : List Value), fastBuiltinMro T = some l → l.contains (.ref C) = false → PySem.W.subIn K (.type T) (.ref C) = some false := fun T l e q => by
    show (fastBuiltinMro T).map (·.contains (.ref C)) = _
    rw [e]
    exact congrArg some q
  unfold flatTys at hT
  simp only [List.mem_cons, List.not_mem_nil, or_false] at hT
  rcases hT with rfl | rfl | rfl | rfl | rfl | rfl
  · exact aux _ [.type "NoneType", .type "object"] (by decide +kernel) (by rfl)
  · exact aux _ [.type "bool", .type "int", .type "object"] (by decide +kernel) (by rfl)
  · exact aux _ [.type "int", .type "object"] (by decide +kernel) (by rfl)
  · exact aux _ [.type "str", .type "object"] (by decide +kernel) (by rfl)
  · exact aux _ [.type "tuple", .type "object"] (by decide +kernel) (by rfl)
  · exact aux _ [.type "list", .type "object"] (by decide +kernel) (by rfl)
theorem kit_flat {K : PySem.W.Frag} {C : Addr} (hi : PySem.W.isClsIn K C = true) (ht : PySem.W.typeIn K (.ref C) = some (.type "type")) : ∀ T ∈ flatTys, PySem.W.kitOne K (.type T) (.ref C) = some false := fun T hT => kit_of_own hi ht (by rfl) (sub_ty T hT)
theorem nf_flat {K : PySem.W.Frag} {C : Addr} : ∀ T ∈ flatTys, PySem.W.notFirst K C (.type T) = true := fun T hT => by
  unfold PySem.W.notFirst
  rw [sub_ty T hT]
  simp
theorem kit_me {K : PySem.W.Frag} {C : Addr} : PySem.W.kitOne K (.ref C) (.ref C) = some true := by
  unfold PySem.W.kitOne
  rw [if_pos (by simp)]
theorem kit_no {K : PySem.W.Frag} {C D : Addr} (hi : PySem.W.isClsIn K C = true) (ht : PySem.W.typeIn K (.ref C) = some (.type "type")) (hc : PySem.W.mroIn K C (.ref C) = some true) (hd : PySem.W.mroIn K D (.ref C) = some false) : PySem.W.kitOne K (.ref D) (.ref C) = some false := by
  refine kit_of_own hi ht ?_ hd
  by_cases e : D = C
  · subst e
    rw [hc] at hd
    cases hd
  · simp [e]
theorem nf_no {K : PySem.W.Frag} {C D : Addr} (hd : PySem.W.mroIn K D (.ref C) = some false) : PySem.W.notFirst K C (.ref D) = true := by
  unfold PySem.W.notFirst
  rw [show PySem.W.subIn K (.ref D) (.ref C) = some false from hd]
  simp
theorem no_flat {K : PySem.W.Frag} {C : Addr} (h1 : PySem.W.mroIn K C (.type "NoneType") = some false) (h2 : PySem.W.mroIn K C (.type "bool") = some false) (h3 : PySem.W.mroIn K C (.type "int") = some false) (h4 : PySem.W.mroIn K C (.type "str") = some false)
    (h5 : PySem.W.mroIn K C (.type "tuple") = some false) (h6 : PySem.W.mroIn K C (.type "list") = some false) : ∀ T ∈ flatTys, PySem.W.mroIn K C (.type T) = some false := by
  intro T hT
  unfold flatTys at hT
  simp only [List.mem_cons, List.not_mem_nil, or_false] at hT
  rcases hT with rfl | rfl | rfl | rfl | rfl | rfl <;> assumption
def spLaw (K : PySem.W.Frag) : Sp := fun vs H Q _ => ∃ (a : Addr) (ns : List Int), vs = [.ref a] ∧ SqL K H a (ns.map V.int) ∧ ns.length ≤ 63 ∧ ∀ H', Q (.bl true) H'
theorem ok_spLaw {P : Program} {w : World} {K : PySem.W.Frag} {mg : Str → Option Value} {base : Heap} {ad : Ad} (T : Tx K mg ad) : FnOk P w K mg base CX0 7 ad.a_law ad.d_law ["script"] (spLaw K) :=
  { len := fun vs H Q E ⟨a, ns, e, _⟩ => by subst e; rfl, run := fun A outer s H args us vs Q E hr e0 hb r ⟨a, ns, e, hS, hl, q⟩ => (ok_law (P := P) (w := w) (base := base) T).run A outer s H args us vs Q E hr e0 hb r (by
    subst e
    refine ⟨H, _, _, rfl, Ex.refl H, .cons (.scr hS (rps_ints ns)) .nil, law_true ns hl, fun v F' H' l r => ?_⟩
    cases r
    exact q H') }
section
set_option maxHeartbeats 0
theorem all_mk {l : PySem.W.OpenLaw} {w : World} {K : PySem.W.Frag} {h : Heap} {mg : Str → Option Value} {fa : Addr} (X : K.In h) (G : h.Ns mainGlobals mg) (hfa : mg "law" = some (.ref fa))
    {cSeason cValley kBOTH f_law_cell f_law_digits f_is_whole f_is_count f_first_fault f_checked_needs f_checked_limits f_are_sides f_Valley_len f_checked_sides f_Season_init kd_Season_init f_joins_mills f_Valley_init td_Valley_init dt_Valley_init0 f_law_season f_law_sharing f_law_valley f_law_fed f_law_world f_law_drawn f_law_free f_law_small_world f_law_wide f_law_spoilt f_law_numbers f_law_kept f_law_shown f_law_subsets f_law_lots f_law_levelled f_feeding_sides f_gain f_distinct f_want f_load f_bear f_bears_too_little f_bears_less_than_need f_is_obstacle f_law_single f_law_singles f_law_whole f_law_right f_law_both f_law : Addr}
    {odkBOTH od_law_cell an_law_cell od_law_digits an_law_digits od_is_whole an_is_whole od_is_count an_is_count od_first_fault an_first_fault od_checked_needs an_checked_needs od_checked_limits an_checked_limits od_are_sides an_are_sides od_Valley_len an_Valley_len od_checked_sides an_checked_sides od_Season_init an_Season_init od_joins_mills an_joins_mills od_Valley_init an_Valley_init ot_Valley_init od_law_season an_law_season od_law_sharing an_law_sharing od_law_valley an_law_valley od_law_fed an_law_fed od_law_world an_law_world od_law_drawn an_law_drawn od_law_free an_law_free od_law_small_world an_law_small_world od_law_wide an_law_wide od_law_spoilt an_law_spoilt od_law_numbers an_law_numbers od_law_kept an_law_kept od_law_shown an_law_shown od_law_subsets an_law_subsets od_law_lots an_law_lots od_law_levelled an_law_levelled od_feeding_sides an_feeding_sides od_gain an_gain od_distinct an_distinct od_want an_want od_load an_load od_bear an_bear od_bears_too_little an_bears_too_little od_bears_less_than_need an_bears_less_than_need od_is_obstacle an_is_obstacle od_law_single an_law_single od_law_singles an_law_singles od_law_whole an_law_whole od_law_right an_law_right od_law_both an_law_both od_law an_law : Option Addr}
    {slkBOTH sl_law_cell sl_law_digits sl_is_whole sl_is_count sl_first_fault sl_checked_needs sl_checked_limits sl_are_sides sl_Valley_len sl_checked_sides sl_Season_init sl_joins_mills sl_Valley_init st_Valley_init sl_law_season sl_law_sharing sl_law_valley sl_law_fed sl_law_world sl_law_drawn sl_law_free sl_law_small_world sl_law_wide sl_law_spoilt sl_law_numbers sl_law_kept sl_law_shown sl_law_subsets sl_law_lots sl_law_levelled sl_feeding_sides sl_gain sl_distinct sl_want sl_load sl_bear sl_bears_too_little sl_bears_less_than_need sl_is_obstacle sl_law_single sl_law_singles sl_law_whole sl_law_right sl_law_both sl_law : Array (Option Value)}
    {oc_law_cell dc_law_cell pm_law_cell cd_law_cell ctt_law_cell kV_law_cell oc_law_digits dc_law_digits pm_law_digits cd_law_digits ctt_law_digits kV_law_digits oc_is_whole dc_is_whole pm_is_whole cd_is_whole ctt_is_whole kV_is_whole oc_is_count dc_is_count pm_is_count cd_is_count ctt_is_count kV_is_count oc_first_fault dc_first_fault pm_first_fault cd_first_fault ctt_first_fault kV_first_fault oc_checked_needs dc_checked_needs pm_checked_needs cd_checked_needs ctt_checked_needs kV_checked_needs oc_checked_limits dc_checked_limits pm_checked_limits cd_checked_limits ctt_checked_limits kV_checked_limits oc_are_sides dc_are_sides pm_are_sides cd_are_sides ctt_are_sides kV_are_sides oc_Valley_len dc_Valley_len pm_Valley_len cd_Valley_len ctt_Valley_len kV_Valley_len oc_checked_sides dc_checked_sides pm_checked_sides cd_checked_sides ctt_checked_sides kV_checked_sides oc_Season_init dc_Season_init pm_Season_init cd_Season_init ctt_Season_init oc_joins_mills dc_joins_mills pm_joins_mills cd_joins_mills ctt_joins_mills kV_joins_mills oc_Valley_init dc_Valley_init pm_Valley_init cd_Valley_init ctt_Valley_init kV_Valley_init oct_Valley_init oc_law_season dc_law_season pm_law_season cd_law_season ctt_law_season kV_law_season oc_law_sharing dc_law_sharing pm_law_sharing cd_law_sharing ctt_law_sharing kV_law_sharing oc_law_valley dc_law_valley pm_law_valley cd_law_valley ctt_law_valley kV_law_valley oc_law_fed dc_law_fed pm_law_fed cd_law_fed ctt_law_fed kV_law_fed oc_law_world dc_law_world pm_law_world cd_law_world ctt_law_world kV_law_world oc_law_drawn dc_law_drawn pm_law_drawn cd_law_drawn ctt_law_drawn kV_law_drawn oc_law_free dc_law_free pm_law_free cd_law_free ctt_law_free kV_law_free oc_law_small_world dc_law_small_world pm_law_small_world cd_law_small_world ctt_law_small_world kV_law_small_world oc_law_wide dc_law_wide pm_law_wide cd_law_wide ctt_law_wide kV_law_wide oc_law_spoilt dc_law_spoilt pm_law_spoilt cd_law_spoilt ctt_law_spoilt kV_law_spoilt oc_law_numbers dc_law_numbers pm_law_numbers cd_law_numbers ctt_law_numbers kV_law_numbers oc_law_kept dc_law_kept pm_law_kept cd_law_kept ctt_law_kept kV_law_kept oc_law_shown dc_law_shown pm_law_shown cd_law_shown ctt_law_shown kV_law_shown oc_law_subsets dc_law_subsets pm_law_subsets cd_law_subsets ctt_law_subsets kV_law_subsets oc_law_lots dc_law_lots pm_law_lots cd_law_lots ctt_law_lots kV_law_lots oc_law_levelled dc_law_levelled pm_law_levelled cd_law_levelled ctt_law_levelled kV_law_levelled oc_feeding_sides dc_feeding_sides pm_feeding_sides cd_feeding_sides ctt_feeding_sides kV_feeding_sides oc_gain dc_gain pm_gain cd_gain ctt_gain kV_gain oc_distinct dc_distinct pm_distinct cd_distinct ctt_distinct kV_distinct oc_want dc_want pm_want cd_want ctt_want kV_want oc_load dc_load pm_load cd_load ctt_load kV_load oc_bear dc_bear pm_bear cd_bear ctt_bear kV_bear oc_bears_too_little dc_bears_too_little pm_bears_too_little cd_bears_too_little ctt_bears_too_little kV_bears_too_little oc_bears_less_than_need dc_bears_less_than_need pm_bears_less_than_need cd_bears_less_than_need ctt_bears_less_than_need kV_bears_less_than_need oc_is_obstacle dc_is_obstacle pm_is_obstacle cd_is_obstacle ctt_is_obstacle kV_is_obstacle oc_law_single dc_law_single pm_law_single cd_law_single ctt_law_single kV_law_single oc_law_singles dc_law_singles pm_law_singles cd_law_singles ctt_law_singles kV_law_singles oc_law_whole dc_law_whole pm_law_whole cd_law_whole ctt_law_whole kV_law_whole oc_law_right dc_law_right pm_law_right cd_law_right ctt_law_right kV_law_right oc_law_both dc_law_both pm_law_both cd_law_both ctt_law_both kV_law_both oc_law dc_law pm_law cd_law ctt_law kV_law : Value}
    {nkBOTH nt_Valley_init : Nat}
    {tBOTH0 tBOTH1 : Tok}
    (aSeason : PySem.W.nsIn K mainGlobals "Season" = some (some (.ref cSeason)))
    (pgSeason : PySem.W.plainGet K cSeason Str.empty = true)
    (hdSeason : PySem.W.hasDictIn K cSeason = true)
    (poSeason : PySem.W.plainOver K cSeason = true)
    (saSeason : PySem.W.findIn K (.ref cSeason) "__setattr__" = some (some (.builtin "object.__setattr__")))
    (caSeason : PySem.W.findIn K (.ref cSeason) "__class__" = some (some (.builtin "object.__class__")))
    (obSeason : PySem.W.mroIn K cSeason (.type "object") = some true)
    (isSeason : PySem.W.isClsIn K cSeason = true)
    (ttSeason : PySem.W.typeIn K (.ref cSeason) = some (.type "type"))
    (meSeason : PySem.W.mroIn K cSeason (.ref cSeason) = some true)
    (noSeasonNoneType : PySem.W.mroIn K cSeason (.type "NoneType") = some false)
    (noSeasonbool : PySem.W.mroIn K cSeason (.type "bool") = some false)
    (noSeasonint : PySem.W.mroIn K cSeason (.type "int") = some false)
    (noSeasonstr : PySem.W.mroIn K cSeason (.type "str") = some false)
    (noSeasontuple : PySem.W.mroIn K cSeason (.type "tuple") = some false)
    (noSeasonlist : PySem.W.mroIn K cSeason (.type "list") = some false)
    (mkSeason : PySem.W.makesIn K cSeason = true)
    (kpSeason : PySem.W.keepIn K (.ref cSeason) = true)
    (aValley : PySem.W.nsIn K mainGlobals "Valley" = some (some (.ref cValley)))
    (pgValley : PySem.W.plainGet K cValley Str.empty = true)
    (hdValley : PySem.W.hasDictIn K cValley = true)
    (poValley : PySem.W.plainOver K cValley = true)
    (saValley : PySem.W.findIn K (.ref cValley) "__setattr__" = some (some (.builtin "object.__setattr__")))
    (caValley : PySem.W.findIn K (.ref cValley) "__class__" = some (some (.builtin "object.__class__")))
    (obValley : PySem.W.mroIn K cValley (.type "object") = some true)
    (isValley : PySem.W.isClsIn K cValley = true)
    (ttValley : PySem.W.typeIn K (.ref cValley) = some (.type "type"))
    (meValley : PySem.W.mroIn K cValley (.ref cValley) = some true)
    (noValleyNoneType : PySem.W.mroIn K cValley (.type "NoneType") = some false)
    (noValleybool : PySem.W.mroIn K cValley (.type "bool") = some false)
    (noValleyint : PySem.W.mroIn K cValley (.type "int") = some false)
    (noValleystr : PySem.W.mroIn K cValley (.type "str") = some false)
    (noValleytuple : PySem.W.mroIn K cValley (.type "tuple") = some false)
    (noValleylist : PySem.W.mroIn K cValley (.type "list") = some false)
    (mkValley : PySem.W.makesIn K cValley = true)
    (kpValley : PySem.W.keepIn K (.ref cValley) = true)
    (cn : PySem.W.specialIn K (.builtin "object.__class__") "__get__" = some (some (.builtin "getset_descriptor.__get__")))
    (ct : PySem.W.takesIn K (.builtin "object.__class__") = some true)
    (dfSeasonValley : PySem.W.mroIn K cSeason (.ref cValley) = some false)
    (dfValleySeason : PySem.W.mroIn K cValley (.ref cSeason) = some false)
    (na_Season_limits : PySem.W.findIn K (.ref cSeason) "limits" = some none)
    (na_Season_needs : PySem.W.findIn K (.ref cSeason) "needs" = some none)
    (na_Season_sides : PySem.W.findIn K (.ref cSeason) "sides" = some none)
    (na_Season_valley : PySem.W.findIn K (.ref cSeason) "valley" = some none)
    (na_Valley_mills : PySem.W.findIn K (.ref cValley) "mills" = some none)
    (na_Valley_sluices : PySem.W.findIn K (.ref cValley) "sluices" = some none)
    (m_BOTH : PySem.W.nsIn K mainGlobals "BOTH" = some (some (.ref kBOTH)))
    (l_BOTH : K.lookup kBOTH = some ⟨.type "tuple", odkBOTH, .seq (List.toArray [.int 0 tBOTH0, .int 1 tBOTH1]) nkBOTH, slkBOTH⟩)
    (a_law_cell : PySem.W.nsIn K mainGlobals "_law_cell" = some (some (.ref f_law_cell)))
    (l_law_cell : K.lookup f_law_cell = some ⟨oc_law_cell, od_law_cell, .func (PySem.W.fnOf "_law_cell" "_law_cell" (defArgs s_law_cell) (defBody s_law_cell) (defScope s_law_cell) .none kV_law_cell dc_law_cell pm_law_cell an_law_cell cd_law_cell ctt_law_cell), sl_law_cell⟩)
    (c_law_cell : PySem.W.codeIn K cd_law_cell "_law_cell" = true)
    (k_law_cell : PySem.W.keepIn K (.ref f_law_cell) = true)
    (a_law_digits : PySem.W.nsIn K mainGlobals "_law_digits" = some (some (.ref f_law_digits)))
    (l_law_digits : K.lookup f_law_digits = some ⟨oc_law_digits, od_law_digits, .func (PySem.W.fnOf "_law_digits" "_law_digits" (defArgs s_law_digits) (defBody s_law_digits) (defScope s_law_digits) .none kV_law_digits dc_law_digits pm_law_digits an_law_digits cd_law_digits ctt_law_digits), sl_law_digits⟩)
    (c_law_digits : PySem.W.codeIn K cd_law_digits "_law_digits" = true)
    (k_law_digits : PySem.W.keepIn K (.ref f_law_digits) = true)
    (a_is_whole : PySem.W.nsIn K mainGlobals "is_whole" = some (some (.ref f_is_whole)))
    (l_is_whole : K.lookup f_is_whole = some ⟨oc_is_whole, od_is_whole, .func (PySem.W.fnOf "is_whole" "is_whole" (defArgs s_is_whole) (defBody s_is_whole) (defScope s_is_whole) .none kV_is_whole dc_is_whole pm_is_whole an_is_whole cd_is_whole ctt_is_whole), sl_is_whole⟩)
    (c_is_whole : PySem.W.codeIn K cd_is_whole "is_whole" = true)
    (k_is_whole : PySem.W.keepIn K (.ref f_is_whole) = true)
    (a_is_count : PySem.W.nsIn K mainGlobals "is_count" = some (some (.ref f_is_count)))
    (l_is_count : K.lookup f_is_count = some ⟨oc_is_count, od_is_count, .func (PySem.W.fnOf "is_count" "is_count" (defArgs s_is_count) (defBody s_is_count) (defScope s_is_count) .none kV_is_count dc_is_count pm_is_count an_is_count cd_is_count ctt_is_count), sl_is_count⟩)
    (c_is_count : PySem.W.codeIn K cd_is_count "is_count" = true)
    (k_is_count : PySem.W.keepIn K (.ref f_is_count) = true)
    (a_first_fault : PySem.W.nsIn K mainGlobals "first_fault" = some (some (.ref f_first_fault)))
    (l_first_fault : K.lookup f_first_fault = some ⟨oc_first_fault, od_first_fault, .func (PySem.W.fnOf "first_fault" "first_fault" (defArgs s_first_fault) (defBody s_first_fault) (defScope s_first_fault) .none kV_first_fault dc_first_fault pm_first_fault an_first_fault cd_first_fault ctt_first_fault), sl_first_fault⟩)
    (c_first_fault : PySem.W.codeIn K cd_first_fault "first_fault" = true)
    (k_first_fault : PySem.W.keepIn K (.ref f_first_fault) = true)
    (a_checked_needs : PySem.W.nsIn K mainGlobals "checked_needs" = some (some (.ref f_checked_needs)))
    (l_checked_needs : K.lookup f_checked_needs = some ⟨oc_checked_needs, od_checked_needs, .func (PySem.W.fnOf "checked_needs" "checked_needs" (defArgs s_checked_needs) (defBody s_checked_needs) (defScope s_checked_needs) .none kV_checked_needs dc_checked_needs pm_checked_needs an_checked_needs cd_checked_needs ctt_checked_needs), sl_checked_needs⟩)
    (c_checked_needs : PySem.W.codeIn K cd_checked_needs "checked_needs" = true)
    (k_checked_needs : PySem.W.keepIn K (.ref f_checked_needs) = true)
    (a_checked_limits : PySem.W.nsIn K mainGlobals "checked_limits" = some (some (.ref f_checked_limits)))
    (l_checked_limits : K.lookup f_checked_limits = some ⟨oc_checked_limits, od_checked_limits, .func (PySem.W.fnOf "checked_limits" "checked_limits" (defArgs s_checked_limits) (defBody s_checked_limits) (defScope s_checked_limits) .none kV_checked_limits dc_checked_limits pm_checked_limits an_checked_limits cd_checked_limits ctt_checked_limits), sl_checked_limits⟩)
    (c_checked_limits : PySem.W.codeIn K cd_checked_limits "checked_limits" = true)
    (k_checked_limits : PySem.W.keepIn K (.ref f_checked_limits) = true)
    (a_are_sides : PySem.W.nsIn K mainGlobals "are_sides" = some (some (.ref f_are_sides)))
    (l_are_sides : K.lookup f_are_sides = some ⟨oc_are_sides, od_are_sides, .func (PySem.W.fnOf "are_sides" "are_sides" (defArgs s_are_sides) (defBody s_are_sides) (defScope s_are_sides) .none kV_are_sides dc_are_sides pm_are_sides an_are_sides cd_are_sides ctt_are_sides), sl_are_sides⟩)
    (c_are_sides : PySem.W.codeIn K cd_are_sides "are_sides" = true)
    (k_are_sides : PySem.W.keepIn K (.ref f_are_sides) = true)
    (a_Valley_len : PySem.W.findIn K (.ref cValley) "__len__" = some (some (.ref f_Valley_len)))
    (i_Valley_len : PySem.W.isFn K (.ref f_Valley_len) = true)
    (l_Valley_len : K.lookup f_Valley_len = some ⟨oc_Valley_len, od_Valley_len, .func (PySem.W.fnOf "__len__" "Valley.__len__" (defArgs s_Valley_len) (defBody s_Valley_len) (defScope s_Valley_len) .none kV_Valley_len dc_Valley_len pm_Valley_len an_Valley_len cd_Valley_len ctt_Valley_len), sl_Valley_len⟩)
    (c_Valley_len : PySem.W.codeIn K cd_Valley_len "Valley.__len__" = true)
    (k_Valley_len : PySem.W.keepIn K (.ref f_Valley_len) = true)
    (a_checked_sides : PySem.W.nsIn K mainGlobals "checked_sides" = some (some (.ref f_checked_sides)))
    (l_checked_sides : K.lookup f_checked_sides = some ⟨oc_checked_sides, od_checked_sides, .func (PySem.W.fnOf "checked_sides" "checked_sides" (defArgs s_checked_sides) (defBody s_checked_sides) (defScope s_checked_sides) .none kV_checked_sides dc_checked_sides pm_checked_sides an_checked_sides cd_checked_sides ctt_checked_sides), sl_checked_sides⟩)
    (c_checked_sides : PySem.W.codeIn K cd_checked_sides "checked_sides" = true)
    (k_checked_sides : PySem.W.keepIn K (.ref f_checked_sides) = true)
    (a_Season_init : PySem.W.findIn K (.ref cSeason) "__init__" = some (some (.ref f_Season_init)))
    (i_Season_init : PySem.W.isFn K (.ref f_Season_init) = true)
    (l_Season_init : K.lookup f_Season_init = some ⟨oc_Season_init, od_Season_init, .func (PySem.W.fnOf "__init__" "Season.__init__" (defArgs s_Season_init) (defBody s_Season_init) (defScope s_Season_init) .none (.ref kd_Season_init) dc_Season_init pm_Season_init an_Season_init cd_Season_init ctt_Season_init), sl_Season_init⟩)
    (c_Season_init : PySem.W.codeIn K cd_Season_init "Season.__init__" = true)
    (k_Season_init : PySem.W.keepIn K (.ref f_Season_init) = true)
    (w_Season_init_needs : PySem.W.nsIn K kd_Season_init "needs" = some (some .none))
    (w_Season_init_limits : PySem.W.nsIn K kd_Season_init "limits" = some (some .none))
    (w_Season_init_sides : PySem.W.nsIn K kd_Season_init "sides" = some (some .none))
    (a_joins_mills : PySem.W.nsIn K mainGlobals "joins_mills" = some (some (.ref f_joins_mills)))
    (l_joins_mills : K.lookup f_joins_mills = some ⟨oc_joins_mills, od_joins_mills, .func (PySem.W.fnOf "joins_mills" "joins_mills" (defArgs s_joins_mills) (defBody s_joins_mills) (defScope s_joins_mills) .none kV_joins_mills dc_joins_mills pm_joins_mills an_joins_mills cd_joins_mills ctt_joins_mills), sl_joins_mills⟩)
    (c_joins_mills : PySem.W.codeIn K cd_joins_mills "joins_mills" = true)
    (k_joins_mills : PySem.W.keepIn K (.ref f_joins_mills) = true)
    (a_Valley_init : PySem.W.findIn K (.ref cValley) "__init__" = some (some (.ref f_Valley_init)))
    (i_Valley_init : PySem.W.isFn K (.ref f_Valley_init) = true)
    (l_Valley_init : K.lookup f_Valley_init = some ⟨oc_Valley_init, od_Valley_init, .func (PySem.W.fnOf "__init__" "Valley.__init__" (defArgs s_Valley_init) (defBody s_Valley_init) (defScope s_Valley_init) (.ref td_Valley_init) kV_Valley_init dc_Valley_init pm_Valley_init an_Valley_init cd_Valley_init ctt_Valley_init), sl_Valley_init⟩)
    (c_Valley_init : PySem.W.codeIn K cd_Valley_init "Valley.__init__" = true)
    (k_Valley_init : PySem.W.keepIn K (.ref f_Valley_init) = true)
    (v_Valley_init : K.lookup td_Valley_init = some ⟨oct_Valley_init, ot_Valley_init, .seq (List.toArray [.ref dt_Valley_init0]) nt_Valley_init, st_Valley_init⟩)
    (a_law_season : PySem.W.nsIn K mainGlobals "_law_season" = some (some (.ref f_law_season)))
    (l_law_season : K.lookup f_law_season = some ⟨oc_law_season, od_law_season, .func (PySem.W.fnOf "_law_season" "_law_season" (defArgs s_law_season) (defBody s_law_season) (defScope s_law_season) .none kV_law_season dc_law_season pm_law_season an_law_season cd_law_season ctt_law_season), sl_law_season⟩)
    (c_law_season : PySem.W.codeIn K cd_law_season "_law_season" = true)
    (k_law_season : PySem.W.keepIn K (.ref f_law_season) = true)
    (a_law_sharing : PySem.W.nsIn K mainGlobals "_law_sharing" = some (some (.ref f_law_sharing)))
    (l_law_sharing : K.lookup f_law_sharing = some ⟨oc_law_sharing, od_law_sharing, .func (PySem.W.fnOf "_law_sharing" "_law_sharing" (defArgs s_law_sharing) (defBody s_law_sharing) (defScope s_law_sharing) .none kV_law_sharing dc_law_sharing pm_law_sharing an_law_sharing cd_law_sharing ctt_law_sharing), sl_law_sharing⟩)
    (c_law_sharing : PySem.W.codeIn K cd_law_sharing "_law_sharing" = true)
    (k_law_sharing : PySem.W.keepIn K (.ref f_law_sharing) = true)
    (a_law_valley : PySem.W.nsIn K mainGlobals "_law_valley" = some (some (.ref f_law_valley)))
    (l_law_valley : K.lookup f_law_valley = some ⟨oc_law_valley, od_law_valley, .func (PySem.W.fnOf "_law_valley" "_law_valley" (defArgs s_law_valley) (defBody s_law_valley) (defScope s_law_valley) .none kV_law_valley dc_law_valley pm_law_valley an_law_valley cd_law_valley ctt_law_valley), sl_law_valley⟩)
    (c_law_valley : PySem.W.codeIn K cd_law_valley "_law_valley" = true)
    (k_law_valley : PySem.W.keepIn K (.ref f_law_valley) = true)
    (a_law_fed : PySem.W.nsIn K mainGlobals "_law_fed" = some (some (.ref f_law_fed)))
    (l_law_fed : K.lookup f_law_fed = some ⟨oc_law_fed, od_law_fed, .func (PySem.W.fnOf "_law_fed" "_law_fed" (defArgs s_law_fed) (defBody s_law_fed) (defScope s_law_fed) .none kV_law_fed dc_law_fed pm_law_fed an_law_fed cd_law_fed ctt_law_fed), sl_law_fed⟩)
    (c_law_fed : PySem.W.codeIn K cd_law_fed "_law_fed" = true)
    (k_law_fed : PySem.W.keepIn K (.ref f_law_fed) = true)
    (a_law_world : PySem.W.nsIn K mainGlobals "_law_world" = some (some (.ref f_law_world)))
    (l_law_world : K.lookup f_law_world = some ⟨oc_law_world, od_law_world, .func (PySem.W.fnOf "_law_world" "_law_world" (defArgs s_law_world) (defBody s_law_world) (defScope s_law_world) .none kV_law_world dc_law_world pm_law_world an_law_world cd_law_world ctt_law_world), sl_law_world⟩)
    (c_law_world : PySem.W.codeIn K cd_law_world "_law_world" = true)
    (k_law_world : PySem.W.keepIn K (.ref f_law_world) = true)
    (a_law_drawn : PySem.W.nsIn K mainGlobals "_law_drawn" = some (some (.ref f_law_drawn)))
    (l_law_drawn : K.lookup f_law_drawn = some ⟨oc_law_drawn, od_law_drawn, .func (PySem.W.fnOf "_law_drawn" "_law_drawn" (defArgs s_law_drawn) (defBody s_law_drawn) (defScope s_law_drawn) .none kV_law_drawn dc_law_drawn pm_law_drawn an_law_drawn cd_law_drawn ctt_law_drawn), sl_law_drawn⟩)
    (c_law_drawn : PySem.W.codeIn K cd_law_drawn "_law_drawn" = true)
    (k_law_drawn : PySem.W.keepIn K (.ref f_law_drawn) = true)
    (a_law_free : PySem.W.nsIn K mainGlobals "_law_free" = some (some (.ref f_law_free)))
    (l_law_free : K.lookup f_law_free = some ⟨oc_law_free, od_law_free, .func (PySem.W.fnOf "_law_free" "_law_free" (defArgs s_law_free) (defBody s_law_free) (defScope s_law_free) .none kV_law_free dc_law_free pm_law_free an_law_free cd_law_free ctt_law_free), sl_law_free⟩)
    (c_law_free : PySem.W.codeIn K cd_law_free "_law_free" = true)
    (k_law_free : PySem.W.keepIn K (.ref f_law_free) = true)
    (a_law_small_world : PySem.W.nsIn K mainGlobals "_law_small_world" = some (some (.ref f_law_small_world)))
    (l_law_small_world : K.lookup f_law_small_world = some ⟨oc_law_small_world, od_law_small_world, .func (PySem.W.fnOf "_law_small_world" "_law_small_world" (defArgs s_law_small_world) (defBody s_law_small_world) (defScope s_law_small_world) .none kV_law_small_world dc_law_small_world pm_law_small_world an_law_small_world cd_law_small_world ctt_law_small_world), sl_law_small_world⟩)
    (c_law_small_world : PySem.W.codeIn K cd_law_small_world "_law_small_world" = true)
    (k_law_small_world : PySem.W.keepIn K (.ref f_law_small_world) = true)
    (a_law_wide : PySem.W.nsIn K mainGlobals "_law_wide" = some (some (.ref f_law_wide)))
    (l_law_wide : K.lookup f_law_wide = some ⟨oc_law_wide, od_law_wide, .func (PySem.W.fnOf "_law_wide" "_law_wide" (defArgs s_law_wide) (defBody s_law_wide) (defScope s_law_wide) .none kV_law_wide dc_law_wide pm_law_wide an_law_wide cd_law_wide ctt_law_wide), sl_law_wide⟩)
    (c_law_wide : PySem.W.codeIn K cd_law_wide "_law_wide" = true)
    (k_law_wide : PySem.W.keepIn K (.ref f_law_wide) = true)
    (a_law_spoilt : PySem.W.nsIn K mainGlobals "_law_spoilt" = some (some (.ref f_law_spoilt)))
    (l_law_spoilt : K.lookup f_law_spoilt = some ⟨oc_law_spoilt, od_law_spoilt, .func (PySem.W.fnOf "_law_spoilt" "_law_spoilt" (defArgs s_law_spoilt) (defBody s_law_spoilt) (defScope s_law_spoilt) .none kV_law_spoilt dc_law_spoilt pm_law_spoilt an_law_spoilt cd_law_spoilt ctt_law_spoilt), sl_law_spoilt⟩)
    (c_law_spoilt : PySem.W.codeIn K cd_law_spoilt "_law_spoilt" = true)
    (k_law_spoilt : PySem.W.keepIn K (.ref f_law_spoilt) = true)
    (a_law_numbers : PySem.W.nsIn K mainGlobals "_law_numbers" = some (some (.ref f_law_numbers)))
    (l_law_numbers : K.lookup f_law_numbers = some ⟨oc_law_numbers, od_law_numbers, .func (PySem.W.fnOf "_law_numbers" "_law_numbers" (defArgs s_law_numbers) (defBody s_law_numbers) (defScope s_law_numbers) .none kV_law_numbers dc_law_numbers pm_law_numbers an_law_numbers cd_law_numbers ctt_law_numbers), sl_law_numbers⟩)
    (c_law_numbers : PySem.W.codeIn K cd_law_numbers "_law_numbers" = true)
    (k_law_numbers : PySem.W.keepIn K (.ref f_law_numbers) = true)
    (a_law_kept : PySem.W.nsIn K mainGlobals "_law_kept" = some (some (.ref f_law_kept)))
    (l_law_kept : K.lookup f_law_kept = some ⟨oc_law_kept, od_law_kept, .func (PySem.W.fnOf "_law_kept" "_law_kept" (defArgs s_law_kept) (defBody s_law_kept) (defScope s_law_kept) .none kV_law_kept dc_law_kept pm_law_kept an_law_kept cd_law_kept ctt_law_kept), sl_law_kept⟩)
    (c_law_kept : PySem.W.codeIn K cd_law_kept "_law_kept" = true)
    (k_law_kept : PySem.W.keepIn K (.ref f_law_kept) = true)
    (a_law_shown : PySem.W.nsIn K mainGlobals "_law_shown" = some (some (.ref f_law_shown)))
    (l_law_shown : K.lookup f_law_shown = some ⟨oc_law_shown, od_law_shown, .func (PySem.W.fnOf "_law_shown" "_law_shown" (defArgs s_law_shown) (defBody s_law_shown) (defScope s_law_shown) .none kV_law_shown dc_law_shown pm_law_shown an_law_shown cd_law_shown ctt_law_shown), sl_law_shown⟩)
    (c_law_shown : PySem.W.codeIn K cd_law_shown "_law_shown" = true)
    (k_law_shown : PySem.W.keepIn K (.ref f_law_shown) = true)
    (a_law_subsets : PySem.W.nsIn K mainGlobals "_law_subsets" = some (some (.ref f_law_subsets)))
    (l_law_subsets : K.lookup f_law_subsets = some ⟨oc_law_subsets, od_law_subsets, .func (PySem.W.fnOf "_law_subsets" "_law_subsets" (defArgs s_law_subsets) (defBody s_law_subsets) (defScope s_law_subsets) .none kV_law_subsets dc_law_subsets pm_law_subsets an_law_subsets cd_law_subsets ctt_law_subsets), sl_law_subsets⟩)
    (c_law_subsets : PySem.W.codeIn K cd_law_subsets "_law_subsets" = true)
    (k_law_subsets : PySem.W.keepIn K (.ref f_law_subsets) = true)
    (a_law_lots : PySem.W.nsIn K mainGlobals "_law_lots" = some (some (.ref f_law_lots)))
    (l_law_lots : K.lookup f_law_lots = some ⟨oc_law_lots, od_law_lots, .func (PySem.W.fnOf "_law_lots" "_law_lots" (defArgs s_law_lots) (defBody s_law_lots) (defScope s_law_lots) .none kV_law_lots dc_law_lots pm_law_lots an_law_lots cd_law_lots ctt_law_lots), sl_law_lots⟩)
    (c_law_lots : PySem.W.codeIn K cd_law_lots "_law_lots" = true)
    (k_law_lots : PySem.W.keepIn K (.ref f_law_lots) = true)
    (a_law_levelled : PySem.W.nsIn K mainGlobals "_law_levelled" = some (some (.ref f_law_levelled)))
    (l_law_levelled : K.lookup f_law_levelled = some ⟨oc_law_levelled, od_law_levelled, .func (PySem.W.fnOf "_law_levelled" "_law_levelled" (defArgs s_law_levelled) (defBody s_law_levelled) (defScope s_law_levelled) .none kV_law_levelled dc_law_levelled pm_law_levelled an_law_levelled cd_law_levelled ctt_law_levelled), sl_law_levelled⟩)
    (c_law_levelled : PySem.W.codeIn K cd_law_levelled "_law_levelled" = true)
    (k_law_levelled : PySem.W.keepIn K (.ref f_law_levelled) = true)
    (a_feeding_sides : PySem.W.nsIn K mainGlobals "feeding_sides" = some (some (.ref f_feeding_sides)))
    (l_feeding_sides : K.lookup f_feeding_sides = some ⟨oc_feeding_sides, od_feeding_sides, .func (PySem.W.fnOf "feeding_sides" "feeding_sides" (defArgs s_feeding_sides) (defBody s_feeding_sides) (defScope s_feeding_sides) .none kV_feeding_sides dc_feeding_sides pm_feeding_sides an_feeding_sides cd_feeding_sides ctt_feeding_sides), sl_feeding_sides⟩)
    (c_feeding_sides : PySem.W.codeIn K cd_feeding_sides "feeding_sides" = true)
    (k_feeding_sides : PySem.W.keepIn K (.ref f_feeding_sides) = true)
    (a_gain : PySem.W.nsIn K mainGlobals "gain" = some (some (.ref f_gain)))
    (l_gain : K.lookup f_gain = some ⟨oc_gain, od_gain, .func (PySem.W.fnOf "gain" "gain" (defArgs s_gain) (defBody s_gain) (defScope s_gain) .none kV_gain dc_gain pm_gain an_gain cd_gain ctt_gain), sl_gain⟩)
    (c_gain : PySem.W.codeIn K cd_gain "gain" = true)
    (k_gain : PySem.W.keepIn K (.ref f_gain) = true)
    (a_distinct : PySem.W.nsIn K mainGlobals "distinct" = some (some (.ref f_distinct)))
    (l_distinct : K.lookup f_distinct = some ⟨oc_distinct, od_distinct, .func (PySem.W.fnOf "distinct" "distinct" (defArgs s_distinct) (defBody s_distinct) (defScope s_distinct) .none kV_distinct dc_distinct pm_distinct an_distinct cd_distinct ctt_distinct), sl_distinct⟩)
    (c_distinct : PySem.W.codeIn K cd_distinct "distinct" = true)
    (k_distinct : PySem.W.keepIn K (.ref f_distinct) = true)
    (a_want : PySem.W.nsIn K mainGlobals "want" = some (some (.ref f_want)))
    (l_want : K.lookup f_want = some ⟨oc_want, od_want, .func (PySem.W.fnOf "want" "want" (defArgs s_want) (defBody s_want) (defScope s_want) .none kV_want dc_want pm_want an_want cd_want ctt_want), sl_want⟩)
    (c_want : PySem.W.codeIn K cd_want "want" = true)
    (k_want : PySem.W.keepIn K (.ref f_want) = true)
    (a_load : PySem.W.nsIn K mainGlobals "load" = some (some (.ref f_load)))
    (l_load : K.lookup f_load = some ⟨oc_load, od_load, .func (PySem.W.fnOf "load" "load" (defArgs s_load) (defBody s_load) (defScope s_load) .none kV_load dc_load pm_load an_load cd_load ctt_load), sl_load⟩)
    (c_load : PySem.W.codeIn K cd_load "load" = true)
    (k_load : PySem.W.keepIn K (.ref f_load) = true)
    (a_bear : PySem.W.nsIn K mainGlobals "bear" = some (some (.ref f_bear)))
    (l_bear : K.lookup f_bear = some ⟨oc_bear, od_bear, .func (PySem.W.fnOf "bear" "bear" (defArgs s_bear) (defBody s_bear) (defScope s_bear) .none kV_bear dc_bear pm_bear an_bear cd_bear ctt_bear), sl_bear⟩)
    (c_bear : PySem.W.codeIn K cd_bear "bear" = true)
    (k_bear : PySem.W.keepIn K (.ref f_bear) = true)
    (a_bears_too_little : PySem.W.nsIn K mainGlobals "bears_too_little" = some (some (.ref f_bears_too_little)))
    (l_bears_too_little : K.lookup f_bears_too_little = some ⟨oc_bears_too_little, od_bears_too_little, .func (PySem.W.fnOf "bears_too_little" "bears_too_little" (defArgs s_bears_too_little) (defBody s_bears_too_little) (defScope s_bears_too_little) .none kV_bears_too_little dc_bears_too_little pm_bears_too_little an_bears_too_little cd_bears_too_little ctt_bears_too_little), sl_bears_too_little⟩)
    (c_bears_too_little : PySem.W.codeIn K cd_bears_too_little "bears_too_little" = true)
    (k_bears_too_little : PySem.W.keepIn K (.ref f_bears_too_little) = true)
    (a_bears_less_than_need : PySem.W.nsIn K mainGlobals "bears_less_than_need" = some (some (.ref f_bears_less_than_need)))
    (l_bears_less_than_need : K.lookup f_bears_less_than_need = some ⟨oc_bears_less_than_need, od_bears_less_than_need, .func (PySem.W.fnOf "bears_less_than_need" "bears_less_than_need" (defArgs s_bears_less_than_need) (defBody s_bears_less_than_need) (defScope s_bears_less_than_need) .none kV_bears_less_than_need dc_bears_less_than_need pm_bears_less_than_need an_bears_less_than_need cd_bears_less_than_need ctt_bears_less_than_need), sl_bears_less_than_need⟩)
    (c_bears_less_than_need : PySem.W.codeIn K cd_bears_less_than_need "bears_less_than_need" = true)
    (k_bears_less_than_need : PySem.W.keepIn K (.ref f_bears_less_than_need) = true)
    (a_is_obstacle : PySem.W.nsIn K mainGlobals "is_obstacle" = some (some (.ref f_is_obstacle)))
    (l_is_obstacle : K.lookup f_is_obstacle = some ⟨oc_is_obstacle, od_is_obstacle, .func (PySem.W.fnOf "is_obstacle" "is_obstacle" (defArgs s_is_obstacle) (defBody s_is_obstacle) (defScope s_is_obstacle) .none kV_is_obstacle dc_is_obstacle pm_is_obstacle an_is_obstacle cd_is_obstacle ctt_is_obstacle), sl_is_obstacle⟩)
    (c_is_obstacle : PySem.W.codeIn K cd_is_obstacle "is_obstacle" = true)
    (k_is_obstacle : PySem.W.keepIn K (.ref f_is_obstacle) = true)
    (a_law_single : PySem.W.nsIn K mainGlobals "_law_single" = some (some (.ref f_law_single)))
    (l_law_single : K.lookup f_law_single = some ⟨oc_law_single, od_law_single, .func (PySem.W.fnOf "_law_single" "_law_single" (defArgs s_law_single) (defBody s_law_single) (defScope s_law_single) .none kV_law_single dc_law_single pm_law_single an_law_single cd_law_single ctt_law_single), sl_law_single⟩)
    (c_law_single : PySem.W.codeIn K cd_law_single "_law_single" = true)
    (k_law_single : PySem.W.keepIn K (.ref f_law_single) = true)
    (a_law_singles : PySem.W.nsIn K mainGlobals "_law_singles" = some (some (.ref f_law_singles)))
    (l_law_singles : K.lookup f_law_singles = some ⟨oc_law_singles, od_law_singles, .func (PySem.W.fnOf "_law_singles" "_law_singles" (defArgs s_law_singles) (defBody s_law_singles) (defScope s_law_singles) .none kV_law_singles dc_law_singles pm_law_singles an_law_singles cd_law_singles ctt_law_singles), sl_law_singles⟩)
    (c_law_singles : PySem.W.codeIn K cd_law_singles "_law_singles" = true)
    (k_law_singles : PySem.W.keepIn K (.ref f_law_singles) = true)
    (a_law_whole : PySem.W.nsIn K mainGlobals "_law_whole" = some (some (.ref f_law_whole)))
    (l_law_whole : K.lookup f_law_whole = some ⟨oc_law_whole, od_law_whole, .func (PySem.W.fnOf "_law_whole" "_law_whole" (defArgs s_law_whole) (defBody s_law_whole) (defScope s_law_whole) .none kV_law_whole dc_law_whole pm_law_whole an_law_whole cd_law_whole ctt_law_whole), sl_law_whole⟩)
    (c_law_whole : PySem.W.codeIn K cd_law_whole "_law_whole" = true)
    (k_law_whole : PySem.W.keepIn K (.ref f_law_whole) = true)
    (a_law_right : PySem.W.nsIn K mainGlobals "_law_right" = some (some (.ref f_law_right)))
    (l_law_right : K.lookup f_law_right = some ⟨oc_law_right, od_law_right, .func (PySem.W.fnOf "_law_right" "_law_right" (defArgs s_law_right) (defBody s_law_right) (defScope s_law_right) .none kV_law_right dc_law_right pm_law_right an_law_right cd_law_right ctt_law_right), sl_law_right⟩)
    (c_law_right : PySem.W.codeIn K cd_law_right "_law_right" = true)
    (k_law_right : PySem.W.keepIn K (.ref f_law_right) = true)
    (a_law_both : PySem.W.nsIn K mainGlobals "_law_both" = some (some (.ref f_law_both)))
    (l_law_both : K.lookup f_law_both = some ⟨oc_law_both, od_law_both, .func (PySem.W.fnOf "_law_both" "_law_both" (defArgs s_law_both) (defBody s_law_both) (defScope s_law_both) .none kV_law_both dc_law_both pm_law_both an_law_both cd_law_both ctt_law_both), sl_law_both⟩)
    (c_law_both : PySem.W.codeIn K cd_law_both "_law_both" = true)
    (k_law_both : PySem.W.keepIn K (.ref f_law_both) = true)
    (a_law : PySem.W.nsIn K mainGlobals "law" = some (some (.ref f_law)))
    (l_law : K.lookup f_law = some ⟨oc_law, od_law, .func (PySem.W.fnOf "law" "law" (defArgs s_law) (defBody s_law) (defScope s_law) .none kV_law dc_law pm_law an_law cd_law ctt_law), sl_law⟩)
    (c_law : PySem.W.codeIn K cd_law "law" = true)
    (k_law : PySem.W.keepIn K (.ref f_law) = true)
    (z_all : PySem.W.nsIn K mainGlobals "all" = some none)
    (z_bool : PySem.W.nsIn K mainGlobals "bool" = some none)
    (z_enumerate : PySem.W.nsIn K mainGlobals "enumerate" = some none)
    (z_int : PySem.W.nsIn K mainGlobals "int" = some none)
    (z_isinstance : PySem.W.nsIn K mainGlobals "isinstance" = some none)
    (z_len : PySem.W.nsIn K mainGlobals "len" = some none)
    (z_list : PySem.W.nsIn K mainGlobals "list" = some none)
    (z_max : PySem.W.nsIn K mainGlobals "max" = some none)
    (z_min : PySem.W.nsIn K mainGlobals "min" = some none)
    (z_range : PySem.W.nsIn K mainGlobals "range" = some none)
    (z_set : PySem.W.nsIn K mainGlobals "set" = some none)
    (z_sorted : PySem.W.nsIn K mainGlobals "sorted" = some none)
    (z_sum : PySem.W.nsIn K mainGlobals "sum" = some none)
    (z_tuple : PySem.W.nsIn K mainGlobals "tuple" = some none)
    : ∃ fd : FuncData, (∀ (s : Shared) (v : Value), BindsTo s fd ⟨[v], []⟩ [("script", v)]) ∧ ∀ base : Heap, K.In base → base.Ns mainGlobals mg → FnOk l.prog w K mg base CX0 7 fa fd ["script"] (spLaw K) := by
  have e := hfa.symm.trans (PySem.W.mg_of X G a_law)
  cases e
  have iSeason : InsO K cSeason := ⟨⟨pgSeason, hdSeason, poSeason, saSeason⟩, caSeason, cn, ct, obSeason, kit_me⟩
  have iValley : InsO K cValley := ⟨⟨pgValley, hdValley, poValley, saValley⟩, caValley, cn, ct, obValley, kit_me⟩
  have ocSeason : OwnC K mg "Season" cSeason ["Season", "Valley"] := ⟨PySem.W.mg_of X G aSeason, iSeason, no_flat noSeasonNoneType noSeasonbool noSeasonint noSeasonstr noSeasontuple noSeasonlist, kit_flat isSeason ttSeason, nf_flat, fun m hm hne => by
    simp only [List.mem_cons, List.not_mem_nil, or_false] at hm
    rcases hm with rfl | rfl
    · exact absurd rfl hne
    · exact ⟨_, PySem.W.mg_of X G aValley, iValley, nf_no dfValleySeason, kit_no isSeason ttSeason meSeason dfValleySeason⟩⟩
  have ocValley : OwnC K mg "Valley" cValley ["Season", "Valley"] := ⟨PySem.W.mg_of X G aValley, iValley, no_flat noValleyNoneType noValleybool noValleyint noValleystr noValleytuple noValleylist, kit_flat isValley ttValley, nf_flat, fun m hm hne => by
    simp only [List.mem_cons, List.not_mem_nil, or_false] at hm
    rcases hm with rfl | rfl
    · exact ⟨_, PySem.W.mg_of X G aSeason, iSeason, nf_no dfSeasonValley, kit_no isValley ttValley meValley dfSeasonValley⟩
    · exact absurd rfl hne⟩
  have FD_Season_init : FunD K "__init__" "Season.__init__" (defArgs s_Season_init) (defBody s_Season_init) (defScope s_Season_init) [] [("needs", .non), ("limits", .non), ("sides", .non)] f_Season_init (PySem.W.fnOf "__init__" "Season.__init__" (defArgs s_Season_init) (defBody s_Season_init) (defScope s_Season_init) .none (.ref kd_Season_init) dc_Season_init pm_Season_init an_Season_init cd_Season_init ctt_Season_init) := ⟨⟨_, _, _, _, _, _, _, _, _, _, rfl, l_Season_init, c_Season_init, .inl ⟨rfl, rfl⟩, .inr ⟨kd_Season_init, rfl, fun q hq => by
      simp only [List.mem_cons, List.not_mem_nil, or_false] at hq
      rcases hq with rfl | rfl | rfl
      · exact ⟨_, w_Season_init_needs, rfl⟩
      · exact ⟨_, w_Season_init_limits, rfl⟩
      · exact ⟨_, w_Season_init_sides, rfl⟩⟩⟩, k_Season_init⟩
  have FD_Valley_init : FunD K "__init__" "Valley.__init__" (defArgs s_Valley_init) (defBody s_Valley_init) (defScope s_Valley_init) [.ref dt_Valley_init0] [] f_Valley_init (PySem.W.fnOf "__init__" "Valley.__init__" (defArgs s_Valley_init) (defBody s_Valley_init) (defScope s_Valley_init) (.ref td_Valley_init) kV_Valley_init dc_Valley_init pm_Valley_init an_Valley_init cd_Valley_init ctt_Valley_init) := ⟨⟨_, _, _, _, _, _, _, _, _, _, rfl, l_Valley_init, c_Valley_init, .inr ⟨by simp, td_Valley_init, _, _, _, rfl, v_Valley_init, rfl, .cons rfl .nil⟩, .inl rfl⟩, k_Valley_init⟩
  have BD_Valley_init : Binds K (PySem.W.fnOf "__init__" "Valley.__init__" (defArgs s_Valley_init) (defBody s_Valley_init) (defScope s_Valley_init) (.ref td_Valley_init) kV_Valley_init dc_Valley_init pm_Valley_init an_Valley_init cd_Valley_init ctt_Valley_init) ["self", "mills", "sluices"] [] := by
    obtain ⟨ds, h1, h2⟩ := FD_Valley_init.binds1 (ps := ["self", "mills", "sluices"]) 3 1 (by simp) rfl fun T kV doc pm an cdv ct us its h1 h2 => match us, its, h1, h2 with | [_, _, _], [_], _, _ => ⟨_, rfl, rfl⟩
    cases h1
    exact h2
  have T : Tx K mg {
    a_law_cell := (f_law_cell),
    d_law_cell := (PySem.W.fnOf "_law_cell" "_law_cell" (defArgs s_law_cell) (defBody s_law_cell) (defScope s_law_cell) .none kV_law_cell dc_law_cell pm_law_cell an_law_cell cd_law_cell ctt_law_cell),
    a_law_digits := (f_law_digits),
    d_law_digits := (PySem.W.fnOf "_law_digits" "_law_digits" (defArgs s_law_digits) (defBody s_law_digits) (defScope s_law_digits) .none kV_law_digits dc_law_digits pm_law_digits an_law_digits cd_law_digits ctt_law_digits),
    a_is_whole := (f_is_whole),
    d_is_whole := (PySem.W.fnOf "is_whole" "is_whole" (defArgs s_is_whole) (defBody s_is_whole) (defScope s_is_whole) .none kV_is_whole dc_is_whole pm_is_whole an_is_whole cd_is_whole ctt_is_whole),
    a_is_count := (f_is_count),
    d_is_count := (PySem.W.fnOf "is_count" "is_count" (defArgs s_is_count) (defBody s_is_count) (defScope s_is_count) .none kV_is_count dc_is_count pm_is_count an_is_count cd_is_count ctt_is_count),
    a_first_fault := (f_first_fault),
    d_first_fault := (PySem.W.fnOf "first_fault" "first_fault" (defArgs s_first_fault) (defBody s_first_fault) (defScope s_first_fault) .none kV_first_fault dc_first_fault pm_first_fault an_first_fault cd_first_fault ctt_first_fault),
    a_checked_needs := (f_checked_needs),
    d_checked_needs := (PySem.W.fnOf "checked_needs" "checked_needs" (defArgs s_checked_needs) (defBody s_checked_needs) (defScope s_checked_needs) .none kV_checked_needs dc_checked_needs pm_checked_needs an_checked_needs cd_checked_needs ctt_checked_needs),
    a_checked_limits := (f_checked_limits),
    d_checked_limits := (PySem.W.fnOf "checked_limits" "checked_limits" (defArgs s_checked_limits) (defBody s_checked_limits) (defScope s_checked_limits) .none kV_checked_limits dc_checked_limits pm_checked_limits an_checked_limits cd_checked_limits ctt_checked_limits),
    a_are_sides := (f_are_sides),
    d_are_sides := (PySem.W.fnOf "are_sides" "are_sides" (defArgs s_are_sides) (defBody s_are_sides) (defScope s_are_sides) .none kV_are_sides dc_are_sides pm_are_sides an_are_sides cd_are_sides ctt_are_sides),
    a_Valley_len := (f_Valley_len),
    d_Valley_len := (PySem.W.fnOf "__len__" "Valley.__len__" (defArgs s_Valley_len) (defBody s_Valley_len) (defScope s_Valley_len) .none kV_Valley_len dc_Valley_len pm_Valley_len an_Valley_len cd_Valley_len ctt_Valley_len),
    a_checked_sides := (f_checked_sides),
    d_checked_sides := (PySem.W.fnOf "checked_sides" "checked_sides" (defArgs s_checked_sides) (defBody s_checked_sides) (defScope s_checked_sides) .none kV_checked_sides dc_checked_sides pm_checked_sides an_checked_sides cd_checked_sides ctt_checked_sides),
    a_Season_init := (f_Season_init),
    d_Season_init := (PySem.W.fnOf "__init__" "Season.__init__" (defArgs s_Season_init) (defBody s_Season_init) (defScope s_Season_init) .none (.ref kd_Season_init) dc_Season_init pm_Season_init an_Season_init cd_Season_init ctt_Season_init),
    a_joins_mills := (f_joins_mills),
    d_joins_mills := (PySem.W.fnOf "joins_mills" "joins_mills" (defArgs s_joins_mills) (defBody s_joins_mills) (defScope s_joins_mills) .none kV_joins_mills dc_joins_mills pm_joins_mills an_joins_mills cd_joins_mills ctt_joins_mills),
    a_Valley_init := (f_Valley_init),
    d_Valley_init := (PySem.W.fnOf "__init__" "Valley.__init__" (defArgs s_Valley_init) (defBody s_Valley_init) (defScope s_Valley_init) (.ref td_Valley_init) kV_Valley_init dc_Valley_init pm_Valley_init an_Valley_init cd_Valley_init ctt_Valley_init),
    a_law_season := (f_law_season),
    d_law_season := (PySem.W.fnOf "_law_season" "_law_season" (defArgs s_law_season) (defBody s_law_season) (defScope s_law_season) .none kV_law_season dc_law_season pm_law_season an_law_season cd_law_season ctt_law_season),
    a_law_sharing := (f_law_sharing),
    d_law_sharing := (PySem.W.fnOf "_law_sharing" "_law_sharing" (defArgs s_law_sharing) (defBody s_law_sharing) (defScope s_law_sharing) .none kV_law_sharing dc_law_sharing pm_law_sharing an_law_sharing cd_law_sharing ctt_law_sharing),
    a_law_valley := (f_law_valley),
    d_law_valley := (PySem.W.fnOf "_law_valley" "_law_valley" (defArgs s_law_valley) (defBody s_law_valley) (defScope s_law_valley) .none kV_law_valley dc_law_valley pm_law_valley an_law_valley cd_law_valley ctt_law_valley),
    a_law_fed := (f_law_fed),
    d_law_fed := (PySem.W.fnOf "_law_fed" "_law_fed" (defArgs s_law_fed) (defBody s_law_fed) (defScope s_law_fed) .none kV_law_fed dc_law_fed pm_law_fed an_law_fed cd_law_fed ctt_law_fed),
    a_law_world := (f_law_world),
    d_law_world := (PySem.W.fnOf "_law_world" "_law_world" (defArgs s_law_world) (defBody s_law_world) (defScope s_law_world) .none kV_law_world dc_law_world pm_law_world an_law_world cd_law_world ctt_law_world),
    a_law_drawn := (f_law_drawn),
    d_law_drawn := (PySem.W.fnOf "_law_drawn" "_law_drawn" (defArgs s_law_drawn) (defBody s_law_drawn) (defScope s_law_drawn) .none kV_law_drawn dc_law_drawn pm_law_drawn an_law_drawn cd_law_drawn ctt_law_drawn),
    a_law_free := (f_law_free),
    d_law_free := (PySem.W.fnOf "_law_free" "_law_free" (defArgs s_law_free) (defBody s_law_free) (defScope s_law_free) .none kV_law_free dc_law_free pm_law_free an_law_free cd_law_free ctt_law_free),
    a_law_small_world := (f_law_small_world),
    d_law_small_world := (PySem.W.fnOf "_law_small_world" "_law_small_world" (defArgs s_law_small_world) (defBody s_law_small_world) (defScope s_law_small_world) .none kV_law_small_world dc_law_small_world pm_law_small_world an_law_small_world cd_law_small_world ctt_law_small_world),
    a_law_wide := (f_law_wide),
    d_law_wide := (PySem.W.fnOf "_law_wide" "_law_wide" (defArgs s_law_wide) (defBody s_law_wide) (defScope s_law_wide) .none kV_law_wide dc_law_wide pm_law_wide an_law_wide cd_law_wide ctt_law_wide),
    a_law_spoilt := (f_law_spoilt),
    d_law_spoilt := (PySem.W.fnOf "_law_spoilt" "_law_spoilt" (defArgs s_law_spoilt) (defBody s_law_spoilt) (defScope s_law_spoilt) .none kV_law_spoilt dc_law_spoilt pm_law_spoilt an_law_spoilt cd_law_spoilt ctt_law_spoilt),
    a_law_numbers := (f_law_numbers),
    d_law_numbers := (PySem.W.fnOf "_law_numbers" "_law_numbers" (defArgs s_law_numbers) (defBody s_law_numbers) (defScope s_law_numbers) .none kV_law_numbers dc_law_numbers pm_law_numbers an_law_numbers cd_law_numbers ctt_law_numbers),
    a_law_kept := (f_law_kept),
    d_law_kept := (PySem.W.fnOf "_law_kept" "_law_kept" (defArgs s_law_kept) (defBody s_law_kept) (defScope s_law_kept) .none kV_law_kept dc_law_kept pm_law_kept an_law_kept cd_law_kept ctt_law_kept),
    a_law_shown := (f_law_shown),
    d_law_shown := (PySem.W.fnOf "_law_shown" "_law_shown" (defArgs s_law_shown) (defBody s_law_shown) (defScope s_law_shown) .none kV_law_shown dc_law_shown pm_law_shown an_law_shown cd_law_shown ctt_law_shown),
    a_law_subsets := (f_law_subsets),
    d_law_subsets := (PySem.W.fnOf "_law_subsets" "_law_subsets" (defArgs s_law_subsets) (defBody s_law_subsets) (defScope s_law_subsets) .none kV_law_subsets dc_law_subsets pm_law_subsets an_law_subsets cd_law_subsets ctt_law_subsets),
    a_law_lots := (f_law_lots),
    d_law_lots := (PySem.W.fnOf "_law_lots" "_law_lots" (defArgs s_law_lots) (defBody s_law_lots) (defScope s_law_lots) .none kV_law_lots dc_law_lots pm_law_lots an_law_lots cd_law_lots ctt_law_lots),
    a_law_levelled := (f_law_levelled),
    d_law_levelled := (PySem.W.fnOf "_law_levelled" "_law_levelled" (defArgs s_law_levelled) (defBody s_law_levelled) (defScope s_law_levelled) .none kV_law_levelled dc_law_levelled pm_law_levelled an_law_levelled cd_law_levelled ctt_law_levelled),
    a_feeding_sides := (f_feeding_sides),
    d_feeding_sides := (PySem.W.fnOf "feeding_sides" "feeding_sides" (defArgs s_feeding_sides) (defBody s_feeding_sides) (defScope s_feeding_sides) .none kV_feeding_sides dc_feeding_sides pm_feeding_sides an_feeding_sides cd_feeding_sides ctt_feeding_sides),
    a_gain := (f_gain),
    d_gain := (PySem.W.fnOf "gain" "gain" (defArgs s_gain) (defBody s_gain) (defScope s_gain) .none kV_gain dc_gain pm_gain an_gain cd_gain ctt_gain),
    a_distinct := (f_distinct),
    d_distinct := (PySem.W.fnOf "distinct" "distinct" (defArgs s_distinct) (defBody s_distinct) (defScope s_distinct) .none kV_distinct dc_distinct pm_distinct an_distinct cd_distinct ctt_distinct),
    a_want := (f_want),
    d_want := (PySem.W.fnOf "want" "want" (defArgs s_want) (defBody s_want) (defScope s_want) .none kV_want dc_want pm_want an_want cd_want ctt_want),
    a_load := (f_load),
    d_load := (PySem.W.fnOf "load" "load" (defArgs s_load) (defBody s_load) (defScope s_load) .none kV_load dc_load pm_load an_load cd_load ctt_load),
    a_bear := (f_bear),
    d_bear := (PySem.W.fnOf "bear" "bear" (defArgs s_bear) (defBody s_bear) (defScope s_bear) .none kV_bear dc_bear pm_bear an_bear cd_bear ctt_bear),
    a_bears_too_little := (f_bears_too_little),
    d_bears_too_little := (PySem.W.fnOf "bears_too_little" "bears_too_little" (defArgs s_bears_too_little) (defBody s_bears_too_little) (defScope s_bears_too_little) .none kV_bears_too_little dc_bears_too_little pm_bears_too_little an_bears_too_little cd_bears_too_little ctt_bears_too_little),
    a_bears_less_than_need := (f_bears_less_than_need),
    d_bears_less_than_need := (PySem.W.fnOf "bears_less_than_need" "bears_less_than_need" (defArgs s_bears_less_than_need) (defBody s_bears_less_than_need) (defScope s_bears_less_than_need) .none kV_bears_less_than_need dc_bears_less_than_need pm_bears_less_than_need an_bears_less_than_need cd_bears_less_than_need ctt_bears_less_than_need),
    a_is_obstacle := (f_is_obstacle),
    d_is_obstacle := (PySem.W.fnOf "is_obstacle" "is_obstacle" (defArgs s_is_obstacle) (defBody s_is_obstacle) (defScope s_is_obstacle) .none kV_is_obstacle dc_is_obstacle pm_is_obstacle an_is_obstacle cd_is_obstacle ctt_is_obstacle),
    a_law_single := (f_law_single),
    d_law_single := (PySem.W.fnOf "_law_single" "_law_single" (defArgs s_law_single) (defBody s_law_single) (defScope s_law_single) .none kV_law_single dc_law_single pm_law_single an_law_single cd_law_single ctt_law_single),
    a_law_singles := (f_law_singles),
    d_law_singles := (PySem.W.fnOf "_law_singles" "_law_singles" (defArgs s_law_singles) (defBody s_law_singles) (defScope s_law_singles) .none kV_law_singles dc_law_singles pm_law_singles an_law_singles cd_law_singles ctt_law_singles),
    a_law_whole := (f_law_whole),
    d_law_whole := (PySem.W.fnOf "_law_whole" "_law_whole" (defArgs s_law_whole) (defBody s_law_whole) (defScope s_law_whole) .none kV_law_whole dc_law_whole pm_law_whole an_law_whole cd_law_whole ctt_law_whole),
    a_law_right := (f_law_right),
    d_law_right := (PySem.W.fnOf "_law_right" "_law_right" (defArgs s_law_right) (defBody s_law_right) (defScope s_law_right) .none kV_law_right dc_law_right pm_law_right an_law_right cd_law_right ctt_law_right),
    a_law_both := (f_law_both),
    d_law_both := (PySem.W.fnOf "_law_both" "_law_both" (defArgs s_law_both) (defBody s_law_both) (defScope s_law_both) .none kV_law_both dc_law_both pm_law_both an_law_both cd_law_both ctt_law_both),
    a_law := (fa),
    d_law := (PySem.W.fnOf "law" "law" (defArgs s_law) (defBody s_law) (defScope s_law) .none kV_law dc_law pm_law an_law cd_law ctt_law),
    c_Season := (cSeason),
    c_Valley := (cValley),
    k_BOTH := (kBOTH),
    v_Season_init := ([]),
    w_Season_init := ([("needs", .non), ("limits", .non), ("sides", .non)]),
    v_Valley_init := ([.ref dt_Valley_init0]),
    w_Valley_init := ([]) } :=
  {
    F_law_cell := (fun_mk (st := s_law_cell) l_law_cell c_law_cell k_law_cell),
    m_law_cell := (PySem.W.mg_of X G a_law_cell),
    b_law_cell := ((fun_mk (st := s_law_cell) l_law_cell c_law_cell k_law_cell).binds (ps := ["script", "k"]) fun _ _ _ _ _ _ us hl => match us, hl with | [_, _], _ => rfl),
    F_law_digits := (fun_mk (st := s_law_digits) l_law_digits c_law_digits k_law_digits),
    m_law_digits := (PySem.W.mg_of X G a_law_digits),
    b_law_digits := ((fun_mk (st := s_law_digits) l_law_digits c_law_digits k_law_digits).binds (ps := ["cell", "sizes"]) fun _ _ _ _ _ _ us hl => match us, hl with | [_, _], _ => rfl),
    F_is_whole := (fun_mk (st := s_is_whole) l_is_whole c_is_whole k_is_whole),
    m_is_whole := (PySem.W.mg_of X G a_is_whole),
    b_is_whole := ((fun_mk (st := s_is_whole) l_is_whole c_is_whole k_is_whole).binds (ps := ["value"]) fun _ _ _ _ _ _ us hl => match us, hl with | [_], _ => rfl),
    F_is_count := (fun_mk (st := s_is_count) l_is_count c_is_count k_is_count),
    m_is_count := (PySem.W.mg_of X G a_is_count),
    b_is_count := ((fun_mk (st := s_is_count) l_is_count c_is_count k_is_count).binds (ps := ["value"]) fun _ _ _ _ _ _ us hl => match us, hl with | [_], _ => rfl),
    F_first_fault := (fun_mk (st := s_first_fault) l_first_fault c_first_fault k_first_fault),
    m_first_fault := (PySem.W.mg_of X G a_first_fault),
    b_first_fault := ((fun_mk (st := s_first_fault) l_first_fault c_first_fault k_first_fault).binds (ps := ["size", "good"]) fun _ _ _ _ _ _ us hl => match us, hl with | [_, _], _ => rfl),
    F_checked_needs := (fun_mk (st := s_checked_needs) l_checked_needs c_checked_needs k_checked_needs),
    m_checked_needs := (PySem.W.mg_of X G a_checked_needs),
    b_checked_needs := ((fun_mk (st := s_checked_needs) l_checked_needs c_checked_needs k_checked_needs).binds (ps := ["valley", "needs"]) fun _ _ _ _ _ _ us hl => match us, hl with | [_, _], _ => rfl),
    F_checked_limits := (fun_mk (st := s_checked_limits) l_checked_limits c_checked_limits k_checked_limits),
    m_checked_limits := (PySem.W.mg_of X G a_checked_limits),
    b_checked_limits := ((fun_mk (st := s_checked_limits) l_checked_limits c_checked_limits k_checked_limits).binds (ps := ["valley", "limits"]) fun _ _ _ _ _ _ us hl => match us, hl with | [_, _], _ => rfl),
    F_are_sides := (fun_mk (st := s_are_sides) l_are_sides c_are_sides k_are_sides),
    m_are_sides := (PySem.W.mg_of X G a_are_sides),
    b_are_sides := ((fun_mk (st := s_are_sides) l_are_sides c_are_sides k_are_sides).binds (ps := ["sides"]) fun _ _ _ _ _ _ us hl => match us, hl with | [_], _ => rfl),
    F_Valley_len := (fun_mk (st := s_Valley_len) l_Valley_len c_Valley_len k_Valley_len),
    b_Valley_len := ((fun_mk (st := s_Valley_len) l_Valley_len c_Valley_len k_Valley_len).binds (ps := ["self"]) fun _ _ _ _ _ _ us hl => match us, hl with | [_], _ => rfl),
    ln_Valley := (a_Valley_len),
    lf_Valley := (i_Valley_len),
    F_checked_sides := (fun_mk (st := s_checked_sides) l_checked_sides c_checked_sides k_checked_sides),
    m_checked_sides := (PySem.W.mg_of X G a_checked_sides),
    b_checked_sides := ((fun_mk (st := s_checked_sides) l_checked_sides c_checked_sides k_checked_sides).binds (ps := ["valley", "sides"]) fun _ _ _ _ _ _ us hl => match us, hl with | [_, _], _ => rfl),
    F_Season_init := (FD_Season_init),
    kb_Season_init := (⟨fun s us ws _ h1 h2 => .of_eq (match us, ws, h1, h2 with | [_, _], [_, _, _], _, _ => rfl), fun r1 r2 => r1.append r2⟩),
    mk_Season := (⟨mkSeason, a_Season_init, i_Season_init, kpSeason⟩),
    F_joins_mills := (fun_mk (st := s_joins_mills) l_joins_mills c_joins_mills k_joins_mills),
    m_joins_mills := (PySem.W.mg_of X G a_joins_mills),
    b_joins_mills := ((fun_mk (st := s_joins_mills) l_joins_mills c_joins_mills k_joins_mills).binds (ps := ["mills", "pair"]) fun _ _ _ _ _ _ us hl => match us, hl with | [_, _], _ => rfl),
    F_Valley_init := (FD_Valley_init),
    b_Valley_init := (BD_Valley_init),
    mk_Valley := (⟨mkValley, a_Valley_init, i_Valley_init, kpValley⟩),
    F_law_season := (fun_mk (st := s_law_season) l_law_season c_law_season k_law_season),
    m_law_season := (PySem.W.mg_of X G a_law_season),
    b_law_season := ((fun_mk (st := s_law_season) l_law_season c_law_season k_law_season).binds (ps := ["world"]) fun _ _ _ _ _ _ us hl => match us, hl with | [_], _ => rfl),
    F_law_sharing := (fun_mk (st := s_law_sharing) l_law_sharing c_law_sharing k_law_sharing),
    m_law_sharing := (PySem.W.mg_of X G a_law_sharing),
    b_law_sharing := ((fun_mk (st := s_law_sharing) l_law_sharing c_law_sharing k_law_sharing).binds (ps := ["rule", "world", "sharing"]) fun _ _ _ _ _ _ us hl => match us, hl with | [_, _, _], _ => rfl),
    F_law_valley := (fun_mk (st := s_law_valley) l_law_valley c_law_valley k_law_valley),
    m_law_valley := (PySem.W.mg_of X G a_law_valley),
    b_law_valley := ((fun_mk (st := s_law_valley) l_law_valley c_law_valley k_law_valley).binds (ps := ["row", "upto"]) fun _ _ _ _ _ _ us hl => match us, hl with | [_, _], _ => rfl),
    F_law_fed := (fun_mk (st := s_law_fed) l_law_fed c_law_fed k_law_fed),
    m_law_fed := (PySem.W.mg_of X G a_law_fed),
    b_law_fed := ((fun_mk (st := s_law_fed) l_law_fed c_law_fed k_law_fed).binds (ps := ["mills", "pairs", "setting"]) fun _ _ _ _ _ _ us hl => match us, hl with | [_, _, _], _ => rfl),
    F_law_world := (fun_mk (st := s_law_world) l_law_world c_law_world k_law_world),
    m_law_world := (PySem.W.mg_of X G a_law_world),
    b_law_world := ((fun_mk (st := s_law_world) l_law_world c_law_world k_law_world).binds (ps := ["valley", "row"]) fun _ _ _ _ _ _ us hl => match us, hl with | [_, _], _ => rfl),
    F_law_drawn := (fun_mk (st := s_law_drawn) l_law_drawn c_law_drawn k_law_drawn),
    m_law_drawn := (PySem.W.mg_of X G a_law_drawn),
    b_law_drawn := ((fun_mk (st := s_law_drawn) l_law_drawn c_law_drawn k_law_drawn).binds (ps := ["script", "at", "upto"]) fun _ _ _ _ _ _ us hl => match us, hl with | [_, _, _], _ => rfl),
    F_law_free := (fun_mk (st := s_law_free) l_law_free c_law_free k_law_free),
    m_law_free := (PySem.W.mg_of X G a_law_free),
    b_law_free := ((fun_mk (st := s_law_free) l_law_free c_law_free k_law_free).binds (ps := ["script"]) fun _ _ _ _ _ _ us hl => match us, hl with | [_], _ => rfl),
    F_law_small_world := (fun_mk (st := s_law_small_world) l_law_small_world c_law_small_world k_law_small_world),
    m_law_small_world := (PySem.W.mg_of X G a_law_small_world),
    b_law_small_world := ((fun_mk (st := s_law_small_world) l_law_small_world c_law_small_world k_law_small_world).binds (ps := ["script", "choice"]) fun _ _ _ _ _ _ us hl => match us, hl with | [_, _], _ => rfl),
    F_law_wide := (fun_mk (st := s_law_wide) l_law_wide c_law_wide k_law_wide),
    m_law_wide := (PySem.W.mg_of X G a_law_wide),
    b_law_wide := ((fun_mk (st := s_law_wide) l_law_wide c_law_wide k_law_wide).binds (ps := ["script", "at", "upto"]) fun _ _ _ _ _ _ us hl => match us, hl with | [_, _, _], _ => rfl),
    F_law_spoilt := (fun_mk (st := s_law_spoilt) l_law_spoilt c_law_spoilt k_law_spoilt),
    m_law_spoilt := (PySem.W.mg_of X G a_law_spoilt),
    b_law_spoilt := ((fun_mk (st := s_law_spoilt) l_law_spoilt c_law_spoilt k_law_spoilt).binds (ps := ["world", "row"]) fun _ _ _ _ _ _ us hl => match us, hl with | [_, _], _ => rfl),
    F_law_numbers := (fun_mk (st := s_law_numbers) l_law_numbers c_law_numbers k_law_numbers),
    m_law_numbers := (PySem.W.mg_of X G a_law_numbers),
    b_law_numbers := ((fun_mk (st := s_law_numbers) l_law_numbers c_law_numbers k_law_numbers).binds (ps := ["world", "group"]) fun _ _ _ _ _ _ us hl => match us, hl with | [_, _], _ => rfl),
    F_law_kept := (fun_mk (st := s_law_kept) l_law_kept c_law_kept k_law_kept),
    m_law_kept := (PySem.W.mg_of X G a_law_kept),
    b_law_kept := ((fun_mk (st := s_law_kept) l_law_kept c_law_kept k_law_kept).binds (ps := ["rule", "world"]) fun _ _ _ _ _ _ us hl => match us, hl with | [_, _], _ => rfl),
    F_law_shown := (fun_mk (st := s_law_shown) l_law_shown c_law_shown k_law_shown),
    m_law_shown := (PySem.W.mg_of X G a_law_shown),
    b_law_shown := ((fun_mk (st := s_law_shown) l_law_shown c_law_shown k_law_shown).binds (ps := ["group", "k"]) fun _ _ _ _ _ _ us hl => match us, hl with | [_, _], _ => rfl),
    F_law_subsets := (fun_mk (st := s_law_subsets) l_law_subsets c_law_subsets k_law_subsets),
    m_law_subsets := (PySem.W.mg_of X G a_law_subsets),
    b_law_subsets := ((fun_mk (st := s_law_subsets) l_law_subsets c_law_subsets k_law_subsets).binds (ps := ["numbers", "upto"]) fun _ _ _ _ _ _ us hl => match us, hl with | [_, _], _ => rfl),
    F_law_lots := (fun_mk (st := s_law_lots) l_law_lots c_law_lots k_law_lots),
    m_law_lots := (PySem.W.mg_of X G a_law_lots),
    b_law_lots := ((fun_mk (st := s_law_lots) l_law_lots c_law_lots k_law_lots).binds (ps := ["mills", "row"]) fun _ _ _ _ _ _ us hl => match us, hl with | [_, _], _ => rfl),
    F_law_levelled := (fun_mk (st := s_law_levelled) l_law_levelled c_law_levelled k_law_levelled),
    m_law_levelled := (PySem.W.mg_of X G a_law_levelled),
    b_law_levelled := ((fun_mk (st := s_law_levelled) l_law_levelled c_law_levelled k_law_levelled).binds (ps := ["world", "one", "two", "above", "below"]) fun _ _ _ _ _ _ us hl => match us, hl with | [_, _, _, _, _], _ => rfl),
    F_feeding_sides := (fun_mk (st := s_feeding_sides) l_feeding_sides c_feeding_sides k_feeding_sides),
    m_feeding_sides := (PySem.W.mg_of X G a_feeding_sides),
    b_feeding_sides := ((fun_mk (st := s_feeding_sides) l_feeding_sides c_feeding_sides k_feeding_sides).binds (ps := ["season", "sluice", "lot"]) fun _ _ _ _ _ _ us hl => match us, hl with | [_, _, _], _ => rfl),
    F_gain := (fun_mk (st := s_gain) l_gain c_gain k_gain),
    m_gain := (PySem.W.mg_of X G a_gain),
    b_gain := ((fun_mk (st := s_gain) l_gain c_gain k_gain).binds (ps := ["season", "lot"]) fun _ _ _ _ _ _ us hl => match us, hl with | [_, _], _ => rfl),
    F_distinct := (fun_mk (st := s_distinct) l_distinct c_distinct k_distinct),
    m_distinct := (PySem.W.mg_of X G a_distinct),
    b_distinct := ((fun_mk (st := s_distinct) l_distinct c_distinct k_distinct).binds (ps := ["numbers"]) fun _ _ _ _ _ _ us hl => match us, hl with | [_], _ => rfl),
    F_want := (fun_mk (st := s_want) l_want c_want k_want),
    m_want := (PySem.W.mg_of X G a_want),
    b_want := ((fun_mk (st := s_want) l_want c_want k_want).binds (ps := ["season", "lot"]) fun _ _ _ _ _ _ us hl => match us, hl with | [_, _], _ => rfl),
    F_load := (fun_mk (st := s_load) l_load c_load k_load),
    m_load := (PySem.W.mg_of X G a_load),
    b_load := ((fun_mk (st := s_load) l_load c_load k_load).binds (ps := ["season", "lot"]) fun _ _ _ _ _ _ us hl => match us, hl with | [_, _], _ => rfl),
    F_bear := (fun_mk (st := s_bear) l_bear c_bear k_bear),
    m_bear := (PySem.W.mg_of X G a_bear),
    b_bear := ((fun_mk (st := s_bear) l_bear c_bear k_bear).binds (ps := ["season", "lot"]) fun _ _ _ _ _ _ us hl => match us, hl with | [_, _], _ => rfl),
    F_bears_too_little := (fun_mk (st := s_bears_too_little) l_bears_too_little c_bears_too_little k_bears_too_little),
    m_bears_too_little := (PySem.W.mg_of X G a_bears_too_little),
    b_bears_too_little := ((fun_mk (st := s_bears_too_little) l_bears_too_little c_bears_too_little k_bears_too_little).binds (ps := ["season", "lot"]) fun _ _ _ _ _ _ us hl => match us, hl with | [_, _], _ => rfl),
    F_bears_less_than_need := (fun_mk (st := s_bears_less_than_need) l_bears_less_than_need c_bears_less_than_need k_bears_less_than_need),
    m_bears_less_than_need := (PySem.W.mg_of X G a_bears_less_than_need),
    b_bears_less_than_need := ((fun_mk (st := s_bears_less_than_need) l_bears_less_than_need c_bears_less_than_need k_bears_less_than_need).binds (ps := ["season", "mill"]) fun _ _ _ _ _ _ us hl => match us, hl with | [_, _], _ => rfl),
    F_is_obstacle := (fun_mk (st := s_is_obstacle) l_is_obstacle c_is_obstacle k_is_obstacle),
    m_is_obstacle := (PySem.W.mg_of X G a_is_obstacle),
    b_is_obstacle := ((fun_mk (st := s_is_obstacle) l_is_obstacle c_is_obstacle k_is_obstacle).binds (ps := ["season", "value"]) fun _ _ _ _ _ _ us hl => match us, hl with | [_, _], _ => rfl),
    F_law_single := (fun_mk (st := s_law_single) l_law_single c_law_single k_law_single),
    m_law_single := (PySem.W.mg_of X G a_law_single),
    b_law_single := ((fun_mk (st := s_law_single) l_law_single c_law_single k_law_single).binds (ps := ["rule", "word", "number", "due"]) fun _ _ _ _ _ _ us hl => match us, hl with | [_, _, _, _], _ => rfl),
    F_law_singles := (fun_mk (st := s_law_singles) l_law_singles c_law_singles k_law_singles),
    m_law_singles := (PySem.W.mg_of X G a_law_singles),
    b_law_singles := ((fun_mk (st := s_law_singles) l_law_singles c_law_singles k_law_singles).binds (ps := ["rule", "world"]) fun _ _ _ _ _ _ us hl => match us, hl with | [_, _], _ => rfl),
    F_law_whole := (fun_mk (st := s_law_whole) l_law_whole c_law_whole k_law_whole),
    m_law_whole := (PySem.W.mg_of X G a_law_whole),
    b_law_whole := ((fun_mk (st := s_law_whole) l_law_whole c_law_whole k_law_whole).binds (ps := ["item"]) fun _ _ _ _ _ _ us hl => match us, hl with | [_], _ => rfl),
    F_law_right := (fun_mk (st := s_law_right) l_law_right c_law_right k_law_right),
    m_law_right := (PySem.W.mg_of X G a_law_right),
    b_law_right := ((fun_mk (st := s_law_right) l_law_right c_law_right k_law_right).binds (ps := ["rule", "due", "shown", "named"]) fun _ _ _ _ _ _ us hl => match us, hl with | [_, _, _, _], _ => rfl),
    F_law_both := (fun_mk (st := s_law_both) l_law_both c_law_both k_law_both),
    m_law_both := (PySem.W.mg_of X G a_law_both),
    b_law_both := ((fun_mk (st := s_law_both) l_law_both c_law_both k_law_both).binds (ps := ["rule", "due", "shown", "form"]) fun _ _ _ _ _ _ us hl => match us, hl with | [_, _, _, _], _ => rfl),
    F_law := (fun_mk (st := s_law) l_law c_law k_law),
    m_law := (PySem.W.mg_of X G a_law),
    kp_bear_0_season_lot := (⟨fun s us ws _ h1 h2 => .of_eq (match us, ws, h1, h2 with | [], [_, _], _, _ => rfl), fun r1 r2 => appP_rel r1 r2⟩),
    kp_gain_0_lot_season := (⟨fun s us ws _ h1 h2 => .of_eq (match us, ws, h1, h2 with | [], [_, _], _, _ => rfl), fun r1 r2 => appP_rel r1 r2⟩),
    kp_is_obstacle_0_season_value := (⟨fun s us ws _ h1 h2 => .of_eq (match us, ws, h1, h2 with | [], [_, _], _, _ => rfl), fun r1 r2 => appP_rel r1 r2⟩),
    kp_is_obstacle_0_value_season := (⟨fun s us ws _ h1 h2 => .of_eq (match us, ws, h1, h2 with | [], [_, _], _, _ => rfl), fun r1 r2 => appP_rel r1 r2⟩),
    kp_load_0_season_lot := (⟨fun s us ws _ h1 h2 => .of_eq (match us, ws, h1, h2 with | [], [_, _], _, _ => rfl), fun r1 r2 => appP_rel r1 r2⟩),
    kp_want_0_lot_season := (⟨fun s us ws _ h1 h2 => .of_eq (match us, ws, h1, h2 with | [], [_, _], _, _ => rfl), fun r1 r2 => appP_rel r1 r2⟩),
    oc_Season := (ocSeason),
    oc_Valley := (ocValley),
    fo_Season_limits := (fld_of ocSeason.at_ ocSeason.ins.cl na_Season_limits),
    fo_Season_needs := (fld_of ocSeason.at_ ocSeason.ins.cl na_Season_needs),
    fo_Season_sides := (fld_of ocSeason.at_ ocSeason.ins.cl na_Season_sides),
    fo_Season_valley := (fld_of ocSeason.at_ ocSeason.ins.cl na_Season_valley),
    fo_Valley_mills := (fld_of ocValley.at_ ocValley.ins.cl na_Valley_mills),
    fo_Valley_sluices := (fld_of ocValley.at_ ocValley.ins.cl na_Valley_sluices),
    m_BOTH := (PySem.W.mg_of X G m_BOTH),
    r_BOTH := (fun F => .tup (xs := [.int 0, .int 1]) (.inr ⟨_, _, _, l_BOTH, rfl, rfl, (by show 2 ≤ sizeLine; rw [sizeLine_eq]; omega), (.cons ⟨_, rfl⟩ (.cons ⟨_, rfl⟩ .nil))⟩) (.cons (.int 0) (.cons (.int 1) .nil))),
    z_all := (PySem.W.mg_none_of X G z_all),
    z_bool := (PySem.W.mg_none_of X G z_bool),
    z_enumerate := (PySem.W.mg_none_of X G z_enumerate),
    z_int := (PySem.W.mg_none_of X G z_int),
    z_isinstance := (PySem.W.mg_none_of X G z_isinstance),
    z_len := (PySem.W.mg_none_of X G z_len),
    z_list := (PySem.W.mg_none_of X G z_list),
    z_max := (PySem.W.mg_none_of X G z_max),
    z_min := (PySem.W.mg_none_of X G z_min),
    z_range := (PySem.W.mg_none_of X G z_range),
    z_set := (PySem.W.mg_none_of X G z_set),
    z_sorted := (PySem.W.mg_none_of X G z_sorted),
    z_sum := (PySem.W.mg_none_of X G z_sum),
    z_tuple := (PySem.W.mg_none_of X G z_tuple) }
  exact ⟨_, fun s v => .of_eq rfl, fun base _ _ => ok_spLaw T⟩
end
theorem walk {l : PySem.W.OpenLaw} {q : Program} {loose : List Str} {XP : (Str → Option Value) → Heap → Prop} {YP : World → Heap → Prop} {d : DefRec} {K : Params → PySem.W.Frag} (hn : l.most = some 63) (hdf : d.params.defaults = [])
    (hY : ∀ (w : World) (h : Heap), YP w h → (K w.params).In h)
    (F : ∀ (w : World) (mg : Str → Option Value) (fa : Addr) (h : Heap), (K w.params).In h → h.Ns mainGlobals mg → mg d.name = some (.ref fa) →
      ∃ fd : FuncData, (∀ (s : Shared) (u : Value), BindsTo s fd ⟨[u], []⟩ [("script", u)]) ∧ ∀ base : Heap, (K w.params).In base → base.Ns mainGlobals mg → FnOk l.prog w (K w.params) mg base CX0 7 fa fd ["script"] (spLaw (K w.params))) :
    PySem.W.WalkO q loose XP YP l.row.toRowW d [] (fun f vs => PySem.call f vs) :=
  L2.walk_of (n := 63) (k := 7) (x := "script") (CX := fun _ => CX0) (sp := fun w => spLaw (K w.params)) hn (by decide) hdf ⟨rfl, by decide, by decide⟩ hY F (fun _ _ a ns hl _ hS => ⟨a, ns, rfl, hS, hl, fun _ => rfl⟩) fun _ _ _ _ _ z => z
end Lw

/-! part FIN6 -/
open PySem PySem.W PyProof.Rows
set_option maxRecDepth 100000 in
set_option maxHeartbeats 0 in
theorem PySem.Challenge.cw_millsluices_k06_lot_numbers_and_obstacle_holds : PySem.Challenge.rw_millsluices_k06_lot_numbers_and_obstacle.Holds := by
  w_on; o_law; k_head; (case hw => w_witness2)
  k_fill
  refine Lw.walk (l := PySem.Challenge.rw_millsluices_k06_lot_numbers_and_obstacle) rfl rfl (fun w h Y => PySem.W.kIn_of Y) ?F
  case F =>
    intro w mg fa h KX G hmg
    refine' Lw.all_mk KX G hmg ?aSeason ?pgSeason ?hdSeason ?poSeason ?saSeason ?caSeason ?obSeason ?isSeason ?ttSeason ?meSeason ?noSeasonNoneType ?noSeasonbool ?noSeasonint ?noSeasonstr ?noSeasontuple ?noSeasonlist ?mkSeason ?kpSeason ?aValley ?pgValley ?hdValley ?poValley ?saValley ?caValley ?obValley ?isValley ?ttValley ?meValley ?noValleyNoneType ?noValleybool ?noValleyint ?noValleystr ?noValleytuple ?noValleylist ?mkValley ?kpValley ?cn ?ct ?dfSeasonValley ?dfValleySeason ?na_Season_limits ?na_Season_needs ?na_Season_sides ?na_Season_valley ?na_Valley_mills ?na_Valley_sluices ?m_BOTH ?l_BOTH ?a_law_cell ?l_law_cell ?c_law_cell ?k_law_cell ?a_law_digits ?l_law_digits ?c_law_digits ?k_law_digits ?a_is_whole ?l_is_whole ?c_is_whole ?k_is_whole ?a_is_count ?l_is_count ?c_is_count ?k_is_count ?a_first_fault ?l_first_fault ?c_first_fault ?k_first_fault ?a_checked_needs ?l_checked_needs ?c_checked_needs ?k_checked_needs ?a_checked_limits ?l_checked_limits ?c_checked_limits ?k_checked_limits ?a_are_sides ?l_are_sides ?c_are_sides ?k_are_sides ?a_Valley_len ?i_Valley_len ?l_Valley_len ?c_Valley_len ?k_Valley_len ?a_checked_sides ?l_checked_sides ?c_checked_sides ?k_checked_sides ?a_Season_init ?i_Season_init ?l_Season_init ?c_Season_init ?k_Season_init ?w_Season_init_needs ?w_Season_init_limits ?w_Season_init_sides ?a_joins_mills ?l_joins_mills ?c_joins_mills ?k_joins_mills ?a_Valley_init ?i_Valley_init ?l_Valley_init ?c_Valley_init ?k_Valley_init ?v_Valley_init ?a_law_season ?l_law_season ?c_law_season ?k_law_season ?a_law_sharing ?l_law_sharing ?c_law_sharing ?k_law_sharing ?a_law_valley ?l_law_valley ?c_law_valley ?k_law_valley ?a_law_fed ?l_law_fed ?c_law_fed ?k_law_fed ?a_law_world ?l_law_world ?c_law_world ?k_law_world ?a_law_drawn ?l_law_drawn ?c_law_drawn ?k_law_drawn ?a_law_free ?l_law_free ?c_law_free ?k_law_free ?a_law_small_world ?l_law_small_world ?c_law_small_world ?k_law_small_world ?a_law_wide ?l_law_wide ?c_law_wide ?k_law_wide ?a_law_spoilt ?l_law_spoilt ?c_law_spoilt ?k_law_spoilt ?a_law_numbers ?l_law_numbers ?c_law_numbers ?k_law_numbers ?a_law_kept ?l_law_kept ?c_law_kept ?k_law_kept ?a_law_shown ?l_law_shown ?c_law_shown ?k_law_shown ?a_law_subsets ?l_law_subsets ?c_law_subsets ?k_law_subsets ?a_law_lots ?l_law_lots ?c_law_lots ?k_law_lots ?a_law_levelled ?l_law_levelled ?c_law_levelled ?k_law_levelled ?a_feeding_sides ?l_feeding_sides ?c_feeding_sides ?k_feeding_sides ?a_gain ?l_gain ?c_gain ?k_gain ?a_distinct ?l_distinct ?c_distinct ?k_distinct ?a_want ?l_want ?c_want ?k_want ?a_load ?l_load ?c_load ?k_load ?a_bear ?l_bear ?c_bear ?k_bear ?a_bears_too_little ?l_bears_too_little ?c_bears_too_little ?k_bears_too_little ?a_bears_less_than_need ?l_bears_less_than_need ?c_bears_less_than_need ?k_bears_less_than_need ?a_is_obstacle ?l_is_obstacle ?c_is_obstacle ?k_is_obstacle ?a_law_single ?l_law_single ?c_law_single ?k_law_single ?a_law_singles ?l_law_singles ?c_law_singles ?k_law_singles ?a_law_whole ?l_law_whole ?c_law_whole ?k_law_whole ?a_law_right ?l_law_right ?c_law_right ?k_law_right ?a_law_both ?l_law_both ?c_law_both ?k_law_both ?a_law ?l_law ?c_law ?k_law ?z_all ?z_bool ?z_enumerate ?z_int ?z_isinstance ?z_len ?z_list ?z_max ?z_min ?z_range ?z_set ?z_sorted ?z_sum ?z_tuple
    (case aSeason => k_is)
    (case pgSeason => k_is)
    (case hdSeason => k_is)
    (case poSeason => k_is)
    (case saSeason => k_is)
    (case caSeason => k_is)
    (case obSeason => k_is)
    (case isSeason => k_is)
    (case ttSeason => k_is)
    (case meSeason => k_is)
    (case noSeasonNoneType => k_is)
    (case noSeasonbool => k_is)
    (case noSeasonint => k_is)
    (case noSeasonstr => k_is)
    (case noSeasontuple => k_is)
    (case noSeasonlist => k_is)
    (case mkSeason => k_is)
    (case kpSeason => k_is)
    (case aValley => k_is)
    (case pgValley => k_is)
    (case hdValley => k_is)
    (case poValley => k_is)
    (case saValley => k_is)
    (case caValley => k_is)
    (case obValley => k_is)
    (case isValley => k_is)
    (case ttValley => k_is)
    (case meValley => k_is)
    (case noValleyNoneType => k_is)
    (case noValleybool => k_is)
    (case noValleyint => k_is)
    (case noValleystr => k_is)
    (case noValleytuple => k_is)
    (case noValleylist => k_is)
    (case mkValley => k_is)
    (case kpValley => k_is)
    (case cn => k_is)
    (case ct => k_is)
    (case dfSeasonValley => k_is)
    (case dfValleySeason => k_is)
    (case na_Season_limits => k_is)
    (case na_Season_needs => k_is)
    (case na_Season_sides => k_is)
    (case na_Season_valley => k_is)
    (case na_Valley_mills => k_is)
    (case na_Valley_sluices => k_is)
    (case m_BOTH => k_is)
    (case l_BOTH => k_is)
    (case a_law_cell => k_is)
    (case l_law_cell => k_is)
    (case c_law_cell => k_is)
    (case k_law_cell => k_is)
    (case a_law_digits => k_is)
    (case l_law_digits => k_is)
    (case c_law_digits => k_is)
    (case k_law_digits => k_is)
    (case a_is_whole => k_is)
    (case l_is_whole => k_is)
    (case c_is_whole => k_is)
    (case k_is_whole => k_is)
    (case a_is_count => k_is)
    (case l_is_count => k_is)
    (case c_is_count => k_is)
    (case k_is_count => k_is)
    (case a_first_fault => k_is)
    (case l_first_fault => k_is)
    (case c_first_fault => k_is)
    (case k_first_fault => k_is)
    (case a_checked_needs => k_is)
    (case l_checked_needs => k_is)
    (case c_checked_needs => k_is)
    (case k_checked_needs => k_is)
    (case a_checked_limits => k_is)
    (case l_checked_limits => k_is)
    (case c_checked_limits => k_is)
    (case k_checked_limits => k_is)
    (case a_are_sides => k_is)
    (case l_are_sides => k_is)
    (case c_are_sides => k_is)
    (case k_are_sides => k_is)
    (case a_Valley_len => k_is)
    (case i_Valley_len => k_is)
    (case l_Valley_len => k_is)
    (case c_Valley_len => k_is)
    (case k_Valley_len => k_is)
    (case a_checked_sides => k_is)
    (case l_checked_sides => k_is)
    (case c_checked_sides => k_is)
    (case k_checked_sides => k_is)
    (case a_Season_init => k_is)
    (case i_Season_init => k_is)
    (case l_Season_init => k_is)
    (case c_Season_init => k_is)
    (case k_Season_init => k_is)
    (case w_Season_init_needs => k_is)
    (case w_Season_init_limits => k_is)
    (case w_Season_init_sides => k_is)
    (case a_joins_mills => k_is)
    (case l_joins_mills => k_is)
    (case c_joins_mills => k_is)
    (case k_joins_mills => k_is)
    (case a_Valley_init => k_is)
    (case i_Valley_init => k_is)
    (case l_Valley_init => k_is)
    (case c_Valley_init => k_is)
    (case k_Valley_init => k_is)
    (case v_Valley_init => k_is)
    (case a_law_season => k_is)
    (case l_law_season => k_is)
    (case c_law_season => k_is)
    (case k_law_season => k_is)
    (case a_law_sharing => k_is)
    (case l_law_sharing => k_is)
    (case c_law_sharing => k_is)
    (case k_law_sharing => k_is)
    (case a_law_valley => k_is)
    (case l_law_valley => k_is)
    (case c_law_valley => k_is)
    (case k_law_valley => k_is)
    (case a_law_fed => k_is)
    (case l_law_fed => k_is)
    (case c_law_fed => k_is)
    (case k_law_fed => k_is)
    (case a_law_world => k_is)
    (case l_law_world => k_is)
    (case c_law_world => k_is)
    (case k_law_world => k_is)
    (case a_law_drawn => k_is)
    (case l_law_drawn => k_is)
    (case c_law_drawn => k_is)
    (case k_law_drawn => k_is)
    (case a_law_free => k_is)
    (case l_law_free => k_is)
    (case c_law_free => k_is)
    (case k_law_free => k_is)
    (case a_law_small_world => k_is)
    (case l_law_small_world => k_is)
    (case c_law_small_world => k_is)
    (case k_law_small_world => k_is)
    (case a_law_wide => k_is)
    (case l_law_wide => k_is)
    (case c_law_wide => k_is)
    (case k_law_wide => k_is)
    (case a_law_spoilt => k_is)
    (case l_law_spoilt => k_is)
    (case c_law_spoilt => k_is)
    (case k_law_spoilt => k_is)
    (case a_law_numbers => k_is)
    (case l_law_numbers => k_is)
    (case c_law_numbers => k_is)
    (case k_law_numbers => k_is)
    (case a_law_kept => k_is)
    (case l_law_kept => k_is)
    (case c_law_kept => k_is)
    (case k_law_kept => k_is)
    (case a_law_shown => k_is)
    (case l_law_shown => k_is)
    (case c_law_shown => k_is)
    (case k_law_shown => k_is)
    (case a_law_subsets => k_is)
    (case l_law_subsets => k_is)
    (case c_law_subsets => k_is)
    (case k_law_subsets => k_is)
    (case a_law_lots => k_is)
    (case l_law_lots => k_is)
    (case c_law_lots => k_is)
    (case k_law_lots => k_is)
    (case a_law_levelled => k_is)
    (case l_law_levelled => k_is)
    (case c_law_levelled => k_is)
    (case k_law_levelled => k_is)
    (case a_feeding_sides => k_is)
    (case l_feeding_sides => k_is)
    (case c_feeding_sides => k_is)
    (case k_feeding_sides => k_is)
    (case a_gain => k_is)
    (case l_gain => k_is)
    (case c_gain => k_is)
    (case k_gain => k_is)
    (case a_distinct => k_is)
    (case l_distinct => k_is)
    (case c_distinct => k_is)
    (case k_distinct => k_is)
    (case a_want => k_is)
    (case l_want => k_is)
    (case c_want => k_is)
    (case k_want => k_is)
    (case a_load => k_is)
    (case l_load => k_is)
    (case c_load => k_is)
    (case k_load => k_is)
    (case a_bear => k_is)
    (case l_bear => k_is)
    (case c_bear => k_is)
    (case k_bear => k_is)
    (case a_bears_too_little => k_is)
    (case l_bears_too_little => k_is)
    (case c_bears_too_little => k_is)
    (case k_bears_too_little => k_is)
    (case a_bears_less_than_need => k_is)
    (case l_bears_less_than_need => k_is)
    (case c_bears_less_than_need => k_is)
    (case k_bears_less_than_need => k_is)
    (case a_is_obstacle => k_is)
    (case l_is_obstacle => k_is)
    (case c_is_obstacle => k_is)
    (case k_is_obstacle => k_is)
    (case a_law_single => k_is)
    (case l_law_single => k_is)
    (case c_law_single => k_is)
    (case k_law_single => k_is)
    (case a_law_singles => k_is)
    (case l_law_singles => k_is)
    (case c_law_singles => k_is)
    (case k_law_singles => k_is)
    (case a_law_whole => k_is)
    (case l_law_whole => k_is)
    (case c_law_whole => k_is)
    (case k_law_whole => k_is)
    (case a_law_right => k_is)
    (case l_law_right => k_is)
    (case c_law_right => k_is)
    (case k_law_right => k_is)
    (case a_law_both => k_is)
    (case l_law_both => k_is)
    (case c_law_both => k_is)
    (case k_law_both => k_is)
    (case a_law => k_is)
    (case l_law => k_is)
    (case c_law => k_is)
    (case k_law => k_is)
    (case z_all => k_is)
    (case z_bool => k_is)
    (case z_enumerate => k_is)
    (case z_int => k_is)
    (case z_isinstance => k_is)
    (case z_len => k_is)
    (case z_list => k_is)
    (case z_max => k_is)
    (case z_min => k_is)
    (case z_range => k_is)
    (case z_set => k_is)
    (case z_sorted => k_is)
    (case z_sum => k_is)
    (case z_tuple => k_is)
