import PyProof.Rows.All
import Wide.All
import OpenK.AllK
import Wide.FinOn
import HandS.ForMost
import HandS.Exc
import HandS.TryOnly
import HandS.TryMany
import HandS.ExcOwn
import HandS.WordsExc
import HandS.ExcInit
import HandS.ExcField
import HandS.Walk
import HandS.IsInst
import HandS.Defaults
import HandS.Wide
import HandS.CallSlots
import HandS.TupMul
import HandS.Zip
import HandS.Conv
import KE.GoesEnum
import KE.GoesZip
import HandS.TupAny
import HandS.Deep
import HandS.WideBits
import HandS.Gcd
import HandS.Flow
import HandS.Style
import HandS.EndBits
import PySem.Challenge.RW_hushedwires_k07_whole_products_form_a_gr
set_option Elab.async false
set_option linter.all false
set_option maxRecDepth 100000
/-! DL0: data as trees over the abstract heap, what a def's slots hold, how both go on. -/
namespace DL
open PySem PySem.Spec PyProof.Rows L2

/-- data -/
inductive D where
  | non
  | bl (b : Bool)
  | int (i : Int)
  | str (s : Str)
  | lst (xs : List D)
  /-- a list that is never written: the script, or one of the top -/
  | slst (xs : List D)
  | tup (xs : List D)
  | ins (c : Str) (fs : List (Str × D))

/-- addresses that no tree may lean on -/
abbrev Av := Addr → Prop
def h0 : Hp := fun _ => none
theorem sqL_h0 {K : PySem.W.Frag} {H : Hp} {a : Addr} {vs : List V} (h : SqL K h0 a vs) : SqL K H a vs := by
  rcases h with (h | ⟨o, h⟩) | h
  · exact nomatch h
  · exact nomatch h
  · exact .inr h
theorem sqT_h0 {K : PySem.W.Frag} {H : Hp} {a : Addr} {vs : List V} (h : SqT K h0 a vs) : SqT K H a vs := by
  rcases h with (h | ⟨o, h⟩) | h
  · exact nomatch h
  · exact nomatch h
  · exact .inr h
/-- a list (a tuple) that stands for good: tracked and not of those that change, or written -/
def LAt (K : PySem.W.Frag) (H : Hp) (O : Av) (a : Addr) (vs : List V) : Prop := ((∃ o, H a = some (.frz o (.lst vs))) ∧ ¬ O a) ∨ SqL K h0 a vs
def TAt (K : PySem.W.Frag) (H : Hp) (O : Av) (a : Addr) (vs : List V) : Prop := (Rd H a (.tup vs) ∧ ¬ O a) ∨ SqT K h0 a vs
theorem LAt.sq {K : PySem.W.Frag} {H : Hp} {O : Av} {a : Addr} {vs : List V} (h : LAt K H O a vs) : SqL K H a vs := by
  rcases h with h | h
  · exact .inl (.inr h.1)
  · exact sqL_h0 h
theorem TAt.sq {K : PySem.W.Frag} {H : Hp} {O : Av} {a : Addr} {vs : List V} (h : TAt K H O a vs) : SqT K H a vs := by
  rcases h with h | h
  · exact .inl h.1
  · exact sqT_h0 h
/-- all that stands and is not of those that change goes on -/
def Kp (H : Hp) (O : Av) (H' : Hp) (O' : Av) : Prop := ∀ a u, H a = some u → ¬ O a → H' a = some u ∧ ¬ O' a
theorem Kp.refl {H : Hp} {O : Av} : Kp H O H O := fun _ _ h o => ⟨h, o⟩
theorem Kp.trans {H H1 H2 : Hp} {O O1 O2 : Av} (a : Kp H O H1 O1) (b : Kp H1 O1 H2 O2) : Kp H O H2 O2 := fun x u h o => b x u (a x u h o).1 (a x u h o).2
theorem LAt.kp {K : PySem.W.Frag} {H H' : Hp} {O O' : Av} {a : Addr} {vs : List V} (k : Kp H O H' O') (h : LAt K H O a vs) : LAt K H' O' a vs := by
  rcases h with ⟨⟨o, h⟩, n⟩ | h
  · exact .inl ⟨⟨o, (k _ _ h n).1⟩, (k _ _ h n).2⟩
  · exact .inr h
theorem TAt.kp {K : PySem.W.Frag} {H H' : Hp} {O O' : Av} {a : Addr} {vs : List V} (k : Kp H O H' O') (h : TAt K H O a vs) : TAt K H' O' a vs := by
  rcases h with ⟨h | ⟨o, h⟩, n⟩ | h
  · exact .inl ⟨.inl (k _ _ h n).1, (k _ _ h n).2⟩
  · exact .inl ⟨.inr ⟨o, (k _ _ h n).1⟩, (k _ _ h n).2⟩
  · exact .inr h

/-- the value v is the data d -/
inductive Rp (K : PySem.W.Frag) (mg : Str → Option Value) (H : Hp) (O : Av) : V → D → Prop
  | non : Rp K mg H O .non .non
  | bl (b : Bool) : Rp K mg H O (.bl b) (.bl b)
  | int (i : Int) : Rp K mg H O (.int i) (.int i)
  | str (s : Str) : Rp K mg H O (.str s) (.str s)
  | lst {a : Addr} {vs : List V} {ds : List D} (h : H a = some (.lst vs)) (o : ¬ O a) (n : vs.length = ds.length) (e : ∀ (i : Nat) (v : V) (d : D), vs[i]? = some v → ds[i]? = some d → Rp K mg H O v d) : Rp K mg H O (.ref a) (.lst ds)
  | slst {a : Addr} {vs : List V} {ds : List D} (h : LAt K H O a vs) (n : vs.length = ds.length) (e : ∀ (i : Nat) (v : V) (d : D), vs[i]? = some v → ds[i]? = some d → Rp K mg H O v d) : Rp K mg H O (.ref a) (.slst ds)
  | tup {a : Addr} {vs : List V} {ds : List D} (h : TAt K H O a vs) (n : vs.length = ds.length) (e : ∀ (i : Nat) (v : V) (d : D), vs[i]? = some v → ds[i]? = some d → Rp K mg H O v d) : Rp K mg H O (.ref a) (.tup ds)
  | ins {a C dx : Addr} {c : Str} {fvs : List (Str × V)} {fs : List (Str × D)} (h : H a = some (.ins C dx fvs)) (o : ¬ O a) (g : mg c = some (.ref C)) (n : fvs.map (·.1) = fs.map (·.1))
      (e : ∀ (i : Nat) (p : Str × V) (q : Str × D), fvs[i]? = some p → fs[i]? = some q → Rp K mg H O p.2 q.2) : Rp K mg H O (.ref a) (.ins c fs)

section
variable {K : PySem.W.Frag} {mg : Str → Option Value} {H H' : Hp} {O O' : Av} {v : V} {d : D}
theorem Rp.kp (k : Kp H O H' O') (h : Rp K mg H O v d) : Rp K mg H' O' v d := by
  induction h with
  | non => exact .non
  | bl b => exact .bl b
  | int i => exact .int i
  | str s => exact .str s
  | lst h o n e ih => exact .lst (k _ _ h o).1 (k _ _ h o).2 n ih
  | slst h n e ih => exact .slst (h.kp k) n ih
  | tup h n e ih => exact .tup (h.kp k) n ih
  | ins h o g n e ih => exact .ins (k _ _ h o).1 (k _ _ h o).2 g n ih
/-- several -/
def RpL (K : PySem.W.Frag) (mg : Str → Option Value) (H : Hp) (O : Av) (vs : List V) (ds : List D) : Prop :=
  vs.length = ds.length ∧ ∀ (i : Nat) (v : V) (d : D), vs[i]? = some v → ds[i]? = some d → Rp K mg H O v d
variable {vs ws : List V} {ds es : List D}
theorem RpL.kp (k : Kp H O H' O') (h : RpL K mg H O vs ds) : RpL K mg H' O' vs ds := ⟨h.1, fun i v d a b => (h.2 i v d a b).kp k⟩
theorem RpL.nil : RpL K mg H O [] [] := ⟨rfl, fun i v d a b => by simp at a⟩
theorem RpL.cons (h : Rp K mg H O v d) (t : RpL K mg H O vs ds) : RpL K mg H O (v :: vs) (d :: ds) := ⟨by rw [List.length_cons, List.length_cons, t.1], fun i v' d' a b => by
  cases i with
  | zero =>
    have e1 : v = v' := Option.some.inj a
    have e2 : d = d' := Option.some.inj b
    subst e1; subst e2; exact h
  | succ i => exact t.2 i v' d' a b⟩
theorem RpL.uncons (h : RpL K mg H O (v :: vs) (d :: ds)) : Rp K mg H O v d ∧ RpL K mg H O vs ds :=
  ⟨h.2 0 v d rfl rfl, by have := h.1; rw [List.length_cons, List.length_cons] at this; omega, fun i v' d' a b => h.2 (i + 1) v' d' a b⟩
theorem RpL.app (h : RpL K mg H O vs ds) (h2 : RpL K mg H O ws es) : RpL K mg H O (vs ++ ws) (ds ++ es) := ⟨by rw [List.length_append, List.length_append, h.1, h2.1], fun i v d a b => by
  by_cases hi : i < vs.length
  · rw [List.getElem?_append_left hi] at a
    rw [List.getElem?_append_left (h.1 ▸ hi)] at b
    exact h.2 i v d a b
  · rw [List.getElem?_append_right (Nat.le_of_not_lt hi)] at a
    rw [List.getElem?_append_right (h.1 ▸ Nat.le_of_not_lt hi), ← h.1] at b
    exact h2.2 _ v d a b⟩
theorem RpL.get (h : RpL K mg H O vs ds) {i : Nat} {d : D} (e : ds[i]? = some d) : ∃ v, vs[i]? = some v ∧ Rp K mg H O v d := by
  have hi : i < ds.length := (List.getElem?_eq_some_iff.mp e).1
  have hv : vs[i]? = some (vs[i]'(h.1 ▸ hi)) := List.getElem?_eq_getElem _
  exact ⟨_, hv, h.2 i _ d hv e⟩
theorem RpL.getV (h : RpL K mg H O vs ds) {i : Nat} {v : V} (e : vs[i]? = some v) : ∃ d, ds[i]? = some d ∧ Rp K mg H O v d := by
  have hi : i < vs.length := (List.getElem?_eq_some_iff.mp e).1
  have hv : ds[i]? = some (ds[i]'(h.1 ▸ hi)) := List.getElem?_eq_getElem _
  exact ⟨_, hv, h.2 i v _ e hv⟩
theorem RpL.drop (n : Nat) (h : RpL K mg H O vs ds) : RpL K mg H O (vs.drop n) (ds.drop n) := ⟨by rw [List.length_drop, List.length_drop, h.1], fun i v d a b => by
  rw [List.getElem?_drop] at a b
  exact h.2 _ v d a b⟩
theorem RpL.take (n : Nat) (h : RpL K mg H O vs ds) : RpL K mg H O (vs.take n) (ds.take n) := ⟨by rw [List.length_take, List.length_take, h.1], fun i v d a b => by
  rw [List.getElem?_take] at a b
  split at a
  · rename_i hi
    rw [if_pos hi] at b
    exact h.2 _ v d a b
  · cases a⟩
theorem RpL.set (n : Nat) (h : RpL K mg H O vs ds) (r : Rp K mg H O v d) : RpL K mg H O (vs.set n v) (ds.set n d) := ⟨by rw [List.length_set, List.length_set, h.1], fun i v' d' a b => by
  by_cases hi : n = i
  · subst hi
    have l1 : n < (vs.set n v).length := (List.getElem?_eq_some_iff.mp a).1
    have l2 : n < (ds.set n d).length := (List.getElem?_eq_some_iff.mp b).1
    rw [List.length_set] at l1 l2
    rw [List.getElem?_set_self l1] at a
    rw [List.getElem?_set_self l2] at b
    cases a; cases b
    exact r
  · rw [List.getElem?_set_ne hi] at a b
    exact h.2 _ v' d' a b⟩
theorem RpL.rev (h : RpL K mg H O vs ds) : RpL K mg H O vs.reverse ds.reverse := ⟨by rw [List.length_reverse, List.length_reverse, h.1], fun i v d a b => by
  have l1 : i < vs.reverse.length := (List.getElem?_eq_some_iff.mp a).1
  rw [List.length_reverse] at l1
  rw [List.getElem?_reverse l1] at a
  rw [List.getElem?_reverse (h.1 ▸ l1), ← h.1] at b
  exact h.2 _ v d a b⟩
theorem RpL.rep (h : RpL K mg H O vs ds) : ∀ n : Nat, RpL K mg H O (List.replicate n vs).flatten (List.replicate n ds).flatten
  | 0 => .nil
  | n + 1 => by
    rw [List.replicate_succ, List.replicate_succ, List.flatten_cons, List.flatten_cons]
    exact h.app (h.rep n)
end

/-! ### what a slot holds -/
inductive Cont where
  | lst (ds : List D)
  | ins (c : Str) (fs : List (Str × D))
inductive Slot where
  | dat (d : D)
  /-- a list that this def alone holds -/
  | own (ds : List D)
  /-- the k-th thing of the caller's that this def changes -/
  | par (k : Nat) (c : Cont)
  /-- the exception that is handled -/
  | exc (c : Str) (fs : List (Str × D))
def Slot.mu : Slot → Bool
  | .dat _ => false
  | .exc _ _ => false
  | _ => true
def Slot.kd : Slot → Slot
  | .dat _ => .dat .non
  | .own _ => .own []
  | .par k _ => .par k (.lst [])
  | .exc _ _ => .dat .non
abbrev Sl := L2.St
abbrev En := List (Option Slot)
def kinds (ρ : En) : En := ρ.map (Option.map Slot.kd)
structure Base where
  H0 : Hp
  O0 : Av
  pa : List Addr
  xa : Addr := 0
  xd : Option Addr := none
  xc : Value := .none
def ContAt (K : PySem.W.Frag) (mg : Str → Option Value) (H : Hp) (O : Av) (a : Addr) : Cont → Prop
  | .lst ds => ∃ vs, H a = some (.lst vs) ∧ RpL K mg H O vs ds
  | .ins c fs => ∃ C dx fvs, H a = some (.ins C dx fvs) ∧ mg c = some (.ref C) ∧ fvs.map (·.1) = fs.map (·.1) ∧
      ∀ (i : Nat) (p : Str × V) (q : Str × D), fvs[i]? = some p → fs[i]? = some q → Rp K mg H O p.2 q.2
/-- an exception's own dict -/
def ErrAt (K : PySem.W.Frag) (mg : Str → Option Value) (H : Hp) (O : Av) (od : Option Addr) (fs : List (Str × D)) : Prop :=
  (od = none ∧ fs = []) ∨ ∃ a xfs, od = some a ∧ H a = some (.xd xfs) ∧ ¬ O a ∧ ∀ f d, fs.lookup f = some d → ∃ v, xfs.lookup f = some v ∧ Rp K mg H O v d
theorem ErrAt.kp {K : PySem.W.Frag} {mg : Str → Option Value} {H H' : Hp} {O O' : Av} {od : Option Addr} {fs : List (Str × D)} (k : Kp H O H' O') (h : ErrAt K mg H O od fs) : ErrAt K mg H' O' od fs := by
  rcases h with h | ⟨a, xfs, h1, h2, h3, h4⟩
  · exact .inl h
  · refine .inr ⟨a, xfs, h1, (k _ _ h2 h3).1, (k _ _ h2 h3).2, fun f d e => ?_⟩
    obtain ⟨v, e1, e2⟩ := h4 f d e
    exact ⟨v, e1, e2.kp k⟩
def SlotAt (K : PySem.W.Frag) (mg : Str → Option Value) (B : Base) (H : Hp) (O : Av) : Slot → V → Prop
  | .dat d, v => Rp K mg H O v d
  | .own ds, v => ∃ a, v = .ref a ∧ O a ∧ B.H0 a = none ∧ ContAt K mg H O a (.lst ds)
  | .par k c, v => ∃ a, v = .ref a ∧ O a ∧ B.pa[k]? = some a ∧ ContAt K mg H O a c
  | .exc c fs, v => v = .ref B.xa ∧ (∃ C, mg c = some (.ref C) ∧ B.xc = .ref C) ∧ ErrAt K mg H O B.xd fs
structure Rep (K : PySem.W.Frag) (mg : Str → Option Value) (B : Base) (O : Av) (ρ : En) (σ : Sl) (H : Hp) : Prop where
  len : σ.length = ρ.length
  slot : ∀ (i : Nat) (s : Slot), ρ[i]? = some (some s) → ∃ v, σ[i]? = some (some v) ∧ SlotAt K mg B H O s v
  apart : ∀ (i j : Nat) (s t : Slot) (a : Addr), ρ[i]? = some (some s) → ρ[j]? = some (some t) → s.mu = true → t.mu = true → σ[i]? = some (some (.ref a)) → σ[j]? = some (some (.ref a)) → i = j
  base : ∀ b o, B.H0 b = some o → b ∉ B.pa → H b = some o
  live : ∀ a, O a → H a ≠ none
  o0 : ∀ a, B.O0 a → O a
  b0 : ∀ a, B.O0 a → B.H0 a ≠ none
  pao : ∀ a, a ∈ B.pa → B.O0 a
/-- the addresses of what changes -/
def Mu (ρ : En) (σ : Sl) (b : Addr) : Prop := ∃ (i : Nat) (s : Slot), ρ[i]? = some (some s) ∧ s.mu = true ∧ σ[i]? = some (some (.ref b))
section
variable {K : PySem.W.Frag} {mg : Str → Option Value} {B : Base} {O O' : Av} {ρ ρ1 ρ2 : En} {σ : Sl} {H H1 H2 : Hp} {a : Addr} {c : Cont} {s : Slot} {v : V} {d : D}
theorem ContAt.kp (k : Kp H O H1 O') (e : H1 a = H a) (h : ContAt K mg H O a c) : ContAt K mg H1 O' a c := by
  cases c with
  | lst ds =>
    obtain ⟨vs, h1, h2⟩ := h
    exact ⟨vs, e.trans h1, h2.kp k⟩
  | ins c fs =>
    obtain ⟨C, dx, fvs, h1, h2, h3, h4⟩ := h
    exact ⟨C, dx, fvs, e.trans h1, h2, h3, fun i p q x y => (h4 i p q x y).kp k⟩
theorem kinds_get {i : Nat} : (kinds ρ)[i]? = (ρ[i]?).map (Option.map Slot.kd) := List.getElem?_map
theorem mu_kd {s t : Slot} (h : s.kd = t.kd) : s.mu = t.mu := by
  cases s <;> cases t <;> first | rfl | (exact nomatch h)
theorem mu_of_kinds (h : kinds ρ1 = kinds ρ) {b : Addr} (m : Mu ρ1 σ b) : Mu ρ σ b := by
  obtain ⟨i, s, h1, h2, h3⟩ := m
  have e := congrArg (fun l => l[i]?) h
  simp only [kinds_get, h1] at e
  cases q : ρ[i]? with
  | none => rw [q] at e; cases e
  | some o =>
    rw [q] at e
    cases o with
    | none => cases e
    | some t =>
      have e2 : s.kd = t.kd := by simpa using e
      exact ⟨i, t, q, mu_kd e2 ▸ h2, h3⟩
theorem Rep.mu_O (R : Rep K mg B O ρ σ H) {b : Addr} (m : Mu ρ σ b) : O b := by
  obtain ⟨i, s, h1, h2, h3⟩ := m
  obtain ⟨v, h4, h5⟩ := R.slot i s h1
  rw [h3] at h4
  cases h4
  cases s with
  | dat d => cases h2
  | exc c fs => cases h2
  | own ds => obtain ⟨a, e, o, _⟩ := h5; cases e; exact o
  | par k c => obtain ⟨a, e, o, _⟩ := h5; cases e; exact o
/-- an expression's going on -/
structure Go (K : PySem.W.Frag) (mg : Str → Option Value) (B : Base) (O : Av) (σ : Sl) (ρ : En) (H : Hp) (ρ' : En) (H' : Hp) : Prop where
  kd : kinds ρ' = kinds ρ
  fr : ∀ b o, H b = some o → ¬ Mu ρ σ b → H' b = some o
  rep : Rep K mg B O ρ' σ H'
theorem Go.refl (R : Rep K mg B O ρ σ H) : Go K mg B O σ ρ H ρ H := ⟨rfl, fun _ _ h _ => h, R⟩
theorem Go.trans (a : Go K mg B O σ ρ H ρ1 H1) (b : Go K mg B O σ ρ1 H1 ρ2 H2) : Go K mg B O σ ρ H ρ2 H2 :=
  ⟨b.kd.trans a.kd, fun x o h m => b.fr x o (a.fr x o h m) fun z => m (mu_of_kinds a.kd z), b.rep⟩
theorem Go.kp (R : Rep K mg B O ρ σ H) (g : Go K mg B O σ ρ H ρ1 H1) : Kp H O H1 O := fun x u h o => ⟨g.fr x u h fun m => o (R.mu_O m), o⟩
theorem Same.kp (e : Same H H1) : Kp H O H1 O := fun x u h o => ⟨e x u h, o⟩
theorem Rep.same (e : Same H H1) (R : Rep K mg B O ρ σ H) : Rep K mg B O ρ σ H1 where
  len := R.len
  slot := fun i s h => by
    obtain ⟨v, h1, h2⟩ := R.slot i s h
    refine ⟨v, h1, ?_⟩
    cases s with
    | dat d => exact Rp.kp (Same.kp e) h2
    | exc c fs => exact ⟨h2.1, h2.2.1, h2.2.2.kp (Same.kp e)⟩
    | own ds =>
      obtain ⟨a, e1, o, n, c⟩ := h2
      refine ⟨a, e1, o, n, c.kp (Same.kp e) ?_⟩
      obtain ⟨vs, q, _⟩ := c
      rw [q, e _ _ q]
    | par k c =>
      obtain ⟨a, e1, o, n, c'⟩ := h2
      refine ⟨a, e1, o, n, c'.kp (Same.kp e) ?_⟩
      cases c with
      | lst ds => obtain ⟨vs, q, _⟩ := c'; rw [q, e _ _ q]
      | ins c fs => obtain ⟨C, dx, fvs, q, _⟩ := c'; rw [q, e _ _ q]
  apart := R.apart
  base := fun b o h n => e _ _ (R.base b o h n)
  live := fun a o h => by
    cases q : H a with
    | none => exact R.live a o q
    | some u => rw [e _ _ q] at h; cases h
  o0 := R.o0
  b0 := R.b0
  pao := R.pao
theorem Go.same (R : Rep K mg B O ρ σ H) (e : Same H H1) : Go K mg B O σ ρ H ρ H1 := ⟨rfl, fun b o h _ => e b o h, R.same e⟩
theorem same_new {p : Addr} {o : HO} (h : H p = none) : Same H (upd H p o) := fun b x e => by
  rw [upd_ne (ne_of_none e h)]
  exact e
end
end DL

set_option Elab.async false
set_option linter.all false
set_option maxRecDepth 100000
/-! DL1: expressions: what they give of data. -/
namespace DL
open PySem PySem.Spec PyProof.Rows L2

inductive R (α : Type) where
  | ok (a : α) (ρ : En)
  | err (c : Str) (fs : List (Str × D)) (ρ : En)
  | stuck
def R.bind {α β : Type} (r : R α) (k : α → En → R β) : R β := match r with
  | .ok a ρ => k a ρ
  | .err c fs ρ => .err c fs ρ
  | .stuck => .stuck
def R.of {α : Type} (o : Option α) (ρ : En) : R α := match o with
  | some a => .ok a ρ
  | none => .stuck
def RPost {α : Type} (r : R α) (ok : α → En → Prop) (er : Str → List (Str × D) → En → Prop) : Prop := match r with
  | .ok a ρ => ok a ρ
  | .err c fs ρ => er c fs ρ
  | .stuck => False
theorem rpost_bind {α β : Type} {r : R α} {k : α → En → R β} {ok : β → En → Prop} {er : Str → List (Str × D) → En → Prop} :
    RPost (r.bind k) ok er = RPost r (fun a ρ => RPost (k a ρ) ok er) er := by
  cases r <;> rfl
theorem RPost.mono {α : Type} {r : R α} {ok ok' : α → En → Prop} {er er' : Str → List (Str × D) → En → Prop} (p : RPost r ok er) (h1 : ∀ a ρ, ok a ρ → ok' a ρ) (h2 : ∀ c fs ρ, er c fs ρ → er' c fs ρ) : RPost r ok' er' := by
  cases r with
  | ok a ρ => exact h1 a ρ p
  | err c fs ρ => exact h2 c fs ρ p
  | stuck => exact p
theorem rpost_of {α : Type} {o : Option α} {ρ : En} {ok : α → En → Prop} {er : Str → List (Str × D) → En → Prop} (p : RPost (R.of o ρ) ok er) : ∃ a, o = some a ∧ ok a ρ := by
  cases o with
  | none => exact False.elim p
  | some a => exact ⟨a, rfl, p⟩
abbrev F := En → R D
abbrev FB := En → R Bool
abbrev FL := En → R (List D)
/-- what is wished of exceptions, and which grounds are spoken of -/
structure Wi where
  w : WX
  b : Base → Prop
def Wi.BB (W : Wi) := { B : Base // W.b B }
def ErE (X : Cx) (B : Base) (W : Wi) (O : Av) (σ : Sl) (ρ : En) (H : Hp) : Str → List (Str × D) → En → Prop := fun c fs ρ' =>
  ∀ C od H', Go X.K X.mg B O σ ρ H ρ' H' → X.mg c = some (.ref C) → ErrAt X.K X.mg H' O od fs → W.w (.ref C) od σ H'
theorem ErE.on {X : Cx} {B : Base} {W : Wi} {O : Av} {σ : Sl} {ρ ρ1 : En} {H H1 : Hp} (g : Go X.K X.mg B O σ ρ H ρ1 H1) : ∀ c fs ρ', ErE X B W O σ ρ H c fs ρ' → ErE X B W O σ ρ1 H1 c fs ρ' :=
  fun c fs ρ' e C od H' g' => e C od H' (g.trans g')

/-- the expression e gives the data that f tells -/
def DE (X : Cx) (W : Wi) (e : Expr) (f : F) : Prop := ∃ t : TE, PE X e t ∧ ∀ (B : W.BB) (ρ : En) (σ : Sl) (H : Hp) (O : Av) (Q : VK), Rep X.K X.mg B.1 O ρ σ H →
  RPost (f ρ) (fun d ρ' => ∀ v H', Go X.K X.mg B.1 O σ ρ H ρ' H' → Rp X.K X.mg H' O v d → Q v H') (ErE X B.1 W O σ ρ H) → t σ H Q
def DT (X : Cx) (W : Wi) (e : Expr) (f : FB) : Prop := ∃ t : TT, PT X e t ∧ ∀ (B : W.BB) (ρ : En) (σ : Sl) (H : Hp) (O : Av) (Q : Bool → Hp → Prop), Rep X.K X.mg B.1 O ρ σ H →
  RPost (f ρ) (fun b ρ' => ∀ H', Go X.K X.mg B.1 O σ ρ H ρ' H' → Q b H') (ErE X B.1 W O σ ρ H) → t σ H Q
def DW (X : Cx) (W : Wi) (e : Expr) (f : FB) : Prop := ∃ t : TT, PW X e t ∧ ∀ (B : W.BB) (ρ : En) (σ : Sl) (H : Hp) (O : Av) (Q : Bool → Hp → Prop), Rep X.K X.mg B.1 O ρ σ H →
  RPost (f ρ) (fun b ρ' => ∀ H', Go X.K X.mg B.1 O σ ρ H ρ' H' → Q b H') (ErE X B.1 W O σ ρ H) → t σ H Q
def DA (X : Cx) (W : Wi) (es : List Expr) (f : FL) : Prop := ∃ t : TA, PA X es t ∧ ∀ (B : W.BB) (ρ : En) (σ : Sl) (H : Hp) (O : Av) (Q : List V → Hp → Prop), Rep X.K X.mg B.1 O ρ σ H →
  RPost (f ρ) (fun ds ρ' => ∀ vs H', Go X.K X.mg B.1 O σ ρ H ρ' H' → RpL X.K X.mg H' O vs ds → Q vs H') (ErE X B.1 W O σ ρ H) → t σ H Q

/-! ### what the tellers are -/
def fVar (i : Nat) : F := fun ρ => match ρ[i]? with
  | some (some (.dat d)) => .ok d ρ
  | _ => .stuck
def fC (d : D) : F := fun ρ => .ok d ρ
def f1 (g : D → Option D) (fa : F) : F := fun ρ => (fa ρ).bind fun a ρ1 => R.of (g a) ρ1
def f2 (g : D → D → Option D) (fa fb : F) : F := fun ρ => (fa ρ).bind fun a ρ1 => (fb ρ1).bind fun b ρ2 => R.of (g a b) ρ2
def t2 (g : D → D → Option D) (fa fb : F) : FB := fun ρ => (fa ρ).bind fun a ρ1 => (fb ρ1).bind fun b ρ2 => match g a b with
  | some (.bl k) => .ok k ρ2
  | _ => .stuck
/-- a op b op' c -/
def f3 (g g' : D → D → Option D) (fa fb fc : F) : F := fun ρ => (fa ρ).bind fun a ρ1 => (fb ρ1).bind fun b ρ2 => match g a b with
  | some (.bl true) => (fc ρ2).bind fun c ρ3 => R.of (g' b c) ρ3
  | some (.bl false) => .ok (.bl false) ρ2
  | _ => .stuck
def asB (f : F) : FB := fun ρ => (f ρ).bind fun a ρ1 => match a with
  | .bl k => .ok k ρ1
  | _ => .stuck
def D.truth : D → Option Bool
  | .non => some false
  | .bl b => some b
  | .int i => some (i != 0)
  | .str y => if y.length ≤ sizeLine then some ((y.length : Int) != 0) else none
  | .lst xs => some (!xs.isEmpty)
  | .slst xs => some (!xs.isEmpty)
  | .tup xs => some (!xs.isEmpty)
  | .ins _ _ => none
def fTru (f : F) : FB := fun ρ => (f ρ).bind fun a ρ1 => R.of a.truth ρ1
def fAnd (a b : FB) : FB := fun ρ => (a ρ).bind fun k ρ1 => if k = true then b ρ1 else .ok false ρ1
def fOr (a b : FB) : FB := fun ρ => (a ρ).bind fun k ρ1 => if k = true then .ok true ρ1 else b ρ1
def fNot (a : FB) : FB := fun ρ => (a ρ).bind fun k ρ1 => .ok (!k) ρ1
def vAnd (a b : F) : F := fun ρ => (a ρ).bind fun k ρ1 => match k with
  | .bl true => b ρ1
  | .bl false => .ok (.bl false) ρ1
  | _ => .stuck
def vOr (a b : F) : F := fun ρ => (a ρ).bind fun k ρ1 => match k with
  | .bl true => .ok (.bl true) ρ1
  | .bl false => b ρ1
  | _ => .stuck
def vNot (a : FB) : F := fun ρ => (a ρ).bind fun k ρ1 => .ok (.bl (!k)) ρ1
def fIf (c : FB) (a b : F) : F := fun ρ => (c ρ).bind fun k ρ1 => if k = true then a ρ1 else b ρ1
def fNil : FL := fun ρ => .ok [] ρ
def fCons (a : F) (b : FL) : FL := fun ρ => (a ρ).bind fun x ρ1 => (b ρ1).bind fun xs ρ2 => .ok (x :: xs) ρ2
def fTup (a : FL) : F := fun ρ => (a ρ).bind fun xs ρ1 => if xs.length ≤ sizeLine then .ok (.tup xs) ρ1 else .stuck
def fLst (a : FL) : F := fun ρ => (a ρ).bind fun xs ρ1 => if xs.length ≤ sizeLine then .ok (.lst xs) ρ1 else .stuck
def fB (g : List D → Option D) (a : FL) : F := fun ρ => (a ρ).bind fun xs ρ1 => R.of (g xs) ρ1

/-! ### operations on values -/
def Op1 (X : Cx) (f : Value → Sem Value) (g : D → Option D) : Prop := ∃ r : V → Hp → VK → Prop, UnR X f r ∧ ∀ (H : Hp) (O : Av) (x : V) (a d : D) (Q : VK), (∀ z, O z → H z ≠ none) →
  Rp X.K X.mg H O x a → g a = some d → (∀ v H', Same H H' → Rp X.K X.mg H' O v d → Q v H') → r x H Q
def Op2 (X : Cx) (f : Value → Value → Sem Value) (g : D → D → Option D) : Prop := ∃ r : R2, OpR X f r ∧ ∀ (H : Hp) (O : Av) (x y : V) (a b d : D) (Q : VK), (∀ z, O z → H z ≠ none) →
  Rp X.K X.mg H O x a → Rp X.K X.mg H O y b → g a b = some d → (∀ v H', Same H H' → Rp X.K X.mg H' O v d → Q v H') → r x y H Q
def Ix2 (X : Cx) (g : D → D → Option D) : Prop := ∃ r : R2, IxR X r ∧ ∀ (H : Hp) (O : Av) (x y : V) (a b d : D) (Q : VK), (∀ z, O z → H z ≠ none) →
  Rp X.K X.mg H O x a → Rp X.K X.mg H O y b → g a b = some d → (∀ v H', Same H H' → Rp X.K X.mg H' O v d → Q v H') → r x y H Q
def CallV (X : Cx) (f : Value) (g : List D → Option D) : Prop := ∃ r : List V → Hp → VK → Prop, CallR X f r ∧ ∀ (H : Hp) (O : Av) (xs : List V) (as : List D) (d : D) (Q : VK), (∀ z, O z → H z ≠ none) →
  RpL X.K X.mg H O xs as → g as = some d → (∀ v H', Same H H' → Rp X.K X.mg H' O v d → Q v H') → r xs H Q
/-- the first that tells -/
def alt2 {α β γ : Type} (g g' : α → β → Option γ) : α → β → Option γ := fun a b => match g a b with
  | some d => some d
  | none => g' a b
def alt1 {α γ : Type} (g g' : α → Option γ) : α → Option γ := fun a => match g a with
  | some d => some d
  | none => g' a
section
variable {X : Cx} {W : Wi} {e a b c : Expr} {fa fb fc : F} {pos : Pos}
theorem Op2.alt {f : Value → Value → Sem Value} {g g' : D → D → Option D} (h : Op2 X f g) (h' : Op2 X f g') : Op2 X f (alt2 g g') := by
  obtain ⟨r, h1, h2⟩ := h
  obtain ⟨r', h1', h2'⟩ := h'
  refine ⟨_, OpR.or h1 h1', fun H O x y a b d Q hO rx ry e q => ?_⟩
  unfold alt2 at e
  cases q1 : g a b with
  | some d' =>
    rw [q1] at e
    have e : some d' = some d := e
    cases e
    exact .inl (h2 H O x y a b _ Q hO rx ry q1 q)
  | none =>
    rw [q1] at e
    exact .inr (h2' H O x y a b d Q hO rx ry e q)
theorem Ix2.alt {g g' : D → D → Option D} (h : Ix2 X g) (h' : Ix2 X g') : Ix2 X (alt2 g g') := by
  obtain ⟨r, h1, h2⟩ := h
  obtain ⟨r', h1', h2'⟩ := h'
  refine ⟨_, IxR.or h1 h1', fun H O x y a b d Q hO rx ry e q => ?_⟩
  unfold alt2 at e
  cases q1 : g a b with
  | some d' =>
    rw [q1] at e
    have e : some d' = some d := e
    cases e
    exact .inl (h2 H O x y a b _ Q hO rx ry q1 q)
  | none =>
    rw [q1] at e
    exact .inr (h2' H O x y a b d Q hO rx ry e q)
theorem CallV.alt {f : Value} {g g' : List D → Option D} (h : CallV X f g) (h' : CallV X f g') : CallV X f (alt1 g g') := by
  obtain ⟨r, h1, h2⟩ := h
  obtain ⟨r', h1', h2'⟩ := h'
  refine ⟨_, CallR.or h1 h1', fun H O x a d Q hO rx e q => ?_⟩
  unfold alt1 at e
  cases q1 : g a with
  | some d' =>
    rw [q1] at e
    have e : some d' = some d := e
    cases e
    exact .inl (h2 H O x a _ Q hO rx q1 q)
  | none =>
    rw [q1] at e
    exact .inr (h2' H O x a d Q hO rx e q)

/-! ### rules -/
theorem de_var (i : Nat) {x : Str} (hN : X.N[i]? = some x := by rfl) (hv : Vis X.env.scope x := by first | exact Or.inl rfl | exact Or.inr (Or.inl rfl) | exact Or.inr (Or.inr rfl)) (hd : (x == ("__debug__" : Str)) = false := by decide)
    (hcd : (x == ("__classdict__" : Str)) = false := by decide) : DE X W (.Name x pos) (fVar i) := by
  refine ⟨_, pe_var hN hv hd hcd, fun B ρ σ H O Q R p => ?_⟩
  unfold fVar at p
  split at p
  · rename_i d h
    obtain ⟨v, h1, h2⟩ := R.slot i _ h
    exact ⟨v, h1, p v H (Go.refl R) h2⟩
  · exact p.elim
theorem de_int {i : Int} {j} : DE X W (.Constant (.int i) j pos) (fC (.int i)) := ⟨_, pe_int, fun B ρ σ H O Q R p => p _ _ (Go.refl R) (.int i)⟩
theorem de_bl {i : Bool} {j} : DE X W (.Constant (.bool i) j pos) (fC (.bl i)) := ⟨_, pe_bl, fun B ρ σ H O Q R p => p _ _ (Go.refl R) (.bl i)⟩
theorem de_non {j} : DE X W (.Constant .none j pos) (fC .non) := ⟨_, pe_non, fun B ρ σ H O Q R p => p _ _ (Go.refl R) .non⟩
theorem de_str {i : Str} {j} : DE X W (.Constant (.str i) j pos) (fC (.str i)) := ⟨_, pe_str, fun B ρ σ H O Q R p => p _ _ (Go.refl R) (.str i)⟩
/-- a thing of the top: a constant, a written tuple or list -/
theorem de_glob {x : Str} {v : V} {u : Value} {d : D} (hg : Gl X x) (hm : X.mg x = some u) (r : RelV v u) (hr : ∀ H O, (∀ z, O z → H z ≠ none) → Rp X.K X.mg H O v d) (hd : (x == ("__debug__" : Str)) = false := by decide) : DE X W (.Name x pos) (fC d) :=
  ⟨_, pe_glob hg hm r hd, fun B ρ σ H O Q R p => p _ _ (Go.refl R) (hr _ _ R.live)⟩
theorem de_un {op : UnaryOp} {g : D → Option D} (ho : Op1 X (unaryOp op) g) (ha : DE X W a fa) : DE X W (.UnaryOp op a pos) (f1 g fa) := by
  obtain ⟨r, h1, h2⟩ := ho
  obtain ⟨ta, pa, ia⟩ := ha
  refine ⟨_, pe_un h1 pa, fun B ρ σ H O Q R p => ?_⟩
  unfold f1 at p
  rw [rpost_bind] at p
  refine ia B ρ σ H O _ R (p.mono (fun d1 ρ1 p x H1 g1 r1 => ?_) fun _ _ _ e => e)
  obtain ⟨d, e, p⟩ := rpost_of p
  exact h2 H1 O x d1 d Q g1.rep.live r1 e fun v H2 s r2 => p v H2 (g1.trans (.same g1.rep s)) r2
theorem de_bin {op : Operator} {g : D → D → Option D} (ho : Op2 X (binaryOp op) g) (ha : DE X W a fa) (hb : DE X W b fb) : DE X W (.BinOp a op b pos) (f2 g fa fb) := by
  obtain ⟨r, h1, h2⟩ := ho
  obtain ⟨ta, pa, ia⟩ := ha
  obtain ⟨tb, pb, ib⟩ := hb
  refine ⟨_, pe_op h1 pa pb, fun B ρ σ H O Q R p => ?_⟩
  unfold f2 at p
  rw [rpost_bind] at p
  refine ia B ρ σ H O _ R (p.mono (fun d1 ρ1 p x H1 g1 r1 => ?_) fun _ _ _ e => e)
  rw [rpost_bind] at p
  refine ib B ρ1 σ H1 O _ g1.rep (p.mono (fun d2 ρ2 p y H2 g2 r2 => ?_) (ErE.on g1))
  obtain ⟨d, e, p⟩ := rpost_of p
  exact h2 H2 O x y d1 d2 d Q g2.rep.live (r1.kp (g2.kp g1.rep)) r2 e fun v H3 s r3 => p v H3 ((g1.trans g2).trans (.same g2.rep s)) r3
theorem de_ix {g : D → D → Option D} (ho : Ix2 X g) (ha : DE X W a fa) (hb : DE X W b fb) (hs : PlainIx b := by exact fun _ _ => rfl) : DE X W (.Subscript a b pos) (f2 g fa fb) := by
  obtain ⟨r, h1, h2⟩ := ho
  obtain ⟨ta, pa, ia⟩ := ha
  obtain ⟨tb, pb, ib⟩ := hb
  refine ⟨_, pe_ix h1 pa pb hs, fun B ρ σ H O Q R p => ?_⟩
  unfold f2 at p
  rw [rpost_bind] at p
  refine ia B ρ σ H O _ R (p.mono (fun d1 ρ1 p x H1 g1 r1 => ?_) fun _ _ _ e => e)
  rw [rpost_bind] at p
  refine ib B ρ1 σ H1 O _ g1.rep (p.mono (fun d2 ρ2 p y H2 g2 r2 => ?_) (ErE.on g1))
  obtain ⟨d, e, p⟩ := rpost_of p
  exact h2 H2 O x y d1 d2 d Q g2.rep.live (r1.kp (g2.kp g1.rep)) r2 e fun v H3 s r3 => p v H3 ((g1.trans g2).trans (.same g2.rep s)) r3
theorem de_cmp {op : CmpOp} {g : D → D → Option D} (ho : Op2 X (compareOp op) g) (ha : DE X W a fa) (hb : DE X W b fb) (hm : behindInMarks op b = false := by first | exact nomark _ | with_unfolding_all rfl) : DE X W (.Compare a [op] [b] pos) (f2 g fa fb) := by
  obtain ⟨r, h1, h2⟩ := ho
  obtain ⟨ta, pa, ia⟩ := ha
  obtain ⟨tb, pb, ib⟩ := hb
  refine ⟨_, pe_cmpR h1 pa pb hm, fun B ρ σ H O Q R p => ?_⟩
  unfold f2 at p
  rw [rpost_bind] at p
  refine ia B ρ σ H O _ R (p.mono (fun d1 ρ1 p x H1 g1 r1 => ?_) fun _ _ _ e => e)
  rw [rpost_bind] at p
  refine ib B ρ1 σ H1 O _ g1.rep (p.mono (fun d2 ρ2 p y H2 g2 r2 => ?_) (ErE.on g1))
  obtain ⟨d, e, p⟩ := rpost_of p
  exact h2 H2 O x y d1 d2 d Q g2.rep.live (r1.kp (g2.kp g1.rep)) r2 e fun v H3 s r3 => p v H3 ((g1.trans g2).trans (.same g2.rep s)) r3
theorem Rp.bl_inv {K : PySem.W.Frag} {mg : Str → Option Value} {H : Hp} {O : Av} {v : V} {k : Bool} (h : Rp K mg H O v (.bl k)) : v = .bl k := by
  cases h; rfl
theorem dt_cmp {op : CmpOp} {g : D → D → Option D} (ho : Op2 X (compareOp op) g) (ha : DE X W a fa) (hb : DE X W b fb) (hm : behindInMarks op b = false := by first | exact nomark _ | with_unfolding_all rfl) : DT X W (.Compare a [op] [b] pos) (t2 g fa fb) := by
  obtain ⟨r, h1, h2⟩ := ho
  obtain ⟨ta, pa, ia⟩ := ha
  obtain ⟨tb, pb, ib⟩ := hb
  refine ⟨_, pt_cmpR h1 pa pb hm, fun B ρ σ H O Q R p => ?_⟩
  unfold t2 at p
  rw [rpost_bind] at p
  refine ia B ρ σ H O _ R (p.mono (fun d1 ρ1 p x H1 g1 r1 => ?_) fun _ _ _ e => e)
  rw [rpost_bind] at p
  refine ib B ρ1 σ H1 O _ g1.rep (p.mono (fun d2 ρ2 p y H2 g2 r2 => ?_) (ErE.on g1))
  split at p
  · rename_i k e
    refine h2 H2 O x y d1 d2 _ _ g2.rep.live (r1.kp (g2.kp g1.rep)) r2 e fun v H3 s r3 => ?_
    rw [r3.bl_inv]
    exact ⟨k, rfl, p H3 ((g1.trans g2).trans (.same g2.rep s))⟩
  · exact p.elim
theorem chain_ok {g g' : D → D → Option D} {r r' : R2} {op op' : CmpOp} (h1 : OpR X (compareOp op) r) (h1' : OpR X (compareOp op') r')
    (h2 : ∀ (H : Hp) (O : Av) (x y : V) (a b d : D) (Q : VK), (∀ z, O z → H z ≠ none) → Rp X.K X.mg H O x a → Rp X.K X.mg H O y b → g a b = some d → (∀ v H', Same H H' → Rp X.K X.mg H' O v d → Q v H') → r x y H Q)
    (h2' : ∀ (H : Hp) (O : Av) (x y : V) (a b d : D) (Q : VK), (∀ z, O z → H z ≠ none) → Rp X.K X.mg H O x a → Rp X.K X.mg H O y b → g' a b = some d → (∀ v H', Same H H' → Rp X.K X.mg H' O v d → Q v H') → r' x y H Q)
    {ta tb tc : TE}
    (ia : ∀ (B : W.BB) (ρ : En) (σ : Sl) (H : Hp) (O : Av) (Q : VK), Rep X.K X.mg B.1 O ρ σ H → RPost (fa ρ) (fun d ρ' => ∀ v H', Go X.K X.mg B.1 O σ ρ H ρ' H' → Rp X.K X.mg H' O v d → Q v H') (ErE X B.1 W O σ ρ H) → ta σ H Q)
    (ib : ∀ (B : W.BB) (ρ : En) (σ : Sl) (H : Hp) (O : Av) (Q : VK), Rep X.K X.mg B.1 O ρ σ H → RPost (fb ρ) (fun d ρ' => ∀ v H', Go X.K X.mg B.1 O σ ρ H ρ' H' → Rp X.K X.mg H' O v d → Q v H') (ErE X B.1 W O σ ρ H) → tb σ H Q)
    (ic : ∀ (B : W.BB) (ρ : En) (σ : Sl) (H : Hp) (O : Av) (Q : VK), Rep X.K X.mg B.1 O ρ σ H → RPost (fc ρ) (fun d ρ' => ∀ v H', Go X.K X.mg B.1 O σ ρ H ρ' H' → Rp X.K X.mg H' O v d → Q v H') (ErE X B.1 W O σ ρ H) → tc σ H Q)
    (B : W.BB) (ρ : En) (σ : Sl) (H : Hp) (O : Av) (Q : VK) (R : Rep X.K X.mg B.1 O ρ σ H)
    (p : RPost (f3 g g' fa fb fc ρ) (fun d ρ' => ∀ v H', Go X.K X.mg B.1 O σ ρ H ρ' H' → Rp X.K X.mg H' O v d → Q v H') (ErE X B.1 W O σ ρ H)) : tChain r r' ta tb tc σ H Q := by
  unfold f3 at p
  rw [rpost_bind] at p
  refine ia B ρ σ H O _ R (p.mono (fun d1 ρ1 p x H1 g1 r1 => ?_) fun _ _ _ e => e)
  rw [rpost_bind] at p
  refine ib B ρ1 σ H1 O _ g1.rep (p.mono (fun d2 ρ2 p y H2 g2 r2 => ?_) (ErE.on g1))
  split at p
  · rename_i e
    refine h2 H2 O x y d1 d2 _ _ g2.rep.live (r1.kp (g2.kp g1.rep)) r2 e fun v H3 s r3 => ?_
    rw [r3.bl_inv]
    refine ⟨true, rfl, ?_⟩
    rw [if_pos rfl]
    rw [rpost_bind] at p
    have g3 := (g1.trans g2).trans (.same g2.rep s)
    refine ic B ρ2 σ H3 O _ g3.rep (p.mono (fun d4 ρ4 p z H4 g4 r4 => ?_) (ErE.on g3))
    obtain ⟨d, e, p⟩ := rpost_of p
    exact h2' H4 O y z d2 d4 d Q g4.rep.live ((r2.kp (Same.kp s)).kp (g4.kp g3.rep)) r4 e fun v H5 s5 r5 => p v H5 ((g3.trans g4).trans (.same g4.rep s5)) r5
  · rename_i e
    refine h2 H2 O x y d1 d2 _ _ g2.rep.live (r1.kp (g2.kp g1.rep)) r2 e fun v H3 s r3 => ?_
    rw [r3.bl_inv]
    refine ⟨false, rfl, ?_⟩
    rw [if_neg Bool.false_ne_true]
    exact p _ H3 ((g1.trans g2).trans (.same g2.rep s)) (.bl false)
  · exact p.elim
theorem de_chain {op op' : CmpOp} {g g' : D → D → Option D} (ho : Op2 X (compareOp op) g) (ho' : Op2 X (compareOp op') g') (ha : DE X W a fa) (hb : DE X W b fb) (hc : DE X W c fc) (hm : lastMarks [op, op'] [b, c] = false := by with_unfolding_all rfl) :
    DE X W (.Compare a [op, op'] [b, c] pos) (f3 g g' fa fb fc) := by
  obtain ⟨r, h1, h2⟩ := ho
  obtain ⟨r', h1', h2'⟩ := ho'
  obtain ⟨ta, pa, ia⟩ := ha
  obtain ⟨tb, pb, ib⟩ := hb
  obtain ⟨tc, pc, ic⟩ := hc
  exact ⟨_, pe_chain h1 h1' pa pb pc hm, fun B ρ σ H O Q R p => chain_ok h1 h1' h2 h2' ia ib ic B ρ σ H O Q R p⟩
theorem dt_chain {op op' : CmpOp} {g g' : D → D → Option D} (ho : Op2 X (compareOp op) g) (ho' : Op2 X (compareOp op') g') (ha : DE X W a fa) (hb : DE X W b fb) (hc : DE X W c fc) (hm : lastMarks [op, op'] [b, c] = false := by with_unfolding_all rfl) :
    DT X W (.Compare a [op, op'] [b, c] pos) (asB (f3 g g' fa fb fc)) := by
  obtain ⟨r, h1, h2⟩ := ho
  obtain ⟨r', h1', h2'⟩ := ho'
  obtain ⟨ta, pa, ia⟩ := ha
  obtain ⟨tb, pb, ib⟩ := hb
  obtain ⟨tc, pc, ic⟩ := hc
  refine ⟨_, pt_chain h1 h1' pa pb pc hm, fun B ρ σ H O Q R p => chain_ok h1 h1' h2 h2' ia ib ic B ρ σ H O _ R ?_⟩
  unfold asB at p
  rw [rpost_bind] at p
  refine p.mono (fun d ρ' p v H' g r => ?_) fun _ _ _ e => e
  split at p
  · rename_i k
    rw [r.bl_inv]
    exact ⟨k, rfl, p H' g⟩
  · exact p.elim
theorem tru_of {K : PySem.W.Frag} {mg : Str → Option Value} {H : Hp} {O : Av} {v : V} {d : D} {k : Bool} (h : Rp K mg H O v d) (e : d.truth = some k) : TruV K v H k := by
  have len : ∀ {vs : List V} {ds : List D}, vs.length = ds.length → vs.isEmpty = ds.isEmpty := fun {vs ds} h => by
    cases vs <;> cases ds <;> first | rfl | (exact nomatch h)
  cases h with
  | non => cases e; exact (rfl : false = false)
  | bl b => cases e; exact (rfl : k = k)
  | int i => cases e; exact (rfl : (i != 0) = (i != 0))
  | str s =>
    unfold D.truth at e
    dsimp only at e
    split at e
    · rename_i h
      cases e
      exact ⟨h, rfl⟩
    · cases e
  | lst h o n _ => cases e; exact .inl ⟨_, .inl (.inl h), by rw [len n]⟩
  | slst h n _ => cases e; exact .inl ⟨_, h.sq, by rw [len n]⟩
  | tup h n _ => cases e; exact .inr (.inl ⟨_, h.sq, by rw [len n]⟩)
  | ins _ _ _ _ _ => cases e
/-- a value as a test (a name, a call, a subscript ..) -/
theorem dt_tru (ha : DE X W a fa) (he : ∀ whole, isTrue a X.env whole = (do let v ← whole; standAt a.pos; holding [v] (truthy v)) := by exact fun _ => rfl) : DT X W a (fTru fa) := by
  obtain ⟨ta, pa, ia⟩ := ha
  refine ⟨_, pt_truth pa he, fun B ρ σ H O Q R p => ?_⟩
  unfold fTru at p
  rw [rpost_bind] at p
  refine ia B ρ σ H O _ R (p.mono (fun d1 ρ1 p x H1 g1 r1 => ?_) fun _ _ _ e => e)
  obtain ⟨k, e, p⟩ := rpost_of p
  exact ⟨k, tru_of r1 e, p H1 g1⟩
variable {ta tb : FB} {rest : List Expr}
theorem DW.dt (h : DW X W a ta) : DT X W a ta := by
  obtain ⟨t, p, i⟩ := h
  exact ⟨t, p.pt, i⟩
theorem dw_and1 (ha : DT X W a ta) : DW X W (.BoolOp .And [a] pos) ta := by
  obtain ⟨t, p, i⟩ := ha
  exact ⟨t, pw_and1 p, i⟩
theorem dw_or1 (ha : DT X W a ta) : DW X W (.BoolOp .Or [a] pos) ta := by
  obtain ⟨t, p, i⟩ := ha
  exact ⟨t, pw_or1 p, i⟩
theorem dw_and (ha : DT X W a ta) (hb : DW X W (.BoolOp .And (b :: rest) pos) tb) : DW X W (.BoolOp .And (a :: b :: rest) pos) (fAnd ta tb) := by
  obtain ⟨t, pa, ia⟩ := ha
  obtain ⟨u, pb, ib⟩ := hb
  refine ⟨_, pw_and pa pb, fun B ρ σ H O Q R p => ?_⟩
  unfold fAnd at p
  rw [rpost_bind] at p
  refine ia B ρ σ H O _ R (p.mono (fun k ρ1 p H1 g1 => ?_) fun _ _ _ e => e)
  cases k with
  | true =>
    rw [if_pos rfl] at p ⊢
    exact ib B ρ1 σ H1 O _ g1.rep (p.mono (fun k ρ2 p H2 g2 => p H2 (g1.trans g2)) (ErE.on g1))
  | false =>
    rw [if_neg Bool.false_ne_true] at p ⊢
    exact p H1 g1
theorem dw_or (ha : DT X W a ta) (hb : DW X W (.BoolOp .Or (b :: rest) pos) tb) : DW X W (.BoolOp .Or (a :: b :: rest) pos) (fOr ta tb) := by
  obtain ⟨t, pa, ia⟩ := ha
  obtain ⟨u, pb, ib⟩ := hb
  refine ⟨_, pw_or pa pb, fun B ρ σ H O Q R p => ?_⟩
  unfold fOr at p
  rw [rpost_bind] at p
  refine ia B ρ σ H O _ R (p.mono (fun k ρ1 p H1 g1 => ?_) fun _ _ _ e => e)
  cases k with
  | true =>
    rw [if_pos rfl] at p ⊢
    exact p H1 g1
  | false =>
    rw [if_neg Bool.false_ne_true] at p ⊢
    exact ib B ρ1 σ H1 O _ g1.rep (p.mono (fun k ρ2 p H2 g2 => p H2 (g1.trans g2)) (ErE.on g1))
theorem dt_not (ha : DT X W a ta) : DT X W (.UnaryOp .Not a pos) (fNot ta) := by
  obtain ⟨t, pa, ia⟩ := ha
  refine ⟨_, pt_not pa, fun B ρ σ H O Q R p => ?_⟩
  unfold fNot at p
  rw [rpost_bind] at p
  exact ia B ρ σ H O _ R (p.mono (fun k ρ1 p H1 g1 => p H1 g1) fun _ _ _ e => e)
theorem de_one {op} (h : DE X W a fa) : DE X W (.BoolOp op [a] pos) fa := by
  obtain ⟨t, p, i⟩ := h
  exact ⟨t, pe_one p, i⟩
theorem de_and (ha : DE X W a fa) (hb : DE X W (.BoolOp .And (b :: rest) pos) fb) : DE X W (.BoolOp .And (a :: b :: rest) pos) (vAnd fa fb) := by
  obtain ⟨t, pa, ia⟩ := ha
  obtain ⟨u, pb, ib⟩ := hb
  refine ⟨_, pe_and pa pb, fun B ρ σ H O Q R p => ?_⟩
  unfold vAnd at p
  rw [rpost_bind] at p
  refine ia B ρ σ H O _ R (p.mono (fun k ρ1 p x H1 g1 r1 => ?_) fun _ _ _ e => e)
  split at p
  · rw [r1.bl_inv]
    refine ⟨true, rfl, ?_⟩
    rw [if_pos rfl]
    exact ib B ρ1 σ H1 O _ g1.rep (p.mono (fun k ρ2 p v H2 g2 => p v H2 (g1.trans g2)) (ErE.on g1))
  · rw [r1.bl_inv]
    refine ⟨false, rfl, ?_⟩
    rw [if_neg Bool.false_ne_true]
    exact p _ H1 g1 (.bl false)
  · exact p.elim
theorem de_or (ha : DE X W a fa) (hb : DE X W (.BoolOp .Or (b :: rest) pos) fb) : DE X W (.BoolOp .Or (a :: b :: rest) pos) (vOr fa fb) := by
  obtain ⟨t, pa, ia⟩ := ha
  obtain ⟨u, pb, ib⟩ := hb
  refine ⟨_, pe_or pa pb, fun B ρ σ H O Q R p => ?_⟩
  unfold vOr at p
  rw [rpost_bind] at p
  refine ia B ρ σ H O _ R (p.mono (fun k ρ1 p x H1 g1 r1 => ?_) fun _ _ _ e => e)
  split at p
  · rw [r1.bl_inv]
    refine ⟨true, rfl, ?_⟩
    rw [if_pos rfl]
    exact p _ H1 g1 (.bl true)
  · rw [r1.bl_inv]
    refine ⟨false, rfl, ?_⟩
    rw [if_neg Bool.false_ne_true]
    exact ib B ρ1 σ H1 O _ g1.rep (p.mono (fun k ρ2 p v H2 g2 => p v H2 (g1.trans g2)) (ErE.on g1))
  · exact p.elim
theorem de_if (hc : DT X W c ta) (ha : DE X W a fa) (hb : DE X W b fb) : DE X W (.IfExp c a b pos) (fIf ta fa fb) := by
  obtain ⟨t, pc, ic⟩ := hc
  obtain ⟨u, pa, ia⟩ := ha
  obtain ⟨w, pb, ib⟩ := hb
  refine ⟨_, pe_ifExp pc pa pb, fun B ρ σ H O Q R p => ?_⟩
  unfold fIf at p
  rw [rpost_bind] at p
  refine ic B ρ σ H O _ R (p.mono (fun k ρ1 p H1 g1 => ?_) fun _ _ _ e => e)
  cases k with
  | true =>
    rw [if_pos rfl] at p ⊢
    exact ia B ρ1 σ H1 O _ g1.rep (p.mono (fun k ρ2 p v H2 g2 => p v H2 (g1.trans g2)) (ErE.on g1))
  | false =>
    rw [if_neg Bool.false_ne_true] at p ⊢
    exact ib B ρ1 σ H1 O _ g1.rep (p.mono (fun k ρ2 p v H2 g2 => p v H2 (g1.trans g2)) (ErE.on g1))
/-! arguments, displays -/
variable {es : List Expr} {fl : FL}
theorem da_nil : DA X W [] fNil := ⟨_, pa_nil, fun B ρ σ H O Q R p => p [] H (Go.refl R) .nil⟩
theorem da_cons (ha : DE X W a fa) (hr : DA X W es fl) (hs : starEach (a :: es) X.env = (false, eval a X.env) :: starEach es X.env := by rfl) : DA X W (a :: es) (fCons fa fl) := by
  obtain ⟨t, pa, ia⟩ := ha
  obtain ⟨u, pr, ir⟩ := hr
  refine ⟨_, pa_cons pa pr hs, fun B ρ σ H O Q R p => ?_⟩
  unfold fCons at p
  rw [rpost_bind] at p
  refine ia B ρ σ H O _ R (p.mono (fun d1 ρ1 p x H1 g1 r1 => ?_) fun _ _ _ e => e)
  rw [rpost_bind] at p
  refine ir B ρ1 σ H1 O _ g1.rep (p.mono (fun d2 ρ2 p y H2 g2 r2 => ?_) (ErE.on g1))
  exact p _ H2 (g1.trans g2) (.cons (r1.kp (g2.kp g1.rep)) r2)
theorem fresh_not {O : Av} {H : Hp} {p : Addr} (l : ∀ z, O z → H z ≠ none) (h : H p = none) : ¬ O p := fun o => l p o h
theorem de_tup {x1} (h : DA X W es fl) : DE X W (.Tuple es x1 pos) (fTup fl) := by
  obtain ⟨t, pa, ia⟩ := h
  refine ⟨_, pe_tup pa, fun B ρ σ H O Q R p => ?_⟩
  unfold fTup at p
  rw [rpost_bind] at p
  refine ia B ρ σ H O _ R (p.mono (fun ds ρ1 p vs H1 g1 r1 => ?_) fun _ _ _ e => e)
  split at p
  · rename_i hl
    refine ⟨r1.1.symm ▸ hl, fun q hq => ?_⟩
    have s := same_new (o := .tup vs) hq
    have r2 := r1.kp (O' := O) (Same.kp s)
    exact p _ _ (g1.trans (.same g1.rep s)) (.tup (.inl ⟨.inl upd_same, fresh_not g1.rep.live hq⟩) r2.1 r2.2)
  · exact p.elim
theorem de_lst (h : DA X W es fl) : DE X W (.List es pos) (fLst fl) := by
  obtain ⟨t, pa, ia⟩ := h
  refine ⟨_, pe_lst pa, fun B ρ σ H O Q R p => ?_⟩
  unfold fLst at p
  rw [rpost_bind] at p
  refine ia B ρ σ H O _ R (p.mono (fun ds ρ1 p vs H1 g1 r1 => ?_) fun _ _ _ e => e)
  split at p
  · rename_i hl
    refine ⟨r1.1.symm ▸ hl, fun q hq => ?_⟩
    have s := same_new (o := .lst vs) hq
    have r2 := r1.kp (O' := O) (Same.kp s)
    exact p _ _ (g1.trans (.same g1.rep s)) (.lst upd_same (fresh_not g1.rep.live hq) r2.1 r2.2)
  · exact p.elim
/-- f(e, ..), f a built-in -/
theorem de_callB {x : Str} {id : String} {g : List D → Option D} {p' : Pos} (hc : CallV X (.builtin id) g) (hg : Gl X x) (hm : X.mg x = none) (hv : bootBuiltins x = some (.builtin id)) (ha : DA X W (a :: es) fl) (hn : x ≠ "__name__" := by decide) (hdb : (x == ("__debug__" : Str)) = false := by decide)
    (he : starEach (a :: es) X.env = (false, eval a X.env) :: starEach es X.env := by rfl) (hpl : (backTo pos (starEach es X.env)).any (·.1) = false := by rfl) : DE X W (.Call (.Name x p') (a :: es) [] pos) (fB g fl) := by
  obtain ⟨r, h1, h2⟩ := hc
  obtain ⟨t, pa, ia⟩ := ha
  refine ⟨_, pe_callB h1 hg hm hv pa hn hdb he hpl, fun B ρ σ H O Q R p => ?_⟩
  unfold fB at p
  rw [rpost_bind] at p
  refine ia B ρ σ H O _ R (p.mono (fun ds ρ1 p vs H1 g1 r1 => ?_) fun _ _ _ e => e)
  obtain ⟨d, e, p⟩ := rpost_of p
  exact h2 H1 O vs ds d Q g1.rep.live r1 e fun v H2 s r2 => p v H2 (g1.trans (.same g1.rep s)) r2
/-- T(e, ..), T a built-in type -/
theorem de_callTy {x : Str} {T : String} {g : List D → Option D} {p' : Pos} (hc : CallV X (.type T) g) (hg : Gl X x) (hm : X.mg x = none) (hv : bootBuiltins x = some (.type T)) (ha : DA X W (a :: es) fl) (hn : x ≠ "__name__" := by decide) (hdb : (x == ("__debug__" : Str)) = false := by decide)
    (he : starEach (a :: es) X.env = (false, eval a X.env) :: starEach es X.env := by rfl) (hpl : (backTo pos (starEach es X.env)).any (·.1) = false := by rfl) : DE X W (.Call (.Name x p') (a :: es) [] pos) (fB g fl) := by
  obtain ⟨r, h1, h2⟩ := hc
  obtain ⟨t, pa, ia⟩ := ha
  refine ⟨_, pe_callTy h1 hg hm hv pa hn hdb he hpl, fun B ρ σ H O Q R p => ?_⟩
  unfold fB at p
  rw [rpost_bind] at p
  refine ia B ρ σ H O _ R (p.mono (fun ds ρ1 p vs H1 g1 r1 => ?_) fun _ _ _ e => e)
  obtain ⟨d, e, p⟩ := rpost_of p
  exact h2 H1 O vs ds d Q g1.rep.live r1 e fun v H2 s r2 => p v H2 (g1.trans (.same g1.rep s)) r2
end
end DL

set_option Elab.async false
set_option linter.all false
set_option maxRecDepth 100000
/-! DL2: statements. -/
namespace DL
open PySem PySem.Spec PyProof.Rows L2

inductive SR where
  | nx (ρ : En)
  | rt (d : D) (ρ : En)
  /-- return of a new list -/
  | rtn (ds : List D) (ρ : En)
  | bk (ρ : En)
  | ct (ρ : En)
  | err (c : Str) (fs : List (Str × D)) (ρ : En)
  | stuck
abbrev G := En → SR
def SPost (X : Cx) (B : Base) (W : Wi) (D : Ends) (H : Hp) (O : Av) : SR → Prop
  | .nx ρ' => ∀ σ' H' O', Kp H O H' O' → Rep X.K X.mg B O' ρ' σ' H' → D.nx σ' H'
  | .bk ρ' => ∀ σ' H' O', Kp H O H' O' → Rep X.K X.mg B O' ρ' σ' H' → D.bk σ' H'
  | .ct ρ' => ∀ σ' H' O', Kp H O H' O' → Rep X.K X.mg B O' ρ' σ' H' → D.ct σ' H'
  | .rt d ρ' => ∀ v σ' H' O', Kp H O H' O' → Rep X.K X.mg B O' ρ' σ' H' → Rp X.K X.mg H' O' v d → D.rt v H'
  | .rtn ds ρ' => ∀ vs p σ' H' O', Kp H O H' O' → Rep X.K X.mg B O' ρ' σ' H' → H' p = none → RpL X.K X.mg H' O' vs ds → D.rt (.ref p) (upd H' p (.lst vs))
  | .err c fs ρ' => ∀ C od σ' H' O', Kp H O H' O' → Rep X.K X.mg B O' ρ' σ' H' → X.mg c = some (.ref C) → ErrAt X.K X.mg H' O' od fs → W.w (.ref C) od σ' H'
  | .stuck => False
theorem SPost.on {X : Cx} {B : Base} {W : Wi} {D : Ends} {H H1 : Hp} {O O1 : Av} (k : Kp H O H1 O1) : ∀ {r : SR}, SPost X B W D H O r → SPost X B W D H1 O1 r
  | .nx ρ', p => fun σ' H' O' k' => p σ' H' O' (k.trans k')
  | .bk ρ', p => fun σ' H' O' k' => p σ' H' O' (k.trans k')
  | .ct ρ', p => fun σ' H' O' k' => p σ' H' O' (k.trans k')
  | .rt d ρ', p => fun v σ' H' O' k' => p v σ' H' O' (k.trans k')
  | .rtn ds ρ', p => fun vs q σ' H' O' k' => p vs q σ' H' O' (k.trans k')
  | .err c fs ρ', p => fun C od σ' H' O' k' => p C od σ' H' O' (k.trans k')
  | .stuck, p => p
def DS (X : Cx) (W : Wi) (st : Stmt) (g : G) : Prop := ∃ t : TS, PS X st t ∧ ∀ (B : W.BB) (ρ : En) (σ : Sl) (H : Hp) (O : Av) (D : Ends), Rep X.K X.mg B.1 O ρ σ H → SPost X B.1 W D H O (g ρ) → t D σ H
def DSs (X : Cx) (W : Wi) (st : List Stmt) (g : G) : Prop := ∃ t : TS, PSs X st t ∧ ∀ (B : W.BB) (ρ : En) (σ : Sl) (H : Hp) (O : Av) (D : Ends), Rep X.K X.mg B.1 O ρ σ H → SPost X B.1 W D H O (g ρ) → t D σ H
/-- from an expression -/
def R.sr {α : Type} (r : R α) (k : α → En → SR) : SR := match r with
  | .ok a ρ => k a ρ
  | .err c fs ρ => .err c fs ρ
  | .stuck => .stuck
theorem spost_sr {α : Type} {X : Cx} {B : Base} {W : Wi} {D : Ends} {σ : Sl} {ρ : En} {H : Hp} {O : Av} {r : R α} {k : α → En → SR} (R0 : Rep X.K X.mg B O ρ σ H) (p : SPost X B W D H O (r.sr k)) :
    RPost r (fun a ρ1 => ∀ H1, Go X.K X.mg B O σ ρ H ρ1 H1 → SPost X B W D H1 O (k a ρ1)) (ErE X B W O σ ρ H) := by
  cases r with
  | ok a ρ1 => exact fun H1 g => SPost.on (g.kp R0) p
  | err c fs ρ1 => exact fun C od H' g m e => p C od σ H' O (g.kp R0) g.rep m e
  | stuck => exact p
def gNx : G := fun ρ => .nx ρ
def gSeq (g h : G) : G := fun ρ => match g ρ with
  | .nx ρ1 => h ρ1
  | r => r
def gRet (f : F) : G := fun ρ => (f ρ).sr fun d ρ1 => .rt d ρ1
def gRetN : G := fun ρ => .rt .non ρ
def gDrop (f : F) : G := fun ρ => (f ρ).sr fun _ ρ1 => .nx ρ1
def gIf (c : FB) (g h : G) : G := fun ρ => (c ρ).sr fun k ρ1 => if k = true then g ρ1 else h ρ1
def gSet (i : Nat) (f : F) : G := fun ρ => (f ρ).sr fun d ρ1 => .nx (ρ1.set i (some (.dat d)))
def gBrk : G := fun ρ => .bk ρ
def gCont : G := fun ρ => .ct ρ
section
variable {X : Cx} {W : Wi} {st : Stmt} {rest : List Stmt} {g h : G} {e : Expr} {f : F} {pos : Pos}
theorem dss_nil : DSs X W [] gNx := ⟨_, pss_nil, fun B ρ σ H O D R p => p σ H O .refl R⟩
theorem dss_cons (h1 : DS X W st g) (h2 : DSs X W rest h) : DSs X W (st :: rest) (gSeq g h) := by
  obtain ⟨t, p1, i1⟩ := h1
  obtain ⟨u, p2, i2⟩ := h2
  refine ⟨_, pss_cons p1 p2, fun B ρ σ H O D R p => ?_⟩
  refine i1 B ρ σ H O _ R ?_
  unfold gSeq at p
  split at p
  · rename_i ρ1 e
    rw [e]
    exact fun σ' H' O' k r => i2 B ρ1 σ' H' O' D r (SPost.on k p)
  · rename_i hn
    cases q : g ρ with
    | nx ρ1 => exact absurd q (hn ρ1)
    | bk ρ1 => rw [q] at p; exact p
    | ct ρ1 => rw [q] at p; exact p
    | rt d ρ1 => rw [q] at p; exact p
    | rtn ds ρ1 => rw [q] at p; exact p
    | err c fs ρ1 => rw [q] at p; exact p
    | stuck => rw [q] at p; exact p
theorem dss_one (h1 : DS X W st g) : DSs X W [st] g := by
  obtain ⟨t, p1, i1⟩ := h1
  exact ⟨_, pss_one p1, i1⟩
theorem ds_pass : DS X W (.Pass pos) gNx := ⟨_, ps_pass, fun B ρ σ H O D R p => p σ H O .refl R⟩
theorem ds_break : DS X W (.Break pos) gBrk := ⟨_, ps_break, fun B ρ σ H O D R p => p σ H O .refl R⟩
theorem ds_continue : DS X W (.Continue pos) gCont := ⟨_, ps_continue, fun B ρ σ H O D R p => p σ H O .refl R⟩
theorem ds_ret (he : DE X W e f) : DS X W (.Return (some e) pos) (gRet f) := by
  obtain ⟨t, pe, i⟩ := he
  refine ⟨_, ps_ret pe, fun B ρ σ H O D R p => ?_⟩
  exact i B ρ σ H O _ R ((spost_sr R p).mono (fun d ρ1 p v H1 g r => p H1 g v σ H1 O .refl g.rep r) fun _ _ _ e => e)
theorem ds_retN : DS X W (.Return none pos) gRetN := ⟨_, ps_retN, fun B ρ σ H O D R p => p .non σ H O .refl R .non⟩
theorem ds_expr (he : DE X W e f) (hs : swapsWith e none pos.line X.env = pure false := by rfl) : DS X W (.Expr e pos) (gDrop f) := by
  obtain ⟨t, pe, i⟩ := he
  refine ⟨_, ps_expr pe hs, fun B ρ σ H O D R p => ?_⟩
  exact i B ρ σ H O _ R ((spost_sr R p).mono (fun d ρ1 p v H1 g r => p H1 g σ H1 O .refl g.rep) fun _ _ _ e => e)
theorem ds_if {c : Expr} {a b : List Stmt} {fc : FB} (hc : DT X W c fc) (ha : DSs X W a g) (hb : DSs X W b h) : DS X W (.If c a b pos) (gIf fc g h) := by
  obtain ⟨t, pc, ic⟩ := hc
  obtain ⟨u, pa, ia⟩ := ha
  obtain ⟨w, pb, ib⟩ := hb
  refine ⟨_, ps_if pc pa pb, fun B ρ σ H O D R p => ?_⟩
  refine ic B ρ σ H O _ R ((spost_sr R p).mono (fun k ρ1 p H1 g1 => ?_) fun _ _ _ e => e)
  have p := p H1 g1
  cases k with
  | true =>
    rw [if_pos rfl] at p ⊢
    exact ia B ρ1 σ H1 O D g1.rep p
  | false =>
    rw [if_neg Bool.false_ne_true] at p ⊢
    exact ib B ρ1 σ H1 O D g1.rep p
/-- the store of data at a name -/
theorem Rep.setD {K : PySem.W.Frag} {mg : Str → Option Value} {B : Base} {ρ : En} {σ : Sl} {H : Hp} {O : Av} {v : V} {d : D} (R : Rep K mg B O ρ σ H) (i : Nat) (r : Rp K mg H O v d) : Rep K mg B O (ρ.set i (some (.dat d))) (σ.set i (some v)) H where
  len := by rw [List.length_set, List.length_set, R.len]
  slot := fun j s h => by
    by_cases hj : i = j
    · subst hj
      have l : i < (ρ.set i (some (.dat d))).length := (List.getElem?_eq_some_iff.mp h).1
      rw [List.length_set] at l
      rw [List.getElem?_set_self l] at h
      cases h
      exact ⟨v, List.getElem?_set_self (R.len ▸ l), r⟩
    · rw [List.getElem?_set_ne hj] at h
      obtain ⟨w, h1, h2⟩ := R.slot j s h
      exact ⟨w, (List.getElem?_set_ne hj).trans h1, h2⟩
  apart := fun j k s t a h1 h2 m1 m2 e1 e2 => by
    have key : ∀ {j : Nat} {s : Slot}, (ρ.set i (some (.dat d)))[j]? = some (some s) → s.mu = true → i ≠ j := fun {j s} h m e => by
      subst e
      have l : i < (ρ.set i (some (.dat d))).length := (List.getElem?_eq_some_iff.mp h).1
      rw [List.length_set] at l
      rw [List.getElem?_set_self l] at h
      cases h
      cases m
    have n1 := key h1 m1
    have n2 := key h2 m2
    rw [List.getElem?_set_ne n1] at h1 e1
    rw [List.getElem?_set_ne n2] at h2 e2
    exact R.apart j k s t a h1 h2 m1 m2 e1 e2
  base := R.base
  live := R.live
  o0 := R.o0
  b0 := R.b0
  pao := R.pao
theorem ds_set {i : Nat} {x : Str} {pos' : Pos} (hN : X.N.Nodup) (he : DE X W e f) (hi : X.N[i]? = some x := by rfl) (hx : Loc X.env.scope x := by first | exact .inl rfl | exact .inr rfl) (hs : swapsWith e (some (.Name x pos')) pos.line X.env = pure false := by rfl) (hf : X.fn x = true ∨ X.env.scope.names.lookup x = some .local := by first | exact .inl rfl | exact .inr rfl | assumption) :
    DS X W (.Assign [.Name x pos'] e pos) (gSet i f) := by
  obtain ⟨t, pe, ie⟩ := he
  refine ⟨_, ps_set hN hi hx pe hs hf, fun B ρ σ H O D R p => ?_⟩
  exact ie B ρ σ H O _ R ((spost_sr R p).mono (fun d ρ1 p v H1 g r => p H1 g (σ.set i (some v)) H1 O .refl (g.rep.setD i r)) fun _ _ _ e => e)

/-! ### targets -/
def wipeE (ρ : En) : List Nat → En
  | [] => ρ
  | v :: vs => (wipeE ρ vs).set v none
theorem wipeE_get {ρ : En} {i : Nat} {s : Slot} : ∀ {vs : List Nat}, (wipeE ρ vs)[i]? = some (some s) → ρ[i]? = some (some s) ∧ i ∉ vs
  | [], h => ⟨h, fun z => nomatch z⟩
  | v :: vs, h => by
    unfold wipeE at h
    by_cases hv : v = i
    · subst hv
      have l : v < ((wipeE ρ vs).set v none).length := (List.getElem?_eq_some_iff.mp h).1
      rw [List.length_set] at l
      rw [List.getElem?_set_self l] at h
      cases h
    · rw [List.getElem?_set_ne hv] at h
      obtain ⟨h1, h2⟩ := wipeE_get h
      exact ⟨h1, fun z => (List.mem_cons.mp z).elim (fun e => hv e.symm) h2⟩
theorem wipeE_out {ρ : En} {i : Nat} : ∀ {vs : List Nat}, i ∉ vs → (wipeE ρ vs)[i]? = ρ[i]?
  | [], _ => rfl
  | v :: vs, h => by
    unfold wipeE
    rw [List.getElem?_set_ne fun e => h (List.mem_cons.mpr (.inl e.symm))]
    exact wipeE_out fun z => h (List.mem_cons.mpr (.inr z))
theorem wipeE_len (ρ : En) : ∀ vs : List Nat, (wipeE ρ vs).length = ρ.length
  | [] => rfl
  | v :: vs => by
    unfold wipeE
    rw [List.length_set, wipeE_len ρ vs]
theorem set_none_comm {α : Type} (l : List (Option α)) (i j : Nat) (x : Option α) (h : i ≠ j) : (l.set i x).set j none = (l.set j none).set i x := List.set_comm x none h
theorem wipe_set {α : Type} {σ : Sl} {i : Nat} {x : Option V} : ∀ {vs : List Nat}, i ∈ vs → wipe (σ.set i x) vs = wipe σ vs
  | [], h => nomatch h
  | v :: vs, h => by
    unfold wipe
    by_cases e : i ∈ vs
    · rw [wipe_set (α := α) e]
    · have hv : i = v := (List.mem_cons.mp h).elim id fun z => absurd z e
      subst hv
      have out : ∀ {us : List Nat}, i ∉ us → wipe (σ.set i x) us = (wipe σ us).set i x := fun {us} => by
        induction us with
        | nil => exact fun _ => rfl
        | cons u us ih =>
          intro hn
          unfold wipe
          rw [ih fun z => hn (List.mem_cons.mpr (.inr z))]
          exact List.set_comm x none fun z => hn (List.mem_cons.mpr (.inl z))
      rw [out e, List.set_set]
theorem wipeE_set {ρ : En} {i : Nat} {x : Option Slot} : ∀ {vs : List Nat}, i ∈ vs → wipeE (ρ.set i x) vs = wipeE ρ vs
  | [], h => nomatch h
  | v :: vs, h => by
    unfold wipeE
    by_cases e : i ∈ vs
    · rw [wipeE_set e]
    · have hv : i = v := (List.mem_cons.mp h).elim id fun z => absurd z e
      subst hv
      have out : ∀ {us : List Nat}, i ∉ us → wipeE (ρ.set i x) us = (wipeE ρ us).set i x := fun {us} => by
        induction us with
        | nil => exact fun _ => rfl
        | cons u us ih =>
          intro hn
          unfold wipeE
          rw [ih fun z => hn (List.mem_cons.mpr (.inr z))]
          exact List.set_comm x none fun z => hn (List.mem_cons.mpr (.inl z))
      rw [out e, List.set_set]
/-- a store at the slots ts of data -/
structure TgGo (ts : List Nat) (ρ : En) (σ : Sl) (ρ' : En) (σ' : Sl) : Prop where
  s : ∀ vs, (∀ t, t ∈ ts → t ∈ vs) → wipe σ' vs = wipe σ vs
  r : ∀ vs, (∀ t, t ∈ ts → t ∈ vs) → wipeE ρ' vs = wipeE ρ vs
  m : ∀ b, Mu ρ' σ' b → Mu ρ σ b
theorem TgGo.refl {ρ : En} {σ : Sl} {ts : List Nat} : TgGo ts ρ σ ρ σ := ⟨fun _ _ => rfl, fun _ _ => rfl, fun _ m => m⟩
theorem TgGo.trans {ρ ρ1 ρ2 : En} {σ σ1 σ2 : Sl} {ts us : List Nat} (a : TgGo ts ρ σ ρ1 σ1) (b : TgGo us ρ1 σ1 ρ2 σ2) : TgGo (ts ++ us) ρ σ ρ2 σ2 :=
  ⟨fun vs h => (b.s vs fun t z => h t (List.mem_append.mpr (.inr z))).trans (a.s vs fun t z => h t (List.mem_append.mpr (.inl z))),
   fun vs h => (b.r vs fun t z => h t (List.mem_append.mpr (.inr z))).trans (a.r vs fun t z => h t (List.mem_append.mpr (.inl z))), fun x m => a.m x (b.m x m)⟩
theorem mu_setD {ρ : En} {σ : Sl} {i : Nat} {v : V} {d : D} {b : Addr} (m : Mu (ρ.set i (some (.dat d))) (σ.set i (some v)) b) : Mu ρ σ b := by
  obtain ⟨j, s, h1, h2, h3⟩ := m
  by_cases hj : i = j
  · subst hj
    have l : i < (ρ.set i (some (.dat d))).length := (List.getElem?_eq_some_iff.mp h1).1
    rw [List.length_set] at l
    rw [List.getElem?_set_self l] at h1
    cases h1
    cases h2
  · rw [List.getElem?_set_ne hj] at h1 h3
    exact ⟨j, s, h1, h2, h3⟩
theorem TgGo.one {ρ : En} {σ : Sl} {i : Nat} {v : V} {d : D} : TgGo [i] ρ σ (ρ.set i (some (.dat d))) (σ.set i (some v)) :=
  ⟨fun vs h => wipe_set (α := Unit) (h i (List.mem_cons.mpr (.inl rfl))), fun vs h => wipeE_set (h i (List.mem_cons.mpr (.inl rfl))), fun _ m => mu_setD m⟩
/-- a target takes data: what the slots are then -/
def DG (X : Cx) (tg : Expr) (ts : List Nat) (f : D → En → Option En) : Prop := ∃ t : TG, PG X tg t ∧ ∀ (B : Base) (ρ ρ' : En) (σ : Sl) (H : Hp) (O : Av) (v : V) (d : D) (Q : Sl → Hp → Prop), Rep X.K X.mg B O ρ σ H → Rp X.K X.mg H O v d → f d ρ = some ρ' →
  (∀ σ' H', Same H H' → Rep X.K X.mg B O ρ' σ' H' → TgGo ts ρ σ ρ' σ' → Q σ' H') → t v σ H Q
def DGs (X : Cx) (tg : List Expr) (ts : List Nat) (f : List D → En → Option En) : Prop := ∃ t : TGs, PGs X tg t ∧ ∀ (B : Base) (ρ ρ' : En) (σ : Sl) (H : Hp) (O : Av) (vs : List V) (ds : List D) (Q : Sl → Hp → Prop), Rep X.K X.mg B O ρ σ H → RpL X.K X.mg H O vs ds → f ds ρ = some ρ' →
  (∀ σ' H', Same H H' → Rep X.K X.mg B O ρ' σ' H' → TgGo ts ρ σ ρ' σ' → Q σ' H') → t vs σ H Q
def tgName (i : Nat) : D → En → Option En := fun d ρ => some (ρ.set i (some (.dat d)))
def tgNil : List D → En → Option En := fun ds ρ => match ds with
  | [] => some ρ
  | _ => none
def tgCons (f : D → En → Option En) (r : List D → En → Option En) : List D → En → Option En := fun ds ρ => match ds with
  | d :: ds => (f d ρ).bind (r ds)
  | [] => none
def tgTup (n : Nat) (f : List D → En → Option En) : D → En → Option En := fun d ρ => match d with
  | .tup ds => if ds.length = n then f ds ρ else none
  | _ => none
theorem dg_name {i : Nat} {x : Str} (hN : X.N.Nodup) (hi : X.N[i]? = some x := by rfl) (hx : Loc X.env.scope x := by first | exact .inl rfl | exact .inr rfl) (hf : X.fn x = true ∨ X.env.scope.names.lookup x = some .local := by first | exact .inl rfl | exact .inr rfl | assumption) : DG X (.Name x pos) [i] (tgName i) := by
  refine ⟨_, pg_name hN hi hx hf, fun B ρ ρ' σ H O v d Q R r e q => ?_⟩
  cases e
  exact q _ H (Same.refl H) (R.setD i r) .one
theorem dgs_nil : DGs X [] [] tgNil := by
  refine ⟨_, pgs_nil, fun B ρ ρ' σ H O vs ds Q R r e q => ?_⟩
  unfold tgNil at e
  split at e
  · cases e
    have h : vs = [] := List.eq_nil_of_length_eq_zero r.1
    exact ⟨h, q σ H (Same.refl H) R .refl⟩
  · cases e
theorem dgs_cons {tg : Expr} {tgs : List Expr} {ts us : List Nat} {f : D → En → Option En} {r : List D → En → Option En} (h1 : DG X tg ts f) (h2 : DGs X tgs us r) (hs : (assignEach (tg :: tgs) X.env).map (·.2) = assign tg X.env :: (assignEach tgs X.env).map (·.2) := by rfl) : DGs X (tg :: tgs) (ts ++ us) (tgCons f r) := by
  obtain ⟨t, p1, i1⟩ := h1
  obtain ⟨u, p2, i2⟩ := h2
  refine ⟨_, pgs_cons p1 p2 hs, fun B ρ ρ' σ H O vs ds Q R rr e q => ?_⟩
  unfold tgCons at e
  cases ds with
  | nil => cases e
  | cons d ds =>
    cases vs with
    | nil => exact nomatch rr.1
    | cons v vs =>
      obtain ⟨r1, r2⟩ := rr.uncons
      dsimp only at e
      cases q1 : f d ρ with
      | none => rw [q1] at e; cases e
      | some ρ1 =>
        rw [q1] at e
        refine ⟨v, vs, rfl, i1 B ρ ρ1 σ H O v d _ R r1 q1 fun σ1 H1 s R1 g1 => ?_⟩
        exact i2 B ρ1 ρ' σ1 H1 O vs ds Q R1 (r2.kp (Same.kp s)) e fun σ2 H2 s2 R2 g2 => q σ2 H2 (s.trans s2) R2 (g1.trans g2)
theorem dg_tup {es : List Expr} {k n : Nat} {ts : List Nat} {f : List D → En → Option En} (hc : X.calm = true) (h : DGs X es ts f) (hn : (assignEach es X.env).length = n := by rfl) (hst : (assignEach es X.env).findIdx? (·.1) = none := by rfl) : DG X (.Tuple es k pos) ts (tgTup n f) := by
  obtain ⟨t, p, i⟩ := h
  refine ⟨_, pg_tup hc p hn hst, fun B ρ ρ' σ H O v d Q R r e q => ?_⟩
  unfold tgTup at e
  cases r with
  | tup h m el =>
    dsimp only at e
    split at e
    · rename_i hl
      exact ⟨_, _, rfl, h.sq, m.trans hl, i B ρ ρ' σ H O _ _ Q R ⟨m, el⟩ e q⟩
    · cases e
  | _ => cases e
def gAsg (t : D → En → Option En) (f : F) : G := fun ρ => (f ρ).sr fun d ρ1 => match t d ρ1 with
  | some ρ2 => .nx ρ2
  | none => .stuck
theorem ds_asg {tg : Expr} {ts : List Nat} {t : D → En → Option En} (he : DE X W e f) (hg : DG X tg ts t) (hs : swapsWithSole [tg] e pos.line X.env = pure false := by rfl) (hw : swappedStores [tg] e X.env = pure none := by rfl)
    (h1 : (assignEach [tg] X.env).map (·.2) = [assign tg X.env] := by rfl) : DS X W (.Assign [tg] e pos) (gAsg t f) := by
  obtain ⟨te, pe, ie⟩ := he
  obtain ⟨tt, pt, it⟩ := hg
  refine ⟨_, ps_asg pe pt hs hw h1, fun B ρ σ H O D R p => ?_⟩
  refine ie B ρ σ H O _ R ((spost_sr R p).mono (fun d ρ1 p v H1 g r => ?_) fun _ _ _ e => e)
  have p := p H1 g
  cases q : t d ρ1 with
  | none => rw [q] at p; exact p.elim
  | some ρ2 =>
    rw [q] at p
    exact it B.1 ρ1 ρ2 σ H1 O v d _ g.rep r q fun σ' H' s R' _ => p σ' H' O (Same.kp s) R'
/-- a, b = x, y of plain names -/
def gPar (i j : Nat) (f : FL) : G := fun ρ => (f ρ).sr fun ds ρ1 => match ds with
  | [a, b] => .nx ((ρ1.set i (some (.dat a))).set j (some (.dat b)))
  | _ => .stuck
theorem ds_par {i j : Nat} {x y : Str} {a b : Expr} {fl : FL} {px py pt : Pos} {kt k2 pt2} (hc : X.calm = true) (hN : X.N.Nodup) (ha : DA X W [a, b] fl) (hi : X.N[i]? = some x := by rfl) (hj : X.N[j]? = some y := by rfl) (hij : i ≠ j := by decide)
    (hx : X.env.scope.names.lookup x = some .local := by rfl) (hy : X.env.scope.names.lookup y = some .local := by rfl)
    (hw : swappedStores [.Tuple [.Name x px, .Name y py] kt pt] (.Tuple [a, b] k2 pt2) X.env = pure (some [x, y]) := by rfl)
    (hs : swapsWithSole [.Tuple [.Name x px, .Name y py] kt pt] (.Tuple [a, b] k2 pt2) pos.line X.env = pure false := by rfl) :
    DS X W (.Assign [.Tuple [.Name x px, .Name y py] kt pt] (.Tuple [a, b] k2 pt2) pos) (gPar i j fl) := by
  obtain ⟨t, pa, ia⟩ := ha
  refine ⟨_, ps_par hc hN hi hj hij hx hy pa hw hs, fun B ρ σ H O D R p => ?_⟩
  refine ia B ρ σ H O _ R ((spost_sr R p).mono (fun ds ρ1 p vs H1 g r => ?_) fun _ _ _ e => e)
  have p := p H1 g
  match ds, vs, r, p with
  | [d1, d2], [v1, v2], r, p =>
    have r1 := r.uncons
    exact ⟨v1, v2, rfl, p _ H1 O .refl ((g.rep.setD i r1.1).setD j r1.2.uncons.1)⟩
  | [d1, d2], [], r, p => exact nomatch r.1
  | [d1, d2], [_], r, p => exact nomatch r.1
  | [d1, d2], _ :: _ :: _ :: _, r, p => exact nomatch r.1
  | [], _, _, p => exact p.elim
  | [_], _, _, p => exact p.elim
  | _ :: _ :: _ :: _, _, _, p => exact p.elim
end
end DL

set_option Elab.async false
set_option linter.all false
set_option maxRecDepth 100000
/-! DL3: lists of one's own. -/
namespace DL
open PySem PySem.Spec PyProof.Rows L2
section
variable {K : PySem.W.Frag} {mg : Str → Option Value} {B : Base} {O : Av} {ρ : En} {σ : Sl} {H : Hp} {i : Nat} {p : Addr} {vs : List V} {ds : List D} {c c' : Cont}
/-- O with one more, one less -/
def Av.add (O : Av) (p : Addr) : Av := fun a => O a ∨ a = p
def Av.sub (O : Av) (p : Addr) : Av := fun a => O a ∧ a ≠ p
theorem kp_add {o : HO} (h : H p = none) : Kp H O (upd H p o) (O.add p) := fun a u e n => by
  have ne : a ≠ p := ne_of_none e h
  exact ⟨by rw [upd_ne ne]; exact e, fun z => z.elim n ne⟩
theorem kp_sub : Kp H O H (O.sub p) := fun a u e n => ⟨e, fun z => n z.1⟩
/-- a slot that changes goes on where the rest goes on -/
theorem SlotAt.kp {H' : Hp} {O' : Av} {s : Slot} {v : V} (k : Kp H O H' O') (e : ∀ a, v = .ref a → s.mu = true → H' a = H a ∧ O' a) (h : SlotAt K mg B H O s v) : SlotAt K mg B H' O' s v := by
  cases s with
  | dat d => exact Rp.kp k h
  | exc c fs => exact ⟨h.1, h.2.1, h.2.2.kp k⟩
  | own ds =>
    obtain ⟨a, e1, o, n, c⟩ := h
    have := e a e1 rfl
    exact ⟨a, e1, this.2, n, c.kp k this.1⟩
  | par j c =>
    obtain ⟨a, e1, o, n, c'⟩ := h
    have := e a e1 rfl
    exact ⟨a, e1, this.2, n, c'.kp k this.1⟩
theorem Rep.h0 (R : Rep K mg B O ρ σ H) (hp : H p = none) : B.H0 p = none := by
  cases q : B.H0 p with
  | none => rfl
  | some o =>
    by_cases hb : p ∈ B.pa
    · exact absurd hp (R.live p (R.o0 p (R.pao p hb)))
    · rw [R.base p o q hb] at hp
      cases hp
/-- a new list of one's own -/
theorem Rep.setOwn (R : Rep K mg B O ρ σ H) (hp : H p = none) (r : RpL K mg H O vs ds) : Rep K mg B (O.add p) (ρ.set i (some (.own ds))) (σ.set i (some (.ref p))) (upd H p (.lst vs)) where
  len := by rw [List.length_set, List.length_set, R.len]
  slot := fun j s h => by
    by_cases hj : i = j
    · subst hj
      have l : i < (ρ.set i (some (.own ds))).length := (List.getElem?_eq_some_iff.mp h).1
      rw [List.length_set] at l
      rw [List.getElem?_set_self l] at h
      cases h
      exact ⟨.ref p, List.getElem?_set_self (R.len ▸ l), p, rfl, .inr rfl, R.h0 hp, vs, upd_same, r.kp (kp_add hp)⟩
    · rw [List.getElem?_set_ne hj] at h
      obtain ⟨w, h1, h2⟩ := R.slot j s h
      refine ⟨w, (List.getElem?_set_ne hj).trans h1, h2.kp (kp_add hp) fun a e m => ?_⟩
      subst e
      have o : O a := R.mu_O ⟨j, s, h, m, h1⟩
      have ne : a ≠ p := fun e => R.live a o (e ▸ hp)
      exact ⟨upd_ne ne, .inl o⟩
  apart := by
    have old : ∀ {j : Nat} {s : Slot} {a : Addr}, i ≠ j → (ρ.set i (some (.own ds)))[j]? = some (some s) → s.mu = true → (σ.set i (some (.ref p)))[j]? = some (some (.ref a)) →
        ρ[j]? = some (some s) ∧ σ[j]? = some (some (.ref a)) ∧ a ≠ p := fun {j s a} hj h m e => by
      rw [List.getElem?_set_ne hj] at h e
      exact ⟨h, e, fun z => R.live a (R.mu_O ⟨j, s, h, m, e⟩) (z ▸ hp)⟩
    have new : ∀ {a : Addr}, (σ.set i (some (.ref p)))[i]? = some (some (.ref a)) → a = p := fun {a} e => by
      have l : i < (σ.set i (some (V.ref p))).length := (List.getElem?_eq_some_iff.mp e).1
      rw [List.length_set] at l
      rw [List.getElem?_set_self l] at e
      cases e
      rfl
    intro j k s t a h1 h2 m1 m2 e1 e2
    by_cases hj : i = j
    · by_cases hk : i = k
      · exact hj.symm.trans hk
      · obtain ⟨_, _, n⟩ := old hk h2 m2 e2
        subst hj
        exact absurd (new e1) n
    · obtain ⟨h1', e1', n⟩ := old hj h1 m1 e1
      by_cases hk : i = k
      · subst hk
        exact absurd (new e2) n
      · obtain ⟨h2', e2', _⟩ := old hk h2 m2 e2
        exact R.apart j k s t a h1' h2' m1 m2 e1' e2'
  base := fun b o h n => by
    have e := R.base b o h n
    rw [upd_ne (ne_of_none e hp)]
    exact e
  live := fun a o => by
    by_cases e : a = p
    · rw [e, upd_same]
      exact fun z => nomatch z
    · rw [upd_ne e]
      rcases o with o | o
      · exact R.live a o
      · exact absurd o e
  o0 := fun a h => .inl (R.o0 a h)
  b0 := R.b0
  pao := R.pao
/-- what the list of a slot holds is changed -/
def Slot.put : Slot → List D → Option Slot
  | .own _, ds => some (.own ds)
  | .par k (.lst _), ds => some (.par k (.lst ds))
  | _, _ => none
def Slot.list : Slot → Option (List D)
  | .own ds => some ds
  | .par _ (.lst ds) => some ds
  | _ => none
theorem Rep.listAt (R : Rep K mg B O ρ σ H) {s : Slot} (h : ρ[i]? = some (some s)) (l : s.list = some ds) :
    ∃ a vs, σ[i]? = some (some (.ref a)) ∧ O a ∧ H a = some (.lst vs) ∧ RpL K mg H O vs ds ∧ s.mu = true := by
  obtain ⟨v, h1, h2⟩ := R.slot i s h
  cases s with
  | dat d => cases l
  | exc c fs => cases l
  | own xs =>
    cases l
    obtain ⟨a, rfl, o, _, vs, q, r⟩ := h2
    exact ⟨a, vs, h1, o, q, r, rfl⟩
  | par k c =>
    cases c with
    | ins _ _ => cases l
    | lst xs =>
      cases l
      obtain ⟨a, rfl, o, _, vs, q, r⟩ := h2
      exact ⟨a, vs, h1, o, q, r, rfl⟩
theorem put_kd {s s' : Slot} (h : s.put ds = some s') : s'.kd = s.kd ∧ s'.mu = true := by
  cases s with
  | dat d => cases h
  | exc c fs => cases h
  | own xs => cases h; exact ⟨rfl, rfl⟩
  | par k c =>
    cases c with
    | lst xs => cases h; exact ⟨rfl, rfl⟩
    | ins _ _ => cases h
theorem Rep.writeL (R : Rep K mg B O ρ σ H) {s s' : Slot} {a : Addr} (h : ρ[i]? = some (some s)) (hs : σ[i]? = some (some (.ref a))) (hm : s.mu = true) (hp : s.put ds = some s') (r : RpL K mg H O vs ds) :
    Go K mg B O σ ρ H (ρ.set i (some s')) (upd H a (.lst vs)) ∧ Kp H O (upd H a (.lst vs)) O := by
  have hO : O a := R.mu_O ⟨i, s, h, hm, hs⟩
  have k : Kp H O (upd H a (.lst vs)) O := fun b u e n => ⟨by rw [upd_ne fun z : b = a => n (z ▸ hO)]; exact e, n⟩
  have li : i < ρ.length := (List.getElem?_eq_some_iff.mp h).1
  refine ⟨⟨?_, fun b o e n => ?_, ?_⟩, k⟩
  · apply List.ext_getElem?
    intro j
    rw [kinds_get, kinds_get]
    by_cases hj : i = j
    · subst hj
      rw [List.getElem?_set_self li, h]
      simp [(put_kd hp).1]
    · rw [List.getElem?_set_ne hj]
  · rw [upd_ne fun z : b = a => n (z ▸ ⟨i, s, h, hm, hs⟩)]
    exact e
  · exact {
      len := by rw [List.length_set, R.len]
      slot := fun j t ht => by
        by_cases hj : i = j
        · subst hj
          rw [List.getElem?_set_self li] at ht
          cases ht
          obtain ⟨v, h1, h2⟩ := R.slot i s h
          rw [hs] at h1
          cases h1
          refine ⟨.ref a, hs, ?_⟩
          cases s with
          | dat d => cases hm
          | exc c fs => cases hm
          | own xs =>
            cases hp
            obtain ⟨b, e, o, n, _⟩ := h2
            cases e
            exact ⟨a, rfl, o, n, vs, upd_same, r.kp k⟩
          | par q c =>
            cases c with
            | ins _ _ => cases hp
            | lst xs =>
              cases hp
              obtain ⟨b, e, o, n, _⟩ := h2
              cases e
              exact ⟨a, rfl, o, n, vs, upd_same, r.kp k⟩
        · rw [List.getElem?_set_ne hj] at ht
          obtain ⟨w, h1, h2⟩ := R.slot j t ht
          refine ⟨w, h1, h2.kp k fun b e m => ?_⟩
          subst e
          have nb : b ≠ a := fun z => hj (R.apart i j s t a h ht hm m hs (z ▸ h1))
          exact ⟨upd_ne nb, R.mu_O ⟨j, t, ht, m, h1⟩⟩
      apart := fun j q t u b h1 h2 m1 m2 e1 e2 => by
        have key : ∀ {j : Nat} {t : Slot}, (ρ.set i (some s'))[j]? = some (some t) → t.mu = true → ∃ t', ρ[j]? = some (some t') ∧ t'.mu = true := fun {j t} ht m => by
          by_cases hj : i = j
          · subst hj
            exact ⟨s, h, hm⟩
          · rw [List.getElem?_set_ne hj] at ht
            exact ⟨t, ht, m⟩
        obtain ⟨t', a1, a2⟩ := key h1 m1
        obtain ⟨u', b1, b2⟩ := key h2 m2
        exact R.apart j q t' u' b a1 b1 a2 b2 e1 e2
      base := fun b o e n => by
        have e' := R.base b o e n
        have nb : b ≠ a := fun z => by
          obtain ⟨v, h1, h2⟩ := R.slot i s h
          rw [hs] at h1
          cases h1
          cases s with
          | dat d => cases hm
          | exc c fs => cases hm
          | own xs =>
            obtain ⟨b', e1, o1, n1, _⟩ := h2
            cases e1
            rw [z, n1] at e
            cases e
          | par q c =>
            obtain ⟨b', e1, o1, n1, _⟩ := h2
            cases e1
            exact n (z ▸ List.mem_of_getElem? n1)
        rw [upd_ne nb]
        exact e'
      live := fun b o => by
        by_cases e : b = a
        · rw [e, upd_same]
          exact fun z => nomatch z
        · rw [upd_ne e]
          exact R.live b o
      o0 := R.o0
      b0 := R.b0
      pao := R.pao }
/-- a list of one's own is changed no more -/
def frz (i : Nat) (ρ : En) : En := match ρ[i]? with
  | some (some (.own ds)) => ρ.set i (some (.dat (.lst ds)))
  | _ => ρ
theorem Rep.frz (R : Rep K mg B O ρ σ H) (i : Nat) : ∃ O', Kp H O H O' ∧ Rep K mg B O' (frz i ρ) σ H := by
  unfold DL.frz
  split
  · rename_i ds h
    obtain ⟨v, h1, p, rfl, o, n, vs, q, r⟩ := R.slot i _ h
    have li : i < ρ.length := (List.getElem?_eq_some_iff.mp h).1
    have keep : ∀ {j : Nat} {t : Slot}, i ≠ j → (ρ.set i (some (.dat (.lst ds))))[j]? = some (some t) → ρ[j]? = some (some t) := fun {j t} hj ht => by
      rw [List.getElem?_set_ne hj] at ht
      exact ht
    have isI : ∀ {t : Slot}, (ρ.set i (some (.dat (.lst ds))))[i]? = some (some t) → t = .dat (.lst ds) := fun {t} ht => by
      rw [List.getElem?_set_self li] at ht
      cases ht
      rfl
    refine ⟨O.sub p, kp_sub, ?_⟩
    exact {
      len := by rw [List.length_set, R.len]
      slot := fun j t ht => by
        by_cases hj : i = j
        · subst hj
          cases isI ht
          have r' := r.kp (kp_sub (O := O) (p := p))
          exact ⟨.ref p, h1, .lst q (fun z => z.2 rfl) r'.1 r'.2⟩
        · have ht' := keep hj ht
          obtain ⟨w, e1, e2⟩ := R.slot j t ht'
          refine ⟨w, e1, e2.kp kp_sub fun b e m => ?_⟩
          subst e
          exact ⟨rfl, R.mu_O ⟨j, t, ht', m, e1⟩, fun z => hj (R.apart i j _ t p h ht' rfl m h1 (z ▸ e1))⟩
      apart := fun j k s t a x1 x2 m1 m2 e1 e2 => by
        have n1 : i ≠ j := fun z => by subst z; cases isI x1; cases m1
        have n2 : i ≠ k := fun z => by subst z; cases isI x2; cases m2
        exact R.apart j k s t a (keep n1 x1) (keep n2 x2) m1 m2 e1 e2
      base := R.base
      live := fun a o => R.live a o.1
      o0 := fun a x => ⟨R.o0 a x, fun z => R.b0 a x (z ▸ n)⟩
      b0 := R.b0
      pao := R.pao }
  · exact ⟨O, .refl, R⟩
end
section
variable {X : Cx} {W : Wi} {st : Stmt} {sts : List Stmt} {g : G} {e : Expr} {es : List Expr} {f : F} {fl : FL} {pos : Pos}
theorem ds_frz (i : Nat) (h : DS X W st g) : DS X W st (fun ρ => g (frz i ρ)) := by
  obtain ⟨t, p, q⟩ := h
  refine ⟨t, p, fun B ρ σ H O D R x => ?_⟩
  obtain ⟨O', k, R'⟩ := R.frz i
  exact q B _ σ H O' D R' (SPost.on k x)
theorem dss_frz (i : Nat) (h : DSs X W sts g) : DSs X W sts (fun ρ => g (frz i ρ)) := by
  obtain ⟨t, p, q⟩ := h
  refine ⟨t, p, fun B ρ σ H O D R x => ?_⟩
  obtain ⟨O', k, R'⟩ := R.frz i
  exact q B _ σ H O' D R' (SPost.on k x)
/-- an expression that gives a NEW list -/
def DN (X : Cx) (W : Wi) (e : Expr) (f : FL) : Prop := ∃ t : TE, PE X e t ∧ ∀ (B : W.BB) (ρ : En) (σ : Sl) (H : Hp) (O : Av) (Q : VK), Rep X.K X.mg B.1 O ρ σ H →
  RPost (f ρ) (fun ds ρ' => ∀ vs p H', Go X.K X.mg B.1 O σ ρ H ρ' H' → H' p = none → RpL X.K X.mg H' O vs ds → Q (.ref p) (upd H' p (.lst vs))) (ErE X B.1 W O σ ρ H) → t σ H Q
def fOfL (f : FL) : F := fun ρ => (f ρ).bind fun ds ρ1 => .ok (.lst ds) ρ1
theorem DN.de (h : DN X W e fl) : DE X W e (fOfL fl) := by
  obtain ⟨t, p, i⟩ := h
  refine ⟨t, p, fun B ρ σ H O Q R x => ?_⟩
  unfold fOfL at x
  rw [rpost_bind] at x
  refine i B ρ σ H O Q R (x.mono (fun ds ρ1 x vs q H1 g hq r => ?_) fun _ _ _ e => e)
  have s := same_new (o := .lst vs) hq
  have r2 := r.kp (O' := O) (Same.kp s)
  exact x _ _ (g.trans (.same g.rep s)) (.lst upd_same (fresh_not g.rep.live hq) r2.1 r2.2)
def fDisp (f : FL) : FL := fun ρ => (f ρ).bind fun ds ρ1 => if ds.length ≤ sizeLine then .ok ds ρ1 else .stuck
theorem dn_lst (h : DA X W es fl) : DN X W (.List es pos) (fDisp fl) := by
  obtain ⟨t, pa, ia⟩ := h
  refine ⟨_, pe_lst pa, fun B ρ σ H O Q R p => ?_⟩
  unfold fDisp at p
  rw [rpost_bind] at p
  refine ia B ρ σ H O _ R (p.mono (fun ds ρ1 p vs H1 g1 r1 => ?_) fun _ _ _ e => e)
  split at p
  · rename_i hl
    exact ⟨r1.1.symm ▸ hl, fun q hq => p vs q H1 g1 hq r1⟩
  · exact p.elim
def gOwn (i : Nat) (f : FL) : G := fun ρ => (f ρ).sr fun ds ρ1 => .nx (ρ1.set i (some (.own ds)))
theorem ds_own {i : Nat} {x : Str} {pos' : Pos} (hN : X.N.Nodup) (he : DN X W e fl) (hi : X.N[i]? = some x := by rfl) (hx : Loc X.env.scope x := by first | exact .inl rfl | exact .inr rfl) (hs : swapsWith e (some (.Name x pos')) pos.line X.env = pure false := by rfl) (hf : X.fn x = true ∨ X.env.scope.names.lookup x = some .local := by first | exact .inl rfl | exact .inr rfl | assumption) :
    DS X W (.Assign [.Name x pos'] e pos) (gOwn i fl) := by
  obtain ⟨t, pe, ie⟩ := he
  refine ⟨_, ps_set hN hi hx pe hs hf, fun B ρ σ H O D R p => ?_⟩
  refine ie B ρ σ H O _ R ((spost_sr R p).mono (fun ds ρ1 p vs q H1 g hq r => ?_) fun _ _ _ e => e)
  exact p H1 g (σ.set i (some (.ref q))) _ (O.add q) (kp_add hq) (g.rep.setOwn hq r)
/-! what the slot's list is asked -/
def slotList (ρ : En) (i : Nat) : Option (List D) := match ρ[i]? with
  | some (some s) => s.list
  | _ => none
def slotPut (ρ : En) (i : Nat) (ds : List D) : Option En := match ρ[i]? with
  | some (some s) => (s.put ds).map fun s' => ρ.set i (some s')
  | _ => none
theorem slotList_at {ρ : En} {i : Nat} {ds : List D} (h : slotList ρ i = some ds) : ∃ s, ρ[i]? = some (some s) ∧ s.list = some ds := by
  unfold slotList at h
  split at h
  · rename_i s e
    exact ⟨s, e, h⟩
  · cases h
theorem slotPut_at {ρ ρ' : En} {i : Nat} {ds : List D} (h : slotPut ρ i ds = some ρ') : ∃ s s', ρ[i]? = some (some s) ∧ s.put ds = some s' ∧ ρ' = ρ.set i (some s') := by
  unfold slotPut at h
  split at h
  · rename_i s e
    cases q : s.put ds with
    | none => rw [q] at h; cases h
    | some s' => rw [q] at h; cases h; exact ⟨s, s', e, q, rfl⟩
  · cases h
/-- x.append(e) -/
def gApp (i : Nat) (f : F) : G := fun ρ => match slotList ρ i with
  | none => .stuck
  | some _ => (f ρ).sr fun d ρ1 => match slotList ρ1 i with
    | some ds => if ds.length < sizeLine then (match slotPut ρ1 i (ds ++ [d]) with
        | some ρ2 => .nx ρ2
        | none => .stuck) else .stuck
    | none => .stuck
theorem Rep.listOf {B : Base} {O : Av} {ρ : En} {σ : Sl} {H : Hp} {i : Nat} {ds : List D} {K : PySem.W.Frag} {mg : Str → Option Value} (R : Rep K mg B O ρ σ H) (h : slotList ρ i = some ds) :
    ∃ a vs, σ[i]? = some (some (.ref a)) ∧ O a ∧ H a = some (.lst vs) ∧ RpL K mg H O vs ds := by
  obtain ⟨s, h1, h2⟩ := slotList_at h
  obtain ⟨a, vs, e1, e2, e3, e4, _⟩ := R.listAt h1 h2
  exact ⟨a, vs, e1, e2, e3, e4⟩
theorem Rep.putL {B : Base} {O : Av} {ρ ρ' : En} {σ : Sl} {H : Hp} {i : Nat} {a : Addr} {vs : List V} {ds : List D} {K : PySem.W.Frag} {mg : Str → Option Value} (R : Rep K mg B O ρ σ H) (h : slotPut ρ i ds = some ρ') (hs : σ[i]? = some (some (.ref a))) (r : RpL K mg H O vs ds) :
    Go K mg B O σ ρ H ρ' (upd H a (.lst vs)) ∧ Kp H O (upd H a (.lst vs)) O := by
  obtain ⟨s, s', h1, h2, rfl⟩ := slotPut_at h
  exact R.writeL h1 hs (by
    cases s with
    | dat d => cases h2
    | exc c fs => cases h2
    | own xs => rfl
    | par k c => rfl) h2 r
theorem ds_app {i : Nat} {x : Str} {p1 apos cpos : Pos} (he : DE X W e f) (hN : X.N[i]? = some x := by rfl) (hv : Vis X.env.scope x := by first | exact Or.inl rfl | exact Or.inr (Or.inl rfl) | exact Or.inr (Or.inr rfl)) (hd : (x == ("__debug__" : Str)) = false := by decide)
    (hcd : (x == ("__classdict__" : Str)) = false := by decide) (hbase : attributeBase (.Name x p1) "append" X.env (eval (.Name x p1) X.env) = eval (.Name x p1) X.env := by rfl)
    (hfew : ((backTo cpos (starEach [e] X.env)).all (fun x => !x.1) && (backToKw cpos (keywordEach [] X.env)).all (fun x => x.1.isSome)
      && decide (([e] : List Expr).length + ([] : List Keyword).length + (if ([] : List Keyword).isEmpty then 0 else 1) < 30)) = true := by rfl)
    (hline : (apos.endLine == cpos.line) = true := by rfl) (hs : starEach [e] X.env = (false, eval e X.env) :: starEach [] X.env := by rfl) (hplain : (backTo cpos (starEach [] X.env)).any (·.1) = false := by rfl)
    (hsw : swapsWith (.Call (.Attribute (.Name x p1) "append" apos) [e] [] cpos) none pos.line X.env = pure false := by rfl) :
    DS X W (.Expr (.Call (.Attribute (.Name x p1) "append" apos) [e] [] cpos) pos) (gApp i f) := by
  obtain ⟨t, pe, ie⟩ := he
  refine ⟨_, ps_expr (pe_bm PySem.F.plainAttrs_list PySem.F.slot_list_append PySem.F.type_list_append mt_append (pe_var hN hv hd hcd) (pa_cons pe pa_nil hs) hbase hfew hline hs hplain) hsw, fun B ρ σ H O D R p => ?_⟩
  unfold gApp at p
  split at p
  · exact p.elim
  · rename_i ds0 h0
    obtain ⟨a, vs0, e1, _, e3, _⟩ := R.listOf h0
    refine ⟨.ref a, e1, .inl ⟨rfl, _, SqL.of e3⟩, ie B ρ σ H O _ R ((spost_sr R p).mono (fun d ρ1 p y H1 g r => ?_) fun _ _ _ e => e)⟩
    have p := p H1 g
    split at p
    · rename_i ds h
      split at p
      · rename_i hl
        split at p
        · rename_i ρ2 h2
          obtain ⟨a', vs, f1, _, f3, f4⟩ := g.rep.listOf h
          rw [e1] at f1
          cases f1
          refine ⟨a, vs, y, rfl, rfl, f3, f4.1.symm ▸ hl, ?_⟩
          obtain ⟨go, k⟩ := g.rep.putL h2 e1 (f4.app (.cons r .nil))
          exact p σ _ O k go.rep
        · exact p.elim
      · exact p.elim
    · exact p.elim
/-- x[k] = e -/
def gSetIx (i : Nat) (fk f : F) : G := fun ρ => (f ρ).sr fun d ρ1 => match slotList ρ1 i with
  | none => .stuck
  | some _ => (fk ρ1).sr fun k ρ2 => match k, slotList ρ2 i with
    | .int j, some ds => (match ixN ds.length j with
        | some n => (match slotPut ρ2 i (ds.set n d) with
            | some ρ3 => .nx ρ3
            | none => .stuck)
        | none => .stuck)
    | _, _ => .stuck
theorem ds_setix {i : Nat} {x : Str} {p1 tpos : Pos} {k : Expr} {fk : F} (he : DE X W e f) (hk : DE X W k fk) (hN : X.N[i]? = some x := by rfl) (hv : Vis X.env.scope x := by first | exact Or.inl rfl | exact Or.inr (Or.inl rfl) | exact Or.inr (Or.inr rfl)) (hd : (x == ("__debug__" : Str)) = false := by decide)
    (hcd : (x == ("__classdict__" : Str)) = false := by decide)
    (ha : ∀ v, assign (.Subscript (.Name x p1) k tpos) X.env v = (do
      let ov ← holding [v] (eval (.Name x p1) X.env)
      let iv ← holding [v, ov] (eval k X.env)
      standAt tpos
      holding [v, ov, iv] (setItem ov iv v)
      release [v, ov, iv] []) := by intro _; rfl)
    (hs : swapsWithSole [.Subscript (.Name x p1) k tpos] e pos.line X.env = pure false := by rfl) (hw : swappedStores [.Subscript (.Name x p1) k tpos] e X.env = pure none := by rfl)
    (h1 : (assignEach [.Subscript (.Name x p1) k tpos] X.env).map (·.2) = [assign (.Subscript (.Name x p1) k tpos) X.env] := by rfl) :
    DS X W (.Assign [.Subscript (.Name x p1) k tpos] e pos) (gSetIx i fk f) := by
  obtain ⟨t, pe, ie⟩ := he
  obtain ⟨u, pk, ik⟩ := hk
  refine ⟨_, ps_asg pe (pg_sub (pe_var hN hv hd hcd) pk set_list ha) hs hw h1, fun B ρ σ H O D R p => ?_⟩
  unfold gSetIx at p
  refine ie B ρ σ H O _ R ((spost_sr R p).mono (fun d ρ1 p y H1 g r => ?_) fun _ _ _ e => e)
  have p := p H1 g
  split at p
  · exact p.elim
  · rename_i ds0 h0
    obtain ⟨a, vs0, e1, _, e3, _⟩ := g.rep.listOf h0
    refine ⟨.ref a, e1, ik B ρ1 σ H1 O _ g.rep ((spost_sr g.rep p).mono (fun kd ρ2 p z H2 g2 r2 => ?_) fun _ _ _ e => e)⟩
    replace p := p H2 g2
    split at p
    · rename_i j ds h
      split at p
      · rename_i n hn
        split at p
        · rename_i ρ3 h3
          obtain ⟨a', vs, f1, _, f3, f4⟩ := g2.rep.listOf h
          rw [e1] at f1
          cases f1
          cases r2
          refine ⟨a, vs, j, n, rfl, rfl, f3, f4.1.symm ▸ hn, ?_⟩
          obtain ⟨go, kp⟩ := g2.rep.putL h3 e1 (f4.set n (r.kp (g2.kp g.rep)))
          exact p σ _ O kp go.rep
        · exact p.elim
      · exact p.elim
    · exact p.elim
/-- x[k], x a list of one's own -/
def fIxO (i : Nat) (fk : F) : F := fun ρ => match slotList ρ i with
  | none => .stuck
  | some _ => (fk ρ).bind fun k ρ1 => match k, slotList ρ1 i with
    | .int j, some ds => R.of (atI ds j) ρ1
    | _, _ => .stuck
theorem atI_rp {K : PySem.W.Frag} {mg : Str → Option Value} {H : Hp} {O : Av} {vs : List V} {ds : List D} {j : Int} {d : D} (r : RpL K mg H O vs ds) (h : atI ds j = some d) : ∃ v, atI vs j = some v ∧ Rp K mg H O v d := by
  unfold atI at h ⊢
  rw [r.1]
  cases q : ixN ds.length j with
  | none => rw [q] at h; cases h
  | some n =>
    rw [q] at h
    exact r.get h
theorem de_ixo {i : Nat} {x : Str} {p1 : Pos} {k : Expr} {fk : F} (hk : DE X W k fk) (hN : X.N[i]? = some x := by rfl) (hv : Vis X.env.scope x := by first | exact Or.inl rfl | exact Or.inr (Or.inl rfl) | exact Or.inr (Or.inr rfl)) (hd : (x == ("__debug__" : Str)) = false := by decide)
    (hcd : (x == ("__classdict__" : Str)) = false := by decide) (hs : PlainIx k := by exact fun _ _ => rfl) : DE X W (.Subscript (.Name x p1) k pos) (fIxO i fk) := by
  obtain ⟨u, pk, ik⟩ := hk
  refine ⟨_, pe_ix ix_list (pe_var hN hv hd hcd) pk hs, fun B ρ σ H O Q R p => ?_⟩
  unfold fIxO at p
  split at p
  · exact p.elim
  · rename_i ds0 h0
    obtain ⟨a, vs0, e1, _, e3, _⟩ := R.listOf h0
    rw [rpost_bind] at p
    refine ⟨.ref a, e1, ik B ρ σ H O _ R (p.mono (fun kd ρ1 p z H1 g r => ?_) fun _ _ _ e => e)⟩
    split at p
    · rename_i j ds h
      obtain ⟨d, hd, p⟩ := rpost_of p
      obtain ⟨a', vs, f1, _, f3, f4⟩ := g.rep.listOf h
      rw [e1] at f1
      cases f1
      cases r
      obtain ⟨v, hv, rv⟩ := atI_rp f4 hd
      exact ⟨a, vs, j, v, rfl, rfl, SqL.of f3, hv, p v H1 g rv⟩
    · exact p.elim
/-- len(x), x a list of one's own -/
def fLenO (i : Nat) : F := fun ρ => match slotList ρ i with
  | some ds => .ok (.int ds.length) ρ
  | none => .stuck
theorem de_leno {i : Nat} {x : Str} {p1 p' : Pos} (hg : Gl X "len") (hm : X.mg "len" = none) (hN : X.N[i]? = some x := by rfl) (hv : Vis X.env.scope x := by first | exact Or.inl rfl | exact Or.inr (Or.inl rfl) | exact Or.inr (Or.inr rfl)) (hd : (x == ("__debug__" : Str)) = false := by decide)
    (hcd : (x == ("__classdict__" : Str)) = false := by decide) (he : starEach [.Name x p1] X.env = (false, eval (.Name x p1) X.env) :: starEach [] X.env := by rfl) (hpl : (backTo pos (starEach [] X.env)).any (·.1) = false := by rfl) :
    DE X W (.Call (.Name "len" p') [.Name x p1] [] pos) (fLenO i) := by
  refine ⟨_, pe_callB call_len_seq hg hm PySem.boot_len (pa_cons (pe_var hN hv hd hcd) pa_nil he) (by decide) (by decide) he hpl, fun B ρ σ H O Q R p => ?_⟩
  unfold fLenO at p
  split at p
  · rename_i ds h
    obtain ⟨a, vs, e1, _, e3, e4⟩ := R.listOf h
    refine ⟨.ref a, e1, a, vs, rfl, .inl (SqL.of e3), ?_⟩
    have q := p (.int vs.length) H (Go.refl R) (by rw [e4.1]; exact .int _)
    exact q
  · exact p.elim
/-- return of a new list -/
def gRetn (f : FL) : G := fun ρ => (f ρ).sr fun ds ρ1 => .rtn ds ρ1
theorem ds_retn (he : DN X W e fl) : DS X W (.Return (some e) pos) (gRetn fl) := by
  obtain ⟨t, pe, i⟩ := he
  refine ⟨_, ps_ret pe, fun B ρ σ H O D R p => ?_⟩
  exact i B ρ σ H O _ R ((spost_sr R p).mono (fun ds ρ1 p vs q H1 g hq r => p H1 g vs q σ H1 O .refl g.rep hq r) fun _ _ _ e => e)
end
end DL

set_option Elab.async false
set_option linter.all false
set_option maxRecDepth 100000
/-! DL4: walks, for, while, comprehensions. -/
namespace DL
open PySem PySem.Spec PyProof.Rows L2

/-- the walk J gives the data ds, one after another, while what stood at its start goes on -/
def WalkD (K : PySem.W.Frag) (mg : Str → Option Value) (J : It) (ds : List D) (H1 : Hp) (O1 : Av) : Prop := ∀ H O, Kp H1 O1 H O → (∀ z, O z → H z ≠ none) →
  (∀ i d, ds[i]? = some d → J.go i H ∧ ∀ x H', J.yld i H x H' → Same H H' ∧ Rp K mg H' O x d) ∧ J.stop ds.length H
def DI (X : Cx) (W : Wi) (tg iter : Expr) (f : FL) : Prop := ∃ wi : TI, PI X tg iter wi ∧ ∀ (B : W.BB) (ρ : En) (σ : Sl) (H : Hp) (O : Av) (R' : It → Hp → Prop), Rep X.K X.mg B.1 O ρ σ H →
  RPost (f ρ) (fun ds ρ' => ∀ J H1, Go X.K X.mg B.1 O σ ρ H ρ' H1 → WalkD X.K X.mg J ds H1 O → R' J H1) (ErE X B.1 W O σ ρ H) → wi σ H R'
section
variable {X : Cx} {W : Wi} {tg iter e : Expr} {es : List Expr} {f : F} {fl : FL} {pos : Pos}
theorem pi_alt {w1 w2 : TI} (h1 : PI X tg iter w1) (h2 : PI X tg iter w2) : PI X tg iter (fun σ H R => w1 σ H R ∨ w2 σ H R) := ⟨fun pins s σ H R I h => h.elim (h1.run pins s σ H R I) (h2.run pins s σ H R I)⟩
/-- the signs of a text, each a text -/
def signs (x : Str) : List D := x.cps.toList.map fun c => .str ⟨#[c]⟩
def items : D → Option (List D)
  | .lst ds => some ds
  | .slst ds => some ds
  | .tup ds => some ds
  | .str x => some (signs x)
  | _ => none
def fIt (f : F) : FL := fun ρ => (f ρ).bind fun d ρ1 => R.of (items d) ρ1
theorem di_in (he : DE X W e f) : DI X W tg e (fIt f) := by
  obtain ⟨t, pe, ie⟩ := he
  refine ⟨_, pi_alt (pi_alt (pi_list pe) (pi_tup pe)) (pi_str pe), fun B ρ σ H O R' R p => ?_⟩
  unfold fIt at p
  rw [rpost_bind] at p
  have key : ∀ {α : Type}, True := trivial
  cases q : f ρ with
  | stuck => rw [q] at p; exact p.elim
  | err c fs ρ' =>
    rw [q] at p
    refine .inl (.inl (ie B ρ σ H O _ R ?_))
    rw [q]
    exact p
  | ok d ρ1 =>
    rw [q] at p
    obtain ⟨ds, hd, p⟩ := rpost_of p
    cases d with
    | lst xs =>
      cases hd
      refine .inl (.inl (ie B ρ σ H O _ R ?_))
      rw [q]
      intro v H1 g r
      cases r with
      | lst h o n el =>
        refine ⟨_, rfl, ⟨_, SqL.of h⟩, p _ H1 g fun H2 O2 k l => ⟨fun i d hi => ?_, _, SqL.of (k _ _ h o).1, Nat.le_of_eq n⟩⟩
        obtain ⟨v, hv, rv⟩ := RpL.get ⟨n, el⟩ hi
        exact ⟨⟨_, v, SqL.of (k _ _ h o).1, hv⟩, fun x H' y => by
          obtain ⟨rfl, y⟩ := y
          have e := (y _ (SqL.of (k _ _ h o).1)).symm.trans hv
          cases e
          exact ⟨Same.refl _, rv.kp k⟩⟩
    | slst xs =>
      cases hd
      refine .inl (.inl (ie B ρ σ H O _ R ?_))
      rw [q]
      intro v H1 g r
      cases r with
      | slst h n el =>
        refine ⟨_, rfl, ⟨_, h.sq⟩, p _ H1 g fun H2 O2 k l => ⟨fun i d hi => ?_, _, (h.kp k).sq, Nat.le_of_eq n⟩⟩
        obtain ⟨v, hv, rv⟩ := RpL.get ⟨n, el⟩ hi
        exact ⟨⟨_, v, (h.kp k).sq, hv⟩, fun x H' y => by
          obtain ⟨rfl, y⟩ := y
          have e := (y _ (h.kp k).sq).symm.trans hv
          cases e
          exact ⟨Same.refl _, rv.kp k⟩⟩
    | tup xs =>
      cases hd
      refine .inl (.inr (ie B ρ σ H O _ R ?_))
      rw [q]
      intro v H1 g r
      cases r with
      | tup h n el =>
        refine ⟨_, rfl, ⟨_, h.sq⟩, p _ H1 g fun H2 O2 k l => ⟨fun i d hi => ?_, _, (h.kp k).sq, Nat.le_of_eq n⟩⟩
        obtain ⟨v, hv, rv⟩ := RpL.get ⟨n, el⟩ hi
        exact ⟨⟨_, v, (h.kp k).sq, hv⟩, fun x H' y => by
          obtain ⟨rfl, y⟩ := y
          have e := (y _ (h.kp k).sq).symm.trans hv
          cases e
          exact ⟨Same.refl _, rv.kp k⟩⟩
    | str x =>
      cases hd
      refine .inr (ie B ρ σ H O _ R ?_)
      rw [q]
      intro v H1 g r
      cases r with
      | str s =>
        refine ⟨x, rfl, p _ H1 g fun H2 O2 k l => ⟨fun i d hi => ?_, by
          show x.cps.size ≤ (signs x).length
          rw [signs, List.length_map, Array.length_toList]
          exact Nat.le_refl _⟩⟩
        rw [signs, List.getElem?_map] at hi
        cases hc : x.cps.toList[i]? with
        | none => rw [hc] at hi; cases hi
        | some c =>
          rw [hc] at hi
          cases hi
          rw [Array.getElem?_toList] at hc
          refine ⟨(Array.getElem?_eq_some_iff.mp hc).1, fun x' H' y => ?_⟩
          obtain ⟨rfl, c', e1, rfl⟩ := y
          rw [hc] at e1
          cases e1
          exact ⟨Same.refl _, .str _⟩
    | _ => cases hd
def intsL (lo : Int) (n : Nat) : List D := (List.range n).map fun i => .int (lo + (i : Nat))
theorem walk_ints {K : PySem.W.Frag} {mg : Str → Option Value} {lo : Int} {n : Nat} {H1 : Hp} {O1 : Av} : WalkD K mg (Itr lo n) (intsL lo n) H1 O1 := fun H O k l => ⟨fun i d hi => by
  rw [intsL, List.getElem?_map] at hi
  by_cases h : i < n
  · rw [List.getElem?_range h] at hi
    cases hi
    refine ⟨h, fun x H' y => ?_⟩
    obtain ⟨rfl, rfl⟩ := y
    exact ⟨Same.refl _, .int _⟩
  · rw [List.getElem?_eq_none (by rw [List.length_range]; omega)] at hi
    exact (nomatch hi), by
  show n ≤ (intsL lo n).length
  rw [intsL, List.length_map, List.length_range]
  exact Nat.le_refl _⟩
def fRange1 (f : FL) : FL := fun ρ => (f ρ).bind fun ds ρ1 => match ds with
  | [.int j] => if -(2 ^ 62) ≤ j ∧ j < 2 ^ 62 then .ok (intsL 0 j.toNat) ρ1 else .stuck
  | _ => .stuck
def fRange2 (f : FL) : FL := fun ρ => (f ρ).bind fun ds ρ1 => match ds with
  | [.int i, .int j] => if -(2 ^ 62) ≤ i ∧ i < 2 ^ 62 ∧ -(2 ^ 62) ≤ j ∧ j < 2 ^ 62 then .ok (intsL i (j - i).toNat) ρ1 else .stuck
  | _ => .stuck
theorem RpL.one {K : PySem.W.Frag} {mg : Str → Option Value} {H : Hp} {O : Av} {vs : List V} {d : D} (h : RpL K mg H O vs [d]) : ∃ v, vs = [v] ∧ Rp K mg H O v d := by
  match vs, h with
  | [v], h => exact ⟨v, rfl, h.uncons.1⟩
  | [], h => exact nomatch h.1
  | _ :: _ :: _, h => exact nomatch h.1
theorem RpL.two {K : PySem.W.Frag} {mg : Str → Option Value} {H : Hp} {O : Av} {vs : List V} {d d' : D} (h : RpL K mg H O vs [d, d']) : ∃ v w, vs = [v, w] ∧ Rp K mg H O v d ∧ Rp K mg H O w d' := by
  match vs, h with
  | [v, w], h => exact ⟨v, w, rfl, h.uncons.1, h.uncons.2.uncons.1⟩
  | [], h => exact nomatch h.1
  | [_], h => exact nomatch h.1
  | _ :: _ :: _ :: _, h => exact nomatch h.1
theorem Rp.int_inv {K : PySem.W.Frag} {mg : Str → Option Value} {H : Hp} {O : Av} {v : V} {k : Int} (h : Rp K mg H O v (.int k)) : v = .int k := by
  cases h; rfl
theorem Rp.str_inv {K : PySem.W.Frag} {mg : Str → Option Value} {H : Hp} {O : Av} {v : V} {k : Str} (h : Rp K mg H O v (.str k)) : v = .str k := by
  cases h; rfl
theorem Rp.non_inv {K : PySem.W.Frag} {mg : Str → Option Value} {H : Hp} {O : Av} {v : V} (h : Rp K mg H O v .non) : v = .non := by
  cases h; rfl
theorem di_range1 {a : Expr} {p : Pos} (hg : Gl X "range") (hm : X.mg "range" = none) (ha : DA X W [a] fl) (hs : starEach [a] X.env = [(false, eval a X.env)] := by rfl) : DI X W tg (.Call (.Name "range" p) [a] [] pos) (fRange1 fl) := by
  obtain ⟨t, pa, ia⟩ := ha
  refine ⟨_, pi_range1 hg hm pa hs, fun B ρ σ H O R' R p => ?_⟩
  unfold fRange1 at p
  rw [rpost_bind] at p
  refine ia B ρ σ H O _ R (p.mono (fun ds ρ1 p vs H1 g r => ?_) fun _ _ _ e => e)
  split at p
  · rename_i j
    split at p
    · rename_i hj
      obtain ⟨v, rfl, r1⟩ := r.one
      cases r1.int_inv
      exact ⟨j, rfl, hj.1, hj.2, p _ H1 g walk_ints⟩
    · exact p.elim
  · exact p.elim
theorem di_range2 {a b : Expr} {p : Pos} (hg : Gl X "range") (hm : X.mg "range" = none) (ha : DA X W [a, b] fl) (hs : starEach [a, b] X.env = [(false, eval a X.env), (false, eval b X.env)] := by rfl) (hs2 : starEach [b] X.env = [(false, eval b X.env)] := by rfl) : DI X W tg (.Call (.Name "range" p) [a, b] [] pos) (fRange2 fl) := by
  obtain ⟨t, pa, ia⟩ := ha
  refine ⟨_, pi_range2 hg hm pa hs hs2, fun B ρ σ H O R' R p => ?_⟩
  unfold fRange2 at p
  rw [rpost_bind] at p
  refine ia B ρ σ H O _ R (p.mono (fun ds ρ1 p vs H1 g r => ?_) fun _ _ _ e => e)
  split at p
  · rename_i i j
    split at p
    · rename_i hj
      obtain ⟨v, w, rfl, r1, r2⟩ := r.two
      cases r1.int_inv
      cases r2.int_inv
      exact ⟨i, j, rfl, hj, p _ H1 g walk_ints⟩
    · exact p.elim
  · exact p.elim

/-! ### for -/
def forL (t : D → En → Option En) (body : G) : List D → G
  | [], ρ => .nx ρ
  | d :: ds, ρ => match t d ρ with
    | none => .stuck
    | some ρ1 => match body ρ1 with
      | .nx ρ2 => forL t body ds ρ2
      | .ct ρ2 => forL t body ds ρ2
      | .bk ρ2 => .nx ρ2
      | .rt d ρ2 => .rt d ρ2
      | .rtn ds ρ2 => .rtn ds ρ2
      | .err c fs ρ2 => .err c fs ρ2
      | .stuck => .stuck
def gFor (it : FL) (t : D → En → Option En) (body : G) : G := fun ρ => (it ρ).sr fun ds ρ1 => forL t body ds ρ1
theorem ds_for {body : List Stmt} {ts : List Nat} {t : D → En → Option En} {g : G} (hp : PassesOwn (model X.prog X.w) X.A X.env X.xe) (hc : X.calm = true) (hi : DI X W tg iter fl) (hg : DG X tg ts t) (hb : DSs X W body g)
    (hs : ∀ x, foldedSetIterable iter X.env x = pure x := by intro _; rfl) : DS X W (.For tg iter body [] pos) (gFor fl t g) := by
  obtain ⟨wi, pi, ii⟩ := hi
  obtain ⟨tt, pt, it⟩ := hg
  obtain ⟨tb, pb, ib⟩ := hb
  refine ⟨_, ps_for hp hc pi pt pb hs, fun B ρ σ H O D R p => ?_⟩
  refine ii B ρ σ H O _ R ((spost_sr R p).mono (fun ds ρ1 p J H1 g1 wk => ?_) fun _ _ _ e => e)
  have p := p H1 g1
  let Wv : Nat → Nat → Sl → Hp → Prop := fun i m σ' H' => m + i = ds.length ∧ ∃ ρ' O', Kp H1 O H' O' ∧ Rep X.K X.mg B.1 O' ρ' σ' H' ∧ SPost X B.1 W D H' O' (forL t g (ds.drop i) ρ')
  refine ⟨Wv, ⟨ds.length, rfl, ρ1, O, .refl, g1.rep, p⟩, fun i m σ2 H2 hW => ?_⟩
  obtain ⟨hm, ρ2, O2, k2, R2, p2⟩ := hW
  obtain ⟨hgo, hstop⟩ := wk H2 O2 k2 R2.live
  by_cases hi : i < ds.length
  · have hd : ds[i]? = some ds[i] := List.getElem?_eq_getElem hi
    obtain ⟨go, yl⟩ := hgo i _ hd
    rw [List.drop_eq_getElem_cons hi] at p2
    unfold forL at p2
    split at p2
    · exact p2.elim
    · rename_i ρ3 h3
      refine .inr ⟨go, Wv (i + 1) (m - 1), fun σ' H' hN => ⟨m - 1, by omega, hN⟩, fun x H3 hy => ?_⟩
      obtain ⟨s3, r3⟩ := yl x H3 hy
      refine it B.1 ρ2 ρ3 σ2 H3 O2 x ds[i] _ (R2.same s3) r3 h3 fun σ4 H4 s4 R4 _ => ?_
      refine ib B ρ3 σ4 H4 O2 _ R4 ?_
      have k4 : Kp H2 O2 H4 O2 := (Same.kp s3).trans (Same.kp s4)
      split at p2
      · rename_i ρ5 h5
        rw [h5]
        exact fun σ' H' O' k' R' => ⟨by omega, ρ5, O', k2.trans (k4.trans k'), R', SPost.on (k4.trans k') p2⟩
      · rename_i ρ5 h5
        rw [h5]
        exact fun σ' H' O' k' R' => ⟨by omega, ρ5, O', k2.trans (k4.trans k'), R', SPost.on (k4.trans k') p2⟩
      · rename_i ρ5 h5
        rw [h5]
        exact fun σ' H' O' k' R' => p2 σ' H' O' (k4.trans k') R'
      · rename_i d ρ5 h5
        rw [h5]
        exact fun v σ' H' O' k' R' => p2 v σ' H' O' (k4.trans k') R'
      · rename_i d ρ5 h5
        rw [h5]
        exact fun vs q σ' H' O' k' R' => p2 vs q σ' H' O' (k4.trans k') R'
      · rename_i c fs ρ5 h5
        rw [h5]
        exact fun C od σ' H' O' k' R' => p2 C od σ' H' O' (k4.trans k') R'
      · exact p2.elim
  · have hi' : i = ds.length := by omega
    subst hi'
    rw [List.drop_length] at p2
    exact .inl ⟨hstop, p2 σ2 H2 O2 .refl R2⟩

/-! ### while: n turns are enough -/
def whileN (c : FB) (body : G) : Nat → G
  | 0, _ => .stuck
  | n + 1, ρ => (c ρ).sr fun k ρ1 => if k = true then (match body ρ1 with
      | .nx ρ2 => whileN c body n ρ2
      | .ct ρ2 => whileN c body n ρ2
      | .bk ρ2 => .nx ρ2
      | .rt d ρ2 => .rt d ρ2
      | .rtn ds ρ2 => .rtn ds ρ2
      | .err c fs ρ2 => .err c fs ρ2
      | .stuck => .stuck) else .nx ρ1
def gWhile (c : FB) (body : G) (n : En → Nat) : G := fun ρ => whileN c body (n ρ) ρ
theorem ds_while {c : Expr} {fc : FB} {body : List Stmt} {g : G} {n : En → Nat} (hp : PassesOwn (model X.prog X.w) X.A X.env X.xe) (hc : DT X W c fc) (hb : DSs X W body g) : DS X W (.While c body [] pos) (gWhile fc g n) := by
  obtain ⟨tc, pc, ic⟩ := hc
  obtain ⟨tb, pb, ib⟩ := hb
  refine ⟨_, ps_while hp pc pb, fun B ρ σ H O D R p => ?_⟩
  let Wv : Nat → Sl → Hp → Prop := fun m σ' H' => ∃ ρ' O', Rep X.K X.mg B.1 O' ρ' σ' H' ∧ SPost X B.1 W D H' O' (whileN fc g m ρ')
  refine ⟨Wv, ⟨n ρ, ρ, O, R, p⟩, fun m σ2 H2 hW => ?_⟩
  obtain ⟨ρ2, O2, R2, p2⟩ := hW
  cases m with
  | zero => exact p2.elim
  | succ m =>
    refine ic B ρ2 σ2 H2 O2 _ R2 ((spost_sr R2 (by rw [whileN] at p2; exact p2)).mono (fun k ρ3 p3 H3 g3 => ?_) fun _ _ _ e => e)
    have p3 := p3 H3 g3
    cases k with
    | false =>
      rw [if_neg Bool.false_ne_true] at p3 ⊢
      exact p3 σ2 H3 O2 .refl g3.rep
    | true =>
      rw [if_pos rfl] at p3 ⊢
      refine ⟨Wv m, fun σ' H' hN => ⟨m, Nat.lt_succ_self m, hN⟩, ib B ρ3 σ2 H3 O2 _ g3.rep ?_⟩
      split at p3
      · rename_i ρ5 h5
        rw [h5]
        exact fun σ' H' O' k' R' => ⟨ρ5, O', R', SPost.on k' p3⟩
      · rename_i ρ5 h5
        rw [h5]
        exact fun σ' H' O' k' R' => ⟨ρ5, O', R', SPost.on k' p3⟩
      · rename_i ρ5 h5
        rw [h5]
        exact p3
      · rename_i d ρ5 h5
        rw [h5]
        exact p3
      · rename_i d ρ5 h5
        rw [h5]
        exact p3
      · rename_i c fs ρ5 h5
        rw [h5]
        exact p3
      · exact p3.elim
end
end DL

set_option Elab.async false
set_option linter.all false
set_option maxRecDepth 100000
/-! DL5: walks that hand out tuples: enumerate, zip of two and of three, over lists and tuples alike. -/
namespace DL
open PySem PySem.Spec PyProof.Rows L2

/-- a walk that gives a new tuple at each turn, its rows told by what stands in the heap -/
def ItR (Src : Hp → List (List V) → Prop) : It :=
  ⟨fun i H => ∃ rows r, Src H rows ∧ rows[i]? = some r,
   fun i H v H' => ∃ T r, v = .ref T ∧ H T = none ∧ H' = upd H T (.tup r) ∧ ∀ rows, Src H rows → rows[i]? = some r,
   fun i H => ∃ rows, Src H rows ∧ rows.length = i⟩
theorem turn_rows {P : Program} {w : World} {K : PySem.W.Frag} {elts : List Expr} {kk : Nat} {tpos : Pos} (Src : Hp → List (List V) → Prop) (e : Addr) (wr fp : List Addr) (tn : Nat → Heap → Prop) (me : e ∈ fp) (sub : ∀ b, b ∈ wr → b ∈ fp)
    (obj : ∀ i h, tn i h → ∀ b, b ∈ fp → ∃ o, h.get? b = some o ∧ ∀ v, o.data ≠ .cell v)
    (keep : ∀ i h h', tn i h → (∀ b, b ∈ fp → ∀ o, h.get? b = some o → h'.get? b = some o) → tn i h')
    (self : ∀ (A : Around) (i : Nat) (s : Shared) (Q : Value → Shared → Prop) (E : Value → Shared → Prop), tn i s.heap → Q (.ref e) s → wpAny (model P w) A (pyIter (.ref e)) Q E s)
    (src : ∀ (X : Cx), X.prog = P → X.w = w → X.K = K → X.calm = true → ∀ (i : Nat) (pins : List (Addr × Obj)) (s : Shared) (σ : Sl) (H : Hp), Inv X pins σ H s → tn i s.heap → (∀ b, b ∈ fp → H b = none) → ∀ rows, Src H rows →
      (∀ rows', Src H rows' → rows' = rows) ∧
      ∃ f2 Pt St Mid, WalksT P w X.A e f2 wr rows.length Pt St Mid ∧ St i s.heap ∧ (∀ j h, St j h → (∀ b, b ∈ fp → b ∉ wr → s.heap.get? b = h.get? b) → tn j h) ∧
        ∀ j vals, Pt j vals → ∃ r, rows[j]? = some r ∧ r.length ≤ 3 ∧ Vals r vals.toList) :
    Turn P w K (.Tuple elts kk tpos) (ItR Src) fp e tn where
  mem := me
  obj := obj
  keep := keep
  item := by
    intro X hP hw hK hc i pins s σ H E I hf st hg
    obtain ⟨rows, r, hs, hr⟩ := hg
    have lt : i < rows.length := (List.getElem?_eq_some_iff.mp hr).1
    obtain ⟨uq, f2, Pt, St, Mid, WT, s0, back, pt⟩ := src X hP hw hK hc i pins s σ H I st (fun b hb => (hf b hb).1) rows hs
    subst hP hw hK
    refine WT.item i s _ E lt s0 fun T vals h' tk hp hT tup mid k1 => ?_
    refine ⟨_, rfl, WT.go elts kk tpos i T _ _ E mid fun h2 s2 k2 => ?_⟩
    obtain ⟨r', hr', hl, rv⟩ := pt i vals hp
    rw [hr] at hr'
    cases hr'
    have nT : T ∉ wr := WT.apart i T h' mid
    obtain ⟨oT, e1, e2, n, e3⟩ := tup
    have new : ObjOk X.prog X.w (upd H T (.tup r)) h2 T (.tup r) :=
      ⟨Nat.le_trans hl (by decide), vals.toList, rv, oT, k2 T oT nT e1, e2, n, by simpa using e3⟩
    have kk2 : ∀ b ob, b ∉ wr → s.heap.get? b = some ob → h2.get? b = some ob := fun b ob nb q => k2 b ob nb (k1 b ob nb q)
    have I1 : Inv X pins σ (upd H T (.tup r)) { s with heap := h2, toks := tk } := I.turnedNew kk2 (fun b hb => hf b (sub b hb)) hT new
    refine ⟨.ref T, _, I1, rfl, ⟨T, r, rfl, I.hok.fresh hT, rfl, fun rows' h => by rw [uq rows' h]; exact hr⟩, back (i + 1) h2 s2 fun b hb nb => ?_, fun b hb => ?_⟩
    · obtain ⟨ob, q, _⟩ := obj i s.heap st b hb
      rw [q]
      exact (kk2 b ob nb q).symm
    · obtain ⟨ob, q, _⟩ := obj i s.heap st b hb
      have hlt : b < s.heap.objs.size := Heap.lt_size q
      rw [upd_ne (Nat.ne_of_lt (Nat.lt_of_lt_of_le hlt hT))]
      exact (hf b hb).1
  done := by
    intro X hP hw hK hc i pins s σ H E I hf st hg
    obtain ⟨rows, hs, hr⟩ := hg
    obtain ⟨uq, f2, Pt, St, Mid, WT, s0, back, pt⟩ := src X hP hw hK hc i pins s σ H I st (fun b hb => (hf b hb).1) rows hs
    subst hP hw hK
    subst hr
    exact WT.done s _ E s0 fun h' tk k1 => ⟨rfl, I.turnedL k1 fun b hb => hf b (sub b hb)⟩
  self := self
/-- what may be walked beside others: a list or a tuple -/
def Seq (K : PySem.W.Frag) (H : Hp) (a : Addr) (vs : List V) : Prop := SqL K H a vs ∨ SqT K H a vs
/-- an iterator over a list, or over a tuple -/
def SIt (h : Heap) (it a : Addr) (i : Nat) : Prop := h.IsListIter it a i ∨ h.IsTupleIter it a i
def RelIt (l : Bool) (h : Heap) (it a : Addr) (i : Nat) : Prop := match l with
  | true => h.IsListIter it a i
  | false => h.IsTupleIter it a i
def RelSq (l : Bool) (K : PySem.W.Frag) (H : Hp) (a : Addr) (vs : List V) : Prop := match l with
  | true => SqL K H a vs
  | false => SqT K H a vs
def RelIs (l : Bool) (h : Heap) (a : Addr) (its : Array Value) : Prop := match l with
  | true => h.IsList a its
  | false => h.IsTuple a its
def relO (l : Bool) (a : Addr) : Obj := match l with
  | true => { cls := .type "list_iterator", data := .fields #[.ref a, .int 0 0] }
  | false => { cls := .type "tuple_iterator", data := .fields #[.ref a, .int 0 0] }
section
variable {X : Cx} {pins : List (Addr × Obj)} {σ : Sl} {H : Hp} {s : Shared} {a it : Addr} {vs ws : List V} {l : Bool} {h h' : Heap} {i : Nat}
theorem rel_items (I : Inv X pins σ H s) (q : RelSq l X.K H a vs) : ∃ its : List Value, Vals vs its ∧ RelIs l s.heap a its.toArray ∧ vs.length ≤ sizeLine := by
  cases l with
  | true => obtain ⟨its, r, p, z⟩ := I.list q; exact ⟨its, r, p.isList, z⟩
  | false => obtain ⟨its, r, p, z⟩ := I.tuple q; exact ⟨its, r, p, z⟩
theorem rel_inj (I : Inv X pins σ H s) (q : RelSq l X.K H a vs) (q' : RelSq l X.K H a ws) : vs = ws := by
  cases l with
  | true => exact I.list_inj q q'
  | false => exact I.tuple_inj q q'
theorem rel_draws {prog : Program} {w : World} {A : Around} (hh : A.handled = none) (ne : a ≠ it) (its : Array Value) :
    Draws prog w A it [it, a] its.size (fun i v => its[i]? = some v) (fun i h => RelIt l h it a i ∧ RelIs l h a its) := by
  cases l with
  | true => exact Draws.list hh it a ne its
  | false => exact Draws.tuple hh it a ne its
theorem rel_begins (its : Array Value) : Begins (.ref a) (relO l a) fun h => RelIs l h a its := by
  cases l with
  | true => exact begins_list a its
  | false => exact begins_tuple a its
theorem rel_start (e : h.get? it = some (relO l a)) : RelIt l h it a 0 := by
  cases l with
  | true => exact ⟨_, e, rfl, rfl⟩
  | false => exact ⟨_, e, rfl, rfl⟩
theorem rel_obj (r : RelIt l h it a i) : ∃ o, h.get? it = some o ∧ ∀ v, o.data ≠ .cell v := by
  cases l with
  | true => obtain ⟨o, e, _, d⟩ := r; exact ⟨o, e, fun v z => by rw [d] at z; cases z⟩
  | false => obtain ⟨o, e, _, d⟩ := r; exact ⟨o, e, fun v z => by rw [d] at z; cases z⟩
theorem rel_at (r : RelIt l h it a i) (k : ∀ o, h.get? it = some o → h'.get? it = some o) : RelIt l h' it a i := by
  cases l with
  | true => exact Heap.IsListIter.at r k
  | false => exact Heap.IsTupleIter.at r k
theorem rel_isAt {its : Array Value} (r : RelIs l h a its) : ∃ o, h.get? a = some o := by
  cases l with
  | true => obtain ⟨o, e, _⟩ := r; exact ⟨o, e⟩
  | false => obtain ⟨o, e, _⟩ := r; exact ⟨o, e⟩
/-- a tracked or written sequence is no iterator's own thing -/
theorem rel_ne (I : Inv X pins σ H s) (q : RelSq l X.K H a vs) (r : RelIt (l := m) s.heap it b i) : a ≠ it := by
  intro e
  subst e
  obtain ⟨its, _, p, _⟩ := rel_items I q
  cases l with
  | true =>
    obtain ⟨o, e1, c1, _⟩ := p
    cases m with
    | true => obtain ⟨o', e2, c2, _⟩ := r; rw [e1] at e2; cases e2; rw [c1] at c2; exact absurd c2 (by decide)
    | false => obtain ⟨o', e2, c2, _⟩ := r; rw [e1] at e2; cases e2; rw [c1] at c2; exact absurd c2 (by decide)
  | false =>
    obtain ⟨o, e1, c1, _⟩ := p
    cases m with
    | true => obtain ⟨o', e2, c2, _⟩ := r; rw [e1] at e2; cases e2; rw [c1] at c2; exact absurd c2 (by decide)
    | false => obtain ⟨o', e2, c2, _⟩ := r; rw [e1] at e2; cases e2; rw [c1] at c2; exact absurd c2 (by decide)
end
/-! ### zip of two -/
def SrcZ2 (K : PySem.W.Frag) (l1 l2 : Bool) (a b : Addr) : Hp → List (List V) → Prop := fun H rows => ∃ xs ys, RelSq l1 K H a xs ∧ RelSq l2 K H b ys ∧ rows = List.zipWith (fun x y => [x, y]) xs ys
theorem turn_z2 {P : Program} {w : World} {K : PySem.W.Frag} {elts : List Expr} {kk : Nat} {tpos : Pos} {l1 l2 : Bool} {a b z TI TO i1 i2 : Addr} (S : ZipSep2 z TI TO i1 i2 [i1, a] [i2, b]) (na : a ≠ i1) (nb : b ≠ i2) :
    Turn P w K (.Tuple elts kk tpos) (ItR (SrcZ2 K l1 l2 a b)) [z, TI, TO, i1, i2] z
      (fun i h => IsZip h z TI TO .none ∧ IsTupOf2 h TI (.ref i1) (.ref i2) ∧ (∃ p q, IsTupOf2 h TO p q) ∧ RelIt l1 h i1 a i ∧ RelIt l2 h i2 b i) := by
  refine turn_rows (SrcZ2 K l1 l2 a b) z [z, TO, i1, i2] [z, TI, TO, i1, i2] _ (by simp) (fun c hc => ?_) (fun i h st c hc => ?_) (fun i h h' st k => ?_) (fun A i s Q E st h => ?_) (fun X hP hw hK hc i pins s σ H I st hn rows hs => ?_)
  · simp only [List.mem_cons, List.mem_nil_iff, or_false] at hc ⊢
    rcases hc with c1 | c1 | c1 | c1 <;> simp [c1]
  · obtain ⟨hz, ht, ⟨p, q, ho⟩, r1, r2⟩ := st
    simp only [List.mem_cons, List.mem_nil_iff, or_false] at hc
    rcases hc with rfl | rfl | rfl | rfl | rfl
    · exact ⟨_, hz, fun v y => nomatch y⟩
    · exact ⟨_, ht, fun v y => nomatch y⟩
    · exact ⟨_, ho, fun v y => nomatch y⟩
    · exact rel_obj r1
    · exact rel_obj r2
  · obtain ⟨hz, ht, ⟨p, q, ho⟩, r1, r2⟩ := st
    exact ⟨k z (by simp) _ hz, k TI (by simp) _ ht, ⟨p, q, k TO (by simp) _ ho⟩, rel_at r1 (k i1 (by simp)), rel_at r2 (k i2 (by simp))⟩
  · exact wpAny_pyIter_zip st.1 h
  · subst hP hw hK
    obtain ⟨xs, ys, q1, q2, rfl⟩ := hs
    obtain ⟨hz, ht, ho, r1, r2⟩ := st
    obtain ⟨us, v1, p1, _⟩ := rel_items I q1
    obtain ⟨ws, v2, p2, _⟩ := rel_items I q2
    have hh := I.ok.hd hc
    have D1 := rel_draws (l := l1) (prog := X.prog) (w := X.w) (A := X.A.in1) (show X.A.in1.handled = none from hh) na us.toArray
    have D2 := rel_draws (l := l2) (prog := X.prog) (w := X.w) (A := X.A.in1) (show X.A.in1.handled = none from hh) nb ws.toArray
    have WT := WalksT.zipD2 S D1 D2
    have hl : min us.toArray.size ws.toArray.size = (List.zipWith (fun x y => [x, y]) xs ys).length := by
      rw [List.length_zipWith, v1.length, v2.length]
      simp
    rw [hl] at WT
    refine ⟨fun rows' h => ?_, _, _, _, _, WT, ⟨hz, ht, ho, ⟨r1, p1⟩, r2, p2⟩, fun j h st _ => ⟨st.1, st.2.1, st.2.2.1, st.2.2.2.1.1, st.2.2.2.2.1⟩, fun j vals pt => ?_⟩
    · obtain ⟨xs', ys', h1, h2, rfl⟩ := h
      rw [rel_inj I h1 q1, rel_inj I h2 q2]
    · obtain ⟨x1, x2, e1, e2, rfl⟩ := pt
      have e1' : us[j]? = some x1 := by simpa using e1
      have e2' : ws[j]? = some x2 := by simpa using e2
      have g1 : ∃ x, xs[j]? = some x ∧ RelV x x1 := by
        cases hx : xs[j]? with
        | none => rw [v1.none_of hx] at e1'; cases e1'
        | some x =>
          obtain ⟨u, h3, h4⟩ := v1.get hx
          rw [e1'] at h3
          cases h3
          exact ⟨x, rfl, h4⟩
      have g2 : ∃ x, ys[j]? = some x ∧ RelV x x2 := by
        cases hx : ys[j]? with
        | none => rw [v2.none_of hx] at e2'; cases e2'
        | some x =>
          obtain ⟨u, h3, h4⟩ := v2.get hx
          rw [e2'] at h3
          cases h3
          exact ⟨x, rfl, h4⟩
      obtain ⟨x, h3, h4⟩ := g1
      obtain ⟨y, h5, h6⟩ := g2
      exact ⟨[x, y], by rw [List.getElem?_zipWith, h3, h5], by simp, .cons h4 (.cons h6 .nil)⟩
def iZ2 (K : PySem.W.Frag) (ta : TA) : TI := fun σ H R => ta σ H fun vs H1 => ∃ (l1 l2 : Bool) (a b : Addr) (xs ys : List V), vs = [.ref a, .ref b] ∧ RelSq l1 K H1 a xs ∧ RelSq l2 K H1 b ys ∧ R (ItR (SrcZ2 K l1 l2 a b)) H1
theorem pi_z2 {X : Cx} {e e2 : Expr} {ta : TA} {p pos tpos : Pos} {elts : List Expr} {kk : Nat} (hg : Gl X "zip") (hm : X.mg "zip" = none) (ha : PA X [e, e2] ta)
    (hs : starEach [e, e2] X.env = (false, eval e X.env) :: starEach [e2] X.env := by rfl) (hpl : (backTo pos (starEach [e2] X.env)).any (·.1) = false := by rfl) :
    PI X (.Tuple elts kk tpos) (.Call (.Name "zip" p) [e, e2] [] pos) (iZ2 X.K ta) := by
  refine ⟨fun pins s σ H R I h => ?_⟩
  refine Call_ (ld_blt I hg hm boot_zip (PyProof.Rows.callWith_type1 (thn (ha.run pos pins s σ H _ I h) fun us s1 hh => ?_) hs hpl))
  obtain ⟨vs, H1, I1, r1, l1, l2, a, b, xs, ys, ex, q1, q2, q⟩ := hh
  subst ex
  obtain ⟨u1, u2, rfl, ru1, ru2⟩ := vals2 r1
  cases ru1
  cases ru2
  obtain ⟨us1, v1, p1, _⟩ := rel_items I1 q1
  obtain ⟨us2, v2, p2, _⟩ := rel_items I1 q2
  refine zip_begins2 (rel_begins (l := l1) us1.toArray) (rel_begins (l := l2) us2.toArray) p1 p2 fun h' hz ht ho g1 g2 hsz hk => wpAny_pyIter_zip hz ?_
  have I2 : Inv X pins σ H1 { s1 with heap := h' } := I1.kept (t' := s1.toks) hk
  obtain ⟨o1, e1⟩ := rel_isAt p1
  obtain ⟨o2, e2⟩ := rel_isAt p2
  have la := Heap.lt_size e1
  have lb := Heap.lt_size e2
  have S := zip_sep2 (N := s1.heap.objs.size) (fp1 := [a]) (fp2 := [b]) (fun c hc => by rw [List.mem_singleton.mp hc]; exact la) (fun c hc => by rw [List.mem_singleton.mp hc]; exact lb)
  refine ⟨s1.heap.objs.size + 4, [s1.heap.objs.size + 4, s1.heap.objs.size + 2, s1.heap.objs.size + 3, s1.heap.objs.size, s1.heap.objs.size + 1], _, _, H1, rfl, I2,
    turn_z2 S (Nat.ne_of_lt la) (Nat.ne_of_lt (Nat.lt_succ_of_lt lb)), ⟨hz, ht, ⟨_, _, ho⟩, rel_start g1, rel_start g2⟩, fun c hc => ?_, q⟩
  have hle : s1.heap.objs.size ≤ c := by
    simp only [List.mem_cons, List.mem_nil_iff, or_false] at hc
    rcases hc with c1 | c1 | c1 | c1 | c1 <;> rw [c1] <;> first | exact Nat.le_refl _ | exact Nat.le_add_right _ _
  exact I1.fpOk hle (I1.hok.fresh hle)
/-! ### zip of three -/
def zip3 : List V → List V → List V → List (List V)
  | x :: xs, y :: ys, u :: us => [x, y, u] :: zip3 xs ys us
  | _, _, _ => []
theorem zip3_len : ∀ xs ys us : List V, (zip3 xs ys us).length = min (min xs.length ys.length) us.length
  | [], ys, us => by simp [zip3]
  | x :: xs, [], us => by simp [zip3]
  | x :: xs, y :: ys, [] => by simp [zip3]
  | x :: xs, y :: ys, u :: us => by
    rw [zip3, List.length_cons, zip3_len xs ys us, List.length_cons, List.length_cons, List.length_cons]
    omega
theorem zip3_get : ∀ {xs ys us : List V} {i : Nat} {x y u : V}, xs[i]? = some x → ys[i]? = some y → us[i]? = some u → (zip3 xs ys us)[i]? = some [x, y, u]
  | a :: xs, b :: ys, c :: us, 0, x, y, u, h1, h2, h3 => by cases h1; cases h2; cases h3; rfl
  | a :: xs, b :: ys, c :: us, i + 1, x, y, u, h1, h2, h3 => zip3_get (xs := xs) (ys := ys) (us := us) (i := i) h1 h2 h3
  | [], _, _, _, _, _, _, h1, _, _ => nomatch h1
  | _ :: _, [], _, _, _, _, _, _, h2, _ => nomatch h2
  | _ :: _, _ :: _, [], _, _, _, _, _, _, h3 => nomatch h3
def SrcZ3 (K : PySem.W.Frag) (l1 l2 l3 : Bool) (a b c : Addr) : Hp → List (List V) → Prop := fun H rows => ∃ xs ys us, RelSq l1 K H a xs ∧ RelSq l2 K H b ys ∧ RelSq l3 K H c us ∧ rows = zip3 xs ys us
theorem vals_back {xs : List V} {us : List Value} {j : Nat} {u : Value} (r : Vals xs us) (e : us[j]? = some u) : ∃ x, xs[j]? = some x ∧ RelV x u := by
  cases hx : xs[j]? with
  | none => rw [r.none_of hx] at e; cases e
  | some x =>
    obtain ⟨u', h3, h4⟩ := r.get hx
    rw [e] at h3
    cases h3
    exact ⟨x, rfl, h4⟩
theorem turn_z3 {P : Program} {w : World} {K : PySem.W.Frag} {elts : List Expr} {kk : Nat} {tpos : Pos} {l1 l2 l3 : Bool} {a b c z TI TO i1 i2 i3 : Addr} (S : ZipSep3 z TI TO i1 i2 i3 [i1, a] [i2, b] [i3, c]) (na : a ≠ i1) (nb : b ≠ i2) (nc : c ≠ i3) :
    Turn P w K (.Tuple elts kk tpos) (ItR (SrcZ3 K l1 l2 l3 a b c)) [z, TI, TO, i1, i2, i3] z
      (fun i h => IsZip h z TI TO .none ∧ IsTupOf3 h TI (.ref i1) (.ref i2) (.ref i3) ∧ (∃ p q r, IsTupOf3 h TO p q r) ∧ RelIt l1 h i1 a i ∧ RelIt l2 h i2 b i ∧ RelIt l3 h i3 c i) := by
  refine turn_rows (SrcZ3 K l1 l2 l3 a b c) z [z, TO, i1, i2, i3] [z, TI, TO, i1, i2, i3] _ (by simp) (fun x hc => ?_) (fun i h st x hc => ?_) (fun i h h' st k => ?_) (fun A i s Q E st h => ?_) (fun X hP hw hK hc i pins s σ H I st hn rows hs => ?_)
  · simp only [List.mem_cons, List.mem_nil_iff, or_false] at hc ⊢
    rcases hc with c1 | c1 | c1 | c1 | c1 <;> simp [c1]
  · obtain ⟨hz, ht, ⟨p, q, r, ho⟩, r1, r2, r3⟩ := st
    simp only [List.mem_cons, List.mem_nil_iff, or_false] at hc
    rcases hc with rfl | rfl | rfl | rfl | rfl | rfl
    · exact ⟨_, hz, fun v y => nomatch y⟩
    · exact ⟨_, ht, fun v y => nomatch y⟩
    · exact ⟨_, ho, fun v y => nomatch y⟩
    · exact rel_obj r1
    · exact rel_obj r2
    · exact rel_obj r3
  · obtain ⟨hz, ht, ⟨p, q, r, ho⟩, r1, r2, r3⟩ := st
    exact ⟨k z (by simp) _ hz, k TI (by simp) _ ht, ⟨p, q, r, k TO (by simp) _ ho⟩, rel_at r1 (k i1 (by simp)), rel_at r2 (k i2 (by simp)), rel_at r3 (k i3 (by simp))⟩
  · exact wpAny_pyIter_zip st.1 h
  · subst hP hw hK
    obtain ⟨xs, ys, us, q1, q2, q3, rfl⟩ := hs
    obtain ⟨hz, ht, ho, r1, r2, r3⟩ := st
    obtain ⟨xv, v1, p1, _⟩ := rel_items I q1
    obtain ⟨yv, v2, p2, _⟩ := rel_items I q2
    obtain ⟨uv, v3, p3, _⟩ := rel_items I q3
    have hh : X.A.in1.handled = none := I.ok.hd hc
    have D1 := rel_draws (l := l1) (prog := X.prog) (w := X.w) (A := X.A.in1) hh na xv.toArray
    have D2 := rel_draws (l := l2) (prog := X.prog) (w := X.w) (A := X.A.in1) hh nb yv.toArray
    have D3 := rel_draws (l := l3) (prog := X.prog) (w := X.w) (A := X.A.in1) hh nc uv.toArray
    have WT := WalksT.zipD3 S D1 D2 D3
    have hl : min (min xv.toArray.size yv.toArray.size) uv.toArray.size = (zip3 xs ys us).length := by
      rw [zip3_len, v1.length, v2.length, v3.length]
      simp
    rw [hl] at WT
    refine ⟨fun rows' h => ?_, _, _, _, _, WT, ⟨hz, ht, ho, ⟨r1, p1⟩, ⟨r2, p2⟩, r3, p3⟩, fun j h st _ => ⟨st.1, st.2.1, st.2.2.1, st.2.2.2.1.1, st.2.2.2.2.1.1, st.2.2.2.2.2.1⟩, fun j vals pt => ?_⟩
    · obtain ⟨xs', ys', us', h1, h2, h3, rfl⟩ := h
      rw [rel_inj I h1 q1, rel_inj I h2 q2, rel_inj I h3 q3]
    · obtain ⟨x1, x2, x3, e1, e2, e3, rfl⟩ := pt
      obtain ⟨x, h3, h4⟩ := vals_back v1 (by simpa using e1)
      obtain ⟨y, h5, h6⟩ := vals_back v2 (by simpa using e2)
      obtain ⟨u, h7, h8⟩ := vals_back v3 (by simpa using e3)
      exact ⟨[x, y, u], zip3_get h3 h5 h7, by simp, .cons h4 (.cons h6 (.cons h8 .nil))⟩
def iZ3 (K : PySem.W.Frag) (ta : TA) : TI := fun σ H R => ta σ H fun vs H1 => ∃ (l1 l2 l3 : Bool) (a b c : Addr) (xs ys us : List V), vs = [.ref a, .ref b, .ref c] ∧ RelSq l1 K H1 a xs ∧ RelSq l2 K H1 b ys ∧ RelSq l3 K H1 c us ∧ R (ItR (SrcZ3 K l1 l2 l3 a b c)) H1
theorem vals3 {x y z : V} {us : List Value} (r : Vals [x, y, z] us) : ∃ u v w', us = [u, v, w'] ∧ RelV x u ∧ RelV y v ∧ RelV z w' := by
  cases r with
  | cons r1 r =>
    cases r with
    | cons r2 r =>
      cases r with
      | cons r3 r =>
        cases r
        exact ⟨_, _, _, rfl, r1, r2, r3⟩
theorem pi_z3 {X : Cx} {e e2 e3 : Expr} {ta : TA} {p pos tpos : Pos} {elts : List Expr} {kk : Nat} (hg : Gl X "zip") (hm : X.mg "zip" = none) (ha : PA X [e, e2, e3] ta)
    (hs : starEach [e, e2, e3] X.env = (false, eval e X.env) :: starEach [e2, e3] X.env := by rfl) (hpl : (backTo pos (starEach [e2, e3] X.env)).any (·.1) = false := by rfl) :
    PI X (.Tuple elts kk tpos) (.Call (.Name "zip" p) [e, e2, e3] [] pos) (iZ3 X.K ta) := by
  refine ⟨fun pins s σ H R I h => ?_⟩
  refine Call_ (ld_blt I hg hm boot_zip (PyProof.Rows.callWith_type1 (thn (ha.run pos pins s σ H _ I h) fun us s1 hh => ?_) hs hpl))
  obtain ⟨vs, H1, I1, r1, l1, l2, l3, a, b, c, xs, ys, us', ex, q1, q2, q3, q⟩ := hh
  subst ex
  obtain ⟨u1, u2, u3, rfl, ru1, ru2, ru3⟩ := vals3 r1
  cases ru1
  cases ru2
  cases ru3
  obtain ⟨us1, v1, p1, _⟩ := rel_items I1 q1
  obtain ⟨us2, v2, p2, _⟩ := rel_items I1 q2
  obtain ⟨us3, v3, p3, _⟩ := rel_items I1 q3
  refine zip_begins3 (rel_begins (l := l1) us1.toArray) (rel_begins (l := l2) us2.toArray) (rel_begins (l := l3) us3.toArray) p1 p2 p3 fun h' hz ht ho g1 g2 g3 hsz hk => wpAny_pyIter_zip hz ?_
  have I2 : Inv X pins σ H1 { s1 with heap := h' } := I1.kept (t' := s1.toks) hk
  obtain ⟨o1, e1⟩ := rel_isAt p1
  obtain ⟨o2, e2⟩ := rel_isAt p2
  obtain ⟨o3, e3⟩ := rel_isAt p3
  have la := Heap.lt_size e1
  have lb := Heap.lt_size e2
  have lc := Heap.lt_size e3
  have S := zip_sep3 (N := s1.heap.objs.size) (fp1 := [a]) (fp2 := [b]) (fp3 := [c]) (fun x hc => by rw [List.mem_singleton.mp hc]; exact la) (fun x hc => by rw [List.mem_singleton.mp hc]; exact lb) (fun x hc => by rw [List.mem_singleton.mp hc]; exact lc)
  refine ⟨s1.heap.objs.size + 5, [s1.heap.objs.size + 5, s1.heap.objs.size + 3, s1.heap.objs.size + 4, s1.heap.objs.size, s1.heap.objs.size + 1, s1.heap.objs.size + 2], _, _, H1, rfl, I2,
    turn_z3 S (Nat.ne_of_lt la) (Nat.ne_of_lt (Nat.lt_succ_of_lt lb)) (Nat.ne_of_lt (Nat.lt_succ_of_lt (Nat.lt_succ_of_lt lc))), ⟨hz, ht, ⟨_, _, _, ho⟩, rel_start g1, rel_start g2, rel_start g3⟩, fun x hc => ?_, q⟩
  have hle : s1.heap.objs.size ≤ x := by
    simp only [List.mem_cons, List.mem_nil_iff, or_false] at hc
    rcases hc with c1 | c1 | c1 | c1 | c1 | c1 <;> rw [c1] <;> first | exact Nat.le_refl _ | exact Nat.le_add_right _ _
  exact I1.fpOk hle (I1.hok.fresh hle)
/-! ### enumerate -/
def numbered (xs : List V) : List (List V) := (List.range xs.length).zipWith (fun i x => [.int (i : Nat), x]) xs
theorem numbered_get {xs : List V} {i : Nat} {x : V} (h : xs[i]? = some x) : (numbered xs)[i]? = some [.int (i : Nat), x] := by
  have hi : i < xs.length := (List.getElem?_eq_some_iff.mp h).1
  rw [numbered, List.getElem?_zipWith, List.getElem?_range hi, h]
def SrcE (K : PySem.W.Frag) (l : Bool) (a : Addr) : Hp → List (List V) → Prop := fun H rows => ∃ xs, RelSq l K H a xs ∧ rows = numbered xs
theorem turn_e {P : Program} {w : World} {K : PySem.W.Frag} {elts : List Expr} {kk : Nat} {tpos : Pos} {l : Bool} {a e it : Addr} (ne : e ≠ it) (na : a ≠ it) (nae : e ≠ a) :
    Turn P w K (.Tuple elts kk tpos) (ItR (SrcE K l a)) [e, it] e (fun i h => (∃ old, IsEnum h e it (0 + (i : Int)) old) ∧ RelIt l h it a i) := by
  refine turn_rows (SrcE K l a) e [e, it] [e, it] _ (by simp) (fun c hc => hc) (fun i h st c hc => ?_) (fun i h h' st k => ?_) (fun A i s Q E st h => ?_) (fun X hP hw hK hc i pins s σ H I st hn rows hs => ?_)
  · obtain ⟨⟨old, he⟩, r1⟩ := st
    simp only [List.mem_cons, List.mem_nil_iff, or_false] at hc
    rcases hc with rfl | rfl
    · exact ⟨_, he, fun v y => nomatch y⟩
    · exact rel_obj r1
  · obtain ⟨⟨old, he⟩, r1⟩ := st
    exact ⟨⟨old, k e (by simp) _ he⟩, rel_at r1 (k it (by simp))⟩
  · obtain ⟨⟨old, he⟩, r1⟩ := st
    exact wpAny_pyIter_enum he h
  · subst hP hw hK
    obtain ⟨xs, q1, rfl⟩ := hs
    obtain ⟨he, r1⟩ := st
    obtain ⟨xv, v1, p1, _⟩ := rel_items I q1
    have hh : X.A.in1.handled = none := I.ok.hd hc
    have D1 := rel_draws (l := l) (prog := X.prog) (w := X.w) (A := X.A.in1) hh na xv.toArray
    have WT := WalksT.enumFrom 0 D1 e ne (fun z => by
      simp only [List.mem_cons, List.mem_nil_iff, or_false] at z
      exact z.elim ne nae) (by simp)
    have hl : xv.toArray.size = (numbered xs).length := by
      rw [numbered, List.length_zipWith, List.length_range, v1.length]
      simp
    rw [hl] at WT
    refine ⟨fun rows' h => ?_, _, _, _, _, WT, ⟨he, r1, p1⟩, fun j h st _ => ⟨st.1, st.2.1⟩, fun j vals pt => ?_⟩
    · obtain ⟨xs', h1, rfl⟩ := h
      rw [rel_inj I h1 q1]
    · obtain ⟨t, x1, e1, rfl⟩ := pt
      obtain ⟨x, h3, h4⟩ := vals_back v1 (by simpa using e1)
      exact ⟨[.int (j : Nat), x], numbered_get h3, by simp, .cons ⟨t, by rw [Int.zero_add]⟩ (.cons h4 .nil)⟩
theorem meets_enum_tup (t : Addr) (items : Array Value) :
    Meets (Builtin.«enumerate.__new__» ⟨[.type "enumerate", .ref t], []⟩) (fun _ R s => s.heap.IsTuple t items ∧
      R (.ok (.ret (.ref (s.heap.push (relO false t)).objs.size))) { s with heap := (s.heap.push (relO false t)).push { cls := .type "enumerate", data := .fields #[.none, .bool false, .ref s.heap.objs.size, rawInt 0, .none, .none] } }) :=
  .of_wp fun prog w A R s h => by
    obtain ⟨hp, g, d, tk, os⟩ := s
    obtain ⟨hT, h⟩ := h
    have hsub := sub_enumerate
    obtain ⟨ob, hob, _⟩ := id hT
    replace hob : hp.get? t = some ob := hob
    wp_walk using wpAny_loadPart' hob
    refine wpAny_stack_any fun st => wpAny_pure ?_
    split
    · rename_i c _ _ _ _ _
      cases (c == Value.type "enumerate")
      · wp_walk using wpAny_loadPart' hob, wpAny_pyIter_tuple hT
        exact ⟨_, rfl, h⟩
      · wp_walk using wpAny_loadPart' hob, wpAny_pyIter_tuple hT
        exact ⟨_, rfl, h⟩
    · wp_walk using wpAny_loadPart' hob, wpAny_pyIter_tuple hT
      exact ⟨_, rfl, h⟩
theorem call_enum_rel {prog : Program} {w : World} {A : Around} {E : Value → Shared → Prop} {s : Shared} {l : Bool} {a : Addr} {items : Array Value} {Q : Value → Shared → Prop} (p : RelIs l s.heap a items)
    (h : ∀ h', IsEnum h' (s.heap.objs.size + 1) s.heap.objs.size 0 .none → RelIt l h' s.heap.objs.size a 0 → (∀ b o, s.heap.get? b = some o → h'.get? b = some o) → Q (.ref (s.heap.objs.size + 1)) { s with heap := h' }) :
    wpAny (model prog w) A (call (.type "enumerate") [.ref a]) Q E s := by
  cases l with
  | true => exact call_enumerate_list p fun h' e1 e2 _ e4 => h h' e1 e2 e4
  | false =>
    refine callType_new F.called_enumerate (by decide) (F.typeCall_enumerate_1 _) (F.newCall_enumerate_1 _) (fun obj => F.args_object_init_2 obj _) F.entry_enumerate_new (meets_enum_tup a items) ⟨p, ?_⟩
    have hz : (s.heap.push (relO false a)).objs.size = s.heap.objs.size + 1 := Heap.size_push ..
    show _ ∧ _
    rw [hz]
    have he : IsEnum ((s.heap.push (relO false a)).push { cls := .type "enumerate", data := .fields #[.none, .bool false, .ref s.heap.objs.size, rawInt 0, .none, .none] }) (s.heap.objs.size + 1) s.heap.objs.size 0 .none := by
      have q := Heap.get?_push_size (s.heap.push (relO false a)) (o := { cls := .type "enumerate", data := .fields #[.none, .bool false, .ref s.heap.objs.size, rawInt 0, .none, .none] }) rfl
      rw [hz] at q
      exact q
    exact ⟨⟨_, he, rfl⟩, h _ he (rel_start (Heap.get?_push_of_some _ (Heap.get?_push_size _ rfl))) fun b o x => Heap.get?_push_of_some _ (Heap.get?_push_of_some _ x)⟩
def iE (K : PySem.W.Frag) (ta : TA) : TI := fun σ H R => ta σ H fun vs H1 => ∃ (l : Bool) (a : Addr) (xs : List V), vs = [.ref a] ∧ RelSq l K H1 a xs ∧ R (ItR (SrcE K l a)) H1
theorem pi_e {X : Cx} {e : Expr} {ta : TA} {p pos tpos : Pos} {elts : List Expr} {kk : Nat} (hg : Gl X "enumerate") (hm : X.mg "enumerate" = none) (ha : PA X [e] ta) (hs : starEach [e] X.env = [(false, eval e X.env)] := by rfl) :
    PI X (.Tuple elts kk tpos) (.Call (.Name "enumerate" p) [e] [] pos) (iE X.K ta) := by
  refine ⟨fun pins s σ H R I h => ?_⟩
  refine Call_ (ld_blt I hg hm boot_enumerate (PyProof.Rows.callWith_type1 (thn (ha.run pos pins s σ H _ I h) fun us s1 hh => ?_) hs rfl))
  obtain ⟨vs, H1, I1, r1, l, a, xs, ex, q1, q⟩ := hh
  subst ex
  obtain ⟨u1, rfl, ru1⟩ := vals1 r1
  cases ru1
  obtain ⟨us1, v1, p1, _⟩ := rel_items I1 q1
  obtain ⟨o1, e1⟩ := rel_isAt p1
  have la := Heap.lt_size e1
  refine call_enum_rel p1 fun h' he r hk => wpAny_pyIter_enum he ?_
  have I2 : Inv X pins σ H1 { s1 with heap := h' } := I1.kept (t' := s1.toks) hk
  refine ⟨s1.heap.objs.size + 1, [s1.heap.objs.size + 1, s1.heap.objs.size], _, _, H1, rfl, I2, turn_e (Nat.succ_ne_self _) (Nat.ne_of_lt la) (Nat.ne_of_gt (Nat.lt_succ_of_lt la)), ⟨⟨.none, he⟩, r⟩, fun x hc => ?_, q⟩
  have hle : s1.heap.objs.size ≤ x := by
    simp only [List.mem_cons, List.mem_nil_iff, or_false] at hc
    rcases hc with c1 | c1 <;> rw [c1] <;> first | exact Nat.le_refl _ | exact Nat.le_add_right _ _
  exact I1.fpOk hle (I1.hok.fresh hle)
end DL

set_option Elab.async false
set_option linter.all false
set_option maxRecDepth 100000
/-! DL6: enumerate, zip by data; list comprehensions. -/
namespace DL
open PySem PySem.Spec PyProof.Rows L2

def seqOf : D → Option (List D)
  | .lst ds => some ds
  | .slst ds => some ds
  | .tup ds => some ds
  | _ => none
section
variable {K : PySem.W.Frag} {mg : Str → Option Value} {H : Hp} {O : Av} {v : V} {d : D} {ds : List D}
theorem relsq_of (r : Rp K mg H O v d) (e : seqOf d = some ds) : ∃ (l : Bool) (a : Addr) (vs : List V), v = .ref a ∧ (∀ H' O', Kp H O H' O' → RelSq l K H' a vs) ∧ RpL K mg H O vs ds := by
  cases r with
  | lst h o n el => cases e; exact ⟨true, _, _, rfl, fun H' O' k => SqL.of (k _ _ h o).1, n, el⟩
  | slst h n el => cases e; exact ⟨true, _, _, rfl, fun H' O' k => (h.kp k).sq, n, el⟩
  | tup h n el => cases e; exact ⟨false, _, _, rfl, fun H' O' k => (h.kp k).sq, n, el⟩
  | _ => cases e
theorem walk_rows {Src : Hp → List (List V) → Prop} {rows : List (List V)} {drows : List (List D)} (hl : rows.length = drows.length) (he : ∀ (i : Nat) (r : List V) (q : List D), rows[i]? = some r → drows[i]? = some q → RpL K mg H O r q)
    (hs : ∀ H' O', Kp H O H' O' → Src H' rows) : WalkD K mg (ItR Src) (drows.map .tup) H O := fun H' O' k lv => ⟨fun i d hi => by
  rw [List.getElem?_map] at hi
  cases hq : drows[i]? with
  | none => rw [hq] at hi; exact nomatch hi
  | some q =>
    rw [hq] at hi
    cases hi
    have li : i < rows.length := hl ▸ (List.getElem?_eq_some_iff.mp hq).1
    have hr : rows[i]? = some rows[i] := List.getElem?_eq_getElem li
    refine ⟨⟨rows, _, hs H' O' k, hr⟩, fun x H2 y => ?_⟩
    obtain ⟨T, r, rfl, nT, rfl, u⟩ := y
    have e := (u rows (hs H' O' k)).symm.trans hr
    cases e
    have s := same_new (o := .tup rows[i]) nT
    have rl := ((he i _ q hr hq).kp k).kp (Same.kp (O := O') s)
    exact ⟨s, .tup (.inl ⟨.inl upd_same, fresh_not lv nT⟩) rl.1 rl.2⟩, rows, hs H' O' k, by rw [List.length_map]; exact hl⟩
end
def pairs (xs ys : List D) : List (List D) := List.zipWith (fun x y => [x, y]) xs ys
def trips : List D → List D → List D → List (List D)
  | x :: xs, y :: ys, u :: us => [x, y, u] :: trips xs ys us
  | _, _, _ => []
def countD (xs : List D) : List (List D) := (List.range xs.length).zipWith (fun i x => [.int (i : Nat), x]) xs
def fZip2 (f : FL) : FL := fun ρ => (f ρ).bind fun ds ρ1 => match ds with
  | [a, b] => (match seqOf a, seqOf b with
    | some xs, some ys => .ok ((pairs xs ys).map .tup) ρ1
    | _, _ => .stuck)
  | _ => .stuck
def fZip3 (f : FL) : FL := fun ρ => (f ρ).bind fun ds ρ1 => match ds with
  | [a, b, c] => (match seqOf a, seqOf b, seqOf c with
    | some xs, some ys, some us => .ok ((trips xs ys us).map .tup) ρ1
    | _, _, _ => .stuck)
  | _ => .stuck
def fEnum (f : FL) : FL := fun ρ => (f ρ).bind fun ds ρ1 => match ds with
  | [a] => (match seqOf a with
    | some xs => .ok ((countD xs).map .tup) ρ1
    | _ => .stuck)
  | _ => .stuck
theorem trips_get : ∀ {xs ys us : List D} {i : Nat} {q : List D}, (trips xs ys us)[i]? = some q → ∃ x y u, xs[i]? = some x ∧ ys[i]? = some y ∧ us[i]? = some u ∧ q = [x, y, u]
  | [], _, _, _, _, h => nomatch h
  | _ :: _, [], _, _, _, h => nomatch h
  | _ :: _, _ :: _, [], _, _, h => nomatch h
  | x :: xs, y :: ys, u :: us, 0, q, h => by cases h; exact ⟨x, y, u, rfl, rfl, rfl, rfl⟩
  | x :: xs, y :: ys, u :: us, i + 1, q, h => trips_get (xs := xs) (ys := ys) (us := us) (i := i) h
theorem trips_len : ∀ xs ys us : List D, (trips xs ys us).length = min (min xs.length ys.length) us.length
  | [], ys, us => by simp [trips]
  | x :: xs, [], us => by simp [trips]
  | x :: xs, y :: ys, [] => by simp [trips]
  | x :: xs, y :: ys, u :: us => by
    rw [trips, List.length_cons, trips_len xs ys us, List.length_cons, List.length_cons, List.length_cons]
    omega
section
variable {X : Cx} {W : Wi} {e : Expr} {fl : FL} {pos p tpos : Pos} {elts : List Expr} {kk : Nat}
theorem di_zip2 {a b : Expr} (hg : Gl X "zip") (hm : X.mg "zip" = none) (ha : DA X W [a, b] fl) (hs : starEach [a, b] X.env = (false, eval a X.env) :: starEach [b] X.env := by rfl)
    (hpl : (backTo pos (starEach [b] X.env)).any (·.1) = false := by rfl) : DI X W (.Tuple elts kk tpos) (.Call (.Name "zip" p) [a, b] [] pos) (fZip2 fl) := by
  obtain ⟨t, pa, ia⟩ := ha
  refine ⟨_, pi_z2 hg hm pa hs hpl, fun B ρ σ H O R' R p => ?_⟩
  unfold fZip2 at p
  rw [rpost_bind] at p
  refine ia B ρ σ H O _ R (p.mono (fun ds ρ1 p vs H1 g r => ?_) fun _ _ _ e => e)
  split at p
  · rename_i da db
    split at p
    · rename_i xs ys e1 e2
      obtain ⟨v, w, rfl, r1, r2⟩ := r.two
      obtain ⟨l1, a1, vs1, rfl, q1, w1⟩ := relsq_of r1 e1
      obtain ⟨l2, a2, vs2, rfl, q2, w2⟩ := relsq_of r2 e2
      refine ⟨l1, l2, a1, a2, vs1, vs2, rfl, q1 _ _ .refl, q2 _ _ .refl, p _ H1 g (walk_rows (rows := List.zipWith (fun x y => [x, y]) vs1 vs2) ?_ (fun i r q h1 h2 => ?_) fun H' O' k => ⟨_, _, q1 _ _ k, q2 _ _ k, rfl⟩)⟩
      · rw [pairs, List.length_zipWith, List.length_zipWith, w1.1, w2.1]
      · rw [List.getElem?_zipWith] at h1
        rw [pairs, List.getElem?_zipWith] at h2
        cases c1 : vs1[i]? with
        | none => rw [c1] at h1; cases h1
        | some x =>
          cases c2 : vs2[i]? with
          | none => rw [c1, c2] at h1; cases h1
          | some y =>
            obtain ⟨dx, c3, rx⟩ := w1.getV c1
            obtain ⟨dy, c4, ry⟩ := w2.getV c2
            rw [c1, c2] at h1
            rw [c3, c4] at h2
            cases h1
            cases h2
            exact .cons rx (.cons ry .nil)
    · exact p.elim
  · exact p.elim
theorem RpL.three {K : PySem.W.Frag} {mg : Str → Option Value} {H : Hp} {O : Av} {vs : List V} {d d' d2 : D} (h : RpL K mg H O vs [d, d', d2]) : ∃ v w u, vs = [v, w, u] ∧ Rp K mg H O v d ∧ Rp K mg H O w d' ∧ Rp K mg H O u d2 := by
  match vs, h with
  | [v, w, u], h => exact ⟨v, w, u, rfl, h.uncons.1, h.uncons.2.uncons.1, h.uncons.2.uncons.2.uncons.1⟩
  | [], h => exact nomatch h.1
  | [_], h => exact nomatch h.1
  | [_, _], h => exact nomatch h.1
  | _ :: _ :: _ :: _ :: _, h => exact nomatch h.1
theorem di_zip3 {a b c : Expr} (hg : Gl X "zip") (hm : X.mg "zip" = none) (ha : DA X W [a, b, c] fl) (hs : starEach [a, b, c] X.env = (false, eval a X.env) :: starEach [b, c] X.env := by rfl)
    (hpl : (backTo pos (starEach [b, c] X.env)).any (·.1) = false := by rfl) : DI X W (.Tuple elts kk tpos) (.Call (.Name "zip" p) [a, b, c] [] pos) (fZip3 fl) := by
  obtain ⟨t, pa, ia⟩ := ha
  refine ⟨_, pi_z3 hg hm pa hs hpl, fun B ρ σ H O R' R p => ?_⟩
  unfold fZip3 at p
  rw [rpost_bind] at p
  refine ia B ρ σ H O _ R (p.mono (fun ds ρ1 p vs H1 g r => ?_) fun _ _ _ e => e)
  split at p
  · rename_i da db dc
    split at p
    · rename_i xs ys us e1 e2 e3
      obtain ⟨v, w, u, rfl, r1, r2, r3⟩ := r.three
      obtain ⟨l1, a1, vs1, rfl, q1, w1⟩ := relsq_of r1 e1
      obtain ⟨l2, a2, vs2, rfl, q2, w2⟩ := relsq_of r2 e2
      obtain ⟨l3, a3, vs3, rfl, q3, w3⟩ := relsq_of r3 e3
      refine ⟨l1, l2, l3, a1, a2, a3, vs1, vs2, vs3, rfl, q1 _ _ .refl, q2 _ _ .refl, q3 _ _ .refl, p _ H1 g (walk_rows (rows := zip3 vs1 vs2 vs3) ?_ (fun i r q h1 h2 => ?_) fun H' O' k => ⟨_, _, _, q1 _ _ k, q2 _ _ k, q3 _ _ k, rfl⟩)⟩
      · rw [zip3_len, trips_len, w1.1, w2.1, w3.1]
      · obtain ⟨x, y, z, c1, c2, c3, rfl⟩ := trips_get h2
        obtain ⟨vx, b1, rx⟩ := w1.get c1
        obtain ⟨vy, b2, ry⟩ := w2.get c2
        obtain ⟨vz, b3, rz⟩ := w3.get c3
        rw [zip3_get b1 b2 b3] at h1
        cases h1
        exact .cons rx (.cons ry (.cons rz .nil))
    · exact p.elim
  · exact p.elim
theorem di_enum {a : Expr} (hg : Gl X "enumerate") (hm : X.mg "enumerate" = none) (ha : DA X W [a] fl) (hs : starEach [a] X.env = [(false, eval a X.env)] := by rfl) : DI X W (.Tuple elts kk tpos) (.Call (.Name "enumerate" p) [a] [] pos) (fEnum fl) := by
  obtain ⟨t, pa, ia⟩ := ha
  refine ⟨_, pi_e hg hm pa hs, fun B ρ σ H O R' R p => ?_⟩
  unfold fEnum at p
  rw [rpost_bind] at p
  refine ia B ρ σ H O _ R (p.mono (fun ds ρ1 p vs H1 g r => ?_) fun _ _ _ e => e)
  split at p
  · rename_i da
    split at p
    · rename_i xs e1
      obtain ⟨v, rfl, r1⟩ := r.one
      obtain ⟨l1, a1, vs1, rfl, q1, w1⟩ := relsq_of r1 e1
      refine ⟨l1, a1, vs1, rfl, q1 _ _ .refl, p _ H1 g (walk_rows (rows := DL.numbered vs1) ?_ (fun i r q h1 h2 => ?_) fun H' O' k => ⟨_, q1 _ _ k, rfl⟩)⟩
      · rw [DL.numbered, countD, List.length_zipWith, List.length_zipWith, List.length_range, List.length_range, w1.1]
      · rw [countD, List.getElem?_zipWith] at h2
        cases c1 : xs[i]? with
        | none => rw [c1] at h2; cases h : (List.range xs.length)[i]? <;> (rw [h] at h2; cases h2)
        | some x =>
          obtain ⟨vx, b1, rx⟩ := w1.get c1
          rw [numbered_get b1] at h1
          rw [c1, List.getElem?_range (List.getElem?_eq_some_iff.mp c1).1] at h2
          cases h1
          cases h2
          exact .cons (.int _) (.cons rx .nil)
    · exact p.elim
  · exact p.elim

/-! ### comprehensions -/
/-- the canonical readings: the same in every block -/
def tD (K : PySem.W.Frag) (mg : Str → Option Value) (f : F) : TE := fun σ H Q => ∃ B ρ O, Rep K mg B O ρ σ H ∧ RPost (f ρ) (fun d ρ' => ∀ v H', Go K mg B O σ ρ H ρ' H' → Rp K mg H' O v d → Q v H') (fun _ _ _ => False)
def tDT (K : PySem.W.Frag) (mg : Str → Option Value) (f : FB) : TT := fun σ H Q => ∃ B ρ O, Rep K mg B O ρ σ H ∧ RPost (f ρ) (fun b ρ' => ∀ H', Go K mg B O σ ρ H ρ' H' → Q b H') (fun _ _ _ => False)
def tDG (K : PySem.W.Frag) (mg : Str → Option Value) (ts : List Nat) (f : D → En → Option En) : TG := fun v σ H Q => ∃ B ρ ρ' O d, Rep K mg B O ρ σ H ∧ Rp K mg H O v d ∧ f d ρ = some ρ' ∧
  ∀ σ' H', Same H H' → Rep K mg B O ρ' σ' H' → TgGo ts ρ σ ρ' σ' → Q σ' H'
def W0 : Wi := ⟨fun _ _ _ _ => False, fun _ => True⟩
theorem DE.canon {f : F} (h : DE X W0 e f) : PE X e (tD X.K X.mg f) := by
  obtain ⟨t, p, i⟩ := h
  refine ⟨fun pins s σ H Q I hh => p.run pins s σ H Q I ?_⟩
  obtain ⟨B, ρ, O, R, hp⟩ := hh
  exact i ⟨B, trivial⟩ ρ σ H O Q R (hp.mono (fun _ _ h => h) fun _ _ _ z => z.elim)
theorem DT.canon {f : FB} (h : DT X W0 e f) : PT X e (tDT X.K X.mg f) := by
  obtain ⟨t, p, i⟩ := h
  refine ⟨fun pins s σ H Q I hh => p.run pins s σ H Q I ?_⟩
  obtain ⟨B, ρ, O, R, hp⟩ := hh
  exact i ⟨B, trivial⟩ ρ σ H O Q R (hp.mono (fun _ _ h => h) fun _ _ _ z => z.elim)
theorem DG.canon {tg : Expr} {ts : List Nat} {f : D → En → Option En} (h : DG X tg ts f) : PG X tg (tDG X.K X.mg ts f) := by
  obtain ⟨t, p, i⟩ := h
  refine ⟨fun pins s σ H v u Q I r hh => p.run pins s σ H v u Q I r ?_⟩
  obtain ⟨B, ρ, ρ', O, d, R, rv, e, q⟩ := hh
  exact i B ρ ρ' σ H O v d Q R rv e q
def R.bindN {α β : Type} (r : R α) (k : α → En → R β) : R β := match r with
  | .ok a ρ => k a ρ
  | _ => .stuck
theorem rpost_bindN {α β : Type} {r : R α} {k : α → En → R β} {ok : β → En → Prop} {er er' : Str → List (Str × D) → En → Prop} (p : RPost (r.bindN k) ok er) :
    RPost r (fun a ρ => RPost (k a ρ) ok er) er' := by
  cases r with
  | ok a ρ => exact p
  | err c fs ρ => exact False.elim p
  | stuck => exact False.elim p
/-- the block's turns; vs: its own slots -/
def lcL (vs : List Nat) (t : D → En → Option En) (tt : FB) (te : F) : List D → List D → En → R (List D)
  | [], acc, ρ => .ok acc ρ
  | d :: ds, acc, ρ => match t d ρ with
    | none => .stuck
    | some ρ2 => (tt ρ2).bindN fun b ρ3 => if b = true then (te ρ3).bindN fun y ρ4 => if acc.length < sizeLine then lcL vs t tt te ds (acc ++ [y]) (wipeE ρ4 vs) else .stuck
      else lcL vs t tt te ds acc (wipeE ρ3 vs)
/-- behind the block: its own slots are as they were ahead of it -/
def backE (vs : List Nat) (ρ1 ρb : En) : En := (List.range ρ1.length).map fun i => if i ∈ vs then (ρ1[i]?).getD none else (ρb[i]?).getD none
def noMu (vs : List Nat) (ρ : En) : Bool := vs.all fun i => match ρ[i]? with
  | some (some s) => !s.mu
  | _ => true
def fLc (it : FL) (vs : List Nat) (t : D → En → Option En) (tt : FB) (te : F) : FL := fun ρ => (it ρ).bind fun ds ρ1 => if noMu vs ρ1 = true then (lcL vs t tt te ds [] (wipeE ρ1 vs)).bindN fun acc ρb => .ok acc (backE vs ρ1 ρb) else .stuck
def fYes : FB := fun ρ => .ok true ρ
end
section
variable {K : PySem.W.Frag} {mg : Str → Option Value} {B : Base} {O : Av} {ρ ρb : En} {σ : Sl} {H H1 : Hp} {vs : List Nat}
theorem wipe_mem {i : Nat} : ∀ {vs : List Nat} {x : V}, (wipe σ vs)[i]? = some (some x) → σ[i]? = some (some x) ∧ i ∉ vs := fun {vs x} h => wipe_some h
theorem Rep.wipe (R : Rep K mg B O ρ σ H) (vs : List Nat) : Rep K mg B O (wipeE ρ vs) (wipe σ vs) H where
  len := by rw [wipe_length, wipeE_len, R.len]
  slot := fun i s h => by
    obtain ⟨h1, h2⟩ := wipeE_get h
    obtain ⟨v, e1, e2⟩ := R.slot i s h1
    exact ⟨v, (wipe_out h2).trans e1, e2⟩
  apart := fun i j s t a h1 h2 m1 m2 e1 e2 => R.apart i j s t a (wipeE_get h1).1 (wipeE_get h2).1 m1 m2 (wipe_mem e1).1 (wipe_mem e2).1
  base := R.base
  live := R.live
  o0 := R.o0
  b0 := R.b0
  pao := R.pao
theorem mu_wipe {b : Addr} (m : Mu (wipeE ρ vs) (wipe σ vs) b) : Mu ρ σ b := by
  obtain ⟨i, s, h1, h2, h3⟩ := m
  exact ⟨i, s, (wipeE_get h1).1, h2, (wipe_mem h3).1⟩
/-- O grows by a thing of our own that no slot holds -/
theorem Rep.grow {p : Addr} {o : HO} (R : Rep K mg B O ρ σ H) (hp : H p = none) : Rep K mg B (O.add p) ρ σ (upd H p o) where
  len := R.len
  slot := fun i s h => by
    obtain ⟨v, e1, e2⟩ := R.slot i s h
    refine ⟨v, e1, e2.kp (kp_add hp) fun a e m => ?_⟩
    subst e
    have oa : O a := R.mu_O ⟨i, s, h, m, e1⟩
    exact ⟨upd_ne fun z : a = p => R.live a oa (z ▸ hp), .inl oa⟩
  apart := R.apart
  base := fun b o h n => by
    have e := R.base b o h n
    rw [upd_ne (ne_of_none e hp)]
    exact e
  live := fun a oa => by
    by_cases e : a = p
    · rw [e, upd_same]
      exact fun z => nomatch z
    · rw [upd_ne e]
      exact oa.elim (R.live a) fun z => absurd z e
  o0 := fun a h => .inl (R.o0 a h)
  b0 := R.b0
  pao := R.pao
/-- a thing in O that no slot holds is written -/
theorem Rep.poke {p : Addr} {o : HO} (R : Rep K mg B O ρ σ H) (hO : O p) (hm : ¬ Mu ρ σ p) (hb : B.H0 p = none) : Rep K mg B O ρ σ (upd H p o) := by
  have k : Kp H O (upd H p o) O := fun a u e n => ⟨by rw [upd_ne fun z : a = p => n (z ▸ hO)]; exact e, n⟩
  exact {
    len := R.len
    slot := fun i s h => by
      obtain ⟨v, e1, e2⟩ := R.slot i s h
      refine ⟨v, e1, e2.kp k fun a e m => ?_⟩
      subst e
      exact ⟨upd_ne fun z : a = p => hm (z ▸ ⟨i, s, h, m, e1⟩), R.mu_O ⟨i, s, h, m, e1⟩⟩
    apart := R.apart
    base := fun b o h n => by
      rw [upd_ne fun z : b = p => by rw [z, hb] at h; cases h]
      exact R.base b o h n
    live := fun a oa => by
      by_cases e : a = p
      · rw [e, upd_same]
        exact fun z => nomatch z
      · rw [upd_ne e]
        exact R.live a oa
    o0 := R.o0
    b0 := R.b0
    pao := R.pao }
theorem backE_get {i : Nat} {s : Slot} (h : (backE vs ρ ρb)[i]? = some (some s)) : i < ρ.length ∧ ((i ∈ vs ∧ ρ[i]? = some (some s)) ∨ (i ∉ vs ∧ ρb[i]? = some (some s))) := by
  unfold backE at h
  rw [List.getElem?_map] at h
  by_cases hi : i < ρ.length
  · rw [List.getElem?_range hi] at h
    have h : (if i ∈ vs then (ρ[i]?).getD none else (ρb[i]?).getD none) = some s := Option.some.inj h
    refine ⟨hi, ?_⟩
    have key : ∀ {l : En}, (l[i]?).getD none = some s → l[i]? = some (some s) := fun {l} e => by
      cases q : l[i]? with
      | none => rw [q] at e; cases e
      | some x => rw [q] at e; have e : x = some s := e; rw [e]
    split at h
    · rename_i hm
      exact .inl ⟨hm, key h⟩
    · rename_i hm
      exact .inr ⟨hm, key h⟩
  · rw [List.getElem?_eq_none (by rw [List.length_range]; omega)] at h
    cases h
theorem kinds_at {ρ ρ' : En} (h : kinds ρ' = kinds ρ) {i : Nat} {s : Slot} (e : ρ'[i]? = some (some s)) : ∃ t, ρ[i]? = some (some t) ∧ t.kd = s.kd := by
  have q := congrArg (fun l => l[i]?) h
  simp only [kinds_get, e] at q
  cases c : ρ[i]? with
  | none => rw [c] at q; cases q
  | some o =>
    rw [c] at q
    cases o with
    | none => cases q
    | some t => exact ⟨t, rfl, by simpa using q.symm⟩
theorem noMu_at (h : noMu vs ρ = true) {i : Nat} (hi : i ∈ vs) {s : Slot} (e : ρ[i]? = some (some s)) : s.mu = false := by
  have := List.all_eq_true.mp h i hi
  rw [e] at this
  simpa using this
end
section
variable {X : Cx} {elt tg iter : Expr} {ifs : List Expr} {scope : Scope} {own : List (Str × Nat)} {pos : Pos} {fl : FL} {t : D → En → Option En} {ts : List Nat} {tt : FB} {te : F} {W : Wi}
/-- a clause's tests by data -/
def DTs (X : Cx) (ifs : List Expr) (tt : FB) : Prop := PTs X ifs (tDT X.K X.mg tt)
theorem dts_nil : DTs X [] fYes := ⟨fun pins s σ H Q I h => pts_nil.run pins s σ H Q I (by
  obtain ⟨B, ρ, O, R, p⟩ := h
  exact p H (Go.refl R))⟩
theorem dts_one {c : Expr} {tc : FB} (h : DT X W0 c tc) : DTs X [c] tc := pts_one h.canon
/-- what a comprehension keeps from turn to turn -/
structure LcI (K : PySem.W.Frag) (mg : Str → Option Value) (B : Base) (O : Av) (σ : Sl) (ρ1 : En) (H1 : Hp) (D0 : Addr) (vs : List Nat) (ρb : En) (acc : List D) (H : Hp) : Prop where
  rep : Rep K mg B (O.add D0) ρb (wipe σ vs) H
  kd : kinds ρb = kinds (wipeE ρ1 vs)
  fr : ∀ b o, H1 b = some o → ¬ Mu ρ1 σ b → H b = some o
  at_ : ∃ va, H D0 = some (.lst va) ∧ RpL K mg H (O.add D0) va acc
theorem LcI.mu {K : PySem.W.Frag} {mg : Str → Option Value} {B : Base} {O : Av} {σ : Sl} {ρ1 ρb : En} {H1 H : Hp} {D0 : Addr} {vs : List Nat} {acc : List D} (h : LcI K mg B O σ ρ1 H1 D0 vs ρb acc H) {b : Addr} (m : Mu ρb (wipe σ vs) b) : Mu ρ1 σ b :=
  mu_wipe (mu_of_kinds h.kd m)
theorem kinds_wipe {ρ ρ' : En} {vs : List Nat} (h : kinds ρ' = kinds ρ) : kinds (wipeE ρ' vs) = kinds (wipeE ρ vs) := by
  have key : ∀ (l : En) (vs : List Nat), kinds (wipeE l vs) = wipeE (kinds l) vs := fun l vs => by
    induction vs with
    | nil => rfl
    | cons v vs ih =>
      show ((wipeE l vs).set v none).map _ = (wipeE (kinds l) vs).set v none
      rw [List.map_set]
      show (kinds (wipeE l vs)).set v none = _
      rw [ih]
  rw [key, key, h]
/-- behind a turn's test or element -/
theorem LcI.go {K : PySem.W.Frag} {mg : Str → Option Value} {B : Base} {O : Av} {σ σ2 : Sl} {ρ1 ρb ρ2 ρ3 : En} {H1 H H2 H3 : Hp} {D0 : Addr} {vs : List Nat} {acc : List D} (hD : H1 D0 = none) (lv : ∀ b, Mu ρ1 σ b → H1 b ≠ none) (h : LcI K mg B O σ ρ1 H1 D0 vs ρb acc H)
    (s : Same H H2) (hs : wipe σ2 vs = wipe σ vs) (hr : wipeE ρ2 vs = wipeE ρb vs) (hm : ∀ b, Mu ρ2 σ2 b → Mu ρb (wipe σ vs) b) (R2 : Rep K mg B (O.add D0) ρ2 σ2 H2) (g : Go K mg B (O.add D0) σ2 ρ2 H2 ρ3 H3) :
    LcI K mg B O σ ρ1 H1 D0 vs (wipeE ρ3 vs) acc H3 := by
  have hD' : ¬ Mu ρ2 σ2 D0 := fun m => lv D0 (h.mu (hm D0 m)) hD
  have wb : wipeE (wipeE ρb vs) vs = wipeE ρb vs := by
    have key : ∀ (us : List Nat), (∀ u, u ∈ us → u ∈ vs) → wipeE (wipeE ρb vs) us = wipeE ρb vs := fun us => by
      induction us with
      | nil => exact fun _ => rfl
      | cons u us ih =>
        intro hu
        show (wipeE (wipeE ρb vs) us).set u none = _
        rw [ih fun x hx => hu x (List.mem_cons_of_mem _ hx)]
        apply List.ext_getElem?
        intro j
        by_cases e : u = j
        · subst e
          by_cases l : u < (wipeE ρb vs).length
          · rw [List.getElem?_set_self l]
            cases q : (wipeE ρb vs)[u]? with
            | none => exact absurd (List.getElem?_eq_none_iff.mp q) (by omega)
            | some o =>
              cases o with
              | none => rfl
              | some x => exact absurd (hu u (List.mem_cons_self ..)) (wipeE_get q).2
          · rw [List.getElem?_eq_none (by rw [List.length_set]; omega), List.getElem?_eq_none (by omega)]
        · rw [List.getElem?_set_ne e]
    exact key vs fun _ h => h
  obtain ⟨va, e1, e2⟩ := h.at_
  refine ⟨?_, ?_, fun b o e m => ?_, va, ?_, ?_⟩
  · have r := g.rep.wipe vs
    rw [hs] at r
    exact r
  · have k1 : kinds (wipeE ρ3 vs) = kinds (wipeE ρ2 vs) := kinds_wipe g.kd
    rw [k1, hr]
    have k2 : kinds (wipeE ρb vs) = kinds (wipeE (wipeE ρ1 vs) vs) := kinds_wipe h.kd
    rw [k2]
    apply congrArg
    apply List.ext_getElem?
    intro j
    by_cases hj : j ∈ vs
    · have none1 : ∀ (l : En), (wipeE l vs)[j]? = none ∨ (wipeE l vs)[j]? = some none := fun l => by
        cases q : (wipeE l vs)[j]? with
        | none => exact .inl rfl
        | some o =>
          cases o with
          | none => exact .inr rfl
          | some x => exact absurd hj (wipeE_get q).2
      have len : (wipeE (wipeE ρ1 vs) vs).length = (wipeE ρ1 vs).length := wipeE_len _ _
      rcases none1 (wipeE ρ1 vs) with q | q <;> rcases none1 ρ1 with q' | q'
      · rw [q, q']
      · have a1 := List.getElem?_eq_none_iff.mp q
        have a2 := (List.getElem?_eq_some_iff.mp q').1
        omega
      · have a1 := List.getElem?_eq_none_iff.mp q'
        have a2 := (List.getElem?_eq_some_iff.mp q).1
        omega
      · rw [q, q']
    · rw [wipeE_out hj]
  · exact g.fr b o (s _ _ (h.fr b o e m)) fun z => m (h.mu (hm b z))
  · exact g.fr D0 _ (s _ _ e1) hD'
  · exact (e2.kp (Same.kp s)).kp (g.kp R2)
theorem lc_sem {wi : TI} (ii : ∀ (B : W.BB) (ρ : En) (σ : Sl) (H : Hp) (O : Av) (R' : It → Hp → Prop), Rep X.K X.mg B.1 O ρ σ H →
      RPost (fl ρ) (fun ds ρ' => ∀ J H1, Go X.K X.mg B.1 O σ ρ H ρ' H1 → WalkD X.K X.mg J ds H1 O → R' J H1) (ErE X B.1 W O σ ρ H) → wi σ H R') (hts : ∀ t, t ∈ ts → t ∈ own.map (·.2))
    (B : W.BB) (ρ : En) (σ : Sl) (H : Hp) (O : Av) (Q : VK) (R : Rep X.K X.mg B.1 O ρ σ H)
    (p : RPost (fLc fl (own.map (·.2)) t tt te ρ) (fun ds ρ' => ∀ vs p H', Go X.K X.mg B.1 O σ ρ H ρ' H' → H' p = none → RpL X.K X.mg H' O vs ds → Q (.ref p) (upd H' p (.lst vs))) (ErE X B.1 W O σ ρ H)) :
    tLc wi (tDG X.K X.mg ts t) (tDT X.K X.mg tt) (tD X.K X.mg te) (own.map (·.2)) σ H Q := by
  unfold fLc at p
  rw [rpost_bind] at p
  refine ii B ρ σ H O _ R (p.mono (fun ds ρ1 p J H1 g1 wk => ?_) fun _ _ _ e => e)
  intro D0 hD
  split at p
  rotate_left
  · exact p.elim
  rename_i hnm
  have p2 := rpost_bindN (er' := fun _ _ _ => True) p
  clear p
  have R1 := g1.rep
  have lv : ∀ b, Mu ρ1 σ b → H1 b ≠ none := fun b m => R1.live b (R1.mu_O m)
  have nD : ¬ O D0 := fresh_not R1.live hD
  let vs := own.map (·.2)
  let Ok : List D → En → Prop := fun acc ρb => RPost (DL.R.ok acc (backE vs ρ1 ρb)) (fun ds ρ' => ∀ vs p H', Go X.K X.mg B.1 O σ ρ H ρ' H' → H' p = none → RpL X.K X.mg H' O vs ds → Q (.ref p) (upd H' p (.lst vs))) (ErE X B.1 W O σ ρ H)
  let Wv : Nat → Nat → Hp → Prop := fun i m H' => m + i = ds.length ∧ ∃ ρb acc, LcI X.K X.mg B.1 O σ ρ1 H1 D0 vs ρb acc H' ∧ RPost (lcL vs t tt te (ds.drop i) acc ρb) Ok fun _ _ _ => True
  refine ⟨Wv, ⟨ds.length, rfl, wipeE ρ1 vs, [], ⟨(R1.wipe vs).grow hD, rfl, fun b o e _ => same_new hD b o e, [], upd_same, .nil⟩, p2⟩, fun i m H2 hW => ?_⟩
  obtain ⟨hm, ρb, acc, L, pr⟩ := hW
  have kpW : Kp H1 O H2 (O.add D0) := fun a u e n => ⟨L.fr a u e fun z => n (R1.mu_O z), fun z => z.elim n fun z => by rw [z, hD] at e; cases e⟩
  obtain ⟨hgo, hstop⟩ := wk H2 (O.add D0) kpW L.rep.live
  by_cases hi : i < ds.length
  · have hd : ds[i]? = some ds[i] := List.getElem?_eq_getElem hi
    obtain ⟨go, yl⟩ := hgo i _ hd
    rw [List.drop_eq_getElem_cons hi] at pr
    unfold lcL at pr
    split at pr
    · exact pr.elim
    · rename_i ρ2 h2
      refine .inr ⟨go, Wv (i + 1) (m - 1), fun H' hN => ⟨m - 1, by omega, hN⟩, fun x H3 hy => ?_⟩
      obtain ⟨s3, r3⟩ := yl x H3 hy
      refine ⟨B.1, ρb, ρ2, O.add D0, ds[i], L.rep.same s3, r3, h2, fun σ4 H4 s4 R4 tg4 => ?_⟩
      have ws : wipe σ4 vs = wipe σ vs := by
        have e := tg4.s vs hts
        have idem : wipe (wipe σ vs) vs = wipe σ vs := by
          apply List.ext_getElem?
          intro j
          by_cases hj : j ∈ vs
          · have nn : ∀ (l : Sl), (wipe l vs)[j]? = none ∨ (wipe l vs)[j]? = some none := fun l => by
              cases q : (wipe l vs)[j]? with
              | none => exact .inl rfl
              | some o =>
                cases o with
                | none => exact .inr rfl
                | some y => exact absurd hj (wipe_mem q).2
            have len : (wipe (wipe σ vs) vs).length = (wipe σ vs).length := wipe_length _ _
            rcases nn (wipe σ vs) with q | q <;> rcases nn σ with q' | q'
            · rw [q, q']
            · have a1 := List.getElem?_eq_none_iff.mp q
              have a2 := (List.getElem?_eq_some_iff.mp q').1
              omega
            · have a1 := List.getElem?_eq_none_iff.mp q'
              have a2 := (List.getElem?_eq_some_iff.mp q).1
              omega
            · rw [q, q']
          · rw [wipe_out hj]
        rw [e, idem]
      have wr : wipeE ρ2 vs = wipeE ρb vs := tg4.r vs hts
      refine ⟨ws.trans (by rfl), B.1, ρ2, O.add D0, R4, (rpost_bindN (er' := fun _ _ _ => False) pr).mono (fun b ρ3 pr3 H5 g5 => ?_) fun _ _ _ z => z⟩
      have hm2 : ∀ b, Mu ρ2 σ4 b → Mu ρb (wipe σ vs) b := tg4.m
      have L5 := L.go hD lv (s3.trans s4) ws wr hm2 R4 g5
      cases b with
      | false =>
        rw [if_neg Bool.false_ne_true] at pr3
        show (if false = true then _ else _)
        rw [if_neg Bool.false_ne_true]
        exact ⟨by omega, _, acc, L5, pr3⟩
      | true =>
        rw [if_pos rfl] at pr3
        show (if true = true then _ else _)
        rw [if_pos rfl]
        refine ⟨B.1, ρ3, O.add D0, g5.rep, (rpost_bindN (er' := fun _ _ _ => False) pr3).mono (fun y ρ6 pr6 w H6 g6 rw6 => ?_) fun _ _ _ z => z⟩
        have L6 := L.go hD lv (s3.trans s4) ws wr hm2 R4 (g5.trans g6)
        obtain ⟨va, e1, e2⟩ := L6.at_
        split at pr6
        · rename_i hl
          have kp : Kp H6 (O.add D0) (upd H6 D0 (.lst (va ++ [w]))) (O.add D0) := fun a u e n => ⟨by rw [upd_ne fun z : a = D0 => n (.inr z)]; exact e, n⟩
          have nM : ¬ Mu (wipeE ρ6 vs) (wipe σ vs) D0 := fun m => lv D0 (L6.mu m) hD
          have h0 : B.1.H0 D0 = none := R1.h0 hD
          refine ⟨va, e1, e2.1.symm ▸ hl, by omega, _, acc ++ [y], ⟨L6.rep.poke (.inr rfl) nM h0, L6.kd, fun b o e mm => ?_, va ++ [w], upd_same, (e2.app (.cons rw6 .nil)).kp kp⟩, pr6⟩
          rw [upd_ne fun z : b = D0 => by rw [z, hD] at e; cases e]
          exact L6.fr b o e mm
        · exact pr6.elim
  · have hi' : i = ds.length := by omega
    subst hi'
    rw [List.drop_length] at pr
    refine .inl ⟨hstop, ?_⟩
    obtain ⟨va, e1, e2⟩ := L.at_
    -- the heap ahead of the list
    let Hc : Hp := fun b => if b = D0 then none else H2 b
    have hc0 : Hc D0 = none := if_pos rfl
    have hcn : ∀ b, b ≠ D0 → Hc b = H2 b := fun b n => if_neg n
    have back : upd Hc D0 (.lst va) = H2 := by
      funext b
      by_cases e : b = D0
      · rw [e, upd_same, e1]
      · rw [upd_ne e, hcn b e]
    have kpc : Kp H2 (O.add D0) Hc O := fun a u e n => ⟨by rw [hcn a fun z => n (.inr z)]; exact e, fun z => n (.inl z)⟩
    have kd1 : kinds (backE vs ρ1 ρb) = kinds ρ1 := by
      apply List.ext_getElem?
      intro j
      rw [kinds_get, kinds_get, backE, List.getElem?_map]
      by_cases hj : j < ρ1.length
      · rw [List.getElem?_range hj]
        have e0 : ρ1[j]? = some ρ1[j] := List.getElem?_eq_getElem hj
        by_cases hv : j ∈ vs
        · simp [hv, e0]
        · have e := congrArg (fun l => l[j]?) L.kd
          simp only [kinds_get, wipeE_out hv, e0] at e
          cases q : ρb[j]? with
          | none => rw [q] at e; cases e
          | some x =>
            rw [q] at e
            simp only [Option.map_some, hv, if_false, q, e0, Option.getD_some]
            exact e
      · rw [List.getElem?_eq_none (by rw [List.length_range]; omega), List.getElem?_eq_none (by omega)]
        rfl
    have slotOf : ∀ {j : Nat} {s : Slot}, (backE vs ρ1 ρb)[j]? = some (some s) → s.mu = true → ∃ t, ρ1[j]? = some (some t) ∧ t.mu = true ∧ ρb[j]? = some (some s) ∧ j ∉ vs := fun {j s} h m => by
      obtain ⟨t, h1, h2⟩ := kinds_at kd1 h
      have mt : t.mu = true := mu_kd h2 ▸ m
      rcases (backE_get h).2 with ⟨hv, e⟩ | ⟨hv, e⟩
      · rw [noMu_at hnm hv e] at m
        cases m
      · exact ⟨t, h1, mt, e, hv⟩
    have nDa : ∀ {j : Nat} {t : Slot} {a : Addr}, ρ1[j]? = some (some t) → t.mu = true → σ[j]? = some (some (.ref a)) → a ≠ D0 := fun {j t a} h m e z => lv a ⟨j, t, h, m, e⟩ (z ▸ hD)
    have Rf : Rep X.K X.mg B.1 O (backE vs ρ1 ρb) σ Hc := {
      len := by rw [backE, List.length_map, List.length_range, R1.len]
      slot := fun j s h => by
        rcases (backE_get h).2 with ⟨hv, e⟩ | ⟨hv, e⟩
        · have ms := noMu_at hnm hv e
          obtain ⟨v, s1, s2⟩ := R1.slot j s e
          refine ⟨v, s1, ?_⟩
          cases s with
          | dat d => exact Rp.kp kpc (Rp.kp kpW s2)
          | exc c fs => exact ⟨s2.1, s2.2.1, (s2.2.2.kp kpW).kp kpc⟩
          | own _ => cases ms
          | par _ _ => cases ms
        · obtain ⟨v, s1, s2⟩ := L.rep.slot j s e
          rw [wipe_out hv] at s1
          refine ⟨v, s1, s2.kp kpc fun a ea m => ?_⟩
          subst ea
          obtain ⟨t, t1, t2, _, _⟩ := slotOf h m
          have na := nDa t1 t2 s1
          exact ⟨hcn a na, R1.mu_O ⟨j, t, t1, t2, s1⟩⟩
      apart := fun j k s u a h1 h2 m1 m2 x1 x2 => by
        obtain ⟨t, t1, t2, _, _⟩ := slotOf h1 m1
        obtain ⟨t', t1', t2', _, _⟩ := slotOf h2 m2
        exact R1.apart j k t t' a t1 t1' t2 t2' x1 x2
      base := fun b o h n => by
        have e := L.rep.base b o h n
        rw [hcn b fun z => by rw [z, R1.h0 hD] at h; cases h]
        exact e
      live := fun a oa => by
        rw [hcn a fun z => nD (z ▸ oa)]
        exact L.rep.live a (.inl oa)
      o0 := R1.o0
      b0 := R1.b0
      pao := R1.pao }
    have gf : Go X.K X.mg B.1 O σ ρ H (backE vs ρ1 ρb) Hc := ⟨kd1.trans g1.kd, fun b o e m => by
      have e1 := g1.fr b o e m
      rw [hcn b fun z => by rw [z, hD] at e1; cases e1]
      exact L.fr b o e1 fun z => m (mu_of_kinds g1.kd z), Rf⟩
    have q := pr va D0 Hc gf hc0 (e2.kp kpc)
    rw [back] at q
    exact q

theorem dn_lc (hc : X.calm = true) (hN : X.N.Nodup) (hi : DI X W tg iter fl) (ok : BlkOk X.N X.env.scope scope own) (hts : ∀ t, t ∈ ts → t ∈ own.map (·.2))
    (hg : ∀ (s : Shared) (H : Hp) (C : Addr) (cl : List (Str × Addr)) (fp : List Addr), DG (X.blk s H scope (compEnvC scope cl C X.env) fp) tg ts t) (ht : ∀ (s : Shared) (H : Hp) (C : Addr) (cl : List (Str × Addr)) (fp : List Addr), DTs (X.blk s H scope (compEnvC scope cl C X.env) fp) ifs tt)
    (he : ∀ (s : Shared) (H : Hp) (C : Addr) (cl : List (Str × Addr)) (fp : List Addr), DE (X.blk s H scope (compEnvC scope cl C X.env) fp) W0 elt te) (hs : ∀ x, foldedSetIterable iter X.env x = pure x := by intro _; rfl) :
    DN X W (.ListComp elt [⟨tg, iter, ifs, 0⟩] scope pos) (fLc fl (own.map (·.2)) t tt te) := by
  obtain ⟨wi, pi, ii⟩ := hi
  exact ⟨_, pe_lc hc hN pi ok (g := tDG X.K X.mg ts t) (tt := tDT X.K X.mg tt) (te := tD X.K X.mg te) (fun s H C cl fp => (hg s H C cl fp).canon) ht (fun s H C cl fp => (he s H C cl fp).canon) hs, fun B ρ σ H O Q R p => lc_sem ii hts B ρ σ H O Q R p⟩
/-- name = [..] where the name is a plain local -/
theorem ds_setlc {i : Nat} {y : Str} {py spos : Pos} (hc : X.calm = true) (hN : X.N.Nodup) (hi : DI X W tg iter fl) (ok : BlkOk X.N X.env.scope scope own) (hts : ∀ t, t ∈ ts → t ∈ own.map (·.2))
    (hg : ∀ (s : Shared) (H : Hp) (C : Addr) (cl : List (Str × Addr)) (fp : List Addr), DG (X.blk s H scope (compEnvC scope cl C X.env) fp) tg ts t) (ht : ∀ (s : Shared) (H : Hp) (C : Addr) (cl : List (Str × Addr)) (fp : List Addr), DTs (X.blk s H scope (compEnvC scope cl C X.env) fp) ifs tt)
    (he : ∀ (s : Shared) (H : Hp) (C : Addr) (cl : List (Str × Addr)) (fp : List Addr), DE (X.blk s H scope (compEnvC scope cl C X.env) fp) W0 elt te) (hy : X.N[i]? = some y := by rfl) (hyl : X.env.scope.names.lookup y = some .local := by rfl)
    (hsw : swapsWith (.ListComp elt [⟨tg, iter, ifs, 0⟩] scope pos) (some (.Name y py)) spos.line X.env = pure true := by exact sw_true rfl rfl rfl (by decide +kernel)) (hs : ∀ x, foldedSetIterable iter X.env x = pure x := by intro _; rfl) :
    DS X W (.Assign [.Name y py] (.ListComp elt [⟨tg, iter, ifs, 0⟩] scope pos) spos) (gSet i (fOfL (fLc fl (own.map (·.2)) t tt te))) := by
  obtain ⟨wi, pi, ii⟩ := hi
  refine ⟨_, ps_setLc hc hN hy hyl hsw pi ok (g := tDG X.K X.mg ts t) (tt := tDT X.K X.mg tt) (te := tD X.K X.mg te) (fun s H C cl fp => (hg s H C cl fp).canon) ht (fun s H C cl fp => (he s H C cl fp).canon) hs, fun B ρ σ H O D R p => ?_⟩
  refine lc_sem ii hts B ρ σ H O _ R ?_
  have p2 := spost_sr R p
  unfold fOfL at p2
  rw [rpost_bind] at p2
  refine p2.mono (fun ds ρ1 p3 vs q H1 g hq r => ?_) fun _ _ _ e => e
  have s := same_new (o := .lst vs) hq
  have r2 := r.kp (O' := O) (Same.kp s)
  have g2 := g.trans (.same g.rep s)
  exact p3 _ g2 (σ.set i (some (.ref q))) _ O .refl (g2.rep.setD i (.lst upd_same (fresh_not g.rep.live hq) r2.1 r2.2))
/-- .. and the list is one's own from here on -/
theorem ds_ownlc {i : Nat} {y : Str} {py spos : Pos} (hc : X.calm = true) (hN : X.N.Nodup) (hi : DI X W tg iter fl) (ok : BlkOk X.N X.env.scope scope own) (hts : ∀ t, t ∈ ts → t ∈ own.map (·.2))
    (hg : ∀ (s : Shared) (H : Hp) (C : Addr) (cl : List (Str × Addr)) (fp : List Addr), DG (X.blk s H scope (compEnvC scope cl C X.env) fp) tg ts t) (ht : ∀ (s : Shared) (H : Hp) (C : Addr) (cl : List (Str × Addr)) (fp : List Addr), DTs (X.blk s H scope (compEnvC scope cl C X.env) fp) ifs tt)
    (he : ∀ (s : Shared) (H : Hp) (C : Addr) (cl : List (Str × Addr)) (fp : List Addr), DE (X.blk s H scope (compEnvC scope cl C X.env) fp) W0 elt te) (hy : X.N[i]? = some y := by rfl) (hyl : X.env.scope.names.lookup y = some .local := by rfl)
    (hsw : swapsWith (.ListComp elt [⟨tg, iter, ifs, 0⟩] scope pos) (some (.Name y py)) spos.line X.env = pure true := by exact sw_true rfl rfl rfl (by decide +kernel)) (hs : ∀ x, foldedSetIterable iter X.env x = pure x := by intro _; rfl) :
    DS X W (.Assign [.Name y py] (.ListComp elt [⟨tg, iter, ifs, 0⟩] scope pos) spos) (gOwn i (fLc fl (own.map (·.2)) t tt te)) := by
  obtain ⟨wi, pi, ii⟩ := hi
  refine ⟨_, ps_setLc hc hN hy hyl hsw pi ok (g := tDG X.K X.mg ts t) (tt := tDT X.K X.mg tt) (te := tD X.K X.mg te) (fun s H C cl fp => (hg s H C cl fp).canon) ht (fun s H C cl fp => (he s H C cl fp).canon) hs, fun B ρ σ H O D R p => ?_⟩
  refine lc_sem ii hts B ρ σ H O _ R ((spost_sr R p).mono (fun ds ρ1 p3 vs q H1 g hq r => ?_) fun _ _ _ e => e)
  exact p3 H1 g (σ.set i (some (.ref q))) _ (O.add q) (kp_add hq) (g.rep.setOwn hq r)
end
end DL

set_option Elab.async false
set_option linter.all false
set_option maxRecDepth 100000
/-! DL7: defs by data: the promise, the call, the raise. -/
namespace DL
open PySem PySem.Spec PyProof.Rows L2

inductive FR where
  | ok (d : D) (m : Option Cont)
  /-- a new list -/
  | okn (ds : List D) (m : Option Cont)
  | err (c : Str) (fs : List (Str × D)) (m : Option Cont)
  | stuck
abbrev Fn := List Slot → FR
def MutAt (K : PySem.W.Frag) (mg : Str → Option Value) (H : Hp) (O : Av) (pa : List Addr) (m : Option Cont) : Prop := ∀ a, pa[0]? = some a → ∃ c, m = some c ∧ ContAt K mg H O a c
def FPost (K : PySem.W.Frag) (mg : Str → Option Value) (H : Hp) (O : Av) (pa : List Addr) (Q : VK) (E : XK) : FR → Prop
  | .ok d m => ∀ v H', (∀ b o, H b = some o → b ∉ pa → H' b = some o) → Rp K mg H' O v d → MutAt K mg H' O pa m → Q v H'
  | .okn ds m => ∀ vs p H', (∀ b o, H b = some o → b ∉ pa → H' b = some o) → H' p = none → RpL K mg H' O vs ds → MutAt K mg H' O pa m → Q (.ref p) (upd H' p (.lst vs))
  | .err c fs m => ∀ C od H', (∀ b o, H b = some o → b ∉ pa → H' b = some o) → mg c = some (.ref C) → ErrAt K mg H' O od fs → MutAt K mg H' O pa m → E (.ref C) od H'
  | .stuck => False
/-- the promise of a def whose worth is told by m; at most its first argument changes -/
def spD (K : PySem.W.Frag) (mg : Str → Option Value) (n : Nat) (m : Fn) : Sp := fun vs H Q E => ∃ (ss : List Slot) (O : Av) (pa : List Addr), vs.length = n ∧ pa.length ≤ 1 ∧ Rep K mg ⟨H, O, pa, 0, none, .none⟩ O (ss.map some) (vs.map some) H ∧
  (∀ a, pa[0]? = some a → ∃ c, ss[0]? = some (.par 0 c)) ∧ FPost K mg H O pa Q E (m ss)
/-- what the first parameter holds at the end -/
def Slot.cont0 : Slot → Option Cont
  | .par 0 c => some c
  | _ => none
def Slot.isPar : Slot → Bool
  | .par _ _ => true
  | _ => false
def fin (ρ : En) : Option Cont := ρ[0]?.bind fun o => o.bind Slot.cont0
def isPar (ss : List Slot) : Bool := (ss[0]?.map Slot.isPar).getD false
/-- a def by its body: nl names beside the parameters -/
def mkFn (g : G) (nl : Nat) : Fn := fun ss => match g (ss.map some ++ List.replicate nl none) with
  | .nx ρ => if isPar ss = true then (match fin ρ with
      | some c => .ok .non (some c)
      | none => .stuck) else .ok .non none
  | .rt d ρ => if isPar ss = true then (match fin ρ with
      | some c => .ok d (some c)
      | none => .stuck) else .ok d none
  | .rtn ds ρ => if isPar ss = true then (match fin ρ with
      | some c => .okn ds (some c)
      | none => .stuck) else .okn ds none
  | .err c fs ρ => if isPar ss = true then (match fin ρ with
      | some c' => .err c fs (some c')
      | none => .stuck) else .err c fs none
  | _ => .stuck
section
variable {P : Program} {w : World} {K : PySem.W.Frag} {mg : Str → Option Value} {base : Heap}
theorem Rep.start {B : Base} {O : Av} {ss : List Slot} {vs : List V} {H : Hp} (R : Rep K mg B O (ss.map some) (vs.map some) H) (nl : Nat) : Rep K mg B O (ss.map some ++ List.replicate nl none) (vs.map some ++ List.replicate nl none) H := by
  have hl : vs.length = ss.length := by simpa using R.len
  have cut : ∀ {i : Nat} {s : Slot}, (ss.map some ++ List.replicate nl none)[i]? = some (some s) → i < ss.length ∧ (ss.map some)[i]? = some (some s) := fun {i s} h => by
    by_cases hi : i < ss.length
    · rw [List.getElem?_append_left (by simpa using hi)] at h
      exact ⟨hi, h⟩
    · rw [List.getElem?_append_right (by simpa using hi)] at h
      have := List.mem_of_getElem? h
      rw [List.mem_replicate] at this
      cases this.2
  have cutV : ∀ {i : Nat}, i < ss.length → (vs.map some ++ List.replicate nl none)[i]? = (vs.map some)[i]? := fun {i} h => List.getElem?_append_left (by simp; omega)
  exact {
    len := by simp [hl]
    slot := fun i s h => by
      obtain ⟨hi, e⟩ := cut h
      obtain ⟨v, e1, e2⟩ := R.slot i s e
      exact ⟨v, (cutV hi).trans e1, e2⟩
    apart := fun i j s t a h1 h2 m1 m2 e1 e2 => by
      obtain ⟨hi, x1⟩ := cut h1
      obtain ⟨hj, x2⟩ := cut h2
      rw [cutV hi] at e1
      rw [cutV hj] at e2
      exact R.apart i j s t a x1 x2 m1 m2 e1 e2
    base := R.base
    live := R.live
    o0 := R.o0
    b0 := R.b0
    pao := R.pao }
/-- the wish of a def's body -/
def WD (E : XK) : Wi := ⟨fun cls d _ H => E cls d H, fun _ => True⟩
theorem body_end {X : Cx} {H H' : Hp} {O O' : Av} {pa : List Addr} {ss : List Slot} {ρ : En} {σ : Sl} (hpa : ∀ a, pa[0]? = some a → ∃ c, ss[0]? = some (Slot.par 0 c)) (hl : pa.length ≤ 1) (hnp : isPar ss = true → ∃ a, pa[0]? = some a)
    (R : Rep X.K X.mg ⟨H, O, pa, 0, none, .none⟩ O' ρ σ H') : (∀ b o, H b = some o → b ∉ pa → H' b = some o) ∧ (∀ v d, Rp X.K X.mg H' O' v d → Rp X.K X.mg H' O v d) ∧ Kp H' O' H' O ∧
      (isPar ss = true → ∀ c, fin ρ = some c → MutAt X.K X.mg H' O pa (some c)) ∧ (isPar ss = false → ∀ m, MutAt X.K X.mg H' O pa m) := by
  have k : Kp H' O' H' O := fun a u e n => ⟨e, fun z => n (R.o0 a z)⟩
  refine ⟨R.base, fun v d r => r.kp k, k, fun hp c hc a ha => ⟨c, rfl, ?_⟩, fun hp m a ha => ?_⟩
  · unfold fin at hc
    cases q : ρ[0]? with
    | none => rw [q] at hc; cases hc
    | some o =>
      rw [q] at hc
      have e : ρ[0]? = some (some (.par 0 c)) := by
        rw [q]
        cases o with
        | none => cases hc
        | some s =>
          cases s with
          | par k c' =>
            cases k with
            | zero => cases hc; rfl
            | succ k => cases hc
          | _ => cases hc
      obtain ⟨v, _, a', rfl, _, e2, e3⟩ := R.slot 0 _ e
      have e2 : pa[0]? = some a' := e2
      rw [ha] at e2
      cases e2
      exact e3.kp k rfl
  · obtain ⟨c, e⟩ := hpa a ha
    unfold isPar at hp
    rw [e] at hp
    cases hp
theorem spD_len {n : Nat} {m : Fn} : ∀ vs H Q E, spD K mg n m vs H Q E → vs.length = n := fun vs H Q E h => by
  obtain ⟨_, _, _, h, _⟩ := h
  exact h
/-- what a body gives is what its def promises -/
theorem body_ok {X : Cx} {g : G} {body : List Stmt} {N ps : List Str} {vs : List V} {H : Hp} {Q : VK} {E : XK} (hb : DSs X (WD E) body g) (hn : ps.length ≤ N.length)
    (h : spD X.K X.mg ps.length (mkFn g (N.length - ps.length)) vs H Q E) : ∃ t, PSs X body t ∧ t { nx := fun _ H' => Q .non H', rt := Q } (L2.start N vs) H := by
  obtain ⟨ss, O, pa, hl, hp1, R, hpa, p⟩ := h
  obtain ⟨t, pt, it⟩ := hb
  have hnp : isPar ss = true → ∃ a, pa[0]? = some a := fun hp => by
    unfold DL.isPar at hp
    cases q : ss[0]? with
    | none => rw [q] at hp; cases hp
    | some s =>
      rw [q] at hp
      cases s with
      | par k c =>
        obtain ⟨v, _, a, _, _, e2, _⟩ := R.slot 0 (.par k c) (by rw [List.getElem?_map, q]; rfl)
        have e2 : pa[k]? = some a := e2
        have hk : k < pa.length := (List.getElem?_eq_some_iff.mp e2).1
        have : k = 0 := by omega
        subst this
        exact ⟨a, e2⟩
      | _ => cases hp
  refine ⟨t, pt, it ⟨⟨H, O, pa, 0, none, .none⟩, trivial⟩ (ss.map some ++ List.replicate (N.length - ps.length) none) _ H O _ (by
    have r := R.start (N.length - ps.length)
    unfold L2.start
    rw [hl]
    exact r) ?_⟩
  unfold mkFn at p
  have fin0 : ∀ {ρ : En} {σ : Sl} {H' : Hp} {O' : Av}, Rep X.K X.mg ⟨H, O, pa, 0, none, .none⟩ O' ρ σ H' → _ := fun {ρ σ H' O'} R' => body_end (X := X) (ss := ss) hpa hp1 hnp R'
  cases q : g (ss.map some ++ List.replicate (N.length - ps.length) none) with
  | stuck => rw [q] at p; exact p.elim
  | bk ρ => rw [q] at p; exact p.elim
  | ct ρ => rw [q] at p; exact p.elim
  | nx ρ =>
    rw [q] at p
    intro σ' H' O' k' R'
    obtain ⟨f1, f2, f3, f4, f5⟩ := fin0 R'
    dsimp only at p
    cases hs : isPar ss with
    | true =>
      rw [hs, if_pos rfl] at p
      cases hf : fin ρ with
      | none => rw [hf] at p; exact p.elim
      | some c =>
        rw [hf] at p
        exact p .non H' f1 .non (f4 hs c hf)
    | false =>
      rw [hs, if_neg Bool.false_ne_true] at p
      exact p .non H' f1 .non (f5 hs none)
  | rt d ρ =>
    rw [q] at p
    intro v σ' H' O' k' R' rv
    obtain ⟨f1, f2, f3, f4, f5⟩ := fin0 R'
    dsimp only at p
    cases hs : isPar ss with
    | true =>
      rw [hs, if_pos rfl] at p
      cases hf : fin ρ with
      | none => rw [hf] at p; exact p.elim
      | some c =>
        rw [hf] at p
        exact p v H' f1 (f2 v d rv) (f4 hs c hf)
    | false =>
      rw [hs, if_neg Bool.false_ne_true] at p
      exact p v H' f1 (f2 v d rv) (f5 hs none)
  | rtn ds ρ =>
    rw [q] at p
    intro vs q' σ' H' O' k' R' hq rv
    obtain ⟨f1, f2, f3, f4, f5⟩ := fin0 R'
    dsimp only at p
    cases hs : isPar ss with
    | true =>
      rw [hs, if_pos rfl] at p
      cases hf : fin ρ with
      | none => rw [hf] at p; exact p.elim
      | some c =>
        rw [hf] at p
        exact p vs q' H' f1 hq (rv.kp f3) (f4 hs c hf)
    | false =>
      rw [hs, if_neg Bool.false_ne_true] at p
      exact p vs q' H' f1 hq (rv.kp f3) (f5 hs none)
  | err c fs ρ =>
    rw [q] at p
    intro C od σ' H' O' k' R' m1 er
    obtain ⟨f1, f2, f3, f4, f5⟩ := fin0 R'
    dsimp only at p
    cases hs : isPar ss with
    | true =>
      rw [hs, if_pos rfl] at p
      cases hf : fin ρ with
      | none => rw [hf] at p; exact p.elim
      | some c' =>
        rw [hf] at p
        exact p C od H' f1 m1 (er.kp f3) (f4 hs c' hf)
    | false =>
      rw [hs, if_neg Bool.false_ne_true] at p
      exact p C od H' f1 m1 (er.kp f3) (f5 hs none)
/-- THE RULE: a def by data -/
theorem fnd {x qual : Str} {st : Stmt} {f : Addr} {fd : FuncData} {N ps : List Str} {k : Nat} {g : G} (F : L2.Fun K x qual st f fd) (S : FnScope N ps (defScope st)) (hn : ps.length ≤ N.length)
    (hb : ∀ (cdv : Value) (A : Around) (outer : List PySem.Env) (s : Shared) (H : Hp) (E : XK), Room k (A.deeper (envOfC qual (defScope st) s.heap.objs.size f cdv)) →
      DSs (cxOf (L2.CX P w) P w K mg base N qual (defScope st) f cdv A outer s H E) (WD E) (defBody st) g) :
    FnOk P w K mg base (L2.CX P w) (k + 1) f fd ps (spD K mg ps.length (mkFn g (N.length - ps.length))) :=
  F.okX S spD_len fun cdv A outer s H vs Q E hr h => body_ok (hb cdv A outer s H E hr) hn h
/-- .. with defaults -/
theorem fndD {x qual : Str} {params : Arguments} {body : List Stmt} {scope : Scope} {dvs : List V} {kws : List (Str × V)} {f : Addr} {fd : FuncData} {N ps : List Str} {k : Nat} {g : G} (F : FunD K x qual params body scope dvs kws f fd) (S : FnScope N ps scope) (hn : ps.length ≤ N.length)
    (hb : ∀ (cdv : Value) (A : Around) (outer : List PySem.Env) (s : Shared) (H : Hp) (E : XK), Room k (A.deeper (envOfC qual scope s.heap.objs.size f cdv)) →
      DSs (cxOf (L2.CX P w) P w K mg base N qual scope f cdv A outer s H E) (WD E) body g) :
    FnOk P w K mg base (L2.CX P w) (k + 1) f fd ps (spD K mg ps.length (mkFn g (N.length - ps.length))) :=
  F.ok S spD_len fun cdv A outer s H vs Q E hr h => body_ok (hb cdv A outer s H E hr) hn h
end
/-! ### calls -/
def fCall (n : Nat) (m : Fn) (dv : List D) (f : FL) : F := fun ρ => (f ρ).bind fun ds ρ1 => if (ds ++ dv).length = n then (match m ((ds ++ dv).map .dat) with
  | .ok d _ => .ok d ρ1
  | .okn ds _ => .ok (.lst ds) ρ1
  | .err c fs _ => .err c fs ρ1
  | .stuck => .stuck) else .stuck
/-- .. the call of a def that makes a new list -/
def fCallN (n : Nat) (m : Fn) (dv : List D) (f : FL) : FL := fun ρ => (f ρ).bind fun ds ρ1 => if (ds ++ dv).length = n then (match m ((ds ++ dv).map .dat) with
  | .okn ds _ => .ok ds ρ1
  | .err c fs _ => .err c fs ρ1
  | _ => .stuck) else .stuck
section
variable {X : Cx} {W : Wi} {k : Nat} {f : Addr} {fd : FuncData} {ps : List Str} {m : Fn} {dvs : List V} {ds : List Value} {dd : List D} {x : Str} {p pos : Pos} {e : Expr} {es : List Expr} {fl : FL}
theorem rep_dats {K : PySem.W.Frag} {mg : Str → Option Value} {H : Hp} {O : Av} {vs : List V} {ds : List D} (lv : ∀ z, O z → H z ≠ none) (r : RpL K mg H O vs ds) : Rep K mg ⟨H, O, [], 0, none, .none⟩ O ((ds.map Slot.dat).map some) (vs.map some) H where
  len := by simp [r.1]
  slot := fun i s h => by
    rw [List.getElem?_map, List.getElem?_map] at h
    cases q : ds[i]? with
    | none => rw [q] at h; cases h
    | some d =>
      rw [q] at h
      cases h
      obtain ⟨v, h1, h2⟩ := r.get q
      exact ⟨v, by rw [List.getElem?_map, h1]; rfl, h2⟩
  apart := fun i j s t a h1 h2 m1 m2 e1 e2 => by
    rw [List.getElem?_map, List.getElem?_map] at h1
    cases q : ds[i]? with
    | none => rw [q] at h1; cases h1
    | some d =>
      rw [q] at h1
      cases h1
      cases m1
  base := fun b o h _ => h
  live := lv
  o0 := fun _ h => h
  b0 := lv
  pao := fun a h => nomatch h
theorem same_of {H H' : Hp} (h : ∀ b o, H b = some o → b ∉ ([] : List Addr) → H' b = some o) : Same H H' := fun b o e => h b o e fun z => nomatch z
/-- a call with data alone, from the promise -/
theorem call_post {K : PySem.W.Frag} {mg : Str → Option Value} {H : Hp} {O : Av} {vs : List V} {ds : List D} {n : Nat} {Q : VK} {E : XK} (lv : ∀ z, O z → H z ≠ none) (hn : ds.length = n) (r : RpL K mg H O vs ds)
    (q : match m (ds.map Slot.dat) with
      | .ok d _ => ∀ v H', Same H H' → Rp K mg H' O v d → Q v H'
      | .okn ds _ => ∀ vs p H', Same H H' → H' p = none → RpL K mg H' O vs ds → Q (.ref p) (upd H' p (.lst vs))
      | .err c fs _ => ∀ C od H', Same H H' → mg c = some (.ref C) → ErrAt K mg H' O od fs → E (.ref C) od H'
      | .stuck => False) : spD K mg n m vs H Q E := by
  refine ⟨ds.map Slot.dat, O, [], r.1.trans hn, Nat.zero_le _, rep_dats lv r, fun a h => (nomatch h), ?_⟩
  cases c : m (ds.map Slot.dat) with
  | ok d _ => rw [c] at q; exact fun v H' fr rv _ => q v H' (same_of fr) rv
  | okn ds _ => rw [c] at q; exact fun vs p H' fr hp rv _ => q vs p H' (same_of fr) hp rv
  | err c fs _ => rw [c] at q; exact fun C od H' fr m1 er _ => q C od H' (same_of fr) m1 er
  | stuck => rw [c] at q; exact q.elim
/-- f(e, ..) with data alone; the defaults dvs fill up -/
theorem de_call (F : FnOk X.prog X.w X.K X.mg X.base (L2.CX X.prog X.w) k f fd ps (spD X.K X.mg ps.length m)) (hr : Room k X.A) (hm : X.mg x = some (.ref f)) (hk : PySem.W.keepIn X.K (.ref f) = true) (hb : Binds X.K fd ps ds) (hd : Vals dvs ds)
    (hdd : ∀ H O, (∀ z, O z → H z ≠ none) → RpL X.K X.mg H O dvs dd) (tk : Takes X W.w) (ha : DA X W (e :: es) fl) (hg : Gl X x := by rfl) (hdb : (x == ("__debug__" : Str)) = false := by decide)
    (he : starEach (e :: es) X.env = (false, eval e X.env) :: starEach es X.env := by rfl) (hpl : (backTo pos (starEach es X.env)).any (·.1) = false := by rfl) :
    DE X W (.Call (.Name x p) (e :: es) [] pos) (fCall ps.length m dd fl) := by
  obtain ⟨t, pa, ia⟩ := ha
  refine ⟨_, pe_callSD F hr hg hm hk hb hd (fun σ => passAt tk σ) pa hdb he hpl, fun B ρ σ H O Q R p => ?_⟩
  unfold fCall at p
  rw [rpost_bind] at p
  refine ia B ρ σ H O _ R (p.mono (fun as ρ1 p vs H1 g r => ?_) fun _ _ _ e => e)
  have rd := r.app (hdd H1 O g.rep.live)
  split at p
  · rename_i hn
    refine call_post g.rep.live hn rd ?_
    cases c : m ((as ++ dd).map Slot.dat) with
    | ok d _ =>
      rw [c] at p
      exact fun v H2 s rv => p v H2 (g.trans (.same g.rep s)) rv
    | okn ds _ =>
      rw [c] at p
      intro vs q H2 s hq rv
      have g2 := g.trans (.same g.rep s)
      have s2 := same_new (o := .lst vs) hq
      have r2 := rv.kp (O' := O) (Same.kp s2)
      exact p _ _ (g2.trans (.same g2.rep s2)) (.lst upd_same (fresh_not g2.rep.live hq) r2.1 r2.2)
    | err c fs _ =>
      rw [c] at p
      exact fun C od H2 s m1 er => p C od H2 (g.trans (.same g.rep s)) m1 er
    | stuck => rw [c] at p; exact p.elim
  · exact p.elim
theorem dn_call (F : FnOk X.prog X.w X.K X.mg X.base (L2.CX X.prog X.w) k f fd ps (spD X.K X.mg ps.length m)) (hr : Room k X.A) (hm : X.mg x = some (.ref f)) (hk : PySem.W.keepIn X.K (.ref f) = true) (hb : Binds X.K fd ps ds) (hd : Vals dvs ds)
    (hdd : ∀ H O, (∀ z, O z → H z ≠ none) → RpL X.K X.mg H O dvs dd) (tk : Takes X W.w) (ha : DA X W (e :: es) fl) (hg : Gl X x := by rfl) (hdb : (x == ("__debug__" : Str)) = false := by decide)
    (he : starEach (e :: es) X.env = (false, eval e X.env) :: starEach es X.env := by rfl) (hpl : (backTo pos (starEach es X.env)).any (·.1) = false := by rfl) :
    DN X W (.Call (.Name x p) (e :: es) [] pos) (fCallN ps.length m dd fl) := by
  obtain ⟨t, pa, ia⟩ := ha
  refine ⟨_, pe_callSD F hr hg hm hk hb hd (fun σ => passAt tk σ) pa hdb he hpl, fun B ρ σ H O Q R p => ?_⟩
  unfold fCallN at p
  rw [rpost_bind] at p
  refine ia B ρ σ H O _ R (p.mono (fun as ρ1 p vs H1 g r => ?_) fun _ _ _ e => e)
  have rd := r.app (hdd H1 O g.rep.live)
  split at p
  · rename_i hn
    refine call_post g.rep.live hn rd ?_
    cases c : m ((as ++ dd).map Slot.dat) with
    | ok d _ => rw [c] at p; exact p.elim
    | okn ds _ =>
      rw [c] at p
      exact fun vs q H2 s hq rv => p vs q H2 (g.trans (.same g.rep s)) hq rv
    | err c fs _ =>
      rw [c] at p
      exact fun C od H2 s m1 er => p C od H2 (g.trans (.same g.rep s)) m1 er
    | stuck => rw [c] at p; exact p.elim
  · exact p.elim
/-- the context of a def's body: what it takes, what it lets pass -/
theorem tkD {P : Program} {w : World} {K : PySem.W.Frag} {mg : Str → Option Value} {base : Heap} {N : List Str} {qual : Str} {scope : Scope} {f : Addr} {cd : Value} {A : Around} {outer : List PySem.Env} {s : Shared} {H : Hp} {E : XK} :
    Takes (cxOf (L2.CX P w) P w K mg base N qual scope f cd A outer s H E) (WD E).w := takes_of rfl rfl rfl rfl
theorem hpD {P : Program} {w : World} {K : PySem.W.Frag} {mg : Str → Option Value} {base : Heap} {N : List Str} {qual : Str} {scope : Scope} {f : Addr} {cd : Value} {A : Around} {outer : List PySem.Env} {s : Shared} {H : Hp} {E : XK} :
    PassesOwn (model P w) (cxOf (L2.CX P w) P w K mg base N qual scope f cd A outer s H E).A (cxOf (L2.CX P w) P w K mg base N qual scope f cd A outer s H E).env (cxOf (L2.CX P w) P w K mg base N qual scope f cd A outer s H E).xe := passes_of rfl
end
end DL

set_option Elab.async false
set_option linter.all false
set_option maxRecDepth 100000
/-! DL8: calls that change a list, own errors raised and caught. -/
namespace DL
open PySem PySem.Spec PyProof.Rows L2

/-! ### a call whose first argument is a list that it changes -/
def Slot.listC : Slot → Option (List D) := Slot.list
def fCallM (n : Nat) (m : Fn) (i : Nat) (f : FL) : F := fun ρ => match slotList ρ i with
  | none => .stuck
  | some _ => (f ρ).bind fun ds ρ1 => match slotList ρ1 i with
    | none => .stuck
    | some xs => if ds.length + 1 = n then (match m (.par 0 (.lst xs) :: ds.map .dat) with
      | .ok d (some (.lst ys)) => (match slotPut ρ1 i ys with
        | some ρ2 => .ok d ρ2
        | none => .stuck)
      | .okn ds2 (some (.lst ys)) => (match slotPut ρ1 i ys with
        | some ρ2 => .ok (.lst ds2) ρ2
        | none => .stuck)
      | .err c fs (some (.lst ys)) => (match slotPut ρ1 i ys with
        | some ρ2 => .err c fs ρ2
        | none => .stuck)
      | _ => .stuck) else .stuck
section
variable {K : PySem.W.Frag} {mg : Str → Option Value} {B : Base} {O : Av} {ρ ρ' : En} {σ : Sl} {H H' : Hp} {i : Nat} {a : Addr} {vs : List V} {ds : List D}
/-- behind a call that changed the list at a -/
theorem Rep.afterL (R : Rep K mg B O ρ σ H) (h : slotPut ρ i ds = some ρ') (hs : σ[i]? = some (some (.ref a))) (fr : ∀ b o, H b = some o → b ≠ a → H' b = some o) (e : H' a = some (.lst vs)) (r : RpL K mg H' O vs ds) : Go K mg B O σ ρ H ρ' H' := by
  -- first the store alone, then the new things
  obtain ⟨s, s', h1, h2, rfl⟩ := slotPut_at h
  have hm : s.mu = true := by
    cases s with
    | dat d => cases h2
    | exc c fs => cases h2
    | own xs => rfl
    | par k c => rfl
  have hO : O a := R.mu_O ⟨i, s, h1, hm, hs⟩
  have k : Kp H O H' O := fun b u e n => ⟨fr b u e fun z => n (z ▸ hO), n⟩
  have li : i < ρ.length := (List.getElem?_eq_some_iff.mp h1).1
  have kd : kinds (ρ.set i (some s')) = kinds ρ := by
    apply List.ext_getElem?
    intro j
    rw [kinds_get, kinds_get]
    by_cases hj : i = j
    · subst hj
      rw [List.getElem?_set_self li, h1]
      simp [(put_kd h2).1]
    · rw [List.getElem?_set_ne hj]
  refine ⟨kd, fun b o e m => fr b o e fun z => m (z ▸ ⟨i, s, h1, hm, hs⟩), ?_⟩
  exact {
    len := by rw [List.length_set, R.len]
    slot := fun j t ht => by
      by_cases hj : i = j
      · subst hj
        rw [List.getElem?_set_self li] at ht
        cases ht
        obtain ⟨v, g1, g2⟩ := R.slot i s h1
        rw [hs] at g1
        cases g1
        refine ⟨.ref a, hs, ?_⟩
        cases s with
        | dat d => cases hm
        | exc c fs => cases hm
        | own xs =>
          cases h2
          obtain ⟨b, e1, o, n, _⟩ := g2
          cases e1
          exact ⟨a, rfl, o, n, vs, e, r⟩
        | par q c =>
          cases c with
          | ins _ _ => cases h2
          | lst xs =>
            cases h2
            obtain ⟨b, e1, o, n, _⟩ := g2
            cases e1
            exact ⟨a, rfl, o, n, vs, e, r⟩
      · rw [List.getElem?_set_ne hj] at ht
        obtain ⟨w, g1, g2⟩ := R.slot j t ht
        refine ⟨w, g1, g2.kp k fun b e1 m => ?_⟩
        subst e1
        have nb : b ≠ a := fun z => hj (R.apart i j s t a h1 ht hm m hs (z ▸ g1))
        refine ⟨?_, R.mu_O ⟨j, t, ht, m, g1⟩⟩
        cases q : H b with
        | none => exact absurd q (R.live b (R.mu_O ⟨j, t, ht, m, g1⟩))
        | some u => exact fr b u q nb
    apart := fun j q t u b x1 x2 m1 m2 e1 e2 => by
      have key : ∀ {j : Nat} {t : Slot}, (ρ.set i (some s'))[j]? = some (some t) → t.mu = true → ∃ t', ρ[j]? = some (some t') ∧ t'.mu = true := fun {j t} ht m => by
        by_cases hj : i = j
        · subst hj
          exact ⟨s, h1, hm⟩
        · rw [List.getElem?_set_ne hj] at ht
          exact ⟨t, ht, m⟩
      obtain ⟨t', a1, a2⟩ := key x1 m1
      obtain ⟨u', b1, b2⟩ := key x2 m2
      exact R.apart j q t' u' b a1 b1 a2 b2 e1 e2
    base := fun b o e1 n => by
      have e' := R.base b o e1 n
      refine fr b o e' fun z => ?_
      obtain ⟨v, g1, g2⟩ := R.slot i s h1
      rw [hs] at g1
      cases g1
      cases s with
      | dat d => cases hm
      | exc c fs => cases hm
      | own xs =>
        obtain ⟨b', f1, o1, n1, _⟩ := g2
        cases f1
        rw [z, n1] at e1
        cases e1
      | par q c =>
        obtain ⟨b', f1, o1, n1, _⟩ := g2
        cases f1
        exact n (z ▸ List.mem_of_getElem? n1)
    live := fun b o => by
      by_cases z : b = a
      · rw [z, e]
        exact fun y => nomatch y
      · cases q : H b with
        | none => exact absurd q (R.live b o)
        | some u => rw [fr b u q z]; exact fun y => nomatch y
    o0 := R.o0
    b0 := R.b0
    pao := R.pao }
theorem rep_mut {n : List D} {ws : List V} (lv : ∀ z, O z → H z ≠ none) (hO : O a) (e : H a = some (.lst vs)) (r : RpL K mg H O vs ds) (rn : RpL K mg H O ws n) :
    Rep K mg ⟨H, O, [a], 0, none, .none⟩ O ((Slot.par 0 (.lst ds) :: n.map Slot.dat).map some) ((V.ref a :: ws).map some) H := by
  have R0 := rep_dats lv rn
  exact {
    len := by simp [rn.1]
    slot := fun i s h => by
      cases i with
      | zero =>
        have h : some (some (Slot.par 0 (.lst ds))) = some (some s) := h
        cases h
        exact ⟨.ref a, rfl, a, rfl, hO, rfl, vs, e, r⟩
      | succ i =>
        obtain ⟨v, h1, h2⟩ := R0.slot i s h
        refine ⟨v, h1, ?_⟩
        have hd : ∃ d, s = .dat d := by
          have h : ((n.map Slot.dat).map some)[i]? = some (some s) := h
          rw [List.getElem?_map, List.getElem?_map] at h
          cases q : n[i]? with
          | none => rw [q] at h; cases h
          | some d => rw [q] at h; cases h; exact ⟨d, rfl⟩
        obtain ⟨d, rfl⟩ := hd
        exact h2
    apart := fun i j s t b h1 h2 m1 m2 e1 e2 => by
      have z : ∀ {i : Nat} {s : Slot}, ((Slot.par 0 (.lst ds) :: n.map Slot.dat).map some)[i]? = some (some s) → s.mu = true → i = 0 := fun {i s} h m => by
        cases i with
        | zero => rfl
        | succ i =>
          have h : ((n.map Slot.dat).map some)[i]? = some (some s) := h
          rw [List.getElem?_map, List.getElem?_map] at h
          cases q : n[i]? with
          | none => rw [q] at h; cases h
          | some d => rw [q] at h; cases h; cases m
      rw [z h1 m1, z h2 m2]
    base := fun b o h _ => h
    live := lv
    o0 := fun _ h => h
    b0 := lv
    pao := fun b h => by rw [List.mem_singleton.mp h]; exact hO }
end
section
variable {X : Cx} {W : Wi} {k : Nat} {f : Addr} {fd : FuncData} {ps : List Str} {m : Fn} {x y : Str} {p p2 pos : Pos} {e : Expr} {es : List Expr} {fl : FL} {i : Nat}
/-- f(y, e, ..), y a list that the call changes -/
theorem de_callM (F : FnOk X.prog X.w X.K X.mg X.base (L2.CX X.prog X.w) k f fd ps (spD X.K X.mg ps.length m)) (hr : Room k X.A) (hm : X.mg x = some (.ref f)) (hk : PySem.W.keepIn X.K (.ref f) = true) (hb : Binds X.K fd ps [])
    (tk : Takes X W.w) (ha : DA X W es fl) (hN : X.N[i]? = some y := by rfl) (hv : Vis X.env.scope y := by first | exact Or.inl rfl | exact Or.inr (Or.inl rfl) | exact Or.inr (Or.inr rfl)) (hd : (y == ("__debug__" : Str)) = false := by decide)
    (hcd : (y == ("__classdict__" : Str)) = false := by decide) (hg : Gl X x := by rfl) (hdb : (x == ("__debug__" : Str)) = false := by decide)
    (he : starEach (.Name y p2 :: es) X.env = (false, eval (.Name y p2) X.env) :: starEach es X.env := by rfl) (hpl : (backTo pos (starEach es X.env)).any (·.1) = false := by rfl) :
    DE X W (.Call (.Name x p) (.Name y p2 :: es) [] pos) (fCallM ps.length m i fl) := by
  obtain ⟨t, pa, ia⟩ := ha
  refine ⟨_, pe_callSD F hr hg hm hk hb .nil (fun σ => passAt tk σ) (pa_cons (pe_var hN hv hd hcd) pa he) hdb he hpl, fun B ρ σ H O Q R p => ?_⟩
  unfold fCallM at p
  split at p
  · exact p.elim
  · rename_i xs0 h0
    obtain ⟨a, vs0, e1, hO, e3, _⟩ := R.listOf h0
    rw [rpost_bind] at p
    refine ⟨.ref a, e1, ia B ρ σ H O _ R (p.mono (fun ds ρ1 p ws H1 g r => ?_) fun _ _ _ e => e)⟩
    split at p
    · exact p.elim
    · rename_i xs h1
      obtain ⟨a', vs, f1, _, f3, f4⟩ := g.rep.listOf h1
      rw [e1] at f1
      cases f1
      split at p
      · rename_i hn
        refine ⟨Slot.par 0 (.lst xs) :: ds.map Slot.dat, O, [a], ?_, Nat.le_refl _, ?_, fun b hb => ⟨_, rfl⟩, ?_⟩
        · rw [List.append_nil, List.length_cons, r.1]
          exact hn
        · rw [List.append_nil]
          exact rep_mut g.rep.live hO f3 f4 r
        · have fr' : ∀ {H2 : Hp}, (∀ b o, H1 b = some o → b ∉ [a] → H2 b = some o) → ∀ b o, H1 b = some o → b ≠ a → H2 b = some o := fun h b o e n => h b o e fun z => n (List.mem_singleton.mp z)
          split at p
          · rename_i d ys q
            split at p
            · rename_i ρ2 h2
              rw [q]
              intro v H2 fr rv mt
              obtain ⟨c, ec, ca⟩ := mt a rfl
              cases ec
              obtain ⟨vs2, e2, r2⟩ := ca
              exact p v H2 (g.trans (g.rep.afterL h2 e1 (fr' fr) e2 r2)) rv
            · exact p.elim
          · rename_i ds2 ys q
            split at p
            · rename_i ρ2 h2
              rw [q]
              intro vs9 q9 H2 fr hq rv mt
              obtain ⟨c, ec, ca⟩ := mt a rfl
              cases ec
              obtain ⟨vs2, e2, r2⟩ := ca
              have g2 := g.trans (g.rep.afterL h2 e1 (fr' fr) e2 r2)
              have s2 := same_new (o := .lst vs9) hq
              have r9 := rv.kp (O' := O) (Same.kp s2)
              exact p _ _ (g2.trans (.same g2.rep s2)) (.lst upd_same (fresh_not g2.rep.live hq) r9.1 r9.2)
            · exact p.elim
          · rename_i c fs ys q
            split at p
            · rename_i ρ2 h2
              rw [q]
              intro C od H2 fr m1 er mt
              obtain ⟨c', ec, ca⟩ := mt a rfl
              cases ec
              obtain ⟨vs2, e2, r2⟩ := ca
              exact p C od H2 (g.trans (g.rep.afterL h2 e1 (fr' fr) e2 r2)) m1 er
            · exact p.elim
          · exact p.elim
      · exact p.elim
end

/-! ### own errors with one or two fields -/
/-- the promise of such an __init__ -/
def spX (K : PySem.W.Frag) (fs : List Str) : Sp := fun vs H Q _ => ∃ (a C : Addr) (ws : List V), vs = .ref a :: ws ∧ ws.length = fs.length ∧ OexC K C ∧ (∀ f, f ∈ fs → PySem.W.findIn K (.ref C) f = some none) ∧ H a = some (exo a C none) ∧
  ∀ d H', H d = none → d ≠ a → (∀ b, b ≠ a → b ≠ d → H' b = H b) → H' a = some (exo a C (some d)) → H' d = some (exd d (fs.zip ws).reverse) → Q .non H'
section
variable {P : Program} {w : World} {K : PySem.W.Frag} {mg : Str → Option Value} {base : Heap}
theorem exd_ne_own {dx x : Addr} {fs : List (Str × V)} : exd dx fs ≠ .own x := exd_own
theorem ok_init1 {x qual f1 p1 : Str} {st : Stmt} {f : Addr} {fd : FuncData} {k : Nat} {q1 q2 q3 q4 : Pos} (F : L2.Fun K x qual st f fd) (S : FnScope ["self", p1] ["self", p1] (defScope st))
    (hb : defBody st = [.Assign [.Attribute (.Name "self" q1) f1 q2] (.Name p1 q3) q4])
    (hs : ∀ (A : Around) (outer : List PySem.Env) (s : Shared) (H : Hp) (E : XK) (cdv : Value), swapsWith (.Name p1 q3) (some (.Attribute (.Name "self" q1) f1 q2)) q4.line (cxOf (L2.CX P w) P w K mg base ["self", p1] qual (defScope st) f cdv A outer s H E).env = pure false)
    (v0 : Vis (defScope st) "self") (v1 : Vis (defScope st) p1) (n1 : (p1 == ("__debug__" : Str)) = false) (n2 : (p1 == ("__classdict__" : Str)) = false) : FnOk P w K mg base (L2.CX P w) (k + 1) f fd ["self", p1] (spX K [f1]) := by
  refine F.okX S (fun vs H Q E h => ?_) fun cdv A outer s H vs Q E hr h => ?_
  · obtain ⟨a, C, ws, rfl, hl, _⟩ := h
    rw [List.length_cons, hl]
    rfl
  · obtain ⟨a, C, ws, rfl, hl, T, nf, e, q⟩ := h
    obtain ⟨y, rfl⟩ : ∃ y, ws = [y] := by
      match ws, hl with
      | [y], _ => exact ⟨y, rfl⟩
    rw [hb]
    refine ⟨_, pss_one (ps_ost (pe_var (i := 0) rfl v0) (pe_var (i := 1) rfl v1 n1 n2) (hs A outer s H E cdv)), ?_⟩
    refine ⟨y, rfl, .ref a, rfl, a, C, rfl, T, nf f1 (by simp), .inl ⟨e, fun d hd ne => ?_⟩⟩
    refine q d _ hd ne (fun b h1 h2 => ?_) upd_same ?_
    · rw [upd_ne h1, upd_ne h2]
    · rw [upd_ne ne, upd_same]
      rfl
theorem ok_init2 {x qual f1 f2 p1 p2 : Str} {st : Stmt} {f : Addr} {fd : FuncData} {k : Nat} {q1 q2 q3 q4 q5 q6 q7 q8 : Pos} (F : L2.Fun K x qual st f fd) (S : FnScope ["self", p1, p2] ["self", p1, p2] (defScope st))
    (hb : defBody st = [.Assign [.Attribute (.Name "self" q1) f1 q2] (.Name p1 q3) q4, .Assign [.Attribute (.Name "self" q5) f2 q6] (.Name p2 q7) q8])
    (hs : ∀ (A : Around) (outer : List PySem.Env) (s : Shared) (H : Hp) (E : XK) (cdv : Value), swapsWith (.Name p1 q3) (some (.Attribute (.Name "self" q1) f1 q2)) q4.line (cxOf (L2.CX P w) P w K mg base ["self", p1, p2] qual (defScope st) f cdv A outer s H E).env = pure false)
    (hs2 : ∀ (A : Around) (outer : List PySem.Env) (s : Shared) (H : Hp) (E : XK) (cdv : Value), swapsWith (.Name p2 q7) (some (.Attribute (.Name "self" q5) f2 q6)) q8.line (cxOf (L2.CX P w) P w K mg base ["self", p1, p2] qual (defScope st) f cdv A outer s H E).env = pure false)
    (v0 : Vis (defScope st) "self") (v1 : Vis (defScope st) p1) (v2 : Vis (defScope st) p2) (n1 : (p1 == ("__debug__" : Str)) = false) (n2 : (p1 == ("__classdict__" : Str)) = false) (n3 : (p2 == ("__debug__" : Str)) = false) (n4 : (p2 == ("__classdict__" : Str)) = false) :
    FnOk P w K mg base (L2.CX P w) (k + 1) f fd ["self", p1, p2] (spX K [f1, f2]) := by
  refine F.okX S (fun vs H Q E h => ?_) fun cdv A outer s H vs Q E hr h => ?_
  · obtain ⟨a, C, ws, rfl, hl, _⟩ := h
    rw [List.length_cons, hl]
    rfl
  · obtain ⟨a, C, ws, rfl, hl, T, nf, e, q⟩ := h
    obtain ⟨y, z, rfl⟩ : ∃ y z, ws = [y, z] := by
      match ws, hl with
      | [y, z], _ => exact ⟨y, z, rfl⟩
    rw [hb]
    refine ⟨_, pss_cons (ps_ost (pe_var (i := 0) rfl v0) (pe_var (i := 1) rfl v1 n1 n2) (hs A outer s H E cdv)) (pss_one (ps_ost (pe_var (i := 0) rfl v0) (pe_var (i := 2) rfl v2 n3 n4) (hs2 A outer s H E cdv))), ?_⟩
    refine ⟨y, rfl, .ref a, rfl, a, C, rfl, T, nf f1 (by simp), .inl ⟨e, fun d hd ne => ?_⟩⟩
    have ed : (upd (upd H d (exd d [(f1, y)])) a (exo a C (some d))) d = some (exd d [(f1, y)]) := by rw [upd_ne ne, upd_same]
    refine ⟨z, rfl, .ref a, rfl, a, C, rfl, T, nf f2 (by simp), .inr ⟨d, _, upd_same, ed, by simp, ?_⟩⟩
    refine q d _ hd ne (fun b h1 h2 => ?_) ?_ upd_same
    · rw [upd_ne h2, upd_ne h1, upd_ne h2]
    · rw [upd_ne ne.symm, upd_same]
end
/-- raise C(e, ..) -/
def gRaise (c : Str) (fs : List Str) (f : FL) : G := fun ρ => (f ρ).sr fun ds ρ1 => if ds.length = fs.length then .err c (fs.zip ds) ρ1 else .stuck
/-- what is known of an own error class -/
structure ErrC (K : PySem.W.Frag) (mg : Str → Option Value) (c : Str) (C fI : Addr) (fs : List Str) : Prop where
  oex : OexC K C
  at_ : mg c = some (.ref C)
  no : ∀ f, f ∈ fs → PySem.W.findIn K (.ref C) f = some none
  init : PySem.W.findIn K (.ref C) "__init__" = some (some (.ref fI))
  ty : PySem.W.typeIn K (.ref fI) = some (.type "function")
  nd : fs.Nodup
  few : fs.length ≤ 900
theorem lookup_zip_rev {α : Type} : ∀ {fs : List Str} {ws : List α} {f : Str} {i : Nat} {x : α}, fs.Nodup → fs[i]? = some f → ws[i]? = some x → (fs.zip ws).reverse.lookup f = some x := by
  intro fs ws f i x nd h1 h2
  have mem : (f, x) ∈ (fs.zip ws).reverse := by
    rw [List.mem_reverse]
    exact List.mem_of_getElem? (i := i) (by rw [List.getElem?_zip_eq_some]; exact ⟨h1, h2⟩)
  have uniq : ∀ y, (f, y) ∈ (fs.zip ws).reverse → y = x := fun y hy => by
    rw [List.mem_reverse] at hy
    obtain ⟨j, hj⟩ := List.mem_iff_getElem?.mp hy
    rw [List.getElem?_zip_eq_some] at hj
    have e : i = j := (List.getElem?_inj (List.getElem?_eq_some_iff.mp h1).1 nd).mp (h1.trans hj.1.symm)
    subst e
    have := hj.2
    rw [h2] at this
    exact (Option.some.inj this).symm
  generalize (fs.zip ws).reverse = l at mem uniq
  induction l with
  | nil => cases mem
  | cons p l ih =>
    obtain ⟨g, y⟩ := p
    by_cases e : f = g
    · subst e
      rw [uniq y (List.mem_cons_self ..)]
      simp [List.lookup]
    · have hb : (f == g) = false := by simpa using e
      rw [List.lookup_cons, hb]
      refine ih ?_ fun z hz => uniq z (List.mem_cons_of_mem _ hz)
      rcases List.mem_cons.mp mem with h | h
      · cases h
        exact absurd rfl e
      · exact h
theorem lookup_zip {α : Type} : ∀ {fs : List Str} {ws : List α} {f : Str} {x : α}, (fs.zip ws).lookup f = some x → ∃ i : Nat, fs[i]? = some f ∧ ws[i]? = some x
  | [], _, _, _, h => by simp at h
  | _ :: _, [], _, _, h => by simp at h
  | g :: fs, y :: ws, f, x, h => by
    rw [List.zip_cons_cons, List.lookup_cons] at h
    by_cases e : f = g
    · subst e
      simp at h
      exact ⟨0, rfl, by rw [h]; rfl⟩
    · have hb : (f == g) = false := by simpa using e
      rw [hb] at h
      obtain ⟨i, h1, h2⟩ := lookup_zip h
      exact ⟨i + 1, h1, h2⟩
section
variable {X : Cx} {W : Wi} {c : Str} {C fI : Addr} {fs : List Str} {k : Nat} {fd : FuncData} {ps : List Str} {p pos pos2 : Pos} {e : Expr} {es : List Expr} {fl : FL}
theorem ds_raise (hc : X.calm = true) (T : ErrC X.K X.mg c C fI fs) (F : FnOk X.prog X.w X.K X.mg X.base (L2.CX X.prog X.w) k fI fd ps (spX X.K fs)) (hr : Room (k + 1) X.A) (hb : Binds X.K fd ps []) (tk : Takes X W.w) (ha : DA X W (e :: es) fl) (hg : Gl X c := by rfl)
    (hdb : (c == ("__debug__" : Str)) = false := by decide) (he : starEach (e :: es) X.env = (false, eval e X.env) :: starEach es X.env := by rfl) (hpl : (backTo pos (starEach es X.env)).any (·.1) = false := by rfl) :
    DS X W (.Raise (some (.Call (.Name c p) (e :: es) [] pos)) none pos2) (gRaise c fs fl) := by
  obtain ⟨t, pa, ia⟩ := ha
  refine ⟨_, ps_raise hc tk (pmk_oex T.oex T.init T.ty F hr hb .nil (fun _ _ _ _ _ _ _ h => by
    obtain ⟨_, _, _, _, _, _, _, _, _, _, _, _, z⟩ := h
    exact z.elim) hg T.at_ pa hdb he hpl), fun B ρ σ H O D R p => ?_⟩
  refine ia B ρ σ H O _ R ((spost_sr R p).mono (fun ds ρ1 p vs H1 g r => ?_) fun _ _ _ e => e)
  have p := p H1 g
  split at p
  · rename_i hl
    refine ⟨by rw [r.1, hl]; exact Nat.le_trans T.few (by decide), fun a ha => ⟨a, C, vs, by rw [List.append_nil], r.1.trans hl, T.oex, T.no, upd_same, fun d H2 hd ne o1 o2 o3 => ?_⟩⟩
    have hd1 : H1 d = none := by
      rw [upd_ne ne] at hd
      exact hd
    refine ⟨rfl, d, _, o2, o3, hd1, ?_⟩
    -- the heap behind it: what stood, and the exception's own dict
    let H3 : Hp := upd (del H2 a) d (.xd (fs.zip vs).reverse)
    have s3 : Same H1 H3 := fun b o eb => by
      have n1 : b ≠ a := ne_of_none eb ha
      have n2 : b ≠ d := ne_of_none eb hd1
      show upd (del H2 a) d _ b = some o
      rw [upd_ne n2, del_ne n1, o1 b n1 n2, upd_ne n1]
      exact eb
    have k3 : Kp H1 O H3 O := Same.kp s3
    refine p C (some d) σ H3 O k3 (g.rep.same s3) T.at_ (.inr ⟨d, (fs.zip vs).reverse, rfl, upd_same, fresh_not g.rep.live hd1, fun f x hx => ?_⟩)
    obtain ⟨i, i1, i2⟩ := lookup_zip hx
    obtain ⟨v, v1, v2⟩ := r.get i2
    exact ⟨v, lookup_zip_rev T.nd i1 v1, v2.kp k3⟩
  · exact p.elim
end
end DL

set_option Elab.async false
set_option linter.all false
set_option maxRecDepth 100000
/-! DL9: try. -/
namespace DL
open PySem PySem.Spec PyProof.Rows L2

def Slot.isExc : Slot → Bool
  | .exc _ _ => true
  | _ => false
def noExc (ρ : En) : Bool := ρ.all fun o => match o with
  | some s => !s.isExc
  | none => true
theorem noExc_at {ρ : En} (h : noExc ρ = true) {i : Nat} {s : Slot} (e : ρ[i]? = some (some s)) : s.isExc = false := by
  have := List.all_eq_true.mp h _ (List.mem_of_getElem? e)
  simpa using this
section
variable {K : PySem.W.Frag} {mg : Str → Option Value} {B : Base} {O : Av} {ρ : En} {σ : Sl} {H : Hp} {i : Nat} {a : Addr} {od : Option Addr} {c : Str} {fs : List (Str × D)}
theorem SlotAt.rebase {B' : Base} {s : Slot} {v : V} (h : SlotAt K mg B H O s v) (n : s.isExc = false) (e0 : B'.H0 = B.H0) (e1 : B'.pa = B.pa) : SlotAt K mg B' H O s v := by
  cases s with
  | dat d => exact h
  | own ds => obtain ⟨a, h1, h2, h3, h4⟩ := h; exact ⟨a, h1, h2, e0 ▸ h3, h4⟩
  | par k c => obtain ⟨a, h1, h2, h3, h4⟩ := h; exact ⟨a, h1, h2, e1 ▸ h3, h4⟩
  | exc c fs => cases n
theorem Rep.rebase {xa : Addr} {xd : Option Addr} {xc : Value} (R : Rep K mg B O ρ σ H) (n : noExc ρ = true) : Rep K mg { B with xa := xa, xd := xd, xc := xc } O ρ σ H where
  len := R.len
  slot := fun j s h => by
    obtain ⟨v, h1, h2⟩ := R.slot j s h
    exact ⟨v, h1, h2.rebase (noExc_at n h) rfl rfl⟩
  apart := R.apart
  base := R.base
  live := R.live
  o0 := R.o0
  b0 := R.b0
  pao := R.pao
theorem Rep.unbase {xa : Addr} {xd : Option Addr} {xc : Value} (R : Rep K mg { B with xa := xa, xd := xd, xc := xc } O ρ σ H) (n : noExc ρ = true) : Rep K mg B O ρ σ H where
  len := R.len
  slot := fun j s h => by
    obtain ⟨v, h1, h2⟩ := R.slot j s h
    exact ⟨v, h1, h2.rebase (noExc_at n h) rfl rfl⟩
  apart := R.apart
  base := R.base
  live := R.live
  o0 := R.o0
  b0 := R.b0
  pao := R.pao
/-- a name is given a value that is no list of one's own -/
theorem Rep.setS {v : V} {s : Slot} (R : Rep K mg B O ρ σ H) (hm : s.mu = false) (r : SlotAt K mg B H O s v) : Rep K mg B O (ρ.set i (some s)) (σ.set i (some v)) H where
  len := by rw [List.length_set, List.length_set, R.len]
  slot := fun j t h => by
    by_cases hj : i = j
    · subst hj
      have l : i < (ρ.set i (some s)).length := (List.getElem?_eq_some_iff.mp h).1
      rw [List.length_set] at l
      rw [List.getElem?_set_self l] at h
      cases h
      exact ⟨v, List.getElem?_set_self (R.len ▸ l), r⟩
    · rw [List.getElem?_set_ne hj] at h
      obtain ⟨w, h1, h2⟩ := R.slot j t h
      exact ⟨w, (List.getElem?_set_ne hj).trans h1, h2⟩
  apart := fun j k t u b h1 h2 m1 m2 e1 e2 => by
    have key : ∀ {j : Nat} {t : Slot}, (ρ.set i (some s))[j]? = some (some t) → t.mu = true → i ≠ j := fun {j t} h m e => by
      subst e
      have l : i < (ρ.set i (some s)).length := (List.getElem?_eq_some_iff.mp h).1
      rw [List.length_set] at l
      rw [List.getElem?_set_self l] at h
      cases h
      rw [hm] at m
      cases m
    have n1 := key h1 m1
    have n2 := key h2 m2
    rw [List.getElem?_set_ne n1] at h1 e1
    rw [List.getElem?_set_ne n2] at h2 e2
    exact R.apart j k t u b h1 h2 m1 m2 e1 e2
  base := R.base
  live := R.live
  o0 := R.o0
  b0 := R.b0
  pao := R.pao
/-- a name goes -/
theorem Rep.drop (R : Rep K mg B O ρ σ H) (i : Nat) : Rep K mg B O (ρ.set i none) (σ.set i none) H where
  len := by rw [List.length_set, List.length_set, R.len]
  slot := fun j t h => by
    by_cases hj : i = j
    · subst hj
      have l : i < (ρ.set i none).length := (List.getElem?_eq_some_iff.mp h).1
      rw [List.length_set] at l
      rw [List.getElem?_set_self l] at h
      cases h
    · rw [List.getElem?_set_ne hj] at h
      obtain ⟨w, h1, h2⟩ := R.slot j t h
      exact ⟨w, (List.getElem?_set_ne hj).trans h1, h2⟩
  apart := fun j k t u b h1 h2 m1 m2 e1 e2 => by
    have key : ∀ {j : Nat} {t : Slot}, (ρ.set i none)[j]? = some (some t) → i ≠ j := fun {j t} h e => by
      subst e
      have l : i < (ρ.set i none).length := (List.getElem?_eq_some_iff.mp h).1
      rw [List.length_set] at l
      rw [List.getElem?_set_self l] at h
      cases h
    have n1 := key h1
    have n2 := key h2
    rw [List.getElem?_set_ne n1] at h1 e1
    rw [List.getElem?_set_ne n2] at h2 e2
    exact R.apart j k t u b h1 h2 m1 m2 e1 e2
  base := R.base
  live := R.live
  o0 := R.o0
  b0 := R.b0
  pao := R.pao
end
/-- the canonical reading of a block -/
def tDS (X : Cx) (W : Wi) (g : G) : TS := fun D σ H => ∃ (B : W.BB) (ρ : En) (O : Av), Rep X.K X.mg B.1 O ρ σ H ∧ SPost X B.1 W D H O (g ρ)
theorem SPost.cx {X X' : Cx} {B : Base} {W : Wi} {D : Ends} {H : Hp} {O : Av} (hK : X'.K = X.K) (hm : X'.mg = X.mg) : ∀ {r : SR}, SPost X B W D H O r → SPost X' B W D H O r
  | .nx ρ', p => fun σ' H' O' k R => p σ' H' O' k (by rw [hK, hm] at R; exact R)
  | .bk ρ', p => fun σ' H' O' k R => p σ' H' O' k (by rw [hK, hm] at R; exact R)
  | .ct ρ', p => fun σ' H' O' k R => p σ' H' O' k (by rw [hK, hm] at R; exact R)
  | .rt d ρ', p => fun v σ' H' O' k R r => p v σ' H' O' k (by rw [hK, hm] at R; exact R) (by rw [hK, hm] at r; exact r)
  | .rtn ds ρ', p => fun vs q σ' H' O' k R hq r => p vs q σ' H' O' k (by rw [hK, hm] at R; exact R) hq (by rw [hK, hm] at r; exact r)
  | .err c fs ρ', p => fun C od σ' H' O' k R m er => p C od σ' H' O' k (by rw [hK, hm] at R; exact R) (by rw [hm] at m; exact m) (by rw [hK, hm] at er; exact er)
  | .stuck, p => p
theorem DSs.canon {X X' : Cx} {W : Wi} {st : List Stmt} {g : G} (hK : X'.K = X.K) (hm : X'.mg = X.mg) (h : DSs X' W st g) : PSs X' st (tDS X W g) := by
  obtain ⟨t, p, i⟩ := h
  refine ⟨fun pins s σ H D I hh => p.run pins s σ H D I ?_⟩
  obtain ⟨B, ρ, O, R, hp⟩ := hh
  exact i B ρ σ H O D (by rw [hK, hm]; exact R) (SPost.cx hK hm hp)
/-- the wish of an except suite that is not left by an error; the handled exception is at a -/
def WS (a : Addr) (cls : Value) (d : Option Addr) : Wi := ⟨fun _ _ _ _ => False, fun B => B.xa = a ∧ B.xd = d ∧ B.xc = cls⟩
/-- what a suite with a name does -/
def suiteAs (i : Nat) (g : G) (c : Str) (fs : List (Str × D)) : G := fun ρ => if noExc ρ = true then (match g (ρ.set i (some (.exc c fs))) with
  | .nx ρ2 => if noExc (ρ2.set i none) = true then .nx (ρ2.set i none) else .stuck
  | .rt d ρ2 => if noExc (ρ2.set i none) = true then .rt d (ρ2.set i none) else .stuck
  | .rtn ds ρ2 => if noExc (ρ2.set i none) = true then .rtn ds (ρ2.set i none) else .stuck
  | .bk ρ2 => if noExc (ρ2.set i none) = true then .bk (ρ2.set i none) else .stuck
  | .ct ρ2 => if noExc (ρ2.set i none) = true then .ct (ρ2.set i none) else .stuck
  | _ => .stuck) else .stuck
def gTryAs (body : G) (cat : Str → Option Bool) (i : Nat) (g : G) : G := fun ρ => match body ρ with
  | .err c fs ρ1 => (match cat c with
    | some true => suiteAs i g c fs ρ1
    | some false => .err c fs ρ1
    | none => .stuck)
  | r => r
section
variable {X : Cx} {W : Wi} {x n : Str} {cv : Value} {i : Nat} {body suite : List Stmt} {b₀ : Stmt} {np pos pos' : Pos} {gb gs : G} {cat : Str → Option Bool}
theorem ds_try_as (hs : X.stack = X.env :: X.outer) (hf : X.env.frame = some X.env.locals) (hN : X.N.Nodup) (hc : Names X x cv) (tk : Takes X W.w)
    (hcat : ∀ c b C, cat c = some b → X.mg c = some (.ref C) → PySem.W.exmOne X.K (.ref C) cv = some b)
    (hb : ∀ (Wx : WX) (pn : List (Addr × Obj)) (xe : Value → Shared → Prop), Takes (X.tr pn xe) Wx → PassesOwn (model X.prog X.w) X.A X.env xe → DSs (X.tr pn xe) ⟨Wx, W.b⟩ body gb)
    (hsu : ∀ (a : Addr) (oe : Obj) (cls : Value) (d : Option Addr) (pn : List (Addr × Obj)), Zc cls d oe → (∃ vs, oe.data = .fields vs) → DSs (X.suite a ((a, oe) :: pn)) (WS a cls d) (b₀ :: suite) gs)
    (hi : X.N[i]? = some n := by rfl) (hln : X.env.kindOf n = some .local := by rfl) :
    DS X W (.Try body [.ExceptHandler (some (.Name x np)) (some n) (b₀ :: suite) pos'] [] [] pos) (gTryAs gb cat i gs) := by
  refine ⟨_, ps_try_as (tb := fun Wx => tDS X ⟨Wx, W.b⟩ gb) (ts := fun a cls d => tDS X (WS a cls d) gs) hs hf hN hi hln hc tk (fun Wx pn xe t p => (hb Wx pn xe t p).canon rfl rfl) (fun a oe cls d pn hz hv => (hsu a oe cls d pn hz hv).canon rfl rfl), fun B ρ σ H O D R p => ?_⟩
  refine ⟨B, ρ, O, R, ?_⟩
  unfold gTryAs at p
  cases q : gb ρ with
  | nx ρ1 => rw [q] at p; exact p
  | bk ρ1 => rw [q] at p; exact p
  | ct ρ1 => rw [q] at p; exact p
  | rt d ρ1 => rw [q] at p; exact p
  | rtn ds ρ1 => rw [q] at p; exact p
  | stuck => rw [q] at p; exact p
  | err c fs ρ1 =>
    rw [q] at p
    intro C od σ1 H1 O1 k1 R1 m1 er
    dsimp only at p
    cases qc : cat c with
    | none => rw [qc] at p; exact p.elim
    | some b =>
      rw [qc] at p
      refine ⟨b, hcat c b C qc m1, fun hbt a ha => ?_, fun hbf => ?_⟩
      · subst hbt
        unfold suiteAs at p
        dsimp only at p
        split at p
        rotate_left
        · exact p.elim
        rename_i hne
        let B' : Base := { B.1 with xa := a, xd := od, xc := .ref C }
        have R2 : Rep X.K X.mg B' O1 (ρ1.set i (some (.exc c fs))) (σ1.set i (some (.ref a))) H1 := (R1.rebase hne).setS rfl ⟨rfl, ⟨C, m1, rfl⟩, er⟩
        refine ⟨⟨B', rfl, rfl, rfl⟩, _, O1, R2, ?_⟩
        have back : ∀ {ρ2 : En} {σ2 : Sl} {H2 : Hp} {O2 : Av}, noExc (ρ2.set i none) = true → Rep X.K X.mg B' O2 ρ2 σ2 H2 → Rep X.K X.mg B.1 O2 (ρ2.set i none) (σ2.set i none) H2 := fun {ρ2 σ2 H2 O2} n2 R' => (R'.drop i).unbase n2
        cases qs : gs (ρ1.set i (some (.exc c fs))) with
        | stuck => rw [qs] at p; exact p.elim
        | err c fs ρ2 => rw [qs] at p; exact p.elim
        | nx ρ2 =>
          rw [qs] at p
          dsimp only at p
          split at p
          · rename_i n2
            exact fun σ2 H2 O2 k2 R' => p _ H2 O2 (k1.trans k2) (back n2 R')
          · exact p.elim
        | bk ρ2 =>
          rw [qs] at p
          dsimp only at p
          split at p
          · rename_i n2
            exact fun σ2 H2 O2 k2 R' => p _ H2 O2 (k1.trans k2) (back n2 R')
          · exact p.elim
        | ct ρ2 =>
          rw [qs] at p
          dsimp only at p
          split at p
          · rename_i n2
            exact fun σ2 H2 O2 k2 R' => p _ H2 O2 (k1.trans k2) (back n2 R')
          · exact p.elim
        | rt d ρ2 =>
          rw [qs] at p
          dsimp only at p
          split at p
          · rename_i n2
            exact fun v σ2 H2 O2 k2 R' rv => p v _ H2 O2 (k1.trans k2) (back n2 R') rv
          · exact p.elim
        | rtn ds ρ2 =>
          rw [qs] at p
          dsimp only at p
          split at p
          · rename_i n2
            exact fun vs q2 σ2 H2 O2 k2 R' hq rv => p vs q2 _ H2 O2 (k1.trans k2) (back n2 R') hq rv
          · exact p.elim
      · subst hbf
        exact p C od σ1 H1 O1 k1 R1 m1 er
/-- e.f of the handled exception -/
def fXf (i : Nat) (c0 f : Str) : F := fun ρ => match ρ[i]? with
  | some (some (.exc c fs)) => if c = c0 then (match fs.lookup f with
    | some d => .ok d ρ
    | none => .stuck) else .stuck
  | _ => .stuck
end
theorem de_xf {X : Cx} {a : Addr} {oe : Obj} {cls : Value} {d : Option Addr} {pn : List (Addr × Obj)} {C0 : Addr} {n f c0 : Str} {np pos : Pos} {i : Nat} (T : XfC X.K C0) (hno : PySem.W.findIn X.K (.ref C0) f = some none) (hz : Zc cls d oe) (hv : ∃ vs, oe.data = .fields vs) (hcls : X.mg c0 = some (.ref C0))
    (hN : X.N[i]? = some n := by rfl) (hvis : Vis X.env.scope n := by first | exact Or.inl rfl | exact Or.inr (Or.inl rfl) | exact Or.inr (Or.inr rfl)) (hd : (n == ("__debug__" : Str)) = false := by decide) (hcd : (n == ("__classdict__" : Str)) = false := by decide)
    (hb : attributeBase (.Name n np) f (X.suite a ((a, oe) :: pn)).env (eval (.Name n np) (X.suite a ((a, oe) :: pn)).env) = eval (.Name n np) (X.suite a ((a, oe) :: pn)).env := by rfl) :
    DE (X.suite a ((a, oe) :: pn)) (WS a cls d) (.Attribute (.Name n np) f pos) (fXf i c0 f) := by
  refine ⟨_, pe_xf T hno hz hv (pe_var (i := i) hN hvis hd hcd) hb, fun B ρ σ H O Q R p => ?_⟩
  unfold fXf at p
  split at p
  · rename_i c fs h
    split at p
    · rename_i hcc
      subst hcc
      split at p
      · rename_i dd hl
        obtain ⟨v, h1, e1, ⟨C1, m1, m2⟩, er⟩ := R.slot i _ h
        have ba : B.1.xa = a := B.2.1
        have bd : B.1.xd = d := B.2.2.1
        have bc : B.1.xc = cls := B.2.2.2
        have m1 : X.mg c = some (.ref C1) := m1
        rw [hcls] at m1
        cases m1
        rw [ba] at e1
        rw [bd] at er
        rcases er with ⟨_, e⟩ | ⟨ad, xfs, e2, e3, _, e4⟩
        · rw [e] at hl
          cases hl
        · obtain ⟨v', l1, r1⟩ := e4 f dd hl
          exact ⟨v, h1, e1, bc.symm.trans m2, ad, xfs, v', e2, e3, l1, p v' H (Go.refl R) r1⟩
      · exact p.elim
    · exact p.elim
  · exact p.elim
end DL

set_option Elab.async false
set_option linter.all false
set_option maxRecDepth 100000
/-! DLA: operations by data. -/
namespace DL
open PySem PySem.Spec PyProof.Rows L2

def intOp (C : Int → Int → Bool) (g : Int → Int → D) : D → D → Option D := fun a b => match a, b with
  | .int i, .int j => if C i j = true then some (g i j) else none
  | _, _ => none
def intOp0 (g : Int → Int → D) : D → D → Option D := fun a b => match a, b with
  | .int i, .int j => some (g i j)
  | _, _ => none
section
variable {X : Cx}
theorem op2I {f : Value → Value → Sem Value} {C : Int → Int → Prop} {c : Int → Int → Bool} {g : Int → Int → V} {gd : Int → Int → D} (h : OpR X f (rI C g)) (hc : ∀ i j, c i j = true → C i j) (r : ∀ i j H O, Rp X.K X.mg H O (g i j) (gd i j)) : Op2 X f (intOp c gd) := by
  refine ⟨_, h, fun H O x y a b d Q lv rx ry e q => ?_⟩
  unfold intOp at e
  split at e
  · rename_i i j
    split at e
    · rename_i hcc
      cases e
      exact ⟨i, j, rx.int_inv, ry.int_inv, hc i j hcc, q _ H (Same.refl H) (r i j H O)⟩
    · cases e
  · cases e
theorem op2I0 {f : Value → Value → Sem Value} {g : Int → Int → V} {gd : Int → Int → D} (h : OpR X f (rI0 g)) (r : ∀ i j H O, Rp X.K X.mg H O (g i j) (gd i j)) : Op2 X f (intOp0 gd) := by
  refine ⟨_, h, fun H O x y a b d Q lv rx ry e q => ?_⟩
  unfold intOp0 at e
  split at e
  · rename_i i j
    cases e
    exact ⟨i, j, rx.int_inv, ry.int_inv, q _ H (Same.refl H) (r i j H O)⟩
  · cases e
def addI := intOp0 fun i j => .int (i + j)
def subI := intOp0 fun i j => .int (i - j)
def mulC (i j : Int) : Bool := decide (Builtin.Int.intBits i ≤ 60000000) && decide (Builtin.Int.intBits j ≤ 60000000)
def mulI := intOp mulC fun i j => .int (i * j)
def modI := intOp (fun _ j => decide (0 < j)) fun i j => .int (i % j)
def fdvC (_ j : Int) : Bool := decide (0 < j) && decide (j.natAbs.log2 < 9000)
def fdvI := intOp fdvC fun i j => .int (i / j)
def shlC (i j : Int) : Bool := decide (0 ≤ j) && (decide (j.toNat ≤ 60000000) && decide (Builtin.Int.intBits i ≤ 60000000))
def shlI := intOp shlC fun i j => .int (i * 2 ^ j.toNat)
def shrI := intOp (fun _ j => decide (0 ≤ j)) fun i j => .int (i / 2 ^ j.toNat)
def andI := intOp0 fun i j => .int (Builtin.bitAnd i j)
def powC (i j : Int) : Bool := decide (0 ≤ j) && (decide (j ≤ 1000000) && decide (i.natAbs < 2 ^ 64))
def powI := intOp powC fun i j => .int (i ^ j.toNat)
def ltI := intOp0 fun i j => .bl (decide (i < j))
def leI := intOp0 fun i j => .bl (decide (i ≤ j))
def gtI := intOp0 fun i j => .bl (decide (j < i))
def geI := intOp0 fun i j => .bl (decide (j ≤ i))
theorem o_addI : Op2 X (binaryOp .Add) addI := op2I0 op_add fun i j H O => .int _
theorem o_subI : Op2 X (binaryOp .Sub) subI := op2I0 op_sub fun i j H O => .int _
theorem o_mulI : Op2 X (binaryOp .Mult) mulI := op2I op_mulX (fun i j h => by
  obtain ⟨h1, h2⟩ := Bool.and_eq_true_iff.mp h
  have h1 := of_decide_eq_true h1
  have h2 := of_decide_eq_true h2
  show (Builtin.Int.intBits i : Int) + (Builtin.Int.intBits j : Int) ≤ 134217728
  omega) fun i j H O => .int _
theorem o_modI : Op2 X (binaryOp .Mod) modI := op2I op_mod (fun i j h => of_decide_eq_true h) fun i j H O => .int _
theorem o_fdvI : Op2 X (binaryOp .FloorDiv) fdvI := op2I op_fdivW (fun i j h => by
  obtain ⟨h1, h2⟩ := Bool.and_eq_true_iff.mp h
  exact ⟨of_decide_eq_true h1, of_decide_eq_true h2⟩) fun i j H O => .int _
theorem o_shlI : Op2 X (binaryOp .LShift) shlI := op2I op_shlW (fun i j h => by
  obtain ⟨h1, h2⟩ := Bool.and_eq_true_iff.mp h
  obtain ⟨h2, h3⟩ := Bool.and_eq_true_iff.mp h2
  have h1 := of_decide_eq_true h1
  have h2 := of_decide_eq_true h2
  have h3 := of_decide_eq_true h3
  exact ⟨h1, by omega⟩) fun i j H O => .int _
theorem o_shrI : Op2 X (binaryOp .RShift) shrI := op2I op_shr (fun i j h => of_decide_eq_true h) fun i j H O => .int _
theorem o_andI : Op2 X (binaryOp .BitAnd) andI := op2I0 op_and fun i j H O => .int _
theorem o_powI : Op2 X (binaryOp .Pow) powI := op2I op_pow (fun i j h => by
  obtain ⟨h1, h2⟩ := Bool.and_eq_true_iff.mp h
  obtain ⟨h2, h3⟩ := Bool.and_eq_true_iff.mp h2
  exact ⟨of_decide_eq_true h1, of_decide_eq_true h2, of_decide_eq_true h3⟩) fun i j H O => .int _
theorem o_ltI : Op2 X (compareOp .Lt) ltI := op2I0 op_lt fun i j H O => .bl _
theorem o_leI : Op2 X (compareOp .LtE) leI := op2I0 op_le fun i j H O => .bl _
theorem o_gtI : Op2 X (compareOp .Gt) gtI := op2I0 op_gt fun i j H O => .bl _
theorem o_geI : Op2 X (compareOp .GtE) geI := op2I0 op_ge fun i j H O => .bl _
def negI : D → Option D
  | .int i => some (.int (-i))
  | _ => none
theorem o_negI : Op1 X (unaryOp .USub) negI := by
  refine ⟨_, un_neg, fun H O x a d Q lv rx e q => ?_⟩
  cases a with
  | int i => cases e; exact ⟨i, rx.int_inv, q _ H (Same.refl H) (.int _)⟩
  | _ => cases e
/-! tuples, lists: + and * -/
def addT : D → D → Option D := fun a b => match a, b with
  | .tup xs, .tup ys => if xs.length + ys.length ≤ sizeLine then some (.tup (xs ++ ys)) else none
  | _, _ => none
theorem Rp.tup_inv {K : PySem.W.Frag} {mg : Str → Option Value} {H : Hp} {O : Av} {v : V} {ds : List D} (h : Rp K mg H O v (.tup ds)) : ∃ a vs, v = .ref a ∧ TAt K H O a vs ∧ RpL K mg H O vs ds := by
  cases h with
  | tup h n e => exact ⟨_, _, rfl, h, n, e⟩
theorem Rp.lst_inv {K : PySem.W.Frag} {mg : Str → Option Value} {H : Hp} {O : Av} {v : V} {ds : List D} (h : Rp K mg H O v (.lst ds)) : ∃ a vs, v = .ref a ∧ H a = some (.lst vs) ∧ ¬ O a ∧ RpL K mg H O vs ds := by
  cases h with
  | lst h o n e => exact ⟨_, _, rfl, h, o, n, e⟩
theorem new_tup {K : PySem.W.Frag} {mg : Str → Option Value} {H : Hp} {O : Av} {vs : List V} {ds : List D} {p : Addr} (lv : ∀ z, O z → H z ≠ none) (hp : H p = none) (r : RpL K mg H O vs ds) : Rp K mg (upd H p (.tup vs)) O (.ref p) (.tup ds) := by
  have r2 := r.kp (O' := O) (Same.kp (same_new (o := .tup vs) hp))
  exact .tup (.inl ⟨.inl upd_same, fresh_not lv hp⟩) r2.1 r2.2
theorem new_lst {K : PySem.W.Frag} {mg : Str → Option Value} {H : Hp} {O : Av} {vs : List V} {ds : List D} {p : Addr} (lv : ∀ z, O z → H z ≠ none) (hp : H p = none) (r : RpL K mg H O vs ds) : Rp K mg (upd H p (.lst vs)) O (.ref p) (.lst ds) := by
  have r2 := r.kp (O' := O) (Same.kp (same_new (o := .lst vs) hp))
  exact .lst upd_same (fresh_not lv hp) r2.1 r2.2
theorem nil_iff {K : PySem.W.Frag} {mg : Str → Option Value} {H : Hp} {O : Av} {vs : List V} {ds : List D} (r : RpL K mg H O vs ds) : vs = [] ↔ ds = [] := by
  have := r.1
  cases vs <;> cases ds <;> simp_all
theorem o_addT : Op2 X (binaryOp .Add) addT := by
  refine ⟨_, op_catA, fun H O x y a b d Q lv rx ry e q => ?_⟩
  unfold addT at e
  split at e
  · rename_i xs ys
    split at e
    · rename_i hl
      cases e
      obtain ⟨p, us, rfl, tp, ru⟩ := rx.tup_inv
      obtain ⟨p', ws, rfl, tp', rw'⟩ := ry.tup_inv
      refine ⟨p, p', us, ws, rfl, rfl, tp.sq, tp'.sq, by rw [ru.1, rw'.1]; exact hl, fun e0 => ?_, fun n0 e0 => ?_, fun n0 n1 np hn => ?_⟩
      · rw [(nil_iff ru).mp e0] at q
        exact q _ H (Same.refl H) ry
      · rw [(nil_iff rw').mp e0, List.append_nil] at q
        exact q _ H (Same.refl H) rx
      · exact q _ _ (same_new hn) (new_tup lv hn (ru.app rw'))
    · cases e
  · cases e
def addL : D → D → Option D := fun a b => match a, b with
  | .lst xs, .lst ys => if xs.length + ys.length ≤ sizeLine then some (.lst (xs ++ ys)) else none
  | _, _ => none
theorem o_addL : Op2 X (binaryOp .Add) addL := by
  refine ⟨_, op_cat, fun H O x y a b d Q lv rx ry e q => ?_⟩
  unfold addL at e
  split at e
  · rename_i xs ys
    split at e
    · rename_i hl
      cases e
      obtain ⟨p, us, rfl, tp, _, ru⟩ := rx.lst_inv
      obtain ⟨p', ws, rfl, tp', _, rw'⟩ := ry.lst_inv
      exact ⟨p, p', us, ws, rfl, rfl, tp, tp', by rw [ru.1, rw'.1]; exact hl, fun np hn => q _ _ (same_new hn) (new_lst lv hn (ru.app rw'))⟩
    · cases e
  · cases e
def addS : D → D → Option D := fun a b => match a, b with
  | .str x, .str y => if x.length + y.length ≤ sizeLine then some (.str (x ++ y)) else none
  | _, _ => none
theorem o_addS : Op2 X (binaryOp .Add) addS := by
  refine ⟨_, op_add_str, fun H O x y a b d Q lv rx ry e q => ?_⟩
  unfold addS at e
  split at e
  · rename_i xs ys
    split at e
    · rename_i hl
      cases e
      exact ⟨xs, ys, rx.str_inv, ry.str_inv, hl, q _ H (Same.refl H) (.str _)⟩
    · cases e
  · cases e
def addD := alt2 addI (alt2 addT (alt2 addL addS))
theorem o_add : Op2 X (binaryOp .Add) addD := o_addI.alt (o_addT.alt (o_addL.alt o_addS))
def mulL : D → D → Option D := fun a b => match a, b with
  | .lst xs, .int k => if -(2 ^ 63) ≤ k ∧ k < 2 ^ 63 ∧ xs.length * k.toNat ≤ sizeLine then some (.lst (List.replicate k.toNat xs).flatten) else none
  | _, _ => none
theorem o_mulL : Op2 X (binaryOp .Mult) mulL := by
  refine ⟨_, op_rep, fun H O x y a b d Q lv rx ry e q => ?_⟩
  unfold mulL at e
  split at e
  · rename_i xs k
    split at e
    · rename_i hl
      cases e
      obtain ⟨p, us, rfl, tp, _, ru⟩ := rx.lst_inv
      exact ⟨p, k, us, rfl, ry.int_inv, tp, hl.1, hl.2.1, by rw [ru.1]; exact hl.2.2, fun np hn => q _ _ (same_new hn) (new_lst lv hn (ru.rep _))⟩
    · cases e
  · cases e
def mulT2 : D → D → Option D := fun a b => match a, b with
  | .tup xs, .int k => if xs ≠ [] ∧ 2 ≤ k ∧ k ≤ 1000 ∧ xs.length ≤ 1000 then some (.tup (List.replicate k.toNat xs).flatten) else none
  | _, _ => none
theorem o_mulT2 : Op2 X (binaryOp .Mult) mulT2 := by
  refine ⟨_, op_repT, fun H O x y a b d Q lv rx ry e q => ?_⟩
  cases a with
  | tup xs =>
    cases b with
    | int k =>
      by_cases hl : xs ≠ [] ∧ 2 ≤ k ∧ k ≤ 1000 ∧ xs.length ≤ 1000
      · have e' : some (D.tup (List.replicate k.toNat xs).flatten) = some d := by
          have h : mulT2 (.tup xs) (.int k) = some (.tup (List.replicate k.toNat xs).flatten) := if_pos hl
          rw [h] at e
          exact e
        cases e'
        obtain ⟨p, us, rfl, tp, ru⟩ := rx.tup_inv
        exact ⟨p, k, us, rfl, ry.int_inv, tp.sq, fun z => hl.1 ((nil_iff ru).mp z), hl.2.1, hl.2.2.1, by rw [ru.1]; exact hl.2.2.2, fun np hn => q _ _ (same_new hn) (new_tup lv hn (ru.rep _))⟩
      · have h : mulT2 (.tup xs) (.int k) = none := if_neg hl
        rw [h] at e
        cases e
    | _ => cases e
  | _ => cases e
/-! == and != -/
mutual
def D.py : D → Option PyData
  | .non => some .none
  | .bl b => some (.bool b)
  | .int i => some (.int i)
  | .str s => some (.str s)
  | .lst xs => (pyAll xs).map .list
  | .slst xs => (pyAll xs).map .list
  | .tup xs => (pyAll xs).map .tuple
  | .ins _ _ => none
def pyAll : List D → Option (List PyData)
  | [] => some []
  | x :: xs => match x.py, pyAll xs with
    | some p, some ps => some (p :: ps)
    | _, _ => none
end
mutual
theorem dp_of {K : PySem.W.Frag} {mg : Str → Option Value} {H : Hp} {O : Av} : ∀ (d : D) (v : V) (p : PyData), Rp K mg H O v d → d.py = some p → Dp K H v p
  | .non, v, p, r, e => by cases e; cases r; exact .non
  | .bl b, v, p, r, e => by cases e; cases r; exact .bl b
  | .int i, v, p, r, e => by cases e; cases r; exact .int i
  | .str s, v, p, r, e => by cases e; cases r; exact .str s
  | .lst xs, v, p, r, e => by
    rw [D.py] at e
    cases q : pyAll xs with
    | none => rw [q] at e; cases e
    | some ps =>
      rw [q] at e
      cases e
      cases r with
      | lst h o n el => exact .lst (SqL.of h) (dps_of xs _ ps ⟨n, el⟩ q)
  | .slst xs, v, p, r, e => by
    rw [D.py] at e
    cases q : pyAll xs with
    | none => rw [q] at e; cases e
    | some ps =>
      rw [q] at e
      cases e
      cases r with
      | slst h n el => exact .lst h.sq (dps_of xs _ ps ⟨n, el⟩ q)
  | .tup xs, v, p, r, e => by
    rw [D.py] at e
    cases q : pyAll xs with
    | none => rw [q] at e; cases e
    | some ps =>
      rw [q] at e
      cases e
      cases r with
      | tup h n el => exact .tup h.sq (dps_of xs _ ps ⟨n, el⟩ q)
  | .ins _ _, v, p, r, e => by cases e
theorem dps_of {K : PySem.W.Frag} {mg : Str → Option Value} {H : Hp} {O : Av} : ∀ (ds : List D) (vs : List V) (ps : List PyData), RpL K mg H O vs ds → pyAll ds = some ps → DpAll K H vs ps
  | [], vs, ps, r, e => by
    cases e
    rw [(nil_iff r).mpr rfl]
    exact .nil
  | x :: xs, vs, ps, r, e => by
    rw [pyAll] at e
    cases q1 : x.py with
    | none => rw [q1] at e; cases e
    | some p =>
      cases q2 : pyAll xs with
      | none => rw [q1, q2] at e; cases e
      | some qs =>
        rw [q1, q2] at e
        cases e
        match vs, r with
        | [], r => exact nomatch r.1
        | v :: vs, r => exact .cons (dp_of x v p r.uncons.1 q1) (dps_of xs vs qs r.uncons.2 q2)
end
def eqvD (a b : D) : Option Bool := match a.py, b.py with
  | some p, some q => if (SeqAt.shaped p && SeqAt.shaped q) = true then some (PyData.eqv p q) else none
  | _, _ => none
def eqD : D → D → Option D := fun a b => (eqvD a b).map .bl
def neD : D → D → Option D := fun a b => (eqvD a b).map fun k => .bl (!k)
theorem eqv_at {K : PySem.W.Frag} {mg : Str → Option Value} {H : Hp} {O : Av} {x y : V} {a b : D} {k : Bool} (rx : Rp K mg H O x a) (ry : Rp K mg H O y b) (e : eqvD a b = some k) :
    ∃ p q, Dp K H x p ∧ Dp K H y q ∧ SeqAt.shaped p = true ∧ SeqAt.shaped q = true ∧ k = PyData.eqv p q := by
  unfold eqvD at e
  split at e
  · rename_i p q e1 e2
    split at e
    · rename_i hs
      cases e
      obtain ⟨s1, s2⟩ := Bool.and_eq_true_iff.mp hs
      exact ⟨p, q, dp_of a x p rx e1, dp_of b y q ry e2, s1, s2, rfl⟩
    · cases e
  · cases e
theorem o_eq (hu : X.A.units + 64 < cLine) : Op2 X (compareOp .Eq) eqD := by
  refine ⟨_, op_eqD hu, fun H O x y a b d Q lv rx ry e q => ?_⟩
  unfold eqD at e
  cases c : eqvD a b with
  | none => rw [c] at e; cases e
  | some k =>
    rw [c] at e
    cases e
    obtain ⟨p, p', h1, h2, h3, h4, h5⟩ := eqv_at rx ry c
    refine ⟨p, p', h1, h2, h3, h4, ?_⟩
    rw [← h5]
    exact q _ H (Same.refl H) (.bl k)
theorem o_ne (hu : X.A.units + 64 < cLine) : Op2 X (compareOp .NotEq) neD := by
  refine ⟨_, op_neD hu, fun H O x y a b d Q lv rx ry e q => ?_⟩
  unfold neD at e
  cases c : eqvD a b with
  | none => rw [c] at e; cases e
  | some k =>
    rw [c] at e
    cases e
    obtain ⟨p, p', h1, h2, h3, h4, h5⟩ := eqv_at rx ry c
    refine ⟨p, p', h1, h2, h3, h4, ?_⟩
    rw [← h5]
    exact q _ H (Same.refl H) (.bl (!k))
def isN : D → D → Option D := fun a b => match b with
  | .non => some (.bl (match a with
    | .non => true
    | _ => false))
  | _ => none
def notN : D → D → Option D := fun a b => match b with
  | .non => some (.bl (match a with
    | .non => false
    | _ => true))
  | _ => none
theorem o_isN : Op2 X (compareOp .Is) isN := by
  refine ⟨_, op_isN, fun H O x y a b d Q lv rx ry e q => ?_⟩
  cases b with
  | non =>
    cases e
    refine ⟨ry.non_inv, ?_⟩
    have r := q (.bl (decide (x = .non))) H (Same.refl H)
    refine r ?_
    cases rx <;> exact .bl _
  | _ => cases e
theorem o_notN : Op2 X (compareOp .IsNot) notN := by
  refine ⟨_, op_notN, fun H O x y a b d Q lv rx ry e q => ?_⟩
  cases b with
  | non =>
    cases e
    refine ⟨ry.non_inv, ?_⟩
    have r := q (.bl (!decide (x = .non))) H (Same.refl H)
    refine r ?_
    cases rx <;> exact .bl _
  | _ => cases e
/-! membership -/
def flatD : D → Bool
  | .non => true
  | .bl _ => true
  | .int _ => true
  | .str _ => true
  | _ => false
def eqFl : D → D → Bool
  | .non, .non => true
  | .bl a, .bl b => a == b
  | .bl a, .int b => (if a then 1 else 0) == b
  | .int a, .bl b => a == (if b then 1 else 0)
  | .int a, .int b => a == b
  | .str a, .str b => a == b
  | _, _ => false
def inF (neg : Bool) : D → D → Option D := fun a b => match seqOf b with
  | some xs => if (flatD a && xs.all flatD) = true then some (.bl (if neg = true then !(xs.any fun y => eqFl y a) else xs.any fun y => eqFl y a)) else none
  | none => none
theorem flat_v {K : PySem.W.Frag} {mg : Str → Option Value} {H : Hp} {O : Av} {v : V} {d : D} (r : Rp K mg H O v d) (f : flatD d = true) : flatV v = true := by
  cases r <;> first | rfl | (cases f; done)
theorem eqFl_v {K : PySem.W.Frag} {mg : Str → Option Value} {H : Hp} {O : Av} {v w : V} {d e : D} (r : Rp K mg H O v d) (r2 : Rp K mg H O w e) (f : flatD d = true) (f2 : flatD e = true) : eqV v w = eqFl d e := by
  cases r <;> first | (cases f; done) | (cases r2 <;> first | rfl | (cases f2; done))
theorem in_v {K : PySem.W.Frag} {mg : Str → Option Value} {H : Hp} {O : Av} {w : V} {e : D} (r2 : Rp K mg H O w e) (f2 : flatD e = true) : ∀ {vs : List V} {ds : List D}, RpL K mg H O vs ds → ds.all flatD = true → vs.all flatV = true ∧ inV w vs = ds.any fun y => eqFl y e
  | [], [], _, _ => ⟨rfl, rfl⟩
  | v :: vs, d :: ds, r, h => by
    rw [List.all_cons] at h
    obtain ⟨h1, h2⟩ := Bool.and_eq_true_iff.mp h
    obtain ⟨i1, i2⟩ := in_v r2 f2 r.uncons.2 h2
    refine ⟨?_, ?_⟩
    · rw [List.all_cons, flat_v r.uncons.1 h1, i1]
      rfl
    · unfold inV at i2 ⊢
      rw [List.any_cons, List.any_cons, i2, eqFl_v r.uncons.1 r2 h1 f2]
  | [], _ :: _, r, _ => nomatch r.1
  | _ :: _, [], r, _ => nomatch r.1
theorem in_at {neg : Bool} {H : Hp} {O : Av} {x y : V} {a b d : D} {Q : VK} (rx : Rp X.K X.mg H O x a) (ry : Rp X.K X.mg H O y b) (e : inF neg a b = some d) (q : ∀ v H', Same H H' → Rp X.K X.mg H' O v d → Q v H') : rIn X.K neg x y H Q := by
  unfold inF at e
  cases c : seqOf b with
  | none => rw [c] at e; cases e
  | some xs =>
    rw [c] at e
    dsimp only at e
    split at e
    · rename_i hf
      cases e
      obtain ⟨f1, f2⟩ := Bool.and_eq_true_iff.mp hf
      obtain ⟨l, p, vs, rfl, h1, h2⟩ := relsq_of ry c
      obtain ⟨i1, i2⟩ := in_v rx f1 h2 f2
      refine ⟨p, vs, rfl, ?_, flat_v rx f1, i1, ?_⟩
      · have h := h1 H O .refl
        cases l with
        | true => exact .inl h
        | false => exact .inr h
      · rw [i2]
        exact q _ H (Same.refl H) (.bl _)
    · cases e
theorem o_inF : Op2 X (compareOp .In) (inF false) := ⟨_, op_in_seq, fun H O x y a b d Q lv rx ry e q => in_at rx ry e q⟩
theorem o_notInF : Op2 X (compareOp .NotIn) (inF true) := ⟨_, op_notIn_seq, fun H O x y a b d Q lv rx ry e q => in_at rx ry e q⟩
/-- .. of data at any depth, in a list -/
def inDp (neg : Bool) : D → D → Option D := fun a b => match a.py, b.py with
  | some p, some (.list ps) => if (SeqAt.shaped p && SeqAt.shaped (.list ps)) = true then some (.bl (if neg = true then !(ps.any fun z => PyData.eqv z p) else ps.any fun z => PyData.eqv z p)) else none
  | _, _ => none
theorem inD_at {neg : Bool} {H : Hp} {O : Av} {x y : V} {a b d : D} {Q : VK} (rx : Rp X.K X.mg H O x a) (ry : Rp X.K X.mg H O y b) (e : inDp neg a b = some d) (q : ∀ v H', Same H H' → Rp X.K X.mg H' O v d → Q v H') :
    ∃ p ps, Dp X.K H x p ∧ Dp X.K H y (.list ps) ∧ SeqAt.shaped p = true ∧ SeqAt.shaped (.list ps) = true ∧ Q (.bl (if neg = true then !(ps.any fun z => PyData.eqv z p) else ps.any fun z => PyData.eqv z p)) H := by
  unfold inDp at e
  split at e
  · rename_i p ps e1 e2
    split at e
    · rename_i hs
      cases e
      obtain ⟨s1, s2⟩ := Bool.and_eq_true_iff.mp hs
      exact ⟨p, ps, dp_of a x p rx e1, dp_of b y _ ry e2, s1, s2, q _ H (Same.refl H) (.bl _)⟩
    · cases e
  · cases e
theorem o_inD (hu : X.A.units + 65 < cLine) : Op2 X (compareOp .In) (inDp false) := ⟨_, op_inD hu, fun H O x y a b d Q lv rx ry e q => by
  obtain ⟨p, ps, h1, h2, h3, h4, h5⟩ := inD_at rx ry e q
  exact ⟨p, ps, h1, h2, h3, h4, h5⟩⟩
theorem o_notInD (hu : X.A.units + 65 < cLine) : Op2 X (compareOp .NotIn) (inDp true) := ⟨_, op_notInD hu, fun H O x y a b d Q lv rx ry e q => by
  obtain ⟨p, ps, h1, h2, h3, h4, h5⟩ := inD_at rx ry e q
  exact ⟨p, ps, h1, h2, h3, h4, h5⟩⟩
/-! subscripts -/
def ixSeq : D → D → Option D := fun a b => match seqOf a, b with
  | some xs, .int i => atI xs i
  | _, _ => none
def ixStr : D → D → Option D := fun a b => match a, b with
  | .str z, .int i => if z.length ≤ sizeLine then (atI z.cps.toList i).map fun c => .str ⟨#[c]⟩ else none
  | _, _ => none
theorem x_seq : Ix2 X ixSeq := by
  refine ⟨_, IxR.or ix_list ix_tup, fun H O x y a b d Q lv rx ry e q => ?_⟩
  unfold ixSeq at e
  split at e
  · rename_i xs i c
    obtain ⟨l, p, vs, rfl, h1, h2⟩ := relsq_of rx c
    obtain ⟨v, hv, rv⟩ := atI_rp h2 e
    have h := h1 H O .refl
    cases l with
    | true => exact .inl ⟨p, vs, i, v, rfl, ry.int_inv, h, hv, q v H (Same.refl H) rv⟩
    | false => exact .inr ⟨p, vs, i, v, rfl, ry.int_inv, h, hv, q v H (Same.refl H) rv⟩
  · cases e
theorem x_str : Ix2 X ixStr := by
  refine ⟨_, ix_str, fun H O x y a b d Q lv rx ry e q => ?_⟩
  unfold ixStr at e
  split at e
  · rename_i z i
    split at e
    · rename_i hl
      cases c : atI z.cps.toList i with
      | none => rw [c] at e; cases e
      | some ch =>
        rw [c] at e
        cases e
        exact ⟨z, i, ch, rx.str_inv, ry.int_inv, hl, c, q _ H (Same.refl H) (.str _)⟩
    · cases e
  · cases e
def ixD := alt2 ixSeq ixStr
theorem x_ix : Ix2 X ixD := x_seq.alt x_str
/-! calls of built-ins -/
def lenD : List D → Option D
  | [a] => (match a with
    | .str z => if z.length ≤ sizeLine then some (.int z.length) else none
    | d => (seqOf d).map fun xs => .int xs.length)
  | _ => none
theorem c_len : CallV X (.builtin "len") lenD := by
  refine ⟨_, CallR.or call_len_seq call_len_str, fun H O xs as d Q lv r e q => ?_⟩
  unfold lenD at e
  split at e
  · rename_i a
    obtain ⟨v, rfl, rv⟩ := r.one
    split at e
    · rename_i z
      split at e
      · rename_i hl
        cases e
        cases rv.str_inv
        exact .inr ⟨z, rfl, hl, q _ H (Same.refl H) (.int _)⟩
      · cases e
    · rename_i hn
      cases c : seqOf a with
      | none => rw [c] at e; cases e
      | some ds =>
        rw [c] at e
        cases e
        obtain ⟨l, p, vs, rfl, h1, h2⟩ := relsq_of rv c
        have h := h1 H O .refl
        have k := q (.int vs.length) H (Same.refl H) (by rw [h2.1]; exact .int _)
        cases l with
        | true => exact .inl ⟨p, vs, rfl, .inl h, k⟩
        | false => exact .inl ⟨p, vs, rfl, .inr h, k⟩
  · cases e
def int1D : List D → Option D
  | [.int i] => some (.int i)
  | [.bl k] => some (.int (if k then 1 else 0))
  | _ => none
theorem c_int1 : CallV X (.type "int") int1D := by
  refine ⟨_, call_int1, fun H O xs as d Q lv r e q => ?_⟩
  unfold int1D at e
  split at e
  · rename_i i
    cases e
    obtain ⟨v, rfl, rv⟩ := r.one
    cases rv.int_inv
    exact .inl ⟨i, rfl, q _ H (Same.refl H) (.int _)⟩
  · rename_i k
    cases e
    obtain ⟨v, rfl, rv⟩ := r.one
    cases rv.bl_inv
    exact .inr ⟨k, rfl, q _ H (Same.refl H) (.int _)⟩
  · cases e
def absD : List D → Option D
  | [.int i] => some (.int (if i < 0 then -i else i))
  | _ => none
theorem c_abs : CallV X (.builtin "abs") absD := by
  refine ⟨_, call_abs, fun H O xs as d Q lv r e q => ?_⟩
  unfold absD at e
  split at e
  · rename_i i
    cases e
    obtain ⟨v, rfl, rv⟩ := r.one
    cases rv.int_inv
    exact ⟨i, rfl, q _ H (Same.refl H) (.int _)⟩
  · cases e
def tupleD : List D → Option D
  | [a] => (seqOf a).map .tup
  | _ => none
theorem c_tuple : CallV X (.type "tuple") tupleD := by
  refine ⟨_, call_tuple_of, fun H O xs as d Q lv r e q => ?_⟩
  unfold tupleD at e
  split at e
  · rename_i a
    obtain ⟨v, rfl, rv⟩ := r.one
    cases rv with
    | lst h o n el => cases e; exact ⟨_, _, rfl, .inl ⟨SqL.of h, fun l hl => q _ _ (same_new hl) (new_tup lv hl ⟨n, el⟩)⟩⟩
    | slst h n el => cases e; exact ⟨_, _, rfl, .inl ⟨h.sq, fun l hl => q _ _ (same_new hl) (new_tup lv hl ⟨n, el⟩)⟩⟩
    | tup h n el => cases e; exact ⟨_, _, rfl, .inr ⟨h.sq, q _ H (Same.refl H) (.tup h n el)⟩⟩
    | _ => cases e
  · cases e
def absurdD : Unit := ()
/-! list(x): a new list -/
def fListOf (f : F) : FL := fun ρ => (f ρ).bind fun d ρ1 => R.of (seqOf d) ρ1
theorem dn_list {W : Wi} {e : Expr} {f : F} {p pos : Pos} (hm : X.mg "list" = none) (he : DE X W e f) (hg : Gl X "list" := by rfl) (hs : starEach [e] X.env = (false, eval e X.env) :: starEach [] X.env := by rfl)
    (hpl : (backTo pos (starEach [] X.env)).any (·.1) = false := by rfl) : DN X W (.Call (.Name "list" p) [e] [] pos) (fListOf f) := by
  obtain ⟨t, pe, ie⟩ := he
  refine ⟨_, pe_callTy call_list_of hg hm (by decide +kernel) (pa_cons pe pa_nil hs) (by decide) (by decide) hs hpl, fun B ρ σ H O Q R p => ?_⟩
  unfold fListOf at p
  rw [rpost_bind] at p
  refine ie B ρ σ H O _ R (p.mono (fun d ρ1 p v H1 g r => ?_) fun _ _ _ e => e)
  obtain ⟨ds, hd, p⟩ := rpost_of p
  obtain ⟨l, a, vs, rfl, h1, h2⟩ := relsq_of r hd
  have h := h1 H1 O .refl
  refine ⟨a, vs, rfl, ?_, fun q hq => p vs q H1 g hq h2⟩
  cases l with
  | true => exact .inl h
  | false => exact .inr h
/-! slices -/
def DO (X : Cx) (W : Wi) (e : Option Expr) (f : En → R (Option Int)) : Prop := ∃ t : TO, PO X e t ∧ ∀ (B : W.BB) (ρ : En) (σ : Sl) (H : Hp) (O : Av) (Q : Option Int → Hp → Prop), Rep X.K X.mg B.1 O ρ σ H →
  RPost (f ρ) (fun o ρ' => ∀ H', Go X.K X.mg B.1 O σ ρ H ρ' H' → Q o H') (ErE X B.1 W O σ ρ H) → t σ H Q
def oNone : En → R (Option Int) := fun ρ => .ok none ρ
def oSome (f : F) : En → R (Option Int) := fun ρ => (f ρ).bind fun d ρ1 => match d with
  | .int i => .ok (some i) ρ1
  | _ => .stuck
theorem do_none {W : Wi} : DO X W none oNone := ⟨_, po_none, fun B ρ σ H O Q R p => p H (Go.refl R)⟩
theorem do_some {W : Wi} {e : Expr} {f : F} (he : DE X W e f) : DO X W (some e) (oSome f) := by
  obtain ⟨t, pe, ie⟩ := he
  refine ⟨_, po_some pe, fun B ρ σ H O Q R p => ?_⟩
  unfold oSome at p
  rw [rpost_bind] at p
  refine ie B ρ σ H O _ R (p.mono (fun d ρ1 p v H1 g r => ?_) fun _ _ _ e => e)
  split at p
  · rename_i i
    exact ⟨i, r.int_inv, p H1 g⟩
  · exact p.elim
def cutD (ds : List D) (lo hi : Option Int) : List D := (ds.drop (HT.sIx ds.length 0 lo)).take (HT.sIx ds.length ds.length hi - HT.sIx ds.length 0 lo)
def slD (d : D) (lo hi : Option Int) : Option D := match d with
  | .lst ds => some (.lst (cutD ds lo hi))
  | .slst ds => some (.lst (cutD ds lo hi))
  | .tup ds => some (.tup (cutD ds lo hi))
  | _ => none
def fSl (f : F) (fl fh : En → R (Option Int)) : F := fun ρ => (f ρ).bind fun d ρ1 => (fl ρ1).bind fun lo ρ2 => (fh ρ2).bind fun hi ρ3 => R.of (slD d lo hi) ρ3
theorem cut_rp {K : PySem.W.Frag} {mg : Str → Option Value} {H : Hp} {O : Av} {vs : List V} {ds : List D} (r : RpL K mg H O vs ds) (lo hi : Option Int) : RpL K mg H O (cutV vs lo hi) (cutD ds lo hi) := by
  unfold cutV cutD
  rw [r.1]
  exact (r.drop _).take _
theorem cutD_all {ds : List D} {lo hi : Option Int} (h : HT.sIx ds.length 0 lo = 0 ∧ HT.sIx ds.length ds.length hi = ds.length) : cutD ds lo hi = ds := by
  unfold cutD
  rw [h.1, h.2, List.drop_zero, Nat.sub_zero, List.take_length]
theorem de_sl {W : Wi} {e : Expr} {lo hi : Option Expr} {f : F} {fl fh : En → R (Option Int)} {p2 pos : Pos} (he : DE X W e f) (hl : DO X W lo fl) (hh : DO X W hi fh) : DE X W (.Subscript e (.Slice lo hi none p2) pos) (fSl f fl fh) := by
  obtain ⟨t, pe, ie⟩ := he
  obtain ⟨tl, pl, il⟩ := hl
  obtain ⟨th, ph, ih⟩ := hh
  refine ⟨_, pe_slice (SlR.or sl_list sl_tupA) pe pl ph, fun B ρ σ H O Q R p => ?_⟩
  unfold fSl at p
  rw [rpost_bind] at p
  refine ie B ρ σ H O _ R (p.mono (fun d ρ1 p v H1 g1 r => ?_) fun _ _ _ e => e)
  rw [rpost_bind] at p
  refine il B ρ1 σ H1 O _ g1.rep (p.mono (fun lo ρ2 p H2 g2 => ?_) (ErE.on g1))
  rw [rpost_bind] at p
  refine ih B ρ2 σ H2 O _ g2.rep (p.mono (fun hi ρ3 p H3 g3 => ?_) fun c fs ρ' e => ErE.on g2 c fs ρ' (ErE.on g1 c fs ρ' e))
  obtain ⟨d', e, p⟩ := rpost_of p
  have r3 := (r.kp (g2.kp g1.rep)).kp (g3.kp g2.rep)
  have gg := (g1.trans g2).trans g3
  cases r3 with
  | lst h o n el =>
    cases e
    exact .inl ⟨_, _, rfl, SqL.of h, fun q hq => p _ _ (gg.trans (.same g3.rep (same_new hq))) (new_lst g3.rep.live hq (cut_rp ⟨n, el⟩ lo hi))⟩
  | slst h n el =>
    cases e
    exact .inl ⟨_, _, rfl, h.sq, fun q hq => p _ _ (gg.trans (.same g3.rep (same_new hq))) (new_lst g3.rep.live hq (cut_rp ⟨n, el⟩ lo hi))⟩
  | tup h n el =>
    cases e
    refine .inr ⟨_, _, rfl, h.sq, fun hw => ?_, fun _ q hq => p _ _ (gg.trans (.same g3.rep (same_new hq))) (new_tup g3.rep.live hq (cut_rp ⟨n, el⟩ lo hi))⟩
    rw [n] at hw
    rw [cutD_all hw] at p
    exact p _ H3 gg (.tup h n el)
  | _ => cases e
/-! isinstance -/
def D.ty : D → Option String
  | .non => some "NoneType"
  | .bl _ => some "bool"
  | .int _ => some "int"
  | .str _ => some "str"
  | .lst _ => some "list"
  | .slst _ => some "list"
  | .tup _ => some "tuple"
  | .ins _ _ => none
theorem tyx_of {K : PySem.W.Frag} {mg : Str → Option Value} {H : Hp} {O : Av} {v : V} {d : D} {t : String} (r : Rp K mg H O v d) (e : d.ty = some t) : TyX K H v (.type t) := by
  cases r with
  | non => cases e; exact .base .non
  | bl b => cases e; exact .base (.bl b)
  | int i => cases e; exact .base (.int i)
  | str s => cases e; exact .base (.str s)
  | lst h o n el => cases e; exact .base (.lst h)
  | slst h n el =>
    cases e
    rcases h with ⟨⟨o, h⟩, _⟩ | h
    · exact .base (.frz h)
    · rcases h with (h | ⟨o, h⟩) | ⟨o, its, m, h1, h2, _⟩
      · exact nomatch h
      · exact nomatch h
      · exact .kList h1 h2
  | tup h n el =>
    cases e
    rcases h with ⟨h | ⟨o, h⟩, _⟩ | h
    · exact .base (.tup h)
    · exact .fTuple h
    · rcases h with (h | ⟨o, h⟩) | ⟨o, its, m, h1, h2, _⟩
      · exact nomatch h
      · exact nomatch h
      · exact .kTuple h1 h2
  | ins h o g n el => cases e
/-- which built-in types are which -/
def isTy (t T : String) : Option Bool := kitB t T
def fIsi (T : String) (f : F) : F := fun ρ => (f ρ).bind fun d ρ1 => match d.ty with
  | some t => (match kitB t T with
    | some b => .ok (.bl b) ρ1
    | none => .stuck)
  | none => .stuck
theorem de_isi {W : Wi} {e : Expr} {f : F} {T : String} {x : Str} {p p2 pos : Pos} (hm : X.mg "isinstance" = none) (hmT : X.mg x = none) (hv : bootBuiltins x = some (.type T)) (he : DE X W e f) (hg : Gl X "isinstance" := by rfl) (hgT : Gl X x := by rfl) (hn : x ≠ "__name__" := by decide) (hd : (x == ("__debug__" : Str)) = false := by decide)
    (hs1 : starEach [.Name x p2] X.env = (false, eval (.Name x p2) X.env) :: starEach [] X.env := by rfl) (hs : starEach [e, .Name x p2] X.env = (false, eval e X.env) :: starEach [.Name x p2] X.env := by rfl)
    (hpl : (backTo pos (starEach [.Name x p2] X.env)).any (·.1) = false := by rfl) : DE X W (.Call (.Name "isinstance" p) [e, .Name x p2] [] pos) (fIsi T f) := by
  obtain ⟨t, pe, ie⟩ := he
  refine ⟨_, pe_callB call_isi hg hm (by decide +kernel) (pa_cons pe (pa_cons (pe_bltn (v := .ty T) hgT hmT hv rfl hn hd) pa_nil hs1) hs) (by decide) (by decide) hs hpl, fun B ρ σ H O Q R p => ?_⟩
  unfold fIsi at p
  rw [rpost_bind] at p
  refine ie B ρ σ H O _ R (p.mono (fun d ρ1 p v H1 g r => ?_) fun _ _ _ e => e)
  split at p
  · rename_i t ht
    split at p
    · rename_i b hb
      exact ⟨v, .ty T, .type t, .type T, b, rfl, .ty T, tyx_of r ht, kit_ty hb, p _ H1 g (.bl b)⟩
    · exact p.elim
  · exact p.elim
def fIsi2 (T T' : String) (f : F) : F := fun ρ => (f ρ).bind fun d ρ1 => match d.ty with
  | some t => (match kitB t T, kitB t T' with
    | some b, some b' => .ok (.bl (b || b')) ρ1
    | _, _ => .stuck)
  | none => .stuck
theorem de_isi2 {W : Wi} {e : Expr} {f : F} {T T' : String} {x x' : Str} {p p2 p3 p4 pos : Pos} {k : Nat} (hm : X.mg "isinstance" = none) (hmT : X.mg x = none) (hmT' : X.mg x' = none) (hv : bootBuiltins x = some (.type T)) (hv' : bootBuiltins x' = some (.type T')) (he : DE X W e f)
    (hg : Gl X "isinstance" := by rfl) (hgT : Gl X x := by rfl) (hgT' : Gl X x' := by rfl) (hn : x ≠ "__name__" := by decide) (hd : (x == ("__debug__" : Str)) = false := by decide) (hn' : x' ≠ "__name__" := by decide) (hd' : (x' == ("__debug__" : Str)) = false := by decide)
    (hs0 : starEach [.Name x' p3] X.env = (false, eval (.Name x' p3) X.env) :: starEach [] X.env := by rfl) (hs1 : starEach [.Name x p2, .Name x' p3] X.env = (false, eval (.Name x p2) X.env) :: starEach [.Name x' p3] X.env := by rfl)
    (hs2 : starEach [.Tuple [.Name x p2, .Name x' p3] k p4] X.env = (false, eval (.Tuple [.Name x p2, .Name x' p3] k p4) X.env) :: starEach [] X.env := by rfl)
    (hs : starEach [e, .Tuple [.Name x p2, .Name x' p3] k p4] X.env = (false, eval e X.env) :: starEach [.Tuple [.Name x p2, .Name x' p3] k p4] X.env := by rfl)
    (hpl : (backTo pos (starEach [.Tuple [.Name x p2, .Name x' p3] k p4] X.env)).any (·.1) = false := by rfl) : DE X W (.Call (.Name "isinstance" p) [e, .Tuple [.Name x p2, .Name x' p3] k p4] [] pos) (fIsi2 T T' f) := by
  obtain ⟨t, pe, ie⟩ := he
  refine ⟨_, pe_callB call_isiT hg hm (by decide +kernel) (pa_cons pe (pa_cons (pe_tup (pa_cons (pe_bltn (v := .ty T) hgT hmT hv rfl hn hd) (pa_cons (pe_bltn (v := .ty T') hgT' hmT' hv' rfl hn' hd') pa_nil hs0) hs1)) pa_nil hs2) hs) (by decide) (by decide) hs hpl, fun B ρ σ H O Q R p => ?_⟩
  unfold fIsi2 at p
  rw [rpost_bind] at p
  refine ie B ρ σ H O _ R (p.mono (fun d ρ1 p v H1 g r => ?_) fun _ _ _ e => e)
  split at p
  · rename_i t ht
    split at p
    · rename_i b b' hb hb'
      refine ⟨by show 2 ≤ sizeLine; decide, fun tp htp => ?_⟩
      have s := same_new (o := .tup [.ty T, .ty T']) htp
      refine ⟨v, tp, [.ty T, .ty T'], .type t, [.type T, .type T'], b || b', rfl, upd_same, .cons (.ty T) (.cons (.ty T') .nil), tyx_of (r.kp (O' := O) (Same.kp s)) ht, ?_, p _ _ (g.trans (.same g.rep s)) (.bl _)⟩
      refine kitAny_cons (kit_ty hb) (fun h => ?_) (fun h => by rw [h]; rfl)
      refine kitAny_cons (kit_ty hb') (fun h' => ?_) (fun h' => by rw [h', Bool.or_true])
      rw [h, h']
      exact kitAny_nil
    · exact p.elim
  · exact p.elim
/-! not as a value -/
def vNotT (f : F) : F := fun ρ => (f ρ).bind fun d ρ1 => match d.truth with
  | some k => .ok (.bl (!k)) ρ1
  | none => .stuck
theorem de_notT {W : Wi} {a : Expr} {f : F} {pos : Pos} (ha : DE X W a f) : DE X W (.UnaryOp .Not a pos) (vNotT f) := by
  obtain ⟨t, pa, ia⟩ := ha
  refine ⟨_, pe_notT pa, fun B ρ σ H O Q R p => ?_⟩
  unfold vNotT at p
  rw [rpost_bind] at p
  refine ia B ρ σ H O _ R (p.mono (fun d ρ1 p v H1 g r => ?_) fun _ _ _ e => e)
  split at p
  · rename_i k hk
    exact ⟨k, tru_of r hk, p _ H1 g (.bl _)⟩
  · exact p.elim
end
end DL

set_option Elab.async false
set_option linter.all false
set_option maxRecDepth 100000
/-! DLB: three names at once, a tuple times one. -/
namespace DL
open PySem PySem.Spec PyProof.Rows L2

section
variable {X : Cx} {W : Wi} {pos : Pos}
def gPar3 (i j l : Nat) (f : FL) : G := fun ρ => (f ρ).sr fun ds ρ1 => match ds with
  | [a, b, c] => .nx (((ρ1.set i (some (.dat a))).set j (some (.dat b))).set l (some (.dat c)))
  | _ => .stuck
theorem ds_par3 {i j l : Nat} {x y z : Str} {a b c : Expr} {fl : FL} {px py pz pt : Pos} {kt k2 pt2} (hc : X.calm = true) (hN : X.N.Nodup) (ha : DA X W [a, b, c] fl) (hi : X.N[i]? = some x := by rfl) (hj : X.N[j]? = some y := by rfl) (hl : X.N[l]? = some z := by rfl)
    (hij : i ≠ j := by decide) (hil : i ≠ l := by decide) (hjl : j ≠ l := by decide)
    (hx : X.env.scope.names.lookup x = some .local := by rfl) (hy : X.env.scope.names.lookup y = some .local := by rfl) (hz : X.env.scope.names.lookup z = some .local := by rfl)
    (hw : swappedStores [.Tuple [.Name x px, .Name y py, .Name z pz] kt pt] (.Tuple [a, b, c] k2 pt2) X.env = pure (some [x, y, z]) := by rfl)
    (hs : swapsWithSole [.Tuple [.Name x px, .Name y py, .Name z pz] kt pt] (.Tuple [a, b, c] k2 pt2) pos.line X.env = pure false := by rfl) :
    DS X W (.Assign [.Tuple [.Name x px, .Name y py, .Name z pz] kt pt] (.Tuple [a, b, c] k2 pt2) pos) (gPar3 i j l fl) := by
  obtain ⟨t, pa, ia⟩ := ha
  refine ⟨_, ps_par3 hc hN hi hj hl hij hil hjl hx hy hz pa hw hs, fun B ρ σ H O D R p => ?_⟩
  refine ia B ρ σ H O _ R ((spost_sr R p).mono (fun ds ρ1 p vs H1 g r => ?_) fun _ _ _ e => e)
  have p := p H1 g
  match ds, vs, r, p with
  | [d1, d2, d3], vs, r, p =>
    obtain ⟨v1, v2, v3, rfl, r1, r2, r3⟩ := r.three
    exact ⟨v1, v2, v3, rfl, p _ H1 O .refl (((g.rep.setD i r1).setD j r2).setD l r3)⟩
  | [], _, _, p => exact p.elim
  | [_], _, _, p => exact p.elim
  | [_, _], _, _, p => exact p.elim
  | _ :: _ :: _ :: _ :: _, _, _, p => exact p.elim
end

/-- ts * 1 is ts -/
theorem tmul_one (l : Addr) (its : Array Value) (n : Nat) (dd : Option Addr) (sl : Array (Option Value)) (u : Tok) :
    Meets (Builtin.«tuple.__mul__» ⟨[.ref l, .int 1 u], []⟩)
      (fun _ R s => s.heap.get? l = some ⟨.type "tuple", dd, .seq its n, sl⟩ ∧ R (.ok (.ret (.ref l))) s) :=
  .of_wp fun prog w A R s h => by
    obtain ⟨hp, g, d, tk, os⟩ := s
    obtain ⟨hl, h⟩ := h
    have f1 := AutoSeq1.idx_int
    wp_walk using wpAny_loadPart' hl
    exact ⟨_, rfl, h⟩
def rOne (K : PySem.W.Frag) : R2 := fun x y H Q => ∃ l xs, x = .ref l ∧ y = .int 1 ∧ SqT K H l xs ∧ Q (.ref l) H
theorem op_one {X : Cx} : OpR X (binaryOp .Mult) (rOne X.K) := by
  intro pins s σ H x y v u Q I rx ry h
  obtain ⟨l, xs, rfl, rfl, ht, q⟩ := h
  cases rx
  obtain ⟨t, rfl⟩ := ry
  obtain ⟨its, rr, ⟨⟨cls, dd, data, sl⟩, ho, hc, n, hd⟩, hs⟩ := I.tuple ht
  simp only at hc hd
  subst hc hd
  refine wpAny_binaryOp_repeat_ref (T := "tuple") (U := "int") ?_ ?_ (fun s' => typeIs_int s' 1 t) noFill_tuple_mul F.fills_int_mul F.slot_int_rmul repeat_tuple F.slot_int_index.lookup ?_
  · decide
  · exact ⟨_, ho, rfl⟩
  refine call_meets F.slot_int_rmul (typeIs_int s 1 t) F.entry_int_rmul (F.args_int_rmul_2 _ _) (int_rmul_tuple 1 t l its.toArray n dd sl) ?_
  refine ⟨ho, rfl, ⟨_, ho, rfl⟩, ?_⟩
  refine call_meets F.slot_tuple_mul ⟨_, ho, rfl⟩ F.entry_tuple_mul (F.args_tuple_mul_2 _ _) (tmul_one l its.toArray n dd sl t) ?_
  refine ⟨ho, ?_⟩
  exact ⟨.ref l, H, I, rfl, q⟩
def mulT1 : D → D → Option D := fun a b => match a, b with
  | .tup xs, .int k => if k = 1 then some (.tup xs) else none
  | _, _ => none
theorem o_mulT1 {X : Cx} : Op2 X (binaryOp .Mult) mulT1 := by
  refine ⟨_, op_one, fun H O x y a b d Q lv rx ry e q => ?_⟩
  cases a with
  | tup xs =>
    cases b with
    | int k =>
      unfold mulT1 at e
      dsimp only at e
      split at e
      · rename_i h
        subst h
        cases e
        obtain ⟨p, us, rfl, tp, ru⟩ := rx.tup_inv
        exact ⟨p, us, rfl, ry.int_inv, tp.sq, q _ _ (Same.refl _) rx⟩
      · cases e
    | _ => cases e
  | _ => cases e
def gFrz (i : Nat) (g : G) : G := fun ρ => g (frz i ρ)
theorem dss_fz {X : Cx} {W : Wi} {g : G} {sts : List Stmt} (i : Nat) (h : DSs X W sts g) : DSs X W sts (gFrz i g) := dss_frz i h
def inA (neg : Bool) := alt2 (inF neg) (inDp neg)
theorem o_inA {X : Cx} (hu : X.A.units + 65 < cLine) : Op2 X (compareOp .In) (inA false) := o_inF.alt (o_inD hu)
theorem o_notInA {X : Cx} (hu : X.A.units + 65 < cLine) : Op2 X (compareOp .NotIn) (inA true) := o_notInF.alt (o_notInD hu)
def mulTD := alt2 mulT1 mulT2
theorem o_mulT {X : Cx} : Op2 X (binaryOp .Mult) mulTD := o_mulT1.alt o_mulT2
def mulD := alt2 mulI (alt2 mulTD mulL)
theorem o_mul {X : Cx} : Op2 X (binaryOp .Mult) mulD := o_mulI.alt (o_mulT.alt o_mulL)
end DL

set_option Elab.async false
set_option linter.all false
set_option maxRecDepth 100000
/-! DLC: the law's own promise, what a top says of an own error. -/
namespace DL
open PySem PySem.Spec PyProof.Rows L2

/-- the law's promise: at a script it gives True -/
def spLaw (K : PySem.W.Frag) : Sp := fun vs H Q _ => ∃ (a : Addr) (ns : List Int), vs = [.ref a] ∧ ns.length ≤ 63 ∧ (∀ z ∈ ns, Builtin.Int.intBits z ≤ 1048576) ∧ Only H ∧ SqL K H a (ns.map V.int) ∧ ∀ H', Q (.bl true) H'
theorem ints_rp {K : PySem.W.Frag} {mg : Str → Option Value} {H : Hp} {O : Av} (ns : List Int) : RpL K mg H O (ns.map V.int) (ns.map D.int) := ⟨by simp, fun i v d h1 h2 => by
  rw [List.getElem?_map] at h1 h2
  cases q : ns[i]? with
  | none => rw [q] at h1; cases h1
  | some z =>
    rw [q] at h1 h2
    cases h1
    cases h2
    exact .int z⟩
theorem law_imp {K : PySem.W.Frag} {mg : Str → Option Value} {m : Fn} (hm : ∀ ns : List Int, ns.length ≤ 63 → (∀ z ∈ ns, Builtin.Int.intBits z ≤ 1048576) → m [.dat (.slst (ns.map D.int))] = .ok (.bl true) none) :
    ∀ vs H Q E, spLaw K vs H Q E → spD K mg 1 m vs H Q E := by
  intro vs H Q E h
  obtain ⟨a, ns, rfl, h1, h2, hO, hS, q⟩ := h
  have la : LAt K H (fun _ => False) a (ns.map V.int) := by
    rcases hS with (hS | ⟨o, hS⟩) | hS
    · rcases hO a with z | ⟨o, xs, z⟩
      · rw [z] at hS; cases hS
      · rw [z] at hS; cases hS
    · exact .inl ⟨⟨o, hS⟩, fun z => z⟩
    · exact .inr (.inr hS)
  have r : RpL K mg H (fun _ => False) [V.ref a] [D.slst (ns.map D.int)] := .cons (.slst la (by simp) (ints_rp ns).2) .nil
  refine ⟨[.dat (.slst (ns.map D.int))], fun _ => False, [], rfl, Nat.zero_le _, rep_dats (fun z h => h.elim) r, fun a h => (nomatch h), ?_⟩
  rw [hm ns h1 h2]
  intro v H' _ rv _
  rw [rv.bl_inv]
  exact q H'
theorem cx_none {P : Program} {w : World} {H : Hp} {s s' : Shared} {e : Value} (h : L2.CX P w [] H s (fun _ _ _ => False) e s') : False := by
  obtain ⟨_, _, _, _, _, _, _, _, _, _, _, _, z⟩ := h
  exact z
/-- an error of the class S against a clause that names C -/
theorem exm_of {K : PySem.W.Frag} {S C : Addr} {b : Bool} (h1 : PySem.W.subIn K (.ref C) (.type "BaseException") = some true) (h2 : PySem.W.isClsIn K C = true) (h3 : PySem.W.typeIn K (.ref C) = some (.type "type")) (h4 : PySem.W.subIn K (.ref S) (.ref C) = some b) : PySem.W.exmOne K (.ref S) (.ref C) = some b := by
  have e2 : (PySem.W.clsIn K C).isSome = true := h2
  unfold PySem.W.exmOne
  rw [h1]
  show PySem.W.kitCls K (.ref S) (.ref C) = _
  unfold PySem.W.kitCls
  dsimp only
  rw [e2, h3]
  exact h4
theorem dfl_mk {K : PySem.W.Frag} {T : Addr} {oc : Value} {od : Option Addr} {its : List Value} {n : Nat} {sl : Array (Option Value)} {dvs : List V} (h : K.lookup T = some ⟨oc, od, .seq its.toArray n, sl⟩) (r : Vals dvs its) (e : dvs ≠ []) : DflV K (.ref T) dvs :=
  .inr ⟨e, T, _, its, n, rfl, h, rfl, r⟩
end DL

set_option Elab.async false
set_option linter.all false
set_option maxRecDepth 100000
/-! PV: how the tellers are reckoned: rows for simp, first argument first. -/
namespace DL
open PySem PySem.Spec PyProof.Rows L2

section
variable {α β : Type} {ρ ρ1 : En} {a : α} {c : Str} {fs : List (Str × D)}
@[simp] theorem bind_ok {k : α → En → R β} : (R.ok a ρ).bind k = k a ρ := (rfl)
@[simp] theorem bind_err {k : α → En → R β} : (R.err c fs ρ : R α).bind k = .err c fs ρ := (rfl)
@[simp] theorem bindN_ok {k : α → En → R β} : (R.ok a ρ).bindN k = k a ρ := (rfl)
@[simp] theorem of_some : R.of (some a) ρ = .ok a ρ := (rfl)
@[simp] theorem sr_ok {k : α → En → SR} : (R.ok a ρ).sr k = k a ρ := (rfl)
@[simp] theorem sr_err {k : α → En → SR} : (R.err c fs ρ : R α).sr k = .err c fs ρ := (rfl)
class Kt (α β : Type) where
  run : α → En → β
class Kl (β : Type) where
  run : List D → β
class Th (β : Type) where
  run : β
class Ke (β : Type) where
  run : En → β
def bnd {α β : Type} (r : R α) [k : Kt α (R β)] : R β := r.bind k.run
def srk {α : Type} (r : R α) [k : Kt α SR] : SR := r.sr k.run
@[simp] theorem bnd_ok {k : Kt α (R β)} : bnd (R.ok a ρ) (k := k) = k.run a ρ := (rfl)
@[simp] theorem bnd_err {k : Kt α (R β)} : bnd (.err c fs ρ : R α) (k := k) = .err c fs ρ := (rfl)
@[simp] theorem srk_ok {k : Kt α SR} : srk (R.ok a ρ) (k := k) = k.run a ρ := (rfl)
@[simp] theorem srk_err {k : Kt α SR} : srk (.err c fs ρ : R α) (k := k) = .err c fs ρ := (rfl)
/-! what matches become -/
def rdS (o : Option (Option Slot)) (ρ : En) : R D := match o with
  | some (some (.dat d)) => .ok d ρ
  | _ => .stuck
@[simp] theorem rdS_dat {d : D} : rdS (some (some (.dat d))) ρ = .ok d ρ := (rfl)
def kB (o : Option D) (ρ : En) : R Bool := match o with
  | some (.bl k) => .ok k ρ
  | _ => .stuck
@[simp] theorem kB_bl {k : Bool} : kB (some (.bl k)) ρ = .ok k ρ := (rfl)
def dB (d : D) (ρ : En) : R Bool := match d with
  | .bl k => .ok k ρ
  | _ => .stuck
@[simp] theorem dB_bl {k : Bool} : dB (.bl k) ρ = .ok k ρ := (rfl)
def k3 (o : Option D) [x : Th (R D)] (ρ : En) : R D := match o with
  | some (.bl true) => x.run
  | some (.bl false) => .ok (.bl false) ρ
  | _ => .stuck
@[simp] theorem k3_bl {k : Bool} {x : Th (R D)} : k3 (some (.bl k)) (x := x) ρ = if k = true then x.run else .ok (.bl false) ρ := by cases k <;> rfl
def kA (d : D) [x : Th (R D)] (ρ : En) : R D := match d with
  | .bl true => x.run
  | .bl false => .ok (.bl false) ρ
  | _ => .stuck
@[simp] theorem kA_bl {k : Bool} {x : Th (R D)} : kA (.bl k) (x := x) ρ = if k = true then x.run else .ok (.bl false) ρ := by cases k <;> rfl
def kO (d : D) [x : Th (R D)] (ρ : En) : R D := match d with
  | .bl true => .ok (.bl true) ρ
  | .bl false => x.run
  | _ => .stuck
@[simp] theorem kO_bl {k : Bool} {x : Th (R D)} : kO (.bl k) (x := x) ρ = if k = true then .ok (.bl true) ρ else x.run := by cases k <;> rfl
def callR (r : FR) (ρ : En) : R D := match r with
  | .ok d _ => .ok d ρ
  | .okn ds _ => .ok (.lst ds) ρ
  | .err c fs _ => .err c fs ρ
  | .stuck => .stuck
@[simp] theorem callR_ok {d : D} {m} : callR (.ok d m) ρ = .ok d ρ := (rfl)
@[simp] theorem callR_okn {d : List D} {m} : callR (.okn d m) ρ = .ok (.lst d) ρ := (rfl)
@[simp] theorem callR_err {m} : callR (.err c fs m) ρ = .err c fs ρ := (rfl)
def callN (r : FR) (ρ : En) : R (List D) := match r with
  | .okn ds _ => .ok ds ρ
  | .err c fs _ => .err c fs ρ
  | _ => .stuck
@[simp] theorem callN_okn {d : List D} {m} : callN (.okn d m) ρ = .ok d ρ := (rfl)
@[simp] theorem callN_err {m} : callN (.err c fs m) ρ = .err c fs ρ := (rfl)
def put2 (ρ : En) (i : Nat) (ds : List D) (d : D) : R D := match slotPut ρ i ds with
  | some ρ2 => .ok d ρ2
  | none => .stuck
def callM (r : FR) (i : Nat) (ρ : En) : R D := match r with
  | .ok d (some (.lst ys)) => (match slotPut ρ i ys with
    | some ρ2 => .ok d ρ2
    | none => .stuck)
  | .okn ds2 (some (.lst ys)) => (match slotPut ρ i ys with
    | some ρ2 => .ok (.lst ds2) ρ2
    | none => .stuck)
  | .err c fs (some (.lst ys)) => (match slotPut ρ i ys with
    | some ρ2 => .err c fs ρ2
    | none => .stuck)
  | _ => .stuck
@[simp] theorem callM_ok {d : D} {i : Nat} {ys : List D} : callM (.ok d (some (.lst ys))) i ρ = put2 ρ i ys d := (rfl)
@[simp] theorem callM_okn {d : List D} {i : Nat} {ys : List D} : callM (.okn d (some (.lst ys))) i ρ = put2 ρ i ys (.lst d) := (rfl)
def listO0 (o : Option (Option Slot)) (k : List D → R D) : R D := match o with
  | some (some s) => (match s.list with
    | some ds => k ds
    | none => .stuck)
  | _ => .stuck
def listO (o : Option (Option Slot)) [k : Kl (R D)] : R D := listO0 o k.run
@[simp] theorem listO_own {ds : List D} {k : Kl (R D)} : listO (some (some (.own ds))) (k := k) = k.run ds := (rfl)
@[simp] theorem listO_par {n : Nat} {ds : List D} {k : Kl (R D)} : listO (some (some (.par n (.lst ds)))) (k := k) = k.run ds := (rfl)
end
section
variable {ρ : En} {i j : Nat}
@[simp] theorem e_var : fVar i ρ = rdS ρ[i]? ρ := (rfl)
@[simp] theorem e_C {d : D} : fC d ρ = .ok d ρ := (rfl)
@[simp] theorem e_f1 {g : D → Option D} {fa : F} : f1 g fa ρ = bnd (fa ρ) (k := ⟨fun a ρ1 => R.of (g a) ρ1⟩) := (rfl)
@[simp] theorem e_f2 {g : D → D → Option D} {fa fb : F} : f2 g fa fb ρ = bnd (fa ρ) (k := ⟨fun a ρ1 => bnd (fb ρ1) (k := ⟨fun b ρ2 => R.of (g a b) ρ2⟩)⟩) := (rfl)
@[simp] theorem e_t2 {g : D → D → Option D} {fa fb : F} : t2 g fa fb ρ = bnd (fa ρ) (k := ⟨fun a ρ1 => bnd (fb ρ1) (k := ⟨fun b ρ2 => kB (g a b) ρ2⟩)⟩) := (rfl)
@[simp] theorem e_f3 {g g' : D → D → Option D} {fa fb fc : F} : f3 g g' fa fb fc ρ = bnd (fa ρ) (k := ⟨fun a ρ1 => bnd (fb ρ1) (k := ⟨fun b ρ2 => k3 (g a b) (x := ⟨bnd (fc ρ2) (k := ⟨fun c ρ3 => R.of (g' b c) ρ3⟩)⟩) ρ2⟩)⟩) := (rfl)
@[simp] theorem e_asB {f : F} : asB f ρ = (f ρ).bind dB := (rfl)
@[simp] theorem e_Tru {f : F} : fTru f ρ = bnd (f ρ) (k := ⟨fun a ρ1 => R.of a.truth ρ1⟩) := (rfl)
@[simp] theorem e_And {a b : FB} : fAnd a b ρ = bnd (a ρ) (k := ⟨fun k ρ1 => if k = true then b ρ1 else .ok false ρ1⟩) := (rfl)
@[simp] theorem e_Or {a b : FB} : fOr a b ρ = bnd (a ρ) (k := ⟨fun k ρ1 => if k = true then .ok true ρ1 else b ρ1⟩) := (rfl)
@[simp] theorem e_Not {a : FB} : fNot a ρ = bnd (a ρ) (k := ⟨fun k ρ1 => .ok (!k) ρ1⟩) := (rfl)
theorem rawe_vNotT {f : F} : vNotT f ρ = (f ρ).bind fun d ρ1 => (R.of d.truth ρ1).bind fun k ρ2 => .ok (.bl (!k)) ρ2 := by
  unfold vNotT
  congr 1
  funext d ρ1
  cases d.truth <;> rfl
@[simp] theorem e_vNotT {f : F} : vNotT f ρ = bnd (f ρ) (k := ⟨fun d ρ1 => bnd (R.of d.truth ρ1) (k := ⟨fun k ρ2 => .ok (.bl (!k)) ρ2⟩)⟩) := rawe_vNotT
@[simp] theorem e_vAnd {a b : F} : vAnd a b ρ = bnd (a ρ) (k := ⟨fun k ρ1 => kA k (x := ⟨b ρ1⟩) ρ1⟩) := (rfl)
@[simp] theorem e_vOr {a b : F} : vOr a b ρ = bnd (a ρ) (k := ⟨fun k ρ1 => kO k (x := ⟨b ρ1⟩) ρ1⟩) := (rfl)
@[simp] theorem e_If {c : FB} {a b : F} : fIf c a b ρ = bnd (c ρ) (k := ⟨fun k ρ1 => if k = true then a ρ1 else b ρ1⟩) := (rfl)
@[simp] theorem e_Nil : fNil ρ = .ok [] ρ := (rfl)
@[simp] theorem e_Cons {a : F} {b : FL} : fCons a b ρ = bnd (a ρ) (k := ⟨fun x ρ1 => bnd (b ρ1) (k := ⟨fun xs ρ2 => .ok (x :: xs) ρ2⟩)⟩) := (rfl)
def szI {α : Type} (xs : List D) (x : R α) : R α := if xs.length ≤ sizeLine then x else .stuck
theorem szI_le {α : Type} {xs : List D} {x : R α} (h : xs.length ≤ 1000000) : szI xs x = x := if_pos (Nat.le_trans h (by rw [sizeLine_eq]; decide))
@[simp] theorem szI_nil {α : Type} {x : R α} : szI [] x = x := szI_le (by decide)
@[simp] theorem szI_1 {α : Type} {a : D} {x : R α} : szI [a] x = x := szI_le (by simp)
@[simp] theorem szI_2 {α : Type} {a b : D} {x : R α} : szI [a, b] x = x := szI_le (by simp)
@[simp] theorem szI_3 {α : Type} {a b c : D} {x : R α} : szI [a, b, c] x = x := szI_le (by simp)
@[simp] theorem szI_4 {α : Type} {a b c d : D} {x : R α} : szI [a, b, c, d] x = x := szI_le (by simp)
@[simp] theorem szI_5 {α : Type} {a b c d e : D} {x : R α} : szI [a, b, c, d, e] x = x := szI_le (by simp)
@[simp] theorem szI_6 {α : Type} {a b c d e f : D} {x : R α} : szI [a, b, c, d, e, f] x = x := szI_le (by simp)
@[simp] theorem szI_7 {α : Type} {a b c d e f g : D} {x : R α} : szI [a, b, c, d, e, f, g] x = x := szI_le (by simp)
@[simp] theorem e_Tup {a : FL} : fTup a ρ = bnd (a ρ) (k := ⟨fun xs ρ1 => szI xs (.ok (.tup xs) ρ1)⟩) := (rfl)
@[simp] theorem e_Lst {a : FL} : fLst a ρ = bnd (a ρ) (k := ⟨fun xs ρ1 => szI xs (.ok (.lst xs) ρ1)⟩) := (rfl)
@[simp] theorem e_Disp {a : FL} : fDisp a ρ = bnd (a ρ) (k := ⟨fun xs ρ1 => szI xs (.ok xs ρ1)⟩) := (rfl)
@[simp] theorem e_B {g : List D → Option D} {a : FL} : fB g a ρ = bnd (a ρ) (k := ⟨fun xs ρ1 => R.of (g xs) ρ1⟩) := (rfl)
@[simp] theorem e_OfL {f : FL} : fOfL f ρ = bnd (f ρ) (k := ⟨fun ds ρ1 => .ok (.lst ds) ρ1⟩) := (rfl)
@[simp] theorem e_ListOf {f : F} : fListOf f ρ = bnd (f ρ) (k := ⟨fun d ρ1 => R.of (seqOf d) ρ1⟩) := (rfl)
@[simp] theorem e_It {f : F} : fIt f ρ = bnd (f ρ) (k := ⟨fun d ρ1 => R.of (items d) ρ1⟩) := (rfl)
@[simp] theorem e_Yes : fYes ρ = .ok true ρ := (rfl)
def isK (o : Option String) (T : String) (ρ : En) : R D := match o with
  | some t => (match kitB t T with
    | some b => .ok (.bl b) ρ
    | none => .stuck)
  | none => .stuck
def isK2 (o : Option String) (T T' : String) (ρ : En) : R D := match o with
  | some t => (match kitB t T, kitB t T' with
    | some b, some b' => .ok (.bl (b || b')) ρ
    | _, _ => .stuck)
  | none => .stuck
@[simp] theorem e_isi {T : String} {f : F} : fIsi T f ρ = bnd (f ρ) (k := ⟨fun d ρ1 => isK d.ty T ρ1⟩) := (rfl)
@[simp] theorem e_isi2 {T T' : String} {f : F} : fIsi2 T T' f ρ = bnd (f ρ) (k := ⟨fun d ρ1 => isK2 d.ty T T' ρ1⟩) := (rfl)
@[simp] theorem kit_NoneType_bool : kitB "NoneType" "bool" = some false := by decide +kernel
@[simp] theorem kit_NoneType_int : kitB "NoneType" "int" = some false := by decide +kernel
@[simp] theorem kit_NoneType_str : kitB "NoneType" "str" = some false := by decide +kernel
@[simp] theorem kit_NoneType_list : kitB "NoneType" "list" = some false := by decide +kernel
@[simp] theorem kit_NoneType_tuple : kitB "NoneType" "tuple" = some false := by decide +kernel
@[simp] theorem kit_NoneType_dict : kitB "NoneType" "dict" = some false := by decide +kernel
@[simp] theorem kit_bool_bool : kitB "bool" "bool" = some true := by decide +kernel
@[simp] theorem kit_bool_int : kitB "bool" "int" = some true := by decide +kernel
@[simp] theorem kit_bool_str : kitB "bool" "str" = some false := by decide +kernel
@[simp] theorem kit_bool_list : kitB "bool" "list" = some false := by decide +kernel
@[simp] theorem kit_bool_tuple : kitB "bool" "tuple" = some false := by decide +kernel
@[simp] theorem kit_bool_dict : kitB "bool" "dict" = some false := by decide +kernel
@[simp] theorem kit_int_bool : kitB "int" "bool" = some false := by decide +kernel
@[simp] theorem kit_int_int : kitB "int" "int" = some true := by decide +kernel
@[simp] theorem kit_int_str : kitB "int" "str" = some false := by decide +kernel
@[simp] theorem kit_int_list : kitB "int" "list" = some false := by decide +kernel
@[simp] theorem kit_int_tuple : kitB "int" "tuple" = some false := by decide +kernel
@[simp] theorem kit_int_dict : kitB "int" "dict" = some false := by decide +kernel
@[simp] theorem kit_str_bool : kitB "str" "bool" = some false := by decide +kernel
@[simp] theorem kit_str_int : kitB "str" "int" = some false := by decide +kernel
@[simp] theorem kit_str_str : kitB "str" "str" = some true := by decide +kernel
@[simp] theorem kit_str_list : kitB "str" "list" = some false := by decide +kernel
@[simp] theorem kit_str_tuple : kitB "str" "tuple" = some false := by decide +kernel
@[simp] theorem kit_str_dict : kitB "str" "dict" = some false := by decide +kernel
@[simp] theorem kit_list_bool : kitB "list" "bool" = some false := by decide +kernel
@[simp] theorem kit_list_int : kitB "list" "int" = some false := by decide +kernel
@[simp] theorem kit_list_str : kitB "list" "str" = some false := by decide +kernel
@[simp] theorem kit_list_list : kitB "list" "list" = some true := by decide +kernel
@[simp] theorem kit_list_tuple : kitB "list" "tuple" = some false := by decide +kernel
@[simp] theorem kit_list_dict : kitB "list" "dict" = some false := by decide +kernel
@[simp] theorem kit_tuple_bool : kitB "tuple" "bool" = some false := by decide +kernel
@[simp] theorem kit_tuple_int : kitB "tuple" "int" = some false := by decide +kernel
@[simp] theorem kit_tuple_str : kitB "tuple" "str" = some false := by decide +kernel
@[simp] theorem kit_tuple_list : kitB "tuple" "list" = some false := by decide +kernel
@[simp] theorem kit_tuple_tuple : kitB "tuple" "tuple" = some true := by decide +kernel
@[simp] theorem kit_tuple_dict : kitB "tuple" "dict" = some false := by decide +kernel
def isB (o : Option Bool) (ρ : En) : R D := match o with
  | some b => .ok (.bl b) ρ
  | none => .stuck
@[simp] theorem isB_some {b : Bool} : isB (some b) ρ = .ok (.bl b) ρ := (rfl)
@[simp] theorem isK_some {t T : String} : isK (some t) T ρ = isB (kitB t T) ρ := by
  show (match kitB t T with
    | some b => R.ok (.bl b) ρ
    | none => .stuck) = isB (kitB t T) ρ
  cases kitB t T <;> rfl
def isB2 (o o' : Option Bool) (ρ : En) : R D := match o, o' with
  | some b, some b' => .ok (.bl (b || b')) ρ
  | _, _ => .stuck
@[simp] theorem isB2_some {b b' : Bool} : isB2 (some b) (some b') ρ = .ok (.bl (b || b')) ρ := (rfl)
@[simp] theorem isK2_some {t T T' : String} : isK2 (some t) T T' ρ = isB2 (kitB t T) (kitB t T') ρ := by
  show (match kitB t T, kitB t T' with
    | some b, some b' => R.ok (.bl (b || b')) ρ
    | _, _ => .stuck) = isB2 (kitB t T) (kitB t T') ρ
  cases kitB t T <;> cases kitB t T' <;> rfl
@[simp] theorem ty_non : D.ty .non = some "NoneType" := (rfl)
@[simp] theorem ty_bl {b : Bool} : D.ty (.bl b) = some "bool" := (rfl)
@[simp] theorem ty_int {b : Int} : D.ty (.int b) = some "int" := (rfl)
@[simp] theorem ty_str {b : Str} : D.ty (.str b) = some "str" := (rfl)
@[simp] theorem ty_lst {b : List D} : D.ty (.lst b) = some "list" := (rfl)
@[simp] theorem ty_slst {b : List D} : D.ty (.slst b) = some "list" := (rfl)
@[simp] theorem ty_tup {b : List D} : D.ty (.tup b) = some "tuple" := (rfl)
@[simp] theorem e_call {n : Nat} {m : Fn} {dv : List D} {f : FL} : fCall n m dv f ρ = bnd (f ρ) (k := ⟨fun ds ρ1 => if (ds ++ dv).length = n then callR (m ((ds ++ dv).map .dat)) ρ1 else .stuck⟩) := (rfl)
@[simp] theorem e_callN {n : Nat} {m : Fn} {dv : List D} {f : FL} : fCallN n m dv f ρ = bnd (f ρ) (k := ⟨fun ds ρ1 => if (ds ++ dv).length = n then callN (m ((ds ++ dv).map .dat)) ρ1 else .stuck⟩) := (rfl)
theorem rawe_callM {n : Nat} {m : Fn} {f : FL} : fCallM n m i f ρ = listO0 ρ[i]? fun _ => (f ρ).bind fun ds ρ1 => listO0 ρ1[i]? fun xs => if ds.length + 1 = n then callM (m (.par 0 (.lst xs) :: ds.map .dat)) i ρ1 else .stuck := by
  unfold fCallM slotList listO0
  rcases ρ[i]? with _ | _ | s
  · rfl
  · rfl
  · dsimp only
    cases s.list with
    | none => rfl
    | some xs =>
      dsimp only
      congr 1
      funext ds ρ1
      rcases ρ1[i]? with _ | _ | s
      · rfl
      · rfl
      · dsimp only
        cases s.list <;> rfl
@[simp] theorem e_callM {n : Nat} {m : Fn} {f : FL} : fCallM n m i f ρ = listO ρ[i]? (k := ⟨fun _ => bnd (f ρ) (k := ⟨fun ds ρ1 => listO ρ1[i]? (k := ⟨fun xs => if ds.length + 1 = n then callM (m (.par 0 (.lst xs) :: ds.map .dat)) i ρ1 else .stuck⟩)⟩)⟩) := rawe_callM
def ixK (k : D) (ds : List D) (ρ : En) : R D := match k with
  | .int j => R.of (atI ds j) ρ
  | _ => .stuck
@[simp] theorem ixK_int {k : Int} {ds : List D} : ixK (.int k) ds ρ = R.of (atI ds k) ρ := (rfl)
theorem rawe_ixO {fk : F} : fIxO i fk ρ = listO0 ρ[i]? fun _ => (fk ρ).bind fun k ρ1 => listO0 ρ1[i]? fun ds => ixK k ds ρ1 := by
  unfold fIxO slotList listO0
  rcases ρ[i]? with _ | _ | s
  · rfl
  · rfl
  · dsimp only
    cases s.list with
    | none => rfl
    | some xs =>
      dsimp only
      congr 1
      funext k ρ1
      rcases ρ1[i]? with _ | _ | s
      · cases k <;> rfl
      · cases k <;> rfl
      · dsimp only
        cases s.list <;> cases k <;> rfl
@[simp] theorem e_ixO {fk : F} : fIxO i fk ρ = listO ρ[i]? (k := ⟨fun _ => bnd (fk ρ) (k := ⟨fun k ρ1 => listO ρ1[i]? (k := ⟨fun ds => ixK k ds ρ1⟩)⟩)⟩) := rawe_ixO
theorem rawe_lenO : fLenO i ρ = listO0 ρ[i]? fun ds => .ok (.int ds.length) ρ := by
  unfold fLenO slotList listO0
  rcases ρ[i]? with _ | _ | s
  · rfl
  · rfl
  · dsimp only
    all_goals (cases s.list <;> rfl)
@[simp] theorem e_lenO : fLenO i ρ = listO ρ[i]? (k := ⟨fun ds => .ok (.int ds.length) ρ⟩) := rawe_lenO
def putO (o : Option (Option Slot)) (ρ : En) (i : Nat) (ds : List D) : Option En := match o with
  | some (some s) => (s.put ds).map fun s' => ρ.set i (some s')
  | _ => none
@[simp] theorem e_slotPut {ds : List D} : slotPut ρ i ds = putO ρ[i]? ρ i ds := (rfl)
@[simp] theorem put_own {ds es : List D} : putO (some (some (.own es))) ρ i ds = some (ρ.set i (some (.own ds))) := (rfl)
@[simp] theorem put_par {k : Nat} {ds es : List D} : putO (some (some (.par k (.lst es)))) ρ i ds = some (ρ.set i (some (.par k (.lst ds)))) := (rfl)
def okO {α : Type} (o : Option En) (a : α) : R α := match o with
  | some ρ2 => .ok a ρ2
  | none => .stuck
@[simp] theorem okO_some {α : Type} {a : α} : okO (some ρ) a = .ok a ρ := (rfl)
@[simp] theorem e_put2 {ds : List D} {d : D} : put2 ρ i ds d = okO (slotPut ρ i ds) d := (rfl)
def frzO (o : Option (Option Slot)) (i : Nat) (ρ : En) : En := match o with
  | some (some (.own ds)) => ρ.set i (some (.dat (.lst ds)))
  | _ => ρ
@[simp] theorem e_frz : frz i ρ = frzO ρ[i]? i ρ := (rfl)
@[simp] theorem frz_own {ds : List D} : frzO (some (some (.own ds))) i ρ = ρ.set i (some (.dat (.lst ds))) := (rfl)
@[simp] theorem frz_dat {d : D} : frzO (some (some (.dat d))) i ρ = ρ := (rfl)
def xfO (o : Option (Option Slot)) (c0 f : Str) (ρ : En) : R D := match o with
  | some (some (.exc c fs)) => if c = c0 then R.of (fs.lookup f) ρ else .stuck
  | _ => .stuck
@[simp] theorem e_xf {c0 f : Str} : fXf i c0 f ρ = xfO ρ[i]? c0 f ρ := by
  unfold fXf xfO
  rcases ρ[i]? with _ | _ | s
  · rfl
  · rfl
  · cases s with
    | exc c fs =>
      dsimp only
      by_cases h : c = c0
      · rw [if_pos h, if_pos h]
        cases fs.lookup f <;> rfl
      · rw [if_neg h, if_neg h]
    | _ => rfl
@[simp] theorem xfO_exc {c0 f : Str} {fs : List (Str × D)} : xfO (some (some (.exc c0 fs))) c0 f ρ = R.of (fs.lookup f) ρ := if_pos rfl
/-! statements -/
def SR.seq (r : SR) (h : G) : SR := match r with
  | .nx ρ1 => h ρ1
  | r => r
variable {g h : G} {f : F} {fl : FL} {d : D} {c : Str} {fs : List (Str × D)}
@[simp] theorem sq_nx : (SR.nx ρ).seq h = h ρ := (rfl)
@[simp] theorem sq_rt : (SR.rt d ρ).seq h = .rt d ρ := (rfl)
@[simp] theorem sq_rtn {ds : List D} : (SR.rtn ds ρ).seq h = .rtn ds ρ := (rfl)
@[simp] theorem sq_bk : (SR.bk ρ).seq h = .bk ρ := (rfl)
@[simp] theorem sq_ct : (SR.ct ρ).seq h = .ct ρ := (rfl)
@[simp] theorem sq_err : (SR.err c fs ρ).seq h = .err c fs ρ := (rfl)
@[simp] theorem s_Nx : gNx ρ = .nx ρ := (rfl)
@[simp] theorem s_Brk : gBrk ρ = .bk ρ := (rfl)
@[simp] theorem s_Cont : gCont ρ = .ct ρ := (rfl)
@[simp] theorem s_RetN : gRetN ρ = .rt .non ρ := (rfl)
@[simp] theorem s_Ret : gRet f ρ = srk (f ρ) (k := ⟨fun d ρ1 => .rt d ρ1⟩) := (rfl)
@[simp] theorem s_Retn : gRetn fl ρ = srk (fl ρ) (k := ⟨fun d ρ1 => .rtn d ρ1⟩) := (rfl)
@[simp] theorem s_Drop : gDrop f ρ = srk (f ρ) (k := ⟨fun _ ρ1 => .nx ρ1⟩) := (rfl)
@[simp] theorem s_If {c : FB} : gIf c g h ρ = srk (c ρ) (k := ⟨fun k ρ1 => if k = true then g ρ1 else h ρ1⟩) := (rfl)
@[simp] theorem s_Set : gSet i f ρ = srk (f ρ) (k := ⟨fun d ρ1 => .nx (ρ1.set i (some (.dat d)))⟩) := (rfl)
@[simp] theorem s_Own : gOwn i fl ρ = srk (fl ρ) (k := ⟨fun ds ρ1 => .nx (ρ1.set i (some (.own ds)))⟩) := (rfl)
@[simp] theorem s_Frz : gFrz i g ρ = g (frz i ρ) := (rfl)
@[simp] theorem s_Seq : gSeq g h ρ = (g ρ).seq h := (rfl)
def nxO (o : Option En) : SR := match o with
  | some ρ2 => .nx ρ2
  | none => .stuck
@[simp] theorem nxO_some : nxO (some ρ) = .nx ρ := (rfl)
def listS0 (o : Option (Option Slot)) (k : List D → SR) : SR := match o with
  | some (some s) => (match s.list with
    | some ds => k ds
    | none => .stuck)
  | _ => .stuck
def listS (o : Option (Option Slot)) [k : Kl SR] : SR := listS0 o k.run
@[simp] theorem listS_own {ds : List D} {k : Kl SR} : listS (some (some (.own ds))) (k := k) = k.run ds := (rfl)
@[simp] theorem listS_par {n : Nat} {ds : List D} {k : Kl SR} : listS (some (some (.par n (.lst ds)))) (k := k) = k.run ds := (rfl)
def szS (xs : List D) (x : SR) : SR := if xs.length < sizeLine then x else .stuck
theorem szS_lt {xs : List D} {x : SR} (h : xs.length < 1000000) : szS xs x = x := if_pos (Nat.lt_of_lt_of_le h (by rw [sizeLine_eq]; decide))
theorem raws_App : gApp i f ρ = listS0 ρ[i]? fun _ => (f ρ).sr fun d ρ1 => listS0 ρ1[i]? fun ds => szS ds (nxO (slotPut ρ1 i (ds ++ [d]))) := by
  unfold gApp slotList listS0
  rcases ρ[i]? with _ | _ | s
  · rfl
  · rfl
  · dsimp only
    cases s.list with
    | none => rfl
    | some xs =>
      dsimp only
      congr 1
      funext d ρ1
      rcases ρ1[i]? with _ | _ | s
      · rfl
      · rfl
      · dsimp only
        cases s.list <;> rfl
@[simp] theorem s_App {f : F} : gApp i f ρ = listS ρ[i]? (k := ⟨fun _ => srk (f ρ) (k := ⟨fun d ρ1 => listS ρ1[i]? (k := ⟨fun ds => szS ds (nxO (slotPut ρ1 i (ds ++ [d])))⟩)⟩)⟩) := raws_App
def setK (k : D) (ds : List D) (d : D) (ρ : En) (i : Nat) : SR := match k with
  | .int j => (match ixN ds.length j with
    | some n => nxO (slotPut ρ i (ds.set n d))
    | none => .stuck)
  | _ => .stuck
def setN (o : Option Nat) (ds : List D) (d : D) (ρ : En) (i : Nat) : SR := match o with
  | some n => nxO (slotPut ρ i (ds.set n d))
  | none => .stuck
@[simp] theorem setK_int {k : Int} {ds : List D} : setK (.int k) ds d ρ i = setN (ixN ds.length k) ds d ρ i := (rfl)
@[simp] theorem setN_some {n : Nat} {ds : List D} : setN (some n) ds d ρ i = nxO (slotPut ρ i (ds.set n d)) := (rfl)
theorem raws_SetIx {fk : F} : gSetIx i fk f ρ = ((f ρ).sr fun d ρ1 => listS0 ρ1[i]? fun _ => (fk ρ1).sr fun k ρ2 => listS0 ρ2[i]? fun ds => setK k ds d ρ2 i) := by
  unfold gSetIx slotList listS0
  congr 1
  funext d ρ1
  rcases ρ1[i]? with _ | _ | s
  · rfl
  · rfl
  · dsimp only
    cases s.list with
    | none => rfl
    | some xs =>
      dsimp only
      congr 1
      funext k ρ2
      rcases ρ2[i]? with _ | _ | s
      · cases k <;> rfl
      · cases k <;> rfl
      · dsimp only
        cases s.list with
        | none => cases k <;> rfl
        | some xs => cases k <;> rfl
@[simp] theorem s_SetIx {fk : F} : gSetIx i fk f ρ = srk (f ρ) (k := ⟨fun d ρ1 => listS ρ1[i]? (k := ⟨fun _ => srk (fk ρ1) (k := ⟨fun k ρ2 => listS ρ2[i]? (k := ⟨fun ds => setK k ds d ρ2 i⟩)⟩)⟩)⟩) := raws_SetIx
def par2 (ds : List D) (i j : Nat) (ρ : En) : SR := match ds with
  | [a, b] => .nx ((ρ.set i (some (.dat a))).set j (some (.dat b)))
  | _ => .stuck
@[simp] theorem par2_at {a b : D} : par2 [a, b] i j ρ = .nx ((ρ.set i (some (.dat a))).set j (some (.dat b))) := (rfl)
@[simp] theorem s_Par : gPar i j fl ρ = srk (fl ρ) (k := ⟨fun ds ρ1 => par2 ds i j ρ1⟩) := (rfl)
def par3 (ds : List D) (i j l : Nat) (ρ : En) : SR := match ds with
  | [a, b, c] => .nx (((ρ.set i (some (.dat a))).set j (some (.dat b))).set l (some (.dat c)))
  | _ => .stuck
@[simp] theorem par3_at {l : Nat} {a b c : D} : par3 [a, b, c] i j l ρ = .nx (((ρ.set i (some (.dat a))).set j (some (.dat b))).set l (some (.dat c))) := (rfl)
@[simp] theorem s_Par3 {l : Nat} : gPar3 i j l fl ρ = srk (fl ρ) (k := ⟨fun ds ρ1 => par3 ds i j l ρ1⟩) := (rfl)
theorem raws_Asg {t : D → En → Option En} : gAsg t f ρ = (f ρ).sr fun d ρ1 => nxO (t d ρ1) := by
  unfold gAsg
  congr 1
@[simp] theorem s_Asg {t : D → En → Option En} : gAsg t f ρ = srk (f ρ) (k := ⟨fun d ρ1 => nxO (t d ρ1)⟩) := raws_Asg
@[simp] theorem s_Raise {c : Str} {fs : List Str} : gRaise c fs fl ρ = srk (fl ρ) (k := ⟨fun ds ρ1 => if ds.length = fs.length then .err c (fs.zip ds) ρ1 else .stuck⟩) := (rfl)
theorem s_For {t : D → En → Option En} : gFor fl t g ρ = (fl ρ).sr fun ds ρ1 => forL t g ds ρ1 := (rfl)
def SR.loop (r : SR) (k : G) : SR := match r with
  | .nx ρ2 => k ρ2
  | .ct ρ2 => k ρ2
  | .bk ρ2 => .nx ρ2
  | .rt d ρ2 => .rt d ρ2
  | .rtn ds ρ2 => .rtn ds ρ2
  | .err c fs ρ2 => .err c fs ρ2
  | .stuck => .stuck
@[simp] theorem lo_nx : (SR.nx ρ).loop h = h ρ := (rfl)
@[simp] theorem lo_ct : (SR.ct ρ).loop h = h ρ := (rfl)
@[simp] theorem lo_bk : (SR.bk ρ).loop h = .nx ρ := (rfl)
@[simp] theorem lo_rt : (SR.rt d ρ).loop h = .rt d ρ := (rfl)
@[simp] theorem lo_rtn {ds : List D} : (SR.rtn ds ρ).loop h = .rtn ds ρ := (rfl)
@[simp] theorem lo_err : (SR.err c fs ρ).loop h = .err c fs ρ := (rfl)
theorem forL_nil {t : D → En → Option En} : forL t g [] ρ = .nx ρ := (rfl)
theorem forL_cons {t : D → En → Option En} {ds : List D} {ρ1 : En} (e : t d ρ = some ρ1) : forL t g (d :: ds) ρ = (g ρ1).loop (forL t g ds) := by
  rw [forL]
  rw [e]
  rfl
@[simp] theorem tg_name : tgName i d ρ = some (ρ.set i (some (.dat d))) := (rfl)
@[simp] theorem tg_nil : tgNil [] ρ = some ρ := (rfl)
@[simp] theorem tg_cons {f : D → En → Option En} {r : List D → En → Option En} {ds : List D} : tgCons f r (d :: ds) ρ = (f d ρ).bind (r ds) := (rfl)
@[simp] theorem tg_tup {n : Nat} {f : List D → En → Option En} {ds : List D} : tgTup n f (.tup ds) ρ = if ds.length = n then f ds ρ else none := (rfl)
/-! try -/
def outX (r : SR) (i : Nat) : SR := match r with
  | .nx ρ2 => if noExc (ρ2.set i none) = true then .nx (ρ2.set i none) else .stuck
  | .rt d ρ2 => if noExc (ρ2.set i none) = true then .rt d (ρ2.set i none) else .stuck
  | .rtn ds ρ2 => if noExc (ρ2.set i none) = true then .rtn ds (ρ2.set i none) else .stuck
  | .bk ρ2 => if noExc (ρ2.set i none) = true then .bk (ρ2.set i none) else .stuck
  | .ct ρ2 => if noExc (ρ2.set i none) = true then .ct (ρ2.set i none) else .stuck
  | _ => .stuck
@[simp] theorem outX_nx : outX (.nx ρ) i = if noExc (ρ.set i none) = true then .nx (ρ.set i none) else .stuck := (rfl)
@[simp] theorem outX_rt : outX (.rt d ρ) i = if noExc (ρ.set i none) = true then .rt d (ρ.set i none) else .stuck := (rfl)
@[simp] theorem outX_ct : outX (.ct ρ) i = if noExc (ρ.set i none) = true then .ct (ρ.set i none) else .stuck := (rfl)
@[simp] theorem e_suiteAs : suiteAs i g c fs ρ = if noExc ρ = true then outX (g (ρ.set i (some (.exc c fs)))) i else .stuck := (rfl)
@[simp] theorem noExc_nil : noExc [] = true := (rfl)
@[simp] theorem noExc_none {l : En} : noExc (none :: l) = noExc l := (rfl)
@[simp] theorem noExc_dat {l : En} : noExc (some (.dat d) :: l) = noExc l := (rfl)
@[simp] theorem noExc_own {l : En} {ds : List D} : noExc (some (.own ds) :: l) = noExc l := (rfl)
@[simp] theorem noExc_par {l : En} {k : Nat} {ct : Cont} : noExc (some (.par k ct) :: l) = noExc l := (rfl)
def catK (o : Option Bool) [x : Th SR] (y : SR) : SR := match o with
  | some true => x.run
  | some false => y
  | none => .stuck
@[simp] theorem catK_t {x : Th SR} {y : SR} : catK (some true) (x := x) y = x.run := (rfl)
@[simp] theorem catK_f {x : Th SR} {y : SR} : catK (some false) (x := x) y = y := (rfl)
def SR.tryAs (r : SR) (cat : Str → Option Bool) (i : Nat) (g : G) : SR := match r with
  | .err c fs ρ1 => catK (cat c) (x := ⟨suiteAs i g c fs ρ1⟩) (.err c fs ρ1)
  | r => r
@[simp] theorem s_Try {cat : Str → Option Bool} : gTryAs h cat i g ρ = (h ρ).tryAs cat i g := by
  unfold gTryAs SR.tryAs
  cases h ρ with
  | err c fs ρ1 => dsimp only; cases cat c with
    | none => rfl
    | some b => cases b <;> rfl
  | _ => rfl
@[simp] theorem try_nx {cat : Str → Option Bool} : (SR.nx ρ).tryAs cat i g = .nx ρ := (rfl)
@[simp] theorem try_rt {cat : Str → Option Bool} : (SR.rt d ρ).tryAs cat i g = .rt d ρ := (rfl)
@[simp] theorem try_err {cat : Str → Option Bool} : (SR.err c fs ρ).tryAs cat i g = catK (cat c) (x := ⟨suiteAs i g c fs ρ⟩) (.err c fs ρ) := (rfl)
@[simp] theorem lk_hit {k : Str} {v : D} {l : List (Str × D)} : List.lookup k ((k, v) :: l) = some v := by
  rw [List.lookup_cons_self]
theorem lk_miss {k k' : Str} {v : D} {l : List (Str × D)} (h : (k == k') = false) : List.lookup k ((k', v) :: l) = List.lookup k l := by
  rw [List.lookup_cons, h]
/-! a def -/
def outM (b : Bool) (ρ : En) (k : Option Cont → FR) : FR := if b = true then (match fin ρ with
  | some c => k (some c)
  | none => .stuck) else k none
def outS (b : Bool) (r : SR) : FR := match r with
  | .nx ρ => outM b ρ (.ok .non)
  | .rt d ρ => outM b ρ (.ok d)
  | .rtn ds ρ => outM b ρ (.okn ds)
  | .err c fs ρ => outM b ρ (.err c fs)
  | _ => .stuck
theorem mk_out {nl : Nat} {ss : List Slot} : mkFn g nl ss = outS (isPar ss) (g (ss.map some ++ List.replicate nl none)) := by
  unfold mkFn outS outM
  generalize g (ss.map some ++ List.replicate nl none) = r
  generalize isPar ss = b
  cases r <;> first | rfl | (cases b <;> first | rfl | (rename_i ρ; dsimp only; rw [if_pos rfl, if_pos rfl]; cases fin ρ <;> rfl))
@[simp] theorem out_nx {b : Bool} : outS b (.nx ρ) = outM b ρ (.ok .non) := (rfl)
@[simp] theorem out_rt {b : Bool} : outS b (.rt d ρ) = outM b ρ (.ok d) := (rfl)
@[simp] theorem out_rtn {b : Bool} {ds : List D} : outS b (.rtn ds ρ) = outM b ρ (.okn ds) := (rfl)
@[simp] theorem out_err {b : Bool} : outS b (.err c fs ρ) = outM b ρ (.err c fs) := (rfl)
@[simp] theorem outM_f {k : Option Cont → FR} : outM false ρ k = k none := (rfl)
@[simp] theorem outM_t {k : Option Cont → FR} {n : Cont} {ss : En} : outM true (some (.par 0 n) :: ss) k = k (some n) := (rfl)
@[simp] theorem isPar_d {ss : List Slot} : isPar (.dat d :: ss) = false := (rfl)
@[simp] theorem isPar_nil : isPar [] = false := (rfl)
@[simp] theorem isPar_p {ct : Cont} {ss : List Slot} : isPar (.par 0 ct :: ss) = true := (rfl)
end
/-! numbers -/
theorem sm_bits {i : Int} {n : Nat} (h : i.natAbs < 2 ^ n) : Builtin.Int.intBits i ≤ n := by
  unfold Builtin.Int.intBits
  split
  · omega
  · rename_i h0
    have : i.natAbs ≠ 0 := fun z => h0 (by simp; omega)
    have := (Nat.log2_lt this).mpr h
    omega
theorem mulD_int {i j : Int} (h : Builtin.Int.intBits i ≤ 60000000) (h2 : Builtin.Int.intBits j ≤ 60000000) : mulD (.int i) (.int j) = some (.int (i * j)) := by
  have e : mulI (.int i) (.int j) = some (.int (i * j)) := by
    show (if mulC i j = true then some (D.int (i * j)) else none) = _
    unfold mulC
    rw [decide_eq_true h, decide_eq_true h2]
    rfl
  unfold mulD alt2
  simp only [e]
theorem mulD_sm {i j : Int} (h : i.natAbs < 2 ^ 80) (h2 : j.natAbs < 2 ^ 80) : mulD (.int i) (.int j) = some (.int (i * j)) := by
  have a := sm_bits h
  have b := sm_bits h2
  exact mulD_int (by omega) (by omega)
/-- small: room for one more product -/
def Sm (i : Int) : Prop := i.natAbs < 2 ^ 80
theorem sm_of {i : Int} (h : i.natAbs < 2 ^ 80) : Sm i := h
@[simp] theorem sm_lit {n : Nat} : Sm (no_index (OfNat.ofNat n)) ↔ n < 1208925819614629174706176 := by
  unfold Sm
  show Int.natAbs (n : Int) < _ ↔ _
  rw [Int.natAbs_natCast]
@[simp] theorem sm_one : Sm 1 := by unfold Sm; decide
@[simp] theorem sm_zero : Sm 0 := by unfold Sm; decide
@[simp] theorem sm_neg {i : Int} : Sm (-i) ↔ Sm i := by
  unfold Sm
  rw [Int.natAbs_neg]
theorem sm_mod {i j : Int} (h : 0 < j) (h2 : Sm j) : Sm (i % j) := by
  unfold Sm at *
  have := Int.emod_nonneg i (by omega : j ≠ 0)
  have := Int.emod_lt_of_pos i h
  omega
theorem mulD_s {i j : Int} (h : Sm i) (h2 : Sm j) : mulD (.int i) (.int j) = some (.int (i * j)) := mulD_sm h h2
theorem fdvI_s {i j : Int} (h : 0 < j) (h2 : Sm j) : fdvI (.int i) (.int j) = some (.int (i / j)) := by
  show (if (decide (0 < j) && decide (j.natAbs.log2 < 9000)) = true then some (D.int (i / j)) else none) = _
  have : j.natAbs.log2 < 80 := (Nat.log2_lt (by omega)).mpr h2
  rw [decide_eq_true h, decide_eq_true (by omega : j.natAbs.log2 < 9000)]
  rfl
@[simp] theorem addD_int {i j : Int} : addD (.int i) (.int j) = some (.int (i + j)) := (rfl)
theorem addD_tup {xs ys : List D} (h : xs.length + ys.length ≤ 1000000) : addD (.tup xs) (.tup ys) = some (.tup (xs ++ ys)) := by
  have e1 : addI (.tup xs) (.tup ys) = none := (rfl)
  have e2 : addT (.tup xs) (.tup ys) = some (.tup (xs ++ ys)) := if_pos (Nat.le_trans h (by rw [sizeLine_eq]; decide))
  unfold addD alt2
  simp only [e1, e2]
@[simp] theorem subI_int {i j : Int} : subI (.int i) (.int j) = some (.int (i - j)) := (rfl)
@[simp] theorem negI_int {i : Int} : negI (.int i) = some (.int (-i)) := (rfl)
theorem modI_int {i j : Int} (h : 0 < j) : modI (.int i) (.int j) = some (.int (i % j)) := by
  show (if decide (0 < j) = true then some (D.int (i % j)) else none) = _
  rw [decide_eq_true h]
  rfl
theorem fdvI_int {i j : Int} (h : 0 < j) (h2 : j < 2 ^ 80) : fdvI (.int i) (.int j) = some (.int (i / j)) := by
  show (if (decide (0 < j) && decide (j.natAbs.log2 < 9000)) = true then some (D.int (i / j)) else none) = _
  have : j.natAbs.log2 < 80 := (Nat.log2_lt (by omega)).mpr (by omega)
  rw [decide_eq_true h, decide_eq_true (by omega : j.natAbs.log2 < 9000)]
  rfl
theorem shrI_int {i j : Int} (h : 0 ≤ j) : shrI (.int i) (.int j) = some (.int (i / 2 ^ j.toNat)) := by
  show (if decide (0 ≤ j) = true then some (D.int (i / 2 ^ j.toNat)) else none) = _
  rw [decide_eq_true h]
  rfl
theorem shlI_one {j : Int} (h : 0 ≤ j) (h2 : j ≤ 1000) : shlI (.int 1) (.int j) = some (.int (2 ^ j.toNat)) := by
  show (if shlC 1 j = true then some (D.int (1 * 2 ^ j.toNat)) else none) = _
  have : shlC 1 j = true := by
    unfold shlC
    rw [decide_eq_true h, decide_eq_true (by omega : j.toNat ≤ 60000000)]
    decide
  rw [this, if_pos rfl, Int.one_mul]
@[simp] theorem ltI_int {i j : Int} : ltI (.int i) (.int j) = some (.bl (decide (i < j))) := (rfl)
@[simp] theorem leI_int {i j : Int} : leI (.int i) (.int j) = some (.bl (decide (i ≤ j))) := (rfl)
@[simp] theorem gtI_int {i j : Int} : gtI (.int i) (.int j) = some (.bl (decide (j < i))) := (rfl)
@[simp] theorem geI_int {i j : Int} : geI (.int i) (.int j) = some (.bl (decide (j ≤ i))) := (rfl)
@[simp] theorem int1D_int {i : Int} : int1D [.int i] = some (.int i) := (rfl)
@[simp] theorem tupleD_l {xs : List D} : tupleD [.lst xs] = some (.tup xs) := (rfl)
@[simp] theorem tupleD_s {xs : List D} : tupleD [.slst xs] = some (.tup xs) := (rfl)
@[simp] theorem tupleD_t {xs : List D} : tupleD [.tup xs] = some (.tup xs) := (rfl)
@[simp] theorem lenD_l {xs : List D} : lenD [.lst xs] = some (.int xs.length) := (rfl)
@[simp] theorem lenD_s {xs : List D} : lenD [.slst xs] = some (.int xs.length) := (rfl)
@[simp] theorem lenD_t {xs : List D} : lenD [.tup xs] = some (.int xs.length) := (rfl)
@[simp] theorem isN_non : isN .non .non = some (.bl true) := (rfl)
@[simp] theorem isN_int {i : Int} : isN (.int i) .non = some (.bl false) := (rfl)
@[simp] theorem seqOf_l {xs : List D} : seqOf (.lst xs) = some xs := (rfl)
@[simp] theorem seqOf_s {xs : List D} : seqOf (.slst xs) = some xs := (rfl)
@[simp] theorem seqOf_t {xs : List D} : seqOf (.tup xs) = some xs := (rfl)
@[simp] theorem items_l {xs : List D} : items (.lst xs) = some xs := (rfl)
@[simp] theorem items_s {xs : List D} : items (.slst xs) = some xs := (rfl)
@[simp] theorem items_t {xs : List D} : items (.tup xs) = some xs := (rfl)
@[simp] theorem tru_bl {b : Bool} : D.truth (.bl b) = some b := (rfl)
@[simp] theorem tru_int {i : Int} : D.truth (.int i) = some (i != 0) := (rfl)
@[simp] theorem tru_l {xs : List D} : D.truth (.lst xs) = some (!xs.isEmpty) := (rfl)
@[simp] theorem tru_t {xs : List D} : D.truth (.tup xs) = some (!xs.isEmpty) := (rfl)
@[simp] theorem tru_n : D.truth .non = some false := (rfl)
/-! places -/
theorem ixN_nat {n i : Nat} (h : i < n) : ixN n (i : Int) = some i := by
  unfold ixN
  rw [if_pos (by omega), if_pos (by omega)]
  simp
theorem ixN_int {n : Nat} {i : Int} (h0 : 0 ≤ i) (h : i < n) : ixN n i = some i.toNat := by
  unfold ixN
  rw [if_pos h0, if_pos h]
theorem atI_int {α : Type} {xs : List α} {i : Int} (h0 : 0 ≤ i) (h : i < xs.length) : atI xs i = xs[i.toNat]? := by
  unfold atI
  rw [ixN_int h0 h]
  rfl
theorem atI_nat {α : Type} {xs : List α} {i : Nat} (h : i < xs.length) : atI xs (i : Int) = xs[i]? := by
  unfold atI
  rw [ixN_nat h]
  rfl
theorem ixD_seq {xs : List D} {i : Int} {d x : D} (h : seqOf d = some xs) (e : atI xs i = some x) : ixD d (.int i) = some x := by
  have : ixSeq d (.int i) = some x := by
    unfold ixSeq
    rw [h]
    exact e
  unfold ixD alt2
  rw [this]
/-! plain data and == -/
theorem py_ints (xs : List Int) : pyAll (xs.map D.int) = some (xs.map PyData.int) := by
  induction xs with
  | nil => rfl
  | cons x xs ih =>
    show (match D.py (.int x), pyAll (xs.map D.int) with | some p, some ps => some (p :: ps) | _, _ => none) = _
    rw [ih]
    rfl
theorem lay_ints (xs : List Int) : PyData.canLayAll0 (xs.map PyData.int) = true := by
  induction xs with
  | nil => rfl
  | cons x xs ih =>
    simp only [List.map_cons, PyData.canLayAll0, PyData.canLay0, ih, Bool.and_self]
theorem dep_ints (xs : List Int) : PyData.depthAll (xs.map PyData.int) = 0 := by
  induction xs with
  | nil => simp [PyData.depthAll]
  | cons x xs ih =>
    simp [PyData.depthAll, PyData.depth, ih]
theorem eqv_ints (xs ys : List Int) : PyData.eqvAll (xs.map PyData.int) (ys.map PyData.int) = decide (xs = ys) := by
  induction xs generalizing ys with
  | nil => cases ys <;> simp [PyData.eqvAll]
  | cons x xs ih =>
    cases ys with
    | nil => simp [PyData.eqvAll]
    | cons y ys =>
      simp [PyData.eqvAll, PyData.eqv, ih]
      by_cases e : x = y <;> simp [e]
theorem sh_int (i : Int) : SeqAt.shaped (.int i) = true := by
  unfold SeqAt.shaped
  simp [PyData.canLay0, PyData.depth]
theorem sh_ints (xs : List Int) : SeqAt.shaped (.tuple (xs.map PyData.int)) = true := by
  unfold SeqAt.shaped
  simp [PyData.canLay0, PyData.depth, lay_ints, dep_ints]
theorem sh_intl (xs : List Int) : SeqAt.shaped (.list (xs.map PyData.int)) = true := by
  unfold SeqAt.shaped
  simp [PyData.canLay0, PyData.depth, lay_ints, dep_ints]
@[simp] theorem eqv_int {i j : Int} : eqvD (.int i) (.int j) = some (decide (i = j)) := by
  unfold eqvD
  show (if (SeqAt.shaped (.int i) && SeqAt.shaped (.int j)) = true then some (PyData.eqv (.int i) (.int j)) else none) = _
  rw [sh_int, sh_int, Bool.and_self, if_pos rfl]
  simp only [PyData.eqv]
  by_cases e : i = j <;> simp [e]
/-- a tuple, a list of whole numbers -/
def ti (xs : List Int) : D := .tup (xs.map .int)
def tl (xs : List Int) : D := .lst (xs.map .int)
theorem ti_py (xs : List Int) : (ti xs).py = some (.tuple (xs.map .int)) := by
  show (pyAll (xs.map D.int)).map PyData.tuple = _
  rw [py_ints]
  rfl
theorem tl_py (xs : List Int) : (tl xs).py = some (.list (xs.map .int)) := by
  show (pyAll (xs.map D.int)).map PyData.list = _
  rw [py_ints]
  rfl
@[simp] theorem eqv_ti {xs ys : List Int} : eqvD (ti xs) (ti ys) = some (decide (xs = ys)) := by
  unfold eqvD
  rw [ti_py, ti_py]
  dsimp only
  rw [sh_ints, sh_ints, Bool.and_self, if_pos rfl]
  simp only [PyData.eqv]
  rw [eqv_ints]
@[simp] theorem eqv_til {xs ys : List Int} : eqvD (ti xs) (tl ys) = some false := by
  unfold eqvD
  rw [ti_py, tl_py]
  dsimp only
  rw [sh_ints, sh_intl, Bool.and_self, if_pos rfl]
  simp only [PyData.eqv]
@[simp] theorem eqD_eq {a b : D} : eqD a b = (eqvD a b).map .bl := (rfl)
@[simp] theorem neD_eq {a b : D} : neD a b = (eqvD a b).map fun k => .bl (!k) := (rfl)
/-! places told by figures -/
@[simp] theorem atI_lit {α : Type} {xs : List α} {n : Nat} : atI xs (no_index (OfNat.ofNat n) : Int) = xs[n]? := by
  show atI xs ((n : Nat) : Int) = _
  by_cases h : n < xs.length
  · exact atI_nat h
  · unfold atI ixN
    rw [if_pos (by omega), if_neg (by omega)]
    rw [List.getElem?_eq_none (by omega)]
    rfl
@[simp] theorem atI_0 {α : Type} {xs : List α} : atI xs 0 = xs[0]? := by
  by_cases h : 0 < xs.length
  · exact atI_nat h
  · unfold atI ixN
    rw [if_pos (by omega), if_neg (by omega)]
    rw [List.getElem?_eq_none (by omega)]
    rfl
@[simp] theorem atI_1 {α : Type} {xs : List α} : atI xs 1 = xs[1]? := by
  by_cases h : 1 < xs.length
  · exact atI_nat h
  · unfold atI ixN
    rw [if_pos (by omega), if_neg (by omega)]
    rw [List.getElem?_eq_none (by omega)]
    rfl
@[simp] theorem ixN_lit {m n : Nat} : ixN m (no_index (OfNat.ofNat n) : Int) = if n < m then some n else none := by
  show ixN m (n : Int) = _
  by_cases h : n < m
  · rw [ixN_nat h, if_pos h]
  · unfold ixN
    rw [if_pos (by omega), if_neg (by omega), if_neg h]
@[simp] theorem ixN_0 {m : Nat} : ixN m 0 = if 0 < m then some 0 else none := by
  by_cases h : 0 < m
  · rw [show (0 : Int) = ((0 : Nat) : Int) from rfl, ixN_nat h, if_pos h]
  · unfold ixN
    rw [if_pos (by omega), if_neg (by omega), if_neg h]
@[simp] theorem ixN_1 {m : Nat} : ixN m 1 = if 1 < m then some 1 else none := by
  by_cases h : 1 < m
  · rw [show (1 : Int) = ((1 : Nat) : Int) from rfl, ixN_nat h, if_pos h]
  · unfold ixN
    rw [if_pos (by omega), if_neg (by omega), if_neg h]
theorem ixD_l {xs : List D} {i : Int} : ixD (.lst xs) (.int i) = atI xs i := by
  have e1 : ixSeq (.lst xs) (.int i) = atI xs i := (rfl)
  unfold ixD alt2
  rw [e1]
  cases atI xs i <;> rfl
theorem ixD_t {xs : List D} {i : Int} : ixD (.tup xs) (.int i) = atI xs i := by
  have e1 : ixSeq (.tup xs) (.int i) = atI xs i := (rfl)
  unfold ixD alt2
  rw [e1]
  cases atI xs i <;> rfl
theorem ixD_s {xs : List D} {i : Int} : ixD (.slst xs) (.int i) = atI xs i := by
  have e1 : ixSeq (.slst xs) (.int i) = atI xs i := (rfl)
  unfold ixD alt2
  rw [e1]
  cases atI xs i <;> rfl
end DL

set_option Elab.async false
set_option linter.all false
set_option maxRecDepth 100000
/-! PL: loops and comprehensions of the tellers. -/
namespace DL
open PySem PySem.Spec PyProof.Rows L2

theorem for_inv {t : D → En → Option En} {g : G} (I : List D → En → Prop) (hs : ∀ d ds ρ, I (d :: ds) ρ → ∃ ρ1 ρ2, t d ρ = some ρ1 ∧ (g ρ1 = .nx ρ2 ∨ g ρ1 = .ct ρ2) ∧ I ds ρ2) :
    ∀ (ds : List D) (ρ : En), I ds ρ → ∃ ρ', forL t g ds ρ = .nx ρ' ∧ I [] ρ' := by
  intro ds
  induction ds with
  | nil => exact fun ρ h => ⟨ρ, rfl, h⟩
  | cons d ds ih =>
    intro ρ h
    obtain ⟨ρ1, ρ2, e1, e2, h2⟩ := hs d ds ρ h
    obtain ⟨ρ', e3, h3⟩ := ih ρ2 h2
    refine ⟨ρ', ?_, h3⟩
    rw [forL_cons e1]
    rcases e2 with e2 | e2 <;> rw [e2] <;> exact e3
/-- .. that may leave early -/
theorem for_exit {t : D → En → Option En} {g : G} (I : List D → En → Prop) (E : SR → Prop) (hs : ∀ d ds ρ, I (d :: ds) ρ → ∃ ρ1, t d ρ = some ρ1 ∧ ((∃ ρ2, (g ρ1 = .nx ρ2 ∨ g ρ1 = .ct ρ2) ∧ I ds ρ2) ∨ (∃ v ρ2, g ρ1 = .rt v ρ2 ∧ E (.rt v ρ2)) ∨ (∃ c fs ρ2, g ρ1 = .err c fs ρ2 ∧ E (.err c fs ρ2)) ∨ (∃ ρ2, g ρ1 = .bk ρ2 ∧ E (.nx ρ2)))) (hn : ∀ ρ, I [] ρ → E (.nx ρ)) :
    ∀ (ds : List D) (ρ : En), I ds ρ → ∃ r, forL t g ds ρ = r ∧ E r := by
  intro ds
  induction ds with
  | nil => exact fun ρ h => ⟨_, rfl, hn ρ h⟩
  | cons d ds ih =>
    intro ρ h
    obtain ⟨ρ1, e1, h2⟩ := hs d ds ρ h
    rw [forL_cons e1]
    rcases h2 with ⟨ρ2, e2, h2⟩ | ⟨v, ρ2, e2, h2⟩ | ⟨c, fs, ρ2, e2, h2⟩ | ⟨ρ2, e2, h2⟩
    · obtain ⟨r, e3, h3⟩ := ih ρ2 h2
      refine ⟨r, ?_, h3⟩
      rcases e2 with e2 | e2 <;> rw [e2] <;> exact e3
    · rw [e2]; exact ⟨_, rfl, h2⟩
    · rw [e2]; exact ⟨_, rfl, h2⟩
    · rw [e2]; exact ⟨_, rfl, h2⟩
theorem backE_id {vs : List Nat} {ρ ρb : En} (h : ∀ j, j < ρ.length → j ∉ vs → ρb[j]? = ρ[j]?) : backE vs ρ ρb = ρ := by
  unfold backE
  apply List.ext_getElem?
  intro j
  rw [List.getElem?_map]
  by_cases hj : j < ρ.length
  · rw [List.getElem?_range hj]
    show some (if j ∈ vs then (ρ[j]?).getD none else (ρb[j]?).getD none) = _
    have e : (ρ[j]?).getD none = ρ[j] := by rw [List.getElem?_eq_getElem hj]; rfl
    rw [List.getElem?_eq_getElem hj]
    split
    · rfl
    · rename_i hm
      rw [h j hj hm, List.getElem?_eq_getElem hj]
      rfl
  · rw [List.getElem?_eq_none (by simpa using hj), List.getElem?_eq_none (by omega)]
    rfl
theorem lcL_map {α : Type} {vs : List Nat} {t : D → En → Option En} {tt : FB} {te : F} {ρ0 : En} (emb : α → D) (p : α → Bool) (f : α → D) :
    ∀ (xs : List α) (acc : List D), acc.length + xs.length ≤ 1000000 → (∀ x ∈ xs, ∃ ρ2, t (emb x) ρ0 = some ρ2 ∧ tt ρ2 = .ok (p x) ρ2 ∧ (p x = true → te ρ2 = .ok (f x) ρ2) ∧ wipeE ρ2 vs = ρ0) →
    lcL vs t tt te (xs.map emb) acc ρ0 = .ok (acc ++ (xs.filter p).map f) ρ0 := by
  intro xs
  induction xs with
  | nil => intro acc _ _; simp [lcL]
  | cons x xs ih =>
    intro acc hl h
    obtain ⟨ρ2, e1, e2, e3, e4⟩ := h x (List.mem_cons_self)
    simp only [List.length_cons] at hl
    rw [List.map_cons, lcL, e1]
    dsimp only
    rw [e2, bindN_ok]
    have hh : ∀ y ∈ xs, ∃ ρ2, t (emb y) ρ0 = some ρ2 ∧ tt ρ2 = .ok (p y) ρ2 ∧ (p y = true → te ρ2 = .ok (f y) ρ2) ∧ wipeE ρ2 vs = ρ0 := fun y hy => h y (List.mem_cons_of_mem _ hy)
    cases hp : p x with
    | true =>
      rw [if_pos rfl, e3 hp, bindN_ok, if_pos (Nat.lt_of_lt_of_le (by omega : acc.length < 1000000) (by rw [sizeLine_eq]; decide)), e4, ih _ (by rw [List.length_append]; simp only [List.length_cons, List.length_nil]; omega) hh]
      rw [List.filter_cons, if_pos hp, List.map_cons, List.append_assoc]
      rfl
    | false =>
      rw [if_neg Bool.false_ne_true, e4, ih _ (by omega) hh, List.filter_cons, if_neg (by rw [hp]; exact Bool.false_ne_true)]
theorem lc_map {α : Type} {it : FL} {vs : List Nat} {t : D → En → Option En} {tt : FB} {te : F} {ρ ρ1 : En} (emb : α → D) (p : α → Bool) (f : α → D) (xs : List α)
    (hit : it ρ = .ok (xs.map emb) ρ1) (hn : noMu vs ρ1 = true) (hl : xs.length ≤ 1000000) (h : ∀ x ∈ xs, ∃ ρ2, t (emb x) (wipeE ρ1 vs) = some ρ2 ∧ tt ρ2 = .ok (p x) ρ2 ∧ (p x = true → te ρ2 = .ok (f x) ρ2) ∧ wipeE ρ2 vs = wipeE ρ1 vs) :
    fLc it vs t tt te ρ = .ok ((xs.filter p).map f) ρ1 := by
  unfold fLc
  rw [hit, bind_ok, if_pos hn, lcL_map emb p f xs [] (by simpa using hl) h, bindN_ok, List.nil_append, backE_id fun j _ hj => wipeE_out hj]
/-- .. without a test -/
theorem lc_all {α : Type} {it : FL} {vs : List Nat} {t : D → En → Option En} {te : F} {ρ ρ1 : En} (emb : α → D) (f : α → D) (xs : List α)
    (hit : it ρ = .ok (xs.map emb) ρ1) (hn : noMu vs ρ1 = true) (hl : xs.length ≤ 1000000) (h : ∀ x ∈ xs, ∃ ρ2, t (emb x) (wipeE ρ1 vs) = some ρ2 ∧ te ρ2 = .ok (f x) ρ2 ∧ wipeE ρ2 vs = wipeE ρ1 vs) :
    fLc it vs t fYes te ρ = .ok (xs.map f) ρ1 := by
  have e := lc_map (tt := fYes) (te := te) emb (fun _ => true) f xs hit hn hl fun x hx => by
    obtain ⟨ρ2, a, b, c⟩ := h x hx
    exact ⟨ρ2, a, rfl, fun _ => b, c⟩
  rw [e, List.filter_eq_self.mpr fun _ _ => rfl]
/-- .. that changes what stands beside it -/
theorem lcL_inv {α : Type} {vs : List Nat} {t : D → En → Option En} {tt : FB} {te : F} (emb : α → D) (I : List α → List D → En → Prop)
    (h : ∀ x xs acc ρ, I (x :: xs) acc ρ → ∃ ρ2 b ρ3, t (emb x) ρ = some ρ2 ∧ tt ρ2 = .ok b ρ3 ∧ (b = true → ∃ y ρ4, te ρ3 = .ok y ρ4 ∧ I xs (acc ++ [y]) (wipeE ρ4 vs)) ∧ (b = false → I xs acc (wipeE ρ3 vs))) :
    ∀ (xs : List α) (acc : List D) (ρ : En), acc.length + xs.length ≤ 1000000 → I xs acc ρ → ∃ acc' ρ', lcL vs t tt te (xs.map emb) acc ρ = .ok acc' ρ' ∧ I [] acc' ρ' := by
  intro xs
  induction xs with
  | nil => intro acc ρ _ h; exact ⟨acc, ρ, rfl, h⟩
  | cons x xs ih =>
    intro acc ρ hl h0
    obtain ⟨ρ2, b, ρ3, e1, e2, e3, e4⟩ := h x xs acc ρ h0
    simp only [List.length_cons] at hl
    rw [List.map_cons, lcL, e1]
    dsimp only
    rw [e2, bindN_ok]
    cases hp : b with
    | true =>
      obtain ⟨y, ρ4, e5, h5⟩ := e3 hp
      rw [if_pos rfl, e5, bindN_ok, if_pos (Nat.lt_of_lt_of_le (by omega : acc.length < 1000000) (by rw [sizeLine_eq]; decide))]
      exact ih _ _ (by rw [List.length_append]; simp only [List.length_cons, List.length_nil]; omega) h5
    | false =>
      rw [if_neg Bool.false_ne_true]
      exact ih _ _ (by omega) (e4 hp)
theorem lc_inv {α : Type} {it : FL} {vs : List Nat} {t : D → En → Option En} {tt : FB} {te : F} {ρ ρ1 : En} (emb : α → D) (I : List α → List D → En → Prop) (xs : List α)
    (hit : it ρ = .ok (xs.map emb) ρ1) (hn : noMu vs ρ1 = true) (hl : xs.length ≤ 1000000) (h0 : I xs [] (wipeE ρ1 vs)) (h : ∀ x xs acc ρ, I (x :: xs) acc ρ → ∃ ρ2 b ρ3, t (emb x) ρ = some ρ2 ∧ tt ρ2 = .ok b ρ3 ∧ (b = true → ∃ y ρ4, te ρ3 = .ok y ρ4 ∧ I xs (acc ++ [y]) (wipeE ρ4 vs)) ∧ (b = false → I xs acc (wipeE ρ3 vs))) :
    ∃ acc ρb, fLc it vs t tt te ρ = .ok acc (backE vs ρ1 ρb) ∧ I [] acc ρb := by
  obtain ⟨acc, ρb, e, hI⟩ := lcL_inv emb I h xs [] _ (by simpa using hl) h0
  refine ⟨acc, ρb, ?_, hI⟩
  unfold fLc
  rw [hit, bind_ok, if_pos hn, e, bindN_ok]
def stepO (o : Option En) [k : Ke SR] : SR := match o with
  | some ρ => k.run ρ
  | none => .stuck
@[simp] theorem stepO_some {ρ : En} {k : Ke SR} : stepO (some ρ) (k := k) = k.run ρ := (rfl)
theorem forL_c {t : D → En → Option En} {g : G} {d : D} {ds : List D} {ρ : En} : forL t g (d :: ds) ρ = stepO (t d ρ) (k := ⟨fun ρ1 => (g ρ1).loop (forL t g ds)⟩) := by
  cases e : t d ρ with
  | none => rw [forL, e]; rfl
  | some ρ1 => rw [forL_cons e, stepO_some]; rfl
/-! ranges -/
def range1 (d : D) (ρ : En) : R (List D) := match d with
  | .int j => if -(2 ^ 62) ≤ j ∧ j < 2 ^ 62 then .ok (intsL 0 j.toNat) ρ else .stuck
  | _ => .stuck
theorem range1_nat {n : Nat} {ρ : En} (h : n ≤ 1000000) : range1 (.int n) ρ = .ok ((List.range n).map fun k => .int (k : Nat)) ρ := by
  unfold range1
  dsimp only
  rw [if_pos (by omega)]
  unfold intsL
  simp
theorem range1_int {n : Int} {ρ : En} (h0 : n ≤ 1000000) (h : -1000000 ≤ n) : range1 (.int n) ρ = .ok ((List.range n.toNat).map fun k => .int (k : Nat)) ρ := by
  unfold range1
  dsimp only
  rw [if_pos (by omega)]
  unfold intsL
  simp
@[simp] theorem e_range1 {a : F} {ρ : En} : fRange1 (fCons a fNil) ρ = (a ρ).bind range1 := by
  unfold fRange1 fCons
  cases a ρ with
  | ok x ρ1 => cases x <;> rfl
  | _ => rfl
def range2 (d e : D) (ρ : En) : R (List D) := match d, e with
  | .int i, .int j => if -(2 ^ 62) ≤ i ∧ i < 2 ^ 62 ∧ -(2 ^ 62) ≤ j ∧ j < 2 ^ 62 then .ok (intsL i (j - i).toNat) ρ else .stuck
  | _, _ => .stuck
theorem range2_int {m n : Int} {ρ : En} (h : -1000000 ≤ m ∧ m ≤ 1000000 ∧ -1000000 ≤ n ∧ n ≤ 1000000) : range2 (.int m) (.int n) ρ = .ok ((List.range (n - m).toNat).map fun k => .int (m + (k : Nat))) ρ := by
  unfold range2
  dsimp only
  rw [if_pos (by omega)]
  rfl
theorem raw_range2 {a b : F} {ρ : En} : fRange2 (fCons a (fCons b fNil)) ρ = (a ρ).bind fun x ρ1 => (b ρ1).bind fun y ρ2 => range2 x y ρ2 := by
  unfold fRange2 fCons
  cases a ρ with
  | ok x ρ1 =>
    dsimp only [R.bind]
    cases b ρ1 with
    | ok y ρ2 =>
      dsimp only [R.bind, fNil]
      cases x <;> cases y <;> rfl
    | _ => rfl
  | _ => rfl
@[simp] theorem e_range2 {a b : F} {ρ : En} : fRange2 (fCons a (fCons b fNil)) ρ = bnd (a ρ) (k := ⟨fun x ρ1 => bnd (b ρ1) (k := ⟨fun y ρ2 => range2 x y ρ2⟩)⟩) := raw_range2
def zip2 (a b : D) (ρ : En) : R (List D) := match seqOf a, seqOf b with
  | some xs, some ys => .ok ((pairs xs ys).map .tup) ρ
  | _, _ => .stuck
theorem zip2_at {a b : D} {xs ys : List D} {ρ : En} (h : seqOf a = some xs) (h2 : seqOf b = some ys) : zip2 a b ρ = .ok ((pairs xs ys).map .tup) ρ := by
  unfold zip2
  rw [h, h2]
theorem raw_zip2 {a b : F} {ρ : En} : fZip2 (fCons a (fCons b fNil)) ρ = (a ρ).bind fun x ρ1 => (b ρ1).bind fun y ρ2 => zip2 x y ρ2 := by
  unfold fZip2 fCons
  cases a ρ with
  | ok x ρ1 =>
    dsimp only [R.bind]
    cases b ρ1 with
    | ok y ρ2 =>
      dsimp only [R.bind, fNil, zip2]
      all_goals (rcases seqOf x with _ | xs; rfl; cases seqOf y <;> rfl)
    | _ => rfl
  | _ => rfl
@[simp] theorem e_zip2 {a b : F} {ρ : En} : fZip2 (fCons a (fCons b fNil)) ρ = bnd (a ρ) (k := ⟨fun x ρ1 => bnd (b ρ1) (k := ⟨fun y ρ2 => zip2 x y ρ2⟩)⟩) := raw_zip2
def enumF : Nat → List D → List D
  | _, [] => []
  | k, x :: xs => .tup [.int k, x] :: enumF (k + 1) xs
theorem enumF_eq (k : Nat) (xs : List D) : enumF k xs = ((List.range' k xs.length).zipWith (fun i x => [D.int (i : Nat), x]) xs).map .tup := by
  induction xs generalizing k with
  | nil => rfl
  | cons x xs ih =>
    rw [enumF, ih, List.length_cons, List.range'_succ]
    rfl
theorem count_enum (xs : List D) : (countD xs).map .tup = enumF 0 xs := by
  rw [enumF_eq]
  unfold countD
  rw [List.range_eq_range']
def enum1 (a : D) (ρ : En) : R (List D) := match seqOf a with
  | some xs => .ok (enumF 0 xs) ρ
  | _ => .stuck
theorem enum1_at {a : D} {xs : List D} {ρ : En} (h : seqOf a = some xs) : enum1 a ρ = .ok (enumF 0 xs) ρ := by
  unfold enum1
  rw [h]
@[simp] theorem e_enum {a : F} {ρ : En} : fEnum (fCons a fNil) ρ = (a ρ).bind enum1 := by
  unfold fEnum fCons
  cases a ρ with
  | ok x ρ1 =>
    dsimp only [R.bind, fNil]
    unfold enum1
    cases seqOf x with
    | none => rfl
    | some xs => dsimp only; rw [← count_enum]
  | _ => rfl
@[simp] theorem wipe_cons {ρ : En} {v : Nat} {vs : List Nat} : wipeE ρ (v :: vs) = (wipeE ρ vs).set v none := (rfl)
@[simp] theorem wipe_nil {ρ : En} : wipeE ρ [] = ρ := (rfl)
end DL

set_option Elab.async false
set_option linter.all false
set_option maxRecDepth 100000
set_option autoImplicit false
/-! PE: == and in, by data. -/
namespace DL
open PySem PySem.Spec PyProof.Rows L2

mutual
def good : Nat → D → Bool
  | _, .non => true
  | _, .bl _ => true
  | _, .int _ => true
  | _, .str s => PyData.strOk s
  | 0, .lst _ => false
  | 0, .slst _ => false
  | 0, .tup _ => false
  | n + 1, .lst xs => goodL n xs
  | n + 1, .slst xs => goodL n xs
  | n + 1, .tup xs => goodL n xs
  | _, .ins _ _ => false
def goodL : Nat → List D → Bool
  | _, [] => true
  | n, x :: xs => good n x && goodL n xs
end
mutual
def eqF : D → D → Bool
  | .non, .non => true
  | .bl a, .bl b => a == b
  | .bl a, .int j => (if a then 1 else 0) == j
  | .int i, .bl b => i == (if b then 1 else 0)
  | .int i, .int j => i == j
  | .str x, .str y => x == y
  | .lst xs, .lst ys => eqFL xs ys
  | .lst xs, .slst ys => eqFL xs ys
  | .slst xs, .lst ys => eqFL xs ys
  | .slst xs, .slst ys => eqFL xs ys
  | .tup xs, .tup ys => eqFL xs ys
  | _, _ => false
def eqFL : List D → List D → Bool
  | [], [] => true
  | x :: xs, y :: ys => eqF x y && eqFL xs ys
  | [], _ :: _ => false
  | _ :: _, [] => false
end
mutual
theorem good_py : ∀ (d : D) (n : Nat), good n d = true → ∃ p, d.py = some p ∧ p.canLay0 = true ∧ p.depth ≤ n
  | .non, n, _ => ⟨.none, rfl, by simp [PyData.canLay0], by simp [PyData.depth]⟩
  | .bl b, n, _ => ⟨.bool b, rfl, by simp [PyData.canLay0], by simp [PyData.depth]⟩
  | .int b, n, _ => ⟨.int b, rfl, by simp [PyData.canLay0], by simp [PyData.depth]⟩
  | .str b, n, h => ⟨.str b, rfl, by simpa [PyData.canLay0, good] using h, by simp [PyData.depth]⟩
  | .lst xs, 0, h => by simp [good] at h
  | .slst xs, 0, h => by simp [good] at h
  | .tup xs, 0, h => by simp [good] at h
  | .lst xs, n + 1, h => by
    obtain ⟨ps, e, a, b⟩ := goodL_py xs n (by simpa [good] using h)
    exact ⟨.list ps, by show (pyAll xs).map PyData.list = _; rw [e]; rfl, by simpa [PyData.canLay0] using a, by simp [PyData.depth]; omega⟩
  | .slst xs, n + 1, h => by
    obtain ⟨ps, e, a, b⟩ := goodL_py xs n (by simpa [good] using h)
    exact ⟨.list ps, by show (pyAll xs).map PyData.list = _; rw [e]; rfl, by simpa [PyData.canLay0] using a, by simp [PyData.depth]; omega⟩
  | .tup xs, n + 1, h => by
    obtain ⟨ps, e, a, b⟩ := goodL_py xs n (by simpa [good] using h)
    exact ⟨.tuple ps, by show (pyAll xs).map PyData.tuple = _; rw [e]; rfl, by simpa [PyData.canLay0] using a, by simp [PyData.depth]; omega⟩
  | .ins _ _, n, h => by simp [good] at h
theorem goodL_py : ∀ (xs : List D) (n : Nat), goodL n xs = true → ∃ ps, pyAll xs = some ps ∧ PyData.canLayAll0 ps = true ∧ PyData.depthAll ps ≤ n
  | [], n, _ => ⟨[], rfl, by simp [PyData.canLayAll0], by simp [PyData.depthAll]⟩
  | x :: xs, n, h => by
    have h : good n x = true ∧ goodL n xs = true := by simpa [goodL] using h
    obtain ⟨p, e, a, b⟩ := good_py x n h.1
    obtain ⟨ps, e2, a2, b2⟩ := goodL_py xs n h.2
    refine ⟨p :: ps, ?_, by simp [PyData.canLayAll0, a, a2], by simp only [PyData.depthAll]; omega⟩
    show (match x.py, pyAll xs with | some p, some ps => some (p :: ps) | _, _ => none) = _
    rw [e, e2]
end
theorem py_seq {f : List PyData → PyData} {xs : List D} {p : PyData} (h : (pyAll xs).map f = some p) : ∃ ps, pyAll xs = some ps ∧ p = f ps := by
  cases e : pyAll xs with
  | none => rw [e] at h; cases h
  | some ps => rw [e] at h; cases h; exact ⟨ps, rfl, rfl⟩
mutual
theorem eqF_py : ∀ (a b : D) (p q : PyData), a.py = some p → b.py = some q → PyData.eqv p q = eqF a b
  | .lst xs, .lst ys, p, q, h, h2 => by
    obtain ⟨ps, e, rfl⟩ := py_seq (f := PyData.list) h
    obtain ⟨qs, e2, rfl⟩ := py_seq (f := PyData.list) h2
    simp only [PyData.eqv, eqF]
    exact eqFL_py xs ys ps qs e e2
  | .lst xs, .slst ys, p, q, h, h2 => by
    obtain ⟨ps, e, rfl⟩ := py_seq (f := PyData.list) h
    obtain ⟨qs, e2, rfl⟩ := py_seq (f := PyData.list) h2
    simp only [PyData.eqv, eqF]
    exact eqFL_py xs ys ps qs e e2
  | .slst xs, .lst ys, p, q, h, h2 => by
    obtain ⟨ps, e, rfl⟩ := py_seq (f := PyData.list) h
    obtain ⟨qs, e2, rfl⟩ := py_seq (f := PyData.list) h2
    simp only [PyData.eqv, eqF]
    exact eqFL_py xs ys ps qs e e2
  | .slst xs, .slst ys, p, q, h, h2 => by
    obtain ⟨ps, e, rfl⟩ := py_seq (f := PyData.list) h
    obtain ⟨qs, e2, rfl⟩ := py_seq (f := PyData.list) h2
    simp only [PyData.eqv, eqF]
    exact eqFL_py xs ys ps qs e e2
  | .tup xs, .tup ys, p, q, h, h2 => by
    obtain ⟨ps, e, rfl⟩ := py_seq (f := PyData.tuple) h
    obtain ⟨qs, e2, rfl⟩ := py_seq (f := PyData.tuple) h2
    simp only [PyData.eqv, eqF]
    exact eqFL_py xs ys ps qs e e2
  | .ins _ _, _, p, q, h, h2 => by cases h
  | .non, b, p, q, h, h2 => by
    cases h
    cases b with
    | lst ys => obtain ⟨qs, e2, rfl⟩ := py_seq (f := PyData.list) h2; simp only [PyData.eqv, eqF]
    | slst ys => obtain ⟨qs, e2, rfl⟩ := py_seq (f := PyData.list) h2; simp only [PyData.eqv, eqF]
    | tup ys => obtain ⟨qs, e2, rfl⟩ := py_seq (f := PyData.tuple) h2; simp only [PyData.eqv, eqF]
    | ins _ _ => cases h2
    | _ => cases h2; simp only [PyData.eqv, eqF]
  | .bl _, b, p, q, h, h2 => by
    cases h
    cases b with
    | lst ys => obtain ⟨qs, e2, rfl⟩ := py_seq (f := PyData.list) h2; simp only [PyData.eqv, eqF]
    | slst ys => obtain ⟨qs, e2, rfl⟩ := py_seq (f := PyData.list) h2; simp only [PyData.eqv, eqF]
    | tup ys => obtain ⟨qs, e2, rfl⟩ := py_seq (f := PyData.tuple) h2; simp only [PyData.eqv, eqF]
    | ins _ _ => cases h2
    | _ => cases h2; simp only [PyData.eqv, eqF]
  | .int _, b, p, q, h, h2 => by
    cases h
    cases b with
    | lst ys => obtain ⟨qs, e2, rfl⟩ := py_seq (f := PyData.list) h2; simp only [PyData.eqv, eqF]
    | slst ys => obtain ⟨qs, e2, rfl⟩ := py_seq (f := PyData.list) h2; simp only [PyData.eqv, eqF]
    | tup ys => obtain ⟨qs, e2, rfl⟩ := py_seq (f := PyData.tuple) h2; simp only [PyData.eqv, eqF]
    | ins _ _ => cases h2
    | _ => cases h2; simp only [PyData.eqv, eqF]
  | .str _, b, p, q, h, h2 => by
    cases h
    cases b with
    | lst ys => obtain ⟨qs, e2, rfl⟩ := py_seq (f := PyData.list) h2; simp only [PyData.eqv, eqF]
    | slst ys => obtain ⟨qs, e2, rfl⟩ := py_seq (f := PyData.list) h2; simp only [PyData.eqv, eqF]
    | tup ys => obtain ⟨qs, e2, rfl⟩ := py_seq (f := PyData.tuple) h2; simp only [PyData.eqv, eqF]
    | ins _ _ => cases h2
    | _ => cases h2; simp only [PyData.eqv, eqF]
  | .lst xs, b, p, q, h, h2 => by
    cases b with
    | tup ys => obtain ⟨ps, e, rfl⟩ := py_seq (f := PyData.list) h; obtain ⟨qs, e2, rfl⟩ := py_seq (f := PyData.tuple) h2; simp only [PyData.eqv, eqF]
    | ins _ _ => cases h2
    | lst ys =>
      obtain ⟨ps, e, rfl⟩ := py_seq (f := PyData.list) h
      obtain ⟨qs, e2, rfl⟩ := py_seq (f := PyData.list) h2
      simp only [PyData.eqv, eqF]
      exact eqFL_py xs ys ps qs e e2
    | slst ys =>
      obtain ⟨ps, e, rfl⟩ := py_seq (f := PyData.list) h
      obtain ⟨qs, e2, rfl⟩ := py_seq (f := PyData.list) h2
      simp only [PyData.eqv, eqF]
      exact eqFL_py xs ys ps qs e e2
    | _ => obtain ⟨ps, e, rfl⟩ := py_seq (f := PyData.list) h; cases h2; simp only [PyData.eqv, eqF]
  | .slst xs, b, p, q, h, h2 => by
    cases b with
    | tup ys => obtain ⟨ps, e, rfl⟩ := py_seq (f := PyData.list) h; obtain ⟨qs, e2, rfl⟩ := py_seq (f := PyData.tuple) h2; simp only [PyData.eqv, eqF]
    | ins _ _ => cases h2
    | lst ys =>
      obtain ⟨ps, e, rfl⟩ := py_seq (f := PyData.list) h
      obtain ⟨qs, e2, rfl⟩ := py_seq (f := PyData.list) h2
      simp only [PyData.eqv, eqF]
      exact eqFL_py xs ys ps qs e e2
    | slst ys =>
      obtain ⟨ps, e, rfl⟩ := py_seq (f := PyData.list) h
      obtain ⟨qs, e2, rfl⟩ := py_seq (f := PyData.list) h2
      simp only [PyData.eqv, eqF]
      exact eqFL_py xs ys ps qs e e2
    | _ => obtain ⟨ps, e, rfl⟩ := py_seq (f := PyData.list) h; cases h2; simp only [PyData.eqv, eqF]
  | .tup xs, b, p, q, h, h2 => by
    cases b with
    | lst ys => obtain ⟨ps, e, rfl⟩ := py_seq (f := PyData.tuple) h; obtain ⟨qs, e2, rfl⟩ := py_seq (f := PyData.list) h2; simp only [PyData.eqv, eqF]
    | slst ys => obtain ⟨ps, e, rfl⟩ := py_seq (f := PyData.tuple) h; obtain ⟨qs, e2, rfl⟩ := py_seq (f := PyData.list) h2; simp only [PyData.eqv, eqF]
    | ins _ _ => cases h2
    | tup ys =>
      obtain ⟨ps, e, rfl⟩ := py_seq (f := PyData.tuple) h
      obtain ⟨qs, e2, rfl⟩ := py_seq (f := PyData.tuple) h2
      simp only [PyData.eqv, eqF]
      exact eqFL_py xs ys ps qs e e2
    | _ => obtain ⟨ps, e, rfl⟩ := py_seq (f := PyData.tuple) h; cases h2; simp only [PyData.eqv, eqF]
theorem eqFL_py : ∀ (xs ys : List D) (ps qs : List PyData), pyAll xs = some ps → pyAll ys = some qs → PyData.eqvAll ps qs = eqFL xs ys
  | [], [], ps, qs, h, h2 => by cases h; cases h2; simp only [PyData.eqvAll, eqFL]
  | [], y :: ys, ps, qs, h, h2 => by
    cases h
    have h2 : (match y.py, pyAll ys with | some p, some ps => some (p :: ps) | _, _ => none) = some qs := h2
    cases e : y.py with
    | none => rw [e] at h2; cases h2
    | some q => cases e2 : pyAll ys with
      | none => rw [e, e2] at h2; cases h2
      | some qs' => rw [e, e2] at h2; cases h2; simp only [PyData.eqvAll, eqFL]
  | y :: ys, [], ps, qs, h2, h => by
    cases h
    have h2 : (match y.py, pyAll ys with | some p, some ps => some (p :: ps) | _, _ => none) = some ps := h2
    cases e : y.py with
    | none => rw [e] at h2; cases h2
    | some q => cases e2 : pyAll ys with
      | none => rw [e, e2] at h2; cases h2
      | some qs' => rw [e, e2] at h2; cases h2; simp only [PyData.eqvAll, eqFL]
  | x :: xs, y :: ys, ps, qs, h, h2 => by
    have h : (match x.py, pyAll xs with | some p, some ps => some (p :: ps) | _, _ => none) = some ps := h
    have h2 : (match y.py, pyAll ys with | some p, some ps => some (p :: ps) | _, _ => none) = some qs := h2
    cases e : x.py with
    | none => rw [e] at h; cases h
    | some p => cases e2 : pyAll xs with
      | none => rw [e, e2] at h; cases h
      | some ps' =>
        rw [e, e2] at h; cases h
        cases e3 : y.py with
        | none => rw [e3] at h2; cases h2
        | some q => cases e4 : pyAll ys with
          | none => rw [e3, e4] at h2; cases h2
          | some qs' =>
            rw [e3, e4] at h2; cases h2
            simp only [PyData.eqvAll, eqFL]
            rw [eqF_py x y p q e e3, eqFL_py xs ys ps' qs' e2 e4]
end
theorem eqv_good {a b : D} (h : good 64 a = true) (h2 : good 64 b = true) : eqvD a b = some (eqF a b) := by
  obtain ⟨p, e, l, d⟩ := good_py a 64 h
  obtain ⟨q, e2, l2, d2⟩ := good_py b 64 h2
  unfold eqvD
  rw [e, e2]
  dsimp only
  have s1 : SeqAt.shaped p = true := by unfold SeqAt.shaped; rw [l, decide_eq_true d]; rfl
  have s2 : SeqAt.shaped q = true := by unfold SeqAt.shaped; rw [l2, decide_eq_true d2]; rfl
  rw [s1, s2, Bool.and_self, if_pos rfl, eqF_py a b p q e e2]
/-! rows -/
section
variable {n : Nat} {xs ys : List D}
@[simp] theorem good_non : good n .non = true := by simp only [good]
@[simp] theorem good_bl {b : Bool} : good n (.bl b) = true := by simp only [good]
@[simp] theorem good_int {b : Int} : good n (.int b) = true := by simp only [good]
@[simp] theorem good_str {b : Str} : good n (.str b) = PyData.strOk b := by simp only [good]
@[simp] theorem good_lst : good (n + 1) (.lst xs) = goodL n xs := by simp only [good]
@[simp] theorem good_slst : good (n + 1) (.slst xs) = goodL n xs := by simp only [good]
@[simp] theorem good_tup : good (n + 1) (.tup xs) = goodL n xs := by simp only [good]
@[simp] theorem goodL_nil : goodL n [] = true := by simp only [goodL]
@[simp] theorem goodL_cons {x : D} : goodL n (x :: xs) = (good n x && goodL n xs) := by simp only [goodL]
theorem goodL_all (h : ∀ x ∈ xs, good n x = true) : goodL n xs = true := by
  induction xs with
  | nil => exact goodL_nil
  | cons x xs ih => rw [goodL_cons, h x List.mem_cons_self, ih fun y hy => h y (List.mem_cons_of_mem _ hy)]; rfl
@[simp] theorem goodL_app : goodL n (xs ++ ys) = (goodL n xs && goodL n ys) := by
  induction xs with
  | nil => simp
  | cons x xs ih => simp [ih, Bool.and_assoc]
@[simp] theorem goodL_map {α : Type} {f : α → D} {as : List α} : goodL n (as.map f) = as.all fun a => good n (f a) := by
  induction as with
  | nil => simp
  | cons x xs ih => simp [ih]
@[simp] theorem good_ti {ws : List Int} : good (n + 1) (ti ws) = true := by
  unfold ti
  simp
@[simp] theorem good_tl {ws : List Int} : good (n + 1) (tl ws) = true := by
  unfold tl
  simp
@[simp] theorem eqv_g {a b : D} (h : good 64 a = true) (h2 : good 64 b = true) : eqvD a b = some (eqF a b) := eqv_good h h2
@[simp] theorem eqF_int {i j : Int} : eqF (.int i) (.int j) = decide (i = j) := by
  simp only [eqF]
  by_cases e : i = j <;> simp [e]
@[simp] theorem eqF_bl {i j : Bool} : eqF (.bl i) (.bl j) = decide (i = j) := by
  simp only [eqF]
  cases i <;> cases j <;> rfl
@[simp] theorem eqF_str {i j : Str} : eqF (.str i) (.str j) = decide (i = j) := by
  simp only [eqF]
  by_cases e : i = j <;> simp [e]
@[simp] theorem eqF_nn : eqF .non .non = true := by simp only [eqF]
@[simp] theorem eqF_tt : eqF (.tup xs) (.tup ys) = eqFL xs ys := by simp only [eqF]
@[simp] theorem eqF_ll : eqF (.lst xs) (.lst ys) = eqFL xs ys := by simp only [eqF]
@[simp] theorem eqF_tl : eqF (.tup xs) (.lst ys) = false := by simp only [eqF]
@[simp] theorem eqF_lt : eqF (.lst xs) (.tup ys) = false := by simp only [eqF]
@[simp] theorem eqF_ni {i : Int} : eqF .non (.int i) = false := by simp only [eqF]
@[simp] theorem eqF_in {i : Int} : eqF (.int i) .non = false := by simp only [eqF]
@[simp] theorem eqF_nt : eqF .non (.tup xs) = false := by simp only [eqF]
@[simp] theorem eqF_tn : eqF (.tup xs) .non = false := by simp only [eqF]
@[simp] theorem eqF_nl : eqF .non (.lst xs) = false := by simp only [eqF]
@[simp] theorem eqF_ln : eqF (.lst xs) .non = false := by simp only [eqF]
@[simp] theorem eqF_il {i : Int} : eqF (.int i) (.lst xs) = false := by simp only [eqF]
@[simp] theorem eqF_it {i : Int} : eqF (.int i) (.tup xs) = false := by simp only [eqF]
@[simp] theorem eqF_li {i : Int} : eqF (.lst xs) (.int i) = false := by simp only [eqF]
@[simp] theorem eqF_ti' {i : Int} : eqF (.tup xs) (.int i) = false := by simp only [eqF]
@[simp] theorem eqF_ib {i : Int} {b : Bool} : eqF (.int i) (.bl b) = decide (i = if b then 1 else 0) := by
  simp only [eqF]
  cases b <;> rfl
@[simp] theorem eqF_is {i : Int} {s : Str} : eqF (.int i) (.str s) = false := by simp only [eqF]
@[simp] theorem eqF_si {i : Int} {s : Str} : eqF (.str s) (.int i) = false := by simp only [eqF]
@[simp] theorem eqFL_nil : eqFL [] [] = true := by simp only [eqFL]
@[simp] theorem eqFL_cons {x y : D} : eqFL (x :: xs) (y :: ys) = (eqF x y && eqFL xs ys) := by simp only [eqFL]
@[simp] theorem eqFL_nc {y : D} : eqFL [] (y :: ys) = false := by simp only [eqFL]
@[simp] theorem eqFL_cn {y : D} : eqFL (y :: ys) [] = false := by simp only [eqFL]
@[simp] theorem eqFL_ints {xs ys : List Int} : eqFL (xs.map D.int) (ys.map D.int) = decide (xs = ys) := by
  induction xs generalizing ys with
  | nil => cases ys <;> simp
  | cons x xs ih =>
    cases ys with
    | nil => simp
    | cons y ys =>
      simp [ih]
@[simp] theorem eqF_titi {xs ys : List Int} : eqF (ti xs) (ti ys) = decide (xs = ys) := by
  unfold ti
  rw [eqF_tt, eqFL_ints]
@[simp] theorem eqF_til {xs : List Int} {ys : List D} : eqF (ti xs) (.lst ys) = false := by
  unfold ti
  rw [eqF_tl]
@[simp] theorem eqF_lti {xs : List Int} {ys : List D} : eqF (.lst ys) (ti xs) = false := by
  unfold ti
  rw [eqF_lt]
mutual
theorem eqF_refl : ∀ (d : D) (n : Nat), good n d = true → eqF d d = true
  | .non, _, _ => by simp
  | .bl _, _, _ => by simp
  | .int _, _, _ => by simp
  | .str _, _, _ => by simp
  | .lst xs, 0, h => by simp [good] at h
  | .slst xs, 0, h => by simp [good] at h
  | .tup xs, 0, h => by simp [good] at h
  | .lst xs, n + 1, h => by rw [eqF_ll]; exact eqFL_refl xs n (by simpa using h)
  | .slst xs, n + 1, h => by simp only [eqF]; exact eqFL_refl xs n (by simpa using h)
  | .tup xs, n + 1, h => by rw [eqF_tt]; exact eqFL_refl xs n (by simpa using h)
  | .ins _ _, _, h => by simp [good] at h
theorem eqFL_refl : ∀ (ds : List D) (n : Nat), goodL n ds = true → eqFL ds ds = true
  | [], _, _ => eqFL_nil
  | x :: xs, n, h => by
    have h : good n x = true ∧ goodL n xs = true := by simpa using h
    rw [eqFL_cons, eqF_refl x n h.1, eqFL_refl xs n h.2]
    rfl
end
/-! in -/
theorem in_flat {neg : Bool} {a b : D} (h : seqOf b = some xs) (f : flatD a = true) (g : xs.all flatD = true) : inA neg a b = some (.bl (if neg = true then !(xs.any fun y => eqF y a) else xs.any fun y => eqF y a)) := by
  have e : inF neg a b = some (.bl (if neg = true then !(xs.any fun y => eqFl y a) else xs.any fun y => eqFl y a)) := by
    unfold inF
    rw [h]
    dsimp only
    rw [f, g, Bool.and_self, if_pos rfl]
  have e2 : ∀ y ∈ xs, eqFl y a = eqF y a := fun y hy => by
    have := List.all_eq_true.mp g y hy
    cases y <;> cases a <;> first | (cases f; done) | (cases this; done) | (simp only [eqFl, eqF])
  have e3 : (xs.any fun y => eqFl y a) = xs.any fun y => eqF y a := by
    rw [Bool.eq_iff_iff, List.any_eq_true, List.any_eq_true]
    exact ⟨fun ⟨y, hy, q⟩ => ⟨y, hy, (e2 y hy) ▸ q⟩, fun ⟨y, hy, q⟩ => ⟨y, hy, (e2 y hy).symm ▸ q⟩⟩
  unfold inA alt2
  rw [e, e3]
theorem any_py {a : D} {p : PyData} (ea : a.py = some p) : ∀ {xs : List D} {ps : List PyData}, pyAll xs = some ps → (ps.any fun z => PyData.eqv z p) = xs.any fun y => eqF y a
  | [], ps, h => by cases h; rfl
  | x :: xs, ps, h => by
    have h : (match x.py, pyAll xs with | some p, some ps => some (p :: ps) | _, _ => none) = some ps := h
    cases e : x.py with
    | none => rw [e] at h; cases h
    | some p => cases e2 : pyAll xs with
      | none => rw [e, e2] at h; cases h
      | some ps' =>
        rw [e, e2] at h; cases h
        rw [List.any_cons, List.any_cons, eqF_py x a _ _ e ea, any_py ea e2]
theorem in_deep {neg : Bool} {a : D} (h : good 64 a = true) (f : flatD a = false) (g : goodL 63 xs = true) : inA neg a (.lst xs) = some (.bl (if neg = true then !(xs.any fun y => eqF y a) else xs.any fun y => eqF y a)) := by
  have e : inF neg a (.lst xs) = none := by
    unfold inF
    dsimp only [seqOf]
    rw [f]
    rfl
  obtain ⟨p, ep, l, d⟩ := good_py a 64 h
  obtain ⟨qs, eq, l2, d2⟩ := goodL_py xs 63 g
  have s1 : SeqAt.shaped p = true := by unfold SeqAt.shaped; rw [l, decide_eq_true d]; rfl
  have s2 : SeqAt.shaped (.list qs) = true := by unfold SeqAt.shaped; simp only [PyData.canLay0, PyData.depth, l2]; simp; omega
  have ex : (D.lst xs).py = some (.list qs) := by show (pyAll xs).map PyData.list = _; rw [eq]; rfl
  have e2 : inDp neg a (.lst xs) = some (.bl (if neg = true then !(xs.any fun y => eqF y a) else xs.any fun y => eqF y a)) := by
    unfold inDp
    rw [ep, ex]
    dsimp only
    rw [s1, s2, Bool.and_self, if_pos rfl, any_py ep eq]
  unfold inA alt2
  rw [e, e2]
end
end DL
namespace DL
open PySem PySem.Spec PyProof.Rows L2
@[simp] theorem strOk_lit {s : String} : PyData.strOk (Str.ofString s) = true := by
  rw [Str.ofString_eq_toList]
  unfold PyData.strOk
  rw [Array.all_eq_true_iff_forall_mem]
  intro x hx
  rw [List.mem_toArray, List.mem_map] at hx
  obtain ⟨c, _, rfl⟩ := hx
  have := c.valid
  unfold UInt32.isValidChar Nat.isValidChar at this
  have e : c.toNat = c.val.toNat := rfl
  rw [e]
  exact decide_eq_true (by omega)
theorem toNats_inj : ∀ (a b : List Char), a.map Char.toNat = b.map Char.toNat → a = b
  | [], [], _ => rfl
  | [], _ :: _, h => nomatch h
  | _ :: _, [], h => nomatch h
  | x :: a, y :: b, h => by
    rw [List.map_cons, List.map_cons, List.cons.injEq] at h
    rw [toNats_inj a b h.2, Char.toNat_inj.mp h.1]
@[simp] theorem ofString_inj {s t : String} : Str.ofString s = Str.ofString t ↔ s = t := by
  refine ⟨fun h => ?_, fun h => h ▸ rfl⟩
  rw [Str.ofString_eq_toList, Str.ofString_eq_toList] at h
  have h2 : (s.toList.map Char.toNat).toArray = (t.toList.map Char.toNat).toArray := congrArg Str.cps h
  have h3 := toNats_inj _ _ (congrArg Array.toList h2)
  exact String.toList_inj.mp h3
end DL

set_option Elab.async false
set_option linter.all false
set_option maxRecDepth 100000
set_option maxHeartbeats 2000000
namespace K07
open PySem PySem.Spec PyProof.Rows L2 DL
def topS (i : Nat) : Stmt := PySem.Challenge.pw_hushedwires_k07_whole_products_form_a_gr.main.body.getD i (.Pass ⟨0, 0, 0, 0⟩)
def clsBody : Stmt → List Stmt
  | .ClassDef (body := b) .. => b
  | _ => []
abbrev si_BadWord : Stmt := (clsBody (topS 2)).getD 0 (.Pass ⟨0, 0, 0, 0⟩)
def cat_BadWord (c : Str) : Option Bool := if c = "BadWord" then some true else none
abbrev s__law_hand : Stmt := topS 14
abbrev N__law_hand : List Str := ["_law_script", "_law_total", "_law_cells", "_law_cell"]
abbrev P__law_hand : List Str := ["_law_script"]
theorem sc__law_hand : FnScope N__law_hand P__law_hand (defScope s__law_hand) := ⟨rfl, rfl, rfl, by decide +kernel, rfl, by decide +kernel, by decide +kernel⟩
def g__law_hand : G :=
  (gSeq (gSet 1 (f2 addD (fB lenD (fCons (fVar 0) fNil)) (fC (.int 31))))
    (gSeq (gOwn 2 (fDisp fNil))
    (gSeq (gFor (fIt (fVar 0)) (tgName 3) (gSeq (gSet 1 (f2 modI (fB int1D (fCons (f2 addD (f2 mulD (fVar 1) (fC (.int 1019))) (fB int1D (fCons (fVar 3) fNil))) fNil)) (fC (.int 2147483629))))
    (gApp 2 (fIf (t2 geI (fVar 3) (fC (.int 0))) (fB int1D (fCons (fVar 3) fNil)) (f1 negI (fB int1D (fCons (fVar 3) fNil)))))))
    (gFrz 2 (gRetn (fDisp (fCons (fVar 2) (fCons (fC (.int 0)) (fCons (fC (.int 0)) (fCons (fVar 1) fNil))))))))))
def m__law_hand : Fn := mkFn g__law_hand (N__law_hand.length - P__law_hand.length)
abbrev s__law_mixed : Stmt := topS 15
abbrev N__law_mixed : List Str := ["_law_number", "_law_turn", "_law_once", "_law_twice"]
abbrev P__law_mixed : List Str := ["_law_number", "_law_turn"]
theorem sc__law_mixed : FnScope N__law_mixed P__law_mixed (defScope s__law_mixed) := ⟨rfl, rfl, rfl, by decide +kernel, rfl, by decide +kernel, by decide +kernel⟩
def g__law_mixed : G :=
  (gSeq (gSet 2 (f2 modI (fB int1D (fCons (f2 addD (f2 addD (f2 mulD (fVar 0) (fC (.int 48271))) (f2 mulD (fVar 1) (fC (.int 7919)))) (fC (.int 65537))) fNil)) (fC (.int 2147483647))))
    (gSeq (gSet 3 (f2 modI (fB int1D (fCons (f2 addD (f2 addD (f2 mulD (fVar 2) (fVar 2)) (f2 mulD (fVar 1) (fC (.int 104729)))) (f2 fdvI (fVar 2) (fC (.int 127)))) fNil)) (fC (.int 2147483629))))
    (gRet (f2 fdvI (fB int1D (fCons (f2 modI (fB int1D (fCons (f2 addD (f2 mulD (fVar 3) (fC (.int 69621))) (f2 fdvI (fVar 2) (fC (.int 5)))) fNil)) (fC (.int 2147483587))) fNil)) (fC (.int 16))))))
def m__law_mixed : Fn := mkFn g__law_mixed (N__law_mixed.length - P__law_mixed.length)
abbrev s__law_take : Stmt := topS 16
abbrev N__law_take : List Str := ["_law_hand_here", "_law_many", "_law_cell", "_law_rest"]
abbrev P__law_take : List Str := ["_law_hand_here", "_law_many"]
theorem sc__law_take : FnScope N__law_take P__law_take (defScope s__law_take) := ⟨rfl, rfl, rfl, by decide +kernel, rfl, by decide +kernel, by decide +kernel⟩
def g__law_take : G :=
  (gSeq (gIf (fAnd (t2 eqD (fIxO 0 (fC (.int 2))) (fC (.int 0))) (t2 ltI (fIxO 0 (fC (.int 1))) (fB lenD (fCons (fIxO 0 (fC (.int 0))) fNil)))) (gSeq (gSet 2 (f2 ixD (fIxO 0 (fC (.int 0))) (fIxO 0 (fC (.int 1)))))
    (gSeq (gSetIx 0 (fC (.int 1)) (f2 addD (fIxO 0 (fC (.int 1))) (fC (.int 1))))
    (gSeq (gIf (t2 ltI (fVar 2) (f2 powI (fC (.int 10)) (fC (.int 18)))) (gRet (f2 modI (fB int1D (fCons (fCall 2 m__law_mixed [] (fCons (f2 modI (fB int1D (fCons (fVar 2) fNil)) (fC (.int 2147483647))) (fCons (fIxO 0 (fC (.int 1))) fNil))) fNil)) (fVar 1))) gNx)
    (gSetIx 0 (fC (.int 2)) (fVar 2))))) gNx)
    (gSeq (gIf (t2 gtI (fIxO 0 (fC (.int 2))) (fC (.int 0))) (gSeq (gSet 3 (fIxO 0 (fC (.int 2))))
    (gSeq (gSetIx 0 (fC (.int 2)) (f2 fdvI (fB int1D (fCons (fVar 3) fNil)) (fVar 1)))
    (gRet (f2 modI (fB int1D (fCons (fVar 3) fNil)) (fVar 1))))) gNx)
    (gSeq (gSetIx 0 (fC (.int 3)) (f2 modI (fB int1D (fCons (f2 addD (fIxO 0 (fC (.int 3))) (fC (.int 1))) fNil)) (fC (.int 2147483629))))
    (gRet (f2 modI (fB int1D (fCons (fCall 2 m__law_mixed [] (fCons (fIxO 0 (fC (.int 3))) (fCons (fIxO 0 (fC (.int 1))) fNil))) fNil)) (fVar 1))))))
def m__law_take : Fn := mkFn g__law_take (N__law_take.length - P__law_take.length)
abbrev s__law_count : Stmt := topS 23
abbrev N__law_count : List Str := ["_law_hand_here"]
abbrev P__law_count : List Str := ["_law_hand_here"]
theorem sc__law_count : FnScope N__law_count P__law_count (defScope s__law_count) := ⟨rfl, rfl, rfl, by decide +kernel, rfl, by decide +kernel, by decide +kernel⟩
def g__law_count : G :=
  (gSeq (gIf (t2 eqD (fCallM 2 m__law_take 0 (fCons (fC (.int 8)) fNil)) (fC (.int 0))) (gRet (f2 addD (fC (.int 9)) (fCallM 2 m__law_take 0 (fCons (fC (.int 16)) fNil)))) gNx)
    (gRet (f2 addD (fC (.int 1)) (fCallM 2 m__law_take 0 (fCons (fC (.int 8)) fNil)))))
def m__law_count : Fn := mkFn g__law_count (N__law_count.length - P__law_count.length)
abbrev s__law_word : Stmt := topS 20
abbrev N__law_word : List Str := ["_law_hand_here", "_law_count_here", "_law_word_here", "_law_k"]
abbrev P__law_word : List Str := ["_law_hand_here", "_law_count_here"]
theorem sc__law_word : FnScope N__law_word P__law_word (defScope s__law_word) := ⟨rfl, rfl, rfl, by decide +kernel, rfl, by decide +kernel, by decide +kernel⟩
def g__law_word : G :=
  (gSeq (gOwn 2 (fDisp (fCons (fC (.int 1)) fNil)))
    (gSeq (gFor (fRange2 (fCons (fC (.int 1)) (fCons (fVar 1) fNil))) (tgName 3) (gApp 2 (f2 subI (fC (.int 1)) (f2 mulD (fC (.int 2)) (fCallM 2 m__law_take 0 (fCons (fC (.int 2)) fNil))))))
    (gFrz 2 (gRet (fB tupleD (fCons (fVar 2) fNil))))))
def m__law_word : Fn := mkFn g__law_word (N__law_word.length - P__law_word.length)
abbrev s__law_built : Stmt := topS 21
abbrev N__law_built : List Str := ["_law_hand_here", "_law_count_here", "_law_half", "_law_quarter", "_law_pick", "_law_sign", "_law_k"]
abbrev P__law_built : List Str := ["_law_hand_here", "_law_count_here"]
theorem sc__law_built : FnScope N__law_built P__law_built (defScope s__law_built) := ⟨rfl, rfl, rfl, by decide +kernel, rfl, by decide +kernel, by decide +kernel⟩
def g__law_built : G :=
  (gSeq (gIf (fOr (t2 ltI (fVar 1) (fC (.int 2))) (fOr (fTru (f2 modI (fB int1D (fCons (fVar 1) fNil)) (fC (.int 2)))) (fTru (fCallM 2 m__law_take 0 (fCons (fC (.int 2)) fNil))))) (gRet (fCallM 2 m__law_word 0 (fCons (fVar 1) fNil))) gNx)
    (gSeq (gSet 2 (fCallM 2 m__law_word 0 (fCons (f2 fdvI (fVar 1) (fC (.int 2))) fNil)))
    (gSeq (gIf (t2 eqD (f2 modI (fB int1D (fCons (fVar 1) fNil)) (fC (.int 4))) (fC (.int 0))) (gSeq (gSet 3 (fCallM 2 m__law_word 0 (fCons (f2 fdvI (fVar 1) (fC (.int 4))) fNil)))
    (gSet 2 (f2 addD (fVar 3) (fB tupleD (fCons (fOfL (fLc (fIt (fVar 3)) [5] (tgName 5) fYes (f1 negI (fVar 5)))) fNil))))) gNx)
    (gSeq (gSet 4 (fCallM 2 m__law_take 0 (fCons (fC (.int 3)) fNil)))
    (gSeq (gIf (t2 eqD (fVar 4) (fC (.int 0))) (gRet (f2 addD (fVar 2) (fB tupleD (fCons (fOfL (fLc (fIt (fVar 2)) [5] (tgName 5) fYes (f1 negI (fVar 5)))) fNil)))) gNx)
    (gSeq (gIf (t2 eqD (fVar 4) (fC (.int 1))) (gRet (fB tupleD (fCons (fOfL (fLc (fRange1 (fCons (fVar 1) fNil)) [6] (tgName 6) fYes (f2 mulD (f2 ixD (fVar 2) (f2 fdvI (fVar 6) (fC (.int 2)))) (f2 subI (fC (.int 1)) (f2 mulD (fC (.int 2)) (f2 modI (fB int1D (fCons (fVar 6) fNil)) (fC (.int 2)))))))) fNil))) gNx)
    (gRet (f2 addD (fVar 2) (fB tupleD (fCons (fOfL (fLc (fRange1 (fCons (fB lenD (fCons (fVar 2) fNil)) fNil)) [6] (tgName 6) fYes (f2 mulD (f2 mulD (f2 ixD (fVar 2) (f2 subI (f2 subI (fB lenD (fCons (fVar 2) fNil)) (fC (.int 1))) (fVar 6))) (f2 subI (fC (.int 1)) (f2 mulD (fC (.int 2)) (fCallM 2 m__law_take 0 (fCons (fC (.int 2)) fNil))))) (f2 ixD (fVar 2) (fC (.int 0)))))) fNil))))))))))
def m__law_built : Fn := mkFn g__law_built (N__law_built.length - P__law_built.length)
abbrev s__check_first : Stmt := topS 9
abbrev N__check_first : List Str := ["signs"]
abbrev P__check_first : List Str := ["signs"]
theorem sc__check_first : FnScope N__check_first P__check_first (defScope s__check_first) := ⟨rfl, rfl, rfl, by decide +kernel, rfl, by decide +kernel, by decide +kernel⟩
def g__check_first : G :=
  (gSeq (gIf (t2 eqD (f2 ixD (fVar 0) (fC (.int 0))) (f1 negI (fC (.int 1)))) (gRaise "BadWord" ["index", "what"] (fCons (fC (.int 0)) (fCons (fC (.str "first")) fNil))) gNx)
    (gRet (fVar 0)))
def m__check_first : Fn := mkFn g__check_first (N__check_first.length - P__check_first.length)
abbrev s_is_row : Stmt := topS 5
abbrev N_is_row : List Str := ["thing", "low", "high"]
abbrev P_is_row : List Str := ["thing", "low", "high"]
theorem sc_is_row : FnScope N_is_row P_is_row (defScope s_is_row) := ⟨rfl, rfl, rfl, by decide +kernel, rfl, by decide +kernel, by decide +kernel⟩
def g_is_row : G :=
  (gRet (vAnd (fIsi2 "list" "tuple" (fVar 0)) (f3 leI leI (fVar 1) (fB lenD (fCons (fVar 0) fNil)) (fVar 2))))
def m_is_row : Fn := mkFn g_is_row (N_is_row.length - P_is_row.length)
abbrev s_is_whole : Stmt := topS 4
abbrev N_is_whole : List Str := ["thing", "low", "high"]
abbrev P_is_whole : List Str := ["thing", "low", "high"]
theorem sc_is_whole : FnScope N_is_whole P_is_whole (defScope s_is_whole) := ⟨rfl, rfl, rfl, by decide +kernel, rfl, by decide +kernel, by decide +kernel⟩
def g_is_whole : G :=
  (gSeq (gIf (fOr (fTru (fIsi "bool" (fVar 0))) (fNot (fTru (fIsi "int" (fVar 0))))) (gRet (fC (.bl false))) gNx)
    (gRet (vAnd (vOr (f2 isN (fVar 1) (fC .non)) (f2 geI (fVar 0) (fVar 1))) (vOr (f2 isN (fVar 2) (fC .non)) (f2 leI (fVar 0) (fVar 2))))))
def m_is_whole : Fn := mkFn g_is_whole (N_is_whole.length - P_is_whole.length)
abbrev s__check_sign_row : Stmt := topS 8
abbrev N__check_sign_row : List Str := ["signs", "low", "high", "index", "sign"]
abbrev P__check_sign_row : List Str := ["signs", "low", "high"]
theorem sc__check_sign_row : FnScope N__check_sign_row P__check_sign_row (defScope s__check_sign_row) := ⟨rfl, rfl, rfl, by decide +kernel, rfl, by decide +kernel, by decide +kernel⟩
def g__check_sign_row : G :=
  (gSeq (gIf (fNot (fTru (fCall 3 m_is_row [] (fCons (fVar 0) (fCons (fVar 1) (fCons (fVar 2) fNil)))))) (gRaise "BadWord" ["index", "what"] (fCons (fC (.int 0)) (fCons (fC (.str "many")) fNil))) gNx)
    (gSeq (gFor (fEnum (fCons (fVar 0) fNil)) (tgTup 2 (tgCons (tgName 3) (tgCons (tgName 4) tgNil))) (gIf (fOr (fNot (fTru (fCall 3 m_is_whole [] (fCons (fVar 4) (fCons (f1 negI (fC (.int 1))) (fCons (fC (.int 1)) fNil)))))) (t2 eqD (fVar 4) (fC (.int 0)))) (gRaise "BadWord" ["index", "what"] (fCons (fVar 3) (fCons (fC (.str "sign")) fNil))) gNx))
    (gRet (fB tupleD (fCons (fVar 0) fNil)))))
def m__check_sign_row : Fn := mkFn g__check_sign_row (N__check_sign_row.length - P__check_sign_row.length)
abbrev s_check_signs : Stmt := topS 10
abbrev N_check_signs : List Str := ["word"]
abbrev P_check_signs : List Str := ["word"]
theorem sc_check_signs : FnScope N_check_signs P_check_signs (defScope s_check_signs) := ⟨rfl, rfl, rfl, by decide +kernel, rfl, by decide +kernel, by decide +kernel⟩
def g_check_signs : G :=
  (gRet (fCall 1 m__check_first [] (fCons (fCall 3 m__check_sign_row [] (fCons (fVar 0) (fCons (fC (.int 1)) (fCons (fC (.int 24)) fNil)))) fNil)))
def m_check_signs : Fn := mkFn g_check_signs (N_check_signs.length - P_check_signs.length)
abbrev s_product_of : Stmt := topS 12
abbrev N_product_of : List Str := ["one", "other", "sign", "against"]
abbrev P_product_of : List Str := ["one", "other"]
theorem sc_product_of : FnScope N_product_of P_product_of (defScope s_product_of) := ⟨rfl, rfl, rfl, by decide +kernel, rfl, by decide +kernel, by decide +kernel⟩
def g_product_of : G :=
  (gSeq (gSet 0 (fCall 1 m_check_signs [] (fCons (fVar 0) fNil)))
    (gSeq (gSet 1 (fCall 1 m_check_signs [] (fCons (fVar 1) fNil)))
    (gSeq (gIf (t2 neD (fB lenD (fCons (fVar 0) fNil)) (fB lenD (fCons (fVar 1) fNil))) (gRaise "BadWord" ["index", "what"] (fCons (fC (.int 0)) (fCons (fC (.str "many")) fNil))) gNx)
    (gRet (fB tupleD (fCons (fOfL (fLc (fZip2 (fCons (fVar 0) (fCons (fVar 1) fNil))) [2, 3] (tgTup 2 (tgCons (tgName 2) (tgCons (tgName 3) tgNil))) fYes (f2 mulD (fVar 2) (fVar 3)))) fNil))))))
def m_product_of : Fn := mkFn g_product_of (N_product_of.length - P_product_of.length)
abbrev s__law_made : Stmt := topS 24
abbrev N__law_made : List Str := ["_law_one", "_law_other", "_law_found", "wrong"]
abbrev P__law_made : List Str := ["_law_one", "_law_other"]
theorem sc__law_made : FnScope N__law_made P__law_made (defScope s__law_made) := ⟨rfl, rfl, rfl, by decide +kernel, rfl, by decide +kernel, by decide +kernel⟩
def g__law_made : G :=
  (gSeq (gTryAs (gSet 2 (fCall 2 m_product_of [] (fCons (fVar 0) (fCons (fVar 1) fNil)))) cat_BadWord 3 (gRet (fLst (fCons (fXf 3 "BadWord" "index") (fCons (fXf 3 "BadWord" "what") fNil)))))
    (gRet (fVar 2)))
def m__law_made : Fn := mkFn g__law_made (N__law_made.length - P__law_made.length)
abbrev s__law_signs : Stmt := topS 19
abbrev N__law_signs : List Str := ["_law_count_here", "_law_number", "_law_k"]
abbrev P__law_signs : List Str := ["_law_count_here", "_law_number"]
theorem sc__law_signs : FnScope N__law_signs P__law_signs (defScope s__law_signs) := ⟨rfl, rfl, rfl, by decide +kernel, rfl, by decide +kernel, by decide +kernel⟩
def g__law_signs : G :=
  (gRet (fB tupleD (fCons (fOfL (fLc (fRange1 (fCons (fVar 0) fNil)) [2] (tgName 2) fYes (fIf (fTru (f2 modI (fB int1D (fCons (f2 shrI (fVar 1) (f2 subI (f2 subI (fVar 0) (fC (.int 1))) (fVar 2))) fNil)) (fC (.int 2)))) (f1 negI (fC (.int 1))) (fC (.int 1))))) fNil)))
def m__law_signs : Fn := mkFn g__law_signs (N__law_signs.length - P__law_signs.length)
abbrev s__law_poles : Stmt := topS 17
abbrev N__law_poles : List Str := ["_law_word_here", "_law_k"]
abbrev P__law_poles : List Str := ["_law_word_here"]
theorem sc__law_poles : FnScope N__law_poles P__law_poles (defScope s__law_poles) := ⟨rfl, rfl, rfl, by decide +kernel, rfl, by decide +kernel, by decide +kernel⟩
def g__law_poles : G :=
  (gRet (fB tupleD (fCons (fOfL (fLc (fRange2 (fCons (fC (.int 1)) (fCons (fB lenD (fCons (fVar 0) fNil)) fNil))) [1] (tgName 1) (t2 neD (f2 ixD (fVar 0) (fVar 1)) (f2 ixD (fVar 0) (f2 subI (fVar 1) (fC (.int 1))))) (fVar 1))) fNil)))
def m__law_poles : Fn := mkFn g__law_poles (N__law_poles.length - P__law_poles.length)
abbrev s__law_is_word : Stmt := topS 22
abbrev N__law_is_word : List Str := ["_law_thing", "_law_many", "_law_one"]
abbrev P__law_is_word : List Str := ["_law_thing", "_law_many"]
theorem sc__law_is_word : FnScope N__law_is_word P__law_is_word (defScope s__law_is_word) := ⟨rfl, rfl, rfl, by decide +kernel, rfl, by decide +kernel, by decide +kernel⟩
def g__law_is_word : G :=
  (gSeq (gIf (fOr (fNot (fTru (fIsi "tuple" (fVar 0)))) (fOr (t2 neD (fB lenD (fCons (fVar 0) fNil)) (fVar 1)) (t2 neD (f2 ixD (fVar 0) (fC (.int 0))) (fC (.int 1))))) (gRet (fC (.bl false))) gNx)
    (gRet (vNotT (fOfL (fLc (fIt (fVar 0)) [2] (tgName 2) (fOr (fTru (fIsi "bool" (fVar 2))) (fOr (fNot (fTru (fIsi "int" (fVar 2)))) (t2 (inA true) (fVar 2) (fTup (fCons (fC (.int 1)) (fCons (f1 negI (fC (.int 1))) fNil)))))) (fC (.int 1)))))))
def m__law_is_word : Fn := mkFn g__law_is_word (N__law_is_word.length - P__law_is_word.length)
abbrev s__law_product : Stmt := topS 18
abbrev N__law_product : List Str := ["_law_one", "_law_other", "_law_k"]
abbrev P__law_product : List Str := ["_law_one", "_law_other"]
theorem sc__law_product : FnScope N__law_product P__law_product (defScope s__law_product) := ⟨rfl, rfl, rfl, by decide +kernel, rfl, by decide +kernel, by decide +kernel⟩
def g__law_product : G :=
  (gRet (fB tupleD (fCons (fOfL (fLc (fRange1 (fCons (fB lenD (fCons (fVar 0) fNil)) fNil)) [2] (tgName 2) fYes (f2 mulD (f2 ixD (fVar 0) (fVar 2)) (f2 ixD (fVar 1) (fVar 2))))) fNil)))
def m__law_product : Fn := mkFn g__law_product (N__law_product.length - P__law_product.length)
abbrev s_crossings_of : Stmt := topS 11
abbrev N_crossings_of : List Str := ["word", "pole"]
abbrev P_crossings_of : List Str := ["word"]
theorem sc_crossings_of : FnScope N_crossings_of P_crossings_of (defScope s_crossings_of) := ⟨rfl, rfl, rfl, by decide +kernel, rfl, by decide +kernel, by decide +kernel⟩
def g_crossings_of : G :=
  (gSeq (gSet 0 (fCall 1 m_check_signs [] (fCons (fVar 0) fNil)))
    (gRet (fB tupleD (fCons (fOfL (fLc (fRange2 (fCons (fC (.int 1)) (fCons (fB lenD (fCons (fVar 0) fNil)) fNil))) [1] (tgName 1) (t2 neD (f2 ixD (fVar 0) (fVar 1)) (f2 ixD (fVar 0) (f2 subI (fVar 1) (fC (.int 1))))) (fVar 1))) fNil))))
def m_crossings_of : Fn := mkFn g_crossings_of (N_crossings_of.length - P_crossings_of.length)
abbrev s__law_couple : Stmt := topS 25
abbrev N__law_couple : List Str := ["_law_one", "_law_other", "_law_many", "_law_found", "_law_first", "_law_second", "_law_due", "_law_pole"]
abbrev P__law_couple : List Str := ["_law_one", "_law_other"]
theorem sc__law_couple : FnScope N__law_couple P__law_couple (defScope s__law_couple) := ⟨rfl, rfl, rfl, by decide +kernel, rfl, by decide +kernel, by decide +kernel⟩
def g__law_couple : G :=
  (gSeq (gSet 2 (fB lenD (fCons (fVar 0) fNil)))
    (gSeq (gSet 3 (fCall 2 m__law_made [] (fCons (fOfL (fListOf (fVar 0))) (fCons (fVar 1) fNil))))
    (gSeq (gIf (fOr (fNot (fTru (fCall 2 m__law_is_word [] (fCons (fVar 3) (fCons (fVar 2) fNil))))) (fOr (t2 neD (fVar 3) (fCall 2 m__law_product [] (fCons (fVar 0) (fCons (fVar 1) fNil)))) (t2 neD (fCall 2 m__law_made [] (fCons (fVar 1) (fCons (fOfL (fListOf (fVar 0))) fNil))) (fVar 3)))) (gRet (fC (.bl false))) gNx)
    (gSeq (gAsg (tgTup 2 (tgCons (tgName 4) (tgCons (tgName 5) tgNil))) (fTup (fCons (fCall 1 m__law_poles [] (fCons (fVar 0) fNil)) (fCons (fCall 1 m__law_poles [] (fCons (fVar 1) fNil)) fNil))))
    (gSeq (gSet 6 (fOfL (fLc (fRange2 (fCons (fC (.int 1)) (fCons (fVar 2) fNil))) [7] (tgName 7) (t2 neD (f2 (inA false) (fVar 7) (fVar 4)) (f2 (inA false) (fVar 7) (fVar 5))) (fVar 7))))
    (gRet (vAnd (f2 eqD (fCall 1 m_crossings_of [] (fCons (fVar 3) fNil)) (fB tupleD (fCons (fVar 6) fNil))) (vAnd (f2 eqD (fCall 2 m__law_made [] (fCons (fVar 3) (fCons (fVar 1) fNil))) (fVar 0)) (f2 eqD (fCall 2 m__law_made [] (fCons (fVar 0) (fCons (fVar 3) fNil))) (fVar 1))))))))))
def m__law_couple : Fn := mkFn g__law_couple (N__law_couple.length - P__law_couple.length)
abbrev s_law : Stmt := topS 26
abbrev N_law : List Str := ["_law_script", "_law_hand_here", "_law_count_here", "_law_one", "_law_other", "_law_third", "_law_plain", "_law_first", "_law_second", "_law_small", "_law_words", "_law_wide", "_law_spot", "_law_odd", "_law_spoilt", "_law_turned", "_law_number", "_law_sign"]
abbrev P_law : List Str := ["_law_script"]
theorem sc_law : FnScope N_law P_law (defScope s_law) := ⟨rfl, rfl, rfl, by decide +kernel, rfl, by decide +kernel, by decide +kernel⟩
def gs_law_1 : G :=
  (gOwn 1 (fCallN 1 m__law_hand [] (fCons (fVar 0) fNil)))
def gs_law_2 : G :=
  (gSet 2 (fCallM 1 m__law_count 1 fNil))
def gs_law_3 : G :=
  (gPar3 3 4 5 (fCons (fCallM 2 m__law_word 1 (fCons (fVar 2) fNil)) (fCons (fCallM 2 m__law_word 1 (fCons (fVar 2) fNil)) (fCons (fCallM 2 m__law_built 1 (fCons (fVar 2) fNil)) fNil))))
def gs_law_4 : G :=
  (gSet 6 (f2 mulD (fTup (fCons (fC (.int 1)) fNil)) (fVar 2)))
def gs_law_5 : G :=
  (gFor (fIt (fLst (fCons (fTup (fCons (fVar 3) (fCons (fVar 4) fNil))) (fCons (fTup (fCons (fVar 4) (fCons (fVar 5) fNil))) (fCons (fTup (fCons (fVar 5) (fCons (fVar 3) fNil))) (fCons (fTup (fCons (fVar 3) (fCons (fVar 3) fNil))) (fCons (fTup (fCons (fVar 6) (fCons (fVar 3) fNil))) (fCons (fTup (fCons (fVar 5) (fCons (fVar 6) fNil))) fNil)))))))) (tgTup 2 (tgCons (tgName 7) (tgCons (tgName 8) tgNil))) (gIf (fNot (fTru (fCall 2 m__law_couple [] (fCons (fVar 7) (fCons (fVar 8) fNil))))) (gRet (fC (.bl false))) gNx))
def gs_law_6 : G :=
  (gIf (fOr (t2 neD (fCall 2 m__law_made [] (fCons (fVar 3) (fCons (fVar 3) fNil))) (fVar 6)) (t2 neD (fCall 2 m__law_made [] (fCons (fVar 6) (fCons (fVar 4) fNil))) (fVar 4))) (gRet (fC (.bl false))) gNx)
def gs_law_7 : G :=
  (gIf (t2 neD (fCall 2 m__law_made [] (fCons (fCall 2 m__law_made [] (fCons (fVar 3) (fCons (fVar 4) fNil))) (fCons (fVar 5) fNil))) (fCall 2 m__law_made [] (fCons (fVar 3) (fCons (fCall 2 m__law_made [] (fCons (fVar 4) (fCons (fVar 5) fNil))) fNil)))) (gRet (fC (.bl false))) gNx)
def gs_law_8 : G :=
  (gSet 9 (f2 addD (fC (.int 1)) (fCallM 2 m__law_take 1 (fCons (fC (.int 4)) fNil))))
def gs_law_9 : G :=
  (gSet 10 (fOfL (fLc (fRange1 (fCons (fC (.int 8)) fNil)) [16] (tgName 16) (t2 ltI (fVar 16) (f2 shlI (fC (.int 1)) (f2 subI (fVar 9) (fC (.int 1))))) (fCall 2 m__law_signs [] (fCons (fVar 9) (fCons (fVar 16) fNil))))))
def gs_law_10 : G :=
  (gFor (fIt (fVar 10)) (tgName 7) (gFor (fIt (fVar 10)) (tgName 8) (gSeq (gIf (fNot (fTru (fCall 2 m__law_couple [] (fCons (fVar 7) (fCons (fVar 8) fNil))))) (gRet (fC (.bl false))) gNx)
    (gIf (t2 (inA true) (fCall 2 m__law_made [] (fCons (fVar 7) (fCons (fVar 8) fNil))) (fVar 10)) (gRet (fC (.bl false))) gNx))))
def gs_law_11 : G :=
  (gSet 11 (fIf (t2 ltI (fVar 2) (fC (.int 24))) (f2 addD (fVar 3) (fTup (fCons (fC (.int 1)) fNil))) (fSl (fVar 3) (oSome (fC (.int 1))) oNone)))
def gs_law_12 : G :=
  (gIf (t2 eqD (f2 ixD (fVar 11) (fC (.int 0))) (f1 negI (fC (.int 1)))) (gSet 11 (fB tupleD (fCons (fOfL (fLc (fIt (fVar 11)) [17] (tgName 17) fYes (f1 negI (fVar 17)))) fNil))) gNx)
def gs_law_13 : G :=
  (gIf (fOr (t2 neD (fCall 2 m__law_made [] (fCons (fVar 3) (fCons (fVar 11) fNil))) (fLst (fCons (fC (.int 0)) (fCons (fC (.str "many")) fNil)))) (t2 neD (fCall 2 m__law_made [] (fCons (fVar 11) (fCons (fVar 3) fNil))) (fLst (fCons (fC (.int 0)) (fCons (fC (.str "many")) fNil))))) (gRet (fC (.bl false))) gNx)
def gs_law_14 : G :=
  (gSet 12 (fCallM 2 m__law_take 1 (fCons (fVar 2) fNil)))
def gs_law_15 : G :=
  (gSet 13 (f2 ixD (fLst (fCons (fC (.int 0)) (fCons (fC (.bl true)) (fCons (fC .non) (fCons (fTup (fCons (fC (.int 1)) (fCons (fC (.int 1)) fNil))) (fCons (fC (.str "+")) fNil)))))) (fCallM 2 m__law_take 1 (fCons (fC (.int 5)) fNil))))
def gs_law_16 : G :=
  (gOwn 14 (fListOf (fVar 4)))
def gs_law_17 : G :=
  (gSetIx 14 (fVar 12) (fVar 13))
def gs_law_18 : G :=
  (gIf (fOr (t2 neD (fCall 2 m__law_made [] (fCons (fVar 3) (fCons (fVar 14) fNil))) (fLst (fCons (fVar 12) (fCons (fC (.str "sign")) fNil)))) (fOr (t2 neD (fCall 2 m__law_made [] (fCons (fVar 14) (fCons (fVar 3) fNil))) (fLst (fCons (fVar 12) (fCons (fC (.str "sign")) fNil)))) (t2 neD (fCall 2 m__law_made [] (fCons (fVar 14) (fCons (fC .non) fNil))) (fLst (fCons (fVar 12) (fCons (fC (.str "sign")) fNil)))))) (gRet (fC (.bl false))) gNx)
def gs_law_19 : G :=
  (gSet 15 (f2 addD (fTup (fCons (f1 negI (fC (.int 1))) fNil)) (fSl (fVar 4) (oSome (fC (.int 1))) oNone)))
def gs_law_20 : G :=
  (gIf (fOr (t2 neD (fCall 2 m__law_made [] (fCons (fVar 15) (fCons (fVar 3) fNil))) (fLst (fCons (fC (.int 0)) (fCons (fC (.str "first")) fNil)))) (fOr (t2 neD (fCall 2 m__law_made [] (fCons (fVar 3) (fCons (fVar 15) fNil))) (fLst (fCons (fC (.int 0)) (fCons (fC (.str "first")) fNil)))) (t2 neD (fCall 2 m__law_made [] (fCons (fVar 11) (fCons (fVar 14) fNil))) (fLst (fCons (fVar 12) (fCons (fC (.str "sign")) fNil)))))) (gRet (fC (.bl false))) gNx)
def gs_law_21 : G :=
  (gRet (vAnd (f2 neD (fCall 2 m__law_made [] (fCons (fVar 3) (fCons (fC .non) fNil))) (fVar 3)) (vAnd (f2 eqD (fCall 2 m__law_made [] (fCons (fVar 3) (fCons (fC .non) fNil))) (fLst (fCons (fC (.int 0)) (fCons (fC (.str "many")) fNil)))) (f2 eqD (f2 ixD (fVar 14) (fVar 12)) (fVar 13)))))
def g_law : G :=
  (gSeq gs_law_1
    (gSeq gs_law_2
    (gSeq gs_law_3
    (gSeq gs_law_4
    (gSeq gs_law_5
    (gSeq gs_law_6
    (gSeq gs_law_7
    (gSeq gs_law_8
    (gSeq gs_law_9
    (gSeq gs_law_10
    (gSeq gs_law_11
    (gSeq gs_law_12
    (gSeq gs_law_13
    (gSeq gs_law_14
    (gSeq gs_law_15
    (gSeq gs_law_16
    (gSeq gs_law_17
    (gFrz 14 (gSeq gs_law_18
    (gSeq gs_law_19
    (gSeq gs_law_20
    gs_law_21)))))))))))))))))))))
def m_law : Fn := mkFn g_law (N_law.length - P_law.length)
structure Ad where
  f__law_hand : Addr
  d__law_hand : FuncData
  f__law_mixed : Addr
  d__law_mixed : FuncData
  f__law_take : Addr
  d__law_take : FuncData
  f__law_count : Addr
  d__law_count : FuncData
  f__law_word : Addr
  d__law_word : FuncData
  f__law_built : Addr
  d__law_built : FuncData
  f__check_first : Addr
  d__check_first : FuncData
  f_is_row : Addr
  d_is_row : FuncData
  f_is_whole : Addr
  d_is_whole : FuncData
  f__check_sign_row : Addr
  d__check_sign_row : FuncData
  f_check_signs : Addr
  d_check_signs : FuncData
  f_product_of : Addr
  d_product_of : FuncData
  f__law_made : Addr
  d__law_made : FuncData
  f__law_signs : Addr
  d__law_signs : FuncData
  f__law_poles : Addr
  d__law_poles : FuncData
  f__law_is_word : Addr
  d__law_is_word : FuncData
  f__law_product : Addr
  d__law_product : FuncData
  f_crossings_of : Addr
  d_crossings_of : FuncData
  f__law_couple : Addr
  d__law_couple : FuncData
  f_law : Addr
  d_law : FuncData
  C_BadWord : Addr
  i_BadWord : Addr
  di_BadWord : FuncData
  unit : Unit := ()
structure Tx (K : PySem.W.Frag) (mg : Str → Option Value) (a : Ad) : Prop where
  F__law_hand : L2.Fun K "_law_hand" "_law_hand" s__law_hand a.f__law_hand a.d__law_hand
  g__law_hand : mg "_law_hand" = some (.ref a.f__law_hand)
  k__law_hand : PySem.W.keepIn K (.ref a.f__law_hand) = true
  b__law_hand_1 : Binds K a.d__law_hand P__law_hand []
  F__law_mixed : L2.Fun K "_law_mixed" "_law_mixed" s__law_mixed a.f__law_mixed a.d__law_mixed
  g__law_mixed : mg "_law_mixed" = some (.ref a.f__law_mixed)
  k__law_mixed : PySem.W.keepIn K (.ref a.f__law_mixed) = true
  b__law_mixed_2 : Binds K a.d__law_mixed P__law_mixed []
  F__law_take : L2.Fun K "_law_take" "_law_take" s__law_take a.f__law_take a.d__law_take
  g__law_take : mg "_law_take" = some (.ref a.f__law_take)
  k__law_take : PySem.W.keepIn K (.ref a.f__law_take) = true
  b__law_take_2 : Binds K a.d__law_take P__law_take []
  F__law_count : L2.Fun K "_law_count" "_law_count" s__law_count a.f__law_count a.d__law_count
  g__law_count : mg "_law_count" = some (.ref a.f__law_count)
  k__law_count : PySem.W.keepIn K (.ref a.f__law_count) = true
  b__law_count_1 : Binds K a.d__law_count P__law_count []
  F__law_word : L2.Fun K "_law_word" "_law_word" s__law_word a.f__law_word a.d__law_word
  g__law_word : mg "_law_word" = some (.ref a.f__law_word)
  k__law_word : PySem.W.keepIn K (.ref a.f__law_word) = true
  b__law_word_2 : Binds K a.d__law_word P__law_word []
  F__law_built : L2.Fun K "_law_built" "_law_built" s__law_built a.f__law_built a.d__law_built
  g__law_built : mg "_law_built" = some (.ref a.f__law_built)
  k__law_built : PySem.W.keepIn K (.ref a.f__law_built) = true
  b__law_built_2 : Binds K a.d__law_built P__law_built []
  F__check_first : L2.Fun K "_check_first" "_check_first" s__check_first a.f__check_first a.d__check_first
  g__check_first : mg "_check_first" = some (.ref a.f__check_first)
  k__check_first : PySem.W.keepIn K (.ref a.f__check_first) = true
  b__check_first_1 : Binds K a.d__check_first P__check_first []
  F_is_row : L2.Fun K "is_row" "is_row" s_is_row a.f_is_row a.d_is_row
  g_is_row : mg "is_row" = some (.ref a.f_is_row)
  k_is_row : PySem.W.keepIn K (.ref a.f_is_row) = true
  b_is_row_3 : Binds K a.d_is_row P_is_row []
  F_is_whole : L2.FunD K "is_whole" "is_whole" (defArgs s_is_whole) (defBody s_is_whole) (defScope s_is_whole) [.non, .non] [] a.f_is_whole a.d_is_whole
  g_is_whole : mg "is_whole" = some (.ref a.f_is_whole)
  k_is_whole : PySem.W.keepIn K (.ref a.f_is_whole) = true
  b_is_whole_3 : Binds K a.d_is_whole P_is_whole []
  F__check_sign_row : L2.Fun K "_check_sign_row" "_check_sign_row" s__check_sign_row a.f__check_sign_row a.d__check_sign_row
  g__check_sign_row : mg "_check_sign_row" = some (.ref a.f__check_sign_row)
  k__check_sign_row : PySem.W.keepIn K (.ref a.f__check_sign_row) = true
  b__check_sign_row_3 : Binds K a.d__check_sign_row P__check_sign_row []
  F_check_signs : L2.Fun K "check_signs" "check_signs" s_check_signs a.f_check_signs a.d_check_signs
  g_check_signs : mg "check_signs" = some (.ref a.f_check_signs)
  k_check_signs : PySem.W.keepIn K (.ref a.f_check_signs) = true
  b_check_signs_1 : Binds K a.d_check_signs P_check_signs []
  F_product_of : L2.Fun K "product_of" "product_of" s_product_of a.f_product_of a.d_product_of
  g_product_of : mg "product_of" = some (.ref a.f_product_of)
  k_product_of : PySem.W.keepIn K (.ref a.f_product_of) = true
  b_product_of_2 : Binds K a.d_product_of P_product_of []
  F__law_made : L2.Fun K "_law_made" "_law_made" s__law_made a.f__law_made a.d__law_made
  g__law_made : mg "_law_made" = some (.ref a.f__law_made)
  k__law_made : PySem.W.keepIn K (.ref a.f__law_made) = true
  b__law_made_2 : Binds K a.d__law_made P__law_made []
  F__law_signs : L2.Fun K "_law_signs" "_law_signs" s__law_signs a.f__law_signs a.d__law_signs
  g__law_signs : mg "_law_signs" = some (.ref a.f__law_signs)
  k__law_signs : PySem.W.keepIn K (.ref a.f__law_signs) = true
  b__law_signs_2 : Binds K a.d__law_signs P__law_signs []
  F__law_poles : L2.Fun K "_law_poles" "_law_poles" s__law_poles a.f__law_poles a.d__law_poles
  g__law_poles : mg "_law_poles" = some (.ref a.f__law_poles)
  k__law_poles : PySem.W.keepIn K (.ref a.f__law_poles) = true
  b__law_poles_1 : Binds K a.d__law_poles P__law_poles []
  F__law_is_word : L2.Fun K "_law_is_word" "_law_is_word" s__law_is_word a.f__law_is_word a.d__law_is_word
  g__law_is_word : mg "_law_is_word" = some (.ref a.f__law_is_word)
  k__law_is_word : PySem.W.keepIn K (.ref a.f__law_is_word) = true
  b__law_is_word_2 : Binds K a.d__law_is_word P__law_is_word []
  F__law_product : L2.Fun K "_law_product" "_law_product" s__law_product a.f__law_product a.d__law_product
  g__law_product : mg "_law_product" = some (.ref a.f__law_product)
  k__law_product : PySem.W.keepIn K (.ref a.f__law_product) = true
  b__law_product_2 : Binds K a.d__law_product P__law_product []
  F_crossings_of : L2.Fun K "crossings_of" "crossings_of" s_crossings_of a.f_crossings_of a.d_crossings_of
  g_crossings_of : mg "crossings_of" = some (.ref a.f_crossings_of)
  k_crossings_of : PySem.W.keepIn K (.ref a.f_crossings_of) = true
  b_crossings_of_1 : Binds K a.d_crossings_of P_crossings_of []
  F__law_couple : L2.Fun K "_law_couple" "_law_couple" s__law_couple a.f__law_couple a.d__law_couple
  g__law_couple : mg "_law_couple" = some (.ref a.f__law_couple)
  k__law_couple : PySem.W.keepIn K (.ref a.f__law_couple) = true
  b__law_couple_2 : Binds K a.d__law_couple P__law_couple []
  F_law : L2.Fun K "law" "law" s_law a.f_law a.d_law
  g_BadWord : mg "BadWord" = some (.ref a.C_BadWord)
  e_BadWord : ErrC K mg "BadWord" a.C_BadWord a.i_BadWord ["index", "what"]
  x_BadWord : XfC K a.C_BadWord
  Fi_BadWord : L2.Fun K "__init__" "BadWord.__init__" si_BadWord a.i_BadWord a.di_BadWord
  bi_BadWord : Binds K a.di_BadWord ["self", "index", "what"] []
  n_BadWord_index : PySem.W.findIn K (.ref a.C_BadWord) "index" = some none
  n_BadWord_what : PySem.W.findIn K (.ref a.C_BadWord) "what" = some none
  t_BadWord_BadWord : PySem.W.exmOne K (.ref a.C_BadWord) (.ref a.C_BadWord) = some true
  n_bool : mg "bool" = none
  n_enumerate : mg "enumerate" = none
  n_int : mg "int" = none
  n_isinstance : mg "isinstance" = none
  n_len : mg "len" = none
  n_list : mg "list" = none
  n_range : mg "range" = none
  n_tuple : mg "tuple" = none
  n_zip : mg "zip" = none
  c_MOST_SECTIONS : ∃ u, mg "MOST_SECTIONS" = some u ∧ RelV (.int 24) u
section
variable {P : Program} {w : World} {K : PySem.W.Frag} {mg : Str → Option Value} {base : Heap} {a : Ad}
theorem sci_BadWord : FnScope ["self", "index", "what"] ["self", "index", "what"] (defScope si_BadWord) := ⟨rfl, rfl, rfl, by decide +kernel, rfl, by decide +kernel, by decide +kernel⟩
theorem oki_BadWord (T : Tx K mg a) : FnOk P w K mg base (L2.CX P w) 1 a.i_BadWord a.di_BadWord ["self", "index", "what"] (spX K ["index", "what"]) :=
  ok_init2 T.Fi_BadWord sci_BadWord rfl (fun _ _ _ _ _ _ => rfl) (fun _ _ _ _ _ _ => rfl) (.inl rfl) (.inl rfl) (.inl rfl) (by decide) (by decide) (by decide) (by decide)
theorem cat_BadWord_ok (T : Tx K mg a) : ∀ c b C, cat_BadWord c = some b → mg c = some (.ref C) → PySem.W.exmOne K (.ref C) (.ref a.C_BadWord) = some b := by
  intro c b C h m
  unfold cat_BadWord at h
  split at h
  · rename_i hc
    subst hc
    rw [T.g_BadWord] at m
    cases m
    cases h
    exact T.t_BadWord_BadWord
  · cases h
theorem ok__law_hand (T : Tx K mg a) : FnOk P w K mg base (L2.CX P w) 1 a.f__law_hand a.d__law_hand P__law_hand (spD K mg P__law_hand.length m__law_hand) := by
  refine fnd (g := g__law_hand) T.F__law_hand sc__law_hand (by decide) fun cdv A outer s H E hr => ?_
  have nd := sc__law_hand.nd
  have hu := hr.units
  have hu5 := Nat.lt_of_le_of_lt (Nat.add_le_add_left (by decide : 65 ≤ 16 * 0 + 200) _) hr.un
  exact (dss_cons (ds_set (i := 1) nd (de_bin o_add (de_callB c_len (by rfl) T.n_len (by rfl) (da_cons (de_var 0) da_nil)) de_int))
    (dss_cons (ds_own (i := 2) nd (dn_lst da_nil))
    (dss_cons (ds_for hpD (by rfl) (di_in (de_var 0)) (dg_name (i := 3) nd) (dss_cons (ds_set (i := 1) nd (de_bin o_modI (de_callTy c_int1 (by rfl) T.n_int (by rfl) (da_cons (de_bin o_add (de_bin o_mul (de_var 1) de_int) (de_callTy c_int1 (by rfl) T.n_int (by rfl) (da_cons (de_var 3) da_nil))) da_nil)) de_int))
    (dss_one (ds_app (i := 2) (de_if (dt_cmp o_geI (de_var 3) de_int) (de_callTy c_int1 (by rfl) T.n_int (by rfl) (da_cons (de_var 3) da_nil)) (de_un o_negI (de_callTy c_int1 (by rfl) T.n_int (by rfl) (da_cons (de_var 3) da_nil))))))))
    (dss_fz 2 (dss_one (ds_retn (dn_lst (da_cons (de_var 2) (da_cons de_int (da_cons de_int (da_cons (de_var 1) da_nil)))))))))))
theorem ok__law_mixed (T : Tx K mg a) : FnOk P w K mg base (L2.CX P w) 1 a.f__law_mixed a.d__law_mixed P__law_mixed (spD K mg P__law_mixed.length m__law_mixed) := by
  refine fnd (g := g__law_mixed) T.F__law_mixed sc__law_mixed (by decide) fun cdv A outer s H E hr => ?_
  have nd := sc__law_mixed.nd
  have hu := hr.units
  have hu5 := Nat.lt_of_le_of_lt (Nat.add_le_add_left (by decide : 65 ≤ 16 * 0 + 200) _) hr.un
  exact (dss_cons (ds_set (i := 2) nd (de_bin o_modI (de_callTy c_int1 (by rfl) T.n_int (by rfl) (da_cons (de_bin o_add (de_bin o_add (de_bin o_mul (de_var 0) de_int) (de_bin o_mul (de_var 1) de_int)) de_int) da_nil)) de_int))
    (dss_cons (ds_set (i := 3) nd (de_bin o_modI (de_callTy c_int1 (by rfl) T.n_int (by rfl) (da_cons (de_bin o_add (de_bin o_add (de_bin o_mul (de_var 2) (de_var 2)) (de_bin o_mul (de_var 1) de_int)) (de_bin o_fdvI (de_var 2) de_int)) da_nil)) de_int))
    (dss_one (ds_ret (de_bin o_fdvI (de_callTy c_int1 (by rfl) T.n_int (by rfl) (da_cons (de_bin o_modI (de_callTy c_int1 (by rfl) T.n_int (by rfl) (da_cons (de_bin o_add (de_bin o_mul (de_var 3) de_int) (de_bin o_fdvI (de_var 2) de_int)) da_nil)) de_int) da_nil)) de_int)))))
theorem ok__law_take (T : Tx K mg a) : FnOk P w K mg base (L2.CX P w) 2 a.f__law_take a.d__law_take P__law_take (spD K mg P__law_take.length m__law_take) := by
  refine fnd (g := g__law_take) T.F__law_take sc__law_take (by decide) fun cdv A outer s H E hr => ?_
  have nd := sc__law_take.nd
  have hu := hr.units
  have hu5 := Nat.lt_of_le_of_lt (Nat.add_le_add_left (by decide : 65 ≤ 16 * 1 + 200) _) hr.un
  exact (dss_cons (ds_if (dw_and (dt_cmp (o_eq hu) (de_ixo (i := 0) de_int) de_int) (dw_and1 (dt_cmp o_ltI (de_ixo (i := 0) de_int) (de_callB c_len (by rfl) T.n_len (by rfl) (da_cons (de_ixo (i := 0) de_int) da_nil))))).dt (dss_cons (ds_set (i := 2) nd (de_ix x_ix (de_ixo (i := 0) de_int) (de_ixo (i := 0) de_int)))
    (dss_cons (ds_setix (i := 0) (de_bin o_add (de_ixo (i := 0) de_int) de_int) de_int)
    (dss_cons (ds_if (dt_cmp o_ltI (de_var 2) (de_bin o_powI de_int de_int)) (dss_one (ds_ret (de_bin o_modI (de_callTy c_int1 (by rfl) T.n_int (by rfl) (da_cons (de_call (ok__law_mixed T) (hr.mono (by decide)) T.g__law_mixed T.k__law_mixed T.b__law_mixed_2 .nil (fun _ _ _ => RpL.nil) tkD (da_cons (de_bin o_modI (de_callTy c_int1 (by rfl) T.n_int (by rfl) (da_cons (de_var 2) da_nil)) de_int) (da_cons (de_ixo (i := 0) de_int) da_nil))) da_nil)) (de_var 1)))) dss_nil)
    (dss_one (ds_setix (i := 0) (de_var 2) de_int))))) dss_nil)
    (dss_cons (ds_if (dt_cmp o_gtI (de_ixo (i := 0) de_int) de_int) (dss_cons (ds_set (i := 3) nd (de_ixo (i := 0) de_int))
    (dss_cons (ds_setix (i := 0) (de_bin o_fdvI (de_callTy c_int1 (by rfl) T.n_int (by rfl) (da_cons (de_var 3) da_nil)) (de_var 1)) de_int)
    (dss_one (ds_ret (de_bin o_modI (de_callTy c_int1 (by rfl) T.n_int (by rfl) (da_cons (de_var 3) da_nil)) (de_var 1)))))) dss_nil)
    (dss_cons (ds_setix (i := 0) (de_bin o_modI (de_callTy c_int1 (by rfl) T.n_int (by rfl) (da_cons (de_bin o_add (de_ixo (i := 0) de_int) de_int) da_nil)) de_int) de_int)
    (dss_one (ds_ret (de_bin o_modI (de_callTy c_int1 (by rfl) T.n_int (by rfl) (da_cons (de_call (ok__law_mixed T) (hr.mono (by decide)) T.g__law_mixed T.k__law_mixed T.b__law_mixed_2 .nil (fun _ _ _ => RpL.nil) tkD (da_cons (de_ixo (i := 0) de_int) (da_cons (de_ixo (i := 0) de_int) da_nil))) da_nil)) (de_var 1)))))))
theorem ok__law_count (T : Tx K mg a) : FnOk P w K mg base (L2.CX P w) 3 a.f__law_count a.d__law_count P__law_count (spD K mg P__law_count.length m__law_count) := by
  refine fnd (g := g__law_count) T.F__law_count sc__law_count (by decide) fun cdv A outer s H E hr => ?_
  have nd := sc__law_count.nd
  have hu := hr.units
  have hu5 := Nat.lt_of_le_of_lt (Nat.add_le_add_left (by decide : 65 ≤ 16 * 2 + 200) _) hr.un
  exact (dss_cons (ds_if (dt_cmp (o_eq hu) (de_callM (i := 0) (ok__law_take T) (hr.mono (by decide)) T.g__law_take T.k__law_take T.b__law_take_2 tkD (da_cons de_int da_nil)) de_int) (dss_one (ds_ret (de_bin o_add de_int (de_callM (i := 0) (ok__law_take T) (hr.mono (by decide)) T.g__law_take T.k__law_take T.b__law_take_2 tkD (da_cons de_int da_nil))))) dss_nil)
    (dss_one (ds_ret (de_bin o_add de_int (de_callM (i := 0) (ok__law_take T) (hr.mono (by decide)) T.g__law_take T.k__law_take T.b__law_take_2 tkD (da_cons de_int da_nil))))))
theorem ok__law_word (T : Tx K mg a) : FnOk P w K mg base (L2.CX P w) 3 a.f__law_word a.d__law_word P__law_word (spD K mg P__law_word.length m__law_word) := by
  refine fnd (g := g__law_word) T.F__law_word sc__law_word (by decide) fun cdv A outer s H E hr => ?_
  have nd := sc__law_word.nd
  have hu := hr.units
  have hu5 := Nat.lt_of_le_of_lt (Nat.add_le_add_left (by decide : 65 ≤ 16 * 2 + 200) _) hr.un
  exact (dss_cons (ds_own (i := 2) nd (dn_lst (da_cons de_int da_nil)))
    (dss_cons (ds_for hpD (by rfl) (di_range2 (by rfl) T.n_range (da_cons de_int (da_cons (de_var 1) da_nil))) (dg_name (i := 3) nd) (dss_one (ds_app (i := 2) (de_bin o_subI de_int (de_bin o_mul de_int (de_callM (i := 0) (ok__law_take T) (hr.mono (by decide)) T.g__law_take T.k__law_take T.b__law_take_2 tkD (da_cons de_int da_nil)))))))
    (dss_fz 2 (dss_one (ds_ret (de_callTy c_tuple (by rfl) T.n_tuple (by rfl) (da_cons (de_var 2) da_nil)))))))
theorem ok__law_built (T : Tx K mg a) : FnOk P w K mg base (L2.CX P w) 4 a.f__law_built a.d__law_built P__law_built (spD K mg P__law_built.length m__law_built) := by
  refine fnd (g := g__law_built) T.F__law_built sc__law_built (by decide) fun cdv A outer s H E hr => ?_
  have nd := sc__law_built.nd
  have hu := hr.units
  have hu5 := Nat.lt_of_le_of_lt (Nat.add_le_add_left (by decide : 65 ≤ 16 * 3 + 200) _) hr.un
  exact (dss_cons (ds_if (dw_or (dt_cmp o_ltI (de_var 1) de_int) (dw_or (dt_tru (de_bin o_modI (de_callTy c_int1 (by rfl) T.n_int (by rfl) (da_cons (de_var 1) da_nil)) de_int)) (dw_or1 (dt_tru (de_callM (i := 0) (ok__law_take T) (hr.mono (by decide)) T.g__law_take T.k__law_take T.b__law_take_2 tkD (da_cons de_int da_nil)))))).dt (dss_one (ds_ret (de_callM (i := 0) (ok__law_word T) (hr.mono (by decide)) T.g__law_word T.k__law_word T.b__law_word_2 tkD (da_cons (de_var 1) da_nil)))) dss_nil)
    (dss_cons (ds_set (i := 2) nd (de_callM (i := 0) (ok__law_word T) (hr.mono (by decide)) T.g__law_word T.k__law_word T.b__law_word_2 tkD (da_cons (de_bin o_fdvI (de_var 1) de_int) da_nil)))
    (dss_cons (ds_if (dt_cmp (o_eq hu) (de_bin o_modI (de_callTy c_int1 (by rfl) T.n_int (by rfl) (da_cons (de_var 1) da_nil)) de_int) de_int) (dss_cons (ds_set (i := 3) nd (de_callM (i := 0) (ok__law_word T) (hr.mono (by decide)) T.g__law_word T.k__law_word T.b__law_word_2 tkD (da_cons (de_bin o_fdvI (de_var 1) de_int) da_nil)))
    (dss_one (ds_set (i := 2) nd (de_bin o_add (de_var 3) (de_callTy c_tuple (by rfl) T.n_tuple (by rfl) (da_cons (dn_lc (own := [("_law_sign", 5)]) (by rfl) nd (di_in (de_var 3)) (blkOk_by (N := N__law_built) (sc := defScope s__law_built) (by decide +kernel)) (by decide) (fun _ _ _ _ _ => (dg_name (i := 5) nd)) (fun _ _ _ _ _ => dts_nil) (fun _ _ _ _ _ => (de_un o_negI (de_var 5)))).de da_nil)))))) dss_nil)
    (dss_cons (ds_set (i := 4) nd (de_callM (i := 0) (ok__law_take T) (hr.mono (by decide)) T.g__law_take T.k__law_take T.b__law_take_2 tkD (da_cons de_int da_nil)))
    (dss_cons (ds_if (dt_cmp (o_eq hu) (de_var 4) de_int) (dss_one (ds_ret (de_bin o_add (de_var 2) (de_callTy c_tuple (by rfl) T.n_tuple (by rfl) (da_cons (dn_lc (own := [("_law_sign", 5)]) (by rfl) nd (di_in (de_var 2)) (blkOk_by (N := N__law_built) (sc := defScope s__law_built) (by decide +kernel)) (by decide) (fun _ _ _ _ _ => (dg_name (i := 5) nd)) (fun _ _ _ _ _ => dts_nil) (fun _ _ _ _ _ => (de_un o_negI (de_var 5)))).de da_nil))))) dss_nil)
    (dss_cons (ds_if (dt_cmp (o_eq hu) (de_var 4) de_int) (dss_one (ds_ret (de_callTy c_tuple (by rfl) T.n_tuple (by rfl) (da_cons (dn_lc (own := [("_law_k", 6)]) (by rfl) nd (di_range1 (by rfl) T.n_range (da_cons (de_var 1) da_nil)) (blkOk_by (N := N__law_built) (sc := defScope s__law_built) (by decide +kernel)) (by decide) (fun _ _ _ _ _ => (dg_name (i := 6) nd)) (fun _ _ _ _ _ => dts_nil) (fun _ _ _ _ _ => (de_bin o_mul (de_ix x_ix (de_var 2) (de_bin o_fdvI (de_var 6) de_int)) (de_bin o_subI de_int (de_bin o_mul de_int (de_bin o_modI (de_callTy c_int1 (by rfl) T.n_int (by rfl) (da_cons (de_var 6) da_nil)) de_int)))))).de da_nil)))) dss_nil)
    (dss_one (ds_ret (de_bin o_add (de_var 2) (de_callTy c_tuple (by rfl) T.n_tuple (by rfl) (da_cons (dn_lc (own := [("_law_k", 6)]) (by rfl) nd (di_range1 (by rfl) T.n_range (da_cons (de_callB c_len (by rfl) T.n_len (by rfl) (da_cons (de_var 2) da_nil)) da_nil)) (blkOk_by (N := N__law_built) (sc := defScope s__law_built) (by decide +kernel)) (by decide) (fun _ _ _ _ _ => (dg_name (i := 6) nd)) (fun _ _ _ _ _ => dts_nil) (fun _ _ _ _ _ => (de_bin o_mul (de_bin o_mul (de_ix x_ix (de_var 2) (de_bin o_subI (de_bin o_subI (de_callB c_len (by rfl) T.n_len (by rfl) (da_cons (de_var 2) da_nil)) de_int) (de_var 6))) (de_bin o_subI de_int (de_bin o_mul de_int (de_callM (i := 0) (ok__law_take T) (hr.mono (by decide)) T.g__law_take T.k__law_take T.b__law_take_2 takes0 (da_cons de_int da_nil))))) (de_ix x_ix (de_var 2) de_int)))).de da_nil)))))))))))
theorem ok__check_first (T : Tx K mg a) : FnOk P w K mg base (L2.CX P w) 3 a.f__check_first a.d__check_first P__check_first (spD K mg P__check_first.length m__check_first) := by
  refine fnd (g := g__check_first) T.F__check_first sc__check_first (by decide) fun cdv A outer s H E hr => ?_
  have nd := sc__check_first.nd
  have hu := hr.units
  have hu5 := Nat.lt_of_le_of_lt (Nat.add_le_add_left (by decide : 65 ≤ 16 * 2 + 200) _) hr.un
  exact (dss_cons (ds_if (dt_cmp (o_eq hu) (de_ix x_ix (de_var 0) de_int) (de_un o_negI de_int)) (dss_one (ds_raise (by rfl) T.e_BadWord (oki_BadWord T) (hr.mono (by decide)) T.bi_BadWord tkD (da_cons de_int (da_cons de_str da_nil)))) dss_nil)
    (dss_one (ds_ret (de_var 0))))
theorem ok_is_row (T : Tx K mg a) : FnOk P w K mg base (L2.CX P w) 1 a.f_is_row a.d_is_row P_is_row (spD K mg P_is_row.length m_is_row) := by
  refine fnd (g := g_is_row) T.F_is_row sc_is_row (by decide) fun cdv A outer s H E hr => ?_
  have nd := sc_is_row.nd
  have hu := hr.units
  have hu5 := Nat.lt_of_le_of_lt (Nat.add_le_add_left (by decide : 65 ≤ 16 * 0 + 200) _) hr.un
  exact (dss_one (ds_ret (de_and (de_isi2 T.n_isinstance T.n_list T.n_tuple (by rfl) (by rfl) (de_var 0)) (de_one (de_chain o_leI o_leI (de_var 1) (de_callB c_len (by rfl) T.n_len (by rfl) (da_cons (de_var 0) da_nil)) (de_var 2))))))
theorem ok_is_whole (T : Tx K mg a) : FnOk P w K mg base (L2.CX P w) 1 a.f_is_whole a.d_is_whole P_is_whole (spD K mg P_is_whole.length m_is_whole) := by
  refine fndD (g := g_is_whole) T.F_is_whole sc_is_whole (by decide) fun cdv A outer s H E hr => ?_
  have nd := sc_is_whole.nd
  have hu := hr.units
  have hu5 := Nat.lt_of_le_of_lt (Nat.add_le_add_left (by decide : 65 ≤ 16 * 0 + 200) _) hr.un
  exact (dss_cons (ds_if (dw_or (dt_tru (de_isi T.n_isinstance T.n_bool (by rfl) (de_var 0))) (dw_or1 (dt_not (dt_tru (de_isi T.n_isinstance T.n_int (by rfl) (de_var 0)))))).dt (dss_one (ds_ret de_bl)) dss_nil)
    (dss_one (ds_ret (de_and (de_or (de_cmp o_isN (de_var 1) de_non) (de_one (de_cmp o_geI (de_var 0) (de_var 1)))) (de_one (de_or (de_cmp o_isN (de_var 2) de_non) (de_one (de_cmp o_leI (de_var 0) (de_var 2)))))))))
theorem ok__check_sign_row (T : Tx K mg a) : FnOk P w K mg base (L2.CX P w) 3 a.f__check_sign_row a.d__check_sign_row P__check_sign_row (spD K mg P__check_sign_row.length m__check_sign_row) := by
  refine fnd (g := g__check_sign_row) T.F__check_sign_row sc__check_sign_row (by decide) fun cdv A outer s H E hr => ?_
  have nd := sc__check_sign_row.nd
  have hu := hr.units
  have hu5 := Nat.lt_of_le_of_lt (Nat.add_le_add_left (by decide : 65 ≤ 16 * 2 + 200) _) hr.un
  exact (dss_cons (ds_if (dt_not (dt_tru (de_call (ok_is_row T) (hr.mono (by decide)) T.g_is_row T.k_is_row T.b_is_row_3 .nil (fun _ _ _ => RpL.nil) tkD (da_cons (de_var 0) (da_cons (de_var 1) (da_cons (de_var 2) da_nil)))))) (dss_one (ds_raise (by rfl) T.e_BadWord (oki_BadWord T) (hr.mono (by decide)) T.bi_BadWord tkD (da_cons de_int (da_cons de_str da_nil)))) dss_nil)
    (dss_cons (ds_for hpD (by rfl) (di_enum (by rfl) T.n_enumerate (da_cons (de_var 0) da_nil)) (dg_tup (by rfl) (dgs_cons (dg_name (i := 3) nd) (dgs_cons (dg_name (i := 4) nd) dgs_nil))) (dss_one (ds_if (dw_or (dt_not (dt_tru (de_call (ok_is_whole T) (hr.mono (by decide)) T.g_is_whole T.k_is_whole T.b_is_whole_3 .nil (fun _ _ _ => RpL.nil) tkD (da_cons (de_var 4) (da_cons (de_un o_negI de_int) (da_cons de_int da_nil)))))) (dw_or1 (dt_cmp (o_eq hu) (de_var 4) de_int))).dt (dss_one (ds_raise (by rfl) T.e_BadWord (oki_BadWord T) (hr.mono (by decide)) T.bi_BadWord tkD (da_cons (de_var 3) (da_cons de_str da_nil)))) dss_nil)))
    (dss_one (ds_ret (de_callTy c_tuple (by rfl) T.n_tuple (by rfl) (da_cons (de_var 0) da_nil))))))
theorem ok_check_signs (T : Tx K mg a) : FnOk P w K mg base (L2.CX P w) 4 a.f_check_signs a.d_check_signs P_check_signs (spD K mg P_check_signs.length m_check_signs) := by
  refine fnd (g := g_check_signs) T.F_check_signs sc_check_signs (by decide) fun cdv A outer s H E hr => ?_
  have nd := sc_check_signs.nd
  have hu := hr.units
  have hu5 := Nat.lt_of_le_of_lt (Nat.add_le_add_left (by decide : 65 ≤ 16 * 3 + 200) _) hr.un
  exact (dss_one (ds_ret (de_call (ok__check_first T) (hr.mono (by decide)) T.g__check_first T.k__check_first T.b__check_first_1 .nil (fun _ _ _ => RpL.nil) tkD (da_cons (de_call (ok__check_sign_row T) (hr.mono (by decide)) T.g__check_sign_row T.k__check_sign_row T.b__check_sign_row_3 .nil (fun _ _ _ => RpL.nil) tkD (da_cons (de_var 0) (da_cons de_int (da_cons (de_glob (by rfl) T.c_MOST_SECTIONS.choose_spec.1 T.c_MOST_SECTIONS.choose_spec.2 (fun _ _ _ => .int _)) da_nil)))) da_nil))))
theorem ok_product_of (T : Tx K mg a) : FnOk P w K mg base (L2.CX P w) 5 a.f_product_of a.d_product_of P_product_of (spD K mg P_product_of.length m_product_of) := by
  refine fnd (g := g_product_of) T.F_product_of sc_product_of (by decide) fun cdv A outer s H E hr => ?_
  have nd := sc_product_of.nd
  have hu := hr.units
  have hu5 := Nat.lt_of_le_of_lt (Nat.add_le_add_left (by decide : 65 ≤ 16 * 4 + 200) _) hr.un
  exact (dss_cons (ds_set (i := 0) nd (de_call (ok_check_signs T) (hr.mono (by decide)) T.g_check_signs T.k_check_signs T.b_check_signs_1 .nil (fun _ _ _ => RpL.nil) tkD (da_cons (de_var 0) da_nil)))
    (dss_cons (ds_set (i := 1) nd (de_call (ok_check_signs T) (hr.mono (by decide)) T.g_check_signs T.k_check_signs T.b_check_signs_1 .nil (fun _ _ _ => RpL.nil) tkD (da_cons (de_var 1) da_nil)))
    (dss_cons (ds_if (dt_cmp (o_ne hu) (de_callB c_len (by rfl) T.n_len (by rfl) (da_cons (de_var 0) da_nil)) (de_callB c_len (by rfl) T.n_len (by rfl) (da_cons (de_var 1) da_nil))) (dss_one (ds_raise (by rfl) T.e_BadWord (oki_BadWord T) (hr.mono (by decide)) T.bi_BadWord tkD (da_cons de_int (da_cons de_str da_nil)))) dss_nil)
    (dss_one (ds_ret (de_callTy c_tuple (by rfl) T.n_tuple (by rfl) (da_cons (dn_lc (own := [("sign", 2), ("against", 3)]) (by rfl) nd (di_zip2 (by rfl) T.n_zip (da_cons (de_var 0) (da_cons (de_var 1) da_nil))) (blkOk_by (N := N_product_of) (sc := defScope s_product_of) (by decide +kernel)) (by decide) (fun _ _ _ _ _ => (dg_tup (by rfl) (dgs_cons (dg_name (i := 2) nd) (dgs_cons (dg_name (i := 3) nd) dgs_nil)))) (fun _ _ _ _ _ => dts_nil) (fun _ _ _ _ _ => (de_bin o_mul (de_var 2) (de_var 3)))).de da_nil)))))))
theorem ok__law_made (T : Tx K mg a) : FnOk P w K mg base (L2.CX P w) 6 a.f__law_made a.d__law_made P__law_made (spD K mg P__law_made.length m__law_made) := by
  refine fnd (g := g__law_made) T.F__law_made sc__law_made (by decide) fun cdv A outer s H E hr => ?_
  have nd := sc__law_made.nd
  have hu := hr.units
  have hu5 := Nat.lt_of_le_of_lt (Nat.add_le_add_left (by decide : 65 ≤ 16 * 5 + 200) _) hr.un
  exact (dss_cons (ds_try_as (i := 3) (cat := cat_BadWord) (by rfl) (by rfl) nd (by exact ⟨rfl, by decide, .inl T.g_BadWord⟩) tkD (cat_BadWord_ok T) (fun Wx pn xe tk1 hp1 => (dss_one (ds_set (i := 2) nd (de_call (ok_product_of T) (hr.mono (by decide)) T.g_product_of T.k_product_of T.b_product_of_2 .nil (fun _ _ _ => RpL.nil) tk1 (da_cons (de_var 0) (da_cons (de_var 1) da_nil)))))) (fun a oe cls d pn hz hv => (dss_one (ds_ret (de_lst (da_cons (de_xf (i := 3) T.x_BadWord T.n_BadWord_index hz hv T.g_BadWord) (da_cons (de_xf (i := 3) T.x_BadWord T.n_BadWord_what hz hv T.g_BadWord) da_nil)))))))
    (dss_one (ds_ret (de_var 2))))
theorem ok__law_signs (T : Tx K mg a) : FnOk P w K mg base (L2.CX P w) 1 a.f__law_signs a.d__law_signs P__law_signs (spD K mg P__law_signs.length m__law_signs) := by
  refine fnd (g := g__law_signs) T.F__law_signs sc__law_signs (by decide) fun cdv A outer s H E hr => ?_
  have nd := sc__law_signs.nd
  have hu := hr.units
  have hu5 := Nat.lt_of_le_of_lt (Nat.add_le_add_left (by decide : 65 ≤ 16 * 0 + 200) _) hr.un
  exact (dss_one (ds_ret (de_callTy c_tuple (by rfl) T.n_tuple (by rfl) (da_cons (dn_lc (own := [("_law_k", 2)]) (by rfl) nd (di_range1 (by rfl) T.n_range (da_cons (de_var 0) da_nil)) (blkOk_by (N := N__law_signs) (sc := defScope s__law_signs) (by decide +kernel)) (by decide) (fun _ _ _ _ _ => (dg_name (i := 2) nd)) (fun _ _ _ _ _ => dts_nil) (fun _ _ _ _ _ => (de_if (dt_tru (de_bin o_modI (de_callTy c_int1 (by rfl) T.n_int (by rfl) (da_cons (de_bin o_shrI (de_var 1) (de_bin o_subI (de_bin o_subI (de_var 0) de_int) (de_var 2))) da_nil)) de_int)) (de_un o_negI de_int) de_int))).de da_nil))))
theorem ok__law_poles (T : Tx K mg a) : FnOk P w K mg base (L2.CX P w) 1 a.f__law_poles a.d__law_poles P__law_poles (spD K mg P__law_poles.length m__law_poles) := by
  refine fnd (g := g__law_poles) T.F__law_poles sc__law_poles (by decide) fun cdv A outer s H E hr => ?_
  have nd := sc__law_poles.nd
  have hu := hr.units
  have hu5 := Nat.lt_of_le_of_lt (Nat.add_le_add_left (by decide : 65 ≤ 16 * 0 + 200) _) hr.un
  exact (dss_one (ds_ret (de_callTy c_tuple (by rfl) T.n_tuple (by rfl) (da_cons (dn_lc (own := [("_law_k", 1)]) (by rfl) nd (di_range2 (by rfl) T.n_range (da_cons de_int (da_cons (de_callB c_len (by rfl) T.n_len (by rfl) (da_cons (de_var 0) da_nil)) da_nil))) (blkOk_by (N := N__law_poles) (sc := defScope s__law_poles) (by decide +kernel)) (by decide) (fun _ _ _ _ _ => (dg_name (i := 1) nd)) (fun _ _ _ _ _ => (dts_one (dt_cmp (o_ne hu) (de_ix x_ix (de_var 0) (de_var 1)) (de_ix x_ix (de_var 0) (de_bin o_subI (de_var 1) de_int))))) (fun _ _ _ _ _ => (de_var 1))).de da_nil))))
theorem ok__law_is_word (T : Tx K mg a) : FnOk P w K mg base (L2.CX P w) 1 a.f__law_is_word a.d__law_is_word P__law_is_word (spD K mg P__law_is_word.length m__law_is_word) := by
  refine fnd (g := g__law_is_word) T.F__law_is_word sc__law_is_word (by decide) fun cdv A outer s H E hr => ?_
  have nd := sc__law_is_word.nd
  have hu := hr.units
  have hu5 := Nat.lt_of_le_of_lt (Nat.add_le_add_left (by decide : 65 ≤ 16 * 0 + 200) _) hr.un
  exact (dss_cons (ds_if (dw_or (dt_not (dt_tru (de_isi T.n_isinstance T.n_tuple (by rfl) (de_var 0)))) (dw_or (dt_cmp (o_ne hu) (de_callB c_len (by rfl) T.n_len (by rfl) (da_cons (de_var 0) da_nil)) (de_var 1)) (dw_or1 (dt_cmp (o_ne hu) (de_ix x_ix (de_var 0) de_int) de_int)))).dt (dss_one (ds_ret de_bl)) dss_nil)
    (dss_one (ds_ret (de_notT (dn_lc (own := [("_law_one", 2)]) (by rfl) nd (di_in (de_var 0)) (blkOk_by (N := N__law_is_word) (sc := defScope s__law_is_word) (by decide +kernel)) (by decide) (fun _ _ _ _ _ => (dg_name (i := 2) nd)) (fun _ _ _ _ _ => (dts_one (dw_or (dt_tru (de_isi T.n_isinstance T.n_bool (by rfl) (de_var 2))) (dw_or (dt_not (dt_tru (de_isi T.n_isinstance T.n_int (by rfl) (de_var 2)))) (dw_or1 (dt_cmp (o_notInA hu5) (de_var 2) (de_tup (da_cons de_int (da_cons (de_un o_negI de_int) da_nil))))))).dt)) (fun _ _ _ _ _ => de_int)).de))))
theorem ok__law_product (T : Tx K mg a) : FnOk P w K mg base (L2.CX P w) 1 a.f__law_product a.d__law_product P__law_product (spD K mg P__law_product.length m__law_product) := by
  refine fnd (g := g__law_product) T.F__law_product sc__law_product (by decide) fun cdv A outer s H E hr => ?_
  have nd := sc__law_product.nd
  have hu := hr.units
  have hu5 := Nat.lt_of_le_of_lt (Nat.add_le_add_left (by decide : 65 ≤ 16 * 0 + 200) _) hr.un
  exact (dss_one (ds_ret (de_callTy c_tuple (by rfl) T.n_tuple (by rfl) (da_cons (dn_lc (own := [("_law_k", 2)]) (by rfl) nd (di_range1 (by rfl) T.n_range (da_cons (de_callB c_len (by rfl) T.n_len (by rfl) (da_cons (de_var 0) da_nil)) da_nil)) (blkOk_by (N := N__law_product) (sc := defScope s__law_product) (by decide +kernel)) (by decide) (fun _ _ _ _ _ => (dg_name (i := 2) nd)) (fun _ _ _ _ _ => dts_nil) (fun _ _ _ _ _ => (de_bin o_mul (de_ix x_ix (de_var 0) (de_var 2)) (de_ix x_ix (de_var 1) (de_var 2))))).de da_nil))))
theorem ok_crossings_of (T : Tx K mg a) : FnOk P w K mg base (L2.CX P w) 5 a.f_crossings_of a.d_crossings_of P_crossings_of (spD K mg P_crossings_of.length m_crossings_of) := by
  refine fnd (g := g_crossings_of) T.F_crossings_of sc_crossings_of (by decide) fun cdv A outer s H E hr => ?_
  have nd := sc_crossings_of.nd
  have hu := hr.units
  have hu5 := Nat.lt_of_le_of_lt (Nat.add_le_add_left (by decide : 65 ≤ 16 * 4 + 200) _) hr.un
  exact (dss_cons (ds_set (i := 0) nd (de_call (ok_check_signs T) (hr.mono (by decide)) T.g_check_signs T.k_check_signs T.b_check_signs_1 .nil (fun _ _ _ => RpL.nil) tkD (da_cons (de_var 0) da_nil)))
    (dss_one (ds_ret (de_callTy c_tuple (by rfl) T.n_tuple (by rfl) (da_cons (dn_lc (own := [("pole", 1)]) (by rfl) nd (di_range2 (by rfl) T.n_range (da_cons de_int (da_cons (de_callB c_len (by rfl) T.n_len (by rfl) (da_cons (de_var 0) da_nil)) da_nil))) (blkOk_by (N := N_crossings_of) (sc := defScope s_crossings_of) (by decide +kernel)) (by decide) (fun _ _ _ _ _ => (dg_name (i := 1) nd)) (fun _ _ _ _ _ => (dts_one (dt_cmp (o_ne hu) (de_ix x_ix (de_var 0) (de_var 1)) (de_ix x_ix (de_var 0) (de_bin o_subI (de_var 1) de_int))))) (fun _ _ _ _ _ => (de_var 1))).de da_nil)))))
theorem ok__law_couple (T : Tx K mg a) : FnOk P w K mg base (L2.CX P w) 7 a.f__law_couple a.d__law_couple P__law_couple (spD K mg P__law_couple.length m__law_couple) := by
  refine fnd (g := g__law_couple) T.F__law_couple sc__law_couple (by decide) fun cdv A outer s H E hr => ?_
  have nd := sc__law_couple.nd
  have hu := hr.units
  have hu5 := Nat.lt_of_le_of_lt (Nat.add_le_add_left (by decide : 65 ≤ 16 * 6 + 200) _) hr.un
  exact (dss_cons (ds_set (i := 2) nd (de_callB c_len (by rfl) T.n_len (by rfl) (da_cons (de_var 0) da_nil)))
    (dss_cons (ds_set (i := 3) nd (de_call (ok__law_made T) (hr.mono (by decide)) T.g__law_made T.k__law_made T.b__law_made_2 .nil (fun _ _ _ => RpL.nil) tkD (da_cons (dn_list T.n_list (de_var 0)).de (da_cons (de_var 1) da_nil))))
    (dss_cons (ds_if (dw_or (dt_not (dt_tru (de_call (ok__law_is_word T) (hr.mono (by decide)) T.g__law_is_word T.k__law_is_word T.b__law_is_word_2 .nil (fun _ _ _ => RpL.nil) tkD (da_cons (de_var 3) (da_cons (de_var 2) da_nil))))) (dw_or (dt_cmp (o_ne hu) (de_var 3) (de_call (ok__law_product T) (hr.mono (by decide)) T.g__law_product T.k__law_product T.b__law_product_2 .nil (fun _ _ _ => RpL.nil) tkD (da_cons (de_var 0) (da_cons (de_var 1) da_nil)))) (dw_or1 (dt_cmp (o_ne hu) (de_call (ok__law_made T) (hr.mono (by decide)) T.g__law_made T.k__law_made T.b__law_made_2 .nil (fun _ _ _ => RpL.nil) tkD (da_cons (de_var 1) (da_cons (dn_list T.n_list (de_var 0)).de da_nil))) (de_var 3))))).dt (dss_one (ds_ret de_bl)) dss_nil)
    (dss_cons (ds_asg (de_tup (da_cons (de_call (ok__law_poles T) (hr.mono (by decide)) T.g__law_poles T.k__law_poles T.b__law_poles_1 .nil (fun _ _ _ => RpL.nil) tkD (da_cons (de_var 0) da_nil)) (da_cons (de_call (ok__law_poles T) (hr.mono (by decide)) T.g__law_poles T.k__law_poles T.b__law_poles_1 .nil (fun _ _ _ => RpL.nil) tkD (da_cons (de_var 1) da_nil)) da_nil))) (dg_tup (by rfl) (dgs_cons (dg_name (i := 4) nd) (dgs_cons (dg_name (i := 5) nd) dgs_nil))))
    (dss_cons (ds_setlc (i := 6) (own := [("_law_pole", 7)]) (by rfl) nd (di_range2 (by rfl) T.n_range (da_cons de_int (da_cons (de_var 2) da_nil))) (blkOk_by (N := N__law_couple) (sc := defScope s__law_couple) (by decide +kernel)) (by decide) (fun _ _ _ _ _ => (dg_name (i := 7) nd)) (fun _ _ _ _ _ => (dts_one (dt_cmp (o_ne hu) (de_cmp (o_inA hu5) (de_var 7) (de_var 4)) (de_cmp (o_inA hu5) (de_var 7) (de_var 5))))) (fun _ _ _ _ _ => (de_var 7)))
    (dss_one (ds_ret (de_and (de_cmp (o_eq hu) (de_call (ok_crossings_of T) (hr.mono (by decide)) T.g_crossings_of T.k_crossings_of T.b_crossings_of_1 .nil (fun _ _ _ => RpL.nil) tkD (da_cons (de_var 3) da_nil)) (de_callTy c_tuple (by rfl) T.n_tuple (by rfl) (da_cons (de_var 6) da_nil))) (de_and (de_cmp (o_eq hu) (de_call (ok__law_made T) (hr.mono (by decide)) T.g__law_made T.k__law_made T.b__law_made_2 .nil (fun _ _ _ => RpL.nil) tkD (da_cons (de_var 3) (da_cons (de_var 1) da_nil))) (de_var 0)) (de_one (de_cmp (o_eq hu) (de_call (ok__law_made T) (hr.mono (by decide)) T.g__law_made T.k__law_made T.b__law_made_2 .nil (fun _ _ _ => RpL.nil) tkD (da_cons (de_var 0) (da_cons (de_var 3) da_nil))) (de_var 1))))))))))))
theorem ok_law (T : Tx K mg a) : FnOk P w K mg base (L2.CX P w) 8 a.f_law a.d_law P_law (spD K mg P_law.length m_law) := by
  refine fnd (g := g_law) T.F_law sc_law (by decide) fun cdv A outer s H E hr => ?_
  have nd := sc_law.nd
  have hu := hr.units
  have hu5 := Nat.lt_of_le_of_lt (Nat.add_le_add_left (by decide : 65 ≤ 16 * 7 + 200) _) hr.un
  exact (dss_cons (ds_own (i := 1) nd (dn_call (ok__law_hand T) (hr.mono (by decide)) T.g__law_hand T.k__law_hand T.b__law_hand_1 .nil (fun _ _ _ => RpL.nil) tkD (da_cons (de_var 0) da_nil)))
    (dss_cons (ds_set (i := 2) nd (de_callM (i := 1) (ok__law_count T) (hr.mono (by decide)) T.g__law_count T.k__law_count T.b__law_count_1 tkD da_nil))
    (dss_cons (ds_par3 (i := 3) (j := 4) (l := 5) (by rfl) nd (da_cons (de_callM (i := 1) (ok__law_word T) (hr.mono (by decide)) T.g__law_word T.k__law_word T.b__law_word_2 tkD (da_cons (de_var 2) da_nil)) (da_cons (de_callM (i := 1) (ok__law_word T) (hr.mono (by decide)) T.g__law_word T.k__law_word T.b__law_word_2 tkD (da_cons (de_var 2) da_nil)) (da_cons (de_callM (i := 1) (ok__law_built T) (hr.mono (by decide)) T.g__law_built T.k__law_built T.b__law_built_2 tkD (da_cons (de_var 2) da_nil)) da_nil))))
    (dss_cons (ds_set (i := 6) nd (de_bin o_mul (de_tup (da_cons de_int da_nil)) (de_var 2)))
    (dss_cons (ds_for hpD (by rfl) (di_in (de_lst (da_cons (de_tup (da_cons (de_var 3) (da_cons (de_var 4) da_nil))) (da_cons (de_tup (da_cons (de_var 4) (da_cons (de_var 5) da_nil))) (da_cons (de_tup (da_cons (de_var 5) (da_cons (de_var 3) da_nil))) (da_cons (de_tup (da_cons (de_var 3) (da_cons (de_var 3) da_nil))) (da_cons (de_tup (da_cons (de_var 6) (da_cons (de_var 3) da_nil))) (da_cons (de_tup (da_cons (de_var 5) (da_cons (de_var 6) da_nil))) da_nil)))))))) (dg_tup (by rfl) (dgs_cons (dg_name (i := 7) nd) (dgs_cons (dg_name (i := 8) nd) dgs_nil))) (dss_one (ds_if (dt_not (dt_tru (de_call (ok__law_couple T) (hr.mono (by decide)) T.g__law_couple T.k__law_couple T.b__law_couple_2 .nil (fun _ _ _ => RpL.nil) tkD (da_cons (de_var 7) (da_cons (de_var 8) da_nil))))) (dss_one (ds_ret de_bl)) dss_nil)))
    (dss_cons (ds_if (dw_or (dt_cmp (o_ne hu) (de_call (ok__law_made T) (hr.mono (by decide)) T.g__law_made T.k__law_made T.b__law_made_2 .nil (fun _ _ _ => RpL.nil) tkD (da_cons (de_var 3) (da_cons (de_var 3) da_nil))) (de_var 6)) (dw_or1 (dt_cmp (o_ne hu) (de_call (ok__law_made T) (hr.mono (by decide)) T.g__law_made T.k__law_made T.b__law_made_2 .nil (fun _ _ _ => RpL.nil) tkD (da_cons (de_var 6) (da_cons (de_var 4) da_nil))) (de_var 4)))).dt (dss_one (ds_ret de_bl)) dss_nil)
    (dss_cons (ds_if (dt_cmp (o_ne hu) (de_call (ok__law_made T) (hr.mono (by decide)) T.g__law_made T.k__law_made T.b__law_made_2 .nil (fun _ _ _ => RpL.nil) tkD (da_cons (de_call (ok__law_made T) (hr.mono (by decide)) T.g__law_made T.k__law_made T.b__law_made_2 .nil (fun _ _ _ => RpL.nil) tkD (da_cons (de_var 3) (da_cons (de_var 4) da_nil))) (da_cons (de_var 5) da_nil))) (de_call (ok__law_made T) (hr.mono (by decide)) T.g__law_made T.k__law_made T.b__law_made_2 .nil (fun _ _ _ => RpL.nil) tkD (da_cons (de_var 3) (da_cons (de_call (ok__law_made T) (hr.mono (by decide)) T.g__law_made T.k__law_made T.b__law_made_2 .nil (fun _ _ _ => RpL.nil) tkD (da_cons (de_var 4) (da_cons (de_var 5) da_nil))) da_nil)))) (dss_one (ds_ret de_bl)) dss_nil)
    (dss_cons (ds_set (i := 9) nd (de_bin o_add de_int (de_callM (i := 1) (ok__law_take T) (hr.mono (by decide)) T.g__law_take T.k__law_take T.b__law_take_2 tkD (da_cons de_int da_nil))))
    (dss_cons (ds_setlc (i := 10) (own := [("_law_number", 16)]) (by rfl) nd (di_range1 (by rfl) T.n_range (da_cons de_int da_nil)) (blkOk_by (N := N_law) (sc := defScope s_law) (by decide +kernel)) (by decide) (fun _ _ _ _ _ => (dg_name (i := 16) nd)) (fun _ _ _ _ _ => (dts_one (dt_cmp o_ltI (de_var 16) (de_bin o_shlI de_int (de_bin o_subI (de_var 9) de_int))))) (fun _ _ _ _ _ => (de_call (ok__law_signs T) (hr.mono (by decide)) T.g__law_signs T.k__law_signs T.b__law_signs_2 .nil (fun _ _ _ => RpL.nil) takes0 (da_cons (de_var 9) (da_cons (de_var 16) da_nil)))))
    (dss_cons (ds_for hpD (by rfl) (di_in (de_var 10)) (dg_name (i := 7) nd) (dss_one (ds_for hpD (by rfl) (di_in (de_var 10)) (dg_name (i := 8) nd) (dss_cons (ds_if (dt_not (dt_tru (de_call (ok__law_couple T) (hr.mono (by decide)) T.g__law_couple T.k__law_couple T.b__law_couple_2 .nil (fun _ _ _ => RpL.nil) tkD (da_cons (de_var 7) (da_cons (de_var 8) da_nil))))) (dss_one (ds_ret de_bl)) dss_nil)
    (dss_one (ds_if (dt_cmp (o_notInA hu5) (de_call (ok__law_made T) (hr.mono (by decide)) T.g__law_made T.k__law_made T.b__law_made_2 .nil (fun _ _ _ => RpL.nil) tkD (da_cons (de_var 7) (da_cons (de_var 8) da_nil))) (de_var 10)) (dss_one (ds_ret de_bl)) dss_nil))))))
    (dss_cons (ds_set (i := 11) nd (de_if (dt_cmp o_ltI (de_var 2) de_int) (de_bin o_add (de_var 3) (de_tup (da_cons de_int da_nil))) (de_sl (de_var 3) (do_some de_int) do_none)))
    (dss_cons (ds_if (dt_cmp (o_eq hu) (de_ix x_ix (de_var 11) de_int) (de_un o_negI de_int)) (dss_one (ds_set (i := 11) nd (de_callTy c_tuple (by rfl) T.n_tuple (by rfl) (da_cons (dn_lc (own := [("_law_sign", 17)]) (by rfl) nd (di_in (de_var 11)) (blkOk_by (N := N_law) (sc := defScope s_law) (by decide +kernel)) (by decide) (fun _ _ _ _ _ => (dg_name (i := 17) nd)) (fun _ _ _ _ _ => dts_nil) (fun _ _ _ _ _ => (de_un o_negI (de_var 17)))).de da_nil)))) dss_nil)
    (dss_cons (ds_if (dw_or (dt_cmp (o_ne hu) (de_call (ok__law_made T) (hr.mono (by decide)) T.g__law_made T.k__law_made T.b__law_made_2 .nil (fun _ _ _ => RpL.nil) tkD (da_cons (de_var 3) (da_cons (de_var 11) da_nil))) (de_lst (da_cons de_int (da_cons de_str da_nil)))) (dw_or1 (dt_cmp (o_ne hu) (de_call (ok__law_made T) (hr.mono (by decide)) T.g__law_made T.k__law_made T.b__law_made_2 .nil (fun _ _ _ => RpL.nil) tkD (da_cons (de_var 11) (da_cons (de_var 3) da_nil))) (de_lst (da_cons de_int (da_cons de_str da_nil)))))).dt (dss_one (ds_ret de_bl)) dss_nil)
    (dss_cons (ds_set (i := 12) nd (de_callM (i := 1) (ok__law_take T) (hr.mono (by decide)) T.g__law_take T.k__law_take T.b__law_take_2 tkD (da_cons (de_var 2) da_nil)))
    (dss_cons (ds_set (i := 13) nd (de_ix x_ix (de_lst (da_cons de_int (da_cons de_bl (da_cons de_non (da_cons (de_tup (da_cons de_int (da_cons de_int da_nil))) (da_cons de_str da_nil)))))) (de_callM (i := 1) (ok__law_take T) (hr.mono (by decide)) T.g__law_take T.k__law_take T.b__law_take_2 tkD (da_cons de_int da_nil))))
    (dss_cons (ds_own (i := 14) nd (dn_list T.n_list (de_var 4)))
    (dss_cons (ds_setix (i := 14) (de_var 13) (de_var 12))
    (dss_fz 14 (dss_cons (ds_if (dw_or (dt_cmp (o_ne hu) (de_call (ok__law_made T) (hr.mono (by decide)) T.g__law_made T.k__law_made T.b__law_made_2 .nil (fun _ _ _ => RpL.nil) tkD (da_cons (de_var 3) (da_cons (de_var 14) da_nil))) (de_lst (da_cons (de_var 12) (da_cons de_str da_nil)))) (dw_or (dt_cmp (o_ne hu) (de_call (ok__law_made T) (hr.mono (by decide)) T.g__law_made T.k__law_made T.b__law_made_2 .nil (fun _ _ _ => RpL.nil) tkD (da_cons (de_var 14) (da_cons (de_var 3) da_nil))) (de_lst (da_cons (de_var 12) (da_cons de_str da_nil)))) (dw_or1 (dt_cmp (o_ne hu) (de_call (ok__law_made T) (hr.mono (by decide)) T.g__law_made T.k__law_made T.b__law_made_2 .nil (fun _ _ _ => RpL.nil) tkD (da_cons (de_var 14) (da_cons de_non da_nil))) (de_lst (da_cons (de_var 12) (da_cons de_str da_nil))))))).dt (dss_one (ds_ret de_bl)) dss_nil)
    (dss_cons (ds_set (i := 15) nd (de_bin o_add (de_tup (da_cons (de_un o_negI de_int) da_nil)) (de_sl (de_var 4) (do_some de_int) do_none)))
    (dss_cons (ds_if (dw_or (dt_cmp (o_ne hu) (de_call (ok__law_made T) (hr.mono (by decide)) T.g__law_made T.k__law_made T.b__law_made_2 .nil (fun _ _ _ => RpL.nil) tkD (da_cons (de_var 15) (da_cons (de_var 3) da_nil))) (de_lst (da_cons de_int (da_cons de_str da_nil)))) (dw_or (dt_cmp (o_ne hu) (de_call (ok__law_made T) (hr.mono (by decide)) T.g__law_made T.k__law_made T.b__law_made_2 .nil (fun _ _ _ => RpL.nil) tkD (da_cons (de_var 3) (da_cons (de_var 15) da_nil))) (de_lst (da_cons de_int (da_cons de_str da_nil)))) (dw_or1 (dt_cmp (o_ne hu) (de_call (ok__law_made T) (hr.mono (by decide)) T.g__law_made T.k__law_made T.b__law_made_2 .nil (fun _ _ _ => RpL.nil) tkD (da_cons (de_var 11) (da_cons (de_var 14) da_nil))) (de_lst (da_cons (de_var 12) (da_cons de_str da_nil))))))).dt (dss_one (ds_ret de_bl)) dss_nil)
    (dss_one (ds_ret (de_and (de_cmp (o_ne hu) (de_call (ok__law_made T) (hr.mono (by decide)) T.g__law_made T.k__law_made T.b__law_made_2 .nil (fun _ _ _ => RpL.nil) tkD (da_cons (de_var 3) (da_cons de_non da_nil))) (de_var 3)) (de_and (de_cmp (o_eq hu) (de_call (ok__law_made T) (hr.mono (by decide)) T.g__law_made T.k__law_made T.b__law_made_2 .nil (fun _ _ _ => RpL.nil) tkD (da_cons (de_var 3) (da_cons de_non da_nil))) (de_lst (da_cons de_int (da_cons de_str da_nil)))) (de_one (de_cmp (o_eq hu) (de_ix x_ix (de_var 14) (de_var 12)) (de_var 13))))))))))))))))))))))))))))
theorem all_mk {l : PySem.W.OpenLaw} {w : World} {K : PySem.W.Frag} {h : Heap} {mg : Str → Option Value}
    {fa : Addr}
    {f__law_hand : Addr} {od__law_hand an__law_hand : Option Addr} {sl__law_hand : Array (Option Value)} {oc__law_hand kV__law_hand dc__law_hand pm__law_hand cd__law_hand ct__law_hand : Value}
    {f__law_mixed : Addr} {od__law_mixed an__law_mixed : Option Addr} {sl__law_mixed : Array (Option Value)} {oc__law_mixed kV__law_mixed dc__law_mixed pm__law_mixed cd__law_mixed ct__law_mixed : Value}
    {f__law_take : Addr} {od__law_take an__law_take : Option Addr} {sl__law_take : Array (Option Value)} {oc__law_take kV__law_take dc__law_take pm__law_take cd__law_take ct__law_take : Value}
    {f__law_count : Addr} {od__law_count an__law_count : Option Addr} {sl__law_count : Array (Option Value)} {oc__law_count kV__law_count dc__law_count pm__law_count cd__law_count ct__law_count : Value}
    {f__law_word : Addr} {od__law_word an__law_word : Option Addr} {sl__law_word : Array (Option Value)} {oc__law_word kV__law_word dc__law_word pm__law_word cd__law_word ct__law_word : Value}
    {f__law_built : Addr} {od__law_built an__law_built : Option Addr} {sl__law_built : Array (Option Value)} {oc__law_built kV__law_built dc__law_built pm__law_built cd__law_built ct__law_built : Value}
    {f__check_first : Addr} {od__check_first an__check_first : Option Addr} {sl__check_first : Array (Option Value)} {oc__check_first kV__check_first dc__check_first pm__check_first cd__check_first ct__check_first : Value}
    {f_is_row : Addr} {od_is_row an_is_row : Option Addr} {sl_is_row : Array (Option Value)} {oc_is_row kV_is_row dc_is_row pm_is_row cd_is_row ct_is_row : Value}
    {f_is_whole : Addr} {od_is_whole an_is_whole : Option Addr} {sl_is_whole : Array (Option Value)} {oc_is_whole kV_is_whole dc_is_whole pm_is_whole cd_is_whole ct_is_whole : Value}
    {T_is_whole : Addr} {odT_is_whole : Option Addr} {ocT_is_whole : Value} {nT_is_whole : Nat} {slT_is_whole : Array (Option Value)}
    {f__check_sign_row : Addr} {od__check_sign_row an__check_sign_row : Option Addr} {sl__check_sign_row : Array (Option Value)} {oc__check_sign_row kV__check_sign_row dc__check_sign_row pm__check_sign_row cd__check_sign_row ct__check_sign_row : Value}
    {f_check_signs : Addr} {od_check_signs an_check_signs : Option Addr} {sl_check_signs : Array (Option Value)} {oc_check_signs kV_check_signs dc_check_signs pm_check_signs cd_check_signs ct_check_signs : Value}
    {f_product_of : Addr} {od_product_of an_product_of : Option Addr} {sl_product_of : Array (Option Value)} {oc_product_of kV_product_of dc_product_of pm_product_of cd_product_of ct_product_of : Value}
    {f__law_made : Addr} {od__law_made an__law_made : Option Addr} {sl__law_made : Array (Option Value)} {oc__law_made kV__law_made dc__law_made pm__law_made cd__law_made ct__law_made : Value}
    {f__law_signs : Addr} {od__law_signs an__law_signs : Option Addr} {sl__law_signs : Array (Option Value)} {oc__law_signs kV__law_signs dc__law_signs pm__law_signs cd__law_signs ct__law_signs : Value}
    {f__law_poles : Addr} {od__law_poles an__law_poles : Option Addr} {sl__law_poles : Array (Option Value)} {oc__law_poles kV__law_poles dc__law_poles pm__law_poles cd__law_poles ct__law_poles : Value}
    {f__law_is_word : Addr} {od__law_is_word an__law_is_word : Option Addr} {sl__law_is_word : Array (Option Value)} {oc__law_is_word kV__law_is_word dc__law_is_word pm__law_is_word cd__law_is_word ct__law_is_word : Value}
    {f__law_product : Addr} {od__law_product an__law_product : Option Addr} {sl__law_product : Array (Option Value)} {oc__law_product kV__law_product dc__law_product pm__law_product cd__law_product ct__law_product : Value}
    {f_crossings_of : Addr} {od_crossings_of an_crossings_of : Option Addr} {sl_crossings_of : Array (Option Value)} {oc_crossings_of kV_crossings_of dc_crossings_of pm_crossings_of cd_crossings_of ct_crossings_of : Value}
    {f__law_couple : Addr} {od__law_couple an__law_couple : Option Addr} {sl__law_couple : Array (Option Value)} {oc__law_couple kV__law_couple dc__law_couple pm__law_couple cd__law_couple ct__law_couple : Value}
    {f_law : Addr} {od_law an_law : Option Addr} {sl_law : Array (Option Value)} {oc_law kV_law dc_law pm_law cd_law ct_law : Value}
    {C_BadWord i_BadWord : Addr} {nm_BadWord q_BadWord : Str} {N_BadWord : Addr} {bs_BadWord bm_BadWord : List Value} {sn_BadWord : List Str} {sub_BadWord : List Value} {ab_BadWord : Bool} {col_BadWord : Option Bool} {dd_BadWord : Option Addr} {m0_BadWord m1_BadWord m2_BadWord m3_BadWord m5_BadWord : Option Value}
    {odi_BadWord ani_BadWord : Option Addr} {sli_BadWord : Array (Option Value)} {oci_BadWord kVi_BadWord dci_BadWord pmi_BadWord cdi_BadWord cti_BadWord : Value}
    {t_MOST_SECTIONS : Tok}
    (X : K.In h) (G : h.Ns mainGlobals mg) (hfa : mg "law" = some (.ref fa))
    (a__law_hand : PySem.W.nsIn K mainGlobals "_law_hand" = some (some (.ref f__law_hand)))
    (l__law_hand : K.lookup f__law_hand = some ⟨oc__law_hand, od__law_hand, .func (PySem.W.fnOf "_law_hand" "_law_hand" (defArgs s__law_hand) (defBody s__law_hand) (defScope s__law_hand) .none kV__law_hand dc__law_hand pm__law_hand an__law_hand cd__law_hand ct__law_hand), sl__law_hand⟩)
    (c__law_hand : PySem.W.codeIn K cd__law_hand "_law_hand" = true)
    (k__law_hand : PySem.W.keepIn K (.ref f__law_hand) = true)
    (a__law_mixed : PySem.W.nsIn K mainGlobals "_law_mixed" = some (some (.ref f__law_mixed)))
    (l__law_mixed : K.lookup f__law_mixed = some ⟨oc__law_mixed, od__law_mixed, .func (PySem.W.fnOf "_law_mixed" "_law_mixed" (defArgs s__law_mixed) (defBody s__law_mixed) (defScope s__law_mixed) .none kV__law_mixed dc__law_mixed pm__law_mixed an__law_mixed cd__law_mixed ct__law_mixed), sl__law_mixed⟩)
    (c__law_mixed : PySem.W.codeIn K cd__law_mixed "_law_mixed" = true)
    (k__law_mixed : PySem.W.keepIn K (.ref f__law_mixed) = true)
    (a__law_take : PySem.W.nsIn K mainGlobals "_law_take" = some (some (.ref f__law_take)))
    (l__law_take : K.lookup f__law_take = some ⟨oc__law_take, od__law_take, .func (PySem.W.fnOf "_law_take" "_law_take" (defArgs s__law_take) (defBody s__law_take) (defScope s__law_take) .none kV__law_take dc__law_take pm__law_take an__law_take cd__law_take ct__law_take), sl__law_take⟩)
    (c__law_take : PySem.W.codeIn K cd__law_take "_law_take" = true)
    (k__law_take : PySem.W.keepIn K (.ref f__law_take) = true)
    (a__law_count : PySem.W.nsIn K mainGlobals "_law_count" = some (some (.ref f__law_count)))
    (l__law_count : K.lookup f__law_count = some ⟨oc__law_count, od__law_count, .func (PySem.W.fnOf "_law_count" "_law_count" (defArgs s__law_count) (defBody s__law_count) (defScope s__law_count) .none kV__law_count dc__law_count pm__law_count an__law_count cd__law_count ct__law_count), sl__law_count⟩)
    (c__law_count : PySem.W.codeIn K cd__law_count "_law_count" = true)
    (k__law_count : PySem.W.keepIn K (.ref f__law_count) = true)
    (a__law_word : PySem.W.nsIn K mainGlobals "_law_word" = some (some (.ref f__law_word)))
    (l__law_word : K.lookup f__law_word = some ⟨oc__law_word, od__law_word, .func (PySem.W.fnOf "_law_word" "_law_word" (defArgs s__law_word) (defBody s__law_word) (defScope s__law_word) .none kV__law_word dc__law_word pm__law_word an__law_word cd__law_word ct__law_word), sl__law_word⟩)
    (c__law_word : PySem.W.codeIn K cd__law_word "_law_word" = true)
    (k__law_word : PySem.W.keepIn K (.ref f__law_word) = true)
    (a__law_built : PySem.W.nsIn K mainGlobals "_law_built" = some (some (.ref f__law_built)))
    (l__law_built : K.lookup f__law_built = some ⟨oc__law_built, od__law_built, .func (PySem.W.fnOf "_law_built" "_law_built" (defArgs s__law_built) (defBody s__law_built) (defScope s__law_built) .none kV__law_built dc__law_built pm__law_built an__law_built cd__law_built ct__law_built), sl__law_built⟩)
    (c__law_built : PySem.W.codeIn K cd__law_built "_law_built" = true)
    (k__law_built : PySem.W.keepIn K (.ref f__law_built) = true)
    (a__check_first : PySem.W.nsIn K mainGlobals "_check_first" = some (some (.ref f__check_first)))
    (l__check_first : K.lookup f__check_first = some ⟨oc__check_first, od__check_first, .func (PySem.W.fnOf "_check_first" "_check_first" (defArgs s__check_first) (defBody s__check_first) (defScope s__check_first) .none kV__check_first dc__check_first pm__check_first an__check_first cd__check_first ct__check_first), sl__check_first⟩)
    (c__check_first : PySem.W.codeIn K cd__check_first "_check_first" = true)
    (k__check_first : PySem.W.keepIn K (.ref f__check_first) = true)
    (a_is_row : PySem.W.nsIn K mainGlobals "is_row" = some (some (.ref f_is_row)))
    (l_is_row : K.lookup f_is_row = some ⟨oc_is_row, od_is_row, .func (PySem.W.fnOf "is_row" "is_row" (defArgs s_is_row) (defBody s_is_row) (defScope s_is_row) .none kV_is_row dc_is_row pm_is_row an_is_row cd_is_row ct_is_row), sl_is_row⟩)
    (c_is_row : PySem.W.codeIn K cd_is_row "is_row" = true)
    (k_is_row : PySem.W.keepIn K (.ref f_is_row) = true)
    (a_is_whole : PySem.W.nsIn K mainGlobals "is_whole" = some (some (.ref f_is_whole)))
    (l_is_whole : K.lookup f_is_whole = some ⟨oc_is_whole, od_is_whole, .func (PySem.W.fnOf "is_whole" "is_whole" (defArgs s_is_whole) (defBody s_is_whole) (defScope s_is_whole) (.ref T_is_whole) kV_is_whole dc_is_whole pm_is_whole an_is_whole cd_is_whole ct_is_whole), sl_is_whole⟩)
    (c_is_whole : PySem.W.codeIn K cd_is_whole "is_whole" = true)
    (k_is_whole : PySem.W.keepIn K (.ref f_is_whole) = true)
    (t_is_whole : K.lookup T_is_whole = some ⟨ocT_is_whole, odT_is_whole, .seq (List.toArray [.none, .none]) nT_is_whole, slT_is_whole⟩)
    (a__check_sign_row : PySem.W.nsIn K mainGlobals "_check_sign_row" = some (some (.ref f__check_sign_row)))
    (l__check_sign_row : K.lookup f__check_sign_row = some ⟨oc__check_sign_row, od__check_sign_row, .func (PySem.W.fnOf "_check_sign_row" "_check_sign_row" (defArgs s__check_sign_row) (defBody s__check_sign_row) (defScope s__check_sign_row) .none kV__check_sign_row dc__check_sign_row pm__check_sign_row an__check_sign_row cd__check_sign_row ct__check_sign_row), sl__check_sign_row⟩)
    (c__check_sign_row : PySem.W.codeIn K cd__check_sign_row "_check_sign_row" = true)
    (k__check_sign_row : PySem.W.keepIn K (.ref f__check_sign_row) = true)
    (a_check_signs : PySem.W.nsIn K mainGlobals "check_signs" = some (some (.ref f_check_signs)))
    (l_check_signs : K.lookup f_check_signs = some ⟨oc_check_signs, od_check_signs, .func (PySem.W.fnOf "check_signs" "check_signs" (defArgs s_check_signs) (defBody s_check_signs) (defScope s_check_signs) .none kV_check_signs dc_check_signs pm_check_signs an_check_signs cd_check_signs ct_check_signs), sl_check_signs⟩)
    (c_check_signs : PySem.W.codeIn K cd_check_signs "check_signs" = true)
    (k_check_signs : PySem.W.keepIn K (.ref f_check_signs) = true)
    (a_product_of : PySem.W.nsIn K mainGlobals "product_of" = some (some (.ref f_product_of)))
    (l_product_of : K.lookup f_product_of = some ⟨oc_product_of, od_product_of, .func (PySem.W.fnOf "product_of" "product_of" (defArgs s_product_of) (defBody s_product_of) (defScope s_product_of) .none kV_product_of dc_product_of pm_product_of an_product_of cd_product_of ct_product_of), sl_product_of⟩)
    (c_product_of : PySem.W.codeIn K cd_product_of "product_of" = true)
    (k_product_of : PySem.W.keepIn K (.ref f_product_of) = true)
    (a__law_made : PySem.W.nsIn K mainGlobals "_law_made" = some (some (.ref f__law_made)))
    (l__law_made : K.lookup f__law_made = some ⟨oc__law_made, od__law_made, .func (PySem.W.fnOf "_law_made" "_law_made" (defArgs s__law_made) (defBody s__law_made) (defScope s__law_made) .none kV__law_made dc__law_made pm__law_made an__law_made cd__law_made ct__law_made), sl__law_made⟩)
    (c__law_made : PySem.W.codeIn K cd__law_made "_law_made" = true)
    (k__law_made : PySem.W.keepIn K (.ref f__law_made) = true)
    (a__law_signs : PySem.W.nsIn K mainGlobals "_law_signs" = some (some (.ref f__law_signs)))
    (l__law_signs : K.lookup f__law_signs = some ⟨oc__law_signs, od__law_signs, .func (PySem.W.fnOf "_law_signs" "_law_signs" (defArgs s__law_signs) (defBody s__law_signs) (defScope s__law_signs) .none kV__law_signs dc__law_signs pm__law_signs an__law_signs cd__law_signs ct__law_signs), sl__law_signs⟩)
    (c__law_signs : PySem.W.codeIn K cd__law_signs "_law_signs" = true)
    (k__law_signs : PySem.W.keepIn K (.ref f__law_signs) = true)
    (a__law_poles : PySem.W.nsIn K mainGlobals "_law_poles" = some (some (.ref f__law_poles)))
    (l__law_poles : K.lookup f__law_poles = some ⟨oc__law_poles, od__law_poles, .func (PySem.W.fnOf "_law_poles" "_law_poles" (defArgs s__law_poles) (defBody s__law_poles) (defScope s__law_poles) .none kV__law_poles dc__law_poles pm__law_poles an__law_poles cd__law_poles ct__law_poles), sl__law_poles⟩)
    (c__law_poles : PySem.W.codeIn K cd__law_poles "_law_poles" = true)
    (k__law_poles : PySem.W.keepIn K (.ref f__law_poles) = true)
    (a__law_is_word : PySem.W.nsIn K mainGlobals "_law_is_word" = some (some (.ref f__law_is_word)))
    (l__law_is_word : K.lookup f__law_is_word = some ⟨oc__law_is_word, od__law_is_word, .func (PySem.W.fnOf "_law_is_word" "_law_is_word" (defArgs s__law_is_word) (defBody s__law_is_word) (defScope s__law_is_word) .none kV__law_is_word dc__law_is_word pm__law_is_word an__law_is_word cd__law_is_word ct__law_is_word), sl__law_is_word⟩)
    (c__law_is_word : PySem.W.codeIn K cd__law_is_word "_law_is_word" = true)
    (k__law_is_word : PySem.W.keepIn K (.ref f__law_is_word) = true)
    (a__law_product : PySem.W.nsIn K mainGlobals "_law_product" = some (some (.ref f__law_product)))
    (l__law_product : K.lookup f__law_product = some ⟨oc__law_product, od__law_product, .func (PySem.W.fnOf "_law_product" "_law_product" (defArgs s__law_product) (defBody s__law_product) (defScope s__law_product) .none kV__law_product dc__law_product pm__law_product an__law_product cd__law_product ct__law_product), sl__law_product⟩)
    (c__law_product : PySem.W.codeIn K cd__law_product "_law_product" = true)
    (k__law_product : PySem.W.keepIn K (.ref f__law_product) = true)
    (a_crossings_of : PySem.W.nsIn K mainGlobals "crossings_of" = some (some (.ref f_crossings_of)))
    (l_crossings_of : K.lookup f_crossings_of = some ⟨oc_crossings_of, od_crossings_of, .func (PySem.W.fnOf "crossings_of" "crossings_of" (defArgs s_crossings_of) (defBody s_crossings_of) (defScope s_crossings_of) .none kV_crossings_of dc_crossings_of pm_crossings_of an_crossings_of cd_crossings_of ct_crossings_of), sl_crossings_of⟩)
    (c_crossings_of : PySem.W.codeIn K cd_crossings_of "crossings_of" = true)
    (k_crossings_of : PySem.W.keepIn K (.ref f_crossings_of) = true)
    (a__law_couple : PySem.W.nsIn K mainGlobals "_law_couple" = some (some (.ref f__law_couple)))
    (l__law_couple : K.lookup f__law_couple = some ⟨oc__law_couple, od__law_couple, .func (PySem.W.fnOf "_law_couple" "_law_couple" (defArgs s__law_couple) (defBody s__law_couple) (defScope s__law_couple) .none kV__law_couple dc__law_couple pm__law_couple an__law_couple cd__law_couple ct__law_couple), sl__law_couple⟩)
    (c__law_couple : PySem.W.codeIn K cd__law_couple "_law_couple" = true)
    (k__law_couple : PySem.W.keepIn K (.ref f__law_couple) = true)
    (a_law : PySem.W.nsIn K mainGlobals "law" = some (some (.ref f_law)))
    (l_law : K.lookup f_law = some ⟨oc_law, od_law, .func (PySem.W.fnOf "law" "law" (defArgs s_law) (defBody s_law) (defScope s_law) .none kV_law dc_law pm_law an_law cd_law ct_law), sl_law⟩)
    (c_law : PySem.W.codeIn K cd_law "law" = true)
    (k_law : PySem.W.keepIn K (.ref f_law) = true)
    (aC_BadWord : PySem.W.nsIn K mainGlobals "BadWord" = some (some (.ref C_BadWord)))
    (xL_BadWord : K.lookup C_BadWord = some (excClassObj nm_BadWord q_BadWord C_BadWord N_BadWord bs_BadWord bm_BadWord true sn_BadWord sub_BadWord ab_BadWord col_BadWord dd_BadWord m0_BadWord m1_BadWord m2_BadWord m3_BadWord m5_BadWord "ValueError.__new__"))
    (ve_BadWord : PySem.HandSPX.refsVE bm_BadWord = true)
    (sa_BadWord : PySem.W.findIn K (.ref C_BadWord) "__setattr__" = some (some (.builtin "object.__setattr__")))
    (ga_BadWord : PySem.W.findIn K (.ref C_BadWord) "__getattribute__" = some (some (.builtin "BaseException.__getattribute__")))
    (gg_BadWord : PySem.W.findIn K (.ref C_BadWord) "__getattr__" = some none)
    (ex_BadWord : PySem.W.subIn K (.ref C_BadWord) (.type "BaseException") = some true)
    (ty_BadWord : PySem.W.typeIn K (.ref C_BadWord) = some (.type "type"))
    (kC_BadWord : PySem.W.keepIn K (.ref C_BadWord) = true)
    (hd_BadWord : PySem.W.hasDictIn K C_BadWord = true)
    (no_BadWord_index : PySem.W.findIn K (.ref C_BadWord) "index" = some none)
    (no_BadWord_what : PySem.W.findIn K (.ref C_BadWord) "what" = some none)
    (ai_BadWord : PySem.W.findIn K (.ref C_BadWord) "__init__" = some (some (.ref i_BadWord)))
    (ti_BadWord : PySem.W.typeIn K (.ref i_BadWord) = some (.type "function"))
    (li_BadWord : K.lookup i_BadWord = some ⟨oci_BadWord, odi_BadWord, .func (PySem.W.fnOf "__init__" "BadWord.__init__" (defArgs si_BadWord) (defBody si_BadWord) (defScope si_BadWord) .none kVi_BadWord dci_BadWord pmi_BadWord ani_BadWord cdi_BadWord cti_BadWord), sli_BadWord⟩)
    (ci_BadWord : PySem.W.codeIn K cdi_BadWord "BadWord.__init__" = true)
    (ki_BadWord : PySem.W.keepIn K (.ref i_BadWord) = true)
    (te_BadWord_BadWord : PySem.W.subIn K (.ref C_BadWord) (.ref C_BadWord) = some true)
    (ic_BadWord : PySem.W.isClsIn K C_BadWord = true)
    (z_bool : PySem.W.nsIn K mainGlobals "bool" = some none)
    (z_enumerate : PySem.W.nsIn K mainGlobals "enumerate" = some none)
    (z_int : PySem.W.nsIn K mainGlobals "int" = some none)
    (z_isinstance : PySem.W.nsIn K mainGlobals "isinstance" = some none)
    (z_len : PySem.W.nsIn K mainGlobals "len" = some none)
    (z_list : PySem.W.nsIn K mainGlobals "list" = some none)
    (z_range : PySem.W.nsIn K mainGlobals "range" = some none)
    (z_tuple : PySem.W.nsIn K mainGlobals "tuple" = some none)
    (z_zip : PySem.W.nsIn K mainGlobals "zip" = some none)
    (w_MOST_SECTIONS : PySem.W.nsIn K mainGlobals "MOST_SECTIONS" = some (some (.int 24 t_MOST_SECTIONS)))
    (hm : ∀ ns : List Int, ns.length ≤ 63 → (∀ z ∈ ns, Builtin.Int.intBits z ≤ 1048576) → m_law [.dat (.slst (ns.map D.int))] = .ok (.bl true) none) :
    ∃ fd : FuncData, (∀ (s : Shared) (v : Value), BindsTo s fd ⟨[v], []⟩ [("_law_script", v)]) ∧ ∀ base : Heap, K.In base → base.Ns mainGlobals mg → FnOk l.prog w K mg base (L2.CX l.prog w) 8 fa fd ["_law_script"] (spLaw K) := by
  have e := hfa.symm.trans (PySem.W.mg_of X G a_law)
  cases e
  have F0__law_hand := fun_mk (st := s__law_hand) l__law_hand c__law_hand k__law_hand
  have b0__law_hand := F0__law_hand.binds (ps := P__law_hand) fun _ _ _ _ _ _ us hl => match us, hl with | [_], _ => rfl
  obtain ⟨fd__law_hand, F__law_hand, b__law_hand_1⟩ : ∃ fd, L2.Fun K "_law_hand" "_law_hand" s__law_hand f__law_hand fd ∧ Binds K fd P__law_hand [] := ⟨_, F0__law_hand, b0__law_hand⟩
  have F0__law_mixed := fun_mk (st := s__law_mixed) l__law_mixed c__law_mixed k__law_mixed
  have b0__law_mixed := F0__law_mixed.binds (ps := P__law_mixed) fun _ _ _ _ _ _ us hl => match us, hl with | [_, _], _ => rfl
  obtain ⟨fd__law_mixed, F__law_mixed, b__law_mixed_2⟩ : ∃ fd, L2.Fun K "_law_mixed" "_law_mixed" s__law_mixed f__law_mixed fd ∧ Binds K fd P__law_mixed [] := ⟨_, F0__law_mixed, b0__law_mixed⟩
  have F0__law_take := fun_mk (st := s__law_take) l__law_take c__law_take k__law_take
  have b0__law_take := F0__law_take.binds (ps := P__law_take) fun _ _ _ _ _ _ us hl => match us, hl with | [_, _], _ => rfl
  obtain ⟨fd__law_take, F__law_take, b__law_take_2⟩ : ∃ fd, L2.Fun K "_law_take" "_law_take" s__law_take f__law_take fd ∧ Binds K fd P__law_take [] := ⟨_, F0__law_take, b0__law_take⟩
  have F0__law_count := fun_mk (st := s__law_count) l__law_count c__law_count k__law_count
  have b0__law_count := F0__law_count.binds (ps := P__law_count) fun _ _ _ _ _ _ us hl => match us, hl with | [_], _ => rfl
  obtain ⟨fd__law_count, F__law_count, b__law_count_1⟩ : ∃ fd, L2.Fun K "_law_count" "_law_count" s__law_count f__law_count fd ∧ Binds K fd P__law_count [] := ⟨_, F0__law_count, b0__law_count⟩
  have F0__law_word := fun_mk (st := s__law_word) l__law_word c__law_word k__law_word
  have b0__law_word := F0__law_word.binds (ps := P__law_word) fun _ _ _ _ _ _ us hl => match us, hl with | [_, _], _ => rfl
  obtain ⟨fd__law_word, F__law_word, b__law_word_2⟩ : ∃ fd, L2.Fun K "_law_word" "_law_word" s__law_word f__law_word fd ∧ Binds K fd P__law_word [] := ⟨_, F0__law_word, b0__law_word⟩
  have F0__law_built := fun_mk (st := s__law_built) l__law_built c__law_built k__law_built
  have b0__law_built := F0__law_built.binds (ps := P__law_built) fun _ _ _ _ _ _ us hl => match us, hl with | [_, _], _ => rfl
  obtain ⟨fd__law_built, F__law_built, b__law_built_2⟩ : ∃ fd, L2.Fun K "_law_built" "_law_built" s__law_built f__law_built fd ∧ Binds K fd P__law_built [] := ⟨_, F0__law_built, b0__law_built⟩
  have F0__check_first := fun_mk (st := s__check_first) l__check_first c__check_first k__check_first
  have b0__check_first := F0__check_first.binds (ps := P__check_first) fun _ _ _ _ _ _ us hl => match us, hl with | [_], _ => rfl
  obtain ⟨fd__check_first, F__check_first, b__check_first_1⟩ : ∃ fd, L2.Fun K "_check_first" "_check_first" s__check_first f__check_first fd ∧ Binds K fd P__check_first [] := ⟨_, F0__check_first, b0__check_first⟩
  have F0_is_row := fun_mk (st := s_is_row) l_is_row c_is_row k_is_row
  have b0_is_row := F0_is_row.binds (ps := P_is_row) fun _ _ _ _ _ _ us hl => match us, hl with | [_, _, _], _ => rfl
  obtain ⟨fd_is_row, F_is_row, b_is_row_3⟩ : ∃ fd, L2.Fun K "is_row" "is_row" s_is_row f_is_row fd ∧ Binds K fd P_is_row [] := ⟨_, F0_is_row, b0_is_row⟩
  obtain ⟨fd_is_whole, F_is_whole⟩ : ∃ fd, L2.FunD K "is_whole" "is_whole" (defArgs s_is_whole) (defBody s_is_whole) (defScope s_is_whole) [.non, .non] [] f_is_whole fd := ⟨_, ⟨_, _, _, _, _, _, _, _, _, _, rfl, l_is_whole, c_is_whole, dfl_mk t_is_whole (.cons rfl (.cons rfl .nil)) (by simp), .inl rfl⟩, k_is_whole⟩
  have b_is_whole_3 : Binds K fd_is_whole P_is_whole [] := by
    obtain ⟨ds, v, b⟩ := F_is_whole.binds1 (ps := P_is_whole) 3 2 (by simp) (by decide) fun _ _ _ _ _ _ _ us its hl h2 => match us, hl, its, h2 with | [_, _, _], _, [_, _], _ => ⟨_, rfl, rfl⟩
    cases v
    exact b
  have F0__check_sign_row := fun_mk (st := s__check_sign_row) l__check_sign_row c__check_sign_row k__check_sign_row
  have b0__check_sign_row := F0__check_sign_row.binds (ps := P__check_sign_row) fun _ _ _ _ _ _ us hl => match us, hl with | [_, _, _], _ => rfl
  obtain ⟨fd__check_sign_row, F__check_sign_row, b__check_sign_row_3⟩ : ∃ fd, L2.Fun K "_check_sign_row" "_check_sign_row" s__check_sign_row f__check_sign_row fd ∧ Binds K fd P__check_sign_row [] := ⟨_, F0__check_sign_row, b0__check_sign_row⟩
  have F0_check_signs := fun_mk (st := s_check_signs) l_check_signs c_check_signs k_check_signs
  have b0_check_signs := F0_check_signs.binds (ps := P_check_signs) fun _ _ _ _ _ _ us hl => match us, hl with | [_], _ => rfl
  obtain ⟨fd_check_signs, F_check_signs, b_check_signs_1⟩ : ∃ fd, L2.Fun K "check_signs" "check_signs" s_check_signs f_check_signs fd ∧ Binds K fd P_check_signs [] := ⟨_, F0_check_signs, b0_check_signs⟩
  have F0_product_of := fun_mk (st := s_product_of) l_product_of c_product_of k_product_of
  have b0_product_of := F0_product_of.binds (ps := P_product_of) fun _ _ _ _ _ _ us hl => match us, hl with | [_, _], _ => rfl
  obtain ⟨fd_product_of, F_product_of, b_product_of_2⟩ : ∃ fd, L2.Fun K "product_of" "product_of" s_product_of f_product_of fd ∧ Binds K fd P_product_of [] := ⟨_, F0_product_of, b0_product_of⟩
  have F0__law_made := fun_mk (st := s__law_made) l__law_made c__law_made k__law_made
  have b0__law_made := F0__law_made.binds (ps := P__law_made) fun _ _ _ _ _ _ us hl => match us, hl with | [_, _], _ => rfl
  obtain ⟨fd__law_made, F__law_made, b__law_made_2⟩ : ∃ fd, L2.Fun K "_law_made" "_law_made" s__law_made f__law_made fd ∧ Binds K fd P__law_made [] := ⟨_, F0__law_made, b0__law_made⟩
  have F0__law_signs := fun_mk (st := s__law_signs) l__law_signs c__law_signs k__law_signs
  have b0__law_signs := F0__law_signs.binds (ps := P__law_signs) fun _ _ _ _ _ _ us hl => match us, hl with | [_, _], _ => rfl
  obtain ⟨fd__law_signs, F__law_signs, b__law_signs_2⟩ : ∃ fd, L2.Fun K "_law_signs" "_law_signs" s__law_signs f__law_signs fd ∧ Binds K fd P__law_signs [] := ⟨_, F0__law_signs, b0__law_signs⟩
  have F0__law_poles := fun_mk (st := s__law_poles) l__law_poles c__law_poles k__law_poles
  have b0__law_poles := F0__law_poles.binds (ps := P__law_poles) fun _ _ _ _ _ _ us hl => match us, hl with | [_], _ => rfl
  obtain ⟨fd__law_poles, F__law_poles, b__law_poles_1⟩ : ∃ fd, L2.Fun K "_law_poles" "_law_poles" s__law_poles f__law_poles fd ∧ Binds K fd P__law_poles [] := ⟨_, F0__law_poles, b0__law_poles⟩
  have F0__law_is_word := fun_mk (st := s__law_is_word) l__law_is_word c__law_is_word k__law_is_word
  have b0__law_is_word := F0__law_is_word.binds (ps := P__law_is_word) fun _ _ _ _ _ _ us hl => match us, hl with | [_, _], _ => rfl
  obtain ⟨fd__law_is_word, F__law_is_word, b__law_is_word_2⟩ : ∃ fd, L2.Fun K "_law_is_word" "_law_is_word" s__law_is_word f__law_is_word fd ∧ Binds K fd P__law_is_word [] := ⟨_, F0__law_is_word, b0__law_is_word⟩
  have F0__law_product := fun_mk (st := s__law_product) l__law_product c__law_product k__law_product
  have b0__law_product := F0__law_product.binds (ps := P__law_product) fun _ _ _ _ _ _ us hl => match us, hl with | [_, _], _ => rfl
  obtain ⟨fd__law_product, F__law_product, b__law_product_2⟩ : ∃ fd, L2.Fun K "_law_product" "_law_product" s__law_product f__law_product fd ∧ Binds K fd P__law_product [] := ⟨_, F0__law_product, b0__law_product⟩
  have F0_crossings_of := fun_mk (st := s_crossings_of) l_crossings_of c_crossings_of k_crossings_of
  have b0_crossings_of := F0_crossings_of.binds (ps := P_crossings_of) fun _ _ _ _ _ _ us hl => match us, hl with | [_], _ => rfl
  obtain ⟨fd_crossings_of, F_crossings_of, b_crossings_of_1⟩ : ∃ fd, L2.Fun K "crossings_of" "crossings_of" s_crossings_of f_crossings_of fd ∧ Binds K fd P_crossings_of [] := ⟨_, F0_crossings_of, b0_crossings_of⟩
  have F0__law_couple := fun_mk (st := s__law_couple) l__law_couple c__law_couple k__law_couple
  have b0__law_couple := F0__law_couple.binds (ps := P__law_couple) fun _ _ _ _ _ _ us hl => match us, hl with | [_, _], _ => rfl
  obtain ⟨fd__law_couple, F__law_couple, b__law_couple_2⟩ : ∃ fd, L2.Fun K "_law_couple" "_law_couple" s__law_couple f__law_couple fd ∧ Binds K fd P__law_couple [] := ⟨_, F0__law_couple, b0__law_couple⟩
  have F0_law := fun_mk (st := s_law) l_law c_law k_law
  have F_law := F0_law
  have Fi0_BadWord := fun_mk (st := si_BadWord) li_BadWord ci_BadWord ki_BadWord
  have bi0_BadWord := Fi0_BadWord.binds (ps := ["self", "index", "what"]) fun _ _ _ _ _ _ us hl => match us, hl with | [_, _, _], _ => rfl
  obtain ⟨fdi_BadWord, Fi_BadWord, bi_BadWord⟩ : ∃ fd, L2.Fun K "__init__" "BadWord.__init__" si_BadWord i_BadWord fd ∧ Binds K fd ["self", "index", "what"] [] := ⟨_, Fi0_BadWord, bi0_BadWord⟩
  have o_BadWord : OexC K C_BadWord := ⟨⟨_, _, _, _, _, _, _, _, _, _, _, _, _, _, _, xL_BadWord, ve_BadWord⟩, sa_BadWord, ex_BadWord, ty_BadWord, kC_BadWord⟩
  have gC_BadWord := PySem.W.mg_of X G aC_BadWord
  have e_BadWord : ErrC K mg "BadWord" C_BadWord i_BadWord ["index", "what"] := ⟨o_BadWord, gC_BadWord, fun f hf => by
    simp only [List.mem_cons, List.not_mem_nil, or_false] at hf
    rcases hf with rfl | rfl
    · exact no_BadWord_index
    · exact no_BadWord_what, ai_BadWord, ti_BadWord, by decide, by decide⟩
  let a : Ad := ⟨f__law_hand, fd__law_hand, f__law_mixed, fd__law_mixed, f__law_take, fd__law_take, f__law_count, fd__law_count, f__law_word, fd__law_word, f__law_built, fd__law_built, f__check_first, fd__check_first, f_is_row, fd_is_row, f_is_whole, fd_is_whole, f__check_sign_row, fd__check_sign_row, f_check_signs, fd_check_signs, f_product_of, fd_product_of, f__law_made, fd__law_made, f__law_signs, fd__law_signs, f__law_poles, fd__law_poles, f__law_is_word, fd__law_is_word, f__law_product, fd__law_product, f_crossings_of, fd_crossings_of, f__law_couple, fd__law_couple, fa, (PySem.W.fnOf "law" "law" (defArgs s_law) (defBody s_law) (defScope s_law) .none kV_law dc_law pm_law an_law cd_law ct_law), C_BadWord, i_BadWord, fdi_BadWord, ()⟩
  have T : Tx K mg a := {
    F__law_hand := F__law_hand
    g__law_hand := PySem.W.mg_of X G a__law_hand
    k__law_hand := k__law_hand
    b__law_hand_1 := b__law_hand_1
    F__law_mixed := F__law_mixed
    g__law_mixed := PySem.W.mg_of X G a__law_mixed
    k__law_mixed := k__law_mixed
    b__law_mixed_2 := b__law_mixed_2
    F__law_take := F__law_take
    g__law_take := PySem.W.mg_of X G a__law_take
    k__law_take := k__law_take
    b__law_take_2 := b__law_take_2
    F__law_count := F__law_count
    g__law_count := PySem.W.mg_of X G a__law_count
    k__law_count := k__law_count
    b__law_count_1 := b__law_count_1
    F__law_word := F__law_word
    g__law_word := PySem.W.mg_of X G a__law_word
    k__law_word := k__law_word
    b__law_word_2 := b__law_word_2
    F__law_built := F__law_built
    g__law_built := PySem.W.mg_of X G a__law_built
    k__law_built := k__law_built
    b__law_built_2 := b__law_built_2
    F__check_first := F__check_first
    g__check_first := PySem.W.mg_of X G a__check_first
    k__check_first := k__check_first
    b__check_first_1 := b__check_first_1
    F_is_row := F_is_row
    g_is_row := PySem.W.mg_of X G a_is_row
    k_is_row := k_is_row
    b_is_row_3 := b_is_row_3
    F_is_whole := F_is_whole
    g_is_whole := PySem.W.mg_of X G a_is_whole
    k_is_whole := k_is_whole
    b_is_whole_3 := b_is_whole_3
    F__check_sign_row := F__check_sign_row
    g__check_sign_row := PySem.W.mg_of X G a__check_sign_row
    k__check_sign_row := k__check_sign_row
    b__check_sign_row_3 := b__check_sign_row_3
    F_check_signs := F_check_signs
    g_check_signs := PySem.W.mg_of X G a_check_signs
    k_check_signs := k_check_signs
    b_check_signs_1 := b_check_signs_1
    F_product_of := F_product_of
    g_product_of := PySem.W.mg_of X G a_product_of
    k_product_of := k_product_of
    b_product_of_2 := b_product_of_2
    F__law_made := F__law_made
    g__law_made := PySem.W.mg_of X G a__law_made
    k__law_made := k__law_made
    b__law_made_2 := b__law_made_2
    F__law_signs := F__law_signs
    g__law_signs := PySem.W.mg_of X G a__law_signs
    k__law_signs := k__law_signs
    b__law_signs_2 := b__law_signs_2
    F__law_poles := F__law_poles
    g__law_poles := PySem.W.mg_of X G a__law_poles
    k__law_poles := k__law_poles
    b__law_poles_1 := b__law_poles_1
    F__law_is_word := F__law_is_word
    g__law_is_word := PySem.W.mg_of X G a__law_is_word
    k__law_is_word := k__law_is_word
    b__law_is_word_2 := b__law_is_word_2
    F__law_product := F__law_product
    g__law_product := PySem.W.mg_of X G a__law_product
    k__law_product := k__law_product
    b__law_product_2 := b__law_product_2
    F_crossings_of := F_crossings_of
    g_crossings_of := PySem.W.mg_of X G a_crossings_of
    k_crossings_of := k_crossings_of
    b_crossings_of_1 := b_crossings_of_1
    F__law_couple := F__law_couple
    g__law_couple := PySem.W.mg_of X G a__law_couple
    k__law_couple := k__law_couple
    b__law_couple_2 := b__law_couple_2
    F_law := F_law
    g_BadWord := gC_BadWord
    e_BadWord := e_BadWord
    x_BadWord := ⟨ga_BadWord, gg_BadWord, ex_BadWord, hd_BadWord⟩
    Fi_BadWord := Fi_BadWord
    bi_BadWord := bi_BadWord
    n_BadWord_index := no_BadWord_index
    n_BadWord_what := no_BadWord_what
    t_BadWord_BadWord := exm_of ex_BadWord ic_BadWord ty_BadWord te_BadWord_BadWord
    n_bool := PySem.W.mg_none_of X G z_bool
    n_enumerate := PySem.W.mg_none_of X G z_enumerate
    n_int := PySem.W.mg_none_of X G z_int
    n_isinstance := PySem.W.mg_none_of X G z_isinstance
    n_len := PySem.W.mg_none_of X G z_len
    n_list := PySem.W.mg_none_of X G z_list
    n_range := PySem.W.mg_none_of X G z_range
    n_tuple := PySem.W.mg_none_of X G z_tuple
    n_zip := PySem.W.mg_none_of X G z_zip
    c_MOST_SECTIONS := ⟨_, PySem.W.mg_of X G w_MOST_SECTIONS, ⟨_, rfl⟩⟩ }
  exact ⟨_, fun s v => .of_eq rfl, fun base _ _ => (ok_law T).imp (law_imp hm)⟩
end
end K07

set_option Elab.async false
set_option linter.all false
set_option maxRecDepth 100000
set_option autoImplicit false
namespace K07
open PySem PySem.Spec PyProof.Rows L2 DL
theorem mixed_ok {a b : Int} (ha : Sm a) (hb : Sm b) : ∃ r : Int, m__law_mixed [.dat (.int a), .dat (.int b)] = .ok (.int r) none := by
  unfold m__law_mixed
  rw [mk_out]
  simp [g__law_mixed, mulD_s, modI_int, fdvI_s, ha, hb, sm_mod]
/-- the hand: cells, two places, the rest, the total -/
def HandOk (h : List D) : Prop := ∃ (cs : List Int) (a b c : Int), h = [.lst (cs.map .int), .int a, .int b, .int c] ∧ (∀ x ∈ cs, 0 ≤ x) ∧ cs.length ≤ 63 ∧ 0 ≤ a ∧ a ≤ cs.length ∧ 0 ≤ b ∧ 0 ≤ c ∧ c < 2147483629
theorem take_ok {h : List D} {m : Int} (hh : HandOk h) (m0 : 0 < m) (m1 : Sm m) : ∃ (r : Int) (h' : List D), 0 ≤ r ∧ r < m ∧ HandOk h' ∧ m__law_take [.par 0 (.lst h), .dat (.int m)] = .ok (.int r) (some (.lst h')) := by
  obtain ⟨cs, a, b, c, rfl, hc, hl, a0, al, b0, c0, cl⟩ := hh
  unfold m__law_take
  rw [mk_out]
  have mx : ∀ x y : Int, Sm x → Sm y → ∃ r : Int, m__law_mixed [.dat (.int x), .dat (.int y)] = .ok (.int r) none := fun x y h1 h2 => by
    exact mixed_ok h1 h2
  have rm : ∀ x : Int, 0 ≤ x % m ∧ x % m < m := fun x => ⟨Int.emod_nonneg x (by omega), Int.emod_lt_of_pos x m0⟩
  have p18 : powI (.int 10) (.int 18) = some (.int 1000000000000000000) := by rfl
  have sa : Sm (a + 1) := sm_of (by omega)
  have sc : Sm ((c + 1) % 2147483629) := sm_mod (by decide) (by simp)
  have sA : Sm a := sm_of (by omega)
  obtain ⟨r3, e3⟩ := mx _ _ sc sA
  obtain ⟨r4, e4⟩ := mx _ _ sc sa
  have c1 : 0 ≤ (c + 1) % 2147483629 ∧ (c + 1) % 2147483629 < 2147483629 := by omega
  by_cases hb : b = 0
  · subst hb
    by_cases ha : a < cs.length
    · have e1 : atI (cs.map D.int) a = some (.int (cs[a.toNat]'(by omega))) := by
        rw [atI_int a0 (by simpa using ha), List.getElem?_map, List.getElem?_eq_getElem (by omega)]
        rfl
      have q0 : 0 ≤ cs[a.toNat]'(by omega) := hc _ (List.getElem_mem _)
      generalize cs[a.toNat]'(by omega) = q at e1 q0
      obtain ⟨r2, e2⟩ := mx (q % 2147483647) (a + 1) (sm_mod (by decide) (by simp)) sa
      by_cases hq : q < 1000000000000000000
      · simp [g__law_take, ha, m0, m1, mulD_s, modI_int, fdvI_s, sm_mod, p18, ixD_l, e1, hq, e2]
        exact ⟨_, (rm _).1, (rm _).2, ⟨cs, a + 1, 0, c, rfl, hc, hl, by omega, by omega, by omega, by omega, by omega⟩, rfl⟩
      · have q1 : 0 < q := by omega
        simp [g__law_take, ha, m0, m1, mulD_s, modI_int, fdvI_s, sm_mod, p18, ixD_l, e1, hq, e2, q1]
        exact ⟨_, (rm _).1, (rm _).2, ⟨cs, a + 1, _, c, rfl, hc, hl, by omega, by omega, Int.ediv_nonneg q0 (by omega), by omega, by omega⟩, rfl⟩
    · simp [g__law_take, ha, m0, m1, mulD_s, modI_int, fdvI_s, sm_mod, p18, ixD_l, e3]
      exact ⟨_, (rm _).1, (rm _).2, ⟨cs, a, _, _, rfl, hc, hl, by omega, by omega, by omega, by omega, by omega⟩, rfl⟩
  · have hb2 : 0 < b := by omega
    simp [g__law_take, hb, hb2, m0, m1, mulD_s, modI_int, fdvI_s, sm_mod, p18, ixD_l, e3]
    exact ⟨_, (rm _).1, (rm _).2, ⟨cs, a, _, _, rfl, hc, hl, by omega, by omega, Int.ediv_nonneg b0 (by omega), by omega, by omega⟩, rfl⟩

theorem hand_ok {ns : List Int} (hl : ns.length ≤ 63) : ∃ h, HandOk h ∧ m__law_hand [.dat (.slst (ns.map D.int))] = .okn h none := by
  unfold m__law_hand
  rw [mk_out]
  obtain ⟨ρ', e, total, cs, last, eρ, h1, h2, h3, h4⟩ := for_inv (t := tgName 3) (g := (gSeq (gSet 1 (f2 modI (fB int1D (fCons (f2 addD (f2 mulD (fVar 1) (fC (.int 1019))) (fB int1D (fCons (fVar 3) fNil))) fNil)) (fC (.int 2147483629))))
    (gApp 2 (fIf (t2 geI (fVar 3) (fC (.int 0))) (fB int1D (fCons (fVar 3) fNil)) (f1 negI (fB int1D (fCons (fVar 3) fNil)))))))
    (fun rest ρ => ∃ (total : Int) (cs : List Int) (last : Option Slot), ρ = [some (.dat (.slst (ns.map D.int))), some (.dat (.int total)), some (.own (cs.map .int)), last] ∧ (∃ ms : List Int, rest = ms.map D.int ∧ cs.length + ms.length = ns.length) ∧ 0 ≤ total ∧ total < 2147483629 ∧ ∀ x ∈ cs, 0 ≤ x)
    (fun d ds ρ h => by
      obtain ⟨total, cs, last, rfl, ⟨ms, hm, hn⟩, t0, t1, hc⟩ := h
      cases ms with
      | nil => cases hm
      | cons m ms =>
        cases hm
        simp only [List.length_cons] at hn
        have st : Sm total := sm_of (by omega)
        refine ⟨_, [some (.dat (.slst (ns.map D.int))), some (.dat (.int ((total * 1019 + m) % 2147483629))), some (.own ((cs ++ [if 0 ≤ m then m else -m]).map D.int)), some (.dat (.int m))], rfl, .inl ?_, _, _, _, rfl, ⟨ms, rfl, ?_⟩, ?_, ?_, ?_⟩
        · by_cases hm : 0 ≤ m <;> simp [mulD_s, st, modI_int, szS_lt (xs := cs.map D.int) (by simp; omega), hm]
        · simp; omega
        · omega
        · omega
        · intro x hx
          rw [List.mem_append] at hx
          rcases hx with hx | hx
          · exact hc x hx
          · simp at hx; subst hx; split <;> omega) (ns.map D.int) [some (.dat (.slst (ns.map D.int))), some (.dat (.int (ns.length + 31))), some (.own []), none]
    ⟨ns.length + 31, [], none, rfl, ⟨ns, rfl, by simp⟩, by omega, by omega, fun x hx => nomatch hx⟩
  refine ⟨[.lst (cs.map .int), .int 0, .int 0, .int total], ⟨cs, 0, 0, total, rfl, h4, ?_, by omega, by omega, by omega, h2, h3⟩, ?_⟩
  · obtain ⟨ms, _, hn⟩ := h1; omega
  · subst eρ
    simp [g__law_hand, s_For, e]
/-- words -/
def Sg (w : List Int) : Prop := ∀ x ∈ w, x = 1 ∨ x = -1
def IsW (w : List Int) (n : Nat) : Prop := w.length = n ∧ Sg w ∧ w.head? = some 1
theorem word_ok {h : List D} {n : Nat} (hh : HandOk h) (n1 : 1 ≤ n) (n2 : n ≤ 24) : ∃ w h', IsW w n ∧ HandOk h' ∧ m__law_word [.par 0 (.lst h), .dat (.int n)] = .ok (ti w) (some (.lst h')) := by
  unfold m__law_word
  rw [mk_out]
  obtain ⟨ρ', e, h', w, last, eρ, h1, h2, h3, h4⟩ := for_inv (t := tgName 3) (g := (gApp 2 (f2 subI (fC (.int 1)) (f2 mulD (fC (.int 2)) (fCallM 2 m__law_take 0 (fCons (fC (.int 2)) fNil))))))
    (fun rest ρ => ∃ (h' : List D) (w : List Int) (last : Option Slot), ρ = [some (.par 0 (.lst h')), some (.dat (.int n)), some (.own (w.map .int)), last] ∧ (∃ ms : List Int, rest = ms.map D.int ∧ w.length + ms.length = n) ∧ HandOk h' ∧ Sg w ∧ w.head? = some 1)
    (fun d ds ρ h => by
      obtain ⟨h', w, last, rfl, ⟨ms, hm, hn⟩, hh, hs, h0⟩ := h
      cases ms with
      | nil => cases hm
      | cons m ms =>
        cases hm
        simp only [List.length_cons] at hn
        obtain ⟨r, h2, r0, r1, hh2, et⟩ := take_ok (m := 2) hh (by decide) (by simp)
        have sr : Sm r := sm_of (by omega)
        refine ⟨_, [some (.par 0 (.lst h2)), some (.dat (.int n)), some (.own ((w ++ [1 - 2 * r]).map D.int)), some (.dat (.int m))], rfl, .inl ?_, _, _, _, rfl, ⟨ms, rfl, ?_⟩, hh2, ?_, ?_⟩
        · simp [mulD_s, sr, et, szS_lt (xs := w.map D.int) (by simp; omega)]
        · simp; omega
        · intro x hx
          rw [List.mem_append] at hx
          rcases hx with hx | hx
          · exact hs x hx
          · simp at hx; omega
        · cases w with
          | nil => cases h0
          | cons a w => exact h0) ((List.range (n - 1)).map fun k => D.int (1 + (k : Nat) : Int)) [some (.par 0 (.lst h)), some (.dat (.int n)), some (.own [.int 1]), none]
    ⟨h, [1], none, rfl, ⟨(List.range (n - 1)).map fun k => (1 + (k : Nat) : Int), by rw [List.map_map]; rfl, by simp; omega⟩, hh, fun x hx => .inl (by simpa using hx), rfl⟩
  refine ⟨w, h', ⟨?_, h3, h4⟩, h2, ?_⟩
  · obtain ⟨ms, hm, hn⟩ := h1
    cases ms with
    | nil => simpa using hn
    | cons _ _ => cases hm
  · subst eρ
    simp [g__law_word, s_For, range2_int (m := 1) (n := n) (by omega), e]
    rfl
end K07

set_option Elab.async false
set_option linter.all false
set_option maxRecDepth 100000
set_option autoImplicit false
namespace K07
open PySem PySem.Spec PyProof.Rows L2 DL
theorem count_ok {h : List D} (hh : HandOk h) : ∃ (n : Nat) (h' : List D), 1 ≤ n ∧ n ≤ 24 ∧ HandOk h' ∧ m__law_count [.par 0 (.lst h)] = .ok (.int n) (some (.lst h')) := by
  unfold m__law_count
  rw [mk_out]
  obtain ⟨r1, h1, a1, b1, hh1, e1⟩ := take_ok (m := 8) hh (by decide) (by simp)
  obtain ⟨r2, h2, a2, b2, hh2, e2⟩ := take_ok (m := 16) hh1 (by decide) (by simp)
  obtain ⟨r3, h3, a3, b3, hh3, e3⟩ := take_ok (m := 8) hh1 (by decide) (by simp)
  by_cases c : r1 = 0
  · refine ⟨(9 + r2).toNat, h2, by omega, by omega, hh2, ?_⟩
    simp [g__law_count, e1, e2, c]
    omega
  · refine ⟨(1 + r3).toNat, h3, by omega, by omega, hh3, ?_⟩
    simp [g__law_count, e1, e3, c]
    omega
theorem is_whole_3 {i lo hi : Int} : m_is_whole [.dat (.int i), .dat (.int lo), .dat (.int hi)] = .ok (.bl (decide (lo ≤ i) && decide (i ≤ hi))) none := by
  unfold m_is_whole
  rw [mk_out]
  simp [g_is_whole]
  by_cases h : lo ≤ i <;> simp [h]
theorem is_whole_no {d : D} {t : String} {lo hi : Int} (h : d.ty = some t) (hb : kitB t "bool" = some true ∨ kitB t "int" = some false ∧ kitB t "bool" = some false) : m_is_whole [.dat d, .dat (.int lo), .dat (.int hi)] = .ok (.bl false) none := by
  unfold m_is_whole
  rw [mk_out]
  rcases hb with hb | ⟨hb, hc⟩
  · simp [g_is_whole, h, hb]
  · simp [g_is_whole, h, hb, hc]
theorem is_row_seq {d : D} {ds : List D} {lo hi : Int} (h : seqOf d = some ds) : m_is_row [.dat d, .dat (.int lo), .dat (.int hi)] = .ok (.bl (decide (lo ≤ ds.length) && decide ((ds.length : Int) ≤ hi))) none := by
  unfold m_is_row
  rw [mk_out]
  cases d <;> cases h <;> (simp [g_is_row]; by_cases h : lo ≤ ds.length <;> simp [h])
theorem is_row_no {lo hi : Int} : m_is_row [.dat .non, .dat (.int lo), .dat (.int hi)] = .ok (.bl false) none := by
  unfold m_is_row
  rw [mk_out]
  simp [g_is_row]
def eW (i : Int) (s : Str) : FR := .err "BadWord" [("index", .int i), ("what", .str s)] none
/-- no sign -/
def NoS (d : D) : Prop := d = .int 0 ∨ m_is_whole [.dat d, .dat (.int (-1)), .dat (.int 1)] = .ok (.bl false) none
theorem loop_ok {d0 lo hi : D} : ∀ (w : List Int) (k : Nat) (rest : List D) (s3 s4 : Option Slot), Sg w → ∃ t3 t4, forL (tgTup 2 (tgCons (tgName 3) (tgCons (tgName 4) tgNil))) (gIf (fOr (fNot (fTru (fCall 3 m_is_whole [] (fCons (fVar 4) (fCons (f1 negI (fC (.int 1))) (fCons (fC (.int 1)) fNil)))))) (t2 eqD (fVar 4) (fC (.int 0)))) (gRaise "BadWord" ["index", "what"] (fCons (fVar 3) (fCons (fC (.str "sign")) fNil))) gNx)
    (enumF k (w.map .int ++ rest)) [some (.dat d0), some (.dat lo), some (.dat hi), s3, s4] = forL (tgTup 2 (tgCons (tgName 3) (tgCons (tgName 4) tgNil))) (gIf (fOr (fNot (fTru (fCall 3 m_is_whole [] (fCons (fVar 4) (fCons (f1 negI (fC (.int 1))) (fCons (fC (.int 1)) fNil)))))) (t2 eqD (fVar 4) (fC (.int 0)))) (gRaise "BadWord" ["index", "what"] (fCons (fVar 3) (fCons (fC (.str "sign")) fNil))) gNx)
    (enumF (k + w.length) rest) [some (.dat d0), some (.dat lo), some (.dat hi), t3, t4] := by
  intro w
  induction w with
  | nil => intro k rest s3 s4 _; exact ⟨s3, s4, rfl⟩
  | cons x w ih =>
    intro k rest s3 s4 h
    obtain ⟨t3, t4, e⟩ := ih (k + 1) rest (some (.dat (.int k))) (some (.dat (.int x))) fun y hy => h y (List.mem_cons_of_mem _ hy)
    refine ⟨t3, t4, ?_⟩
    rw [List.map_cons, List.cons_append, enumF, forL_cons (by simp; rfl)]
    rw [List.length_cons, show k + (w.length + 1) = k + 1 + w.length by omega, ← e]
    rcases h x List.mem_cons_self with hx | hx <;> subst hx <;> simp [is_whole_3]
theorem row_ok {d : D} {w : List Int} {lo hi : Int} (h : seqOf d = some (w.map .int)) (hw : Sg w) (l1 : lo ≤ w.length) (l2 : (w.length : Int) ≤ hi) : m__check_sign_row [.dat d, .dat (.int lo), .dat (.int hi)] = .ok (ti w) none := by
  unfold m__check_sign_row
  rw [mk_out]
  obtain ⟨t3, t4, e⟩ := loop_ok (d0 := d) (lo := .int lo) (hi := .int hi) w 0 [] none none hw
  rw [List.append_nil, enumF, forL_nil] at e
  simp [g__check_sign_row, is_row_seq h, l1, l2, s_For, enum1_at h, e]
  cases d <;> cases h <;> rfl
theorem row_bad {d b : D} {w : List Int} {rest : List D} {lo hi : Int} (h : seqOf d = some (w.map .int ++ b :: rest)) (hw : Sg w) (hb : NoS b) (l1 : lo ≤ w.length + 1 + rest.length) (l2 : (w.length : Int) + 1 + rest.length ≤ hi) : m__check_sign_row [.dat d, .dat (.int lo), .dat (.int hi)] = eW w.length "sign" := by
  unfold m__check_sign_row eW
  rw [mk_out]
  obtain ⟨t3, t4, e⟩ := loop_ok (d0 := d) (lo := .int lo) (hi := .int hi) w 0 (b :: rest) none none hw
  rw [enumF, forL_cons (by simp; rfl), Nat.zero_add] at e
  have l1' : lo ≤ (w.length : Int) + ((rest.length : Int) + 1) := by omega
  have l2' : (w.length : Int) + ((rest.length : Int) + 1) ≤ hi := by omega
  simp [g__check_sign_row, is_row_seq h, l1', l2', s_For, enum1_at h, e]
  rcases hb with hb | hb
  · subst hb
    simp [is_whole_3]
  · simp [hb]
theorem row_many {d : D} {ds : List D} {lo hi : Int} (h : seqOf d = some ds) (l : ¬ (lo ≤ ds.length ∧ (ds.length : Int) ≤ hi)) : m__check_sign_row [.dat d, .dat (.int lo), .dat (.int hi)] = eW 0 "many" := by
  unfold m__check_sign_row eW
  rw [mk_out]
  have e : m_is_row [.dat d, .dat (.int lo), .dat (.int hi)] = .ok (.bl false) none := by
    rw [is_row_seq h]
    by_cases h1 : lo ≤ ds.length
    · have h2 : ¬ (ds.length : Int) ≤ hi := fun h2 => l ⟨h1, h2⟩
      rw [decide_eq_true h1, decide_eq_false h2]
      rfl
    · rw [decide_eq_false h1]
      rfl
  simp [g__check_sign_row, e]
theorem row_none {lo hi : Int} : m__check_sign_row [.dat .non, .dat (.int lo), .dat (.int hi)] = eW 0 "many" := by
  unfold m__check_sign_row eW
  rw [mk_out]
  simp [g__check_sign_row, is_row_no]
theorem first_ok {x : Int} {w : List Int} (h : x ≠ -1) : m__check_first [.dat (ti (x :: w))] = .ok (ti (x :: w)) none := by
  unfold m__check_first
  rw [mk_out]
  simp [g__check_first, ti, ixD_t, h]
theorem first_bad {w : List Int} : m__check_first [.dat (ti (-1 :: w))] = eW 0 "first" := by
  unfold m__check_first eW
  rw [mk_out]
  simp [g__check_first, ti, ixD_t]
theorem signs_ok {d : D} {w : List Int} {n : Nat} (h : seqOf d = some (w.map .int)) (hw : IsW w n) (n1 : 1 ≤ n) (n2 : n ≤ 24) : m_check_signs [.dat d] = .ok (ti w) none := by
  obtain ⟨hn, hs, h0⟩ := hw
  unfold m_check_signs
  rw [mk_out]
  cases w with
  | nil => cases h0
  | cons x w =>
    cases h0
    simp [g_check_signs, row_ok (lo := 1) (hi := 24) h hs (by omega) (by omega), first_ok (x := 1) (w := w) (by decide)]
theorem signs_bad {d b : D} {w : List Int} {rest : List D} (h : seqOf d = some (w.map .int ++ b :: rest)) (hw : Sg w) (hb : NoS b) (l : w.length + rest.length ≤ 23) : m_check_signs [.dat d] = eW w.length "sign" := by
  unfold m_check_signs
  rw [mk_out]
  simp [g_check_signs, row_bad h hw hb (lo := 1) (hi := 24) (by omega) (by omega), eW]
theorem signs_first {d : D} {w : List Int} (h : seqOf d = some ((-1 :: w).map .int)) (hw : Sg w) (l : w.length ≤ 23) : m_check_signs [.dat d] = eW 0 "first" := by
  unfold m_check_signs
  rw [mk_out]
  have e := row_ok (lo := 1) (hi := 24) h (fun x hx => by rcases List.mem_cons.mp hx with hx | hx; exact .inr hx; exact hw x hx) (by simp; omega) (by simp; omega)
  simp [g_check_signs, e, first_bad, eW]
theorem signs_none : m_check_signs [.dat .non] = eW 0 "many" := by
  unfold m_check_signs
  rw [mk_out]
  simp [g_check_signs, row_none, eW]

theorem signs_long {d : D} {ds : List D} (h : seqOf d = some ds) (l : 24 < ds.length) : m_check_signs [.dat d] = eW 0 "many" := by
  unfold m_check_signs
  rw [mk_out]
  simp [g_check_signs, row_many (lo := 1) (hi := 24) h (by omega), eW]
/-- d is the word w; d is refused -/
def CW (d : D) (w : List Int) (n : Nat) : Prop := m_check_signs [.dat d] = .ok (ti w) none ∧ IsW w n ∧ 1 ≤ n ∧ n ≤ 24
def CE (d : D) (i : Int) (s : Str) : Prop := m_check_signs [.dat d] = eW i s
def mulW (w v : List Int) : List Int := List.zipWith (· * ·) w v
theorem mulW_sg {w v : List Int} (h : Sg w) (h2 : Sg v) : Sg (mulW w v) := by
  intro x hx
  unfold mulW at hx
  rw [List.mem_iff_getElem?] at hx
  obtain ⟨i, e⟩ := hx
  rw [List.getElem?_zipWith] at e
  cases e1 : w[i]? with
  | none => rw [e1] at e; cases e
  | some a =>
    cases e2 : v[i]? with
    | none => rw [e1, e2] at e; cases e
    | some b =>
      rw [e1, e2] at e
      cases e
      rcases h a (List.mem_of_getElem? e1) with ha | ha <;> rcases h2 b (List.mem_of_getElem? e2) with hb | hb <;> subst ha <;> subst hb <;> simp
theorem mulW_is {w v : List Int} {n : Nat} (h : IsW w n) (h2 : IsW v n) : IsW (mulW w v) n := by
  obtain ⟨a, b, c⟩ := h
  obtain ⟨a2, b2, c2⟩ := h2
  refine ⟨by unfold mulW; simp [a, a2], mulW_sg b b2, ?_⟩
  unfold mulW
  cases w <;> cases v <;> cases c <;> cases c2
  rfl
theorem mulW_comm (w v : List Int) : mulW w v = mulW v w := by
  unfold mulW
  induction w generalizing v with
  | nil => cases v <;> rfl
  | cons x w ih => cases v with
    | nil => rfl
    | cons y v => simp [ih, Int.mul_comm]
theorem mulW_assoc (w v u : List Int) : mulW (mulW w v) u = mulW w (mulW v u) := by
  unfold mulW
  induction w generalizing v u with
  | nil => cases v <;> cases u <;> rfl
  | cons x w ih => cases v with
    | nil => cases u <;> rfl
    | cons y v => cases u with
      | nil => rfl
      | cons z u => simp [ih, Int.mul_assoc]
theorem mulW_self {w : List Int} (h : Sg w) : mulW w w = List.replicate w.length 1 := by
  unfold mulW
  induction w with
  | nil => rfl
  | cons x w ih =>
    rw [List.zipWith_cons_cons, ih fun y hy => h y (List.mem_cons_of_mem _ hy), List.length_cons, List.replicate_succ]
    rcases h x List.mem_cons_self with hx | hx <;> subst hx <;> rfl
theorem mulW_one {w : List Int} : mulW (List.replicate w.length 1) w = w := by
  unfold mulW
  induction w with
  | nil => rfl
  | cons x w ih => rw [List.length_cons, List.replicate_succ, List.zipWith_cons_cons, ih, Int.one_mul]
theorem mulW_back {w v : List Int} (h : Sg v) (l : w.length = v.length) : mulW (mulW w v) v = w := by
  rw [mulW_assoc, mulW_self h, mulW_comm, ← l, mulW_one]
theorem product_ok {d1 d2 : D} {w1 w2 : List Int} {n : Nat} (h1 : CW d1 w1 n) (h2 : CW d2 w2 n) : m_product_of [.dat d1, .dat d2] = .ok (ti (mulW w1 w2)) none := by
  obtain ⟨e1, ⟨a1, b1, c1⟩, n1, n2⟩ := h1
  obtain ⟨e2, ⟨a2, b2, c2⟩, _, _⟩ := h2
  unfold m_product_of
  rw [mk_out]
  have hl : w1.length = w2.length := a1.trans a2.symm
  have hz : ∀ ρ : En, zip2 (ti w1) (ti w2) ρ = .ok ((List.zip w1 w2).map fun p => .tup [.int p.1, .int p.2]) ρ := fun ρ => by
    rw [zip2_at (xs := w1.map .int) (ys := w2.map .int) rfl rfl]
    unfold pairs
    rw [List.zipWith_map, List.zip, List.map_zipWith, List.map_zipWith]
  have hc := lc_all (it := fZip2 (fCons (fVar 0) (fCons (fVar 1) fNil))) (vs := [2, 3]) (t := tgTup 2 (tgCons (tgName 2) (tgCons (tgName 3) tgNil))) (te := f2 mulD (fVar 2) (fVar 3)) (ρ := [some (.dat (ti w1)), some (.dat (ti w2)), none, none])
    (fun p : Int × Int => .tup [.int p.1, .int p.2]) (fun p => .int (p.1 * p.2)) (List.zip w1 w2) (by simp [hz]; rfl) rfl (by rw [List.length_zip]; omega) fun p hp => by
      have s1 : Sm p.1 := by rcases b1 _ (List.of_mem_zip hp).1 with h | h <;> rw [h] <;> simp
      have s2 : Sm p.2 := by rcases b2 _ (List.of_mem_zip hp).2 with h | h <;> rw [h] <;> simp
      exact ⟨[some (.dat (ti w1)), some (.dat (ti w2)), some (.dat (.int p.1)), some (.dat (.int p.2))], rfl, by simp [mulD_s, s1, s2], rfl⟩
  have el : lenD [ti w1] = some (.int n) := by rw [← a1]; simp [ti]
  have el2 : lenD [ti w2] = some (.int n) := by rw [← a2]; simp [ti]
  simp [g_product_of, e1, e2, el, el2, hc]
  unfold ti mulW
  rw [List.zip, List.map_zipWith, List.map_zipWith]
theorem product_e1 {d1 d2 : D} {i : Int} {s : Str} (h1 : CE d1 i s) : m_product_of [.dat d1, .dat d2] = eW i s := by
  unfold CE eW at h1
  unfold m_product_of eW
  rw [mk_out]
  simp [g_product_of, h1]
theorem product_e2 {d1 d2 : D} {w1 : List Int} {n : Nat} {i : Int} {s : Str} (h1 : CW d1 w1 n) (h2 : CE d2 i s) : m_product_of [.dat d1, .dat d2] = eW i s := by
  unfold CE eW at h2
  unfold m_product_of eW
  rw [mk_out]
  simp [g_product_of, h1.1, h2]
theorem product_len {d1 d2 : D} {w1 w2 : List Int} {n m : Nat} (h1 : CW d1 w1 n) (h2 : CW d2 w2 m) (hn : n ≠ m) : m_product_of [.dat d1, .dat d2] = eW 0 "many" := by
  obtain ⟨e1, ⟨a1, b1, c1⟩, n1, n2⟩ := h1
  obtain ⟨e2, ⟨a2, b2, c2⟩, _, _⟩ := h2
  unfold m_product_of eW
  rw [mk_out]
  have el : lenD [ti w1] = some (.int n) := by rw [← a1]; simp [ti]
  have el2 : lenD [ti w2] = some (.int m) := by rw [← a2]; simp [ti]
  have hn : (n : Int) ≠ m := by omega
  simp [g_product_of, e1, e2, el, el2, hn]
theorem made_ok {d1 d2 : D} {w1 w2 : List Int} {n : Nat} (h1 : CW d1 w1 n) (h2 : CW d2 w2 n) : m__law_made [.dat d1, .dat d2] = .ok (ti (mulW w1 w2)) none := by
  unfold m__law_made
  rw [mk_out]
  simp [g__law_made, product_ok h1 h2]
theorem made_err {d1 d2 : D} {i : Int} {s : Str} (h : m_product_of [.dat d1, .dat d2] = eW i s) : m__law_made [.dat d1, .dat d2] = .ok (.lst [.int i, .str s]) none := by
  unfold eW at h
  unfold m__law_made
  rw [mk_out]
  simp [g__law_made, h, cat_BadWord, lk_miss (k := "what") (k' := "index") (by decide +kernel)]
end K07

set_option Elab.async false
set_option linter.all false
set_option maxRecDepth 100000
set_option autoImplicit false
namespace K07
open PySem PySem.Spec PyProof.Rows L2 DL
theorem tup_ints {ys : List Int} : D.tup (ys.map D.int) = ti ys := rfl
theorem sg_at {w : List Int} (h : Sg w) {k : Nat} (hk : k < w.length) : w[k] = 1 ∨ w[k] = -1 := h _ (List.getElem_mem hk)
theorem ixD_ti {w : List Int} {k : Nat} (hk : k < w.length) : ixD (ti w) (.int k) = some (.int w[k]) := by
  unfold ti
  rw [ixD_t, atI_nat (by simpa using hk), List.getElem?_map, List.getElem?_eq_getElem hk]
  rfl
/-- the places where the sign changes -/
def polesW (w : List Int) : List Int := ((List.range (w.length - 1)).filter fun k => decide (w[k + 1]? ≠ w[k]?)).map fun k => (1 + (k : Nat) : Int)
theorem poles_lc {w : List Int} (hl : w.length ≤ 24) : fLc (fRange2 (fCons (fC (.int 1)) (fCons (fB lenD (fCons (fVar 0) fNil)) fNil))) [1] (tgName 1) (t2 neD (f2 ixD (fVar 0) (fVar 1)) (f2 ixD (fVar 0) (f2 subI (fVar 1) (fC (.int 1))))) (fVar 1) [some (.dat (ti w)), none]
    = .ok ((polesW w).map .int) [some (.dat (ti w)), none] := by
  have el : lenD [ti w] = some (.int w.length) := by simp [ti]
  have h := lc_map (it := fRange2 (fCons (fC (.int 1)) (fCons (fB lenD (fCons (fVar 0) fNil)) fNil))) (vs := [1]) (t := tgName 1) (tt := t2 neD (f2 ixD (fVar 0) (fVar 1)) (f2 ixD (fVar 0) (f2 subI (fVar 1) (fC (.int 1))))) (te := fVar 1) (ρ := [some (.dat (ti w)), none]) (ρ1 := [some (.dat (ti w)), none])
    (fun k : Nat => .int (1 + (k : Nat))) (fun k => decide (w[k + 1]? ≠ w[k]?)) (fun k => .int (1 + (k : Nat))) (List.range (w.length - 1)) (by
      simp [el, range2_int (m := 1) (n := w.length) (by omega)]) rfl (by simp; omega) fun k hk => by
        rw [List.mem_range] at hk
        have e1 := ixD_ti (w := w) (k := k + 1) (by omega)
        have e2 := ixD_ti (w := w) (k := k) (by omega)
        have e1 : ixD (ti w) (.int (1 + (k : Nat))) = some (.int w[k + 1]) := by rw [Int.add_comm]; exact e1
        have e3 : (1 + (k : Int) - 1) = k := by omega
        refine ⟨[some (.dat (ti w)), some (.dat (.int (1 + (k : Nat))))], rfl, ?_, fun _ => by simp, rfl⟩
        simp [e1, e2, e3, List.getElem?_eq_getElem (show k + 1 < w.length by omega), List.getElem?_eq_getElem (show k < w.length by omega)]
  rw [h]
  unfold polesW
  rw [List.map_map]
  rfl
theorem poles_ok {w : List Int} (hl : w.length ≤ 24) : m__law_poles [.dat (ti w)] = .ok (ti (polesW w)) none := by
  unfold m__law_poles
  rw [mk_out]
  simp [g__law_poles, poles_lc hl, tup_ints]
theorem crossings_ok {d : D} {w : List Int} {n : Nat} (h : CW d w n) : m_crossings_of [.dat d] = .ok (ti (polesW w)) none := by
  unfold m_crossings_of
  rw [mk_out]
  simp [g_crossings_of, h.1, poles_lc (w := w) (by have := h.2.1.1; have := h.2.2.2; omega), tup_ints]
theorem lproduct_ok {w v : List Int} {n : Nat} (h : IsW w n) (h2 : IsW v n) (hn : n ≤ 24) : m__law_product [.dat (ti w), .dat (ti v)] = .ok (ti (mulW w v)) none := by
  obtain ⟨a, b, c⟩ := h
  obtain ⟨a2, b2, c2⟩ := h2
  unfold m__law_product
  rw [mk_out]
  have el : lenD [ti w] = some (.int w.length) := by simp [ti]
  have h := lc_all (it := fRange1 (fCons (fB lenD (fCons (fVar 0) fNil)) fNil)) (vs := [2]) (t := tgName 2) (te := f2 mulD (f2 ixD (fVar 0) (fVar 2)) (f2 ixD (fVar 1) (fVar 2))) (ρ := [some (.dat (ti w)), some (.dat (ti v)), none]) (ρ1 := [some (.dat (ti w)), some (.dat (ti v)), none])
    (fun k : Nat => .int (k : Nat)) (fun k => .int ((w[k]?.getD 0) * (v[k]?.getD 0))) (List.range w.length) (by simp [el, range1_nat (n := w.length) (by omega)]) rfl (by simp; omega) fun k hk => by
        rw [List.mem_range] at hk
        have e1 := ixD_ti (w := w) (k := k) (by omega)
        have e2 := ixD_ti (w := v) (k := k) (by omega)
        have s1 : Sm w[k] := by rcases sg_at b hk with h | h <;> rw [h] <;> simp
        have s2 : Sm v[k] := by rcases sg_at b2 (show k < v.length by omega) with h | h <;> rw [h] <;> simp
        refine ⟨[some (.dat (ti w)), some (.dat (ti v)), some (.dat (.int k))], rfl, ?_, rfl⟩
        simp [e1, e2, mulD_s, s1, s2, List.getElem?_eq_getElem (show k < v.length by omega), List.getElem?_eq_getElem (show k < w.length by omega)]
  have em : (List.range w.length).map (fun k => D.int ((w[k]?.getD 0) * (v[k]?.getD 0))) = (mulW w v).map .int := by
    apply List.ext_getElem?
    intro i
    rw [List.getElem?_map, List.getElem?_map]
    unfold mulW
    rw [List.getElem?_zipWith]
    by_cases hi : i < w.length
    · rw [List.getElem?_range hi, List.getElem?_eq_getElem hi, List.getElem?_eq_getElem (show i < v.length by omega)]
      simp [List.getElem?_eq_getElem hi, List.getElem?_eq_getElem (show i < v.length by omega)]
    · rw [List.getElem?_eq_none (by simpa using hi), List.getElem?_eq_none (by omega)]
      rfl
  rw [em] at h
  simp [g__law_product, h, tup_ints]
theorem isword_ok {w : List Int} {n : Nat} (h : IsW w n) (n1 : 1 ≤ n) (hn : n ≤ 24) : m__law_is_word [.dat (ti w), .dat (.int n)] = .ok (.bl true) none := by
  obtain ⟨a, b, c⟩ := h
  unfold m__law_is_word
  rw [mk_out]
  have el : lenD [ti w] = some (.int n) := by rw [← a]; simp [ti]
  have e0 : ixD (ti w) (.int 0) = some (.int 1) := by
    have := ixD_ti (w := w) (k := 0) (by omega)
    rw [List.head?_eq_getElem?, List.getElem?_eq_getElem (by omega)] at c
    rw [show (0 : Int) = ((0 : Nat) : Int) from rfl, this, Option.some.inj c]
  have h := lc_map (it := fIt (fVar 0)) (vs := [2]) (t := tgName 2) (tt := fOr (fTru (fIsi "bool" (fVar 2))) (fOr (fNot (fTru (fIsi "int" (fVar 2)))) (t2 (inA true) (fVar 2) (fTup (fCons (fC (.int 1)) (fCons (f1 negI (fC (.int 1))) fNil)))))) (te := fC (.int 1)) (ρ := [some (.dat (ti w)), some (.dat (.int n)), none]) (ρ1 := [some (.dat (ti w)), some (.dat (.int n)), none])
    D.int (fun _ => false) (fun _ => .int 1) w (by simp [ti]) rfl (by omega) fun x hx => by
      refine ⟨[some (.dat (ti w)), some (.dat (.int n)), some (.dat (.int x))], rfl, ?_, fun h => (nomatch h), rfl⟩
      have e : inA true (.int x) (.tup [.int 1, .int (-1)]) = some (.bl false) := by
        rw [in_flat (xs := [.int 1, .int (-1)]) rfl rfl rfl]
        rcases b x hx with h | h <;> subst h <;> simp
      simp [e]
  have et : D.ty (ti w) = some "tuple" := rfl
  simp [g__law_is_word, et, el, e0, h]
end K07

set_option Elab.async false
set_option linter.all false
set_option maxRecDepth 100000
set_option autoImplicit false
namespace K07
open PySem PySem.Spec PyProof.Rows L2 DL
@[simp] theorem seqOf_ti {w : List Int} : seqOf (ti w) = some (w.map .int) := (rfl)
@[simp] theorem items_ti {w : List Int} : items (ti w) = some (w.map .int) := (rfl)
theorem in_ti {i : Int} {ps : List Int} : inA false (.int i) (ti ps) = some (.bl (decide (i ∈ ps))) := by
  rw [in_flat (xs := ps.map .int) rfl rfl (by simp [flatD])]
  rw [if_neg Bool.false_ne_true]
  congr 2
  rw [Bool.eq_iff_iff]
  simp
theorem mem_poles {w : List Int} {k : Nat} (hk : k < w.length - 1) : (1 + (k : Nat) : Int) ∈ polesW w ↔ w[k + 1]? ≠ w[k]? := by
  unfold polesW
  rw [List.mem_map]
  constructor
  · rintro ⟨j, hj, e⟩
    rw [List.mem_filter] at hj
    have : j = k := by omega
    subst this
    exact of_decide_eq_true hj.2
  · intro h
    exact ⟨k, List.mem_filter.mpr ⟨List.mem_range.mpr hk, decide_eq_true h⟩, rfl⟩
theorem cw_ti {w : List Int} {n : Nat} (h : IsW w n) (n1 : 1 ≤ n) (n2 : n ≤ 24) : CW (ti w) w n := ⟨signs_ok rfl h n1 n2, h, n1, n2⟩
theorem cw_l {w : List Int} {n : Nat} (h : IsW w n) (n1 : 1 ≤ n) (n2 : n ≤ 24) : CW (.lst (w.map .int)) w n := ⟨signs_ok rfl h n1 n2, h, n1, n2⟩
theorem flip4 {x1 x2 x3 x4 : Int} (c1 : x1 = 1 ∨ x1 = -1) (c2 : x2 = 1 ∨ x2 = -1) (c3 : x3 = 1 ∨ x3 = -1) (c4 : x4 = 1 ∨ x4 = -1) : ((¬ x1 = x2) ↔ (¬ x3 = x4)) ↔ x1 * x3 = x2 * x4 := by
  rcases c1 with c1 | c1 <;> rcases c2 with c2 | c2 <;> rcases c3 with c3 | c3 <;> rcases c4 with c4 | c4 <;> subst c1 <;> subst c2 <;> subst c3 <;> subst c4 <;> decide
theorem couple_ok {w v : List Int} {n : Nat} (h : IsW w n) (h2 : IsW v n) (n1 : 1 ≤ n) (hn : n ≤ 24) : m__law_couple [.dat (ti w), .dat (ti v)] = .ok (.bl true) none := by
  have hp := mulW_is h h2
  have lw := h.1
  have lv := h2.1
  have lp := hp.1
  have el : lenD [ti w] = some (.int n) := by rw [← lw]; simp [ti]
  have i1 := isword_ok hp n1 hn
  have p1 := lproduct_ok h h2 hn
  have a1 := made_ok (cw_l h n1 hn) (cw_ti h2 n1 hn)
  have a2 := made_ok (cw_ti h2 n1 hn) (cw_l h n1 hn)
  rw [mulW_comm v w] at a2
  have a3 := made_ok (cw_ti hp n1 hn) (cw_ti h2 n1 hn)
  rw [mulW_back h2.2.1 (by omega)] at a3
  have a4 := made_ok (cw_ti h n1 hn) (cw_ti hp n1 hn)
  rw [mulW_comm w (mulW w v), mulW_comm w v, mulW_back h.2.1 (by omega)] at a4
  rw [mulW_comm v w] at a4
  have q1 := poles_ok (w := w) (by omega)
  have q2 := poles_ok (w := v) (by omega)
  have q3 := crossings_ok (cw_ti hp n1 hn)
  have h := lc_map (it := fRange2 (fCons (fC (.int 1)) (fCons (fVar 2) fNil))) (vs := [7]) (t := tgName 7) (tt := t2 neD (f2 (inA false) (fVar 7) (fVar 4)) (f2 (inA false) (fVar 7) (fVar 5))) (te := fVar 7) (ρ := [some (.dat (ti w)), some (.dat (ti v)), some (.dat (.int n)), some (.dat (ti (mulW w v))), some (.dat (ti (polesW w))), some (.dat (ti (polesW v))), none, none]) (ρ1 := [some (.dat (ti w)), some (.dat (ti v)), some (.dat (.int n)), some (.dat (ti (mulW w v))), some (.dat (ti (polesW w))), some (.dat (ti (polesW v))), none, none])
    (fun k : Nat => .int (1 + (k : Nat))) (fun k => decide ((mulW w v)[k + 1]? ≠ (mulW w v)[k]?)) (fun k => .int (1 + (k : Nat))) (List.range (n - 1)) (by
      simp [range2_int (m := 1) (n := n) (by omega)]) rfl (by simp; omega) fun k hk => by
        rw [List.mem_range] at hk
        refine ⟨[some (.dat (ti w)), some (.dat (ti v)), some (.dat (.int n)), some (.dat (ti (mulW w v))), some (.dat (ti (polesW w))), some (.dat (ti (polesW v))), none, some (.dat (.int (1 + (k : Nat))))], rfl, ?_, fun _ => by simp, rfl⟩
        simp [in_ti]
        have d1 : decide ((1 + (k : Nat) : Int) ∈ polesW w) = decide (w[k + 1]? ≠ w[k]?) := decide_eq_decide.mpr (mem_poles (w := w) (by omega))
        have d2 : decide ((1 + (k : Nat) : Int) ∈ polesW v) = decide (v[k + 1]? ≠ v[k]?) := decide_eq_decide.mpr (mem_poles (w := v) (by omega))
        have b1 := List.getElem?_eq_getElem (show k + 1 < w.length by omega)
        have b2 := List.getElem?_eq_getElem (show k < w.length by omega)
        have b3 := List.getElem?_eq_getElem (show k + 1 < v.length by omega)
        have b4 := List.getElem?_eq_getElem (show k < v.length by omega)
        have c1 := sg_at h.2.1 (show k + 1 < w.length by omega)
        have c2 := sg_at h.2.1 (show k < w.length by omega)
        have c3 := sg_at h2.2.1 (show k + 1 < v.length by omega)
        have c4 := sg_at h2.2.1 (show k < v.length by omega)
        unfold mulW
        simp only [d1, d2, List.getElem?_zipWith, b1, b2, b3, b4]
        rw [Bool.eq_iff_iff]
        simp only [beq_iff_eq, decide_eq_decide, decide_eq_true_eq, ne_eq, Option.some.injEq]
        exact flip4 c1 c2 c3 c4
  have e : (List.filter (fun k => decide ((mulW w v)[k + 1]? ≠ (mulW w v)[k]?)) (List.range (n - 1))).map (fun k => D.int (1 + (k : Nat))) = (polesW (mulW w v)).map .int := by
    unfold polesW
    rw [lp, List.map_map]
    rfl
  rw [e] at h
  unfold m__law_couple
  rw [mk_out]
  simp [g__law_couple, el, a1, a2, a3, a4, i1, p1, q1, q2, q3, h, tup_ints]
end K07

set_option Elab.async false
set_option linter.all false
set_option maxRecDepth 100000
set_option autoImplicit false
namespace K07
open PySem PySem.Spec PyProof.Rows L2 DL
def negW (w : List Int) : List Int := w.map fun x => -x
theorem neg_lc {ρ : En} {i j : Nat} {w : List Int} (hj : ρ[j]? = some (some (.dat (ti w)))) (hi : i < ρ.length) (hn : noMu [i] ρ = true) (hl : w.length ≤ 1000000) : fLc (fIt (fVar j)) [i] (tgName i) fYes (f1 negI (fVar i)) ρ = .ok ((negW w).map .int) ρ := by
  have h := lc_all (it := fIt (fVar j)) (vs := [i]) (t := tgName i) (te := f1 negI (fVar i)) (ρ := ρ) (ρ1 := ρ) D.int (fun x => .int (-x)) w (by simp [hj]) hn hl fun x hx =>
    ⟨ρ.set i (some (.dat (.int x))), by simp, by simp [List.getElem?_set_self hi], by simp⟩
  rw [h]
  unfold negW
  rw [List.map_map]
  rfl
theorem negW_sg {w : List Int} (h : Sg w) : Sg (negW w) := by
  intro x hx
  unfold negW at hx
  rw [List.mem_map] at hx
  obtain ⟨y, hy, rfl⟩ := hx
  rcases h y hy with e | e <;> subst e <;> simp
theorem isW_app {w v : List Int} {n m : Nat} (h : IsW w n) (h2 : Sg v) (hv : v.length = m) : IsW (w ++ v) (n + m) := by
  obtain ⟨a, b, c⟩ := h
  refine ⟨by rw [List.length_append, a, hv], fun x hx => ?_, ?_⟩
  · rcases List.mem_append.mp hx with hx | hx
    · exact b x hx
    · exact h2 x hx
  · cases w with
    | nil => cases c
    | cons x w => exact c
theorem add_ti {w v : List Int} (h : w.length + v.length ≤ 1000000) : addD (ti w) (ti v) = some (ti (w ++ v)) := by
  unfold ti
  rw [addD_tup (by simpa using h), List.map_append]
theorem built_ok {h : List D} {n : Nat} (hh : HandOk h) (n1 : 1 ≤ n) (n2 : n ≤ 24) : ∃ w h', IsW w n ∧ HandOk h' ∧ m__law_built [.par 0 (.lst h), .dat (.int n)] = .ok (ti w) (some (.lst h')) := by
  unfold m__law_built
  rw [mk_out]
  have m2 : modI (.int n) (.int 2) = some (.int (n % 2 : Nat)) := by rw [modI_int (by decide)]; simp
  have m4 : modI (.int n) (.int 4) = some (.int (n % 4 : Nat)) := by rw [modI_int (by decide)]; simp
  have d2 : fdvI (.int n) (.int 2) = some (.int (n / 2 : Nat)) := by rw [fdvI_s (by decide) (by simp)]; simp
  have d4 : fdvI (.int n) (.int 4) = some (.int (n / 4 : Nat)) := by rw [fdvI_s (by decide) (by simp)]; simp
  have ti2 : ∀ w : List Int, lenD [ti w] = some (.int w.length) := fun w => by simp [ti]
  by_cases c1 : (n : Int) < 2
  · obtain ⟨w, h', hw, hh', e⟩ := word_ok hh n1 n2
    exact ⟨w, h', hw, hh', by simp [g__law_built, c1, e]⟩
  by_cases c2 : (n : Int) % 2 = 0
  case neg =>
    obtain ⟨w, h', hw, hh', e⟩ := word_ok hh n1 n2
    exact ⟨w, h', hw, hh', by simp [g__law_built, c1, e, m2, c2]⟩
  obtain ⟨r, h1, r0, r1, hh1, et⟩ := take_ok (m := 2) hh (by decide) (by simp)
  by_cases c3 : r = 0
  case neg =>
    obtain ⟨w, h', hw, hh', e⟩ := word_ok hh1 n1 n2
    exact ⟨w, h', hw, hh', by simp [g__law_built, c1, e, m2, c2, et, c3]⟩
  subst c3
  obtain ⟨v, h2, hv, hh2, ev⟩ := word_ok (n := n / 2) hh1 (by omega) (by omega)
  push_cast at ev
  -- behind the half: the same end for both
  have fin : ∀ (u : List Int) (q : Option Slot) (h3 : List D), IsW u (n / 2) → HandOk h3 → (∀ k c, q ≠ some (.par k c)) → (∀ c, q ≠ some (.own c)) → ∃ w h', IsW w n ∧ HandOk h' ∧ outS true ((gSeq (gSet 4 (fCallM 2 m__law_take 0 (fCons (fC (.int 3)) fNil)))
    (gSeq (gIf (t2 eqD (fVar 4) (fC (.int 0))) (gRet (f2 addD (fVar 2) (fB tupleD (fCons (fOfL (fLc (fIt (fVar 2)) [5] (tgName 5) fYes (f1 negI (fVar 5)))) fNil)))) gNx)
    (gSeq (gIf (t2 eqD (fVar 4) (fC (.int 1))) (gRet (fB tupleD (fCons (fOfL (fLc (fRange1 (fCons (fVar 1) fNil)) [6] (tgName 6) fYes (f2 mulD (f2 ixD (fVar 2) (f2 fdvI (fVar 6) (fC (.int 2)))) (f2 subI (fC (.int 1)) (f2 mulD (fC (.int 2)) (f2 modI (fB int1D (fCons (fVar 6) fNil)) (fC (.int 2)))))))) fNil))) gNx)
    (gRet (f2 addD (fVar 2) (fB tupleD (fCons (fOfL (fLc (fRange1 (fCons (fB lenD (fCons (fVar 2) fNil)) fNil)) [6] (tgName 6) fYes (f2 mulD (f2 mulD (f2 ixD (fVar 2) (f2 subI (f2 subI (fB lenD (fCons (fVar 2) fNil)) (fC (.int 1))) (fVar 6))) (f2 subI (fC (.int 1)) (f2 mulD (fC (.int 2)) (fCallM 2 m__law_take 0 (fCons (fC (.int 2)) fNil))))) (f2 ixD (fVar 2) (fC (.int 0)))))) fNil))))))) [some (.par 0 (.lst h3)), some (.dat (.int n)), some (.dat (ti u)), q, none, none, none]) = .ok (ti w) (some (.lst h')) := by
    intro u q h3 hu hh3 hq hq2
    obtain ⟨p, h4, p0, p1, hh4, ep⟩ := take_ok (m := 3) hh3 (by decide) (by simp)
    have lu := hu.1
    have u0 : ixD (ti u) (.int 0) = some (.int 1) := by
      have := ixD_ti (w := u) (k := 0) (by omega)
      have c := hu.2.2
      rw [List.head?_eq_getElem?, List.getElem?_eq_getElem (by omega)] at c
      rw [show (0 : Int) = ((0 : Nat) : Int) from rfl, this, Option.some.inj c]
    by_cases p2 : p = 0
    · subst p2
      have hl := neg_lc (ρ := [some (.par 0 (.lst h4)), some (.dat (.int n)), some (.dat (ti u)), q, some (.dat (.int 0)), none, none]) (i := 5) (j := 2) (w := u) rfl (by simp) rfl (by omega)
      refine ⟨u ++ negW u, h4, ?_, hh4, ?_⟩
      · have := isW_app hu (negW_sg hu.2.1) (m := n / 2) (by unfold negW; simp [lu])
        rw [show n / 2 + n / 2 = n by omega] at this
        exact this
      · simp [ep, hl, tup_ints, add_ti (w := u) (v := negW u) (by unfold negW; simp; omega)]
    by_cases p3 : p = 1
    · subst p3
      have hl := lc_all (it := fRange1 (fCons (fVar 1) fNil)) (vs := [6]) (t := tgName 6) (te := f2 mulD (f2 ixD (fVar 2) (f2 fdvI (fVar 6) (fC (.int 2)))) (f2 subI (fC (.int 1)) (f2 mulD (fC (.int 2)) (f2 modI (fB int1D (fCons (fVar 6) fNil)) (fC (.int 2)))))) (ρ := [some (.par 0 (.lst h4)), some (.dat (.int n)), some (.dat (ti u)), q, some (.dat (.int 1)), none, none]) (ρ1 := [some (.par 0 (.lst h4)), some (.dat (.int n)), some (.dat (ti u)), q, some (.dat (.int 1)), none, none])
        (fun k : Nat => .int (k : Nat)) (fun k => .int ((u[k / 2]?.getD 0) * (1 - 2 * ((k % 2 : Nat) : Int)))) (List.range n) (by simp [range1_nat (n := n) (by omega)]) rfl (by simp; omega) fun k hk => by
          rw [List.mem_range] at hk
          have e1 := ixD_ti (w := u) (k := k / 2) (by omega)
          have e2 : fdvI (.int k) (.int 2) = some (.int (k / 2 : Nat)) := by rw [fdvI_s (by decide) (by simp)]; simp
          have e3 : modI (.int k) (.int 2) = some (.int (k % 2 : Nat)) := by rw [modI_int (by decide)]; simp
          have s1 : Sm u[k / 2] := by rcases sg_at hu.2.1 (show k / 2 < u.length by omega) with h | h <;> rw [h] <;> simp
          have s3 : Sm ((k % 2 : Nat) : Int) := sm_of (by omega)
          have s2 : Sm (1 - 2 * ((k % 2 : Nat) : Int)) := sm_of (by omega)
          have e4 : mulD (.int 2) (.int ((k % 2 : Nat) : Int)) = some (.int (2 * ((k % 2 : Nat) : Int))) := mulD_s (by simp) s3
          have e5 : mulD (.int u[k / 2]) (.int (1 - 2 * ((k % 2 : Nat) : Int))) = some (.int (u[k / 2] * (1 - 2 * ((k % 2 : Nat) : Int)))) := mulD_s s1 s2
          refine ⟨[some (.par 0 (.lst h4)), some (.dat (.int n)), some (.dat (ti u)), q, some (.dat (.int 1)), none, some (.dat (.int k))], rfl, ?_, rfl⟩
          rw [List.getElem?_eq_getElem (show k / 2 < u.length by omega), Option.getD_some, e_f2]
          simp only [e_f2, e_var, List.getElem?_cons_zero, List.getElem?_cons_succ, rdS_dat, bind_ok, bnd_ok, e_C, e2, of_some, e1, e_B, e_Cons, e_Nil, int1D_int, e3, e4, subI_int, e5]
      have hw : (List.range n).map (fun k => D.int ((u[k / 2]?.getD 0) * (1 - 2 * ((k % 2 : Nat) : Int)))) = ((List.range n).map (fun k => ((u[k / 2]?.getD 0) * (1 - 2 * ((k % 2 : Nat) : Int)) : Int))).map .int := by rw [List.map_map]; rfl
      rw [hw] at hl
      obtain ⟨W, hW⟩ : ∃ W, W = (List.range n).map (fun k => ((u[k / 2]?.getD 0) * (1 - 2 * ((k % 2 : Nat) : Int)) : Int)) := ⟨_, rfl⟩
      rw [← hW] at hl
      refine ⟨W, h4, ?_, hh4, by simp [ep, hl, tup_ints]⟩
      subst hW
      refine ⟨?_, ?_, ?_⟩
      · simp
      · intro x hx
        rw [List.mem_map] at hx
        obtain ⟨k, hk, rfl⟩ := hx
        rw [List.mem_range] at hk
        rw [List.getElem?_eq_getElem (show k / 2 < u.length by omega), Option.getD_some]
        rcases sg_at hu.2.1 (show k / 2 < u.length by omega) with h | h <;> rw [h] <;> omega
      · obtain ⟨m, rfl⟩ : ∃ m, n = m + 1 := ⟨n - 1, by omega⟩
        rw [List.range_succ_eq_map, List.map_cons, List.head?_cons]
        have c := hu.2.2
        rw [List.head?_eq_getElem?] at c
        simp [c]
    · obtain ⟨acc, ρb, el, h5, ws, hacc, hρ, hh5, hs, hlen⟩ := lc_inv (it := fRange1 (fCons (fB lenD (fCons (fVar 2) fNil)) fNil)) (vs := [6]) (t := tgName 6) (tt := fYes) (te := f2 mulD (f2 mulD (f2 ixD (fVar 2) (f2 subI (f2 subI (fB lenD (fCons (fVar 2) fNil)) (fC (.int 1))) (fVar 6))) (f2 subI (fC (.int 1)) (f2 mulD (fC (.int 2)) (fCallM 2 m__law_take 0 (fCons (fC (.int 2)) fNil))))) (f2 ixD (fVar 2) (fC (.int 0)))) (ρ := [some (.par 0 (.lst h4)), some (.dat (.int n)), some (.dat (ti u)), q, some (.dat (.int p)), none, none]) (ρ1 := [some (.par 0 (.lst h4)), some (.dat (.int n)), some (.dat (ti u)), q, some (.dat (.int p)), none, none])
        (fun k : Nat => .int (k : Nat)) (fun (rest : List Nat) acc ρ => ∃ (h5 : List D) (ws : List Int), acc = ws.map .int ∧ ρ = [some (.par 0 (.lst h5)), some (.dat (.int n)), some (.dat (ti u)), q, some (.dat (.int p)), none, none] ∧ HandOk h5 ∧ Sg ws ∧ ws.length + rest.length = n / 2 ∧ ∀ k ∈ rest, k < n / 2)
        (List.range (n / 2)) (by simp [ti2, lu]; exact range1_nat (n := n / 2) (by omega)) rfl (by simp; omega) ⟨h4, [], rfl, rfl, hh4, (fun x hx => by cases hx), by simp, fun k hk => List.mem_range.mp hk⟩ fun k rest acc ρ hI => by
          obtain ⟨h5, ws, rfl, rfl, hh5, hs, hlen, hk⟩ := hI
          obtain ⟨r, h6, r0, r1, hh6, er⟩ := take_ok (m := 2) hh5 (by decide) (by simp)
          have kk := hk k List.mem_cons_self
          have e1 := ixD_ti (w := u) (k := n / 2 - 1 - k) (by omega)
          have eix : ((n / 2 : Nat) : Int) - 1 - k = ((n / 2 - 1 - k : Nat) : Int) := by omega
          have sg := sg_at hu.2.1 (show n / 2 - 1 - k < u.length by omega)
          generalize u[n / 2 - 1 - k]'(by omega) = y at e1 sg
          have sy : Sm y := by rcases sg with h | h <;> rw [h] <;> simp
          have sr : Sm r := sm_of (by omega)
          have s2 : Sm (1 - 2 * r) := sm_of (by omega)
          have yr : y * (1 - 2 * r) = 1 ∨ y * (1 - 2 * r) = -1 := by rcases sg with h | h <;> subst h <;> omega
          have s3 : Sm (y * (1 - 2 * r)) := by rcases yr with h | h <;> rw [h] <;> simp
          refine ⟨[some (.par 0 (.lst h5)), some (.dat (.int n)), some (.dat (ti u)), q, some (.dat (.int p)), none, some (.dat (.int k))], true, _, rfl, rfl, fun _ => ⟨.int (y * (1 - 2 * r)), [some (.par 0 (.lst h6)), some (.dat (.int n)), some (.dat (ti u)), q, some (.dat (.int p)), none, some (.dat (.int k))], ?_, h6, ws ++ [y * (1 - 2 * r)], by simp, rfl, hh6, ?_, ?_, fun j hj => hk j (List.mem_cons_of_mem _ hj)⟩, fun h => nomatch h⟩
          · simp only [e_f2, e_var, List.getElem?_cons_zero, List.getElem?_cons_succ, rdS_dat, bind_ok, bnd_ok, e_C, ti2, lu, of_some, e_B, e_Cons, e_Nil, subI_int, eix, e1, e_callM, listO_par, List.length_cons, List.length_nil, Nat.zero_add, if_pos rfl, List.map_cons, List.map_nil, er, callM_ok, e_put2, e_slotPut, put_par, okO_some, List.set_cons_zero, mulD_s (sm_lit.mpr (by decide) : Sm 2) sr, mulD_s sy s2, u0, mulD_s s3 sm_one, Int.mul_one, ite_true]
          · intro x hx
            rcases List.mem_append.mp hx with hx | hx
            · exact hs x hx
            · simp at hx; subst hx; exact yr
          · simp only [List.length_append, List.length_cons, List.length_nil] at hlen ⊢; omega
      subst hacc hρ
      have hb : backE [6] [some (.par 0 (.lst h4)), some (.dat (.int n)), some (.dat (ti u)), q, some (.dat (.int p)), none, none] [some (.par 0 (.lst h5)), some (.dat (.int n)), some (.dat (ti u)), q, some (.dat (.int p)), none, none] = [some (.par 0 (.lst h5)), some (.dat (.int n)), some (.dat (ti u)), q, some (.dat (.int p)), none, none] := rfl
      rw [hb] at el
      simp only [List.length_nil, Nat.add_zero] at hlen
      refine ⟨u ++ ws, h5, ?_, hh5, ?_⟩
      · have := isW_app hu hs hlen.1
        rw [show n / 2 + n / 2 = n by omega] at this
        exact this
      · simp [ep, p2, p3, el, tup_ints, add_ti (w := u) (v := ws) (by omega)]
  have c2' : n % 2 = 0 := by omega
  by_cases c4 : (n : Int) % 4 = 0
  · obtain ⟨qw, h3, hq, hh3, eq⟩ := word_ok (n := n / 4) hh2 (by omega) (by omega)
    have lq := hq.1
    push_cast at eq
    have hn := isW_app hq (negW_sg hq.2.1) (m := n / 4) (by unfold negW; simp [lq])
    rw [show n / 4 + n / 4 = n / 2 by omega] at hn
    obtain ⟨w, h', hw, hh', e⟩ := fin (qw ++ negW qw) (some (.dat (ti qw))) h3 hn hh3 (fun _ _ => by simp) (fun _ => by simp)
    have hl := neg_lc (ρ := [some (.par 0 (.lst h3)), some (.dat (.int n)), some (.dat (ti v)), some (.dat (ti qw)), none, none, none]) (i := 5) (j := 3) (w := qw) rfl (by simp) rfl (by omega)
    refine ⟨w, h', hw, hh', ?_⟩
    rw [← e]
    simp [g__law_built, c1, m2, c2, et, d2, ev, m4, c4, d4, eq, hl, tup_ints, add_ti (w := qw) (v := negW qw) (by unfold negW; simp; omega)]
  · obtain ⟨w, h', hw, hh', e⟩ := fin v none h2 hv hh2 (fun _ _ => by simp) (fun _ => by simp)
    refine ⟨w, h', hw, hh', ?_⟩
    rw [← e]
    simp [g__law_built, c1, m2, c2, et, d2, ev, m4, c4]
end K07

set_option Elab.async false
set_option linter.all false
set_option maxRecDepth 100000
set_option autoImplicit false
namespace K07
open PySem PySem.Spec PyProof.Rows L2 DL
/-- the word with the number j -/
def sgW (n j : Nat) : List Int := (List.range n).map fun k => if j / 2 ^ (n - 1 - k) % 2 = 0 then 1 else -1
theorem lsigns_ok {n j : Nat} (hn : n ≤ 24) (n1 : 1 ≤ n) : m__law_signs [.dat (.int n), .dat (.int j)] = .ok (ti (sgW n j)) none := by
  unfold m__law_signs
  rw [mk_out]
  have h := lc_all (it := fRange1 (fCons (fVar 0) fNil)) (vs := [2]) (t := tgName 2) (te := fIf (fTru (f2 modI (fB int1D (fCons (f2 shrI (fVar 1) (f2 subI (f2 subI (fVar 0) (fC (.int 1))) (fVar 2))) fNil)) (fC (.int 2)))) (f1 negI (fC (.int 1))) (fC (.int 1))) (ρ := [some (.dat (.int n)), some (.dat (.int j)), none]) (ρ1 := [some (.dat (.int n)), some (.dat (.int j)), none])
    (fun k : Nat => .int (k : Nat)) (fun k => .int (if j / 2 ^ (n - 1 - k) % 2 = 0 then 1 else -1)) (List.range n) (by simp [range1_nat (n := n) (by omega)]) rfl (by simp; omega) fun k hk => by
      rw [List.mem_range] at hk
      have e1 : ((n : Int) - 1 - k) = ((n - 1 - k : Nat) : Int) := by omega
      have e2 : shrI (.int j) (.int ((n - 1 - k : Nat) : Int)) = some (.int ((j / 2 ^ (n - 1 - k) : Nat) : Int)) := by
        rw [shrI_int (by omega)]
        simp
      have e3 : modI (.int ((j / 2 ^ (n - 1 - k) : Nat) : Int)) (.int 2) = some (.int ((j / 2 ^ (n - 1 - k) % 2 : Nat) : Int)) := by
        rw [modI_int (by decide)]
        simp
      refine ⟨[some (.dat (.int n)), some (.dat (.int j)), some (.dat (.int k))], rfl, ?_, rfl⟩
      generalize j / 2 ^ (n - 1 - k) = x at e2 e3
      simp only [e_If, e_Tru, e_f2, e_var, List.getElem?_cons_zero, List.getElem?_cons_succ, rdS_dat, bind_ok, bnd_ok, e_C, e_B, e_Cons, e_Nil, of_some, subI_int, e1, e2, int1D_int, e3, tru_int, e_f1, negI_int]
      by_cases hx : x % 2 = 0
      · rw [if_pos hx, hx]; rfl
      · have : x % 2 = 1 := by omega
        rw [if_neg hx, this]; rfl
  have e : (List.range n).map (fun k => D.int (if j / 2 ^ (n - 1 - k) % 2 = 0 then 1 else -1)) = (sgW n j).map .int := by
    unfold sgW
    rw [List.map_map]
    rfl
  rw [e] at h
  simp [g__law_signs, h, tup_ints]
def wordsN (n : Nat) : List (List Int) := ((List.range 8).filter fun j => decide (j < 2 ^ (n - 1))).map (sgW n)
def isWb (w : List Int) (n : Nat) : Bool := decide (w.length = n) && (w.all (fun x => decide (x = 1) || decide (x = -1)) && decide (w.head? = some 1))
theorem isW_of {w : List Int} {n : Nat} (h : isWb w n = true) : IsW w n := by
  unfold isWb at h
  simp at h
  exact ⟨h.1, h.2.1, h.2.2⟩
theorem words_all : ∀ n, n < 5 → 0 < n → (wordsN n).all (fun w => isWb w n && (wordsN n).all fun v => decide (mulW w v ∈ wordsN n)) = true := by decide +kernel
theorem words_lc {n : Nat} {h : List D} {s0 s2 s3 s4 s5 s6 s7 s8 s10 s11 s12 s13 s14 s15 s16 s17 : Option Slot} (hs : s16 = none) (n1 : 1 ≤ n) (n4 : n ≤ 4) : fLc (fRange1 (fCons (fC (.int 8)) fNil)) [16] (tgName 16) (t2 ltI (fVar 16) (f2 shlI (fC (.int 1)) (f2 subI (fVar 9) (fC (.int 1))))) (fCall 2 m__law_signs [] (fCons (fVar 9) (fCons (fVar 16) fNil)))
    [s0, some (.own h), s2, s3, s4, s5, s6, s7, s8, some (.dat (.int n)), s10, s11, s12, s13, s14, s15, s16, s17] = .ok ((wordsN n).map ti) [s0, some (.own h), s2, s3, s4, s5, s6, s7, s8, some (.dat (.int n)), s10, s11, s12, s13, s14, s15, s16, s17] := by
  subst hs
  have e1 : (n : Int) - 1 = ((n - 1 : Nat) : Int) := by omega
  have e2 : shlI (.int 1) (.int ((n - 1 : Nat) : Int)) = some (.int ((2 ^ (n - 1) : Nat) : Int)) := by
    rw [shlI_one (by omega) (by omega)]
    simp
  have h := lc_map (it := fRange1 (fCons (fC (.int 8)) fNil)) (vs := [16]) (t := tgName 16) (tt := t2 ltI (fVar 16) (f2 shlI (fC (.int 1)) (f2 subI (fVar 9) (fC (.int 1))))) (te := fCall 2 m__law_signs [] (fCons (fVar 9) (fCons (fVar 16) fNil))) (ρ := [s0, some (.own h), s2, s3, s4, s5, s6, s7, s8, some (.dat (.int n)), s10, s11, s12, s13, s14, s15, none, s17]) (ρ1 := [s0, some (.own h), s2, s3, s4, s5, s6, s7, s8, some (.dat (.int n)), s10, s11, s12, s13, s14, s15, none, s17])
    (fun k : Nat => .int (k : Nat)) (fun j => decide (j < 2 ^ (n - 1))) (fun j => ti (sgW n j)) (List.range 8) (by simp only [e_range1, e_C, bind_ok]; exact range1_nat (n := 8) (by omega)) rfl (by simp) fun k hk => by
      refine ⟨[s0, some (.own h), s2, s3, s4, s5, s6, s7, s8, some (.dat (.int n)), s10, s11, s12, s13, s14, s15, some (.dat (.int k)), s17], rfl, ?_, fun _ => ?_, rfl⟩
      · simp only [e_t2, e_f2, e_var, List.getElem?_cons_zero, List.getElem?_cons_succ, rdS_dat, bind_ok, bnd_ok, e_C, of_some, subI_int, e1, e2, ltI_int, kB_bl]
        congr 1
        rw [Bool.eq_iff_iff, decide_eq_true_iff, decide_eq_true_iff]
        omega
      · simp [lsigns_ok (n := n) (j := k) (by omega) n1]
  rw [h]
  unfold wordsN
  rw [List.map_map]
  rfl
theorem in_words {w : List Int} {ws : List (List Int)} : inA true (ti w) (.lst (ws.map ti)) = some (.bl (!decide (w ∈ ws))) := by
  rw [in_deep (by simp) rfl (by simp)]
  rw [if_pos rfl]
  congr 3
  rw [Bool.eq_iff_iff]
  simp
theorem ones_mul {n : Nat} (n1 : 1 ≤ n) (n2 : n ≤ 24) : mulD (.tup [.int 1]) (.int n) = some (ti (List.replicate n 1)) := by
  have e0 : mulI (.tup [.int 1]) (.int n) = none := rfl
  have e2 : mulTD (.tup [.int 1]) (.int n) = some (ti (List.replicate n 1)) := by
    by_cases h : n = 1
    · subst h; rfl
    · have a1 : mulT1 (.tup [.int 1]) (.int n) = none := by
        show (if (n : Int) = 1 then some (D.tup [.int 1]) else none) = none
        rw [if_neg (by omega)]
      have a2 : mulT2 (.tup [.int 1]) (.int n) = some (ti (List.replicate n 1)) := by
        show (if _ then some (D.tup (List.replicate (n : Int).toNat [D.int 1]).flatten) else none) = _
        rw [if_pos ⟨by simp, by omega, by omega, by simp⟩]
        unfold ti
        congr 2
        rw [Int.toNat_natCast, List.map_replicate]
        clear a1 h n1 n2 e0
        induction n with
        | zero => rfl
        | succ n ih => rw [List.replicate_succ, List.flatten_cons, ih]; rfl
      unfold mulTD alt2
      rw [a1, a2]
  unfold mulD alt2
  rw [e0, e2]
theorem isW_ones {n : Nat} (n1 : 1 ≤ n) : IsW (List.replicate n 1) n := by
  refine ⟨by simp, fun x hx => .inl (List.eq_of_mem_replicate hx), ?_⟩
  obtain ⟨m, rfl⟩ : ∃ m, n = m + 1 := ⟨n - 1, by omega⟩
  rfl
end K07

set_option Elab.async false
set_option linter.all false
set_option maxRecDepth 100000
set_option autoImplicit false
namespace K07
open PySem PySem.Spec PyProof.Rows L2 DL
theorem loop2 {s0 s1 s2 s3 s4 s5 s6 s7 s8 s9 s11 s12 s13 s14 s15 s16 s17 : Option Slot} {n : Nat} (n1 : 1 ≤ n) (n4 : n ≤ 4) : ∃ t7 t8, forL (tgName 7) (gFor (fIt (fVar 10)) (tgName 8) (gSeq (gIf (fNot (fTru (fCall 2 m__law_couple [] (fCons (fVar 7) (fCons (fVar 8) fNil))))) (gRet (fC (.bl false))) gNx)
    (gIf (t2 (inA true) (fCall 2 m__law_made [] (fCons (fVar 7) (fCons (fVar 8) fNil))) (fVar 10)) (gRet (fC (.bl false))) gNx))) ((wordsN n).map ti) [s0, s1, s2, s3, s4, s5, s6, s7, s8, s9, some (.dat (.lst ((wordsN n).map ti))), s11, s12, s13, s14, s15, s16, s17] = .nx [s0, s1, s2, s3, s4, s5, s6, t7, t8, s9, some (.dat (.lst ((wordsN n).map ti))), s11, s12, s13, s14, s15, s16, s17] := by
  have hW := words_all n (by omega) (by omega)
  rw [List.all_eq_true] at hW
  have hW : ∀ w ∈ wordsN n, IsW w n ∧ ∀ v ∈ wordsN n, mulW w v ∈ wordsN n := fun w hw => by
    have := hW w hw
    rw [Bool.and_eq_true, List.all_eq_true] at this
    exact ⟨isW_of this.1, fun v hv => of_decide_eq_true (this.2 v hv)⟩
  obtain ⟨ρ', e, t7, t8, hρ, _⟩ := for_inv (t := tgName 7) (g := (gFor (fIt (fVar 10)) (tgName 8) (gSeq (gIf (fNot (fTru (fCall 2 m__law_couple [] (fCons (fVar 7) (fCons (fVar 8) fNil))))) (gRet (fC (.bl false))) gNx)
    (gIf (t2 (inA true) (fCall 2 m__law_made [] (fCons (fVar 7) (fCons (fVar 8) fNil))) (fVar 10)) (gRet (fC (.bl false))) gNx))))
    (fun rest ρ => ∃ t7 t8, ρ = [s0, s1, s2, s3, s4, s5, s6, t7, t8, s9, some (.dat (.lst ((wordsN n).map ti))), s11, s12, s13, s14, s15, s16, s17] ∧ ∀ d ∈ rest, ∃ w ∈ wordsN n, d = ti w)
    (fun d ds ρ hI => by
      obtain ⟨t7, t8, rfl, hd⟩ := hI
      obtain ⟨w, hw, rfl⟩ := hd d List.mem_cons_self
      obtain ⟨ρ', e, u8, hρ, _⟩ := for_inv (t := tgName 8) (g := (gSeq (gIf (fNot (fTru (fCall 2 m__law_couple [] (fCons (fVar 7) (fCons (fVar 8) fNil))))) (gRet (fC (.bl false))) gNx)
        (gIf (t2 (inA true) (fCall 2 m__law_made [] (fCons (fVar 7) (fCons (fVar 8) fNil))) (fVar 10)) (gRet (fC (.bl false))) gNx)))
        (fun rest ρ => ∃ t8, ρ = [s0, s1, s2, s3, s4, s5, s6, some (.dat (ti w)), t8, s9, some (.dat (.lst ((wordsN n).map ti))), s11, s12, s13, s14, s15, s16, s17] ∧ ∀ d ∈ rest, ∃ w ∈ wordsN n, d = ti w)
        (fun d ds ρ hI => by
          obtain ⟨t8, rfl, hd⟩ := hI
          obtain ⟨v, hv, rfl⟩ := hd d List.mem_cons_self
          have h1 := (hW w hw).1
          have h2 := (hW v hv).1
          refine ⟨_, [s0, s1, s2, s3, s4, s5, s6, some (.dat (ti w)), some (.dat (ti v)), s9, some (.dat (.lst ((wordsN n).map ti))), s11, s12, s13, s14, s15, s16, s17], rfl, .inl ?_, _, rfl, fun d h => hd d (List.mem_cons_of_mem _ h)⟩
          simp [couple_ok h1 h2 n1 (by omega), made_ok (cw_ti h1 n1 (by omega)) (cw_ti h2 n1 (by omega)), in_words, (hW w hw).2 v hv])
        ((wordsN n).map ti) [s0, s1, s2, s3, s4, s5, s6, some (.dat (ti w)), t8, s9, some (.dat (.lst ((wordsN n).map ti))), s11, s12, s13, s14, s15, s16, s17]
        ⟨t8, rfl, fun d hd => by obtain ⟨w, hw, rfl⟩ := List.mem_map.mp hd; exact ⟨w, hw, rfl⟩⟩
      refine ⟨_, [s0, s1, s2, s3, s4, s5, s6, some (.dat (ti w)), u8, s9, some (.dat (.lst ((wordsN n).map ti))), s11, s12, s13, s14, s15, s16, s17], rfl, .inl ?_, _, _, rfl, fun d h => hd d (List.mem_cons_of_mem _ h)⟩
      rw [← hρ, ← e]
      simp [s_For])
    ((wordsN n).map ti) [s0, s1, s2, s3, s4, s5, s6, s7, s8, s9, some (.dat (.lst ((wordsN n).map ti))), s11, s12, s13, s14, s15, s16, s17]
    ⟨s7, s8, rfl, fun d hd => by obtain ⟨w, hw, rfl⟩ := List.mem_map.mp hd; exact ⟨w, hw, rfl⟩⟩
  exact ⟨t7, t8, hρ ▸ e⟩
theorem drop_ti {w : List Int} : slD (ti w) (some 1) none = some (ti (w.drop 1)) := by
  unfold slD ti
  dsimp only
  congr 2
  unfold DL.cutD
  rw [List.map_drop]
  have e1 : HT.sIx (w.map D.int).length 0 (some 1) = min 1 w.length := by
    unfold HT.sIx
    simp
  have e2 : HT.sIx (w.map D.int).length (w.map D.int).length none = w.length := by
    unfold HT.sIx
    simp
  rw [e1, e2]
  by_cases h : 1 ≤ w.length
  · rw [Nat.min_eq_left h, List.take_of_length_le (by simp)]
  · have : w = [] := by cases w with
      | nil => rfl
      | cons _ _ => simp at h
    subst this
    rfl
theorem wide_ok {w : List Int} {n : Nat} (hw : IsW w n) (n1 : 1 ≤ n) (n2 : n ≤ 24) {s0 s1 s4 s5 s6 s7 s8 s9 s10 s12 s13 s14 s15 s16 : Option Slot} : ∃ (v : List Int) (m : Nat) (ρ1 : En), IsW v m ∧ m ≠ n ∧ 1 ≤ m ∧ m ≤ 24 ∧
    gs_law_11 [s0, s1, some (.dat (.int n)), some (.dat (ti w)), s4, s5, s6, s7, s8, s9, s10, none, s12, s13, s14, s15, s16, none] = .nx ρ1 ∧ gs_law_12 ρ1 = .nx [s0, s1, some (.dat (.int n)), some (.dat (ti w)), s4, s5, s6, s7, s8, s9, s10, some (.dat (ti v)), s12, s13, s14, s15, s16, none] := by
  have lw := hw.1
  by_cases h : (n : Int) < 24
  · have hv := isW_app hw (v := [1]) (m := 1) (fun x hx => .inl (by simpa using hx)) rfl
    have a1 : addD (ti w) (.tup [.int 1]) = some (ti (w ++ [1])) := add_ti (w := w) (v := [1]) (by simp; omega)
    have a2 : ixD (ti (w ++ [1])) (.int 0) = some (.int 1) := by
      have := ixD_ti (w := w ++ [1]) (k := 0) (by simp)
      have c := hv.2.2
      rw [List.head?_eq_getElem?, List.getElem?_eq_getElem (by simp)] at c
      rw [show (0 : Int) = ((0 : Nat) : Int) from rfl, this, Option.some.inj c]
    refine ⟨w ++ [1], n + 1, [s0, s1, some (.dat (.int n)), some (.dat (ti w)), s4, s5, s6, s7, s8, s9, s10, some (.dat (ti (w ++ [1]))), s12, s13, s14, s15, s16, none], hv, by omega, by omega, by omega, ?_, ?_⟩
    · simp [gs_law_11, h, a1]
    · simp [gs_law_12, a2]
  · have hn : n = 24 := by omega
    subst hn
    have ls : (w.drop 1).length = 23 := by simp [lw]
    have ss : Sg (w.drop 1) := fun x hx => hw.2.1 x (List.mem_of_mem_drop hx)
    cases hd : w.drop 1 with
    | nil => rw [hd] at ls; simp at ls
    | cons x u =>
      rw [hd] at ls ss
      have a2 : ixD (ti (x :: u)) (.int 0) = some (.int x) := ixD_ti (w := x :: u) (k := 0) (by simp)
      have a1 : slD (ti w) (some 1) none = some (ti (x :: u)) := by rw [drop_ti, hd]
      have sl : ∀ ρ : En, fSl (fVar 3) (oSome (fC (.int 1))) oNone ρ = (fVar 3 ρ).bind fun d ρ1 => R.of (slD d (some 1) none) ρ1 := fun ρ => rfl
      have st : gs_law_11 [s0, s1, some (.dat (.int 24)), some (.dat (ti w)), s4, s5, s6, s7, s8, s9, s10, none, s12, s13, s14, s15, s16, none] = .nx [s0, s1, some (.dat (.int 24)), some (.dat (ti w)), s4, s5, s6, s7, s8, s9, s10, some (.dat (ti (x :: u))), s12, s13, s14, s15, s16, none] := by simp [gs_law_11, sl, a1]
      rcases ss x List.mem_cons_self with hx | hx
      · subst hx
        refine ⟨1 :: u, 23, _, ⟨ls, ss, rfl⟩, by omega, by omega, by omega, st, ?_⟩
        simp [gs_law_12, a2]
      · subst hx
        have hl := neg_lc (ρ := [s0, s1, some (.dat (.int 24)), some (.dat (ti w)), s4, s5, s6, s7, s8, s9, s10, some (.dat (ti (-1 :: u))), s12, s13, s14, s15, s16, none]) (i := 17) (j := 11) (w := -1 :: u) rfl (by simp) rfl (by omega)
        refine ⟨negW (-1 :: u), 23, _, ⟨by unfold negW; simp at ls ⊢; exact ls, negW_sg ss, rfl⟩, by omega, by omega, by omega, st, ?_⟩
        simp [gs_law_12, a2, hl, tup_ints]
theorem odd_at {r : Int} (h0 : 0 ≤ r) (h1 : r < 5) : ∃ d, ixD (.lst [.int 0, .bl true, .non, .tup [.int 1, .int 1], .str "+"]) (.int r) = some d ∧ NoS d ∧ good 64 d = true := by
  have : r = 0 ∨ r = 1 ∨ r = 2 ∨ r = 3 ∨ r = 4 := by omega
  rcases this with h | h | h | h | h <;> subst h <;> rw [ixD_l]
  · exact ⟨.int 0, rfl, .inl rfl, by simp⟩
  · exact ⟨.bl true, rfl, .inr (is_whole_no (t := "bool") rfl (.inl (by simp))), by simp⟩
  · exact ⟨.non, rfl, .inr (is_whole_no (t := "NoneType") rfl (.inr ⟨by simp, by simp⟩)), by simp⟩
  · exact ⟨.tup [.int 1, .int 1], rfl, .inr (is_whole_no (t := "tuple") rfl (.inr ⟨by simp, by simp⟩)), by simp⟩
  · exact ⟨.str "+", rfl, .inr (is_whole_no (t := "str") rfl (.inr ⟨by simp, by simp⟩)), by simp⟩
theorem tail_ti {w : List Int} : slD (ti w) (some 1) none = some (ti w.tail) := by rw [drop_ti, List.drop_one]
theorem law_true : ∀ ns : List Int, ns.length ≤ 63 → (∀ z ∈ ns, Builtin.Int.intBits z ≤ 1048576) → m_law [.dat (.slst (ns.map D.int))] = .ok (.bl true) none := by
  intro ns hns _
  obtain ⟨h0, hh0, eh⟩ := hand_ok hns
  obtain ⟨n, h1, n1, n2, hh1, ec⟩ := count_ok hh0
  obtain ⟨w1, h2, hw1, hh2, e1⟩ := word_ok hh1 n1 n2
  obtain ⟨w2, h3, hw2, hh3, e2⟩ := word_ok hh2 n1 n2
  obtain ⟨w3, h4, hw3, hh4, e3⟩ := built_ok hh3 n1 n2
  have hp := isW_ones n1
  have l1 := hw1.1
  have l2 := hw2.1
  have om := ones_mul n1 n2
  have k1 := couple_ok hw1 hw2 n1 n2
  have k2 := couple_ok hw2 hw3 n1 n2
  have k3 := couple_ok hw3 hw1 n1 n2
  have k4 := couple_ok hw1 hw1 n1 n2
  have k5 := couple_ok hp hw1 n1 n2
  have k6 := couple_ok hw3 hp n1 n2
  have c1 := cw_ti hw1 n1 n2
  have c2 := cw_ti hw2 n1 n2
  have c3 := cw_ti hw3 n1 n2
  have m1 := made_ok c1 c1
  rw [mulW_self hw1.2.1, l1] at m1
  have m2 := made_ok (cw_ti hp n1 n2) c2
  rw [← l2, mulW_one, l2] at m2
  have m3 := made_ok c1 c2
  have m4 := made_ok (cw_ti (mulW_is hw1 hw2) n1 n2) c3
  have m5 := made_ok c2 c3
  have m6 := made_ok c1 (cw_ti (mulW_is hw2 hw3) n1 n2)
  rw [← mulW_assoc] at m6
  obtain ⟨r4, h5, r40, r41, hh5, e4⟩ := take_ok (m := 4) hh4 (by decide) (by simp)
  obtain ⟨m, hm⟩ : ∃ m : Nat, 1 + r4 = m := ⟨(1 + r4).toNat, by omega⟩
  obtain ⟨t7, t8, el2⟩ := loop2 (n := m) (s0 := some (.dat (.slst (ns.map D.int)))) (s1 := some (.own h5)) (s2 := some (.dat (.int n))) (s3 := some (.dat (ti w1))) (s4 := some (.dat (ti w2))) (s5 := some (.dat (ti w3))) (s6 := some (.dat (ti (List.replicate n 1)))) (s7 := some (.dat (ti w3))) (s8 := some (.dat (ti (List.replicate n 1)))) (s9 := some (.dat (.int m))) (s11 := none) (s12 := none) (s13 := none) (s14 := none) (s15 := none) (s16 := none) (s17 := none) (by omega) (by omega)
  have wl := words_lc (n := m) (h := h5) (s0 := some (.dat (.slst (ns.map D.int)))) (s2 := some (.dat (.int n))) (s3 := some (.dat (ti w1))) (s4 := some (.dat (ti w2))) (s5 := some (.dat (ti w3))) (s6 := some (.dat (ti (List.replicate n 1)))) (s7 := some (.dat (ti w3))) (s8 := some (.dat (ti (List.replicate n 1)))) (s10 := none) (s11 := none) (s12 := none) (s13 := none) (s14 := none) (s15 := none) (s16 := none) (s17 := none) rfl (by omega) (by omega)
  obtain ⟨v, mv, ρw, hv, hne, v1, v2, ew1, ew2⟩ := wide_ok hw1 n1 n2 (s0 := some (.dat (.slst (ns.map D.int)))) (s1 := some (.own h5)) (s4 := some (.dat (ti w2))) (s5 := some (.dat (ti w3))) (s6 := some (.dat (ti (List.replicate n 1)))) (s7 := t7) (s8 := t8) (s9 := some (.dat (.int m))) (s10 := some (.dat (.lst ((wordsN m).map ti)))) (s12 := none) (s13 := none) (s14 := none) (s15 := none) (s16 := none)
  have cv := cw_ti hv v1 v2
  have p1 := made_err (product_len c1 cv (Ne.symm hne))
  have p2 := made_err (product_len cv c1 hne)
  obtain ⟨sp, h6, sp0, sp1, hh6, e6⟩ := take_ok (m := n) hh5 (by omega) (sm_of (by omega))
  obtain ⟨s, hs⟩ : ∃ s : Nat, sp = s := ⟨sp.toNat, by omega⟩
  subst hs
  obtain ⟨r7, h7, r70, r71, hh7, e7⟩ := take_ok (m := 5) hh6 (by decide) (by simp)
  obtain ⟨od, eo, hno, hgo⟩ := odd_at r70 r71
  have lsp : s < w2.length := by omega
  have ix := ixN_nat (n := w2.length) (i := s) lsp
  have hset : (w2.map D.int).set s od = (w2.take s).map .int ++ od :: (w2.drop (s + 1)).map .int := by
    rw [List.set_eq_take_append_cons_drop, if_pos (by simpa using lsp), List.map_take, List.map_drop]
  have ce : CE (.lst ((w2.map D.int).set s od)) s "sign" := by
    have := signs_bad (d := .lst ((w2.map D.int).set s od)) (w := w2.take s) (b := od) (rest := (w2.drop (s + 1)).map .int) (by rw [seqOf_l, hset]) (fun x hx => hw2.2.1 x (List.mem_of_mem_take hx)) hno (by simp; omega)
    rw [List.length_take, Nat.min_eq_left (by omega)] at this
    exact this
  have b1 := made_err (product_e2 c1 ce)
  have b2 := made_err (product_e1 (d2 := ti w1) ce)
  have b3 := made_err (product_e1 (d2 := .non) ce)
  have b4 := made_err (product_e2 cv ce)
  have ct : CE (ti (-1 :: w2.tail)) 0 "first" := signs_first rfl (fun x hx => hw2.2.1 x (List.mem_of_mem_tail hx)) (by simp; omega)
  have b5 := made_err (product_e1 (d2 := ti w1) ct)
  have b6 := made_err (product_e2 c1 ct)
  have b7 := made_err (product_e2 c1 (signs_none : CE .non 0 "many"))
  have at1 : addD (.tup [.int (-1)]) (ti (w2.tail)) = some (ti (-1 :: w2.tail)) := add_ti (w := [-1]) (v := w2.tail) (by simp; omega)
  have sl : ∀ ρ : En, fSl (fVar 4) (oSome (fC (.int 1))) oNone ρ = (fVar 4 ρ).bind fun d ρ1 => R.of (slD d (some 1) none) ρ1 := fun ρ => rfl
  have io : ixD (.lst ((w2.map D.int).set s od)) (.int s) = some od := by
    rw [ixD_l, atI_nat (by simpa using lsp)]
    simp [lsp]
  have ro := eqF_refl od 64 hgo
  unfold m_law
  rw [mk_out]
  have st1 : gs_law_1 [some (.dat (.slst (ns.map D.int))), none, none, none, none, none, none, none, none, none, none, none, none, none, none, none, none, none] = .nx [some (.dat (.slst (ns.map D.int))), some (.own h0), none, none, none, none, none, none, none, none, none, none, none, none, none, none, none, none] := by simp [gs_law_1, eh]
  have st2 := (show gs_law_2 [some (.dat (.slst (ns.map D.int))), some (.own h0), none, none, none, none, none, none, none, none, none, none, none, none, none, none, none, none] = .nx [some (.dat (.slst (ns.map D.int))), some (.own h1), some (.dat (.int n)), none, none, none, none, none, none, none, none, none, none, none, none, none, none, none] by simp [gs_law_2, ec])
  have st3 := (show gs_law_3 [some (.dat (.slst (ns.map D.int))), some (.own h1), some (.dat (.int n)), none, none, none, none, none, none, none, none, none, none, none, none, none, none, none] = .nx [some (.dat (.slst (ns.map D.int))), some (.own h4), some (.dat (.int n)), some (.dat (ti w1)), some (.dat (ti w2)), some (.dat (ti w3)), none, none, none, none, none, none, none, none, none, none, none, none] by simp [gs_law_3, e1, e2, e3])
  have st4 := (show gs_law_4 [some (.dat (.slst (ns.map D.int))), some (.own h4), some (.dat (.int n)), some (.dat (ti w1)), some (.dat (ti w2)), some (.dat (ti w3)), none, none, none, none, none, none, none, none, none, none, none, none] = .nx [some (.dat (.slst (ns.map D.int))), some (.own h4), some (.dat (.int n)), some (.dat (ti w1)), some (.dat (ti w2)), some (.dat (ti w3)), some (.dat (ti (List.replicate n 1))), none, none, none, none, none, none, none, none, none, none, none] by simp [gs_law_4, om])
  have st5 := (show gs_law_5 [some (.dat (.slst (ns.map D.int))), some (.own h4), some (.dat (.int n)), some (.dat (ti w1)), some (.dat (ti w2)), some (.dat (ti w3)), some (.dat (ti (List.replicate n 1))), none, none, none, none, none, none, none, none, none, none, none] = .nx [some (.dat (.slst (ns.map D.int))), some (.own h4), some (.dat (.int n)), some (.dat (ti w1)), some (.dat (ti w2)), some (.dat (ti w3)), some (.dat (ti (List.replicate n 1))), some (.dat (ti w3)), some (.dat (ti (List.replicate n 1))), none, none, none, none, none, none, none, none, none] by simp [gs_law_5, s_For, forL_c, forL_nil, k1, k2, k3, k4, k5, k6])
  have st6 := (show gs_law_6 [some (.dat (.slst (ns.map D.int))), some (.own h4), some (.dat (.int n)), some (.dat (ti w1)), some (.dat (ti w2)), some (.dat (ti w3)), some (.dat (ti (List.replicate n 1))), some (.dat (ti w3)), some (.dat (ti (List.replicate n 1))), none, none, none, none, none, none, none, none, none] = .nx [some (.dat (.slst (ns.map D.int))), some (.own h4), some (.dat (.int n)), some (.dat (ti w1)), some (.dat (ti w2)), some (.dat (ti w3)), some (.dat (ti (List.replicate n 1))), some (.dat (ti w3)), some (.dat (ti (List.replicate n 1))), none, none, none, none, none, none, none, none, none] by simp [gs_law_6, m1, m2])
  have st7 := (show gs_law_7 [some (.dat (.slst (ns.map D.int))), some (.own h4), some (.dat (.int n)), some (.dat (ti w1)), some (.dat (ti w2)), some (.dat (ti w3)), some (.dat (ti (List.replicate n 1))), some (.dat (ti w3)), some (.dat (ti (List.replicate n 1))), none, none, none, none, none, none, none, none, none] = .nx [some (.dat (.slst (ns.map D.int))), some (.own h4), some (.dat (.int n)), some (.dat (ti w1)), some (.dat (ti w2)), some (.dat (ti w3)), some (.dat (ti (List.replicate n 1))), some (.dat (ti w3)), some (.dat (ti (List.replicate n 1))), none, none, none, none, none, none, none, none, none] by simp [gs_law_7, m3, m4, m5, m6])
  have st8 := (show gs_law_8 [some (.dat (.slst (ns.map D.int))), some (.own h4), some (.dat (.int n)), some (.dat (ti w1)), some (.dat (ti w2)), some (.dat (ti w3)), some (.dat (ti (List.replicate n 1))), some (.dat (ti w3)), some (.dat (ti (List.replicate n 1))), none, none, none, none, none, none, none, none, none] = .nx [some (.dat (.slst (ns.map D.int))), some (.own h5), some (.dat (.int n)), some (.dat (ti w1)), some (.dat (ti w2)), some (.dat (ti w3)), some (.dat (ti (List.replicate n 1))), some (.dat (ti w3)), some (.dat (ti (List.replicate n 1))), some (.dat (.int m)), none, none, none, none, none, none, none, none] by simp [gs_law_8, e4, hm])
  have st9 := (show gs_law_9 [some (.dat (.slst (ns.map D.int))), some (.own h5), some (.dat (.int n)), some (.dat (ti w1)), some (.dat (ti w2)), some (.dat (ti w3)), some (.dat (ti (List.replicate n 1))), some (.dat (ti w3)), some (.dat (ti (List.replicate n 1))), some (.dat (.int m)), none, none, none, none, none, none, none, none] = .nx [some (.dat (.slst (ns.map D.int))), some (.own h5), some (.dat (.int n)), some (.dat (ti w1)), some (.dat (ti w2)), some (.dat (ti w3)), some (.dat (ti (List.replicate n 1))), some (.dat (ti w3)), some (.dat (ti (List.replicate n 1))), some (.dat (.int m)), some (.dat (.lst ((wordsN m).map ti))), none, none, none, none, none, none, none] by simp [gs_law_9, wl])
  have st10 := (show gs_law_10 [some (.dat (.slst (ns.map D.int))), some (.own h5), some (.dat (.int n)), some (.dat (ti w1)), some (.dat (ti w2)), some (.dat (ti w3)), some (.dat (ti (List.replicate n 1))), some (.dat (ti w3)), some (.dat (ti (List.replicate n 1))), some (.dat (.int m)), some (.dat (.lst ((wordsN m).map ti))), none, none, none, none, none, none, none] = .nx [some (.dat (.slst (ns.map D.int))), some (.own h5), some (.dat (.int n)), some (.dat (ti w1)), some (.dat (ti w2)), some (.dat (ti w3)), some (.dat (ti (List.replicate n 1))), t7, t8, some (.dat (.int m)), some (.dat (.lst ((wordsN m).map ti))), none, none, none, none, none, none, none] by simp [gs_law_10, s_For, el2])
  simp only [g_law, s_Seq, List.map_cons, List.map_nil, List.cons_append, List.nil_append, List.length_cons, List.length_nil, List.replicate, st1, st2, st3, st4, st5, st6, st7, st8, st9, st10, ew1, ew2, sq_nx]
  simp [gs_law_13, gs_law_14, gs_law_15, gs_law_16, gs_law_17, gs_law_18, gs_law_19, gs_law_20, gs_law_21, p1, p2, e6, e7, eo, ix, b1, b2, b3, b4, b5, b6, b7, sl, tail_ti, at1, io, hgo, ro]
end K07

open PySem PySem.W PyProof.Rows
set_option maxRecDepth 100000 in
set_option maxHeartbeats 0 in
theorem PySem.Challenge.cw_hushedwires_k07_whole_products_form_a_gr_holds : PySem.Challenge.rw_hushedwires_k07_whole_products_form_a_gr.Holds := by
  w_on; o_law; k_head; (case hw => w_witness2)
  k_fill
  refine L2.walk_ofB (l := PySem.Challenge.rw_hushedwires_k07_whole_products_form_a_gr) (n := 63) (k := 8) (x := "_law_script") (CX := fun w => L2.CX PySem.Challenge.rw_hushedwires_k07_whole_products_form_a_gr.prog w) (sp := fun w => DL.spLaw _) rfl (by decide) rfl ⟨rfl, by decide, by decide⟩ (fun w h Y => PySem.W.kIn_of Y) ?F (fun _ _ a ns hl hb hO hS => ⟨a, ns, rfl, hl, hb, hO, hS, fun _ => rfl⟩) (fun _ _ _ _ _ h => DL.cx_none h)
  case F =>
    intro w mg fa h KX G hmg
    refine' K07.all_mk KX G hmg ?a__law_hand ?l__law_hand ?c__law_hand ?k__law_hand ?a__law_mixed ?l__law_mixed ?c__law_mixed ?k__law_mixed ?a__law_take ?l__law_take ?c__law_take ?k__law_take ?a__law_count ?l__law_count ?c__law_count ?k__law_count ?a__law_word ?l__law_word ?c__law_word ?k__law_word ?a__law_built ?l__law_built ?c__law_built ?k__law_built ?a__check_first ?l__check_first ?c__check_first ?k__check_first ?a_is_row ?l_is_row ?c_is_row ?k_is_row ?a_is_whole ?l_is_whole ?c_is_whole ?k_is_whole ?t_is_whole ?a__check_sign_row ?l__check_sign_row ?c__check_sign_row ?k__check_sign_row ?a_check_signs ?l_check_signs ?c_check_signs ?k_check_signs ?a_product_of ?l_product_of ?c_product_of ?k_product_of ?a__law_made ?l__law_made ?c__law_made ?k__law_made ?a__law_signs ?l__law_signs ?c__law_signs ?k__law_signs ?a__law_poles ?l__law_poles ?c__law_poles ?k__law_poles ?a__law_is_word ?l__law_is_word ?c__law_is_word ?k__law_is_word ?a__law_product ?l__law_product ?c__law_product ?k__law_product ?a_crossings_of ?l_crossings_of ?c_crossings_of ?k_crossings_of ?a__law_couple ?l__law_couple ?c__law_couple ?k__law_couple ?a_law ?l_law ?c_law ?k_law ?aC_BadWord ?xL_BadWord ?ve_BadWord ?sa_BadWord ?ga_BadWord ?gg_BadWord ?ex_BadWord ?ty_BadWord ?kC_BadWord ?hd_BadWord ?no_BadWord_index ?no_BadWord_what ?ai_BadWord ?ti_BadWord ?li_BadWord ?ci_BadWord ?ki_BadWord ?te_BadWord_BadWord ?ic_BadWord ?z_bool ?z_enumerate ?z_int ?z_isinstance ?z_len ?z_list ?z_range ?z_tuple ?z_zip ?w_MOST_SECTIONS K07.law_true
    (case a__law_hand => k_is)
    (case l__law_hand => k_is)
    (case c__law_hand => k_is)
    (case k__law_hand => k_is)
    (case a__law_mixed => k_is)
    (case l__law_mixed => k_is)
    (case c__law_mixed => k_is)
    (case k__law_mixed => k_is)
    (case a__law_take => k_is)
    (case l__law_take => k_is)
    (case c__law_take => k_is)
    (case k__law_take => k_is)
    (case a__law_count => k_is)
    (case l__law_count => k_is)
    (case c__law_count => k_is)
    (case k__law_count => k_is)
    (case a__law_word => k_is)
    (case l__law_word => k_is)
    (case c__law_word => k_is)
    (case k__law_word => k_is)
    (case a__law_built => k_is)
    (case l__law_built => k_is)
    (case c__law_built => k_is)
    (case k__law_built => k_is)
    (case a__check_first => k_is)
    (case l__check_first => k_is)
    (case c__check_first => k_is)
    (case k__check_first => k_is)
    (case a_is_row => k_is)
    (case l_is_row => k_is)
    (case c_is_row => k_is)
    (case k_is_row => k_is)
    (case a_is_whole => k_is)
    (case l_is_whole => k_is)
    (case c_is_whole => k_is)
    (case k_is_whole => k_is)
    (case t_is_whole => k_is)
    (case a__check_sign_row => k_is)
    (case l__check_sign_row => k_is)
    (case c__check_sign_row => k_is)
    (case k__check_sign_row => k_is)
    (case a_check_signs => k_is)
    (case l_check_signs => k_is)
    (case c_check_signs => k_is)
    (case k_check_signs => k_is)
    (case a_product_of => k_is)
    (case l_product_of => k_is)
    (case c_product_of => k_is)
    (case k_product_of => k_is)
    (case a__law_made => k_is)
    (case l__law_made => k_is)
    (case c__law_made => k_is)
    (case k__law_made => k_is)
    (case a__law_signs => k_is)
    (case l__law_signs => k_is)
    (case c__law_signs => k_is)
    (case k__law_signs => k_is)
    (case a__law_poles => k_is)
    (case l__law_poles => k_is)
    (case c__law_poles => k_is)
    (case k__law_poles => k_is)
    (case a__law_is_word => k_is)
    (case l__law_is_word => k_is)
    (case c__law_is_word => k_is)
    (case k__law_is_word => k_is)
    (case a__law_product => k_is)
    (case l__law_product => k_is)
    (case c__law_product => k_is)
    (case k__law_product => k_is)
    (case a_crossings_of => k_is)
    (case l_crossings_of => k_is)
    (case c_crossings_of => k_is)
    (case k_crossings_of => k_is)
    (case a__law_couple => k_is)
    (case l__law_couple => k_is)
    (case c__law_couple => k_is)
    (case k__law_couple => k_is)
    (case a_law => k_is)
    (case l_law => k_is)
    (case c_law => k_is)
    (case k_law => k_is)
    (case aC_BadWord => k_is)
    (case xL_BadWord => k_is)
    (case ve_BadWord => first | rfl | decide +kernel)
    (case sa_BadWord => k_is)
    (case ga_BadWord => k_is)
    (case gg_BadWord => k_is)
    (case ex_BadWord => k_is)
    (case ty_BadWord => k_is)
    (case kC_BadWord => k_is)
    (case hd_BadWord => k_is)
    (case no_BadWord_index => k_is)
    (case no_BadWord_what => k_is)
    (case ai_BadWord => k_is)
    (case ti_BadWord => k_is)
    (case li_BadWord => k_is)
    (case ci_BadWord => k_is)
    (case ki_BadWord => k_is)
    (case te_BadWord_BadWord => first | rfl | k_is)
    (case ic_BadWord => k_is)
    (case z_bool => k_is)
    (case z_enumerate => k_is)
    (case z_int => k_is)
    (case z_isinstance => k_is)
    (case z_len => k_is)
    (case z_list => k_is)
    (case z_range => k_is)
    (case z_tuple => k_is)
    (case z_zip => k_is)
    (case w_MOST_SECTIONS => k_is)
